import PyProof.Rows.All
import Wide.All
import OpenK.AllK
import Wide.FinOn
import Lean
import PyProof.EqAt
import PyProof.EqKinds
import PyProof.NeKinds
import PyProof.TupleCall
import KE.KDictSum
import KE.KSortTup
import KE.KRevIter
import KE.KRevSl
import PySem.Challenge.RW_stakefield_k35_told_sums
open PySem renaming wpAny_bind->EF,Shared->EL,wpAny_pure->EM,Value->EN,Program->EW,Addr->EX,starEach->EZ,boot_len->E8,wpAny->Ff,World->Fl,Around->Fm,model->FE,FuncData->F5,wpAny_holding->F7,compareOp->F_,wpAny_call_entry->Gc,foldedSetIterable->Gf,sizeLine_eq->Gg,intKind_is->Gh,wpAny_Call_Name_kw->Gi,wpAny_updateSeq->Gp,plainId_quiet->Gu,codeAny_builtin->Gz,argBest->GB,wpAny_seqItems->GC,Heap->GD,mainGlobals->GP,mem_of_lookup->GQ,bootBuiltins->GS,wpAny_truthy_bool->GT,wpAny_newObj_type->G9,wpAny_pyIter_list->G_,wpAny_setState_of->Hb,Stmt->Hc,builtinLookup_eq_fast->Hi,wpAny_isInstance->Ho,wpAny_callSpecial?_slot->Hu,wpAny_mono->HJ,wpAny_eqBool_tuple->HN,wpAny_tupleItemsOf->HR,wpAny_tryCatch->HV,eval->HY,wpAny_passesOwn->HZ,cLine->H_,wpAny_ite_split->Ib,backTo->Ie,wpAny_letGo->Ii,codeAny->Ip,wpAny_specialOf->Ir,typeLookup_type->Iu,wpAny_richCompare_same_room->Iw,GenState->ID,attributeBase->IE,swapsWith->IS,pyNext->IT,updateSeq->IV,wpAny_askSetting->IY,ZipApart->IZ,wpAny_field->I_,assignEach->Jb,wpAny_rule->Jc,behindInMarks->Ji,Scope->Js,IsPair->Ju,wpAny_nextOf_list_item->Jv,intKind->JA,sliceBounds->JC,ofAClassStatement->JD,binaryOp->JJ,bindArgs->JL,isSubtype_type->JO,codeAny_mono->JP,isSubtype_tuple_tuple->JS,NameKind->J3,wpAny_attempt->J5,typeIs_int->J7,Keyword->J8,wpAny_setEntries_of->J_,richCompare->Kb,rawInt->Kj,wpAny_pyIter_range->Kk,wpAny_getItem_list_slice->KD,wpAny_comprehension_free->KG,seqItems?->KH,wpAny_pyIter_slot->KI,richCompare_gives->KM,swapsWithSole->K0,swappedStores->K1,wpAny_standAt->K3,IsRangeIter->K5,keywordEach->K7,setSearchFrom->K8,wpAny_newList->K9,wpAny_forIn_list->Ln,wpAny_pyNext_range_end->Lu,wpAny_pyIter_rangeiter->Lv,codeAny_compStart_list->Ly,wpAny_execs_nil->LF,PassesOwn->LG,letOwnedTupleGo->LH,wpAny_typeOf->LQ,wpAny_eqIsQuiet_tuple->LR,wpAny_nextOf_list_end->LX,wpAny_pyNext_zip_item->LY,compEnvC->L_,wpAny_newFunctionEnv->Ma,codeAny_extend_loopS->Mc,wpAny_pyNext_zip_end->Md,wpAny_setField->Mj,isSubtype_stop->Ml,wpAny_newTuple->Mm,hashByValue->Mo,wpAny_of_eq->Mp,assignInOrder->Ms,evalPart_none->Mu,comprehension->Mz,pickOrder->ME,call_function_tree->MF,wpAny_assign_Name->MJ,BindsTo->MP,typeLookup->MR,callerA->MS,searchCouldBeSeen->MT,wpAny_storeSet_of->MU,pyIter->M3,Result->M4,wpAny_pyIter_zip->Nh,backToKw->Nm,holding->Nq,cellsFrom->Nr,relabel->Nw,theTreesLotGoes->Nx,unsupported->Nz,putSet_of->NA,codeAny_of_tree->NB,Fin->NC,wpAny_bindName->NJ,recursionLimit->NU,entryFor_alias->NZ,wpAny_fieldsOf->N0,firstArgMember->N1,callType_codes->N5,sysModules->N6,builtinsNs->N7,wpAny_Name->N8,assign->N9,call_meets->On,closureFor->Oo,setsByText->Oq,isInstance->Os,spliced->Ot,bindName->Ou,Operator->Ov,compPost->Oz,Within->OJ,CmpOp->OM,bindL->O5,bindC->O6,revObj->Pd,call->Pg
open List renaming getElem?_eq_getElem->EG,length_map->EH,mem_cons_of_mem->EJ,mem_cons->EO,mem_map->ER,getElem?_map->ES,mem_cons_self->ET,mem_singleton->EV,getElem?_eq_some_iff->E1,map_cons->E2,size_toArray->E4,mem_of_getElem?->E5,mem_reverse->E9,mem_append_right->E_,getElem?_append_left->Fb,getElem?_append_right->Fd,getD_eq_getElem?_getD->Fe,map_map->Fh,pairwise_cons->Fi,mem_range->Fk,not_mem_nil->Fo,mem_append_left->Fv,getElem?_set_ne->Fw,mem_append->Fx,getElem?_eq_none->Fy,range->Fz,map_append->FC,pairwise_map->FF,pairwise_iff_getElem->FG,length_pos_iff->FH,mem_map_of_mem->FI,length_append->FJ,mem_iff_getElem?->FK,length_cons->FN,length_reverse->FQ,sum_cons->FW,mem_filter->F4,getLast?_eq_getElem?->Ga,length_pos_of_mem->Gb,perm_ext_iff_of_nodup->Gj,getLast?_cons_cons->Gk,dropLast_concat_getLast->Gv,nodup_cons->Gw,getElem?_range->Gx,getElem?_reverse->GA,length_eq_zero_iff->GE,zip_cons_cons->GI,map_congr_left->GR,getElem?_take_of_lt->GU,length_dropLast->G3,mem_of_getLast?->G4,take_length->G5,map_reverse->G7,head?_eq_getElem?->G8,take_succ->He,foldl_cons->Hh,length_filter_le->Hm,getElem?_zipWith_eq_some->Hq,getElem?_replicate->Hs,getElem?_cons_succ->Ht,nodup_append->Hy,ext_getElem?->HA,filterMap_cons->HD,append_nil->HE,length_replicate->HL,getElem?_drop->HM,tail_cons->HW,forIn_cons->Ia,map_nil->Ig,all_eq_true->Ij,getElem?_dropLast->Ik,length_eq_one_iff->Il,getElem?_toArray->Iq,pairwise_reverse->Iz,range_succ->IB,mem_of_head?->IJ,getElem?_inj->IK,forIn_nil->IW,mem_take_iff_getElem->IX,getLast?_eq_getLast->Jh,length_set->Jl,length_nil->Jm,pairwise_singleton->Jr,append_assoc->JE,length_range->JG,reverse_cons->JH,getLast?_map->JI,take_append_drop->JR,getLast?_reverse->JU,getElem_inj->JV,lookup_cons->JX,getElem_mem->JY,filter_cons->JZ,all_cons->J4,getElem_of_mem->J9,filter_sublist->Ke,nodup_iff_pairwise_ne->Kg,perm_append_singleton->Kh,mem_filterMap->Kl,zipWith->Kp,head?_reverse->Kr,take_zero->Ku,head?_map->Kz,exists_mem_of_ne_nil->KA,getElem?_set->KF,Perm->KJ,zip_nil_left->KN,length_erase_of_mem->KO,foldl_append->KU,map_dropLast->KY,filter_cons_of_pos->Lg,filter_cons_of_neg->Lh,length_take->Lj,nodup_range->Lm,perm_middle->Lo,cons_append->Lr,getElem?_set_self->Ls,take_of_length_le->LA,pairwise_lt_range->LB,of_mem_zip->LI,length_singleton->LK,filterMap_append->LN,sum_append->L8,mem_erase_of_ne->Me,mem_iff_getElem->Mf,dropLast_subset->Mg,reverse_reverse->Mh,nodup_nil->Mn,filter_append->MH,take_sublist->MQ,toArray->M6,length_drop->Na,ext_getElem->Nc,mem_flatten->Nj,getLast_mem->Nl,zip->Np,length->Nt,head?_cons->NI,replicate->NV,any_cons->Ow,map_take->OA,map_drop->OB,all_map->OP,Sublist->OX,map_id->O_,sum->Pe
open PySem.W renaming Frag->EI,mg_none_of->FR,kia_one->Gm,keepIn->Hd,fnOf->Hv,kitOne->IU,cellsFrom_some->Jt,findIn->JK,codeIn->JM,methodObj->KB,kitx_list->KC,instObj->LD,lookIn->Mi,kitx_tuple->Mt,specialIn->MM,kitx_dict->MN,plainGet->M_,OpenLaw->Nv,kIn_of->NW,WalkO->Oy,isFn->ON
open PySem.Heap renaming get?_push_of_some->EK,lt_size->EY,get?_push_size->E3,get?_update_other->Fg,get?_update_self->FL,size_push->GM,SameBut->Ja,get?_none_of_le->J0
open Nat renaming le_refl->EU,lt_or_eq_of_le->Fq,ne_of_lt->Ft,lt_of_lt_of_le->Fu,lt_irrefl->FA,le_of_lt->FB,mod_eq_of_lt->FT,zero_le->FU,le_trans->Gs,lt_or_ge->GH,lt_succ_self->GO,lt_succ_of_lt->GV,le_of_lt_succ->GW,mod_lt->Hn,pow_succ->Hw,lt_trichotomy->Hx,ne_of_gt->Io,pow_le_pow_right->IP,lt_of_le_of_lt->Jk,le_of_not_lt->JW,mul_le_mul_right->J2,mod_eq_sub_mod->Km,eq_zero_or_pos->Kn,div_div_eq_div_mul->Lz,lt_trans->LO,mod_add_mod->LP,mod_self->L7,mod_mod_of_dvd->MD,add_sub_cancel->MG,lt_of_succ_lt->MY,add_mod_right->M0,sub_self->M7,le_max_right->Nb,succ_ne_self->Nf,not_lt_of_gt->Ng,succ_le_succ->Nk,le_max_left->Nu,not_lt_zero->Ny,le_of_eq->OO,min_self->OQ,add_zero->OR,zero_mod->OU,gcd_comm->OY,pow_add->O8,add_mod->O9
open Array renaming length_toList->E6,getElem?_toList->FS,getElem?_eq_getElem->Gq,getD_eq_getD_getElem?->Gy,getD->Ha,getElem?_eq_some_iff->HI,forIn_toList->Im,getElem?_replicate->Jf,mem_toList_iff->J1,toList_inj->Lp,toList_map->Lq,toList_zip->Nd,size_map->NY,toList->OK
open Bool renaming false_eq_true->E7,false_ne_true->Fn,and_eq_true->Gn,not_true->GF,eq_iff_iff->Hf,not_false->HU,true_and->IG,beq_eq_decide_eq->JQ,and_false->Kt,or_eq_true->LM,and_eq_true_iff->Mb,and_true->MA,or_false->OD
open Int renaming mul_nonneg->Fc,mul_eq_zero->Fp,mul_pos->FD,mul_nonpos_of_nonneg_of_nonpos->FM,lt_or_le->FO,dvd_trans->FV,dvd_mul_left->F2,eq_of_mul_eq_mul_left->F3,emod_lt_of_pos->GG,lt_or_eq_of_le->GJ,mul_neg_of_neg_of_pos->GN,mul_ediv_cancel_left->GY,pos_of_mul_pos_right->GZ,mul_zero->G6,emod_nonneg->Hg,zero_mul->Hj,nonneg_of_mul_nonneg_right->Hl,mul_le_mul_of_nonneg_left->Hr,toNat_natCast->Hz,dvd_mul_right->HB,gcd->HF,emod_add_mul_ediv->HS,mul_neg_of_pos_of_neg->HX,dvd_add->Iy,one_mul->IA,le_trans->IC,gcd_dvd_right->II,mul_lt_mul_of_pos_left->IM,natAbs_of_nonneg->IQ,mul_ediv_cancel'->IR,gcd_dvd_left->I0,mul_comm->Jg,natAbs_mul->JN,natAbs_dvd_natAbs->JT,dvd_sub->Kc,le_refl->Kd,dvd_refl->Kq,sub_zero->Ks,mul_one->K6,dvd_neg->Ld,dvd_mul_of_dvd_left->Li,ediv_le_self->Ll,le_ediv_iff_mul_le->LC,ediv_nonneg->LL,dvd_coe_gcd->L5,le_total->L6,ediv_one->L9,mul_neg->Mr,zero_dvd->M8,le_of_lt->M9,dvd_antisymm->Ni,mul_assoc->OE,ofNat_dvd->OF,dvd_zero->OT,add_zero->OV,sub_self->OW,lt_trans->OZ,add_mul->Pa
open PySem.Value renaming none->Fj,ref->Fs,int->FX,bool->FZ,str->F6,type->Gd,isInt_shape->Jz,float->O4
open Classical renaming byContradiction->FP
open Option.some renaming inj->FY
open PySem.Obj renaming mapSeq->F1,data_mapFields->HP,putSet->JF,isFreed_of_fields->LW,cls_mapFields->MX
open Prod renaming ext->F8,fst->J6,snd->Le
open PySem.Around renaming under_plainId->F9
open PySem.F renaming plain_extend_loop->Gr,plain_min_loop->GK,plain_max_loop->GL,slot_zip_next->GX,called_set->G0,plainAttrs_list->Jn,args_zip_next_1->Jp,entry_zip_next->Jw,entry_min_loop->Jx,entry_max_loop->Jy,entry_extend_loop->Kx,args_list_init_2->KL,typeCall_list_1->La,entry_list_init->Lb,plain_set_new->LS,slot_set_iter->LV,slot_zip_iter->LZ,slot_tuple_le->L0,slot_tuple_lt->L3,slot_tuple_gt->L4,called_list->Mq
open PyProof.Rows renaming boot_isinstance->Hk,boot_list->HQ,Keyed->Ic,SortKind->IH,listUpdate_at->Jo,seqEpoch_at->Ka,assignInOrder_cons->Ki,seqObj->Ko,tuples'->Kw,AllBare->KZ,subscriptTail_builtinR->Lw,envOfC->LJ,subscriptTail->Mx,assignInOrder_nil->MK,boot_range->ML,boot_tuple->MZ,boot_sum->Nn,list_sort_plain->ND,get?_update_seq->NF,entry_list_sort->NH,slot_list_sort->N2,args_list_sort->N3,sortedHeap_old->N4,Subscript_->Om,IntsAre->Ox,keyKind'->OC,boot_min->OG,boot_max->OH,bubble->OS,IsTup->Pf
open List.Pairwise renaming map->HC,nil->IF,imp_of_mem->Je,sublist->O1
open Option renaming map_some->HG,map_eq_some_iff->HH,getD_some->HK,isSome_iff_exists->Jd,getD_none->Lk,toList_some->MC,map->MW,none->O7
open PySem.Heap.SameBut renaming update->Ih,refl->MV
open List.Sublist renaming refl->IL
open PySem.Calls renaming spliced_cons->Jj,spliced_nil->JB,Name_function_global->Kf,callWith_builtin->Lx
open ToString renaming toString->Jq
open List.Perm renaming refl->Kv,append_left->LU
open Prod.mk renaming injEq->K_
open MonadExcept renaming tryCatch->Lc
open PySem.Heap.IsSliceOf renaming new->Mw
open List.Nodup renaming length_le_of_subset->M5
open List.cons renaming injEq->NG
open PySem.EqNone renaming eq_none_none->NK,eq_none_bool->NL,eq_bool_none->NM,ne_none_none->NP,ne_none_bool->NQ,ne_bool_none->NR,eq_none_int->N_,eq_none_str->Oa,eq_int_none->Ob,eq_str_none->Od,ne_none_int->Of,ne_none_str->Og,ne_int_none->Oh,ne_str_none->Oj
open PySem.EqMixed renaming eq_bool_str->NN,eq_str_bool->NO,ne_bool_str->NS,ne_str_bool->NT,eq_int_str->Oc,eq_str_int->Oe,ne_int_str->Oi,ne_str_int->Ol
open PySem.Value.type renaming inj->NX
open PySem.W.Dflts renaming none->Pb,noKw->Pc
set_option hygiene false
set_option hygiene true
set_option hygiene false
local macro_rules|`(tactic|walk_at"sC")=>`(tactic|exact⟨rfl,rfl,rfl,by decide+kernel,rfl,by decide+kernel,by decide+kernel⟩)
local macro_rules|`(tactic|walk_at"b1")=>`(tactic|exact λ_ _ _ _ _ _ _ h=>My.ar1 h λ_=>rfl)
local macro_rules|`(tactic|walk_at"b2")=>`(tactic|exact λ_ _ _ _ _ _ _ h=>My.ar2 h λ_ _=>rfl)
local macro_rules|`(tactic|walk_at"b3")=>`(tactic|exact λ_ _ _ _ _ _ _ h=>My.ar3 h λ_ _ _=>rfl)
set_option hygiene true
set_option maxHeartbeats 8000000
set_option Elab.async false
set_option linter.all false
set_option maxRecDepth 100000
namespace L2
open PySem PySem.Spec PyProof.Rows
abbrev Key:=Sum Int Str
def AY:Key->EN->Bool
 | .inl k,v=>Value.isInt k v
 | .inr x,v=>Value.isStrOf x v
def Ec(w:Fl):Key->Int
 | .inl k=>hashInt k
 | .inr x=>hashStr w x
theorem bR:∀{k:Key}{v:EN},AY k v=true->(∃i t,k=Sum.inl i/\v=FX i t)\/(∃x t,k=Sum.inr x/\v=F6 x t)
 | .inl i,v,h=>by
  obtain⟨t,e⟩:=Jz (k:=i) (v:=v) h;exact .inl ⟨i,t,rfl,e⟩
 | .inr x,v,h=>by
  obtain⟨t,e⟩:=Value.isStrOf_shape (x:=x) (v:=v) h;exact .inr ⟨x,t,rfl,e⟩
theorem BW(a b:Int):decide ((Sum.inl a:Key)=Sum.inl b)=(a==b):=by
 by_cases e:a=b
 ·subst e;simp
 ·have h:¬ (Sum.inl a:Key)=Sum.inl b:=λq=>e (Sum.inl.inj q)
  rw[decide_eq_false h];exact (beq_eq_false_iff_ne.mpr e).symm
theorem B7(a b:Str):decide ((Sum.inr a:Key)=Sum.inr b)=decide (a=b):=by
 by_cases e:a=b
 ·subst e;simp
 ·have h:¬ (Sum.inr a:Key)=Sum.inr b:=λq=>e (Sum.inr.inj q)
  rw[decide_eq_false h,decide_eq_false e]
theorem B6(a:Int)(b:Str):decide ((Sum.inl a:Key)=Sum.inr b)=false:=decide_eq_false (λq=>nomatch q)
theorem CL(a:Str)(b:Int):decide ((Sum.inr a:Key)=Sum.inl b)=false:=decide_eq_false (λq=>nomatch q)
def sH(prog:EW)(w:Fl):PySem.KeyKind prog w Key where
 is:=AY
 hash:=Ec w
 inj:=λv a b ha hb=>by
  rcases bR ha with ⟨i,t,rfl,rfl⟩ |⟨x,t,rfl,rfl⟩
  ·rcases bR hb with ⟨j,u,rfl,e⟩ |⟨y,u,rfl,e⟩
   ·injection e with e1 _;rw[e1]
   ·exact nomatch e
  ·rcases bR hb with ⟨j,u,rfl,e⟩ |⟨y,u,rfl,e⟩
   ·exact nomatch e
   ·injection e with e1 _;rw[e1]
 byValue:=λk v h=>by
  rcases bR h with ⟨i,t,rfl,rfl⟩ |⟨x,t,rfl,rfl⟩ <;>rfl
 pyHash:=λhv h=>by
  rcases bR hv with ⟨i,t,rfl,rfl⟩ |⟨x,t,rfl,rfl⟩
  ·exact wpAny_pyHash_int h
  ·exact wpAny_pyHash_str h
 eqBool:=λhu hv h=>by
  rcases bR hu with ⟨i,t,rfl,rfl⟩ |⟨x,t,rfl,rfl⟩
  ·rcases bR hv with ⟨j,u,rfl,rfl⟩ |⟨y,u,rfl,rfl⟩
   ·rw[BW]at h;exact wpAny_eqBool_int h
   ·rw[B6]at h;exact SeqAt.EqAt.int_str i t y u _ _ _ _ h
  ·rcases bR hv with ⟨j,u,rfl,rfl⟩ |⟨y,u,rfl,rfl⟩
   ·rw[CL]at h;exact SeqAt.EqAt.str_int x t j u _ _ _ _ h
   ·rw[B7]at h;exact wpAny_eqBool_str h
 «strs»:=λk x t v h=>by
  rcases bR h with ⟨i,u,rfl,e⟩ |⟨y,u,rfl,e⟩
  ·exact nomatch e
  ·injection e with e1 _
   subst e1;cases v <;>rfl
inductive V where
 |non |bl (b:Bool) |int (i:Int) |str (x:Str) |byt (b:Array UInt8) |flt (b:UInt64) |ref (a:EX) |ty (n:String)
 deriving DecidableEq
def bi:V->EN->Prop
 | .non,u=>u=Fj
 | .bl b,u=>u=FZ b
 | .int i,u=>∃t,u=FX i t
 | .str x,u=>∃t,u=F6 x t
 | .byt b,u=>∃t,u=Value.bytes b t
 | .flt b,u=>∃t,u=O4 b t
 | .ref a,u=>u=Fs a
 | .ty n,u=>u=Gd n
abbrev aU:List V->List EN->Prop:=Paired bi
theorem aU.length{xs:List V}{us:List EN}(r:aU xs us):xs.length=us.length:=Paired.length r
theorem aU.get:∀{xs:List V}{us:List EN}{i:Nat}{x:V},aU xs us->xs[i]?=some x->∃u,us[i]?=some u/\bi x u
 |_,_,_,_,.nil,e=>by simp at e
 |_,_,0,_,.cons r _,e=>by simp at e;subst e;exact⟨_,rfl,r⟩
 |_,_,i+1,x,.cons _ t,e=>by
  obtain⟨u,h1,h2⟩:=aU.get (i:=i) (x:=x) t (by simpa using e)
  exact⟨u,by simpa using h1,h2⟩
theorem aU.append:∀{xs ys:List V}{us ws:List EN},aU xs us->aU ys ws->aU (xs++ys) (us++ws)
 |_,_,_,_,.nil,s=>s
 |_,_,_,_,.cons r t,s=>.cons r (aU.append t s)
theorem aU.take:∀{xs:List V}{us:List EN} (n:Nat),aU xs us->aU (xs.take n) (us.take n)
 |_,_,0,_=>.nil
 |_,_,_+1,.nil=>.nil
 |_,_,n+1,.cons r t=>.cons r (aU.take n t)
theorem aU.drop:∀{xs:List V}{us:List EN} (n:Nat),aU xs us->aU (xs.drop n) (us.drop n)
 |_,_,0,r=>r
 |_,_,_+1,.nil=>.nil
 |_,_,n+1,.cons _ t=>aU.drop n t
def BA:Option V->Option EN->Prop
 |some v,some u=>bi v u
 |none,none=>True
 |_,_=>False
def KV{κ:Type}:List (κ×V)->List (κ×EN)->Prop:=Paired λ(p:κ×V) (q:κ×EN)=>p.1=q.1/\bi p.2 q.2
def kV:Key->V
 | .inl i=>.int i
 | .inr x=>.str x
inductive HO where
 /-- a list -/
 |lst (xs:List V)
 /-- a tuple (never changes) -/
 |tup (xs:List V)
 /-- a dict whose keys are ints and texts;one whose keys are tuples of ints and texts (the empty one is both) -/
 |dK (PX:List (Key×V)) |dT (PX:List (List Key×V))
 /-- a set of ints:Pj members,Pj size -/
 |set (S:Int->Bool) (n:Nat)
 /-- an instance of the class at C,Pj dict at dx,Pj attributes -/
 |ins (C dx:EX) (fs:List (Str×V))
 /-- the dict of the instance at x -/
 |own (x:EX)
 /-- the dict of an exception -/
 |xd (fs:List (Str×V))
 /-- a bound method,f of x -/
 |met (f x:EX)
 /-- a range object lo,lo+1,.. below hi -/
 |rng (lo hi:Int)
 /-- a thing that is known to the object (the script;a dict while a loop walks it):read,never written while it is so -/
 |frz (o:Obj) (u:HO)
 /-- a code object's table -/
 |tbl (ps:Array EN)
 /-- any other thing,by what is true of Pj one object (a def of one's own:SetO a S n:=HO.ext λh=>..) -/
 |ext (φ:GD->Prop)
abbrev Hp:=EX->Option HO
def upd(H:Hp)(a:EX)(o:HO):Hp:=λb=>if b=a then some o else H b
theorem aL{H:Hp}{a:EX}{o:HO}:upd H a o a=some o:=by unfold upd;rw[if_pos rfl]
theorem aT{H:Hp}{a b:EX}{o:HO}(h:b≠a):upd H a o b=H b:=by unfold upd;rw[if_neg h]
theorem cL{H:Hp}{a b:EX}{o:HO}(h:H a=some o)(h':H b=none):a≠b:=by
 intro e;subst e;rw[h]at h';cases h'
section
variable (P:EW) (w:Fl)
def cw(H:Hp)(h:GD)(a:EX):HO->Prop
 | .lst xs=>xs.length≤sizeLine∧∃(Pj:List EN) (n:Nat),aU xs Pj∧h.get? a=some {cls:=.type "list",data:=.seq Pj.toArray n }
 | .tup xs=>xs.length<=sizeLine/\∃Pj:List EN,aU xs Pj/\Pf h a Pj.toArray
 | .dK PX=>PX.length<=sizeLine/\(a==N6)=false/\∃vs,KV PX vs/\h.DictOf (sH P w) a vs
 | .dT PX=>PX.length<=sizeLine/\(a==N6)=false/\∃xs:List (List Key×EX×EN),
   Paired (λ(p:List Key×V) (q:List Key×EX×EN)=>p.1=q.1/\H q.2.1=some (.tup (p.1.map kV))/\bi p.2 q.2.2) PX xs/\
   ∃o es ep,h.get? a=some o/\o.ExactDict/\o.data=.dict es ep/\es.toList=xs.map (entryOfKey (tupleKind (sH P w)))/\(xs.map (·.1)).Nodup
 | .set S n=>h.SetOf (JA P w) a S n
 | .ins C dx fs=>H dx=some (.own a)/\fs.length<=1000/\dx≠a/\h.get? a=some (LD C dx)/\
   ∃mA,h.Ns1 dx mA/\(∀f,BA (fs.lookup f) (mA f))/\OJ mA (fs.map (·.1))
 | .own _=>∃o,h.get? a=some o
 | .xd fs=>∃mA,h.Ns1 a mA/\∀f,BA (fs.lookup f) (mA f)
 | .rng lo hi=>∃t u v,h.get? a=some {cls:=.type "range",data:=.fields #[.int lo t,.int hi u,.int 1 v] }
 | .frz o u=>h.get? a=some o/\cw H h a u
 | .tbl ps=>h.get? a=some {cls:=.none,data:=.fields ps }
 | .met f x=>h.get? a=some (KB (.ref f) (.ref x))
 | .ext φ=>φ h/\(∃o,h.get? a=some o)/\∀h1 h2:GD,φ h1->(∀o,h1.get? a=some o->h2.get? a=some o)->φ h2
def HOk(H:Hp)(h:GD):Prop:=∀a o,H a=some o->cw P w H h a o
end
variable {H:Hp}{H':Hp}{h':GD}
section
variable {P:EW}{w:Fl}{h:GD}{a:EX}{o:HO}
theorem cw.lt(x:cw P w H h a o):a<h.objs.size:=by
 cases o with
 |lst xs=>obtain⟨_,_,_,_,e⟩:=x;exact EY e
 |tup xs=>obtain⟨_,_,_,p⟩:=x;exact p.lt
 |dK PX=>obtain⟨_,_,_,_,o,_,_,e,_⟩:=x;exact EY e
 |dT PX=>obtain⟨_,_,_,_,o,_,_,e,_⟩:=x;exact EY e
 |set S n=>obtain⟨o,_,_,_,e,_⟩:=x;exact EY e
 |ins C dx fs=>obtain⟨_,_,_,e,_⟩:=x;exact EY e
 |own y=>obtain⟨_,e⟩:=x;exact EY e
 |xd fs=>obtain⟨_,⟨_,_,_,e,_⟩,_⟩:=x;exact EY e
 |rng lo hi=>obtain⟨_,_,_,e⟩:=x;exact EY e
 |frz ob u=>obtain⟨e,_⟩:=x;exact EY e
 |tbl ps=>exact EY (show h.get? a=some _ from x)
 |met f y=>exact EY (show h.get? a=some _ from x)
 |ext φ=>obtain⟨_,⟨_,e⟩,_⟩:=x;exact EY e
theorem Paired.mapP{α β:Type}{F G:α->β->Prop}:∀{l₁:List α}{l₂:List β},Paired F l₁ l₂->(∀a b,F a b->G a b)->Paired G l₁ l₂
 |_,_,.nil,_=>.nil
 |_,_,.cons r t,f=>.cons (f _ _ r) (Paired.mapP t f)
theorem cw.stay(x:cw P w H h a o)(k:∀b u,(b=a\/H b=some (.own a))->h.get? b=some u->h'.get? b=some u)
  (ho:∀b,H b=some (.own a)->H' b=some (.own a)) (ht:∀b xs,H b=some (.tup xs)->H' b=some (.tup xs)):cw P w H' h' a o:=by
 induction o with
 |lst xs=>obtain⟨z,Pj,n,r,e⟩:=x;exact⟨z,Pj,n,r,k _ _ (.inl rfl) e⟩
 |tup xs=>obtain⟨z,Pj,r,ob,e,c⟩:=x;exact⟨z,Pj,r,ob,k _ _ (.inl rfl) e,c⟩
 |dK PX=>obtain⟨z,y,vs,r,ob,es,ep,e,c⟩:=x;exact⟨z,y,vs,r,ob,es,ep,k _ _ (.inl rfl) e,c⟩
 |dT PX=>
  obtain⟨z,y,xs,r,ob,es,ep,e,c⟩:=x;exact⟨z,y,xs,Paired.mapP r λp q z=>⟨z.1,ht _ _ z.2.1,z.2.2⟩,ob,es,ep,k _ _ (.inl rfl) e,c⟩
 |set S n=>obtain⟨ob,es,ep,t,e,c⟩:=x;exact⟨ob,es,ep,t,k _ _ (.inl rfl) e,c⟩
 |ins C dx fs=>
  obtain⟨d,z,ne,e,mA,⟨od,es,ep,e2,c⟩,r⟩:=x;exact⟨ho _ d,z,ne,k _ _ (.inl rfl) e,mA,⟨od,es,ep,k _ _ (.inr d) e2,c⟩,r⟩
 |own y=>obtain⟨ob,e⟩:=x;exact⟨ob,k _ _ (.inl rfl) e⟩
 |xd fs=>obtain⟨mA,⟨od,es,ep,e,c⟩,r⟩:=x;exact⟨mA,⟨od,es,ep,k _ _ (.inl rfl) e,c⟩,r⟩
 |rng lo hi=>obtain⟨t,u,v,e⟩:=x;exact⟨t,u,v,k _ _ (.inl rfl) e⟩
 |frz ob u ih=>obtain⟨e,q⟩:=x;exact⟨k _ _ (.inl rfl) e,ih q⟩
 |tbl ps=>
  have e:h.get? a=some {cls:=.none,data:=.fields ps }:=x;show h'.get? a=some {cls:=.none,data:=.fields ps };exact k a _ (.inl rfl) e
 |met f y=>
  have e:h.get? a=some (KB (.ref f) (.ref y)):=x;show h'.get? a=some (KB (.ref f) (.ref y));exact k a _ (.inl rfl) e
 |ext φ=>obtain⟨p,⟨o,e⟩,st⟩:=x;exact⟨st _ _ p λo q=>k _ _ (.inl rfl) q,⟨o,k _ _ (.inl rfl) e⟩,st⟩
theorem HOk.lt(x:HOk P w H h)(e:H a=some o):a<h.objs.size:=(x a o e).lt
theorem HOk.fresh(x:HOk P w H h)(e:h.objs.size<=a):H a=none:=by
 cases q:H a with
 |none=>rfl
 |some u=>exact absurd (Fu (x.lt q) e) (FA _)
theorem HOk.kept(x:HOk P w H h)(k:∀b u,h.get? b=some u->h'.get? b=some u):HOk P w H h':=λa o e=>
 (x a o e).stay (λb u _ q=>k b u q) (λ_ q=>q) λ_ _ q=>q
theorem HOk.laid(x:HOk P w H h)(k:∀b u,h.get? b=some u->h'.get? b=some u)(hp:h.objs.size<=a)(new:cw P w (upd H a o) h' a o):HOk P w (upd H a o) h':=λb u e=>by
 have hn:=x.fresh hp;by_cases hb:b=a
 ·subst hb;rw[aL]at e;cases e;exact new
 ·rw[aT hb]at e;exact (x b u e).stay (λc v _ q=>k c v q) (λc q=>by rw[aT (cL q hn)];exact q) λc xs q=>by rw[aT (cL q hn)];exact q
end
def Rd(H:Hp)(a:EX)(u:HO):Prop:=H a=some u\/∃o,H a=some (.frz o u)
theorem Rd.ok{P:EW}{w:Fl}{H:Hp}{h:GD}{a:EX}{u:HO}(r:Rd H a u)(x:HOk P w H h):cw P w H h a u:=by
 rcases r with r |⟨o,r⟩
 ·exact x a u r
 ·obtain⟨_,q⟩:=x a _ r;exact q
def Mut:Option HO->Prop
 |some (.lst _)=>True
 |some (.dK _)=>True
 |some (.dT _)=>True
 |some (.set _ _)=>True
 |some (.ins _ _ _)=>True
 |some (.ext _)=>True
 |_=>False
section
variable {P:EW}{w:Fl}{h:GD}{x e:EX}{o':HO}
theorem HOk.write(ok:HOk P w H h)(mu:Mut (H x))(he:e=x\/H e=some (.own x))(k:∀b u,b≠e->h.get? b=some u->h'.get? b=some u)(heo:∃u,h'.get? e=some u)
  (new:cw P w (upd H x o') h' x o'):HOk P w (upd H x o') h':=λb u q=>by
 have nown:∀c y,H c=some (.own y)->c≠x:=λc y r z=>by subst z;rw[r]at mu;exact mu
 have ntup:∀c xs,H c=some (.tup xs)->c≠x:=λc xs r z=>by subst z;rw[r]at mu;exact mu
 by_cases hb:b=x
 ·subst hb;rw[aL]at q;cases q;exact new
 ·rw[aT hb]at q;by_cases hbe:b=e
  ·have q':H b=some (.own x):=by
    rcases he with z |z
    ·exact absurd (hbe.trans z) hb
    ·rw[hbe];exact z
   rw[q]at q';cases q';obtain⟨v,hv⟩:=heo;exact⟨v,by rw[hbe];exact hv⟩
  ·refine (ok b u q).stay (λc v hc r=>k c v ?_ r) (λc r=>by rw[aT (nown c b r)];exact r) λc xs r=>by rw[aT (ntup c xs r)];exact r
   rcases hc with rfl |hc
   ·exact hbe
   ·rintro rfl;rcases he with z |z
    ·exact nown c b hc z
    ·rw[hc]at z;cases z;exact hb rfl
end
structure Un(fs ex:List EX)(H H':Hp)(h h':GD):Prop where
 keep:∀b o,h.get? b=some o->H b=none->b ∉ fs->b ∉ ex->h'.get? b=some o
 slot:∀b o,h.get? b=some o->H b=none->b∈fs->b ∉ ex->∃sl,h'.get? b=some {o with slots:=sl }
 free:∀b o,h.get? b=some o->H b=none->b ∉ ex->H' b=none
 there:∀b o,h.get? b=some o->b ∉ ex->∃o',h'.get? b=some o'
 tups:∀b xs,H b=some (.tup xs)->H' b=some (.tup xs)
 frzs:∀b o u,H b=some (.frz o u)->H' b=some (.frz o u)
 tbls:∀b ps,H b=some (.tbl ps)->∃more,H' b=some (.tbl (ps++more))
section
variable {fs fs' ex ex':List EX}{H1 H2:Hp}{h h1 h2:GD}{a x e:EX}{o:HO}
theorem Un.any(u:Un fs ex H H1 h h1){b:EX}{ob:Obj}(q:h.get? b=some ob)(n:H b=none)(hx:b ∉ ex):∃sl,h1.get? b=some {ob with slots:=sl }:=by
 by_cases hb:b∈fs
 ·exact u.slot b ob q n hb hx
 ·exact⟨ob.slots,u.keep b ob q n hb hx⟩
theorem Un.kept(k:∀b u,h.get? b=some u->h'.get? b=some u):Un fs ex H H h h':=
 ⟨λb ob q _ _ _=>k b ob q,λb ob q _ _ _=>⟨ob.slots,k b ob q⟩,λ_ _ _ n _=>n,λb ob q _=>⟨ob,k b ob q⟩,λ_ _ q=>q,λ_ _ _ q=>q,λ_ ps q=>⟨#[],by rw[q];simp⟩⟩
theorem Un.refl:Un fs ex H H h h:=Un.kept λ_ _ q=>q
theorem Un.laid(k:∀b u,h.get? b=some u->h'.get? b=some u)(hp:h.objs.size<=a)(hn:H a=none):Un fs ex H (upd H a o) h h' where
 keep:=λb u q _ _ _=>k b u q
 slot:=λb u q _ _ _=>⟨u.slots,k b u q⟩
 free:=λb u q n _=>by rw[aT (Ft (Fu (EY q) hp))];exact n
 there:=λb u q _=>⟨u,k b u q⟩
 tups:=λb xs q=>by rw[aT (cL q hn)];exact q
 frzs:=λb u xs q=>by rw[aT (cL q hn)];exact q
 tbls:=λb ps q=>⟨#[],by rw[aT (cL q hn),q];simp⟩
theorem Un.write(mu:Mut (H x))(he:e=x\/H e=some (.own x))(k:∀b u,b≠e->h.get? b=some u->h'.get? b=some u)(heo:∃u,h'.get? e=some u):Un fs ex H (upd H x o) h h':=by
 have hx:∀b,H b=none->b≠x:=λb n z=>by subst z;rw[n]at mu;exact mu
 have hb:∀b,H b=none->b≠e:=λb n z=>by
  subst z;rcases he with r |r
  ·exact hx b n r
  ·rw[n]at r;cases r
 have hm:∀b u,H b=some u->¬ Mut (some u)->b≠x:=λb u q nm z=>by subst z;rw[q]at mu;exact nm mu
 refine⟨λb u q n _ _=>k b u (hb b n) q,λb u q n _ _=>⟨u.slots,k b u (hb b n) q⟩,λb u q n _=>by rw[aT (hx b n)];exact n,λb u q _=>?_,
  λb xs q=>by rw[aT (hm b _ q λz=>z)];exact q,λb u xs q=>by rw[aT (hm b _ q λz=>z)];exact q,λb ps q=>⟨#[],by rw[aT (hm b _ q λz=>z),q];simp⟩⟩
 by_cases hbe:b=e
 ·subst hbe;exact heo
 ·exact⟨u,k b u hbe q⟩
end
def trk(h:GD)(H:Hp):List EX:=(Fz h.objs.size).filter λa=>(H a).isSome
def n6(h:GD)(H:Hp):GD:=PySem.W.hideAll h (trk h H)
theorem uw(h:GD)(H:Hp):(n6 h H).objs.size=h.objs.size:=PySem.W.hideAll_size _ _
theorem v0{h:GD}{H:Hp}{b:EX}{o:Obj}(e:h.get? b=some o)(n:H b=none):(n6 h H).get? b=some o:=
 PySem.W.hideAll_get _ e λhm=>by
  have q:(H b).isSome=true:=(F4.mp hm).2;rw[n]at q;simp at q
theorem AG{h:GD}{H:Hp}{b:EX}{o:Obj}(e:(n6 h H).get? b=some o):h.get? b=some o/\H b=none:=by
 have e':h.get? b=some o:=PySem.W.of_hideAll (trk h H) e;refine⟨e',?_⟩;cases q:H b with
 |none=>rfl
 |some x=>
  have hm:b∈trk h H:=F4.mpr ⟨Fk.mpr (EY e'),by simp[q]⟩
  have z:(n6 h H).get? b=none:=PySem.W.hideAll_none (trk h H) hm;rw[z]at e;cases e
def zr(g h:GD)(L:EX):List (EX×Obj):=(Fz h.objs.size).filterMap λa=>if a=L\/(g.get? a).isSome=true then none else (h.get? a).map λo=>(a,o)
def rest(g h:GD)(L d:EX):List (EX×Obj):=(zr g h L).filter λp=>decide (p.1≠d)
structure Mod(K:EI)(mg:Str->Option EN)(base:GD):Prop where
 kin:K.In base
 glob:base.Ns GP mg
 blt:∃mb,base.Ns N7 mb∧∀x:Str,x≠"__name__"→mb x=GS x
 nolimit:base.NoLimit
structure Cx where
 prog:EW
 w:Fl
 K:EI
 mg:Str->Option EN
 base:GD
 A:Fm
 N:List Str
 s₀:EL
 H₀:Hp
 env:Env
 outer:List Env
 stack:List Env
 ex:List EX
 fn:Str->Bool
 calm:Bool
 pn:List (EX×Obj)
 xe:EN->EL->Prop
def frs(l:List Env):List EX:=l.filterMap (·.frame)
abbrev Cx.fs(X:Cx):List EX:=frs X.outer
def Vis(sc:Js)(x:Str):Prop:=sc.names.lookup x=some .local\/sc.names.lookup x=some .cell\/sc.names.lookup x=some .free
def Loc(sc:Js)(x:Str):Prop:=sc.names.lookup x=some .local\/sc.names.lookup x=some .cell
def D9(env:Env)(h:GD)(m:Str->Option EN)(x:Str)(u:EN):Prop:=
 (env.kindOf x=some .local/\m x=some u)\/((env.kindOf x=some .cell\/env.kindOf x=some .free)/\∃c,env.cells.lookup x=some c/\h.IsCell c (some u))
structure Cx.Ok(X:Cx):Prop where
 mod:Mod X.K X.mg X.base
 kind:X.env.scope.kind=.function
 glob:X.env.globals=GP
 blt:X.env.builtins=N7
 above:X.s₀.heap.objs.size<=X.env.locals
 inj:∀x y c,X.env.cells.lookup x=some c->X.env.cells.lookup y=some c->x=y
 has:∀x,(X.env.kindOf x=some .cell\/X.env.kindOf x=some .free)->∃c,X.env.cells.lookup x=some c
 cab:∀x c,X.fn x=true->X.env.cells.lookup x=some c->X.s₀.heap.objs.size<=c
 hd:X.calm=true->X.A.handled=none
 frames:X.A.frames=some X.stack
 stk:X.stack=X.outer\/(X.stack=X.env::X.outer/\X.env.frame=some X.env.locals)
 exf:∀b∈X.ex,b≠X.env.locals/\∀x c,X.env.cells.lookup x=some c->c≠b
 bs:∀b o,X.base.get? b=some o->X.s₀.heap.get? b=some o/\X.H₀ b=none
 bsz:X.base.objs.size<=X.s₀.heap.objs.size
 noex:∀b o,X.base.get? b=some o->b ∉ X.ex
 exfs:∀b∈X.ex,b ∉ X.fs
 funs:X.s₀.heap.FunFrames X.base X.outer
 frf:∀b∈X.fs,X.H₀ b=none
structure Inv(X:Cx)(pins:List (EX×Obj))(σ:List (Option V))(H:Hp)(s:EL):Prop where
 ok:X.Ok
 os:s.os=X.s₀.os
 bare:KZ s.gens
 base:Un X.fs X.ex X.H₀ H X.s₀.heap s.heap
 loc:∃m,s.heap.Ns X.env.locals m/\∀(i:Nat) (x:Str) (v:V),X.N[i]?=some x->σ[i]?=some (some v)->Vis X.env.scope x->∃u,bi v u/\D9 X.env s.heap m x u
 cell:∀x c,X.env.cells.lookup x=some c->∃v,s.heap.IsCell c v
 free:H X.env.locals=none
 freeC:∀x c,X.env.cells.lookup x=some c->H c=none
 pin:∀p∈X.pn++pins,s.heap.get? p.1=some p.2/\H p.1=none/\p.1≠X.env.locals/\p.1 ∉ X.fs/\∀v,p.2.data≠.cell v
 hok:HOk X.prog X.w H s.heap
 len:σ.length=X.N.length
variable {pins:List (EX×Obj)}{s:EL}
section
variable {X:Cx}{σ:List (Option V)}
theorem Cx.Ok.nofr(ok:X.Ok){b:EX}{o:Obj}(e:X.base.get? b=some o):b ∉ X.fs:=λhb=>by
 have:=(ok.funs.mem hb).1;rw[e]at this;cases this
theorem Inv.bs(I:Inv X pins σ H s):∀b o,X.base.get? b=some o->s.heap.get? b=some o/\H b=none:=λb o e=>
 ⟨I.base.keep b o (I.ok.bs b o e).1 (I.ok.bs b o e).2 (I.ok.nofr e) (I.ok.noex b o e),I.base.free b o (I.ok.bs b o e).1 (I.ok.bs b o e).2 (I.ok.noex b o e)⟩
theorem Inv.bk(I:Inv X pins σ H s):∀b o,X.base.get? b=some o->s.heap.get? b=some o:=λb o e=>(I.bs b o e).1
theorem Inv.mod(I:Inv X pins σ H s):Mod X.K X.mg X.base:=I.ok.mod
theorem Inv.kIn(I:Inv X pins σ H s):X.K.In s.heap:=I.ok.mod.kin.keeps I.bk
theorem Inv.lt(I:Inv X pins σ H s):X.env.locals<s.heap.objs.size:=let ⟨_,hn,_⟩:=I.loc;hn.lt
theorem Inv.sz(I:Inv X pins σ H s):X.s₀.heap.objs.size<=s.heap.objs.size:=Gs I.ok.above (FB I.lt)
theorem Inv.nofs(I:Inv X pins σ H s){a:EX}(h:s.heap.objs.size<=a):a ∉ X.fs:=λhb=>by
 obtain⟨_,o,ho,_⟩:=I.ok.funs.mem hb;exact absurd (Fu (EY ho) (Gs I.sz h)) (FA _)
theorem Inv.cne(I:Inv X pins σ H s):∀x c,X.env.cells.lookup x=some c->c≠X.env.locals:=λx c e z=>by
 obtain⟨v,o,ho,hd⟩:=I.cell x c e;obtain⟨m,⟨o',es,ep,Qu,QF,_⟩,_⟩:=I.loc;rw[z,Qu]at ho;cases ho;rw[QF]at hd;cases hd
theorem Inv.funs(I:Inv X pins σ H s):s.heap.FunFrames X.base X.outer:=by
 have all:∀(l:List Env),(∀b∈frs l,b∈X.fs)->X.s₀.heap.FunFrames X.base l->s.heap.FunFrames X.base l:=by
  intro l
  induction l with
  |nil=>intro _ _;trivial
  |cons env r ih=>
   intro hs hl;obtain⟨hk,⟨L,o,hf,hn,ho,hd⟩,hr⟩:=hl;have hL:L∈X.fs:=hs L (by unfold frs;rw[HD,hf];exact ET)
   obtain⟨sl,e⟩:=I.base.slot L o ho (I.ok.frf L hL) hL λz=>I.ok.exfs L z hL
   exact⟨hk,⟨L,_,hf,hn,e,hd⟩,ih (λb hb=>hs b (by unfold frs;rw[HD,hf];exact EJ _ hb)) hr⟩
 exact all X.outer (λ_ hb=>hb) I.ok.funs
theorem Inv.stack(I:Inv X pins σ H s):s.heap.FunFrames X.base X.stack:=by
 rcases I.ok.stk with e |⟨e,hf⟩
 ·rw[e];exact I.funs
 ·rw[e];obtain⟨m,hn,_⟩:=I.loc;refine .cons (by rw[I.ok.kind];decide) hf hn ?_ I.funs
  exact J0 (Gs I.ok.bsz I.ok.above)
theorem Inv.stkSub(I:Inv X pins σ H s):∀b∈frs X.stack,b∈X.env.locals::X.fs:=λb hb=>by
 rcases I.ok.stk with e |⟨e,hf⟩
 ·rw[e]at hb;exact EJ _ hb
 ·rw[e]at hb;unfold frs at hb;rw[HD,hf]at hb;exact hb
theorem Inv.stkFree(I:Inv X pins σ H s):∀b∈frs X.stack,H b=none:=λb hb=>by
 rcases EO.mp (I.stkSub b hb) with e |hb
 ·rw[e];exact I.free
 ·obtain⟨_,o,ho,_⟩:=I.ok.funs.mem hb;exact I.base.free b o ho (I.ok.frf b hb) λz=>I.ok.exfs b z hb
theorem Inv.step{g':Array ID}{t':Nat}{d':Drawn}{ch:List EX}(I:Inv X pins σ H s)
  (RH:∀b∈ch,(b∈X.ex\/X.s₀.heap.objs.size<=b)/\b≠X.env.locals/\(∀x c,X.env.cells.lookup x=some c->c≠b)/\∀p∈X.pn++pins,p.1≠b)
  (keep:∀b o,b≠X.env.locals->b ∉ X.fs->b ∉ ch->s.heap.get? b=some o->H b=none->h'.get? b=some o)
  (slot:∀b o,b≠X.env.locals->b∈X.fs->b ∉ ch->s.heap.get? b=some o->H b=none->∃sl,h'.get? b=some {o with slots:=sl }) (free:∀b o,b ∉ ch->s.heap.get? b=some o->H b=none->H' b=none)
  (there:∀b o,b ∉ ch->s.heap.get? b=some o->∃o',h'.get? b=some o')
  (tups:∀b xs,H b=some (.tup xs)->H' b=some (.tup xs)) (frzs:∀b o u,H b=some (.frz o u)->H' b=some (.frz o u)) (tbls:∀b ps,H b=some (.tbl ps)->∃more,H' b=some (.tbl (ps++more)))
  (ns:∀m,s.heap.Ns X.env.locals m->h'.Ns X.env.locals m) (hok:HOk X.prog X.w H' h') (hg:KZ g'):
  Inv X pins σ H' {s with heap:=h',gens:=g',drawn:=d',toks:=t' }:=by
 have neL:∀b o,X.s₀.heap.get? b=some o->b≠X.env.locals:=λb o e=>Ft (Fu (EY e) I.ok.above)
 have neC:∀b o,X.s₀.heap.get? b=some o->b ∉ X.ex->b ∉ ch:=λb o e hx hb=>by
  rcases (RH b hb).1 with z |z
  ·exact hx z
  ·exact absurd (Fu (EY e) z) (FA _)
 have R8:∀x c,X.env.cells.lookup x=some c->∀v,s.heap.IsCell c v->h'.IsCell c v:=λx c e v ⟨o,ho,hd⟩=>by
  have nch:c ∉ ch:=λz=>(RH c z).2.2.1 x c e rfl
  by_cases hc:c∈X.fs
  ·obtain⟨sl,q⟩:=slot c o (I.cne x c e) hc nch ho (I.freeC x c e);exact⟨_,q,hd⟩
  ·exact⟨o,keep c o (I.cne x c e) hc nch ho (I.freeC x c e),hd⟩
 refine⟨I.ok,I.os,hg,⟨λb o e n hb hx=>?_,λb o e n hb hx=>?_,λb o e n hx=>?_,λb o e hx=>?_,λb xs e=>tups b xs (I.base.tups b xs e),λb o xs e=>frzs b o xs (I.base.frzs b o xs e),λb ps e=>?_⟩,?_,λx c e=>?_,?_,λx c e=>?_,λp hp=>?_,hok,I.len⟩
 ·exact keep b o (neL b o e) hb (neC b o e hx) (I.base.keep b o e n hb hx) (I.base.free b o e n hx)
 ·obtain⟨sl,e1⟩:=I.base.slot b o e n hb hx;obtain⟨sl',e2⟩:=slot b _ (neL b o e) hb (neC b o e hx) e1 (I.base.free b o e n hx);exact⟨sl',e2⟩
 ·obtain⟨o',e1⟩:=I.base.there b o e hx;exact free b o' (neC b o e hx) e1 (I.base.free b o e n hx)
 ·obtain⟨o',e1⟩:=I.base.there b o e hx;exact there b o' (neC b o e hx) e1
 ·obtain⟨m1,e1⟩:=I.base.tbls b ps e;obtain⟨m2,e2⟩:=tbls b _ e1;exact⟨m1++m2,by rw[e2,Array.append_assoc]⟩
 ·obtain⟨m,hn,hl⟩:=I.loc;refine⟨m,ns m hn,λi x v e1 e2 e3=>?_⟩
  obtain⟨u,r,l⟩:=hl i x v e1 e2 e3;refine⟨u,r,?_⟩;rcases l with l |⟨k,c,e,z⟩
  ·exact .inl l
  ·exact .inr ⟨k,c,e,R8 x c e _ z⟩
 ·obtain⟨v,z⟩:=I.cell x c e;exact⟨v,R8 x c e v z⟩
 ·obtain⟨m,⟨o,_,_,ho,_⟩,_⟩:=I.loc;exact free _ o (λz=>(RH _ z).2.1 rfl) ho I.free
 ·obtain⟨v,o,ho,hd⟩:=I.cell x c e;exact free c o (λz=>(RH c z).2.2.1 x c e rfl) ho (I.freeC x c e)
 ·obtain⟨e,n,ne,nf,d⟩:=I.pin p hp;have nch:p.1 ∉ ch:=λz=>(RH p.1 z).2.2.2 p hp rfl
  exact⟨keep p.1 p.2 ne nf nch e n,free p.1 p.2 nch e n,ne,nf,d⟩
theorem Inv.un{t':Nat}(I:Inv X pins σ H s)(u:Un X.fs [] H H' s.heap h')(hok:HOk X.prog X.w H' h'):Inv X pins σ H' {s with heap:=h',toks:=t' }:=by
 obtain⟨m,⟨o,es,ep,ho,r⟩,_⟩:=id I.loc;obtain⟨sl,hL⟩:=u.any ho I.free (by simp)
 exact I.step (g':=s.gens) (d':=s.drawn) (ch:=[]) (λ_ z=>nomatch z) (λb o _ hb _ e n=>u.keep b o e n hb (by simp)) (λb o _ hb _ e n=>u.slot b o e n hb (by simp)) (λb o _ e n=>u.free b o e n (by simp)) (λb o _ e=>u.there b o e (by simp)) u.tups u.frzs u.tbls (λm' hm=>by
  obtain⟨o',es',ep',Qu,r'⟩:=hm;rw[ho]at Qu;cases Qu;exact⟨_,es',ep',hL,r'⟩) hok I.bare
theorem Inv.call{g':Array ID}{t':Nat}{d':Drawn}{ch:List EX}(I:Inv X pins σ H s)(u:Un (frs X.stack) ch H H' s.heap h')(hok:HOk X.prog X.w H' h')(hg:KZ g')
  (RH:∀b∈ch,(b∈X.ex\/X.s₀.heap.objs.size<=b)/\b≠X.env.locals/\(∀x c,X.env.cells.lookup x=some c->c≠b)/\∀p∈X.pn++pins,p.1≠b):
  Inv X pins σ H' {s with heap:=h',gens:=g',drawn:=d',toks:=t' }:=by
 obtain⟨m,⟨o,es,ep,ho,r⟩,_⟩:=id I.loc;obtain⟨sl,hL⟩:=u.any ho I.free λz=>(RH _ z).2.1 rfl
 exact I.step (ch:=ch) RH (λb o hL hb hc e n=>u.keep b o e n (λz=>(EO.mp (I.stkSub b z)).elim hL hb) hc) (λb o _ _ hc e n=>u.any e n hc) (λb o hc e n=>u.free b o e n hc) (λb o hc e=>u.there b o e hc) u.tups u.frzs u.tbls (λm' hm=>by
  obtain⟨o',es',ep',Qu,r'⟩:=hm;rw[ho]at Qu;cases Qu;exact⟨_,es',ep',hL,r'⟩) hok hg
theorem Inv.turned{t':Nat}{it:EX}(I:Inv X pins σ H s)(k:∀b o,b≠it->s.heap.get? b=some o->h'.get? b=some o)(hn:H it=none)(hL:it≠X.env.locals)
  (h1:it∈X.ex\/X.s₀.heap.objs.size<=it) (h2:∀x c,X.env.cells.lookup x=some c->c≠it) (h3:∀p∈X.pn++pins,p.1≠it):Inv X pins σ H {s with heap:=h',toks:=t' }:=by
 have nit:∀b u,H b=some u->b≠it:=λb u e z=>by rw[z,hn]at e;cases e
 refine I.step (g':=s.gens) (d':=s.drawn) (ch:=[it]) (λb hb=>?_) (λb o _ _ hc e _=>k b o (λz=>hc (by simp[z])) e) (λb o _ _ hc e _=>⟨o.slots,k b o (λz=>hc (by simp[z])) e⟩) (λ_ _ _ _ n=>n)
  (λb o hc e=>⟨o,k b o (λz=>hc (by simp[z])) e⟩) (λ_ _ e=>e) (λ_ _ _ e=>e) (λb ps e=>⟨#[],by rw[e];simp⟩) (λm hm=>?_) (λb u e=>?_) I.bare
 ·have e:b=it:=by simpa using hb
  subst e;exact⟨h1,hL,h2,h3⟩
 ·obtain⟨o,es,ep,ho,r⟩:=hm;exact⟨o,es,ep,k _ o (Ne.symm hL) ho,r⟩
 ·refine (I.hok b u e).stay (λc v hc q=>k c v ?_ q) (λ_ q=>q) λ_ _ q=>q
  rcases hc with z |z
  ·rw[z];exact nit b u e
  ·exact nit c _ z
theorem Inv.tok(I:Inv X pins σ H s)(t:Nat):Inv X pins σ H {s with toks:=t }:=I.un (h':=s.heap) (t':=t) Un.refl I.hok
theorem Inv.kept{t':Nat}(I:Inv X pins σ H s)(k:∀b u,s.heap.get? b=some u->h'.get? b=some u):Inv X pins σ H {s with heap:=h',toks:=t' }:=I.un (Un.kept k) (I.hok.kept k)
theorem Inv.laid{a:EX}{o:HO}{t':Nat}(I:Inv X pins σ H s)(k:∀b u,s.heap.get? b=some u->h'.get? b=some u)(hp:s.heap.objs.size<=a)(new:cw X.prog X.w (upd H a o) h' a o):
  Inv X pins σ (upd H a o) {s with heap:=h',toks:=t' }:=I.un (Un.laid k hp (I.hok.fresh hp)) (I.hok.laid k hp new)
theorem Inv.write{x e:EX}{o:HO}{t':Nat}(I:Inv X pins σ H s)(mu:Mut (H x))(he:e=x\/H e=some (.own x))(k:∀b u,b≠e->s.heap.get? b=some u->h'.get? b=some u)(heo:∃u,h'.get? e=some u)
  (new:cw X.prog X.w (upd H x o) h' x o):Inv X pins σ (upd H x o) {s with heap:=h',toks:=t' }:=I.un (Un.write mu he k heo) (I.hok.write mu he k heo new)
theorem Inv.weak{Pz:List (Option V)}(I:Inv X pins σ H s)(hl:Pz.length=σ.length)(w:∀(i:Nat) v,Pz[i]?=some (some v)->σ[i]?=some (some v)):Inv X pins Pz H s:=
 ⟨I.ok,I.os,I.bare,I.base,let ⟨m,hn,PH⟩:=I.loc;⟨m,hn,λi x v e1 e2 e3=>PH i x v e1 (w i v e2) e3⟩,I.cell,I.free,I.freeC,I.pin,I.hok,hl.trans I.len⟩
theorem Inv.pins_of{R9:List (EX×Obj)}(I:Inv X pins σ H s)(h:∀p∈R9,s.heap.get? p.1=some p.2/\H p.1=none/\p.1≠X.env.locals/\p.1 ∉ X.fs/\∀v,p.2.data≠.cell v):Inv X R9 σ H s:=
 ⟨I.ok,I.os,I.bare,I.base,I.loc,I.cell,I.free,I.freeC,λp hp=>(Fx.mp hp).elim (λz=>I.pin p (Fv _ z)) (h p),I.hok,I.len⟩
theorem oB{N:List Str}(hN:N.Nodup){i j:Nat}{x:Str}(a:N[i]?=some x)(b:N[j]?=some x):i=j:=by
 obtain⟨h1,e1⟩:=E1.mp a;obtain⟨h2,e2⟩:=E1.mp b;exact (JV hN).mp (e1.trans e2.symm)
theorem mt{M:Model}{A:Fm}{E:EN->EL->Prop}{i:Nat}{x:Str}{v:V}{u:EN}{Q:Unit->EL->Prop}(I:Inv X pins σ H s)(hN:X.N.Nodup)(hi:X.N[i]?=some x)(hx:Loc X.env.scope x)(r:bi v u)
  (h:∀s',Inv X pins (σ.set i (some v)) H s'->(∃a,Ja a s.heap s'.heap/\(a=X.env.locals\/X.env.cells.lookup x=some a))->Q () s') (hf:X.fn x=true\/X.env.scope.names.lookup x=some .local:=by first |exact .inl rfl |exact .inr rfl |assumption):Ff M A (storeName X.env x u) Q E s:=by
 obtain⟨m,hn,hl⟩:=id I.loc;have hcls:(X.env.scope.kind==.class || (X.env.scope.kind==.module && X.env.locals !=X.env.globals))=false:=by rw[I.ok.kind];rfl
 have hiσ:i<σ.length:=by rw[I.len];exact (E1.mp hi).1
 have cne:=I.cne
 have Q2:∀{a:EX}{h':GD},(∃o,s.heap.get? a=some o/\H a=none)->Ja a s.heap h'->HOk X.prog X.w H h':=λ{a h'} ha hs b ob e=>by
  obtain⟨_,_,Si⟩:=ha;refine (I.hok b ob e).stay (λc w' hc q=>(hs.2 c ?_).trans q) (λ_ q=>q) λ_ _ q=>q
  rintro rfl;rcases hc with rfl |hc
  ·rw[Si]at e;cases e
  ·rw[Si]at hc;cases hc
 rcases hx with hk |hk
 ·refine wpAny_storeName_local hk hn (λh' RM hs=>?_) hcls
  obtain⟨oL,_,_,hoL,_⟩:=id hn;refine h _ ⟨I.ok,I.os,I.bare,⟨λb o e n hb hx=>?_,λb o e n hb hx=>?_,I.base.free,λb o e hx=>?_,I.base.tups,I.base.frzs,I.base.tbls⟩,⟨_,RM,λj y v' e1 e2 e3=>?_⟩,λy c e=>?_,I.free,I.freeC,λp hp=>?_,Q2 ⟨oL,hoL,I.free⟩ hs,by simpa using I.len⟩ ⟨_,hs,.inl rfl⟩
  ·exact (hs.2 b (Ft (Fu (EY e) I.ok.above))).trans (I.base.keep b o e n hb hx)
  ·obtain⟨sl,e1⟩:=I.base.slot b o e n hb hx;exact⟨sl,(hs.2 b (Ft (Fu (EY e) I.ok.above))).trans e1⟩
  ·obtain⟨o',e1⟩:=I.base.there b o e hx;exact⟨o',(hs.2 b (Ft (Fu (EY e) I.ok.above))).trans e1⟩
  ·by_cases hj:j=i
   ·subst hj;rw[hi]at e1;cases e1;rw[Ls hiσ]at e2;cases e2;exact⟨u,r,.inl ⟨hk,by simp⟩⟩
   ·rw[Fw (Ne.symm hj)]at e2;obtain⟨u',r',q⟩:=hl j y v' e1 e2 e3;refine⟨u',r',?_⟩;rcases q with ⟨k,e⟩ |⟨k,c,e,z⟩
    ·refine .inl ⟨k,?_⟩;have:y≠x:=λe=>hj (oB hN e1 (e ▸ hi))
     simp[this,e]
    ·exact .inr ⟨k,c,e,z.sameBut hs (cne y c e)⟩
  ·obtain⟨w',z⟩:=I.cell y c e;exact⟨w',z.sameBut hs (cne y c e)⟩
  ·obtain⟨e,n,ne,nf,d⟩:=I.pin p hp;exact⟨(hs.2 p.1 ne).trans e,n,ne,nf,d⟩
 ·have hfn:X.fn x=true:=by
   rcases hf with z |z
   ·exact z
   ·rw[z]at hk;cases hk
  obtain⟨c,hc⟩:=I.ok.has x (.inl hk);obtain⟨w',z⟩:=I.cell x c hc;refine wpAny_storeName_cell I.ok.kind hk hc z (λh' QN hs=>?_)
  obtain⟨oc,Rj,hocd⟩:=id z;refine h {s with heap:=h' } ⟨I.ok,I.os,I.bare,⟨λb o e n hb hx=>?_,λb o e n hb hx=>?_,I.base.free,λb o e hx=>?_,I.base.tups,I.base.frzs,I.base.tbls⟩,⟨m,hn.sameBut hs (Ne.symm (cne x c hc)),λj y v' e1 e2 e3=>?_⟩,λy c' e=>?_,I.free,I.freeC,λp hp=>?_,Q2 ⟨oc,Rj,I.freeC x c hc⟩ hs,by simpa using I.len⟩ ⟨c,hs,.inr hc⟩
  ·exact (hs.2 b (Ft (Fu (EY e) (I.ok.cab x c hfn hc)))).trans (I.base.keep b o e n hb hx)
  ·obtain⟨sl,e1⟩:=I.base.slot b o e n hb hx;exact⟨sl,(hs.2 b (Ft (Fu (EY e) (I.ok.cab x c hfn hc)))).trans e1⟩
  ·obtain⟨o',e1⟩:=I.base.there b o e hx;exact⟨o',(hs.2 b (Ft (Fu (EY e) (I.ok.cab x c hfn hc)))).trans e1⟩
  ·by_cases hj:j=i
   ·subst hj;rw[hi]at e1;cases e1;rw[Ls hiσ]at e2;cases e2;exact⟨u,r,.inr ⟨.inl hk,c,hc,QN⟩⟩
   ·rw[Fw (Ne.symm hj)]at e2;obtain⟨u',r',q⟩:=hl j y v' e1 e2 e3;refine⟨u',r',?_⟩;rcases q with q |⟨k,c',e,z'⟩
    ·exact .inl q
    ·refine .inr ⟨k,c',e,z'.sameBut hs ?_⟩;rintro rfl;exact hj (oB hN e1 (I.ok.inj _ _ _ e hc ▸ hi))
  ·by_cases hcc:c'=c
   ·subst hcc;exact⟨_,QN⟩
   ·obtain⟨w2,z2⟩:=I.cell y c' e;exact⟨w2,z2.sameBut hs hcc⟩
  ·obtain⟨e,n,ne,nf,d⟩:=I.pin p hp;refine⟨(hs.2 p.1 ?_).trans e,n,ne,nf,d⟩;intro q;rw[q,Rj]at e;have q':oc=p.2:=FY e;exact d w' (by rw[<-q'];exact hocd)
theorem ij{M:Model}{A:Fm}{E:EN->EL->Prop}{i:Nat}{x:Str}{v:V}{u:EN}{Q:Unit->EL->Prop}(I:Inv X pins σ H s)(hN:X.N.Nodup)(hi:X.N[i]?=some x)(hx:Loc X.env.scope x)(r:bi v u)
  (h:∀s',Inv X pins (σ.set i (some v)) H s'->Q () s') (hf:X.fn x=true\/X.env.scope.names.lookup x=some .local:=by first |exact .inl rfl |exact .inr rfl |assumption):Ff M A (storeName X.env x u) Q E s:=
 mt I hN hi hx r (λs' I' _=>h s' I') hf
theorem Inv.call'{s':EL}{ch:List EX}(I:Inv X pins σ H s)(ho:s'.os=s.os)(u:Un (frs X.stack) ch H H' s.heap s'.heap)(hok:HOk X.prog X.w H' s'.heap)(hg:KZ s'.gens)
  (RH:∀b∈ch,(b∈X.ex\/X.s₀.heap.objs.size<=b)/\b≠X.env.locals/\(∀x c,X.env.cells.lookup x=some c->c≠b)/\∀p∈X.pn++pins,p.1≠b):Inv X pins σ H' s':=by
 obtain⟨h',g',d',t',o'⟩:=s';have e:o'=s.os:=ho;subst e;exact I.call (g':=g') (t':=t') (d':=d') u hok hg RH
end
abbrev XK:=EN->Option EX->Hp->Prop
abbrev St:=List (Option V)
abbrev VK:=V->Hp->Prop
abbrev TE:=St->Hp->VK->Prop
abbrev TT:=St->Hp->(Bool->Hp->Prop)->Prop
abbrev TA:=St->Hp->(List V->Hp->Prop)->Prop
structure n9 where
 nx:St->Hp->Prop
 rt:VK
 bk:St->Hp->Prop:=λ_ _=>False
 ct:St->Hp->Prop:=λ_ _=>False
abbrev TS:=n9->St->Hp->Prop
def EP(X:Cx)(pins:List (EX×Obj))(σ:St)(Q:VK)(u:EN)(s':EL):Prop:=∃v H',Inv X pins σ H' s'/\bi v u/\Q v H'
def TP(X:Cx)(pins:List (EX×Obj))(σ:St)(Q:Bool->Hp->Prop)(b:Bool)(s':EL):Prop:=∃H',Inv X pins σ H' s'/\Q b H'
def AP(X:Cx)(pins:List (EX×Obj))(σ:St)(Q:List V->Hp->Prop)(us:List EN)(s':EL):Prop:=∃vs H',Inv X pins σ H' s'/\aU vs us/\Q vs H'
def SP(X:Cx)(pins:List (EX×Obj))(D:n9)(f:Flow)(s':EL):Prop:=
 match f with
 | .next=>∃Pz H',Inv X pins Pz H' s'/\D.nx Pz H'
 | .brk=>∃Pz H',Inv X pins Pz H' s'/\D.bk Pz H'
 | .cont=>∃Pz H',Inv X pins Pz H' s'/\D.ct Pz H'
 | .ret u=>∃v Pz H',Inv X pins Pz H' s'/\bi v u/\D.rt v H'
def PE(X:Cx)(e:Expr)(t:TE):Prop:=
 ∀(pins:List (EX×Obj)) (s:EL) (σ:St) (H:Hp) (Q:VK),Inv X pins σ H s->t σ H Q->Ff (FE X.prog X.w) X.A (HY e X.env) (EP X pins σ Q) X.xe s
def PT(X:Cx)(e:Expr)(t:TT):Prop:=
 ∀(pins:List (EX×Obj)) (s:EL) (σ:St) (H:Hp) (Q:Bool->Hp->Prop),Inv X pins σ H s->t σ H Q->Ff (FE X.prog X.w) X.A (isTrue e X.env (HY e X.env)) (TP X pins σ Q) X.xe s
def PW(X:Cx)(e:Expr)(t:TT):Prop:=
 ∀(QB:Sem EN) (pins:List (EX×Obj)) (s:EL) (σ:St) (H:Hp) (Q:Bool->Hp->Prop),Inv X pins σ H s->t σ H Q->Ff (FE X.prog X.w) X.A (isTrue e X.env QB) (TP X pins σ Q) X.xe s
theorem PW.pt{X:Cx}{e:Expr}{t:TT}(h:PW X e t):PT X e t:=h _
def PA(X:Cx)(es:List Expr)(t:TA):Prop:=
 ∀(pos:Pos) (pins:List (EX×Obj)) (s:EL) (σ:St) (H:Hp) (Q:List V->Hp->Prop),Inv X pins σ H s->t σ H Q->Ff (FE X.prog X.w) X.A (Ot (Ie pos (EZ es X.env))) (AP X pins σ Q) X.xe s
def PS(X:Cx)(st:Hc)(t:TS):Prop:=
 ∀(pins:List (EX×Obj)) (s:EL) (σ:St) (H:Hp) (D:n9),Inv X pins σ H s->t D σ H->Ff (FE X.prog X.w) X.A (exec st X.env) (SP X pins D) X.xe s
def PSs(X:Cx)(st:List Hc)(t:TS):Prop:=
 ∀(pins:List (EX×Obj)) (s:EL) (σ:St) (H:Hp) (D:n9),Inv X pins σ H s->t D σ H->Ff (FE X.prog X.w) X.A (execs st X.env) (SP X pins D) X.xe s
theorem thn{α:Type}{t:Sem α}{Q Q':α->EL->Prop}{M:Model}{A:Fm}{E:EN->EL->Prop}{s:EL}(h:Ff M A t Q E s)(hQ:∀a s,Q a s->Q' a s):Ff M A t Q' E s:=HJ h hQ λ_ _ x=>x
variable {ta:TE}{tb:TE}{pos:Pos}
section
variable {X:Cx}
def Ea(i:Nat):TE:=λσ H Q=>∃v,σ[i]?=some (some v)/\Q v H
def tC(v:V):TE:=λ_ H Q=>Q v H
theorem gZ{i:Nat}{x:Str}{pos:Pos}(hN:X.N[i]?=some x)(hv:Vis X.env.scope x)(hd:(x==("__debug__":Str))=false:=by decide)(Qr:(x==("__classdict__":Str))=false:=by decide):PE X (.Name x pos) (Ea i):=by
 intro pins s σ H Q I h;obtain⟨v,e,h⟩:=h;obtain⟨m,hn,hl⟩:=I.loc;obtain⟨u,r,l⟩:=hl i x v hN e hv;have PF:EP X pins σ Q u s:=⟨v,H,I,r,h⟩;rcases l with ⟨hk,hm⟩ |⟨hk,c,hc,Sk⟩
 ·exact N8 (wpAny_loadName_local I.ok.kind hk hn hm PF) hd
 ·rcases hk with hk |hk
  ·exact N8 (wpAny_loadName_cell I.ok.kind hk hc Sk PF) hd
  ·exact N8 (wpAny_loadName_free I.ok.kind hk hc Sk PF Qr) hd
theorem Bt{i j pos}:PE X (.Constant (.int i) j pos) (tC (.int i)):=λ_ _ _ H _ I h=>wpAny_Constant_int ⟨.int i,H,I.tok _,⟨_,rfl⟩,h⟩
theorem De{b j pos}:PE X (.Constant (.bool b) j pos) (tC (.bl b)):=λ_ _ _ H _ I h=>Constant_bool ⟨.bl b,H,I,rfl,h⟩
def Gl(X:Cx)(x:Str):Prop:=X.env.kindOf x=some .globalImplicit
theorem tX{E:EN->EL->Prop}{pins:List (EX×Obj)}{s:EL}{σ:St}{H:Hp}{x:Str}{u:EN}{pos:Pos}{Q:EN->EL->Prop}(I:Inv X pins σ H s)(hg:Gl X x)(hm:X.mg x=some u)(h:Q u s)
  (hd:(x==("__debug__":Str))=false:=by decide):Ff (FE X.prog X.w) X.A (HY (.Name x pos) X.env) Q E s:=
 Kf I.ok.kind hg (Calls.loadGlobal_global (by rw[I.ok.glob];exact I.mod.glob.keeps I.bk) hm h) hd
theorem cJ{E:EN->EL->Prop}{pins:List (EX×Obj)}{s:EL}{σ:St}{H:Hp}{x:Str}{u:EN}{pos:Pos}{Q:EN->EL->Prop}(I:Inv X pins σ H s)(hg:Gl X x)(hm:X.mg x=none)(hv:GS x=some u)(h:Q u s)
  (hn:x≠"__name__":=by decide) (hd:(x==("__debug__":Str))=false:=by decide):Ff (FE X.prog X.w) X.A (HY (.Name x pos) X.env) Q E s:=by
 obtain⟨mb,h1,h2⟩:=I.mod.blt;exact Kf I.ok.kind hg (Calls.loadGlobal_builtin (by rw[I.ok.glob];exact I.mod.glob.keeps I.bk) hm (by rw[I.ok.blt];exact h1.keeps I.bk) ((h2 x hn).trans hv) h) hd
theorem Ap{x:Str}{v:V}{u:EN}{pos:Pos}(hg:Gl X x)(hm:X.mg x=some u)(r:bi v u)(hd:(x==("__debug__":Str))=false:=by decide):PE X (.Name x pos) (tC v):=
 λ_ _ _ H _ I h=>tX I hg hm ⟨v,H,I,r,h⟩ hd
theorem yZ{x:Str}{v:V}{u:EN}{pos:Pos}(hg:Gl X x)(hm:X.mg x=none)(hv:GS x=some u)(r:bi v u)(hn:x≠"__name__":=by decide)(hd:(x==("__debug__":Str))=false:=by decide):PE X (.Name x pos) (tC v):=
 λ_ _ _ H _ I h=>cJ I hg hm hv ⟨v,H,I,r,h⟩ hn hd
variable {a b:Expr}
def tB(t:TE):TT:=λσ H Q=>t σ H λx H1=>∃c,x=.bl c/\Q c H1
theorem BO{e:Expr}{t:TE}(h:PE X e t)(he:∀QB,isTrue e X.env QB=(do let v <-QB;standAt e.pos;Nq [v] (truthy v)):=by intro _;rfl):PT X e (tB t):=by
 intro pins s σ H Q I hw;refine isTrue_plain (thn (h pins s σ H _ I hw) λv s1 ⟨x,H1,I1,r1,q1⟩=>?_) (he _)
 obtain⟨d,rfl,q⟩:=q1;cases r1;exact GT ⟨H1,I1,q⟩
variable {tA tB':TT}{rest:List Expr}
def D6(t u:TT):TT:=λσ H Q=>t σ H λc H1=>if c=true then u σ H1 Q else Q false H1
def tOr(t u:TT):TT:=λσ H Q=>t σ H λc H1=>if c=true then Q true H1 else u σ H1 Q
def Er(t:TT):TT:=λσ H Q=>t σ H λc H1=>Q (!c) H1
theorem AI(ha:PT X a tA):PW X (.BoolOp .And [a] pos) tA:=by
 intro wh pins s σ H Q I h;refine isTrue_and (thn (ha pins s σ H Q I h) λc s1 e=>?_)
 cases c with
 |true=>exact isTrue_and_nil e
 |false=>exact e
theorem BM(ha:PT X a tA):PW X (.BoolOp .Or [a] pos) tA:=by
 intro wh pins s σ H Q I h;refine isTrue_or (thn (ha pins s σ H Q I h) λc s1 e=>?_)
 cases c with
 |false=>exact isTrue_or_nil e
 |true=>exact e
theorem w_(ha:PT X a tA)(hb:PW X (.BoolOp .And (b::rest) pos) tB'):PW X (.BoolOp .And (a::b::rest) pos) (D6 tA tB'):=by
 intro wh pins s σ H Q I h;refine isTrue_and (thn (ha pins s σ H _ I h) λc s1 ⟨H1,I1,q1⟩=>?_)
 cases c with
 |true=>exact hb wh pins s1 σ H1 Q I1 q1
 |false=>exact⟨H1,I1,q1⟩
theorem Bp(ha:PT X a tA)(hb:PW X (.BoolOp .Or (b::rest) pos) tB'):PW X (.BoolOp .Or (a::b::rest) pos) (tOr tA tB'):=by
 intro wh pins s σ H Q I h;refine isTrue_or (thn (ha pins s σ H _ I h) λc s1 ⟨H1,I1,q1⟩=>?_)
 cases c with
 |true=>exact⟨H1,I1,q1⟩
 |false=>exact hb wh pins s1 σ H1 Q I1 q1
theorem B_(ha:PT X a tA):PT X (.UnaryOp .Not a pos) (Er tA):=by
 intro pins s σ H Q I h;exact isTrue_not (ha pins s σ H (λc H1=>Q (!c) H1) I h)
def DF(ta tb:TE):TE:=λσ H Q=>ta σ H λx H1=>∃c,x=.bl c/\if c=true then tb σ H1 Q else Q (.bl false) H1
def Ee(ta tb:TE):TE:=λσ H Q=>ta σ H λx H1=>∃c,x=.bl c/\if c=true then Q (.bl true) H1 else tb σ H1 Q
def C6(ta:TE):TE:=λσ H Q=>ta σ H λx H1=>∃c,x=.bl c/\Q (.bl (!c)) H1
theorem Cp{op}{t:TE}(h:PE X a t):PE X (.BoolOp op [a] pos) t:=λpins s σ H Q I hw=>BoolOp_one (h pins s σ H Q I hw)
theorem xY(ha:PE X a ta)(hb:PE X (.BoolOp .And (b::rest) pos) tb):PE X (.BoolOp .And (a::b::rest) pos) (DF ta tb):=by
 intro pins s σ H Q I h;refine BoolOp_and (thn (ha pins s σ H _ I h) λv s1 ⟨x,H1,I1,r1,q1⟩=>?_)
 obtain⟨c,rfl,q1⟩:=q1;cases r1;refine GT ?_;cases c with
 |true=>exact hb pins s1 σ H1 Q I1 q1
 |false=>exact⟨.bl false,H1,I1,rfl,q1⟩
theorem A2(ha:PE X a ta)(hb:PE X (.BoolOp .Or (b::rest) pos) tb):PE X (.BoolOp .Or (a::b::rest) pos) (Ee ta tb):=by
 intro pins s σ H Q I h;refine BoolOp_or (thn (ha pins s σ H _ I h) λv s1 ⟨x,H1,I1,r1,q1⟩=>?_)
 obtain⟨c,rfl,q1⟩:=q1;cases r1;refine GT ?_;cases c with
 |false=>exact hb pins s1 σ H1 Q I1 q1
 |true=>exact⟨.bl true,H1,I1,rfl,q1⟩
theorem Cg(ha:PE X a ta):PE X (.UnaryOp .Not a pos) (C6 ta):=by
 intro pins s σ H Q I h;refine UnaryOp_ (thn (ha pins s σ H _ I h) λv s1 ⟨x,H1,I1,r1,q1⟩=>?_)
 obtain⟨c,rfl,q1⟩:=q1;cases r1;exact not_of (GT ⟨.bl (!c),H1,I1,rfl,q1⟩)
def tIf(t:TT)(ta tb:TE):TE:=λσ H Q=>t σ H λc H1=>if c=true then ta σ H1 Q else tb σ H1 Q
theorem oY{c:Expr}(hc:PT X c tA)(ha:PE X a ta)(hb:PE X b tb):PE X (.IfExp c a b pos) (tIf tA ta tb):=by
 intro pins s σ H Q I h;refine wpAny_IfExp (thn (hc pins s σ H _ I h) λd s1 ⟨H1,I1,q1⟩=>?_)
 cases d with
 |true=>exact ha pins s1 σ H1 Q I1 q1
 |false=>exact hb pins s1 σ H1 Q I1 q1
end
def SqL(K:EI)(H:Hp)(a:EX)(xs:List V):Prop:=
 Rd H a (.lst xs)\/
  ∃(o:Obj) (Pj:Array EN) (n:Nat),K.lookup a=some o∧o.cls=.type "list"∧o.dict=none∧o.data=.seq Pj n∧Pj.size≤sizeLine∧aU xs Pj.toList
def SqT(K:EI)(H:Hp)(a:EX)(xs:List V):Prop:=
 Rd H a (.tup xs)\/
  ∃(o:Obj) (Pj:Array EN) (n:Nat),K.lookup a=some o∧o.cls=.type "tuple"∧o.data=.seq Pj n∧Pj.size≤sizeLine∧aU xs Pj.toList
def Ed:EN->Option V
 | .none=>some .non
 | .bool b=>some (.bl b)
 | .int i _=>some (.int i)
 | .str x _=>some (.str x)
 | .bytes b _=>some (.byt b)
 | .float b _=>some (.flt b)
 | .ref a=>some (.ref a)
 | .type n=>some (.ty n)
 |_=>none
theorem bi.abs{x:V}{u:EN}(r:bi x u):Ed u=some x:=by
 cases x with
 |non=>cases r;rfl
 |bl _=>cases r;rfl
 |int _=>obtain⟨t,rfl⟩:=r;rfl
 |str _=>obtain⟨t,rfl⟩:=r;rfl
 |byt _=>obtain⟨t,rfl⟩:=r;rfl
 |flt _=>obtain⟨t,rfl⟩:=r;rfl
 |ref _=>cases r;rfl
 |ty _=>cases r;rfl
theorem bi.inj{x y:V}{u:EN}(r:bi x u)(q:bi y u):x=y:=FY (r.abs.symm.trans q.abs)
theorem aU.inj:∀{xs ys:List V}{us:List EN},aU xs us->aU ys us->xs=ys
 |_,_,_,.nil,.nil=>rfl
 |_,_,_,.cons r t,.cons r' t'=>by rw[r.inj r',aU.inj t t']
variable {σ:St}
section
variable {X:Cx}{a:EX}{xs ys:List V}
theorem SqL.of{K:EI}(h:H a=some (.lst xs)):SqL K H a xs:=.inl (.inl h)
theorem SqT.of{K:EI}(h:H a=some (.tup xs)):SqT K H a xs:=.inl (.inl h)
theorem Inv.list(I:Inv X pins σ H s)(h:SqL X.K H a xs):∃Pj:List EN,aU xs Pj/\PlainL s.heap a Pj.toArray/\xs.length<=sizeLine:=by
 rcases h with h |⟨o,Pj,n,hk,hc,hd,hs,hz,r⟩
 ·obtain⟨z,Pj,n,r,e⟩:=h.ok I.hok;exact⟨Pj,r,⟨_,n,e,rfl,rfl,rfl⟩,z⟩
 ·refine⟨Pj.toList,r,⟨o,n,I.kIn a o hk,hc,hd,by simpa using hs⟩,?_⟩
  have e:=r.length;simp only[E6]at e;lia
theorem Inv.tuple(I:Inv X pins σ H s)(h:SqT X.K H a xs):∃Pj:List EN,aU xs Pj/\Pf s.heap a Pj.toArray/\xs.length<=sizeLine:=by
 rcases h with h |⟨o,Pj,n,hk,hc,hs,hz,r⟩
 ·obtain⟨z,Pj,r,p⟩:=h.ok I.hok;exact⟨Pj,r,p,z⟩
 ·refine⟨Pj.toList,r,⟨o,I.kIn a o hk,hc,n,by simpa using hs⟩,?_⟩
  have e:=r.length;simp only[E6]at e;lia
theorem Inv.list_inj(I:Inv X pins σ H s)(h:SqL X.K H a xs)(h':SqL X.K H a ys):xs=ys:=by
 obtain⟨Pj,r,⟨o,n,e,_,_,d⟩,_⟩:=I.list h;obtain⟨its',r',⟨o',n',e',_,_,d'⟩,_⟩:=I.list h';rw[e]at e';cases e';rw[d]at d';injection d' with d1 _
 have:Pj=its':=by simpa using congrArg OK d1
 subst this;exact r.inj r'
theorem Inv.tuple_inj(I:Inv X pins σ H s)(h:SqT X.K H a xs)(h':SqT X.K H a ys):xs=ys:=by
 obtain⟨Pj,r,⟨o,e,_,n,d⟩,_⟩:=I.tuple h;obtain⟨its',r',⟨o',e',_,n',d'⟩,_⟩:=I.tuple h';rw[e]at e';cases e';rw[d]at d';injection d' with d1 _
 have:Pj=its':=by simpa using congrArg OK d1
 subst this;exact r.inj r'
end
abbrev Cx.wish(X:Cx)(E:EN->EL->Prop):Cx:={X with xe:=E }
abbrev Cx.nox(X:Cx):Cx:=X.wish λ_ _=>False
theorem Cx.Ok.wish{X:Cx}(ok:X.Ok)(E:EN->EL->Prop):(X.wish E).Ok:=
 ⟨ok.mod,ok.kind,ok.glob,ok.blt,ok.above,ok.inj,ok.has,ok.cab,ok.hd,ok.frames,ok.stk,ok.exf,ok.bs,ok.bsz,ok.noex,ok.exfs,ok.funs,ok.frf⟩
theorem Cx.Ok.unwish{X:Cx}{E:EN->EL->Prop}(ok:(X.wish E).Ok):X.Ok:=
 ⟨ok.mod,ok.kind,ok.glob,ok.blt,ok.above,ok.inj,ok.has,ok.cab,ok.hd,ok.frames,ok.stk,ok.exf,ok.bs,ok.bsz,ok.noex,ok.exfs,ok.funs,ok.frf⟩
variable {E:EN→EL→Prop}{te:TE}
section
variable {X:Cx}
theorem Inv.wish(I:Inv X pins σ H s)(E:EN->EL->Prop):Inv (X.wish E) pins σ H s:=⟨I.ok.wish E,I.os,I.bare,I.base,I.loc,I.cell,I.free,I.freeC,I.pin,I.hok,I.len⟩
theorem Inv.unwish(I:Inv (X.wish E) pins σ H s):Inv X pins σ H s:=⟨I.ok.unwish,I.os,I.bare,I.base,I.loc,I.cell,I.free,I.freeC,I.pin,I.hok,I.len⟩
theorem SP.unwish{D:n9}{f:Flow}{s':EL}(h:SP (X.wish E) pins D f s'):SP X pins D f s':=by
 cases f with
 |next=>obtain⟨Pz,H',I,q⟩:=h;exact⟨Pz,H',I.unwish,q⟩
 |brk=>obtain⟨Pz,H',I,q⟩:=h;exact⟨Pz,H',I.unwish,q⟩
 |cont=>obtain⟨Pz,H',I,q⟩:=h;exact⟨Pz,H',I.unwish,q⟩
 |ret u=>obtain⟨v,Pz,H',I,r,q⟩:=h;exact⟨v,Pz,H',I.unwish,r,q⟩
theorem PSs.nox{st:List Hc}{t:TS}(h:PSs X.nox st t):PSs X st t:=λpins s σ H D I hw=>
 HJ (h pins s σ H D (I.wish _) hw) (λ_ _ q=>q.unwish) λ_ _ z=>False.elim z
variable {st:Hc}{rest:List Hc}{t u:TS}{e:Expr}
def Dc:TS:=λD σ H=>D.nx σ H
def D4(t u:TS):TS:=λD σ H=>t {D with nx:=u D } σ H
theorem ze:PSs X [] Dc:=λ_ _ σ H _ I h=>LF ⟨σ,H,I,h⟩
theorem v6(h1:PS X st t)(h2:PSs X rest u):PSs X (st::rest) (D4 t u):=by
 intro pins s σ H D I h;refine wpAny_execs_cons (thn (h1 pins s σ H {D with nx:=u D } I h) λf s1 q=>?_)
 cases f with
 |next=>
  obtain⟨Pz,H',I',q⟩:=q;exact h2 pins s1 Pz H' D I' q
 |ret v=>exact q
 |brk=>exact q
 |cont=>exact q
theorem Inv.quiet{pins:List (EX×Obj)}{σ:St}{H:Hp}{s:EL}(I:Inv X pins σ H s):interactive X.env=false:=by simp[interactive,I.ok.kind]
def C3(te:TE):TS:=λD σ H=>te σ H λ_ H1=>D.nx σ H1
theorem jp(he:PE X e te)(hs:IS e none pos.line X.env=pure false:=by rfl):PS X (.Expr e pos) (C3 te):=by
 intro pins s σ H D I h;exact wpAny_Expr_any (thn (he pins s σ H _ I h) λv s1 ⟨x,H1,I1,r1,q1⟩=>⟨σ,H1,I1,q1⟩) I.quiet hs
def El(te:TE):TS:=λD σ H=>te σ H D.rt
theorem ql(he:PE X e te):PS X (.Return (some e) pos) (El te):=by
 intro pins s σ H D I h;exact wpAny_Return_some (thn (he pins s σ H _ I h) λv s1 ⟨x,H1,I1,r1,q1⟩=>⟨x,σ,H1,I1,r1,q1⟩)
def EB(c:TT)(t u:TS):TS:=λD σ H=>c σ H λb H1=>if b=true then t D σ H1 else u D σ H1
theorem A4{c:Expr}{a b:List Hc}{tc:TT}(hc:PT X c tc)(ha:PSs X a t)(hb:PSs X b u):PS X (.If c a b pos) (EB tc t u):=by
 intro pins s σ H D I h;refine wpAny_If (thn (hc pins s σ H _ I h) λd s1 ⟨H1,I1,q1⟩=>?_)
 cases d with
 |true=>exact ha pins s1 σ H1 D I1 q1
 |false=>exact hb pins s1 σ H1 D I1 q1
end
abbrev TG:=V->St->Hp->(St->Hp->Prop)->Prop
abbrev TGs:=List V->St->Hp->(St->Hp->Prop)->Prop
def PG(X:Cx)(target:Expr)(t:TG):Prop:=
 ∀(pins:List (EX×Obj)) (s:EL) (σ:St) (H:Hp) (v:V) (u:EN) (Q:St->Hp->Prop),Inv X pins σ H s->bi v u->t v σ H Q->
  Ff (FE X.prog X.w) X.A (N9 target X.env u) (λ_ s'=>∃Pz H',Inv X pins Pz H' s'/\Q Pz H') X.xe s
def PGs(X:Cx)(ts:List Expr)(t:TGs):Prop:=
 ∀(pins:List (EX×Obj)) (s:EL) (σ:St) (H:Hp) (vs:List V) (us:List EN) (Q:St->Hp->Prop),Inv X pins σ H s->aU vs us->t vs σ H Q->
  Ff (FE X.prog X.w) X.A (Ms ((Jb ts X.env).map (·.2)) us) (λ_ s'=>∃Pz H',Inv X pins Pz H' s'/\Q Pz H') X.xe s
section
variable {X:Cx}
def oU(i:Nat):TG:=λv σ H Q=>Q (σ.set i (some v)) H
theorem aQ{i:Nat}{x:Str}(hN:X.N.Nodup)(hi:X.N[i]?=some x)(hx:Loc X.env.scope x)(hf:X.fn x=true\/X.env.scope.names.lookup x=some .local:=by first |exact .inl rfl |exact .inr rfl |assumption):PG X (.Name x pos) (oU i):=by
 intro pins s σ H v u Q I r h;exact MJ (ij I hN hi hx r (λs' I'=>⟨_,H,I',h⟩) hf)
def Dm:TGs:=λvs σ H Q=>vs=[]/\Q σ H
def Bi(t:TG)(u:TGs):TGs:=λvs σ H Q=>∃v r,vs=v::r/\t v σ H λPz H'=>u r Pz H' Q
theorem fI:PGs X [] Dm:=by
 intro pins s σ H vs us Q I r h;obtain⟨e,h⟩:=h;subst e;cases r;exact MK ⟨σ,H,I,h⟩
theorem bS{e:Expr}{es:List Expr}{t:TG}{u:TGs}(h1:PG X e t)(h2:PGs X es u)
  (hs:(Jb (e::es) X.env).map (·.2)=N9 e X.env::(Jb es X.env).map (·.2):=by rfl):PGs X (e::es) (Bi t u):=by
 intro pins s σ H vs us Q I r h;obtain⟨v,vr,e1,h⟩:=h;subst e1;cases r with
 |cons r rr=>
  rw[hs];refine Ki (thn (h1 pins s σ H _ _ _ I r h) λ_ s1 ⟨σ1,H1,I1,q1⟩=>?_)
  exact h2 pins s1 σ1 H1 _ _ Q I1 rr q1
def C_(K:EI)(n:Nat)(t:TGs):TG:=λv σ H Q=>∃a xs,v=.ref a/\SqT K H a xs/\xs.length=n/\t xs σ H Q
theorem j9{es:List Expr}{k:Nat}{t:TGs}{n:Nat}(hc:X.calm=true)(h:PGs X es t)
  (hn:(Jb es X.env).length=n:=by rfl) (Qs:(Jb es X.env).findIdx? (·.1)=none:=by rfl):PG X (.Tuple es k pos) (C_ X.K n t):=by
 intro pins s σ H v u Q I r hw;obtain⟨a,xs,e1,hq,hl,hw⟩:=hw;subst e1;cases r;obtain⟨Pj,rv,ht,hz⟩:=I.tuple hq;refine assign_Tuple_tuple (I.ok.hd hc) ht (by simp[hn,<-hl,rv.length]) Qs λh' hx=>?_
 have I1:Inv X pins σ H {s with heap:=h' }:=I.kept (t':=s.toks) λb o e=>hx b o (Ft (EY e)) e
 exact h pins _ σ H xs _ Q I1 (by simpa using rv) hw
def BU(te:TE)(g:TG):TS:=λD σ H=>te σ H λx H1=>g x σ H1 D.nx
theorem CH{tg e:Expr}{te:TE}{g:TG}(he:PE X e te)(hg:PG X tg g)(hs:K0 [tg] e pos.line X.env=pure false:=by rfl)(hw:K1 [tg] e X.env=pure none:=by rfl)
  (h1:(Jb [tg] X.env).map (·.2)=[N9 tg X.env]:=by rfl):PS X (.Assign [tg] e pos) (BU te g):=by
 intro pins s σ H D I h;refine wpAny_Assign_stores (thn (he pins s σ H _ I h) λv s1 ⟨x,H1,I1,r1,q1⟩=>?_) hs hw
 rw[h1];exact thn (hg pins s1 σ H1 x v _ I1 r1 q1) λ_ s2 q=>q
theorem xu{i:Nat}{x:Str}{e:Expr}{te:TE}{PL:Pos}(hN:X.N.Nodup)(hi:X.N[i]?=some x)(hx:Loc X.env.scope x)(he:PE X e te)(hs:IS e (some (.Name x PL)) pos.line X.env=pure false:=by rfl)(hf:X.fn x=true\/X.env.scope.names.lookup x=some .local:=by first |exact .inl rfl |exact .inr rfl |assumption):
  PS X (.Assign [.Name x PL] e pos) (BU te (oU i)):=by
 intro pins s σ H D I h;refine wpAny_Assign_Name (thn (he pins s σ H _ I h) λv s1 ⟨y,H1,I1,r1,q1⟩=>?_) hs
 exact ij I1 hN hi hx r1 (λs2 I2=>⟨_,H1,I2,q1⟩) hf
def Ek(i j:Nat)(ta:TA):TS:=λD σ H=>ta σ H λvs H1=>∃v w,vs=[v,w]/\D.nx ((σ.set i (some v)).set j (some w)) H1
theorem Cf{i j:Nat}{x y:Str}{a b:Expr}{ta:TA}{px py pt:Pos}{kt k2 pt2}(hc:X.calm=true)(hN:X.N.Nodup)(hi:X.N[i]?=some x)(hj:X.N[j]?=some y)(Qi:i≠j)
  (hx:X.env.scope.names.lookup x=some .local) (hy:X.env.scope.names.lookup y=some .local) (ha:PA X [a,b] ta)
  (hw:K1 [.Tuple [.Name x px,.Name y py] kt pt] (.Tuple [a,b] k2 pt2) X.env=pure (some [x,y]))
  (hs:K0 [.Tuple [.Name x px,.Name y py] kt pt] (.Tuple [a,b] k2 pt2) pos.line X.env=pure false:=by rfl):
  PS X (.Assign [.Tuple [.Name x px,.Name y py] kt pt] (.Tuple [a,b] k2 pt2) pos) (Ek i j ta):=by
 intro pins s σ H D I h;rw[exec_Assign_arm];refine EF (K3 ?_);rw[hs];refine EF (EM ?_);rw[if_neg (by decide)]
 refine EF (Tuple_ (thn (ha _ pins s σ H _ I h) λus s1 ⟨vs,H1,I1,r1,q1⟩=>?_))
 obtain⟨v,w,e1,q1⟩:=q1;subst e1
 obtain⟨u1,u2,rfl,rv,Q3⟩:∃u1 u2,us=[u1,u2]/\bi v u1/\bi w u2:=by
  cases r1 with
  |cons p q=>
   cases q with
   |cons p' q'=>
    cases q';exact⟨_,_,rfl,p,p'⟩
 refine G9 ?_ (by show 2<=sizeLine;decide)
 have I2:Inv X pins σ H1 {s1 with heap:=s1.heap.push {cls:=.type "tuple",data:=.seq [u1,u2].toArray } }:=I1.kept (t':=s1.toks) λb o e=>EK _ e
 rw[hw];refine EF (EM ?_);show Ff (FE X.prog X.w) X.A (do rule "assign.swapped-stores";let items ←unpackItems (.ref s1.heap.objs.size) 2 none;Ms [λv=>Ou X.env y v,λv=>Ou X.env x v] items.reverse;pure Flow.next) _ _ _
 refine EF (Jc (EF (unpackItems_tuple (items:=#[u1,u2]) (I.ok.hd hc) (IsTup.new s1.heap _) λh' QY=>?_)))
 have I3:=I2.kept (h':=h') (t':=s1.toks) λb o e=>QY b o (Ft (EY e)) e
 show Ff _ _ (Ms [λv=>Ou X.env y v,λv=>Ou X.env x v] [u2,u1] >>=λ_=>pure Flow.next) _ _ _
 refine EF (Ki (NJ (ij I3 hN hj (.inl hy) Q3 (λs2 I4=>?_) (.inr hy))))
 refine Ki (NJ (ij I4 hN hi (.inl hx) rv (λs3 I5=>MK (EM ?_)) (.inr hx)))
 rw[List.set_comm _ _ (Ne.symm Qi)]at I5;exact⟨_,H1,I5,q1⟩
def BB(c:TT)(tb:TS):TS:=λD σ H=>∃W:Nat->St->Hp->Prop,(∃m,W m σ H)/\∀m σ H,W m σ H->
 c σ H λb H1=>if b=true then ∃N:St->Hp->Prop,(∀Pz H',N Pz H'->∃m',m'<m/\W m' Pz H')/\tb {D with nx:=N,ct:=N,bk:=D.nx } σ H1 else D.nx σ H1
theorem wG{c:Expr}{PV:List Hc}{tc:TT}{tb:TS}(hp:LG (FE X.prog X.w) X.A X.env X.xe)(hc:PT X c tc)(hb:PSs X PV tb):PS X (.While c PV [] pos) (BB tc tb):=by
 intro pins s σ H D I h;obtain⟨W,⟨m0,w0⟩,turn⟩:=h;refine wpAny_While (codeAny_whileLoop (λn s'=>∃Pz H',Inv X pins Pz H' s'/\W n Pz H') ?_ m0 ⟨σ,H,I,w0⟩)
 rintro n s1 ⟨σ1,H1,I1,w1⟩;refine HZ hp (thn (hc pins s1 σ1 H1 _ I1 (turn n σ1 H1 w1)) λb s2 ⟨H2,I2,q2⟩=>?_)
 cases b with
 |true=>
  obtain⟨N,hN,q2⟩:=q2;rw[if_pos rfl];refine HZ hp (thn (hb pins s2 σ1 H2 _ I2 q2) λf s3 q3=>?_)
  cases f with
  |next=>
   obtain⟨Rn,H3,I3,n3⟩:=q3;obtain⟨m',hm,w3⟩:=hN Rn H3 n3;exact⟨m',hm,Rn,H3,I3,w3⟩
  |cont=>
   obtain⟨Rn,H3,I3,n3⟩:=q3;obtain⟨m',hm,w3⟩:=hN Rn H3 n3;exact⟨m',hm,Rn,H3,I3,w3⟩
  |brk=>exact q3
  |ret v=>exact q3
 |false=>
  rw[if_neg Fn];exact LF ⟨σ1,H2,I2,q2⟩
end
structure It where
 go:Nat->Hp->Prop
 yld:Nat->Hp->V->Hp->Prop
 stop:Nat->Hp->Prop
def iK(X:Cx)(pins:List (EX×Obj))(H:Hp)(b:EX):Prop:=
 H b=none/\b≠X.env.locals/\b ∉ X.fs/\(b∈X.ex\/X.s₀.heap.objs.size<=b)/\(∀x c,X.env.cells.lookup x=some c->c≠b)/\∀p∈X.pn++pins,p.1≠b
theorem Inv.fpOk{X:Cx}{pins:List (EX×Obj)}{σ:St}{H H':Hp}{s:EL}{b:EX}(I:Inv X pins σ H s)(hb:s.heap.objs.size<=b)(hn:H' b=none):iK X pins H' b:=by
 refine⟨hn,Io (Fu I.lt hb),I.nofs hb,.inr (Gs I.sz hb),λx c e z=>?_,λp hp z=>?_⟩
 ·obtain⟨v,q⟩:=I.cell x c e;exact absurd (Fu q.lt (by rw[z];exact hb)) (FA _)
 ·exact absurd (Fu (EY (I.pin p hp).1) (by rw[z];exact hb)) (FA _)
structure rH(P:EW)(w:Fl)(K:EI)(tg:Expr)(J:It)(fp:List EX)(it:EX)(tn:Nat->GD->Prop):Prop where
 mem:it∈fp
 obj:∀i h,tn i h->∀b∈fp,∃o,h.get? b=some o/\∀v,o.data≠.cell v
 keep:∀i h h',tn i h->(∀b∈fp,∀o,h.get? b=some o->h'.get? b=some o)->tn i h'
 item:∀(X:Cx),X.prog=P->X.w=w->X.K=K->X.calm=true->∀(i:Nat) (pins:List (EX×Obj)) (s:EL) (σ:St) (H:Hp) (E:EN->EL->Prop),Inv X pins σ H s->(∀b∈fp,iK X pins H b)->tn i s.heap->J.go i H->
  Ff (FE P w) X.A (IT (.ref it)) (λr s1=>∃u,r=some u/\
   Ff (FE P w) X.A (LH tg (.ref it) u) (λ_ s2=>∃x H',Inv X pins σ H' s2/\bi x u/\J.yld i H x H'/\tn (i+1) s2.heap/\∀b∈fp,H' b=none) E s1) E s
 done:∀(X:Cx),X.prog=P->X.w=w->X.K=K->X.calm=true->∀(i:Nat) (pins:List (EX×Obj)) (s:EL) (σ:St) (H:Hp) (E:EN->EL->Prop),Inv X pins σ H s->(∀b∈fp,iK X pins H b)->tn i s.heap->J.stop i H->
  Ff (FE P w) X.A (IT (.ref it)) (λr s1=>r=none/\Inv X pins σ H s1) E s
 self:∀(A:Fm) (i:Nat) (s:EL) (Q:EN->EL->Prop) (E:EN->EL->Prop),tn i s.heap->Q (.ref it) s->Ff (FE P w) A (M3 (.ref it)) Q E s
abbrev TI:=St->Hp->(It->Hp->Prop)->Prop
def PIE(X:Cx)(pins:List (EX×Obj))(σ:St)(tg:Expr)(R:It->Hp->Prop)(itv:EN)(s2:EL):Prop:=
 ∃(it:EX) (fp:List EX) (tn:Nat->GD->Prop) (J:It) (H':Hp),itv=.ref it/\Inv X pins σ H' s2/\rH X.prog X.w X.K tg J fp it tn/\tn 0 s2.heap/\(∀b∈fp,iK X pins H' b)/\R J H'
def PI(X:Cx)(tg iter:Expr)(wi:TI):Prop:=
 ∀(pins:List (EX×Obj)) (s:EL) (σ:St) (H:Hp) (R:It->Hp->Prop),Inv X pins σ H s->wi σ H R->
  Ff (FE X.prog X.w) X.A (HY iter X.env) (λv s1=>Ff (FE X.prog X.w) X.A (M3 v) (PIE X pins σ tg R) X.xe s1) X.xe s
theorem oN{M:Model}{A:Fm}{E:EN->EL->Prop}{s:EL}{tg:Expr}{it:EX}{u:EN}{o:Obj}{n:String}{vs:Array EN}{Q:Unit->EL->Prop}(ho:s.heap.get? it=some o)(hc:o.cls=.type n)(hd:o.data=.fields vs)
  (hn:["enumerate","zip","dict_itemiterator","dict_reverseitemiterator","odict_iterator","itertools.zip_longest","itertools.pairwise"].contains n=false) (hQ:Q () s):Ff M A (LH tg (.ref it) u) Q E s:=by
 unfold LH
 cases tg <;>first
  |exact EM hQ
  | (cases u <;>first
    |exact EM hQ
    | (refine EF (wpAny_load ho ?_)
       rw[hc,hd];show Ff M A (if (["enumerate","zip","dict_itemiterator","dict_reverseitemiterator","odict_iterator","itertools.zip_longest","itertools.pairwise"].contains n && vs[0]?==some (Kj _))=true then _ else _) Q E s
       rw[if_neg (by intro h;rw[hn,Bool.false_and]at h;cases h)]
       exact EM hQ))
def Itl(K:EI)(a:EX):It:=
 ⟨λi H=>∃xs x,SqL K H a xs/\xs[i]?=some x,λi H x H'=>H'=H/\∀xs,SqL K H a xs->xs[i]?=some x,λi H=>∃xs,SqL K H a xs/\xs.length<=i⟩
def Itt(K:EI)(a:EX):It:=
 ⟨λi H=>∃xs x,SqT K H a xs/\xs[i]?=some x,λi H x H'=>H'=H/\∀xs,SqT K H a xs->xs[i]?=some x,λi H=>∃xs,SqT K H a xs/\xs.length<=i⟩
def Itr(lo:Int)(n:Nat):It:=⟨λi _=>i<n,λi H x H'=>H'=H/\x=.int (lo+i),λi _=>n<=i⟩
theorem uK{P:EW}{w:Fl}{K:EI}{tg:Expr}(a it:EX):rH P w K tg (Itl K a) [it] it (λi h=>h.IsListIter it a i) where
 mem:=by simp
 obj:=λi h st b hb=>by
  have e:b=it:=by simpa using hb
  subst e;obtain⟨o,e,c,d⟩:=st;exact⟨o,e,λv z=>by rw[d]at z;cases z⟩
 keep:=λi h h' st k=>st.at λo e=>k it (by simp) o e
 item:=by
  intro X hP hw hK hc i pins s σ H E I hf st hg;subst hP hw hK;obtain⟨xs,x,hq,hx⟩:=hg;obtain⟨Pj,rv,p,hz⟩:=I.list hq;obtain⟨u,hu,ru⟩:=rv.get hx;obtain⟨f0,f1,f2,f3,f4,f5⟩:=hf it (by simp)
  refine wpAny_pyNext_list_item st p.isList (x:=u) (by simpa using hu) λh' Qa sb=>?_
  have I1:Inv X pins σ H {s with heap:=h' }:=I.turned (t':=s.toks) (λb o hb e=>(sb.2 b hb).trans e) f0 f1 f3 f4 f5
  obtain⟨o,e,c,d⟩:=id Qa;exact⟨u,rfl,oN (s:={s with heap:=h' }) e c d (by decide) ⟨x,H,I1,ru,⟨rfl,λys hy=>by rw[I.list_inj hy hq];exact hx⟩,Qa,λb hb=>(hf b hb).1⟩⟩
 done:=by
  intro X hP hw hK hc i pins s σ H E I hf st hg;subst hP hw hK;obtain⟨xs,hq,hx⟩:=hg;obtain⟨Pj,rv,p,hz⟩:=I.list hq;obtain⟨f0,f1,f2,f3,f4,f5⟩:=hf it (by simp)
  have hl:=rv.length;exact wpAny_pyNext_list_end (I.ok.hd hc) st p.isList (by simp;lia) λh' eb=>⟨rfl,I.turned (t':=s.toks) (λb o hb e=>eb b o hb e) f0 f1 f3 f4 f5⟩
 self:=λ_ _ _ _ _ st h=>wpAny_pyIter_listiter st h
theorem qO{P:EW}{w:Fl}{K:EI}{tg:Expr}(a it:EX):rH P w K tg (Itt K a) [it] it (λi h=>h.IsTupleIter it a i) where
 mem:=by simp
 obj:=λi h st b hb=>by
  have e:b=it:=by simpa using hb
  subst e;obtain⟨o,e,c,d⟩:=st;exact⟨o,e,λv z=>by rw[d]at z;cases z⟩
 keep:=λi h h' st k=>st.at λo e=>k it (by simp) o e
 item:=by
  intro X hP hw hK hc i pins s σ H E I hf st hg;subst hP hw hK;obtain⟨xs,x,hq,hx⟩:=hg;obtain⟨Pj,rv,p,hz⟩:=I.tuple hq;obtain⟨u,hu,ru⟩:=rv.get hx;obtain⟨f0,f1,f2,f3,f4,f5⟩:=hf it (by simp)
  refine wpAny_pyNext_tuple_item st (show s.heap.IsTuple a Pj.toArray from p) (x:=u) (by simpa using hu) λh' Qa sb=>?_
  have I1:Inv X pins σ H {s with heap:=h' }:=I.turned (t':=s.toks) (λb o hb e=>(sb.2 b hb).trans e) f0 f1 f3 f4 f5
  obtain⟨o,e,c,d⟩:=id Qa;exact⟨u,rfl,oN (s:={s with heap:=h' }) e c d (by decide) ⟨x,H,I1,ru,⟨rfl,λys hy=>by rw[I.tuple_inj hy hq];exact hx⟩,Qa,λb hb=>(hf b hb).1⟩⟩
 done:=by
  intro X hP hw hK hc i pins s σ H E I hf st hg;subst hP hw hK;obtain⟨xs,hq,hx⟩:=hg;obtain⟨Pj,rv,p,hz⟩:=I.tuple hq;obtain⟨f0,f1,f2,f3,f4,f5⟩:=hf it (by simp)
  have hl:=rv.length;exact wpAny_pyNext_tuple_end (I.ok.hd hc) st (show s.heap.IsTuple a Pj.toArray from p) (by simp;lia) λh' eb=>⟨rfl,I.turned (t':=s.toks) (λb o hb e=>eb b o hb e) f0 f1 f3 f4 f5⟩
 self:=λ_ _ _ _ _ st h=>wpAny_pyIter_tupleiter st h
theorem kj{P:EW}{w:Fl}{K:EI}{tg:Expr}(it:EX)(lo:Int)(n:Nat):rH P w K tg (Itr lo n) [it] it (λi h=>K5 h it (lo+(i:Nat) *1) ((n:Int)-(i:Nat)) 1) where
 mem:=by simp
 obj:=λi h st b hb=>by
  have e:b=it:=by simpa using hb
  subst e
  exact⟨_,st,λv z=>by
   have z':Data.fields _=Data.cell v:=z;cases z'⟩
 keep:=λi h h' st k=>k it (by simp) _ st
 item:=by
  intro X hP hw hK hc i pins s σ H E I hf st hg;subst hP hw hK;obtain⟨f0,f1,f2,f3,f4,f5⟩:=hf it (by simp)
  have W:=Walks.range (prog:=X.prog) (w:=X.w) (I.ok.hd hc) it lo 1 n;refine W.item i s _ _ hg st λv h' tk hv Qa kk=>?_
  obtain⟨t,rfl⟩:=hv;have I1:Inv X pins σ H {s with heap:=h',toks:=tk }:=I.turned (λb o hb e=>kk b o (by simpa using hb) e) f0 f1 f3 f4 f5
  refine⟨_,rfl,oN (s:={s with heap:=h',toks:=tk }) (n:="range_iterator") Qa rfl rfl (by decide) ⟨.int (lo+i),H,I1,⟨t,?_⟩,⟨rfl,rfl⟩,Qa,λb hb=>(hf b hb).1⟩⟩
  rw[K6]
 done:=by
  intro X hP hw hK hc i pins s σ H E I hf st hg;subst hP hw hK;obtain⟨f0,f1,f2,f3,f4,f5⟩:=hf it (by simp)
  exact Lu (I.ok.hd hc) st (by have:n<=i:=hg;lia) λh' eb=>⟨rfl,I.turned (t':=s.toks) (λb o hb e=>eb b o hb e) f0 f1 f3 f4 f5⟩
 self:=λ_ _ _ _ _ st h=>Lv st h
section
variable {X:Cx}{tg:Expr}
def Dg(K:EI)(tl:TE):TI:=λσ H R=>tl σ H λx H1=>∃a,x=.ref a/\(∃xs,SqL K H1 a xs)/\R (Itl K a) H1
def En(K:EI)(tl:TE):TI:=λσ H R=>tl σ H λx H1=>∃a,x=.ref a/\(∃xs,SqT K H1 a xs)/\R (Itt K a) H1
theorem zP{l:Expr}{tl:TE}(hl:PE X l tl):PI X tg l (Dg X.K tl):=by
 intro pins s σ H R I h;refine thn (hl pins s σ H _ I h) λv s1 ⟨x,H1,I1,r1,q1⟩=>?_
 obtain⟨a,e,⟨xs,hq⟩,q⟩:=q1;subst e;cases r1;obtain⟨Pj,rv,p,hz⟩:=I1.list hq;refine G_ p.isList ?_;refine⟨s1.heap.objs.size,[s1.heap.objs.size],_,_,H1,rfl,I1.kept (t':=s1.toks) λb o e=>EK _ e,uK a _,⟨_,E3 _ rfl,rfl,rfl⟩,λb hb=>?_,q⟩
 have e:b=s1.heap.objs.size:=by simpa using hb
 subst e;exact I1.fpOk (EU _) (I1.hok.fresh (EU _))
theorem CS{l:Expr}{tl:TE}(hl:PE X l tl):PI X tg l (En X.K tl):=by
 intro pins s σ H R I h;refine thn (hl pins s σ H _ I h) λv s1 ⟨x,H1,I1,r1,q1⟩=>?_
 obtain⟨a,e,⟨xs,hq⟩,q⟩:=q1;subst e;cases r1;obtain⟨Pj,rv,p,hz⟩:=I1.tuple hq;refine wpAny_pyIter_tuple (show s1.heap.IsTuple a Pj.toArray from p) ?_
 refine⟨s1.heap.objs.size,[s1.heap.objs.size],_,_,H1,rfl,I1.kept (t':=s1.toks) λb o e=>EK _ e,qO a _,⟨_,E3 _ rfl,rfl,rfl⟩,λb hb=>?_,q⟩
 have e:b=s1.heap.objs.size:=by simpa using hb
 subst e;exact I1.fpOk (EU _) (I1.hok.fresh (EU _))
theorem xG{pins:List (EX×Obj)}{σ:St}{H:Hp}{s:EL}{R:It->Hp->Prop}{E:EN->EL->Prop}{lo hi:Int}{t u v:Tok}{tk:Nat}(I:Inv X pins σ H s)(h1:-(2 ^ 62)<=lo)(h2:lo<2 ^ 62)(h3:-(2 ^ 62)<=hi)(h4:hi<2 ^ 62)
  (q:R (Itr lo (hi-lo).toNat) H):Ff (FE X.prog X.w) X.A (M3 (.ref s.heap.objs.size)) (PIE X pins σ tg R) E {s with heap:=s.heap.push {cls:=.type "range",data:=.fields #[.int lo t,.int hi u,.int 1 v] },toks:=tk }:=by
 refine Kk (IsRange.new ..) (small_one h1 h2 h3 h4) ?_;have I1:Inv X pins σ H {s with heap:=s.heap.push {cls:=.type "range",data:=.fields #[.int lo t,.int hi u,.int 1 v] },toks:=tk }:=I.kept λb o e=>EK _ e
 refine⟨(s.heap.push {cls:=.type "range",data:=.fields #[.int lo t,.int hi u,.int 1 v] }).objs.size,[(s.heap.push {cls:=.type "range",data:=.fields #[.int lo t,.int hi u,.int 1 v] }).objs.size],_,_,H,rfl,
  I1.kept (t':=tk) λb o e=>EK _ e,kj _ lo (hi-lo).toNat,?_,λb hb=>?_,q⟩
 ·have e1:lo+((0:Nat):Int) *1=lo:=by simp
  have e2:(((hi-lo).toNat:Nat):Int)-((0:Nat):Int)=Builtin.Range.rangeSize lo hi 1:=by rw[rangeSize_one];split <;>lia
  show K5 _ _ (lo+((0:Nat):Int) *1) ((((hi-lo).toNat:Nat):Int)-((0:Nat):Int)) 1;rw[e1,e2];exact E3 _ rfl
 ·have e:b=(s.heap.push {cls:=.type "range",data:=.fields #[.int lo t,.int hi u,.int 1 v] }).objs.size:=by simpa using hb
  subst e;exact I1.fpOk (EU _) (I1.hok.fresh (EU _))
def Dz(ta:TA):TI:=λσ H R=>ta σ H λvs H1=>∃j:Int,vs=[.int j]/\-(2 ^ 62)<=j/\j<2 ^ 62/\R (Itr 0 j.toNat) H1
theorem vf{a:Expr}{ta:TA}{p pos:Pos}(hg:Gl X "range")(hm:X.mg "range"=none)(ha:PA X [a] ta)(hs:EZ [a] X.env=[(false,HY a X.env)]:=by rfl):PI X tg (.Call (.Name "range" p) [a] [] pos) (Dz ta):=by
 intro pins s σ H R I h;refine Call_ (cJ I hg hm ML (PyProof.Rows.callWith_type1 (thn (ha pos pins s σ H _ I h) λus s1 ⟨vs,H1,I1,r1,q1⟩=>?_) hs rfl))
 obtain⟨j,e,q1,q2,q⟩:=q1;subst e;cases r1 with
 |cons r rr=>
  cases rr;obtain⟨t,rfl⟩:=r;exact call_range_1 (xG I1 (by lia) (by lia) q1 q2 (by simpa using q))
def Eu(wi:TI)(g:TG)(tb:TS):TS:=λD σ H=>wi σ H λJ H1=>∃W:Nat->Nat->St->Hp->Prop,(∃m,W 0 m σ H1)/\∀i m σ H,W i m σ H->
 (J.stop i H/\D.nx σ H)\/(J.go i H/\∃N:St->Hp->Prop,(∀Pz H',N Pz H'->∃m',m'<m/\W (i+1) m' Pz H')/\∀x H',J.yld i H x H'->g x σ H' λσ2 H2=>tb {D with nx:=N,ct:=N,bk:=D.nx } σ2 H2)
def jO(fp:List EX)(h:GD):List (EX×Obj):=fp.filterMap λb=>(h.get? b).map λo=>(b,o)
theorem dm{fp:List EX}{h:GD}{b:EX}{o:Obj}(hb:b∈fp)(e:h.get? b=some o):(b,o)∈jO fp h:=Kl.mpr ⟨b,hb,by rw[e];rfl⟩
theorem vv{fp:List EX}{h:GD}{p:EX×Obj}(hp:p∈jO fp h):p.1∈fp/\h.get? p.1=some p.2:=by
 obtain⟨b,hb,e⟩:=Kl.mp hp;cases q:h.get? b with
 |none=>rw[q]at e;cases e
 |some o=>
  rw[q]at e;have e':(b,o)=p:=FY e;subst e';exact⟨hb,q⟩
theorem Inv.pinned{pins:List (EX×Obj)}{σ:St}{H:Hp}{s:EL}{fp:List EX}(I:Inv X pins σ H s)(hf:∀b∈fp,iK X pins H b)(ho:∀b∈fp,∃o,s.heap.get? b=some o/\∀v,o.data≠.cell v):Inv X (pins++jO fp s.heap) σ H s:=
 I.pins_of λp hp=>(Fx.mp hp).elim (λz=>I.pin p (E_ _ z)) λz=>by
  obtain⟨hb,e⟩:=vv z;obtain⟨f0,f1,f2,_⟩:=hf p.1 hb;obtain⟨o,e',d⟩:=ho p.1 hb;rw[e]at e';cases e';exact⟨e,f0,f1,f2,d⟩
theorem Inv.unpinned{pins pl:List (EX×Obj)}{σ:St}{H:Hp}{s:EL}(I:Inv X (pins++pl) σ H s):Inv X pins σ H s:=I.pins_of λp hp=>I.pin p (E_ _ (Fv _ hp))
theorem BD{iter:Expr}{PV:List Hc}{wi:TI}{g:TG}{tb:TS}{pos:Pos}(hp:LG (FE X.prog X.w) X.A X.env X.xe)(hc:X.calm=true)(hi:PI X tg iter wi)(hg:PG X tg g)(hb:PSs X PV tb)
  (hs:∀x,Gf iter X.env x=pure x:=by intro _;rfl):PS X (.For tg iter PV [] pos) (Eu wi g tb):=by
 intro pins s σ H D I h;refine wpAny_For (thn (hi pins s σ H _ I h) λv s1 h1=>thn h1 λitv s2 h2=>?_) hs
 obtain⟨it,fp,tn,J,H2,e,I2,T,st2,f2,W,⟨m0,w0⟩,turn⟩:=h2;subst e;have stat:∀{H':Hp},(∀b∈fp,H' b=none)->∀b∈fp,iK X pins H' b:=λhn b hb=>⟨hn b hb,(f2 b hb).2⟩
 refine codeAny_forLoop_any (λn s'=>∃i Pz H',Inv X pins Pz H' s'/\tn i s'.heap/\(∀b∈fp,H' b=none)/\W i n Pz H') ?_ m0 ⟨0,σ,H2,I2,st2,λb hb=>(f2 b hb).1,w0⟩
 rintro n s3 ⟨i,Rn,H3,I3,st3,fr3,w3⟩;rcases turn i n Rn H3 w3 with ⟨stop,qn⟩ |⟨go,N,hN,step⟩
 ·refine HZ hp (thn (T.done X rfl rfl rfl hc i pins s3 Rn H3 X.xe I3 (stat fr3) st3 stop) λr s4 ⟨hr,I4⟩=>?_)
  subst hr;exact LF ⟨Rn,H3,I4,qn⟩
 ·refine HZ hp (thn (T.item X rfl rfl rfl hc i pins s3 Rn H3 X.xe I3 (stat fr3) st3 go) λr s4 ⟨u,hr,h4⟩=>?_)
  subst hr;refine HZ hp (thn h4 λ_ s5 ⟨x,H5,I5,r5,y5,RN,fr5⟩=>?_)
  have I5':=I5.pinned (stat fr5) (T.obj _ _ RN);refine HZ hp (thn (hg _ s5 Rn H5 x u _ I5' r5 (step x H5 y5)) λ_ s6 ⟨σ6,H6,I6,q6⟩=>?_)
  refine HZ hp (thn (hb _ s6 σ6 H6 _ I6 q6) λf s7 q7=>?_)
  have again:∀{Ro:St}{H7:Hp},Inv X (pins++jO fp s5.heap) Ro H7 s7->N Ro H7->∃m,m<n/\∃i Pz H',Inv X pins Pz H' s7/\tn i s7.heap/\(∀b∈fp,H' b=none)/\W i m Pz H':=λ{Ro H7} I7 n7=>by
   obtain⟨m',hm,w7⟩:=hN Ro H7 n7;refine⟨m',hm,i+1,Ro,H7,I7.unpinned,T.keep _ _ _ RN λb hb o e=>(I7.pin (b,o) (E_ _ (E_ _ (dm hb e)))).1,λb hb=>?_,w7⟩
   obtain⟨o,e,d⟩:=T.obj _ _ RN b hb;exact (I7.pin (b,o) (E_ _ (E_ _ (dm hb e)))).2.1
  cases f with
  |next=>obtain⟨Ro,H7,I7,n7⟩:=q7;exact again I7 n7
  |cont=>obtain⟨Ro,H7,I7,n7⟩:=q7;exact again I7 n7
  |brk=>obtain⟨Ro,H7,I7,q7⟩:=q7;exact⟨Ro,H7,I7.unpinned,q7⟩
  |ret v=>obtain⟨x7,Ro,H7,I7,r7,q7⟩:=q7;exact⟨x7,Ro,H7,I7.unpinned,r7,q7⟩
end
abbrev R2:=V->V->Hp->VK->Prop
def OpR(X:Cx)(f:EN->EN->Sem EN)(r:R2):Prop:=
 ∀(pins:List (EX×Obj)) (s:EL) (σ:St) (H:Hp) (x y:V) (v u:EN) (Q:VK),Inv X pins σ H s->bi x v->bi y u->r x y H Q->
  Ff (FE X.prog X.w) X.A (f v u) (EP X pins σ Q) X.xe s
def UnR(X:Cx)(f:EN->Sem EN)(r:V->Hp->VK->Prop):Prop:=
 ∀(pins:List (EX×Obj)) (s:EL) (σ:St) (H:Hp) (x:V) (v:EN) (Q:VK),Inv X pins σ H s->bi x v->r x H Q->
  Ff (FE X.prog X.w) X.A (f v) (EP X pins σ Q) X.xe s
def cR(X:Cx)(f:EN)(r:List V->Hp->VK->Prop):Prop:=
 ∀(pins:List (EX×Obj)) (s:EL) (σ:St) (H:Hp) (xs:List V) (us:List EN) (Q:VK),Inv X pins σ H s->aU xs us->r xs H Q->
  Ff (FE X.prog X.w) X.A (call f us) (EP X pins σ Q) X.xe s
def tOp(r:R2)(ta tb:TE):TE:=λσ H Q=>ta σ H λx H1=>tb σ H1 λy H2=>r x y H2 Q
def tUn(r:V->Hp->VK->Prop)(ta:TE):TE:=λσ H Q=>ta σ H λx H1=>r x H1 Q
def rI(C:Int->Int->Prop)(g:Int->Int->V):R2:=λx y H Q=>∃i j,x=.int i/\y=.int j/\C i j/\Q (g i j) H
def rI0(g:Int->Int->V):R2:=λx y H Q=>∃i j,x=.int i/\y=.int j/\Q (g i j) H
def rU(g:Int->V):V->Hp->VK->Prop:=λx H Q=>∃i,x=.int i/\Q (g i) H
section
variable {X:Cx}{a b c:Expr}{tc:TE}
theorem CD(ha:PE X a ta)(hb:PE X b tb){pins:List (EX×Obj)}{s:EL}{σ:St}{H:Hp}{R:V->V->Hp->Prop}(I:Inv X pins σ H s)
  (h:ta σ H λx H1=>tb σ H1 λy H2=>R x y H2) {Q:EN->EL->Prop}{f:EN->EN->Sem EN}
  (hf:∀v u s2 x y H2,Inv X pins σ H2 s2->bi x v->bi y u->R x y H2->Ff (FE X.prog X.w) X.A (f v u) Q X.xe s2):
  Ff (FE X.prog X.w) X.A (HY a X.env) (λv Po=>Ff (FE X.prog X.w) X.A (HY b X.env) (λu RO=>Ff (FE X.prog X.w) X.A (f v u) Q X.xe RO) X.xe Po) X.xe s:=by
 refine thn (ha pins s σ H _ I h) λv s1 ⟨x,H1,I1,r1,q1⟩=>?_
 refine thn (hb pins s1 σ H1 _ I1 q1) λu s2 ⟨y,H2,I2,r2,q2⟩=>?_
 exact hf v u s2 x y H2 I2 r1 r2 q2
theorem yf{op:Ov}{r:R2}(ho:OpR X (JJ op) r)(ha:PE X a ta)(hb:PE X b tb):PE X (.BinOp a op b pos) (tOp r ta tb):=by
 intro pins s σ H Q I h;exact wpAny_BinOp (CD ha hb I h λv u s2 x y H2 I2 rx ry q=>ho pins s2 σ H2 x y v u Q I2 rx ry q)
theorem DK{op:UnaryOp}{r:V->Hp->VK->Prop}(ho:UnR X (unaryOp op) r)(ha:PE X a ta):PE X (.UnaryOp op a pos) (tUn r ta):=by
 intro pins s σ H Q I h;exact UnaryOp_ (thn (ha pins s σ H _ I h) λv s1 ⟨x,H1,I1,r1,q1⟩=>ho pins s1 σ H1 x v Q I1 r1 q1)
theorem opI{f:EN->EN->Sem EN}{C:Int->Int->Prop}{g:Int->Int->Int}
  (rule:∀(i j:Int) (t u:Tok) (s:EL) (Q:EN->EL->Prop) (E:EN->EL->Prop),C i j->Q (.int (g i j) s.toks) {s with toks:=s.toks+1 }->Ff (FE X.prog X.w) X.A (f (.int i t) (.int j u)) Q E s):
  OpR X f (rI C λi j=>.int (g i j)):=by
 intro pins s σ H x y v u Q I rx ry h;obtain⟨i,j,rfl,rfl,hc,q⟩:=h;obtain⟨t,rfl⟩:=rx;obtain⟨t',rfl⟩:=ry;exact rule i j t t' s _ _ hc ⟨.int (g i j),H,I.tok _,⟨_,rfl⟩,q⟩
theorem DM{f:EN->EN->Sem EN}{g:Int->Int->Int}
  (rule:∀(i j:Int) (t u:Tok) (s:EL) (Q:EN->EL->Prop) (E:EN->EL->Prop),Q (.int (g i j) s.toks) {s with toks:=s.toks+1 }->Ff (FE X.prog X.w) X.A (f (.int i t) (.int j u)) Q E s):
  OpR X f (rI0 λi j=>.int (g i j)):=by
 intro pins s σ H x y v u Q I rx ry h;obtain⟨i,j,rfl,rfl,q⟩:=h;obtain⟨t,rfl⟩:=rx;obtain⟨t',rfl⟩:=ry;exact rule i j t t' s _ _ ⟨.int (g i j),H,I.tok _,⟨_,rfl⟩,q⟩
theorem BK{f:EN->EN->Sem EN}{g:Int->Int->Bool}
  (rule:∀(i j:Int) (t u:Tok) (s:EL) (Q:EN->EL->Prop) (E:EN->EL->Prop),Q (.bool (g i j)) s->Ff (FE X.prog X.w) X.A (f (.int i t) (.int j u)) Q E s):
  OpR X f (rI0 λi j=>.bl (g i j)):=by
 intro pins s σ H x y v u Q I rx ry h;obtain⟨i,j,rfl,rfl,q⟩:=h;obtain⟨t,rfl⟩:=rx;obtain⟨t',rfl⟩:=ry;exact rule i j t t' s _ _ ⟨.bl (g i j),H,I,rfl,q⟩
def Dn(i j:Int):Prop:=0<=j/\j<=1000000/\i.natAbs<2 ^ 64
theorem BG:OpR X (JJ .Add) (rI0 λi j=>.int (i+j)):=DM λ_ _ _ _ _ _ _ q=>add_int q
theorem Cc:OpR X (JJ .Sub) (rI0 λi j=>.int (i-j)):=DM λ_ _ _ _ _ _ _ q=>sub_int q
theorem CI:OpR X (JJ .Mod) (rI (λ_ j=>0<j) λi j=>.int (i%j)):=opI λi j _ _ _ _ _ hc q=>by
 have h1:(0:Int)<j:=hc;exact mod_int' (by lia) (by rw[Int.fmod_eq_emod_of_nonneg i (by lia)];exact q)
theorem BI:OpR X (JJ .Pow) (rI Dn λi j=>.int (i ^ j.toNat)):=opI λ_ _ _ _ _ _ _ hc q=>pow_int_small hc.1 hc.2.1 hc.2.2 q
theorem unI{f:EN->Sem EN}{g:Int->Int}
  (rule:∀(i:Int) (t:Tok) (s:EL) (Q:EN->EL->Prop) (E:EN->EL->Prop),Q (.int (g i) s.toks) {s with toks:=s.toks+1 }->Ff (FE X.prog X.w) X.A (f (.int i t)) Q E s):
  UnR X f (rU λi=>.int (g i)):=by
 intro pins s σ H x v Q I rx h;obtain⟨i,rfl,q⟩:=h;obtain⟨t,rfl⟩:=rx;exact rule i t s _ _ ⟨.int (g i),H,I.tok _,⟨_,rfl⟩,q⟩
theorem Bs:UnR X (unaryOp .USub) (rU λi=>.int (-i)):=unI λ_ _ _ _ _ q=>neg_int q
end
def DH:V->V->Bool
 | .non,.non=>true | .non,.int _=>true | .int _,.non=>true | .non,.bl _=>true | .bl _,.non=>true | .non,.str _=>true | .str _,.non=>true
 | .int _,.int _=>true | .bl _,.bl _=>true | .str _,.str _=>true | .byt _,.byt _=>true
 | .int _,.str _=>true | .str _,.int _=>true | .bl _,.str _=>true | .str _,.bl _=>true
 |_,_=>false
def rEq:R2:=λx y H Q=>DH x y=true/\Q (.bl (decide (x=y))) H
def rNe:R2:=λx y H Q=>DH x y=true/\Q (.bl (!decide (x=y))) H
theorem jv{i j:Int}:decide (V.int i=V.int j)=(i==j):=by
 rw[Hf];simp
theorem wd{i j:Bool}:decide (V.bl i=V.bl j)=(i==j):=by
 rw[Hf];simp
theorem uc{i j:Str}:decide (V.str i=V.str j)=(i==j):=by
 rw[Hf];simp
theorem rQ{i j:Array UInt8}:decide (V.byt i=V.byt j)=(i.toList==j.toList):=by
 rw[Hf];cases i;cases j;simp
section
variable {X:Cx}{a b c:Expr}{tc:TE}
theorem a9{pins:List (EX×Obj)}{σ:St}{H:Hp}{s:EL}{Q:VK}{k k':Bool}(I:Inv X pins σ H s)(q:Q (.bl k) H)(e:k=k'):EP X pins σ Q (.bool k') s:=by
 subst e;exact⟨.bl k,H,I,rfl,q⟩
theorem Dk:OpR X (F_ .Eq) rEq:=by
 intro pins s σ H x y v u Q I rx ry h;obtain⟨hs,q⟩:=h;cases x with
 |non=>
  cases rx;cases y with
  |non=>cases ry;exact NK (a9 I q (by simp))
  |bl j=>cases ry;exact NL (a9 I q (by simp))
  |int j=>obtain⟨t',rfl⟩:=ry;exact N_ (a9 I q (by simp))
  |str j=>obtain⟨t',rfl⟩:=ry;exact Oa (a9 I q (by simp))
  |_=>exact absurd (show false=true from hs) Fn
 |bl i=>
  cases rx;cases y with
  |non=>cases ry;exact NM (a9 I q (by simp))
  |bl j=>cases ry;exact eq_bool (a9 I q wd)
  |str j=>obtain⟨t',rfl⟩:=ry;exact NN (a9 I q (by simp))
  |_=>exact absurd (show false=true from hs) Fn
 |int i=>
  obtain⟨t,rfl⟩:=rx;cases y with
  |non=>cases ry;exact Ob (a9 I q (by simp))
  |int j=>obtain⟨t',rfl⟩:=ry;exact eq_int (a9 I q jv)
  |str j=>obtain⟨t',rfl⟩:=ry;exact Oc (a9 I q (by simp))
  |_=>exact absurd (show false=true from hs) Fn
 |str i=>
  obtain⟨t,rfl⟩:=rx;cases y with
  |non=>cases ry;exact Od (a9 I q (by simp))
  |bl j=>cases ry;exact NO (a9 I q (by simp))
  |int j=>obtain⟨t',rfl⟩:=ry;exact Oe (a9 I q (by simp))
  |str j=>obtain⟨t',rfl⟩:=ry;exact eq_str (a9 I q uc)
  |_=>exact absurd (show false=true from hs) Fn
 |byt i=>
  obtain⟨t,rfl⟩:=rx;cases y with
  |byt j=>obtain⟨t',rfl⟩:=ry;exact PySem.W.eq_bytes (a9 I q rQ)
  |_=>exact absurd (show false=true from hs) Fn
 |_=>cases y <;>exact absurd (show false=true from hs) Fn
theorem DT:OpR X (F_ .NotEq) rNe:=by
 intro pins s σ H x y v u Q I rx ry h;obtain⟨hs,q⟩:=h;cases x with
 |non=>
  cases rx;cases y with
  |non=>cases ry;exact NP (a9 I q (by simp))
  |bl j=>cases ry;exact NQ (a9 I q (by simp))
  |int j=>obtain⟨t',rfl⟩:=ry;exact Of (a9 I q (by simp))
  |str j=>obtain⟨t',rfl⟩:=ry;exact Og (a9 I q (by simp))
  |_=>exact absurd (show false=true from hs) Fn
 |bl i=>
  cases rx;cases y with
  |non=>cases ry;exact NR (a9 I q (by simp))
  |bl j=>cases ry;exact ne_bool (a9 I q (congrArg not wd))
  |str j=>obtain⟨t',rfl⟩:=ry;exact NS (a9 I q (by simp))
  |_=>exact absurd (show false=true from hs) Fn
 |int i=>
  obtain⟨t,rfl⟩:=rx;cases y with
  |non=>cases ry;exact Oh (a9 I q (by simp))
  |int j=>obtain⟨t',rfl⟩:=ry;exact ne_int (a9 I q (congrArg not jv))
  |str j=>obtain⟨t',rfl⟩:=ry;exact Oi (a9 I q (by simp))
  |_=>exact absurd (show false=true from hs) Fn
 |str i=>
  obtain⟨t,rfl⟩:=rx;cases y with
  |non=>cases ry;exact Oj (a9 I q (by simp))
  |bl j=>cases ry;exact NT (a9 I q (by simp))
  |int j=>obtain⟨t',rfl⟩:=ry;exact Ol (a9 I q (by simp))
  |str j=>obtain⟨t',rfl⟩:=ry;exact ne_str (a9 I q (congrArg not uc))
  |_=>exact absurd (show false=true from hs) Fn
 |byt i=>
  obtain⟨t,rfl⟩:=rx;cases y with
  |byt j=>obtain⟨t',rfl⟩:=ry;exact PySem.W.ne_bytes (a9 I q (congrArg not rQ))
  |_=>exact absurd (show false=true from hs) Fn
 |_=>cases y <;>exact absurd (show false=true from hs) Fn
theorem Ds:OpR X (F_ .Lt) (rI0 λi j=>.bl (decide (i<j))):=BK λ_ _ _ _ _ _ _ q=>lt_int q
theorem Dv:OpR X (F_ .LtE) (rI0 λi j=>.bl (decide (i<=j))):=BK λ_ _ _ _ _ _ _ q=>le_int q
theorem DG:OpR X (F_ .Gt) (rI0 λi j=>.bl (decide (j<i))):=BK λ_ _ _ _ _ _ _ q=>gt_int q
theorem yw(b:Expr){op:OM}(h:op≠.In:=by decide)(h2:op≠.NotIn:=by decide):Ji op b=false:=by
 have e1:(op==CmpOp.In)=false:=by cases op <;>first |rfl |exact absurd rfl h
 have e2:(op==CmpOp.NotIn)=false:=by cases op <;>first |rfl |exact absurd rfl h2
 cases b <;>simp[Ji,e1,e2]
theorem Ah{op:OM}{r:R2}(ho:OpR X (F_ op) r)(ha:PE X a ta)(hb:PE X b tb)(hm:Ji op b=false):PE X (.Compare a [op] [b] pos) (tOp r ta tb):=by
 intro pins s σ H Q I h;exact wpAny_Compare1 (CD ha hb I h λv u s2 x y H2 I2 rx ry q=>ho pins s2 σ H2 x y v u Q I2 rx ry q) hm
def Dp(t:TE):TT:=λσ H Q=>t σ H λx H'=>∃k,x=.bl k/\Q k H'
theorem As{op:OM}{r:R2}(ho:OpR X (F_ op) r)(ha:PE X a ta)(hb:PE X b tb)(hm:Ji op b=false):PT X (.Compare a [op] [b] pos) (Dp (tOp r ta tb)):=by
 intro pins s σ H Q I h
 refine wpAny_isTrue_Compare1 (thn (ha pins s σ H _ I h) λv s1 ⟨x,H1,I1,r1,q1⟩=>thn (hb pins s1 σ H1 _ I1 q1) λu s2 ⟨y,H2,I2,r2,q2⟩=>
  thn (ho pins s2 σ H2 x y v u _ I2 r1 r2 q2) λc s3 ⟨z,H3,I3,r3,k,e,q3⟩=>?_) hm
 subst e;cases r3;exact GT ⟨H3,I3,q3⟩
def Cb(r r':R2)(ta tb tc:TE):TE:=λσ H Q=>ta σ H λx H1=>tb σ H1 λy H2=>r x y H2 λz H3=>∃k,z=.bl k/\
 (if k=true then tc σ H3 λw' H4=>r' y w' H4 Q else Q (.bl false) H3)
theorem xQ{op op':OM}{r r':R2}(ho:OpR X (F_ op) r)(Qu:OpR X (F_ op') r')(ha:PE X a ta)(hb:PE X b tb)(hc:PE X c tc)
  (hm:lastMarks [op,op'] [b,c]=false:=by with_unfolding_all rfl):PE X (.Compare a [op,op'] [b,c] pos) (Cb r r' ta tb tc):=by
 intro pins s σ H Q I h
 refine Compare_chain (thn (ha pins s σ H _ I h) λv s1 ⟨x,H1,I1,r1,q1⟩=>chain_link (thn (hb pins s1 σ H1 _ I1 q1) λu s2 ⟨y,H2,I2,r2,q2⟩=>
  thn (ho pins s2 σ H2 x y v u _ I2 r1 r2 q2) λd s3 ⟨z,H3,I3,r3,k,e,q3⟩=>?_)) hm
 subst e;cases r3;refine GT ?_;cases k with
 |false=>exact ite_ff ⟨.bl false,H3,I3,rfl,q3⟩
 |true=>exact ite_tt (chain_last (thn (hc pins s3 σ H3 _ I3 q3) λw' s4 ⟨z',H4,I4,r4,q4⟩=>Qu pins s4 σ H4 y z' u w' Q I4 r2 r4 q4))
theorem qY:(sizeLine:Nat)<2 ^ 63:=by rw[Gg];decide
theorem ft{x:V}{us:List EN}(r:aU [x] us):∃u,us=[u]/\bi x u:=by
 cases r with
 |cons r1 r2=>cases r2;exact⟨_,rfl,r1⟩
theorem iE{x y:V}{us:List EN}(r:aU [x,y] us):∃u w',us=[u,w']/\bi x u/\bi y w':=by
 cases r with
 |cons r1 r2=>
  cases r2 with
  |cons r3 r4=>cases r4;exact⟨_,_,rfl,r1,r3⟩
theorem vV:cR X (.builtin "abs") (λxs H Q=>∃i,xs=[.int i]∧Q (.int (if i<0 then -i else i)) H):=by
 intro pins s σ H xs us Q I r h;obtain⟨i,rfl,q⟩:=h;obtain⟨u,rfl,t,rfl⟩:=ft r;exact call_abs_int λu tk=>⟨.int (if i<0 then -i else i),H,I.tok _,⟨_,rfl⟩,q⟩
theorem ur(hc:X.calm=true):cR X (.builtin "max") (λxs H Q=>∃i j,xs=[.int i,.int j]∧Q (.int (if j >i then j else i)) H):=by
 intro pins s σ H xs us Q I r h;obtain⟨i,j,rfl,q⟩:=h;obtain⟨u,w',rfl,⟨t,rfl⟩,⟨t',rfl⟩⟩:=iE r;refine max_two_ints (I.ok.hd hc) λh' tk k=>⟨_,H,I.kept k,?_,q⟩
 by_cases hj:j >i
 ·rw[if_pos hj,if_pos hj];exact⟨_,rfl⟩
 ·rw[if_neg hj,if_neg hj];exact⟨_,rfl⟩
theorem vd(hc:X.calm=true):cR X (.builtin "min") (λxs H Q=>∃i j,xs=[.int i,.int j]∧Q (.int (if j<i then j else i)) H):=by
 intro pins s σ H xs us Q I r h;obtain⟨i,j,rfl,q⟩:=h;obtain⟨u,w',rfl,⟨t,rfl⟩,⟨t',rfl⟩⟩:=iE r;refine min_two_ints (I.ok.hd hc) λh' tk k=>⟨_,H,I.kept k,?_,q⟩
 by_cases hj:j<i
 ·rw[if_pos hj,if_pos hj];exact⟨_,rfl⟩
 ·rw[if_neg hj,if_neg hj];exact⟨_,rfl⟩
end
structure B3(h:GD)(x dx C:EX)(mA:Str->Option EN):Prop where
 obj:h.get? x=some (LD C dx)
 ns:h.Ns1 dx mA
 ne:dx≠x
theorem vH{h:GD}{dx:EX}{mA:Str->Option EN}(n:h.Ns1 dx mA):∃od,h.get? dx=some od/\∀name,Mi name od=some (mA name):=by
 obtain⟨o,es,ep,ho,hd,hk,_,hm⟩:=n;refine⟨o,ho,λname=>?_⟩
 have e:=hm name;unfold nsFind findBy at e;rw[<-Array.find?_toList]at e;unfold Mi;rw[hd];dsimp only;split
 ·rename_i y q
  rw[q]at e;exact congrArg some e
 ·rename_i q
  rw[q]at e
  have a:es.toList.any (·.refKey)=false:=by
   rw[List.any_eq_false];intro y hy;obtain⟨z,t,hkey⟩:=hk y (J1.mp hy);simp[DictEntry.refKey,hkey]
  have a':¬ es.toList.any (·.refKey)=true:=by rw[a];exact Fn
  rw[if_neg a'];exact congrArg some e
theorem B3.look{h:GD}{x dx C:EX}{mA:Str->Option EN}(I:B3 h x dx C mA):∃od,PySem.W.InstAt h x (LD C dx) C (some od)/\∀name,Mi name od=some (mA name):=
 let ⟨od,ho,hl⟩:=vH I.ns
 ⟨od,⟨I.obj,rfl,rfl,ho⟩,hl⟩
variable {dx:EX}{C:EX}
section
variable {prog:EW}{w:Fl}{A:Fm}{K:EI}{x f:EX}{mA:Str→Option EN}{name:Str}{v:EN}
end
section
variable {P:EW}{w:Fl}{h:GD}{a:EX}{fs fs':List (Str×V)}
theorem zN(hok:HOk P w H h)(e:H a=some (.ins C dx fs)):∃mA,B3 h a dx C mA/\(∀f,BA (fs.lookup f) (mA f))/\OJ mA (fs.map (·.1))/\fs.length<=1000/\H dx=some (.own a):=by
 obtain⟨d,z,ne,ob,mA,n,r,q⟩:=(show cw P w H h a (.ins C dx fs) from hok a _ e)
 exact⟨mA,⟨ob,n,ne⟩,r,q,z,d⟩
end
structure Cls(K:EI)(C:EX):Prop where
 pg:M_ K C Str.empty=true
 hd:PySem.W.hasDictIn K C=true
 po:PySem.W.plainOver K C=true
 sa:JK K (.ref C) "__setattr__"=some (some (.builtin "object.__setattr__"))
theorem Cls.get{K:EI}{C:EX}(c:Cls K C)(f:Str):M_ K C f=true:=c.pg
structure Con(K:EI)(C:EX)(f:Str)(v:V)(u:EN):Prop where
 at_:JK K (.ref C) f=some (some u)
 rel:bi v u
 get:MM K u "__get__"=some none
 cp:PySem.W.copiedNames.contains f=false
structure Ey(K:EI)(C:EX)(m:Str)(f:EX):Prop where
 at_:JK K (.ref C) m=some (some (.ref f))
 fn:ON K (.ref f)=true
 kp:Hd K (.ref f)=true
section
variable {X:Cx}{a:EX}{fs:List (Str×V)}{f:Str}{v:V}{A:Fm}
variable {o e Qj:Expr}{PL RQ:Pos}{tv:TE}
end
section
variable {X:Cx}{A:Fm}{Q:EN→EL→Prop}{c:EN}{b:Bool}
inductive jg (K:EI) (H:Hp):V->EN->Prop where
 |non:jg K H .non (.type "NoneType")
 |bl (x:Bool):jg K H (.bl x) (.type "bool")
 |int (i:Int):jg K H (.int i) (.type "int")
 |str (x:Str):jg K H (.str x) (.type "str")
 |flt (x:UInt64):jg K H (.flt x) (.type "float")
 |lst {a:EX}{xs:List V} (e:H a=some (.lst xs)):jg K H (.ref a) (.type "list")
 |frz {a:EX}{o:Obj}{xs:List V} (e:H a=some (.frz o (.lst xs))):jg K H (.ref a) (.type "list")
 |tup {a:EX}{xs:List V} (e:H a=some (.tup xs)):jg K H (.ref a) (.type "tuple")
 |dK {a:EX}{PX:List (Key×V)} (e:H a=some (.dK PX)):jg K H (.ref a) (.type "dict")
 |dT {a:EX}{PX:List (List Key×V)} (e:H a=some (.dT PX)):jg K H (.ref a) (.type "dict")
 |ins {a C dx:EX}{fs:List (Str×V)} (e:H a=some (.ins C dx fs)) (cl:Cls K C) (ha:JK K (.ref C) "__class__"=some (some (.builtin "object.__class__")))
   (hn:MM K (.builtin "object.__class__") "__get__"=some (some (.builtin "getset_descriptor.__get__"))) (QE:PySem.W.takesIn K (.builtin "object.__class__")=some true)
   (hm:PySem.W.mroIn K C (.type "object")=some true):jg K H (.ref a) (.ref C)
theorem dZ{x:V}{u t:EN}(I:Inv X pins σ H s)(rx:bi x u)(ty:jg X.K H x t)(e:IU X.K t c=some b)(h:∀tk,Q (.bool b) {s with toks:=tk }):
  Ff (FE X.prog X.w) A (call (.builtin "isinstance") [u,c]) Q E s:=by
 cases ty with
 |non=>cases (show u=Fj from rx);exact Gm PySem.W.kitx_none I.kIn True.intro e (λz=>nomatch z) h
 |bl y=>cases (show u=FZ y from rx);exact Gm PySem.W.kitx_bool I.kIn True.intro e (λz=>nomatch z) h
 |int i=>obtain⟨t,q⟩:=(show ∃t,u=FX i t from rx);cases q;exact Gm PySem.W.kitx_int I.kIn True.intro e (λz=>nomatch z) h
 |str y=>obtain⟨t,q⟩:=(show ∃t,u=F6 y t from rx);cases q;exact Gm PySem.W.kitx_str I.kIn True.intro e (λz=>nomatch z) h
 |flt y=>obtain⟨t,q⟩:=(show ∃t,u=O4 y t from rx);cases q;exact Gm PySem.W.kitx_float I.kIn True.intro e (λz=>nomatch z) h
 | @lst a xs ea=>
  cases (show u=Fs a from rx)
  obtain⟨_,_,n,_,h1⟩:=(show cw X.prog X.w H s.heap a (.lst xs) from I.hok a _ ea)
  exact Gm KC I.kIn ⟨_,h1,rfl⟩ e (λz=>nomatch z) h
 | @frz a ob xs ea=>
  cases (show u=Fs a from rx)
  obtain⟨_,_,_,n,_,h1⟩:=(show cw X.prog X.w H s.heap a (.frz ob (.lst xs)) from I.hok a _ ea)
  exact Gm KC I.kIn ⟨_,h1,rfl⟩ e (λz=>nomatch z) h
 | @tup a xs ea=>
  cases (show u=Fs a from rx)
  obtain⟨_,_,_,p⟩:=(show cw X.prog X.w H s.heap a (.tup xs) from I.hok a _ ea)
  obtain⟨o,h1,h2,_⟩:=p;exact Gm Mt I.kIn ⟨o,h1,h2⟩ e (λz=>nomatch z) h
 | @dK a PX ea=>
  cases (show u=Fs a from rx)
  obtain⟨_,_,vs,_,p⟩:=(show cw X.prog X.w H s.heap a (.dK PX) from I.hok a _ ea)
  obtain⟨o,es,ep,h1,h2,_⟩:=p;exact Gm MN I.kIn ⟨o,h1,h2.1⟩ e (λz=>nomatch z) h
 | @dT a PX ea=>
  cases (show u=Fs a from rx)
  obtain⟨_,_,xs,_,o,es,ep,h1,h2,_⟩:=(show cw X.prog X.w H s.heap a (.dT PX) from I.hok a _ ea)
  exact Gm MN I.kIn ⟨o,h1,h2.1⟩ e (λz=>nomatch z) h
 | @ins a C dx fs ea cl ha hn QE hm=>
  cases (show u=Fs a from rx)
  obtain⟨mA,O,_⟩:=zN I.hok ea;obtain⟨od,J,_⟩:=O.look;exact Gm (PySem.W.kitx_own (cl.get _) cl.hd ha hn QE hm) I.kIn J e (λz=>nomatch z) h
end
structure eH(k:Nat)(A:Fm):Prop where
 hd:A.handled=none
 dp:A.depth+3*k+5<NU
 un:A.units+16*k+200<H_
theorem eH.mono{j k:Nat}{A:Fm}(r:eH k A)(h:j<=k):eH j A:=⟨r.hd,by have:=r.dp;lia,by have:=r.un;lia⟩
theorem eH.deeper{k:Nat}{A:Fm}(r:eH (k+1) A)(env:Env):eH k (A.deeper env):=
 ⟨r.hd,by have:=r.dp;show A.depth+1+3*k+5<_;lia,by have:=r.un;show A.units+3+16*k+200<_;lia⟩
theorem eH.depth{k:Nat}{A:Fm}(r:eH k A):A.depth<NU:=by have:=r.dp;lia
def D7:TA:=λ_ H Q=>Q [] H
def Dw(ta:TE)(tr:TA):TA:=λσ H Q=>ta σ H λx H1=>tr σ H1 λxs H2=>Q (x::xs) H2
variable {es:List Expr}
section
variable {X:Cx}{e:Expr}{t:TA}
theorem fS:PA X [] D7:=λ_ _ _ _ H Q I h=>JB ⟨[],H,I,.nil,h⟩
theorem c_(ha:PE X e te)(hr:PA X es t)(hs:EZ (e::es) X.env=(false,HY e X.env)::EZ es X.env:=by rfl):PA X (e::es) (Dw te t):=by
 intro pos pins s σ H Q I h;rw[hs];show Ff _ _ (Ot ((false,HY e X.env)::Ie pos (EZ es X.env))) _ _ s;refine Jj (thn (ha pins s σ H _ I h) λu s1 ⟨x,H1,I1,r1,q1⟩=>?_)
 exact thn (hr pos pins s1 σ H1 _ I1 q1) λus s2 ⟨xs,H2,I2,r2,q2⟩=>⟨x::xs,H2,I2,.cons r1 r2,q2⟩
def Ep(t:TA):TE:=λσ H Q=>t σ H λxs H1=>xs.length<=sizeLine/\∀p,H1 p=none->Q (.ref p) (upd H1 p (.tup xs))
def DV(t:TA):TE:=λσ H Q=>t σ H λxs H1=>xs.length<=sizeLine/\∀p,H1 p=none->Q (.ref p) (upd H1 p (.lst xs))
theorem Cs{x1}(h:PA X es t):PE X (.Tuple es x1 pos) (Ep t):=by
 intro pins s σ H Q I hq;refine wpAny_Tuple_spliced (thn (h pos pins s σ H _ I hq) λus s1 ⟨xs,H1,I1,r,z,q⟩=>⟨by rw[<-r.length];exact z,?_⟩)
 have hf:H1 s1.heap.objs.size=none:=I1.hok.fresh (EU _);refine⟨.ref s1.heap.objs.size,upd H1 s1.heap.objs.size (.tup xs),I1.laid (t':=s1.toks) (λb u e=>EK _ e) (EU _) ?_,rfl,q _ hf⟩
 exact⟨z,us,r,⟨_,E3 _ rfl,rfl,_,rfl⟩⟩
theorem Cz(h:PA X es t):PE X (.List es pos) (DV t):=by
 intro pins s σ H Q I hq;refine wpAny_List_spliced (thn (h pos pins s σ H _ I hq) λus s1 ⟨xs,H1,I1,r,z,q⟩=>⟨by rw[<-r.length];exact z,?_⟩)
 have hf:H1 s1.heap.objs.size=none:=I1.hok.fresh (EU _);refine⟨.ref s1.heap.objs.size,upd H1 s1.heap.objs.size (.lst xs),I1.laid (t':=s1.toks) (λb u e=>EK _ e) (EU _) ?_,rfl,q _ hf⟩
 exact⟨z,us,0,r,E3 _ rfl⟩
end
abbrev Sp:=List V->Hp->VK->XK->Prop
abbrev CXT:=List Env->Hp->EL->XK->EN->EL->Prop
structure xU(P:EW)(w:Fl)(K:EI)(mg:Str->Option EN)(base:GD)(A:Fm)(outer:List Env)(s:EL)(H:Hp):Prop where
 frames:A.frames=some outer
 mod:Mod K mg base
 bs:∀b o,base.get? b=some o->s.heap.get? b=some o/\H b=none
 bsz:base.objs.size<=s.heap.objs.size
 funs:s.heap.FunFrames base outer
 frf:∀b∈frs outer,H b=none
 hok:HOk P w H s.heap
 bare:KZ s.gens
def CE(outer:List Env)(P:EW)(w:Fl)(H:Hp)(s:EL)(Q:VK)(u:EN)(s':EL):Prop:=
 ∃v H',s'.os=s.os/\KZ s'.gens/\Un (frs outer) [] H H' s.heap s'.heap/\HOk P w H' s'.heap/\bi v u/\Q v H'
def CR(CX:CXT)(outer:List Env)(P:EW)(w:Fl)(H:Hp)(s:EL)(Q:VK)(E:XK)(r:M4)(s':EL):Prop:=
 match r with
 | .ok (.ret u)=>CE outer P w H s Q u s'
 | .ok _=>False
 | .error e=>CX outer H s E e s'
structure ba(P:EW)(w:Fl)(K:EI)(mg:Str->Option EN)(base:GD)(CX:CXT)(k:Nat)(f:EX)(fd:F5)(ps:List Str)(sp:Sp):Prop where
 len:∀vs H Q E,sp vs H Q E->vs.length=ps.length
 run:∀(A:Fm) (outer:List Env) (s:EL) (H:Hp) (args:Args) (us:List EN) (vs:List V) (Q:VK) (E:XK),eH k A->xU P w K mg base A outer s H->MP s fd args (ps.zip us)->aU vs us->sp vs H Q E->
  Ip (FE P w) A (.call (.ref f) args) (CR CX outer P w H s Q E) s
theorem ba.mono{P:EW}{w:Fl}{K:EI}{mg:Str->Option EN}{base:GD}{CX:CXT}{j k:Nat}{f:EX}{fd:F5}{ps:List Str}{sp:Sp}(F:ba P w K mg base CX j f fd ps sp)(h:j<=k):
  ba P w K mg base CX k f fd ps sp:=⟨F.len,λA outer s H args us vs Q E hr=>F.run A outer s H args us vs Q E (hr.mono h)⟩
section
variable {X:Cx}{s':EL}
theorem Inv.env0(I:Inv X pins σ H s):xU X.prog X.w X.K X.mg X.base X.A X.stack s H:=
 ⟨I.ok.frames,I.ok.mod,I.bs,Gs I.ok.bsz I.sz,I.stack,I.stkFree,I.hok,I.bare⟩
theorem Inv.after{Q:VK}{u:EN}(I:Inv X pins σ H s)(h:CE X.stack X.prog X.w H s Q u s'):EP X pins σ Q u s':=by
 obtain⟨v,H',os,bare,un,hok,r,q⟩:=h;obtain⟨hh,g,d,t,os'⟩:=s';obtain rfl:os'=s.os:=os;exact⟨v,H',I.call (h':=hh) (g':=g) (d':=d) (t':=t) (ch:=[]) un hok bare (λb z=>absurd z (by simp)),r,q⟩
end
def DI(sp:Sp)(RR:List V)(E:XK)(t:TA):TE:=λσ H Q=>t σ H λvs H1=>sp (vs++RR) H1 Q E
def dF(K:EI)(fd:F5)(ps:List Str)(ds:List EN):Prop:=
 ∀(s:EL) (us:List EN),K.In s.heap->(us++ds).length=ps.length->MP s fd ⟨us,[]⟩ (ps.zip (us++ds))
theorem dF.all{K:EI}{fd:F5}{ps:List Str}(h:∀us:List EN,us.length=ps.length->JL fd ⟨us,[]⟩=pure (ps.zip us)):dF K fd ps []:=λs us _ hl=>by
 rw[HE]at hl |-;exact .of_eq (h us hl)
def iS(CX:CXT)(X:Cx)(E:XK):Prop:=∀(pins:List (EX×Obj)) (σ:St) (H:Hp) (s:EL) (e:EN) (s':EL),Inv X pins σ H s->CX X.stack H s E e s'->X.xe e s'
section
variable {X:Cx}{CX:CXT}{k:Nat}{f:EX}{fd:F5}{ps:List Str}{sp:Sp}{RR:List V}{ds:List EN}{E:XK}{x m:Str}{p P1:Pos}{e o:Expr}{t:TA}
theorem Cd{pins:List (EX×Obj)}{σ:St}{H:Hp}{s:EL}{Q:VK}{us:List EN}{vs:List V}(F:ba X.prog X.w X.K X.mg X.base CX k f fd ps sp)(hr:eH k X.A)(hb:dF X.K fd ps ds)(hd:aU RR ds)(hx:iS CX X E)
  (I:Inv X pins σ H s) (r:aU vs us) (h:sp (vs++RR) H Q E):Ff (FE X.prog X.w) X.A (call (.ref f) us) (EP X pins σ Q) X.xe s:=by
 have r2:aU (vs++RR) (us++ds):=r.append hd;have hl:(us++ds).length=ps.length:=by rw[<-r2.length];exact F.len _ _ _ _ h
 refine wpAny_call (JP (F.run X.A X.stack s H ⟨us,[]⟩ (us++ds) (vs++RR) Q E hr I.env0 (hb s us I.kIn hl) r2 h) λr s' hq=>?_)
 cases r with
 |error e=>exact hx pins σ H s e s' I hq
 |ok fl=>
  cases fl with
  |ret u=>exact I.after hq
  |next=>exact False.elim hq
  |brk=>exact False.elim hq
  |cont=>exact False.elim hq
theorem mY(F:ba X.prog X.w X.K X.mg X.base CX k f fd ps sp)(hr:eH k X.A)(hg:Gl X x)(hm:X.mg x=some (.ref f))(hk:Hd X.K (.ref f)=true)(hb:dF X.K fd ps ds)(hd:aU RR ds)(hx:iS CX X E)
  (ha:PA X (e::es) t) (QO:(x==("__debug__":Str))=false:=by decide) (he:EZ (e::es) X.env=(false,HY e X.env)::EZ es X.env:=by rfl) (Qe:(Ie pos (EZ es X.env)).any (·.1)=false:=by rfl):
  PE X (.Call (.Name x p) (e::es) [] pos) (DI sp RR E t):=by
 intro pins s σ H Q I h;refine Gi (tX I hg hm ?_ QO);refine PySem.W.callWith_K (h₀:=X.base) I.ok.mod.kin hk (thn (ha pos pins s σ H _ I h) λus s1 ⟨vs,H1,I1,r,q⟩=>⟨I1.kIn,?_⟩) he Qe
 exact Cd F hr hb hd hx I1 r q
structure Mk(K:EI)(C f:EX):Prop where
 makes:PySem.W.makesIn K C=true
 init:JK K (.ref C) "__init__"=some (some (.ref f))
 fn:ON K (.ref f)=true
 kp:Hd K (.ref C)=true
variable {ks:List Str}{kpos:Pos}{kws:List J8}{tk:TA}{nm:Option Str}
structure Eo(K:EI)(fd:F5)(ps ks:List Str)(g:List EN->List EN->List EN)(gV:List V->List V->List V):Prop where
 to:∀(s:EL) (us ws:List EN),K.In s.heap->(g us ws).length=ps.length->MP s fd ⟨us,ks.zip ws⟩ (ps.zip (g us ws))
 rel:∀{vs:List V}{us:List EN}{zs:List V}{ws:List EN},aU vs us->aU zs ws->aU (gV vs zs) (g us ws)
variable {g:List EN→List EN→List EN}{gV:List V→List V→List V}
end
structure av(N P:List Str)(sc:Js):Prop where
 kind:sc.kind=.function
 co:sc.isCoroutine=false
 gen:sc.isGenerator=false
 nd:N.Nodup
 pre:N.take P.length=P
 par:∀x∈P,sc.names.lookup x=some .local\/sc.names.lookup x=some .cell
 nofree:∀y∈sc.names,y.2≠.free
theorem lr{kindOf:Str->Option J3}{x:Str}:∀{binds:List (Str×EN)}{m:Str->Option EN},(∀v,(x,v) ∉ binds)->O5 kindOf binds m x=m x
 |[],_,_=>rfl
 | (n,v)::r,m,h=>by
  unfold O5;rw[lr λw hw=>h w (EJ _ hw)]
  split
  ·have:x≠n:=by rintro rfl;exact h v ET
   simp[this]
  ·rfl
theorem lW{kindOf:Str->Option J3}{x:Str}:∀{binds:List (Str×EN)}{m:Str->Option EN},(∀v,(x,v) ∉ binds)->O6 kindOf binds m x=m x
 |[],_,_=>rfl
 | (n,v)::r,m,h=>by
  unfold O6;rw[lW λw hw=>h w (EJ _ hw)]
  split
  ·rfl
  ·have:x≠n:=by rintro rfl;exact h v ET
   simp[this]
theorem mf{kindOf:Str->Option J3}{x:Str}{v:EN}:∀{P:List Str}{vs:List EN}{i:Nat}{m:Str->Option EN},P.Nodup->P[i]?=some x->vs[i]?=some v->kindOf x=some .local->
  O5 kindOf (P.zip vs) m x=some v
 |[],_,_,_,_,h,_,_=>by simp at h
 |_::_,[],_,_,_,_,h,_=>by simp at h
 |p::P,w::vs,0,m,nd,h1,h2,hk=>by
  simp at h1 h2;subst h1;subst h2;show O5 kindOf ((p,w)::P.zip vs) m p=_;unfold O5;rw[lr λv hv=>(Gw.mp nd).1 (LI hv).1,if_pos hk]
  simp
 |p::P,w::vs,i+1,m,nd,h1,h2,hk=>by
  show O5 kindOf ((p,w)::P.zip vs) m x=_;unfold O5;exact mf (i:=i) (Gw.mp nd).2 (by simpa using h1) (by simpa using h2) hk
theorem lx{kindOf:Str->Option J3}{x:Str}{v:EN}:∀{P:List Str}{vs:List EN}{i:Nat}{m:Str->Option EN},P.Nodup->P[i]?=some x->vs[i]?=some v->kindOf x≠some .local->
  O6 kindOf (P.zip vs) m x=some v
 |[],_,_,_,_,h,_,_=>by simp at h
 |_::_,[],_,_,_,_,h,_=>by simp at h
 |p::P,w::vs,0,m,nd,h1,h2,hk=>by
  simp at h1 h2;subst h1;subst h2;show O6 kindOf ((p,w)::P.zip vs) m p=_;unfold O6;rw[lW λv hv=>(Gw.mp nd).1 (LI hv).1,if_neg hk]
  simp
 |p::P,w::vs,i+1,m,nd,h1,h2,hk=>by
  show O6 kindOf ((p,w)::P.zip vs) m x=_;unfold O6;exact lx (i:=i) (Gw.mp nd).2 (by simpa using h1) (by simpa using h2) hk
def start(N:List Str)(vs:List V):St:=vs.map some++NV (N.length-vs.length) none
def nV(CX:CXT)(P:EW)(w:Fl)(K:EI)(mg:Str->Option EN)(base:GD)(N:List Str)(Pl:Str)(Ph:Js)(f:EX)(cd:EN)(A:Fm)(outer:List Env)(s:EL)(H:Hp)(E:XK):Cx where
 prog:=P
 w:=w
 K:=K
 mg:=mg
 base:=base
 A:=A.deeper (LJ Pl Ph s.heap.objs.size f cd)
 N:=N
 s₀:=s
 H₀:=H
 env:=LJ Pl Ph s.heap.objs.size f cd
 outer:=outer
 stack:=LJ Pl Ph s.heap.objs.size f cd::outer
 ex:=[]
 calm:=true
 fn:=λ_=>true
 pn:=[]
 xe:=λe s'=>Ff (FE P w) (A.deeper (LJ Pl Ph s.heap.objs.size f cd)) (leaving (LJ Pl Ph s.heap.objs.size f cd) e) (λ_ s''=>CX outer H s E e s'') (λe' s''=>CX outer H s E e' s'') s'
theorem pf{sc:Js}{n:Nat}{x:Str}(h:sc.names.lookup x=some .cell):∃c,(Nr n sc.names []).lookup x=some c:=by
 have q:=Jt sc.names n [] (.inl h);exact Jd.mp q
theorem vC{CX:CXT}{P:EW}{w:Fl}{K:EI}{mg:Str->Option EN}{base:GD}{N ps:List Str}{Pl:Str}{Ph:Js}{f:EX}{cd:EN}{A:Fm}{outer:List Env}{s s1:EL}{H:Hp}{E:XK}{us:List EN}{vs:List V}
  (S:av N ps Ph) (hd:A.handled=none) (e0:xU P w K mg base A outer s H) (hl:vs.length=ps.length) (r:aU vs us)
  (x:InCallC s s.heap.objs.size (O5 (LJ Pl Ph s.heap.objs.size f cd).kindOf (ps.zip us) λ_=>none) (Nr (s.heap.objs.size+1) Ph.names []) (O6 (LJ Pl Ph s.heap.objs.size f cd).kindOf (ps.zip us) λ_=>none) s1):
  Inv (nV CX P w K mg base N Pl Ph f cd A outer s H E) [] (start N vs) H s1:=by
 have Qe:ps.length<=N.length:=by have:=congrArg Nt S.pre;rw[Lj]at this;lia
 obtain⟨h1,tk,rfl,hk⟩:=x.done;have noA:∀b:EX,b ∉ (nV CX P w K mg base N Pl Ph f cd A outer s H E).ex:=λb z=>absurd (show b∈([]:List EX) from z) (by simp)
 refine⟨⟨e0.mod,S.kind,rfl,rfl,EU _,λy z c h1 h2=>?_,λy hy=>?_,λy c _ h=>?_,λ_=>hd,Around.frames_deeper e0.frames,.inr ⟨rfl,rfl⟩,λb z=>absurd z (noA b),e0.bs,e0.bsz,λb _ _=>noA b,λb z=>absurd z (noA b),e0.funs,e0.frf⟩,
  rfl,e0.bare,Un.kept hk,⟨_,x.toInCall.ns,λi y v h1 h2 h3=>?_⟩,λy c h=>⟨_,x.cell y c h⟩,e0.hok.fresh (EU _),λy c h=>?_,λp hp=>absurd (show p∈([]:List (EX×Obj)) from hp) (by simp),e0.hok.kept hk,?_⟩
 ·exact name_of_addr x.apart (GQ h1) (GQ h2)
 ·have hy:Ph.names.lookup y=some .cell\/Ph.names.lookup y=some .free:=hy;rcases hy with hy |hy
  ·exact pf hy
  ·exact absurd rfl (S.nofree _ (GQ hy))
 ·exact FB (x.above y c (GQ h))
 ·have hi:i<vs.length:=by
   unfold start at h2;by_cases hi:i<vs.length
   ·exact hi
   ·rw[Fd (by simpa using hi)]at h2
    rw[Hs]at h2;split at h2 <;>cases h2
  have ha:vs[i]?=some v:=by
   unfold start at h2;rw[Fb (by simpa using hi),ES]at h2
   cases e:vs[i]? with
   |none=>rw[e]at h2;cases h2
   |some a=>rw[e]at h2;cases h2;rfl
  obtain⟨u,hu,rv⟩:=r.get ha
  have hp:ps[i]?=some y:=by
   rw[<-S.pre,GU (by lia)];exact h1
  have ndP:ps.Nodup:=by rw[<-S.pre];exact S.nd.sublist (MQ _ _)
  refine⟨u,rv,?_⟩;rcases S.par y (E5 hp) with k |k
  ·exact .inl ⟨k,mf ndP hp hu k⟩
  ·obtain⟨c,e⟩:=pf (n:=s.heap.objs.size+1) k;refine .inr ⟨.inl k,c,e,?_⟩;have q:=x.cell y c e;rw[lx ndP hp hu (by show Ph.names.lookup y≠_;rw[k];decide)]at q
   exact q
 ·exact e0.hok.fresh (FB (x.above y c (GQ h)))
 ·unfold start;show _=N.length;rw[FJ,EH,HL];lia
theorem Bb{CX:CXT}{P:EW}{w:Fl}{K:EI}{mg:Str->Option EN}{base:GD}{k:Nat}{f:EX}{name Pl:Str}{QZ:Arguments}{PV:List Hc}{Ph:Js}{dV kV Qp pm Pp ct oc:EN}{an od:Option EX}
  {Q4:Array (Option EN)}{N ps:List Str}{sp:Sp} (lk:K.lookup f=some ⟨oc,od,.func (Hv name Pl QZ PV Ph dV kV Qp pm an Pp ct),Q4⟩) (Qr:JM K Pp Pl=true) (S:av N ps Ph)
  (len:∀vs H Q E,sp vs H Q E->vs.length=ps.length)
  (Qk:∀(A:Fm) (outer:List Env) (s:EL) (H:Hp) (vs:List V) (Q:VK) (E:XK),eH k (A.deeper (LJ Pl Ph s.heap.objs.size f Pp))->sp vs H Q E->
   ∃t,PSs (nV CX P w K mg base N Pl Ph f Pp A outer s H E) PV t/\t {nx:=λ_ H'=>Q .non H',rt:=Q } (start N vs) H):
  ba P w K mg base CX (k+1) f (Hv name Pl QZ PV Ph dV kV Qp pm an Pp ct) ps sp:=by
 refine⟨len,λA outer s H args us vs Q E hr e0 hb r QL=>?_⟩
 have hl:=len _ _ _ _ QL;have KX:K.In s.heap:=e0.mod.kin.keeps λb o e=>(e0.bs b o e).1
 have lim:s.heap.NoLimit:=e0.mod.nolimit.keeps λb o e=>(e0.bs b o e).1
 have hkind:∀y∈ps.zip us,Ph.names.lookup y.1=some .local\/(Ph.names.lookup y.1=some .cell/\((Nr (s.heap.objs.size+1) Ph.names []).lookup y.1).isSome=true):=λ⟨n,v⟩ hy=>by
  rcases S.par n (LI hy).1 with q |q
  ·exact .inl q
  ·exact .inr ⟨q,Jt _ _ _ (.inl q)⟩
 refine codeAny_call_function hr.depth (KX _ _ lk) rfl S.co S.gen rfl (PySem.W.codeRec_of KX Qr) (hb _ _ _ _ ?_);refine wpAny_newFunctionEnv_cells S.kind hkind λenv he s1 x=>?_
 subst he;refine⟨lim.keeps x.toInCall.keep,codeAny_func ?_⟩;obtain⟨t,ht,hq⟩:=Qk A outer s H vs Q E (hr.deeper _) QL;have I:Inv (nV CX P w K mg base N Pl Ph f Pp A outer s H E) [] (start N vs) H s1:=vC S hr.hd e0 hl r x;refine HJ (ht [] s1 (start N vs) H _ I hq) (λfl s' hs=>?_) λe s' hs=>hs
 have PF:∀{Pz:St}{H':Hp}{v:V}{u:EN},Inv (nV CX P w K mg base N Pl Ph f Pp A outer s H E) [] Pz H' s'->bi v u->Q v H'->CE outer P w H s Q u s':=
  λ{Pz H' v u} J rv q=>⟨v,H',J.os,J.bare,J.base,J.hok,rv,q⟩
 cases fl with
 |ret u=>
  obtain⟨v,Pz,H',J,rv,q⟩:=hs;exact PF J rv q
 |next=>
  obtain⟨Pz,H',J,q⟩:=hs;exact PF (v:=V.non) (u:=Fj) J rfl q
 |brk=>
  obtain⟨_,_,_,q⟩:=hs;exact False.elim q
 |cont=>
  obtain⟨_,_,_,q⟩:=hs;exact False.elim q
section
variable {X:Cx}{x:Str}{p:Pos}{e:Expr}{t:TA}{id T:String}{r:List V→Hp→VK→Prop}
def tCB(r:List V->Hp->VK->Prop)(t:TA):TE:=λσ H Q=>t σ H λvs H1=>r vs H1 Q
theorem pw(hc:cR X (.builtin id) r)(hg:Gl X x)(hm:X.mg x=none)(hv:GS x=some (.builtin id))(ha:PA X (e::es) t)(hn:x≠"__name__":=by decide)(QO:(x==("__debug__":Str))=false:=by decide)
  (he:EZ (e::es) X.env=(false,HY e X.env)::EZ es X.env:=by rfl) (Qe:(Ie pos (EZ es X.env)).any (·.1)=false:=by rfl):PE X (.Call (.Name x p) (e::es) [] pos) (tCB r t):=by
 intro pins s σ H Q I h;refine Gi (cJ I hg hm hv ?_ hn QO);exact PyProof.Rows.callWith_builtin1 (thn (ha pos pins s σ H _ I h) λus s1 ⟨vs,H1,I1,r1,q1⟩=>hc pins s1 σ H1 vs us Q I1 r1 q1) he Qe
theorem lS(hc:cR X (.type T) r)(hg:Gl X x)(hm:X.mg x=none)(hv:GS x=some (.type T))(ha:PA X (e::es) t)(hn:x≠"__name__":=by decide)(QO:(x==("__debug__":Str))=false:=by decide)
  (he:EZ (e::es) X.env=(false,HY e X.env)::EZ es X.env:=by rfl) (Qe:(Ie pos (EZ es X.env)).any (·.1)=false:=by rfl):PE X (.Call (.Name x p) (e::es) [] pos) (tCB r t):=by
 intro pins s σ H Q I h;refine Gi (cJ I hg hm hv ?_ hn QO);exact PyProof.Rows.callWith_type1 (thn (ha pos pins s σ H _ I h) λus s1 ⟨vs,H1,I1,r1,q1⟩=>hc pins s1 σ H1 vs us Q I1 r1 q1) he Qe
end
end L2
namespace HT
open PySem PyProof.Rows
section
open PySem.SeqAt
open PySem.AutoSeq1 (wpAny_loadPart')
open PySem.MeetsSeq PySem.MeetsSeq2 PySem.MeetsSeq3
end
section
variable {prog:EW}{w:Fl}{A:Fm}{E:EN→EL→Prop}{s:EL}
def sIx(n d:Nat):Option Int->Nat
 |none=>d
 |some v=>if v<0 then (v+(n:Int)).toNat else min v.toNat n
end
end HT
namespace L2
open PySem PySem.Spec PyProof.Rows
abbrev TO:=St->Hp->(Option Int->Hp->Prop)->Prop
def PO(X:Cx)(e:Option Expr)(t:TO):Prop:=
 ∀(pins:List (EX×Obj)) (s:EL) (σ:St) (H:Hp) (Q:Option Int->Hp->Prop),Inv X pins σ H s->t σ H Q->
  Ff (FE X.prog X.w) X.A (evalPart e X.env) (λu s'=>∃o H',Inv X pins σ H' s'/\IsPart u o/\Q o H') X.xe s
def Am:TO:=λ_ H Q=>Q none H
def DB(t:TE):TO:=λσ H Q=>t σ H λx H1=>∃i,x=.int i/\Q (some i) H1
section
variable {X:Cx}{e:Expr}{te:TE}{lo hi:Option Expr}{tl th:TO}{pos p2:Pos}
theorem At:PO X none Am:=by
 intro pins s σ H Q I h;rw[Mu];exact EM ⟨none,H,I,.none,h⟩
theorem Ao(h:PE X e te):PO X (some e) (DB te):=by
 intro pins s σ H Q I hw;rw[evalPart_some];refine thn (h pins s σ H _ I hw) λu s1 ⟨x,H1,I1,r1,q1⟩=>?_
 obtain⟨i,rfl,q⟩:=q1;obtain⟨t,rfl⟩:=r1;exact⟨some i,H1,I1,.int i t,q⟩
def SlR(X:Cx)(r:V->Option Int->Option Int->Hp->VK->Prop):Prop:=
 ∀(pins:List (EX×Obj)) (s:EL) (σ:St) (H:Hp) (x:V) (v vl vu:EN) (lo hi:Option Int) (sl:EX) (Q:VK),Inv X pins σ H s->bi x v->s.heap.IsSliceOf sl vl vu .none->IsPart vl lo->IsPart vu hi->r x lo hi H Q->
  ∃T id,MR (.type T) "__getitem__"=pure (some (.builtin id))∧s.TypeIs v T∧Ff (FE X.prog X.w) X.A (getItem v (.ref sl)) (EP X pins σ Q) X.xe s
def tSl(r:V->Option Int->Option Int->Hp->VK->Prop)(te:TE)(tl th:TO):TE:=λσ H Q=>te σ H λx H1=>tl σ H1 λl H2=>th σ H2 λu H3=>r x l u H3 Q
theorem wu{r:V->Option Int->Option Int->Hp->VK->Prop}(hr:SlR X r)(he:PE X e te)(hl:PO X lo tl)(hu:PO X hi th):PE X (.Subscript e (.Slice lo hi none p2) pos) (tSl r te tl th):=by
 intro pins s σ H Q I h;refine Om (thn (he pins s σ H _ I h) λv s1 ⟨x,H1,I1,r1,q1⟩=>?_)
 refine wpAny_Slice (thn (hl pins s1 σ H1 _ I1 q1) λvl s2 ⟨l,H2,I2,pl,q2⟩=>thn (hu pins s2 σ H2 _ I2 q2) λvu s3 ⟨u,H3,I3,pu,q3⟩=>?_)
 rw[Mu];refine EM ?_;have I4:Inv X pins σ H3 {s3 with heap:=s3.heap.push {cls:=.type "slice",data:=.fields #[vl,vu,.none] } }:=I3.kept (t':=s3.toks) λb ob q=>EK _ q
 obtain⟨T,id,hT,ht,hg⟩:=hr pins {s3 with heap:=s3.heap.push {cls:=.type "slice",data:=.fields #[vl,vu,.none] } } σ H3 x v vl vu l u s3.heap.objs.size Q I4 r1 (Mw ..) pl pu q3
 show Ff (FE X.prog X.w) X.A (Mx e (.Slice lo hi none p2) v (.ref s3.heap.objs.size)) (EP X pins σ Q) X.xe {s3 with heap:=s3.heap.push {cls:=.type "slice",data:=.fields #[vl,vu,.none] } }
 exact tail_any (ops:=[.ref s3.heap.objs.size,v]) ht hT hg (by with_unfolding_all rfl)
def vh(xs:List V)(lo hi:Option Int):List V:=(xs.drop (HT.sIx xs.length 0 lo)).take (HT.sIx xs.length xs.length hi-HT.sIx xs.length 0 lo)
theorem pK(xs:List V)(lo hi:Option Int):(vh xs lo hi).length<=xs.length:=by
 unfold vh;rw[Lj,Na];lia
end
def ixN(n:Nat)(i:Int):Option Nat:=if 0<=i then (if i<n then some i.toNat else none) else if -(n:Int)<=i then some (i+n).toNat else none
def atI{α:Type}(xs:List α)(i:Int):Option α:=(ixN xs.length i).bind λj=>xs[j]?
theorem zE{n:Nat}{i:Int}{j:Nat}(h:ixN n i=some j):seqIndex? i n=some j/\j<n/\-(n:Int)<=i/\i<n:=by
 unfold ixN at h;by_cases h0:0<=i
 ·rw[if_pos h0]at h;by_cases h1:i<n
  ·rw[if_pos h1]at h;have e:i.toNat=j:=FY h;exact⟨by rw[seqIndex_of h0 h1,e],by lia,by lia,h1⟩
  ·rw[if_neg h1]at h;cases h
 ·rw[if_neg h0]at h;by_cases h1:-(n:Int)<=i
  ·rw[if_pos h1]at h;have e:(i+n).toNat=j:=FY h;exact⟨by rw[seqIndex_neg (by lia) h1,e],by lia,h1,by lia⟩
  ·rw[if_neg h1]at h;cases h
theorem tV{α:Type}{xs:List α}{i:Int}{v:α}(h:atI xs i=some v):∃j,seqIndex? i xs.length=some j/\xs[j]?=some v/\j<xs.length/\-(xs.length:Int)<=i/\i<xs.length:=by
 unfold atI at h;cases e:ixN xs.length i with
 |none=>rw[e]at h;cases h
 |some j=>
  rw[e]at h;obtain⟨h1,h2,h3,h4⟩:=zE e;exact⟨j,h1,h,h2,h3,h4⟩
theorem sV{α:Type}{xs:List α}{j:Nat}{v:α}(h:xs[j]?=some v):atI xs (j:Int)=some v:=by
 have hj:j<xs.length:=(E1.mp h).1
 have e:ixN xs.length (j:Int)=some j:=by
  unfold ixN;rw[if_pos (by lia),if_pos (by lia)];simp
 unfold atI;rw[e];exact h
def mG(b:Expr):Prop:=∀o i,subscripted b false o i=operate [o,i] (getItem o i)
def IxR(X:Cx)(r:R2):Prop:=
 ∀(Qj slice:Expr) (pins:List (EX×Obj)) (s:EL) (σ:St) (H:Hp) (x y:V) (v u:EN) (Q:VK),Inv X pins σ H s->bi x v->bi y u->r x y H Q->
  subscripted slice false v u=operate [v,u] (getItem v u)->Ff (FE X.prog X.w) X.A (Mx Qj slice v u) (EP X pins σ Q) X.xe s
def MtR(X:Cx)(id:String)(r:V->List V->Hp->VK->Prop):Prop:=
 ∀(pins:List (EX×Obj)) (s:EL) (σ:St) (H:Hp) (x:V) (xs:List V) (v:EN) (us:List EN) (Q:VK),Inv X pins σ H s->bi x v->aU xs us->r x xs H Q->
  Ff (FE X.prog X.w) X.A (call (.builtin id) (v::us)) (EP X pins σ Q) X.xe s
section
variable {X:Cx}{a b:Expr}{ta tb:TE}{pos:Pos}
theorem IxR.or{r r':R2}(h:IxR X r)(h':IxR X r'):IxR X (λx y H Q=>r x y H Q\/r' x y H Q):=by
 intro Qj slice pins s σ H x y v u Q I rx ry q hs;rcases q with q |q
 ·exact h Qj slice pins s σ H x y v u Q I rx ry q hs
 ·exact h' Qj slice pins s σ H x y v u Q I rx ry q hs
theorem A1{r:R2}(hr:IxR X r)(ha:PE X a ta)(hb:PE X b tb)(hs:mG b):PE X (.Subscript a b pos) (tOp r ta tb):=by
 intro pins s σ H Q I h;exact Om (CD ha hb I h λv u s2 x y H2 I2 rx ry q=>hr a b pins s2 σ H2 x y v u Q I2 rx ry q (hs _ _))
def Ex(K:EI):R2:=λx y H Q=>∃p xs i v,x=.ref p/\y=.int i/\SqL K H p xs/\atI xs i=some v/\Q v H
def EA(K:EI):R2:=λx y H Q=>∃p xs i v,x=.ref p/\y=.int i/\SqT K H p xs/\atI xs i=some v/\Q v H
theorem tK:IxR X (Ex X.K):=by
 intro Qj slice pins s σ H x y v u Q I rx ry h hs;obtain⟨p,xs,i,z,rfl,rfl,hq,he,q⟩:=h;cases rx;obtain⟨t,rfl⟩:=ry;obtain⟨Pj,r,pl,hz⟩:=I.list hq;obtain⟨j,h1,h2,h3,h4,h5⟩:=tV he;obtain⟨w,ew,Q3⟩:=r.get h2;have hl:=r.length;have hn:=qY;have PF:EP X pins σ Q w s:=⟨z,H,I,Q3,q⟩;by_cases h0:0<=i
 ·have hj:i.toNat=j:=by
   rw[seqIndex_of h0 h5]at h1;exact FY h1
  exact item_listR pl.isList h0 (by lia) (by rw[hj];simpa using ew) PF hs
 ·have hj:(i+(Pj.toArray.size:Int)).toNat=j:=by
   rw[seqIndex_neg (by lia) h4]at h1
   rw[E4,<-hl];exact FY h1
  exact Lw (x:=w) pl.isList.typeIs slot_list_getitem.lookup
   (wpAny_getItem_list_neg (Q:=λr s'=>r=w/\EP X pins σ Q r s') pl.isList (by lia) (by rw[E4] <;>lia) (by lia) (by rw[hj];simpa using ew) ⟨rfl,PF⟩) hs
theorem Ck:IxR X (EA X.K):=by
 intro Qj slice pins s σ H x y v u Q I rx ry h hs;obtain⟨p,xs,i,z,rfl,rfl,hq,he,q⟩:=h;cases rx;obtain⟨t,rfl⟩:=ry;obtain⟨Pj,r,pl,hz⟩:=I.tuple hq;obtain⟨j,h1,h2,h3,h4,h5⟩:=tV he;obtain⟨w,ew,Q3⟩:=r.get h2;have hl:=r.length;have hn:=qY;have PF:EP X pins σ Q w s:=⟨z,H,I,Q3,q⟩
 exact Lw (x:=w) pl.typeIs slot_tuple_getitem.lookup
  (getItem_tuple (j:=j) (Q:=λr s'=>r=w/\EP X pins σ Q r s') pl (by lia) (by lia) (by rw[E4,<-hl];exact h1) (by simpa using ew) ⟨rfl,PF⟩) hs
theorem mX(lo hi:Option Int)(n:Nat):(JC lo hi none n).1=((HT.sIx n 0 lo:Nat):Int)/\(JC lo hi none n).2.1=((HT.sIx n n hi:Nat):Int)/\(JC lo hi none n).2.2=1:=by
 refine⟨?_,?_,rfl⟩
 ·cases lo with
  |none=>simp[JC,HT.sIx]
  |some i=>
   simp only[JC,HT.sIx,Lk,show (1:Int) >0 by decide,if_true]
   by_cases h:i<0
   ·simp only[h,if_true] <;>lia
   ·simp only[h,if_false] <;>lia
 ·cases hi with
  |none=>simp[JC,HT.sIx]
  |some i=>
   simp only[JC,HT.sIx,Lk,show (1:Int) >0 by decide,if_true]
   by_cases h:i<0
   ·simp only[h,if_true] <;>lia
   ·simp only[h,if_false] <;>lia
theorem kY(Pj:List EN)(lo hi:Option Int):slicePick Pj.toArray lo hi none=((Pj.drop (HT.sIx Pj.length 0 lo)).take (HT.sIx Pj.length Pj.length hi-HT.sIx Pj.length 0 lo)).toArray:=by
 obtain⟨h1,h2,h3⟩:=mX lo hi Pj.toArray.size;unfold slicePick;rw[h1,h2,h3];simp only[sliceRange_one,pick_run,E4] <;>rfl
def Eb(K:EI):V->Option Int->Option Int->Hp->VK->Prop:=λx lo hi H Q=>∃a xs,x=.ref a/\SqL K H a xs/\∀p,H p=none->Q (.ref p) (upd H p (.lst (vh xs lo hi)))
theorem y_:SlR X (Eb X.K):=by
 intro pins s σ H x v vl vu lo hi sl Q I rx hs pl pu h;obtain⟨a,xs,rfl,hx,q⟩:=h;cases rx;obtain⟨Pj,r,ht,hz⟩:=I.list hx;have Pm:=r.length;refine⟨"list",_,slot_list_getitem.lookup,ht.isList.typeIs,?_⟩;refine KD ht.isList hs pl pu .none (by simp) ?_ (by rw[E4] <;>lia)
 rw[kY,<-Pm];refine⟨.ref s.heap.objs.size,_,I.laid (t':=s.toks) (o:=.lst (vh xs lo hi)) (λb ob q=>EK _ q) (EU _) ?_,rfl,q _ (I.hok.fresh (EU _))⟩
 exact⟨Gs (pK xs lo hi) hz,_,0,(r.drop (HT.sIx xs.length 0 lo)).take (HT.sIx xs.length xs.length hi-HT.sIx xs.length 0 lo),E3 _ rfl⟩
def gR:V->Bool
 | .non=>true
 | .bl _=>true
 | .int _=>true
 | .str _=>true
 |_=>false
def eqV:V->V->Bool
 | .non,.non=>true
 | .bl a,.bl b=>a==b
 | .bl a,.int b=>(if a then 1 else 0)==b
 | .int a,.bl b=>a==(if b then 1 else 0)
 | .int a,.int b=>a==b
 | .str a,.str b=>a==b
 |_,_=>false
theorem CN{A:Fm}{s:EL}{y x:V}{u v:EN}(ry:bi y u)(rx:bi x v)(fy:gR y=true)(fx:gR x=true):SeqAt.EqAt A s u v (eqV y x):=by
 cases y with
 |non=>
  cases ry;cases x with
  |non=>cases rx;exact SeqAt.EqAt.same _
  |bl b=>cases rx;exact SeqAt.EqAt.none_bool b
  |int b=>obtain⟨t,rfl⟩:=rx;exact SeqAt.EqAt.none_int b t
  |str b=>obtain⟨t,rfl⟩:=rx;exact SeqAt.EqAt.none_str b t
  |_=>exact absurd (show false=true from fx) Fn
 |bl a=>
  cases ry;cases x with
  |non=>cases rx;exact SeqAt.EqAt.bool_none a
  |bl b=>cases rx;exact SeqAt.EqAt.bool_bool a b
  |int b=>obtain⟨t,rfl⟩:=rx;exact SeqAt.EqAt.bool_int a b t
  |str b=>obtain⟨t,rfl⟩:=rx;exact SeqAt.EqAt.bool_str a b t
  |_=>exact absurd (show false=true from fx) Fn
 |int a=>
  obtain⟨t',rfl⟩:=ry;cases x with
  |non=>cases rx;exact SeqAt.EqAt.int_none a t'
  |bl b=>cases rx;exact SeqAt.EqAt.int_bool a t' b
  |int b=>obtain⟨t,rfl⟩:=rx;exact SeqAt.EqAt.int_int a t' b t
  |str b=>obtain⟨t,rfl⟩:=rx;exact SeqAt.EqAt.int_str a t' b t
  |_=>exact absurd (show false=true from fx) Fn
 |str a=>
  obtain⟨t',rfl⟩:=ry;cases x with
  |non=>cases rx;exact SeqAt.EqAt.str_none a t'
  |bl b=>cases rx;exact SeqAt.EqAt.str_bool a t' b
  |int b=>obtain⟨t,rfl⟩:=rx;exact SeqAt.EqAt.str_int a t' b t
  |str b=>obtain⟨t,rfl⟩:=rx;exact SeqAt.EqAt.str_str a t' b t
  |_=>exact absurd (show false=true from fx) Fn
 |_=>exact absurd (show false=true from fy) Fn
def eqU(x:V)(u:EN):Bool:=match u with
 | .none=>eqV .non x
 | .bool b=>eqV (.bl b) x
 | .int i _=>eqV (.int i) x
 | .str z _=>eqV (.str z) x
 |_=>false
theorem yM{x y:V}{u:EN}(r:bi y u)(f:gR y=true):eqU x u=eqV y x:=by
 cases y with
 |non=>cases r;rfl
 |bl b=>cases r;rfl
 |int i=>obtain⟨t,rfl⟩:=r;rfl
 |str z=>obtain⟨t,rfl⟩:=r;rfl
 |_=>exact absurd (show false=true from f) Fn
theorem mw{x:V}:∀{xs:List V}{us:List EN},aU xs us->xs.all gR=true->us.any (eqU x)=xs.any λy=>eqV y x
 |_,_,.nil,_=>rfl
 |y::xs,u::us,.cons r t,f=>by
  rw[J4,Gn]at f;rw[Ow,Ow,yM r f.1,mw t f.2]
theorem jY{A:Fm}{s:EL}{x:V}{v:EN}(rx:bi x v)(fx:gR x=true):∀{xs:List V}{us:List EN},aU xs us->xs.all gR=true->∀u∈us,SeqAt.EqAt A s u v (eqU x u)
 |_,_,.nil,_=>λu hu=>by cases hu
 |y::xs,u::us,.cons r t,f=>λu' hu=>by
  rw[J4,Gn]at f;rcases EO.mp hu with rfl |hu
  ·rw[yM r f.1];exact CN r rx f.1 fx
  ·exact jY rx fx t f.2 u' hu
def inV(x:V)(xs:List V):Bool:=xs.any λy=>eqV y x
def rIn(K:EI)(neg:Bool):R2:=λx y H Q=>∃p xs,y=.ref p/\(SqL K H p xs\/SqT K H p xs)/\gR x=true/\xs.all gR=true/\Q (.bl (if neg then !inV x xs else inV x xs)) H
theorem uq:OpR X (F_ .In) (rIn X.K false):=by
 intro pins s σ H x y v u Q I rx ry h;obtain⟨p,xs,rfl,hq,fx,fs,q⟩:=h;cases ry;rcases hq with hq |hq
 ·obtain⟨Pj,r,pl,hz⟩:=I.list hq;refine SeqAt.in_listAt (eqU x) pl.isList (λw hw=>jY rx fx r fs w (by simpa using hw)) ⟨.bl _,H,I,rfl,?_⟩
  rw[show Pj.toArray.any (eqU x)=Pj.any (eqU x) by simp,mw r fs]
  exact q
 ·obtain⟨Pj,r,pl,hz⟩:=I.tuple hq;refine SeqAt.in_tupleAt (eqU x) pl (λw hw=>jY rx fx r fs w (by simpa using hw)) ⟨.bl _,H,I,rfl,?_⟩
  rw[show Pj.toArray.any (eqU x)=Pj.any (eqU x) by simp,mw r fs]
  exact q
theorem h_:cR X (.builtin "len") (λxs H Q=>∃p ys,xs=[.ref p]∧(SqL X.K H p ys∨SqT X.K H p ys)∧Q (.int ys.length) H):=by
 intro pins s σ H xs us Q I r h;obtain⟨p,ys,rfl,hq,q⟩:=h;obtain⟨u,rfl,rx⟩:=ft r;cases rx;have hn:=qY;rcases hq with hq |hq
 ·obtain⟨Pj,r',pl,hz⟩:=I.list hq;have Pm:=r'.length;exact Calls.call_len_list pl.isList (by simp only[E4] <;>lia) ⟨.int ys.length,H,I.tok _,⟨s.toks+1,by rw[E4,Pm]⟩,q⟩
 ·obtain⟨Pj,r',pl,hz⟩:=I.tuple hq;have Pm:=r'.length;exact len_tuple pl (by simp only[E4] <;>lia) ⟨.int ys.length,H,I.tok _,⟨s.toks+1,by rw[E4,Pm]⟩,q⟩
theorem mE:cR X (.type "list") (λxs H Q=>∃p ys,xs=[.ref p]∧(SqL X.K H p ys∨SqT X.K H p ys)∧∀l,H l=none→Q (.ref l) (upd H l (.lst ys))):=by
 intro pins s σ H xs us Q I r h;obtain⟨p,ys,rfl,hq,q⟩:=h;obtain⟨u,rfl,rx⟩:=ft r;cases rx
 have PF:∀(Pj:List EN),aU ys Pj->ys.length<=sizeLine->∀(h':GD) (c':Nat),(∀b o',s.heap.get? b=some o'->h'.get? b=some o')->
   h'.get? s.heap.objs.size=some {cls:=.type "list",dict:=none,data:=.seq Pj.toArray c',slots:=#[] }→EP X pins σ Q (.ref s.heap.objs.size) {s with heap:=h' }:=λPj r' hz h' c' kp e=>
  ⟨.ref s.heap.objs.size,_,I.laid (t':=s.toks) kp (EU _) (show cw X.prog X.w _ h' _ (.lst ys) from ⟨hz,Pj,c',r',e⟩),rfl,q _ (I.hok.fresh (EU _))⟩
 rcases hq with hq |hq
 ·obtain⟨Pj,r',pl,hz⟩:=I.list hq;have Pm:=r'.length;obtain⟨o,ho,hc,n,hd⟩:=pl.isList;exact call_list_seq p (.inl rfl) ho hc hd (λh' c' kp e=>PF Pj r' hz h' c' kp e) (by simp only[E4] <;>lia)
 ·obtain⟨Pj,r',pl,hz⟩:=I.tuple hq;have Pm:=r'.length;obtain⟨o,ho,hc,n,hd⟩:=pl;exact call_list_seq p (.inr rfl) ho hc hd (λh' c' kp e=>PF Pj r' hz h' c' kp e) (by simp only[E4] <;>lia)
theorem lc:cR X (.type "tuple") (λxs H Q=>∃p ys,xs=[.ref p]∧((SqL X.K H p ys∧∀l,H l=none→Q (.ref l) (upd H l (.tup ys)))∨(SqT X.K H p ys∧Q (.ref p) H))):=by
 intro pins s σ H xs us Q I r h;obtain⟨p,ys,rfl,h⟩:=h;obtain⟨u,rfl,rx⟩:=ft r;cases rx;rcases h with ⟨hq,q⟩ |⟨hq,q⟩
 ·obtain⟨Pj,r',pl,hz⟩:=I.list hq;have Pm:=r'.length;refine call_tuple_list pl.isList (λh' kp=>?_) (by simp only[E4] <;>lia)
  have I1:Inv X pins σ H {s with heap:=h' }:=I.kept (t':=s.toks) kp
  have I2:Inv X pins σ (upd H h'.objs.size (.tup ys)) {s with heap:=h'.push {cls:=.type "tuple",data:=.seq Pj.toArray } }:=
   I1.laid (t':=s.toks) (λb o e=>EK _ e) (EU _) (show cw X.prog X.w _ _ _ (.tup ys) from ⟨hz,Pj,r',IsTup.new _ _⟩)
  exact⟨.ref h'.objs.size,_,I2,rfl,q _ (I1.hok.fresh (EU _))⟩
 ·obtain⟨Pj,r',pl,hz⟩:=I.tuple hq;exact call_tuple_same pl ⟨.ref p,H,I,rfl,q⟩
def tyV(K:EI)(T:String)(x:V)(H:Hp):Prop:=match x with
 | .str _=>T="str"
 | .int _=>T="int"
 | .ref p=>(T="list"∧∃xs,SqL K H p xs)∨(T="tuple"∧∃o,K.lookup p=some o∧o.cls=.type "tuple"∧o.dict=none)∨
   (T="dict"∧((∃PX,H p=some (.dK PX))∨∃PX,H p=some (.dT PX)))∨(T="set"∧∃S n,H p=some (.set S n))
 |_=>False
theorem xn{pins:List (EX×Obj)}{σ:St}{H:Hp}{s:EL}{T:String}{x:V}{v:EN}(I:Inv X pins σ H s)(r:bi x v)(ty:tyV X.K T x H):
  s.TypeIs v T/\∀a,v=.ref a->∃ob,s.heap.get? a=some ob/\ob.dict=none:=by
 cases x with
 |str z=>
  obtain⟨t,rfl⟩:=r;cases (show T="str" from ty)
  exact⟨typeIs_str s z t,λ_ e=>nomatch e⟩
 |int i=>
  obtain⟨t,rfl⟩:=r;cases (show T="int" from ty)
  exact⟨J7 s i t,λ_ e=>nomatch e⟩
 |ref p=>
  cases r;rcases ty with ⟨rfl,xs,hq⟩ |⟨rfl,o,hk,hc,hd⟩ |⟨rfl,hk⟩ |⟨rfl,S,n,hk⟩
  ·obtain⟨Pj,_,pl,_⟩:=I.list hq;refine⟨pl.isList.typeIs,λa e=>?_⟩
   cases e;obtain⟨o,n,e,c,hd,_⟩:=pl;exact⟨o,e,hd⟩
  ·refine⟨⟨o,I.kIn p o hk,hc⟩,λa e=>?_⟩
   cases e;exact⟨o,I.kIn _ o hk,hd⟩
  ·have z:∃o,s.heap.get? p=some o/\o.ExactDict:=by
    rcases hk with ⟨PX,hk⟩ |⟨PX,hk⟩
    ·obtain⟨_,_,_,_,o,_,_,e,ex,_⟩:=I.hok p _ hk;exact⟨o,e,ex⟩
    ·obtain⟨_,_,_,_,o,_,_,e,ex,_⟩:=I.hok p _ hk;exact⟨o,e,ex⟩
   obtain⟨o,e,ex⟩:=z;refine⟨⟨o,e,ex.1⟩,λa e2=>?_⟩
   cases e2;exact⟨o,e,ex.2.1⟩
  ·obtain⟨o,_,_,_,e,ex,_⟩:=I.hok p _ hk;refine⟨⟨o,e,ex.1⟩,λa e2=>?_⟩
   cases e2;exact⟨o,e,ex.2.1⟩
 |_=>exact False.elim ty
def Ei(K:EI)(T:String)(r:V->List V->Hp->VK->Prop)(to:TE):TE:=λσ H Q=>to σ H λx H1=>tyV K T x H1/\r x [] H1 Q
def tBM(K:EI)(T:String)(r:V->List V->Hp->VK->Prop)(to:TE)(t:TA):TE:=λσ H Q=>to σ H λx H1=>tyV K T x H1/\t σ H1 λxs H2=>r x xs H2 Q
variable {o e:Expr}{es:List Expr}{to:TE}{t:TA}{name:Str}{P1 Px:Pos}{T id:String}{r:V→List V→Hp→VK→Prop}
theorem Cl(pa:PlainAttrs T)(slot:Slot T name id)(Rk:typeOf (.builtin id)=pure (.type "method_descriptor"))(hm:MtR X id r)(ho:PE X o to)
  (Ql:IE o name X.env (HY o X.env)=HY o X.env:=by rfl) (Qm:(P1.endLine==Px.line)=true:=by rfl):PE X (.Call (.Attribute o name P1) [] [] Px) (Ei X.K T r to):=by
 intro pins s σ H Q I h;refine wpAny_Call_method0_late Ql Qm (thn (ho pins s σ H _ I h) λv s1 ⟨x,H1,I1,r1,ty,q1⟩=>?_)
 obtain⟨h1,h2⟩:=xn I1 r1 ty;exact⟨T,id,pa,slot,Rk,h1,h2,Lx rfl (PySem.evalArgs_none (hm pins s1 σ H1 x [] v [] Q I1 r1 .nil q1))⟩
theorem A6(pa:PlainAttrs T)(slot:Slot T name id)(Rk:typeOf (.builtin id)=pure (.type "method_descriptor"))(hm:MtR X id r)(ho:PE X o to)(ha:PA X (e::es) t)
  (Ql:IE o name X.env (HY o X.env)=HY o X.env:=by rfl)
  (Rq:((Ie Px (EZ (e::es) X.env)).all (λx=>!x.1) && (Nm Px (K7 [] X.env)).all (λx=>x.1.isSome)
   && decide ((e::es).length+([]:List J8).length+(if ([]:List J8).isEmpty then 0 else 1)<30))=true:=by rfl)
  (Qm:(P1.endLine==Px.line)=true:=by rfl) (hs:EZ (e::es) X.env=(false,HY e X.env)::EZ es X.env:=by rfl) (QC:(Ie Px (EZ es X.env)).any (·.1)=false:=by rfl):
  PE X (.Call (.Attribute o name P1) (e::es) [] Px) (tBM X.K T r to t):=by
 intro pins s σ H Q I h;refine wpAny_Call_method_late Ql Rq Qm rfl (thn (ho pins s σ H _ I h) λv s1 ⟨x,H1,I1,r1,ty,q1⟩=>?_)
 obtain⟨h1,h2⟩:=xn I1 r1 ty;refine⟨T,id,pa,slot,Rk,h1,h2,?_⟩;have hA:=ha Px pins s1 σ H1 _ I1 q1;rw[hs]at hA |-;refine Lx (by show (false || (Ie Px (EZ es X.env)).any (·.1))=false;rw[QC] <;>rfl) (Calls.evalArgs_plain ?_)
 exact thn hA λus s2 ⟨vs,H2,I2,r2,q2⟩=>hm pins s2 σ H2 x vs v us Q I2 r1 r2 q2
end
def MtM(X:Cx)(id:String)(r:V->List V->Hp->VK->Prop):Prop:=
 ∀(pins:List (EX×Obj)) (s:EL) (σ:St) (H:Hp) (x:V) (xs:List V) (v:EN) (us:List EN) (Q:VK),Inv X pins σ H s->bi x v->aU xs us->r x xs H Q->
  Ff (FE X.prog X.w) X.A (call (.builtin id) (v::us)) (EP X pins σ Q) X.xe s
theorem aU.one:∀{x:V}{us:List EN},aU [x] us->∃u,us=[u]/\bi x u
 |_,_,.cons r .nil=>⟨_,rfl,r⟩
theorem aU.zero:∀{us:List EN},aU [] us->us=[]
 |_,.nil=>rfl
theorem aU.dropLast{xs:List V}{us:List EN}(h:aU xs us):aU xs.dropLast us.dropLast:=by
 induction h with
 |nil=>exact .nil
 |cons r t ih=>
  cases t with
  |nil=>exact .nil
  |cons q t'=>exact .cons r ih
theorem qW{α:Type}(l:List α):l.eraseIdx (l.length-1)=l.dropLast:=by
 induction l with
 |nil=>rfl
 |cons a r ih=>
  cases r with
  |nil=>rfl
  |cons b r=>
   have e:(a::b::r).length-1=((b::r).length-1)+1:=by
    have h1:(a::b::r).length=r.length+2:=rfl;have h2:(b::r).length=r.length+1:=rfl;lia
   rw[e,List.eraseIdx_cons_succ,ih]
   all_goals rfl
section
variable {X:Cx}{pins:List (EX×Obj)}{σ:St}{H:Hp}{s:EL}{l b:EX}{xs ys zs:List V}
theorem Inv.lset{Pj its':List EN}{n:Nat}{f:Array EN->Array EN}{t':Nat}(I:Inv X pins σ H s)(hH:H l=some (.lst xs))
  (e:s.heap.get? l=some {cls:=.type "list",data:=.seq Pj.toArray n }) (hf:f Pj.toArray=its'.toArray) (hv:aU ys its') (hz:ys.length≤sizeLine):
  Inv X pins σ (upd H l (.lst ys)) {s with heap:=s.heap.update l (F1 f),toks:=t' }:=by
 have q:=PySem.IsL.update e f;rw[hf]at q;refine I.write (x:=l) (e:=l) (by rw[hH];exact trivial) (.inl rfl) (λb' u hb hu=>(Fg s.heap (F1 f) (Ne.symm hb)).trans hu) ⟨_,q⟩ ?_
 exact⟨hz,its',_,hv,q⟩
theorem Inv.lnew{Pj:List EN}{t':Nat}(I:Inv X pins σ H s)(hv:aU ys Pj)(hz:ys.length<=sizeLine):
  Inv X pins σ (upd H s.heap.objs.size (.lst ys)) {s with heap:=s.heap.push {cls:=.type "list",data:=.seq Pj.toArray },toks:=t' }:=
 I.laid (λ_ _ q=>EK _ q) (EU _) ⟨hz,Pj,0,hv,E3 _ rfl⟩
theorem Inv.fresh(I:Inv X pins σ H s):H s.heap.objs.size=none:=I.hok.fresh (EU _)
theorem Inv.lstM(I:Inv X pins σ H s)(hH:H l=some (.lst xs)):xs.length≤sizeLine∧∃(Pj:List EN) (n:Nat),aU xs Pj∧xs.length=Pj.length∧s.heap.get? l=some {cls:=.type "list",data:=.seq Pj.toArray n }:=by
 obtain⟨z,Pj,n,r,e⟩:=I.hok l _ hH;exact⟨z,Pj,n,r,r.length,e⟩
theorem yr{n:Nat}(h:n<=sizeLine):Builtin.List.listTooLong n=false:=by
 unfold Builtin.List.listTooLong;exact decide_eq_false (by lia)
end
section
variable {X:Cx}
def An:V->List V->Hp->VK->Prop:=λx vs H Q=>∃l xs y,x=.ref l/\vs=[y]/\H l=some (.lst xs)/\xs.length<sizeLine/\Q .non (upd H l (.lst (xs++[y])))
theorem iT:MtM X "list.append" An:=by
 intro pins s σ H x vs v us Q I rx rv h;obtain⟨l,xs,y,rfl,rfl,hH,hz,q⟩:=h;cases rx;obtain⟨u,rfl,ru⟩:=rv.one;obtain⟨z,Pj,n,r,hl,e⟩:=I.lstM hH;refine On F.slot_list_append ⟨_,e,rfl⟩ F.entry_list_append (F.args_list_append_2 _ _) (PySem.list_append l Pj.toArray n u (by rw[E4];lia)) ⟨e,?_⟩
 refine⟨.non,_,I.lset (its':=Pj++[u]) hH e (by simp) (r.append (.cons ru .nil)) ?_,rfl,q⟩
 rw[FJ,LK];lia
def zF:V->List V->Hp->VK->Prop:=λx vs H Q=>∃l b xs zs,x=.ref l/\vs=[.ref b]/\H l=some (.lst xs)/\H b=some (.lst zs)/\xs.length+zs.length<=sizeLine/\Q .non (upd H l (.lst (xs++zs)))
theorem vc:MtM X "list.extend" zF:=by
 intro pins s σ H x vs v us Q I rx rv h;obtain⟨l,b,xs,zs,rfl,rfl,hH,hB,hz,q⟩:=h;cases rx;obtain⟨u,rfl,ru⟩:=rv.one;cases ru;obtain⟨z,Pj,n,r,hl,e⟩:=I.lstM hH;obtain⟨z2,Pk,n2,r2,PM,e2⟩:=I.lstM hB;have Qb:Pj.toArray.size+Pk.toArray.size<=sizeLine:=by rw[E4,E4];lia
 have hlong:¬ (!Pj.toArray.isEmpty && Builtin.List.listTooLong (Pj.toArray.size+Pk.toArray.size))=true:=by
  rw[yr Qb,Kt];exact Fn
 refine On F.slot_list_extend ⟨_,e,rfl⟩ F.entry_list_extend (F.args_list_extend_2 _ _)
  (AutoSeq1.list_extend_list_list_0 l Pj.toArray n b Pk.toArray n2 hlong (by rw[E4];lia) (by lia)) ⟨e,e2,?_⟩
 refine⟨.non,_,I.lset (its':=Pj++Pk) hH e (by simp) (r.append r2) ?_,rfl,q⟩
 rw[FJ];lia
def D8:V->List V->Hp->VK->Prop:=λx vs H Q=>∃l xs y,x=.ref l/\vs=[]/\H l=some (.lst xs)/\xs[xs.length-1]?=some y/\Q y (upd H l (.lst xs.dropLast))
theorem Bv:MtM X "list.pop" D8:=by
 intro pins s σ H x vs v us Q I rx rv h;obtain⟨l,xs,y,rfl,rfl,hH,hy,q⟩:=h;cases rx;have hus:=rv.zero;subst hus;obtain⟨z,Pj,n,r,hl,e⟩:=I.lstM hH;obtain⟨u,hu,ru⟩:=r.get hy
 have RI:Pj.toArray[Pj.toArray.size-1]?=some u:=by
  show Pj.toArray[Pj.length-1]?=some u;rw[<-FS,<-hl];exact hu
 refine On F.slot_list_pop ⟨_,e,rfl⟩ F.entry_list_pop (F.args_list_pop_1 _) (MeetsSeq.list_pop_last l Pj.toArray n u RI (by rw[E4];lia)) ⟨e,?_⟩
 refine⟨y,_,I.lset (its':=Pj.dropLast) hH e ?_ r.dropLast ?_,ru,q⟩
 ·show Pj.toArray.eraseIdxIfInBounds (Pj.toArray.size-1)=Pj.dropLast.toArray;rw[E4,List.eraseIdxIfInBounds_toArray,qW]
 ·rw[G3];lia
def DZ:R2:=λx y H Q=>∃l b xs zs,x=.ref l/\y=.ref b/\H l=some (.lst xs)/\H b=some (.lst zs)/\xs.length+zs.length<=sizeLine/\∀p,H p=none->Q (.ref p) (upd H p (.lst (xs++zs)))
theorem BE:OpR X (JJ .Add) DZ:=by
 intro pins s σ H x y v u Q I rx ry h;obtain⟨l,b,xs,zs,rfl,rfl,hH,hB,hz,q⟩:=h;cases rx;cases ry;obtain⟨z,Pj,n,r,hl,e⟩:=I.lstM hH;obtain⟨z2,Pk,n2,r2,PM,e2⟩:=I.lstM hB;refine PySem.P.add_list e e2 ?_ (by rw[E4,E4];lia)
 have ea:Pj.toArray++Pk.toArray=(Pj++Pk).toArray:=by simp
 rw[ea];exact⟨.ref _,_,I.lnew (t':=s.toks) (r.append r2) (by rw[FJ];lia),rfl,q _ I.fresh⟩
variable {prog:EW}{w:Fl}{A:Fm}{E:EN→EL→Prop}{s:EL}
end
end L2
namespace Att
open PySem PySem.W PySem.Calls PyProof.Rows
theorem jf{P:Params}{h:GD}:∀(ns:List Int) (vs:List EN),WellAll P h vs (ns.map WData.int)->Ox vs ns:=by
 intro ns
 induction ns with
 |nil=>
  intro vs w;rw[Ig]at w;cases w;exact .nil
 |cons n ns ih=>
  intro vs w;rw[E2]at w;cases w with
  |cons a b=>
   cases a;exact .cons _ _ (ih _ b)
theorem script_of{l:OpenLaw}{n:Nat}(hn:l.most=some n){P:Params}{h:GD}{args:List WData}{vals:List EN}
  (Q1:l.row.toRowW.claim.pre args=true) (hwl:WellAll P h vals args):
  ∃a vs ns,vals=[Fs a]∧args=[WData.list (ns.map WData.int)]∧h.get? a=some {cls:=.type "list",data:=.seq vs.toArray }∧Ox vs ns∧ns.length≤n:=by
 have hsh:WShape.hasAll [] args [.list .int]=true:=(pre_splitW Q1).1;have hc:l.pre.holds [] {args:=args }=true:=(pre_splitW Q1).2;obtain⟨d,r,rfl,h1,h2⟩:=hasAllW_cons hsh;obtain rfl:=hasAllW_nil h2;obtain⟨xs,rfl,h3⟩:=hasW_list h1;obtain⟨ns,rfl⟩:=items_int h3
 have Pm:ns.length<=n:=by
  unfold OpenLaw.pre at hc
  have h4:(WTm.not (.lt (.lit (.int (n:Int))) (.len (.arg 0)))).holds [] {args:=[.list (ns.map .int)] }=true:=by
   have h4:=(holds_andW hc).1;rw[hn]at h4;exact h4
  have h5:=condW_of h4 (w_not (w_lt w_lit (w_len_list (w_arg rfl))));rw[EH]at h5;refine JW λq=>?_
  have q':(n:Int)<((ns.length:Nat):Int):=by lia
  first
   | (rw[decide_eq_true q']at h5;exact absurd h5 (by decide))
   | (simp at h5;lia)
 cases hwl with
 |cons w1 w2=>
  cases w2;cases w1 with
  |list ho P7=>exact⟨_,_,ns,rfl,rfl,ho,jf ns _ P7,Pm⟩
theorem post_true(l:OpenLaw)(args:List WData):l.row.toRowW.claim.post args (.bool true) args=true:=
 postW_of (r:=l.row.toRowW) (X:=(true==true))
  (show WShape.has [] (.bool true) .bool=true by first |rfl |decide |simp[WShape.has,WShape.arms,WShape.armsAll])
  (show (WTm.eq .res (.lit (.bool true))).value [] {args:=args,res:=some (.bool true),after:=args }=some (.bool (true==true)) from w_eq_bool (w_res rfl) w_lit) rfl
section
variable {prog:EW}{w:Fl}{A:Fm}{E:EN→EL→Prop}{s:EL}{K:Frag}
end
end Att
namespace L2
open PySem PySem.Spec PyProof.Rows
theorem lZ:∀{vs:List EN}{ns:List Int},Ox vs ns->aU (ns.map V.int) vs
 |_,_,.nil=>.nil
 |_,_,.cons n t h=>.cons ⟨t,rfl⟩ (lZ h)
def zI(H:Hp):Prop:=∀b,H b=none\/∃o xs,H b=some (.frz o (.lst xs))
theorem vW{P:EW}{w:Fl}{K:EI}{mg mb:Str->Option EN}{CX:CXT}{k:Nat}{fa a:EX}{fd:F5}{x:Str}{sp:Sp}{Po:EL}{vs:List EN}{ns:List Int}
  (KX:K.In Po.heap) (hns:Po.heap.Ns GP mg) (hb:Po.heap.Ns N7 mb) (hbb:∀x:Str,x≠"__name__"→mb x=GS x) (hlim:Po.heap.NoLimit) (hg:Po.gens=#[])
  (ha:Po.heap.get? a=some {cls:=.type "list",data:=.seq vs.toArray }) (hi:Ox vs ns) (hl:ns.length≤sizeLine) (hr:eH k MS)
  (F:∀base:GD,K.In base->base.Ns GP mg->ba P w K mg base CX k fa fd [x] sp) (hbind:∀(s:EL) (u:EN),MP s fd ⟨[u],[]⟩ [(x,u)])
  (QL:∀H:Hp,zI H->SqL K H a (ns.map V.int)->sp [.ref a] H (λv _=>v=.bl true) λ_ _ _=>False)
  (hCX:∀H e s',CX [] H Po (λ_ _ _=>False) e s'->False):
  Ip (FE P w) MS (.call (.ref fa) ⟨[.ref a],[]⟩) (λr s'=>r=.ok (.ret (.bool true))/\OldK Po.heap s'.heap/\s'.os=Po.os/\KZ s'.gens) Po:=by
 have rv:=lZ hi;have lenV:=hi.length
 have core:∀H:Hp,zI H->SqL K H a (ns.map V.int)->HOk P w H Po.heap->(∀b,H b≠none->b=a)->(H a≠none->K.lookup a=none)->
   Ip (FE P w) MS (.call (.ref fa) ⟨[.ref a],[]⟩) (λr s'=>r=.ok (.ret (.bool true))/\OldK Po.heap s'.heap/\s'.os=Po.os/\KZ s'.gens) Po:=by
  intro H hO hS hok hA hK;have Q5:∀{b:EX}{o:Obj},Po.heap.get? b=some o->H b=none->(n6 Po.heap H).get? b=some o:=λe n=>v0 e n
  have noA:∀{b:EX}{o:Obj}{es:Array DictEntry}{ep:Nat},Po.heap.get? b=some o->o.data=.dict es ep->H b=none:=λ{b o es ep} e d=>by
   cases q:H b with
   |none=>rfl
   |some u=>
    have e':b=a:=hA b (by rw[q];simp)
    subst e';rw[ha]at e;cases e;have d':Data.seq vs.toArray _=Data.dict es ep:=d;cases d'
  have nsK:∀{b:EX}{m:Str->Option EN},Po.heap.Ns b m->(n6 Po.heap H).Ns b m:=λ{b m} ⟨o,es,ep,e,d,r⟩=>⟨o,es,ep,Q5 e (noA e d),d,r⟩
  have hKb:K.In (n6 Po.heap H):=λb o e=>Q5 (KX b o e) (by
   cases q:H b with
   |none=>rfl
   |some u=>
    have e':b=a:=hA b (by rw[q];simp)
    subst e';rw[hK (by rw[q];simp)]at e;cases e)
  have hM:Mod K mg (n6 Po.heap H):=⟨hKb,nsK hns,⟨mb,nsK hb,hbb⟩,let ⟨mc,h1,h2⟩:=hlim;⟨mc,nsK h1,h2⟩⟩;have e0:xU P w K mg (n6 Po.heap H) MS [] Po H:=⟨rfl,hM,λb o e=>AG e,OO (uw _ _),trivial,λb hb=>absurd (show b∈([]:List EX) from hb) (by simp),hok,.of_eq hg⟩
  refine JP ((F _ hKb (nsK hns)).run MS [] Po H ⟨[.ref a],[]⟩ [.ref a] [.ref a] _ _ hr e0 (hbind Po (.ref a)) (.cons rfl .nil) (QL H hO hS)) λr s' h=>?_
  cases r with
  |error e=>exact (hCX H e s' h).elim
  |ok fl=>
   cases fl with
   |next=>exact False.elim h
   |brk=>exact False.elim h
   |cont=>exact False.elim h
   |ret u=>
    obtain⟨v,H',os,bare,un,hok',r',q⟩:=h;have q':v=.bl true:=q;subst q';obtain rfl:u=FZ true:=r';refine⟨rfl,OldK.of_keep λb o e=>?_,os,bare⟩
    cases q:H b with
    |none=>exact un.keep b o e q (by intro z;exact absurd (show b∈([]:List EX) from z) (by simp)) (by simp)
    |some u=>
     rcases hO b with z |⟨ob,xs,z⟩
     ·rw[q]at z;cases z
     ·have z2:=un.frzs b ob _ z;obtain⟨e1,_⟩:=hok b _ z;obtain⟨e2,_⟩:=hok' b _ z2;rw[e]at e1;cases e1;exact e2
 cases hk:K.lookup a with
 |some o=>
  have e:=KX a o hk;rw[ha]at e;cases e;refine core (λ_=>none) (λ_=>.inl rfl) (.inr ⟨_,vs.toArray,_,hk,rfl,rfl,rfl,by rw[E4,lenV];exact hl,by simpa using rv⟩) (λb u z=>by have z':(none:Option HO)=some u:=z;cases z') (λb z=>absurd rfl z) λz=>absurd rfl z
 |none=>
  refine core (λb=>if b=a then some (.frz {cls:=.type "list",data:=.seq vs.toArray } (.lst (ns.map V.int))) else none) (λb=>?_) (.inl (.inr ⟨{cls:=.type "list",data:=.seq vs.toArray },if_pos rfl⟩)) (λb u z=>?_) (λb z=>?_) λ_=>hk
  ·by_cases hb:b=a
   ·exact .inr ⟨_,_,if_pos hb⟩
   ·exact .inl (if_neg hb)
  ·by_cases hb:b=a
   ·have z':=(if_pos hb).symm.trans z;cases z';subst hb;exact⟨ha,by rw[EH];exact hl,vs,_,rv,ha⟩
   ·have z':=(if_neg hb).symm.trans z;cases z'
  ·by_cases hb:b=a
   ·exact hb
   ·exact absurd (if_neg hb) z
abbrev KOf{K:EI}{h:GD}(_:K.In h):EI:=K
end L2
namespace L2
open PySem PySem.Spec PyProof.Rows
def cj(s:Hc):Arguments:=match s with
 | .FunctionDef _ a _ _ _ _ _ _ _ _=>a
 |_=>{posonlyargs:=[],args:=[],vararg:=none,kwonlyargs:=[],kw_defaults:=[],kwarg:=none,defaults:=[] }
def bN(s:Hc):List Hc:=match s with
 | .FunctionDef _ _ b _ _ _ _ _ _ _=>b
 |_=>[]
def ak(s:Hc):Js:=match s with
 | .FunctionDef _ _ _ _ _ _ sc _ _ _=>sc
 |_=>{kind:=.function,names:=[],isGenerator:=false,isCoroutine:=false }
abbrev CX0:CXT:=λ_ _ _ _ _ _=>False
abbrev E0:XK:=λ_ _ _=>False
structure Fun(K:EI)(x Pl:Str)(st:Hc)(f:EX)(fd:F5):Prop where
 ex:∃(oc:EN) (od:Option EX) (kV Qp pm:EN) (an:Option EX) (Pp ct:EN) (Q4:Array (Option EN)),
  fd=Hv x Pl (cj st) (bN st) (ak st) .none kV Qp pm an Pp ct/\K.lookup f=some ⟨oc,od,.func fd,Q4⟩/\JM K Pp Pl=true
 kp:Hd K (.ref f)=true
section
variable {P:EW}{w:Fl}{K:EI}{mg:Str→Option EN}{base:GD}
theorem Fun.binds{x Pl:Str}{st:Hc}{f:EX}{fd:F5}{ps:List Str}(F:Fun K x Pl st f fd)
  (h:∀(kV Qp pm:EN) (an:Option EX) (Pp ct:EN) (us:List EN),us.length=ps.length->JL (Hv x Pl (cj st) (bN st) (ak st) .none kV Qp pm an Pp ct) ⟨us,[]⟩=pure (ps.zip us)):dF K fd ps []:=by
 obtain⟨oc,od,kV,Qp,pm,an,Pp,ct,Q4,rfl,lk,Qr⟩:=F.ex;exact .all (h kV Qp pm an Pp ct)
theorem vL{x Pl:Str}{st:Hc}{f:EX}{oc:EN}{od an:Option EX}{Q4:Array (Option EN)}{kV Qp pm Pp ct:EN}(l:K.lookup f=some ⟨oc,od,.func (Hv x Pl (cj st) (bN st) (ak st) .none kV Qp pm an Pp ct),Q4⟩)
  (c:JM K Pp Pl=true) (k:Hd K (.ref f)=true):Fun K x Pl st f (Hv x Pl (cj st) (bN st) (ak st) .none kV Qp pm an Pp ct):=⟨⟨oc,od,kV,Qp,pm,an,Pp,ct,Q4,rfl,l,c⟩,k⟩
end
theorem ay{n:Nat}(h:n<=1000):n<sizeLine:=Jk h (by decide)
section
variable {X:Cx}
end
theorem mH{A B:Prop}(h:B):if false=true then A else B:=by
 rw[if_neg Fn];exact h
theorem m_{A B:Prop}(h:A):if true=true then A else B:=by
 rw[if_pos rfl];exact h
def aK(H H':Hp):Prop:=∀b o,H b=some o->H' b=some o
theorem aK.refl(H:Hp):aK H H:=λ_ _ h=>h
theorem aK.trans{H H1 H2:Hp}(a:aK H H1)(b:aK H1 H2):aK H H2:=λc o h=>b c o (a c o h)
theorem aK.free{H H':Hp}(e:aK H H'){l:EX}(h:H' l=O7):H l=O7:=by
 cases q:H l with
 |none=>rfl
 |some o=>
  rw[e l o q]at h;cases h
theorem aK.seq{K:EI}{H H':Hp}{a:EX}{xs:List V}(e:aK H H')(h:SqL K H a xs):SqL K H' a xs:=by
 rcases h with (h |⟨o,h⟩) |h
 ·exact .inl (.inl (e _ _ h))
 ·exact .inl (.inr ⟨o,e _ _ h⟩)
 ·exact .inr h
def Sz(m:Nat)(x:Int):Prop:=x.natAbs<2 ^ m
theorem Sz.mono{m n:Nat}{x:Int}(h:Sz m x)(Sm:m<=n):Sz n x:=Fu h (IP (by decide) Sm)
theorem Sz.neg{m:Nat}{x:Int}(h:Sz m x):Sz m (-x):=by unfold Sz at *;rw[Int.natAbs_neg];exact h
theorem Sz.add{m:Nat}{x y:Int}(hx:Sz m x)(hy:Sz m y):Sz (m+1) (x+y):=by
 unfold Sz at *;have:=Int.natAbs_add_le x y;rw[Hw];lia
theorem Sz.sub{m:Nat}{x y:Int}(hx:Sz m x)(hy:Sz m y):Sz (m+1) (x-y):=by
 rw[Int.sub_eq_add_neg];exact hx.add hy.neg
theorem Sz.mul{m n:Nat}{x y:Int}(hx:Sz m x)(hy:Sz n y):Sz (m+n) (x*y):=by
 unfold Sz at *;rw[JN,O8];exact Nat.mul_lt_mul'' hx hy
theorem Sz.le{m:Nat}{x y:Int}(h:x.natAbs<=y.natAbs)(hy:Sz m y):Sz m x:=Jk h hy
theorem Sz.ediv{m:Nat}{x y:Int}(hx:Sz m x):Sz m (x/y):=Sz.le (Int.natAbs_ediv_le_natAbs x y) hx
theorem Sz.abs{m:Nat}{x:Int}(hx:Sz m x):Sz m (if x<0 then -x else x):=by split;exact hx.neg;exact hx
instance (m:Nat) (x:Int):Decidable (Sz m x):=inferInstanceAs (Decidable (x.natAbs<2 ^ m))
theorem Sz.add'{m n:Nat}{x y:Int}(hx:Sz m x)(hy:Sz n y):Sz (max m n+1) (x+y):=(hx.mono (Nu m n)).add (hy.mono (Nb m n))
theorem Sz.sub'{m n:Nat}{x y:Int}(hx:Sz m x)(hy:Sz n y):Sz (max m n+1) (x-y):=(hx.mono (Nu m n)).sub (hy.mono (Nb m n))
theorem Sz.lit{m:Nat}{x:Int}(h:Sz m x):Sz m x:=h
theorem Sz.ok{m n:Nat}{x y:Int}(hx:Sz m x)(hy:Sz n y)(h:m+n<=134217728):IntMulOk x y:=
 PyProof.Rows.mulOk_of_bits (intBits_le_iff.mpr hx) (intBits_le_iff.mpr hy) h
theorem Sz.log{m:Nat}{x:Int}(h:Sz m x)(hm:m<=9000)(h0:x≠0):x.natAbs.log2<9000:=by
 have q:=(Nat.log2_lt (by lia)).mpr (show x.natAbs<2 ^ m from h)
 lia
def Bm(_ j:Int):Prop:=0<j/\Sz 9000 j
def Bj(_ j:Int):Prop:=j≠0/\Sz 9000 j
section
variable {X:Cx}{a b c:Expr}{ta tb tc:TE}{pos:Pos}
theorem zm:OpR X (JJ .Mult) (rI IntMulOk λi j=>.int (i*j)):=opI λ_ _ _ _ _ _ _ hc q=>mul_int q hc
theorem yP:OpR X (JJ .FloorDiv) (rI Bm λi j=>.int (i/j)):=opI λi j _ _ _ _ _ hc q=>by
 have h1:(0:Int)<j:=hc.1;exact floordiv_int (by lia) (by rw[Int.fdiv_eq_ediv_of_nonneg i (by lia)];exact q) (.inl (PyProof.noPylong_of_log2 (hc.2.log (by decide) (by lia))))
theorem wA:OpR X (JJ .FloorDiv) (rI Bj λi j=>.int (i.fdiv j)):=opI λi j _ _ _ _ _ hc q=>
 floordiv_int hc.1 q (.inl (PyProof.noPylong_of_log2 (hc.2.log (by decide) hc.1)))
theorem DQ{x:Str}{n:String}{pos:Pos}(hg:Gl X x)(hm:X.mg x=none)(hv:GS x=some (.type n))(hn:x≠"__name__":=by decide)(hd:(x==("__debug__":Str))=false:=by decide):PE X (.Name x pos) (tC (.ty n)):=
 yZ hg hm hv rfl hn hd
end
theorem kit_int_int(K:EI):IU K (.type "int") (.type "int")=some true:=rfl
theorem kit_int_bool(K:EI):IU K (.type "int") (.type "bool")=some false:=rfl
theorem kit_tuple_tuple(K:EI):IU K (.type "tuple") (.type "tuple")=some true:=rfl
theorem kit_list_list(K:EI):IU K (.type "list") (.type "list")=some true:=rfl
def Its(lo c:Int)(n:Nat):It:=⟨λi _=>i<n,λi H x H'=>H'=H/\x=.int (lo+(i:Nat) *c),λi _=>n<=i⟩
theorem oK{P:EW}{w:Fl}{K:EI}{tg:Expr}(it:EX)(lo c:Int)(n:Nat):rH P w K tg (Its lo c n) [it] it (λi h=>K5 h it (lo+(i:Nat) *c) ((n:Int)-(i:Nat)) c) where
 mem:=by simp
 obj:=λi h st b hb=>by
  have e:b=it:=by simpa using hb
  subst e
  exact⟨_,st,λv z=>by
   have z':Data.fields _=Data.cell v:=z;cases z'⟩
 keep:=λi h h' st k=>k it (by simp) _ st
 item:=by
  intro X hP hw hK hc i pins s σ H E I hf st hg;subst hP hw hK;obtain⟨f0,f1,f2,f3,f4,f5⟩:=hf it (by simp)
  have W:=Walks.range (prog:=X.prog) (w:=X.w) (I.ok.hd hc) it lo c n;refine W.item i s _ _ hg st λv h' tk hv Qa kk=>?_
  obtain⟨t,rfl⟩:=hv;have I1:Inv X pins σ H {s with heap:=h',toks:=tk }:=I.turned (λb o hb e=>kk b o (by simpa using hb) e) f0 f1 f3 f4 f5
  exact⟨_,rfl,oN (s:={s with heap:=h',toks:=tk }) (n:="range_iterator") Qa rfl rfl (by decide) ⟨.int (lo+(i:Nat) *c),H,I1,⟨t,rfl⟩,⟨rfl,rfl⟩,Qa,λb hb=>(hf b hb).1⟩⟩
 done:=by
  intro X hP hw hK hc i pins s σ H E I hf st hg;subst hP hw hK;obtain⟨f0,f1,f2,f3,f4,f5⟩:=hf it (by simp)
  exact Lu (I.ok.hd hc) st (by have:n<=i:=hg;lia) λh' eb=>⟨rfl,I.turned (t':=s.toks) (λb o hb e=>eb b o hb e) f0 f1 f3 f4 f5⟩
 self:=λ_ _ _ _ _ st h=>Lv st h
def e9(i j c:Int):Nat:=if i<j then ((j-i-1)/c+1).toNat else 0
theorem qm{a b c:Int}(ha:-(2 ^ 60)<=a)(ha':a<2 ^ 60)(hb:-(2 ^ 60)<=b)(Rr:b<2 ^ 60)(hc:0<c)(QN:c<2 ^ 60):Builtin.Range.small a b c=true:=by
 have q1:a<b->(b-a-1)/c<=b-a-1:=λh=>Ll _ (by lia)
 have q2:a<b->0<=(b-a-1)/c:=λh=>LL (by lia) (by lia)
 unfold Builtin.Range.small Builtin.Range.rangeSize;simp only[Builtin.Range.rangeFitsLong,Gn,LM,decide_eq_true_eq,beq_iff_eq,show c >0 from hc,if_true]
 split
 ·have:=q1 (by assumption);have:=q2 (by assumption);lia
 ·lia
section
variable {X:Cx}{tg:Expr}
def DU(ta:TA):TI:=λσ H R=>ta σ H λvs H1=>∃i j c:Int,vs=[.int i,.int j,.int c]/\(-(2 ^ 60)<=i/\i<2 ^ 60/\-(2 ^ 60)<=j/\j<2 ^ 60/\0<c/\c<2 ^ 30)/\R (Its i c (e9 i j c)) H1
theorem u8{a b c:Expr}{ta:TA}{p pos:Pos}(hg:Gl X "range")(hm:X.mg "range"=none)(ha:PA X [a,b,c] ta)(hs:EZ [a,b,c] X.env=[(false,HY a X.env),(false,HY b X.env),(false,HY c X.env)]:=by rfl)
  (Qy:EZ [b,c] X.env=[(false,HY b X.env),(false,HY c X.env)]:=by rfl):
  PI X tg (.Call (.Name "range" p) [a,b,c] [] pos) (DU ta):=by
 intro pins s σ H R I h;refine Call_ (cJ I hg hm ML (PyProof.Rows.callWith_type1 (thn (ha pos pins s σ H _ I h) λus s1 ⟨vs,H1,I1,r1,q1⟩=>?_) (by rw[hs,Qy]) (by rw[Qy];rfl)))
 obtain⟨i,j,k,e,⟨q1,q2,q3,q4,q5,q6⟩,q⟩:=q1;subst e;cases r1 with
 |cons r rr=>
  cases rr with
  |cons r' rr=>
   cases rr with
   |cons r'' rr=>
    cases rr;obtain⟨t,rfl⟩:=r;obtain⟨t',rfl⟩:=r';obtain⟨t'',rfl⟩:=r'';refine call_range_3 (by lia) ?_ (.inl (PyProof.noPylong_small (by lia)))
    refine Kk (IsRange.new ..) (qm q1 q2 q3 q4 q5 (by lia)) ?_
    have I2:Inv X pins σ H1 {s1 with heap:=s1.heap.push {cls:=.type "range",data:=.fields #[.int i t,.int j t',.int k t''] },toks:=s1.toks }:=I1.kept λb o e=>EK _ e
    refine⟨(s1.heap.push {cls:=.type "range",data:=.fields #[.int i t,.int j t',.int k t''] }).objs.size,[(s1.heap.push {cls:=.type "range",data:=.fields #[.int i t,.int j t',.int k t''] }).objs.size],_,_,H1,rfl,
     I2.kept (t':=s1.toks) λb o e=>EK _ e,oK _ i k (e9 i j k),?_,λb hb=>?_,q⟩
    ·have e1:i+((0:Nat):Int) *k=i:=by simp
     have e2:((e9 i j k:Nat):Int)-((0:Nat):Int)=Builtin.Range.rangeSize i j k:=by
      unfold e9 Builtin.Range.rangeSize;rw[if_pos (show k >0 from q5)]
      by_cases Qi:i<j
      ·rw[if_pos Qi,if_pos Qi];have:0<=(j-i-1)/k:=LL (by lia) (by lia)
       lia
      ·rw[if_neg Qi,if_neg Qi] <;>lia
     show K5 _ _ (i+((0:Nat):Int) *k) (((e9 i j k:Nat):Int)-((0:Nat):Int)) k;rw[e1,e2];exact E3 _ rfl
    ·have e:b=(s1.heap.push {cls:=.type "range",data:=.fields #[.int i t,.int j t',.int k t''] }).objs.size:=by simpa using hb
     subst e;exact I2.fpOk (EU _) (I2.hok.fresh (EU _))
end
theorem aN{H:Hp}{p:EX}(h:H p=none)(o:HO):aK H (upd H p o):=λb u q=>by rw[aT (cL q h)];exact q
theorem aK.put{H H':Hp}{l:EX}(e:aK H H')(h:H l=none)(o:HO):aK H (upd H' l o):=λb u q=>by rw[aT (cL q h)];exact e b u q
theorem aK.tup{K:EI}{H H':Hp}{a:EX}{xs:List V}(e:aK H H')(h:SqT K H a xs):SqT K H' a xs:=by
 rcases h with (h |⟨o,h⟩) |h
 ·exact .inl (.inl (e _ _ h))
 ·exact .inl (.inr ⟨o,e _ _ h⟩)
 ·exact .inr h
end L2
namespace L2
open PySem PySem.W PySem.Calls PySem.Spec PyProof.Rows
theorem p0{ns:List Int}(h:WData.layableAll [WData.list (ns.map WData.int)]=true):∀n∈ns,Sz 1048576 n:=by
 intro n hn;have h1:=(PySem.W.layableW_arg h) _ (EV.mpr rfl);have h2:=PySem.W.layableW_item h1 (WData.int n) (ER.mpr ⟨n,hn,rfl⟩);have h3:=(PySem.W.layableW_iff.mp h2).2.2;have h4:Builtin.Int.intBits n<=1048576:=by simpa only[WData.weight,Builtin.Int.intBits] using h3
 exact intBits_le_iff.mp h4
theorem m7{l:Nv}{n:Nat}{q:EW}{Q6:List Str}{XP:(Str->Option EN)->GD->Prop}{YP:Fl->GD->Prop}{d:DefRec}
  (hn:l.most=some n) (hdf:d.params.defaults=[])
  (call:∀(w:Fl) (s₀ Po:EL) (mg mb:Str->Option EN) (fa:EX) (o:Obj) (pm cd Qp:EN) (a:EX) (vs:List EN) (ns:List Int),
   PySem.W.Ground q Q6 [] XP w s₀ mg mb Po.heap->YP w Po.heap->
   Po.heap.get? fa=some o->o.data=.func (docDef d.name d.params d.body d.scope pm cd Qp)->Po.heap.CodeRec cd d.name->mg d.name=some (.ref fa)->
   Po.heap.get? a=some {cls:=.type "list",data:=.seq vs.toArray }→Ox vs ns→ns.length≤n→(∀m∈ns,Sz 1048576 m)→Po.gens=#[]→
   Ip (FE l.prog w) MS (.call (.ref fa) ⟨[.ref a],[]⟩) (λr s'=>r=.ok (.ret (.bool true))/\OldK Po.heap s'.heap/\s'.os=Po.os/\KZ s'.gens) Po):
  Oy q Q6 XP YP l.row.toRowW d [] (λf vs=>Pg f vs):=by
 intro w s₀ Po mg mb G Y fa o pm cd Qp dV kV ho hd Qr hD hmg hg args vals as Q1 hlay hrd hwl hlo;obtain rfl:dV=.none:=Pb hD hdf;obtain rfl:kV=.none:=Pc hD;obtain⟨a,vs,ns,rfl,rfl,hobj,Rt,Pm⟩:=Att.script_of hn Q1 hwl;refine PySem.W.enter_call (JP (call w s₀ Po mg mb fa o pm cd Qp a vs ns G Y ho (PySem.W.fd_plain hd) Qr hmg hobj Rt Pm (p0 hlay) hg) λr s' hq=>?_)
 obtain⟨rfl,h2,h3,h4⟩:=hq;exact⟨.inl ⟨.bool true,.bool true,[],rfl,λ_=>rfl,.bool true,Att.post_true l _,λ_=>⟨IF,λ_ hm=>(nomatch hm)⟩⟩,h2,h3,h4⟩
theorem walk_ofB{l:Nv}{n k:Nat}{q:EW}{Q6:List Str}{XP:(Str->Option EN)->GD->Prop}{YP:Fl->GD->Prop}{d:DefRec}{K:Params->EI}{CX:CXT}{sp:EI->Sp}{x:Str}
  (hn:l.most=some n) (hn2:n<=sizeLine) (hdf:d.params.defaults=[]) (hr:eH k MS)
  (hY:∀(w:Fl) (h:GD),YP w h->(K w.params).In h)
  (F:∀(w:Fl) (mg:Str->Option EN) (fa:EX) (h:GD),(K w.params).In h->h.Ns GP mg->mg d.name=some (.ref fa)->
   ∃fd:F5,(∀(s:EL) (u:EN),MP s fd ⟨[u],[]⟩ [(x,u)])/\
    ∀base:GD,(K w.params).In base->base.Ns GP mg->ba l.prog w (K w.params) mg base CX k fa fd [x] (sp (K w.params)))
  (QL:∀(K:EI) (H:Hp) (a:EX) (ns:List Int),ns.length<=n->(∀m∈ns,Sz 1048576 m)->zI H->SqL K H a (ns.map V.int)->sp K [.ref a] H (λv _=>v=.bl true) λ_ _ _=>False)
  (hCX:∀(H:Hp) (s:EL) (e:EN) (s':EL),CX [] H s (λ_ _ _=>False) e s'->False):
  Oy q Q6 XP YP l.row.toRowW d [] (λf vs=>Pg f vs):=by
 refine m7 hn hdf λw s₀ Po mg mb fa o pm cd Qp a vs ns G Y ho hd Qr hmg hobj Rt Pm hbits hg=>?_
 have KX:=hY w _ Y;obtain⟨fd,hb,hF⟩:=F w mg fa _ KX G.T.g hmg;exact vW KX G.T.g G.T.b G.T.builtins G.T.nolimit hg hobj Rt (Gs Pm hn2) hr hF hb (λH hO hS=>QL _ H a ns Pm hbits hO hS) λH e s'=>hCX H Po e s'
end L2
namespace L2
theorem yR{α:Type}{xs:List α}{k:Int}{i:Nat}{v:α}(e:k=(i:Int))(h:xs[i]?=some v):atI xs k=some v:=by subst e;exact sV h
theorem Sz.natle{m:Nat}{x y:Int}(hy:Sz m y)(h:x.natAbs<=y.natAbs):Sz m x:=Sz.le h hy
end L2
namespace L2
open PySem PySem.Spec PyProof.Rows
abbrev aE(X:Cx)(Ph:Js)(cl:List (Str×EX))(C:EX)(s:EL)(H:Hp)(fp:List EX):Cx:=
 {X with s₀:=s,H₀:=H,env:=L_ Ph cl C X.env,outer:=X.stack,ex:=fp,fn:=λ_=>false,pn:=[],xe:=λ_ _=>False }
def mask:List Nat->St->St
 |[],σ=>σ
 |i::is,σ=>mask is (σ.set i none)
theorem fj:∀(is:List Nat) (σ:St),(mask is σ).length=σ.length
 |[],_=>rfl
 |i::is,σ=>by rw[mask,fj is];simp
theorem gr:∀(is:List Nat) (σ:St) (j:Nat) (v:V),(mask is σ)[j]?=some (some v)->σ[j]?=some (some v)/\j ∉ is
 |[],σ,j,v,h=>⟨h,by simp⟩
 |i::is,σ,j,v,h=>by
  obtain⟨h1,h2⟩:=gr is _ j v h;by_cases e:i=j
  ·subst e;rw[KF]at h1;simp at h1
  ·rw[Fw e]at h1;exact⟨h1,by simp[Ne.symm e,h2]⟩
structure cS(X:Cx)(Ph:Js)(cl:List (Str×EX))(is:List Nat):Prop where
 clos:Oo Ph X.env=pure cl
 cell:∀y∈Ph.names,y.2≠.cell
 kind:Ph.kind=.function
 names:∀y∈Ph.names,y.2=.local->Ph.names.lookup y.1=some .local
 cls:∀x c,cl.lookup x=some c->X.env.cells.lookup x=some c
 free:∀x,((Nw Ph X.env).names.lookup x=some .cell\/(Nw Ph X.env).names.lookup x=some .free)->Vis X.env.scope x/\X.env.scope.names.lookup x≠some .local/\∃c,cl.lookup x=some c
 own:∀i x,X.N[i]?=some x->(Nw Ph X.env).names.lookup x=some .local->i∈is
def yL(J:It)(is:List Nat)(g:TG)(te:TE)(σ:St)(H1:Hp)(l:EX)(Q:VK):Prop:=
 ∃W:Nat->Nat->Hp->Prop,(∃m,W 0 m (upd H1 l (.lst [])))/\∀i m H2,W i m H2->
  (J.stop i H2/\Q (.ref l) H2)\/(J.go i H2/\∀x H3,J.yld i H2 x H3->g x (mask is σ) H3 λRb H4=>te Rb H4 λy H5=>
   (∀(j:Nat) (v:V),(mask is σ)[j]?=some (some v)->Rb[j]?=some (some v))/\∃vs,H5 l=some (.lst vs)/\vs.length<sizeLine/\∃m',m'<m/\W (i+1) m' (upd H5 l (.lst (vs++[y]))))
def t_(is:List Nat)(g:TG)(te:TE)(σ:St)(Q:VK)(J:It)(H1:Hp):Prop:=∀l,H1 l=none->yL J is g te σ H1 l Q
def A3(is:List Nat)(wi:TI)(g:TG)(te:TE):TE:=λσ H Q=>wi σ H (t_ is g te σ Q)
section
variable {X:Cx}{pins:List (EX×Obj)}{σ:St}{H:Hp}{s:EL}
theorem i0{Ph:Js}{cl:List (Str×EX)}{is:List Nat}{fp:List EX}{h₁:GD}{m:Str->Option EN}{t':Nat}(I:Inv X pins σ H s)(B:cS X Ph cl is)(hf:∀b∈fp,iK X pins H b)(hfl:∀b∈fp,b<s.heap.objs.size)
  (hn:h₁.Ns s.heap.objs.size m) (hk:∀b o,s.heap.get? b=some o->h₁.get? b=some o):
  Inv (aE X Ph cl s.heap.objs.size s H fp) [] (mask is σ) H {s with heap:=h₁,toks:=t' }:=by
 refine⟨⟨I.ok.mod,B.kind,I.ok.glob,I.ok.blt,EU _,λx y c h1 h2=>I.ok.inj x y c (B.cls x c h1) (B.cls y c h2),λx hx=>(B.free x hx).2.2,λx c h=>(by cases h),I.ok.hd,I.ok.frames,.inl rfl,λb hb=>⟨Ft (hfl b hb),λx c e=>(hf b hb).2.2.2.2.1 x c (B.cls x c e)⟩,
  I.bs,Gs I.ok.bsz I.sz,λb o e hb=>?_,λb hb z=>?_,I.stack,I.stkFree⟩,rfl,I.bare,Un.kept hk,⟨m,hn,λi x v h1 h2 h3=>?_⟩,λx c e=>?_,I.hok.fresh (EU _),λx c e=>I.freeC x c (B.cls x c e),λp hp=>absurd (show p∈([]:List (EX×Obj)) from hp) (by simp),I.hok.kept hk,?_⟩
 ·rcases (hf b hb).2.2.2.1 with z |z
  ·exact I.ok.noex b o e z
  ·exact absurd (Fu (EY e) (Gs I.ok.bsz z)) (FA _)
 ·rcases EO.mp (I.stkSub b z) with e |e
  ·exact (hf b hb).2.1 e
  ·exact (hf b hb).2.2.1 e
 ·obtain⟨e2,ni⟩:=gr is σ i v h2;have Q7:(Nw Ph X.env).names.lookup x=some .local\/(Nw Ph X.env).names.lookup x=some .cell\/(Nw Ph X.env).names.lookup x=some .free:=h3;rcases Q7 with z |z
  ·exact absurd (B.own i x h1 z) ni
  ·obtain⟨hv,hnl,c,hc⟩:=B.free x z;obtain⟨m0,_,hl⟩:=I.loc;obtain⟨u,r,l⟩:=hl i x v h1 e2 hv;refine⟨u,r,.inr ⟨z,c,hc,?_⟩⟩;rcases l with ⟨k,_⟩ |⟨_,c',QN,o,ho,hd⟩
   ·exact absurd k hnl
   ·have ec:=B.cls x c hc;rw[QN]at ec;cases ec;exact⟨o,hk _ _ ho,hd⟩
 ·obtain⟨v,o,ho,hd⟩:=I.cell x c (B.cls x c e);exact⟨v,o,hk _ _ ho,hd⟩
 ·show (mask is σ).length=X.N.length;rw[fj];exact I.len
theorem qb{P5 iter tg:Expr}{Ph:Js}{cl:List (Str×EX)}{pos pos0:Pos}{is:List Nat}{g:TG}{te:TE}{use:Option (EN->Sem Unit)}{Q0:VK}{Q:EN->EL->Prop}(hc:X.calm=true)(B:cS X Ph cl is)
  (hg:∀C s H fp,PG (aE X Ph cl C s H fp) tg g) (he:∀C s H fp,PE (aE X Ph cl C s H fp) P5 te) (hs:∀x,Gf iter X.env x=pure x)
  (I:Inv X pins σ H s) (hi:Ff (FE X.prog X.w) X.A (HY iter X.env) (λv s1=>Ff (FE X.prog X.w) X.A (M3 v) (PIE X pins σ tg (t_ is g te σ Q0)) X.xe s1) X.xe s)
  (PF:∀(l C:EX) (H':Hp) (s':EL) (m:Str->Option EN),Inv X pins σ H' s'->s'.heap.Ns C m->H' C=none->C≠X.env.locals->C ∉ X.fs->X.s₀.heap.objs.size<=C->(∀x c,X.env.cells.lookup x=some c->c≠C)->(∀p∈X.pn++pins,p.1≠C)->Q0 (.ref l) H'->
   Oz (FE X.prog X.w) X.A X.xe use Q (.ref l) C (.ok .next) s'):
  Ff (FE X.prog X.w) X.A (Mz (.ListComp P5 [⟨tg,iter,[],0⟩] Ph pos) Ph X.env pos0 (newList []) false (HY iter X.env) use) Q X.xe s:=by
 refine KG rfl hs B.clos B.kind B.names (thn hi λxv s1 h1=>thn h1 λitv s2 h2=>?_)
 obtain⟨it,fp,tn,J,H2,e,I2,T,st2,f2,R⟩:=h2;subst e;refine G9 (Ma B.cell (by intro y hy;simp at hy) (λh₁ hns QQ=>?_) B.kind)
 have hl:H2 s2.heap.objs.size=none:=I2.hok.fresh (EU _);obtain⟨W,⟨m0,w0⟩,turn⟩:=R s2.heap.objs.size hl
 have I3:Inv X pins σ (upd H2 s2.heap.objs.size (.lst [])) {s2 with heap:=s2.heap.push {cls:=.type "list",dict:=none,data:=.seq ([]:List EN).toArray } }:=
  I2.laid (t':=s2.toks) (o:=.lst []) (λb u e=>EK _ e) (EU _) ⟨FU _,[],0,.nil,E3 _ rfl⟩
 have hfl:∀b∈fp,b<s2.heap.objs.size:=λb hb=>let ⟨o,e,_⟩:=T.obj 0 _ st2 b hb;EY e
 have f3:∀b∈fp,iK X pins (upd H2 s2.heap.objs.size (.lst [])) b:=λb hb=>⟨by rw[aT (Ft (hfl b hb))];exact (f2 b hb).1,(f2 b hb).2⟩
 have kp:∀b o,(s2.heap.push {cls:=.type "list",dict:=none,data:=.seq ([]:List EN).toArray }).get? b=some o→h₁.get? b=some o:=λb o e=>
  QQ.extBut b o (Ft (EY e)) (EK _ e)
 have st4:tn 0 h₁:=T.keep 0 _ _ st2 λb _ o e=>kp b o (EK _ e)
 have hfl3:∀b∈fp,b<(s2.heap.push {cls:=.type "list",dict:=none,data:=.seq ([]:List EN).toArray }).objs.size:=λb hb=>by
  rw[GM];exact GV (hfl b hb)
 have I4:=i0 (t':=s2.toks+([]:List (Str×EN)).length) I3 B f3 hfl3 hns kp
 have loop:Ip (FE X.prog X.w) X.A (.compLoop (.ListComp P5 [⟨tg,iter,[],0⟩] Ph pos) 0 (.ref it) (.ref s2.heap.objs.size) (L_ Ph cl (s2.heap.push {cls:=.type "list",dict:=none,data:=.seq ([]:List EN).toArray }).objs.size X.env))
   (Oz (FE X.prog X.w) X.A X.xe use Q (.ref s2.heap.objs.size) (s2.heap.push {cls:=.type "list",dict:=none,data:=.seq ([]:List EN).toArray }).objs.size)
   {s2 with heap:=h₁,toks:=s2.toks+([]:List (Str×EN)).length }:=by
  generalize hs3:({s2 with heap:=s2.heap.push {cls:=.type "list",dict:=none,data:=.seq ([]:List EN).toArray } }:EL)=s3 at *
  have hC:(s2.heap.push {cls:=.type "list",dict:=none,data:=.seq ([]:List EN).toArray }).objs.size=s3.heap.objs.size:=by rw[←hs3]
  rw[hC]
  have QD:∀{H':Hp},(∀b∈fp,H' b=none)->∀b∈fp,iK (aE X Ph cl s3.heap.objs.size s3 (upd H2 s2.heap.objs.size (.lst [])) fp) [] H' b:=λhn b hb=>
   ⟨hn b hb,(I4.ok.exf b hb).1,I4.ok.exfs b hb,.inl hb,λx c e=>(I4.ok.exf b hb).2 x c e,λp hp=>absurd (show p∈([]:List (EX×Obj)) from hp) (by simp)⟩
  have back:∀{Pz:St}{H':Hp}{pp:List (EX×Obj)}{s':EL},Inv (aE X Ph cl s3.heap.objs.size s3 (upd H2 s2.heap.objs.size (.lst [])) fp) pp Pz H' s'->Inv X pins σ H' s':=λI'=>
   I3.call' (ch:=fp) I'.os I'.base I'.hok I'.bare λb hb=>⟨(f3 b hb).2.2.2.1,(f3 b hb).2.1,(f3 b hb).2.2.2.2.1,(f3 b hb).2.2.2.2.2⟩
  refine codeAny_loop rfl (λn s'=>∃i H',Inv (aE X Ph cl s3.heap.objs.size s3 (upd H2 s2.heap.objs.size (.lst [])) fp) [] (mask is σ) H' s'/\tn i s'.heap/\(∀b∈fp,H' b=none)/\W i n H') ?_ m0 ⟨0,_,(by subst hs3;exact I4),st4,λb hb=>(f3 b hb).1,w0⟩
  rintro n s5 ⟨i,H5,I5,RN,fr5,w5⟩;show Ff _ _ ((compTurn (.ListComp P5 [⟨tg,iter,[],0⟩] Ph pos) 0 (.ref it) (.ref s2.heap.objs.size) (L_ Ph cl s3.heap.objs.size X.env)).onRaise (λx=>do noteFrame x (L_ Ph cl s3.heap.objs.size X.env);Nx x)) _ _ s5
  refine wpAny_noted ?_;rw[compTurn_list1];refine EF (K3 (EF ?_));rcases turn i n H5 w5 with ⟨stop,q⟩ |⟨go,step⟩
  ·refine thn (T.done (aE X Ph cl s3.heap.objs.size s3 (upd H2 s2.heap.objs.size (.lst [])) fp) rfl rfl rfl hc i [] s5 _ H5 _ I5 (QD fr5) RN stop) λr s6 ⟨hr,I6⟩=>?_
   subst hr;refine EM ?_;obtain⟨m6,hn6,_⟩:=I6.loc;have hCn:∀b,b<s3.heap.objs.size->b≠s3.heap.objs.size:=λb hb=>Ft hb
   refine PF _ s3.heap.objs.size H5 s6 m6 (back I6) hn6 I6.free (Io I3.lt) (I3.nofs (EU _)) I3.sz (λx c e=>?_) (λp hp=>?_) q
   ·obtain⟨v,z⟩:=I3.cell x c e;exact Ft z.lt
   ·exact Ft (EY (I3.pin p hp).1)
  ·refine thn (T.item (aE X Ph cl s3.heap.objs.size s3 (upd H2 s2.heap.objs.size (.lst [])) fp) rfl rfl rfl hc i [] s5 _ H5 _ I5 (QD fr5) RN go) λr s6 ⟨u,hr,h6⟩=>?_
   subst hr;refine EF (thn h6 λ_ s7 ⟨x,H7,I7,r7,y7,st7,fr7⟩=>?_)
   have I7':=I7.pinned (QD fr7) (T.obj _ _ st7);refine EF (HJ (hg _ _ _ _ _ s7 (mask is σ) H7 x u _ I7' r7 (step x H7 y7)) (λ_ s8 ⟨σ8,H8,I8,q8⟩=>?_) λ_ _ z=>z.elim)
   refine EF (EF (HJ (he _ _ _ _ _ s8 σ8 H8 _ I8 q8) (λv s9 ⟨y,H9,I9,r9,sub,vs,hl9,hz,m',hm,w'⟩=>?_) λ_ _ z=>z.elim))
   refine EF (HJ (iT (X:=aE X Ph cl s3.heap.objs.size s3 (upd H2 s2.heap.objs.size (.lst [])) fp) _ s9 σ8 H9 (.ref s2.heap.objs.size) [y] (.ref s2.heap.objs.size) [v] (λ_ H'=>H'=upd H9 s2.heap.objs.size (.lst (vs++[y]))) I9 rfl (.cons r9 .nil) ⟨_,vs,y,rfl,rfl,hl9,hz,rfl⟩) (λz s10 ⟨zv,H10,I10,_,e10⟩=>?_) λ_ _ z=>z.elim)
   subst e10;refine EM (EM ⟨rfl,m',hm,i+1,_,(I10.unpinned (pins:=[])).weak (by rw[I10.len,fj,I.len]) sub,T.keep _ _ _ st7 λb hb o e=>(I10.pin (b,o) (E_ _ (E_ _ (dm hb e)))).1,λb hb=>?_,w'⟩)
   obtain⟨o,e,d⟩:=T.obj _ _ st7 b hb;exact (I10.pin (b,o) (E_ _ (E_ _ (dm hb e)))).2.1
 exact Ly loop (T.self X.A 0 _ _ _ st4 loop)
theorem zA{P5 iter tg:Expr}{Ph:Js}{cl:List (Str×EX)}{pos:Pos}{is:List Nat}{wi:TI}{g:TG}{te:TE}(hc:X.calm=true)(B:cS X Ph cl is)
  (hi:PI X tg iter wi) (hg:∀C s H fp,PG (aE X Ph cl C s H fp) tg g) (he:∀C s H fp,PE (aE X Ph cl C s H fp) P5 te) (hs:∀x,Gf iter X.env x=pure x:=by intro _;rfl):
  PE X (.ListComp P5 [⟨tg,iter,[],0⟩] Ph pos) (A3 is wi g te):=by
 intro pins s σ H Q I h;rw[eval_ListComp];refine qb (use:=none) hc B hg he hs I (hi pins s σ H _ I h) λl C H' s' m I' hn h1 h2 h3 h4 h5 h6 q=>⟨m,hn,λh' QQ=>?_⟩
 exact⟨.ref l,H',I'.turned (t':=s'.toks) (λb o hb e=>QQ.extBut b o hb e) h1 (Ne.symm h2.symm) (.inr h4) h5 h6,rfl,q⟩
theorem jZ{P5 iter tg:Expr}{Ph:Js}{cl:List (Str×EX)}{pos QJ py:Pos}{y:Str}{j:Nat}{is:List Nat}{wi:TI}{g:TG}{te:TE}(hc:X.calm=true)(hN:X.N.Nodup)(hj:X.N[j]?=some y)(hy:Loc X.env.scope y)(B:cS X Ph cl is)
  (hi:PI X tg iter wi) (hg:∀C s H fp,PG (aE X Ph cl C s H fp) tg g) (he:∀C s H fp,PE (aE X Ph cl C s H fp) P5 te) (hs:∀x,Gf iter X.env x=pure x:=by intro _;rfl)
  (hsw:IS (.ListComp P5 [⟨tg,iter,[],0⟩] Ph pos) (some (.Name y py)) QJ.line X.env=pure true:=by rfl) (hf:X.fn y=true\/X.env.scope.names.lookup y=some .local:=by first |exact .inl rfl |exact .inr rfl |assumption):
  PS X (.Assign [.Name y py] (.ListComp P5 [⟨tg,iter,[],0⟩] Ph pos) QJ) (BU (A3 is wi g te) (oU j)):=by
 intro pins s σ H D I h;rw[exec_Assign_Name_used _ _ _ _ hsw];refine EF (K3 (EF ?_));show Ff _ X.A (do let _ <-Mz (.ListComp P5 [⟨tg,iter,[],0⟩] Ph pos) Ph X.env _ (newList []) false (HY iter X.env) (some (N9 (.Name y py) X.env))) _ _ s
 refine EF (HJ (qb (Q0:=λv H'=>D.nx (σ.set j (some v)) H') (use:=some (N9 (.Name y py) X.env)) (Q:=λ_ s'=>SP X pins D .next s') hc B hg he hs I (hi pins s σ H _ I h) λl C H' s' m I' hn h1 h2 h3 h4 h5 h6 q=>?_) (λ_ s' hq=>EM (EM hq)) λ_ _ e=>e)
 show Ff _ X.A (N9 (.Name y py) X.env (.ref l)) _ _ _;refine MJ (mt I' hN hj hy (v:=.ref l) rfl (λs2 I2 ⟨a,QQ,ha⟩=>?_) hf)
 have hCa:C≠a:=by
  rcases ha with e |e
  ·rw[e];exact h2
  ·exact Ne.symm (h5 _ _ e)
 refine⟨m,hn.sameBut QQ hCa,λh' hsb'=>⟨_,H',I2.turned (t':=s2.toks) (λb o hb e=>hsb'.extBut b o hb e) h1 h2 (.inr h4) h5 h6,q⟩⟩
variable {prog:EW}{w:Fl}{A:Fm}{E:EN→EL→Prop}
variable {pos:Pos}
end
def goC(Qn:List (Str×EX)):List (Str×J3)->List (Str×EX)->List (Str×EX)
 |[],acc=>acc
 | (n,k)::r,acc=>goC Qn r (if (k==.free)=true then (n,(Qn.lookup n).getD 0)::acc else acc)
theorem q_{env:Env}{Ph:Js}(h:∀y∈Ph.names,y.2=.free->(env.cells.lookup y.1).isSome=true):Oo Ph env=pure (goC env.cells Ph.names []):=by
 have all:∀(names:List (Str×J3)) (acc:List (Str×EX)),(∀y∈names,y.2=.free->(env.cells.lookup y.1).isSome=true)->
   (forIn names acc (λx cs=>match x with | (name,kind)=>if (kind==.free)=true then (do let c <-cellOf env name;pure (ForInStep.yield ((name,c)::cs))) else pure (ForInStep.yield cs)):Sem (List (Str×EX)))=pure (goC env.cells names acc):=by
  intro names
  induction names with
  |nil=>intro acc _;rfl
  |cons y r ih=>
   intro acc hy;obtain⟨n,k⟩:=y;rw[Ia];by_cases hk:k=.free
   ·subst hk;have:=hy (n,.free) ET rfl;obtain⟨c,hc⟩:=Jd.mp this;have e:cellOf env n=pure c:=by unfold cellOf;rw[hc]
    simp only[beq_self_eq_true,if_true,e,pure_bind];rw[ih _ λy RI=>hy y (EJ _ RI)]
    simp only[goC,beq_self_eq_true,if_true,hc,HK]
   ·have hb:(k==NameKind.free)=false:=by simpa using hk
    simp only[hb,E7,if_false,pure_bind];rw[ih _ λy RI=>hy y (EJ _ RI)]
    simp only[goC,hb,E7,if_false]
 simp only[Oo];have:=all Ph.names [] h;simpa using this
theorem tQ{Qn:List (Str×EX)}:∀(names:List (Str×J3)) (acc:List (Str×EX)),(∀y∈names,y.2=.free->(Qn.lookup y.1).isSome=true)->(∀x c,acc.lookup x=some c->Qn.lookup x=some c)->
  ∀x c,(goC Qn names acc).lookup x=some c->Qn.lookup x=some c
 |[],_,_,ha,x,c,h=>ha x c h
 | (n,k)::r,acc,hy,ha,x,c,h=>by
  rw[goC]at h;refine tQ r _ (λy RI=>hy y (EJ _ RI)) (λx' c' e=>?_) x c h
  by_cases hk:k=.free
  ·subst hk;simp only[beq_self_eq_true,if_true]at e;rw[JX]at e;by_cases hx:(x'==n)=true
   ·rw[hx]at e;have QY:x'=n:=by simpa using hx
    obtain⟨c2,hc2⟩:=Jd.mp (hy (n,.free) ET rfl);simp only[hc2,HK]at e;rw[QY,hc2];exact e
   ·have:(x'==n)=false:=by simpa using hx
    rw[this]at e;exact ha x' c' e
  ·have hb:(k==NameKind.free)=false:=by simpa using hk
   rw[hb]at e;exact ha x' c' e
theorem sT{Qn:List (Str×EX)}{x:Str}:∀(names:List (Str×J3)) (acc:List (Str×EX)),((x,NameKind.free)∈names\/∃c,acc.lookup x=some c)->∃c,(goC Qn names acc).lookup x=some c
 |[],_,h=>by
  rcases h with h |h
  ·cases h
  ·exact h
 | (n,k)::r,acc,h=>by
  rw[goC];refine sT r _ ?_;rcases h with h |⟨c,h⟩
  ·rcases EO.mp h with e |h
   ·cases e
    right
    simp
   ·exact .inl h
  ·right
   by_cases hk:k=.free
   ·subst hk;simp only[beq_self_eq_true,if_true];rw[JX];cases hx:x==n with
    |true=>exact⟨_,rfl⟩
    |false=>exact⟨c,h⟩
   ·have hb:(k==NameKind.free)=false:=by simpa using hk
    rw[hb];exact⟨c,h⟩
theorem cZ{env:Env}{x:Str}{kd:J3}:∀{names:List (Str×J3)},
  (names.map λ(n,k)=>if (k==NameKind.free && env.scope.kind==.function && env.kindOf n==some .cell) then (n,NameKind.cell) else (n,k)).lookup x=some kd->names.lookup x=some kd\/(kd=.cell/\names.lookup x=some .free)
 |[],h=>by simp at h
 | (n,k)::r,h=>by
  have ih:=@cZ env x kd r
  change List.lookup x ((if (k==NameKind.free && env.scope.kind==.function && env.kindOf n==some .cell)=true then (n,NameKind.cell) else (n,k))::_)=_ at h
  by_cases hc:(k==NameKind.free && env.scope.kind==.function && env.kindOf n==some .cell)=true
  ·rw[if_pos hc]at h;rw[JX]at h |-;cases hx:x==n with
   |true=>
    rw[hx]at h
    have hk:k=.free:=by
     have:=(Mb.mp (Mb.mp hc).1).1;simpa using this
    subst hk;have h':some NameKind.cell=some kd:=h;cases h';exact .inr ⟨rfl,rfl⟩
   |false=>rw[hx]at h;exact ih h
  ·rw[if_neg hc]at h;rw[JX]at h |-;cases hx:x==n with
   |true=>rw[hx]at h;exact .inl h
   |false=>rw[hx]at h;exact ih h
def xL(Ph Qf:Js)(N:List Str)(is:List Nat):Bool:=
 Ph.names.all (λy=>y.2 !=.cell) && Ph.names.all (λy=>y.2 !=.local ||Ph.names.lookup y.1==some .local) && Ph.names.all (λy=>y.2 !=.free ||Qf.names.lookup y.1==some .cell) &&
  (Fz N.length).all λi=>match N[i]? with |some x=>Ph.names.lookup x !=some .local ||is.contains i |none=>true
theorem blk{X:Cx}{Ph:Js}(Qf:Js)(N:List Str)(is:List Nat)(hNN:X.N=N)(hs:X.env.scope=Qf)(hcs:X.env.cells=Nr (X.env.locals+1) Qf.names [])(hk:Ph.kind=.function)(h:xL Ph Qf N is=true):cS X Ph (goC X.env.cells Ph.names []) is:=by
 subst hNN;unfold xL at h;simp only[Gn,Ij]at h;obtain⟨⟨⟨h1,h2⟩,h3⟩,h4⟩:=h
 have f1:∀y∈Ph.names,y.2=.free->Qf.names.lookup y.1=some .cell:=λy hy e=>by
  have:=h3 y hy;simp only[LM,bne_iff_ne,ne_eq,beq_iff_eq]at this;exact this.resolve_left λz=>z e
 have f2:∀y∈Ph.names,y.2=.free->(X.env.cells.lookup y.1).isSome=true:=λy hy e=>by
  rw[hcs];exact Jt _ _ _ (.inl (f1 y hy e))
 have nc:∀y∈Ph.names,y.2≠.cell:=λy hy=>by have:=h1 y hy;simpa using this
 refine⟨q_ f2,nc,hk,λy hy e=>?_,tQ _ _ f2 (λx c e=>by simp at e),λx hx=>?_,λi x hi hl=>?_⟩
 ·have:=h2 y hy;simp only[LM,bne_iff_ne,ne_eq,beq_iff_eq]at this;exact this.resolve_left λz=>z e
 ·have hf:(x,NameKind.free)∈Ph.names:=by
   rcases hx with hx |hx
   ·rcases cZ hx with z |⟨_,z⟩
    ·exact absurd rfl (nc _ (GQ z))
    ·exact GQ z
   ·rcases cZ hx with z |⟨z,_⟩
    ·exact GQ z
    ·cases z
  have hc:=f1 _ hf rfl;refine⟨.inr (.inl (by rw[hs];exact hc)),(by rw[hs,show Qf.names.lookup x=some .cell from hc];intro z;cases z),sT _ _ (.inl hf)⟩
 ·have Pu:i<X.N.length:=(E1.mp hi).1;have:=h4 i (Fk.mpr Pu);rw[hi]at this
  have PH:Ph.names.lookup x=some .local:=by
   rcases cZ hl with z |⟨z,_⟩
   ·exact z
   ·cases z
  simp only[PH,bne_self_eq_false,Bool.false_or,List.contains_iff_mem]at this;exact this
end L2
namespace L2
end L2
namespace L2
open PySem PySem.Spec PySem.W PyProof.Rows
def CXF(P:EW)(w:Fl):CXT:=λouter H s E e s'=>∃(ea:EX) (cls a0:EN) (B:GD) (H':Hp),e=.ref ea/\s'.os=s.os/\KZ s'.gens/\Un (frs outer) [] H H' s.heap s'.heap/\HOk P w H' s'.heap/\H' ea=none/\
 (∀b o,s.heap.get? b=some o->b ∉ frs outer->H b=none->B.get? b=some o)/\(∀b u,H' b=some u->∃o,B.get? b=some o)/\(∀b o,s.heap.get? b=some o->b ∉ frs outer->∃o',B.get? b=some o')/\
 Heap.FlyingW B outer ea cls a0 s'.heap/\E cls none H'
theorem au{P:EW}{w:Fl}{X:Cx}:iS (CXF P w) X E0:=λ_ _ _ _ _ _ _ h=>by
 obtain⟨_,_,_,_,_,_,_,_,_,_,_,_,_,_,_,hE⟩:=h;exact hE.elim
section
variable {P:EW}{w:Fl}{K:Frag}{mg:Str→Option EN}{base:GD}{N:List Str}{Pl:Str}{Ph:Js}{f:EX}{cd:EN}{A:Fm}{outer:List Env}{s:EL}{H:Hp}{E:XK}
end
theorem Fun.okF{P:EW}{w:Fl}{K:Frag}{mg:Str->Option EN}{base:GD}{x Pl:Str}{st:Hc}{f:EX}{fd:F5}{N ps:List Str}{k:Nat}{sp:Sp}(F:Fun K x Pl st f fd)(S:av N ps (ak st))(len:∀vs H Q E,sp vs H Q E->vs.length=ps.length)
  (Qk:∀(Pp:EN) (A:Fm) (outer:List Env) (s:EL) (H:Hp) (vs:List V) (Q:VK) (E:XK),eH k (A.deeper (LJ Pl (ak st) s.heap.objs.size f Pp))->sp vs H Q E->
   ∃t,PSs (nV (CXF P w) P w K mg base N Pl (ak st) f Pp A outer s H E) (bN st) t/\t {nx:=λ_ H'=>Q .non H',rt:=Q } (start N vs) H):ba P w K mg base (CXF P w) (k+1) f fd ps sp:=by
 obtain⟨oc,od,kV,Qp,pm,an,Pp,ct,Q4,rfl,lk,Qr⟩:=F.ex;exact Bb lk Qr S len λA outer s H vs Q E hr QL=>Qk Pp A outer s H vs Q E hr QL
section
variable {X:Cx}{pins:List (EX×Obj)}{σ:St}{H:Hp}{s:EL}
end
end L2
namespace L2
open PySem PySem.Spec PyProof.Rows
theorem lE{n:Nat}{e:Nat->Bool}:(Fz n).all e=true↔∀j,j<n->e j=true:=by
 rw[Ij];exact⟨λh j hj=>h j (Fk.mpr hj),λh j hj=>h j (Fk.mp hj)⟩
section
variable {X:Cx}
end
end L2
namespace PySem.W
open PySem PySem.Spec PySem.Calls PyProof.Rows PySem.Builtin PySem.Builtin.ObjectAttr PySem.Builtin.Getset_descriptor
section
variable {prog:EW}{w:Fl}{A:Fm}{E:EN→EL→Prop}{s:EL}{K:Frag}{x C:EX}
def OfCls(x C:EX)(h:GD):Prop:=∃o,h.get? x=some o/\o.cls=.ref C
variable (hga:findIn K (.ref C) "__getattribute__"=some (some (.builtin "BaseException.__getattribute__"))) (hgn:findIn K (.ref C) "__getattr__"=some none) (ha:findIn K (.ref C) "__class__"=some (some (.builtin "object.__class__")))
 (hn:specialIn K (.builtin "object.__class__") "__get__"=some (some (.builtin "getset_descriptor.__get__"))) (QE:takesIn K (.builtin "object.__class__")=some true) (hm:mroIn K C (.type "object")=some true) (hmB:mroIn K C (.type "BaseException")=some true)
include ha hn QE hm in
end
structure XcOk(K:Frag)(C:EX):Prop where
 ga:findIn K (.ref C) "__getattribute__"=some (some (.builtin "BaseException.__getattribute__"))
 gn:findIn K (.ref C) "__getattr__"=some none
 at_:findIn K (.ref C) "__class__"=some (some (.builtin "object.__class__"))
 sp:specialIn K (.builtin "object.__class__") "__get__"=some (some (.builtin "getset_descriptor.__get__"))
 tk:takesIn K (.builtin "object.__class__")=some true
 mo:mroIn K C (.type "object")=some true
 mb:mroIn K C (.type "BaseException")=some true
theorem XcOk.off{x C:EX}{h:GD}{o:Obj}{T:String}(I:OfCls x C h)(e:h.get? x=some o)(c:o.cls=.type T):False:=by
 obtain⟨o',e',c'⟩:=I;rw[e]at e';cases e';rw[c]at c';cases c'
end PySem.W
namespace L2
open PySem PySem.Spec PyProof.Rows
inductive TyX where
 |nm (n:String) |xc (C:EX)
inductive U where
 |non |bl (b:Bool) |int (i:Int) |str (x:Str) |ty (n:TyX) |dic |scr (xs:List U) |tup (xs:List U) |lst (xs:List U)
def U.items:U->Option (List U)
 | .scr xs=>some xs
 | .tup xs=>some xs
 | .lst xs=>some xs
 |_=>none
def hid(H:Hp)(O:List EX):Hp:=λb=>if b∈O then none else H b
theorem hG{H:Hp}{O:List EX}{b:EX}{o:HO}(h:hid H O b=some o):H b=some o/\b ∉ O:=by
 unfold hid at h;split at h
 ·cases h
 ·exact⟨h,by assumption⟩
theorem c9{H:Hp}{O:List EX}{b:EX}{o:HO}(h:H b=some o)(n:b ∉ O):hid H O b=some o:=by
 unfold hid;rw[if_neg n];exact h
theorem aC{H:Hp}{O:List EX}:aK (hid H O) H:=λ_ _ h=>(hG h).1
theorem aM{H H':Hp}{O:List EX}(e:aK H H'):aK (hid H O) (hid H' O):=λ_ _ h=>c9 (e _ _ (hG h).1) (hG h).2
theorem eJ{H:Hp}{O O':List EX}(e:∀a∈O',a∈O):aK (hid H O) (hid H O'):=λ_ _ h=>c9 (hG h).1 λz=>(hG h).2 (e _ z)
theorem bD{H H':Hp}{O:List EX}{a:EX}(e:aK H H')(n:H a=none):aK (hid H O) (hid H' (a::O)):=λb o h=>by
 obtain⟨h1,h2⟩:=hG h;refine c9 (e _ _ h1) λz=>?_
 rcases EO.mp z with y |y
 ·subst y;rw[n]at h1;cases h1
 ·exact h2 y
theorem jz{H:Hp}{O:List EX}{a:EX}{o:HO}(h:a∈O):hid (upd H a o) O=hid H O:=by
 funext b
 unfold hid;split
 ·rfl
 ·rename_i n
  rw[aT λe=>n (by rw[e];exact h)]
inductive Rp (K:EI) (H:Hp):V->U->Prop where
 |non:Rp K H .non .non
 |bl (b:Bool):Rp K H (.bl b) (.bl b)
 |int (i:Int):Rp K H (.int i) (.int i)
 |str (x:Str):Rp K H (.str x) (.str x)
 |ty (n:String):Rp K H (.ty n) (.ty (.nm n))
 |dic {a:EX}{PX:List (Key×V)} (h:H a=some (.dK PX)):Rp K H (.ref a) .dic
 |xc {a C:EX} (h:H a=some (.ext (PySem.W.OfCls a C))) (k:PySem.W.XcOk K C):Rp K H (.ref a) (.ty (.xc C))
 |scr {a:EX}{vs:List V}{xs:List U} (h:SqL K H a vs) (hl:vs.length=xs.length) (hi:∀(i:Nat) (v:V) (x:U),vs[i]?=some v->xs[i]?=some x->Rp K H v x):Rp K H (.ref a) (.scr xs)
 |tup {a:EX}{vs:List V}{xs:List U} (h:SqT K H a vs) (hl:vs.length=xs.length) (hi:∀(i:Nat) (v:V) (x:U),vs[i]?=some v->xs[i]?=some x->Rp K H v x):Rp K H (.ref a) (.tup xs)
 |lst {a:EX}{vs:List V}{xs:List U} (h:H a=some (.lst vs)) (hl:vs.length=xs.length) (hi:∀(i:Nat) (v:V) (x:U),vs[i]?=some v->xs[i]?=some x->Rp K H v x):Rp K H (.ref a) (.lst xs)
theorem Rp.same{K:EI}{H H':Hp}{v:V}{u:U}(e:aK H H')(h:Rp K H v u):Rp K H' v u:=by
 induction h with
 |non=>exact .non
 |bl b=>exact .bl b
 |int i=>exact .int i
 |str x=>exact .str x
 |ty n=>exact .ty n
 |dic h=>exact .dic (e _ _ h)
 |xc h k=>exact .xc (e _ _ h) k
 |scr h hl hi ih=>exact .scr (e.seq h) hl ih
 |tup h hl hi ih=>exact .tup (e.tup h) hl ih
 |lst h hl hi ih=>exact .lst (e _ _ h) hl ih
structure Rps(K:EI)(H:Hp)(vs:List V)(xs:List U):Prop where
 len:vs.length=xs.length
 at_:∀(i:Nat) (v:V) (x:U),vs[i]?=some v->xs[i]?=some x->Rp K H v x
theorem Rps.same{K:EI}{H H':Hp}{vs:List V}{xs:List U}(e:aK H H')(h:Rps K H vs xs):Rps K H' vs xs:=⟨h.len,λi v x a b=>(h.at_ i v x a b).same e⟩
theorem Rps.nil{K:EI}{H:Hp}:Rps K H [] []:=⟨rfl,λi v x h=>by simp at h⟩
theorem Rps.cons{K:EI}{H:Hp}{v:V}{x:U}{vs:List V}{xs:List U}(h:Rp K H v x)(t:Rps K H vs xs):Rps K H (v::vs) (x::xs):=by
 refine⟨by simp[t.len],λi a b h1 h2=>?_⟩
 cases i with
 |zero=>simp at h1 h2;subst h1;subst h2;exact h
 |succ i=>exact t.at_ i a b (by simpa using h1) (by simpa using h2)
theorem Rps.snoc{K:EI}{H:Hp}{vs ws:List V}{xs ys:List U}(h:Rps K H vs xs)(t:Rps K H ws ys):Rps K H (vs++ws) (xs++ys):=by
 refine⟨by simp[h.len,t.len],λi a b h1 h2=>?_⟩
 by_cases hi:i<vs.length
 ·rw[Fb hi]at h1;rw[Fb (by rw[<-h.len];exact hi)]at h2
  exact h.at_ i a b h1 h2
 ·have RT:vs.length<=i:=JW hi;rw[Fd RT]at h1;rw[Fd (by rw[<-h.len];exact RT),<-h.len]at h2
  exact t.at_ _ a b h1 h2
theorem Rps.get{K:EI}{H:Hp}{vs:List V}{xs:List U}{i:Nat}{x:U}(h:Rps K H vs xs)(e:xs[i]?=some x):∃v,vs[i]?=some v/\Rp K H v x:=by
 have hi:i<vs.length:=by rw[h.len];exact (E1.mp e).1
 exact⟨vs[i],EG hi,h.at_ i _ x (EG hi) e⟩
theorem Rps.atI{K:EI}{H:Hp}{vs:List V}{xs:List U}{i:Int}{x:U}(h:Rps K H vs xs)(e:L2.atI xs i=some x):∃v,L2.atI vs i=some v/\Rp K H v x:=by
 unfold L2.atI at e |-;rw[h.len];cases q:ixN xs.length i with
 |none=>rw[q]at e;cases e
 |some j=>
  rw[q]at e;obtain⟨v,h1,h2⟩:=h.get (show xs[j]?=some x from e)
  exact⟨v,h1,h2⟩
theorem Rps.cons_inv{K:EI}{H:Hp}{vs:List V}{x:U}{xs:List U}(h:Rps K H vs (x::xs)):∃v ws,vs=v::ws/\Rp K H v x/\Rps K H ws xs:=by
 cases vs with
 |nil=>have:=h.len;simp at this
 |cons v ws=>
  refine⟨v,ws,rfl,h.at_ 0 v x rfl rfl,by have:=h.len;simpa using this,λi a b h1 h2=>h.at_ (i+1) a b (by simpa using h1) (by simpa using h2)⟩
theorem Rps.nil_inv{K:EI}{H:Hp}{vs:List V}(h:Rps K H vs []):vs=[]:=GE.mp (by rw[h.len];rfl)
structure DkR(K:EI)(H:Hp)(kv:List (Key×V))(PX:List (Str×U)):Prop where
 len:kv.length=PX.length
 at_:∀(i:Nat) (k:Key) (v:V) (x:Str) (u:U),kv[i]?=some (k,v)->PX[i]?=some (x,u)->k=.inr x/\Rp K H v u
theorem DkR.same{K:EI}{H H':Hp}{kv:List (Key×V)}{PX:List (Str×U)}(e:aK H H')(h:DkR K H kv PX):DkR K H' kv PX:=⟨h.len,λi k v x u a b=>⟨(h.at_ i k v x u a b).1,(h.at_ i k v x u a b).2.same e⟩⟩
inductive Sl where
 |val (u:U) |own (xs:List U) |pin (w:V) (u:U) |dsk (w:Bool) (C a d:EX) (PX:List (Str×U))
abbrev PSt:=List (Option Sl)
def zj(K:EI)(H:Hp)(O O0:List EX)(v:V):Sl->Prop
 | .val u=>Rp K (hid H O) v u
 | .own xs=>∃a vs,v=.ref a/\a∈O/\a ∉ O0/\H a=some (.lst vs)/\Rps K (hid H O) vs xs
 | .pin w u=>v=w/\Rp K (hid H O) v u
 | .dsk w C a d PX=>∃dx kv,v=.ref a∧d∈O∧(w=true→d ∉ O0)∧H a=some (.ins C dx [("lands",.ref d)])∧H d=some (.dK kv)∧DkR K (hid H O) kv PX
structure Rs(K:EI)(H0:Hp)(O0:List EX)(ps:PSt)(σ:St)(H:Hp)(O:List EX):Prop where
 same:aK H0 H
 old:∀a∈O0,a∈O
 new:∀a∈O,a∈O0\/H0 a=none
 dom:∀a∈O,H a≠none
 len:σ.length=ps.length
 at_:∀(i:Nat) (s:Sl),ps[i]?=some (some s)->∃v,σ[i]?=some (some v)/\zj K H O O0 v s
 inj:∀(i j:Nat) (xs ys:List U) (a:EX),ps[i]?=some (some (.own xs))->ps[j]?=some (some (.own ys))->σ[i]?=some (some (.ref a))->σ[j]?=some (some (.ref a))->i=j
variable {H0:Hp}{H:Hp}{O0:List EX}
section
variable {K:EI}{H':Hp}{O:List EX}{ps:PSt}{σ:St}
theorem zj.same{v:V}{s:Sl}(e:aK H H')(h:zj K H O O0 v s):zj K H' O O0 v s:=by
 cases s with
 |val u=>exact Rp.same (aM e) h
 |own xs=>obtain⟨a,vs,h1,h2,h3,h4,h5⟩:=h;exact⟨a,vs,h1,h2,h3,e _ _ h4,h5.same (aM e)⟩
 |pin w u=>exact⟨h.1,Rp.same (aM e) h.2⟩
 |dsk w C a d PX=>obtain⟨dx,kv,h1,h2,h3,h4,h5,h6⟩:=h;exact⟨dx,kv,h1,h2,h3,e _ _ h4,e _ _ h5,h6.same (aM e)⟩
theorem Rs.go(R:Rs K H0 O0 ps σ H O)(e:aK H H'):Rs K H0 O0 ps σ H' O:=
 ⟨R.same.trans e,R.old,R.new,λa ha z=>R.dom a ha (e.free z),R.len,λi s h=>let ⟨v,h1,h2⟩:=R.at_ i s h;⟨v,h1,h2.same e⟩,R.inj⟩
theorem dN{α:Type}{xs:List α}{i j:Nat}{y x:α}(h:(xs.set i y)[j]?=some x):(i=j/\x=y)\/(i≠j/\xs[j]?=some x):=by
 by_cases e:i=j
 ·subst e;rw[KF]at h;simp at h;exact .inl ⟨rfl,h.2.symm⟩
 ·rw[Fw e]at h;exact .inr ⟨e,h⟩
theorem im{α:Type}{xs:List α}{i:Nat}{y:α}(h:i<xs.length):(xs.set i y)[i]?=some y:=by rw[KF];simp[h]
theorem aF{α:Type}{xs:List α}{i:Nat}{y:α}(h:xs[i]?=some y):i<xs.length:=(E1.mp h).1
theorem j8{i:Nat}{u:U}{j:Nat}{xs:List U}(h:(ps.set i (some (.val u)))[j]?=some (some (.own xs))):i≠j/\ps[j]?=some (some (.own xs)):=by
 rcases dN h with ⟨_,e⟩ |h
 ·cases e
 ·exact h
theorem Rs.set{i:Nat}{v:V}{u:U}(R:Rs K H0 O0 ps σ H O)(r:Rp K (hid H O) v u):Rs K H0 O0 (ps.set i (some (.val u))) (σ.set i (some v)) H O:=by
 refine⟨R.same,R.old,R.new,R.dom,by simp[R.len],λj s h=>?_,λj k xs ys a h1 h2 h3 h4=>?_⟩
 ·rcases dN h with ⟨e,q⟩ |⟨n,q⟩
  ·subst e;cases q;have hi:=aF h;rw[Jl]at hi;exact⟨v,im (by rw[R.len];exact hi),r⟩
  ·obtain⟨w,h1,h2⟩:=R.at_ j s q;exact⟨w,by rw[Fw n];exact h1,h2⟩
 ·obtain⟨n1,q1⟩:=j8 h1;obtain⟨n2,q2⟩:=j8 h2;rw[Fw n1]at h3;rw[Fw n2]at h4;exact R.inj j k xs ys a q1 q2 h3 h4
theorem Rs.drop{i:Nat}{o:Option V}(R:Rs K H0 O0 ps σ H O):Rs K H0 O0 (ps.set i none) (σ.set i o) H O:=by
 have key:∀{j:Nat}{s:Sl},(ps.set i none)[j]?=some (some s)->i≠j/\ps[j]?=some (some s):=λ{j s} h=>by
  rcases dN h with ⟨_,e⟩ |h
  ·cases e
  ·exact h
 refine⟨R.same,R.old,R.new,R.dom,by simp[R.len],λj s h=>?_,λj k xs ys a h1 h2 h3 h4=>?_⟩
 ·obtain⟨n,q⟩:=key h;obtain⟨w,h1,h2⟩:=R.at_ j s q;exact⟨w,by rw[Fw n];exact h1,h2⟩
 ·obtain⟨n1,q1⟩:=key h1;obtain⟨n2,q2⟩:=key h2;rw[Fw n1]at h3;rw[Fw n2]at h4;exact R.inj j k xs ys a q1 q2 h3 h4
theorem Rs.own{i:Nat}{a:EX}{vs:List V}{xs:List U}(R:Rs K H0 O0 ps σ H O)(e:aK H H')(n:H a=none)(h:H' a=some (.lst vs))(r:Rps K (hid H' (a::O)) vs xs):
  Rs K H0 O0 (ps.set i (some (.own xs))) (σ.set i (some (.ref a))) H' (a::O):=by
 have na:a ∉ O:=λz=>R.dom a z n
 have na0:a ∉ O0:=λz=>na (R.old a z)
 have n0:H0 a=none:=R.same.free n
 have Sq:∀(j:Nat) (ys:List U),ps[j]?=some (some (.own ys))->σ[j]?≠some (some (.ref a)):=λj ys h1 h2=>by
  obtain⟨v,h3,b,ws,h4,h5,_⟩:=R.at_ j _ h1;rw[h2]at h3;cases h3;cases h4;exact na h5
 refine⟨R.same.trans e,λb hb=>EJ _ (R.old b hb),λb hb=>?_,λb hb z=>?_,by simp[R.len],λj s q=>?_,λj k ys zs b h1 h2 h3 h4=>?_⟩
 ·rcases EO.mp hb with y |y
  ·subst y;exact .inr n0
  ·exact R.new b y
 ·rcases EO.mp hb with y |y
  ·subst y;rw[h]at z;cases z
  ·exact R.dom b y (e.free z)
 ·rcases dN q with ⟨e',q'⟩ |⟨ne,q'⟩
  ·subst e';cases q';have hi:=aF q;rw[Jl]at hi;exact⟨.ref a,im (by rw[R.len];exact hi),a,vs,rfl,ET,na0,h,r⟩
  ·obtain⟨w,h1,h2⟩:=R.at_ j s q';refine⟨w,by rw[Fw ne];exact h1,?_⟩
   cases s with
   |val u=>exact Rp.same (bD e n) h2
   |own ys=>
    obtain⟨b,ws,k1,k2,k3,k4,k5⟩:=h2;exact⟨b,ws,k1,EJ _ k2,k3,e _ _ k4,k5.same (bD e n)⟩
   |pin z u=>exact⟨h2.1,Rp.same (bD e n) h2.2⟩
   |dsk w C b d PX=>obtain⟨dx,kv,k1,k2,k3,k4,k5,k6⟩:=h2;exact⟨dx,kv,k1,EJ _ k2,k3,e _ _ k4,e _ _ k5,k6.same (bD e n)⟩
 ·rcases dN h1 with ⟨e1,q1⟩ |⟨n1,q1⟩ <;>rcases dN h2 with ⟨e2,q2⟩ |⟨n2,q2⟩
  ·rw[<-e1,<-e2]
  ·subst e1;have hi:=aF h3;rw[Jl]at hi;rw[im hi]at h3;cases h3;rw[Fw n2]at h4;exact absurd h4 (Sq k zs q2)
  ·subst e2;have hi:=aF h4;rw[Jl]at hi;rw[im hi]at h4;cases h4;rw[Fw n1]at h3;exact absurd h3 (Sq j ys q1)
  ·rw[Fw n1]at h3;rw[Fw n2]at h4;exact R.inj j k ys zs b q1 q2 h3 h4
theorem Rs.write{i:Nat}{a:EX}{vs:List V}{xs ys:List U}(R:Rs K H0 O0 ps σ H O)(hp:ps[i]?=some (some (.own xs)))(hs:σ[i]?=some (some (.ref a)))(r:Rps K (hid H O) vs ys):
  Rs K H0 O0 (ps.set i (some (.own ys))) σ (upd H a (.lst vs)) O:=by
 obtain⟨v,h1,b,ws,h2,h3,h4,h5,h6⟩:=R.at_ i _ hp;rw[hs]at h1;cases h1;cases h2;have h0:H0 a=none:=(R.new a h3).resolve_left h4;have eh:hid (upd H a (.lst vs)) O=hid H O:=jz h3;refine⟨R.same.put h0 _,R.old,R.new,λb hb z=>?_,by simp[R.len],λj s q=>?_,λj k zs us b q1 q2 q3 q4=>?_⟩
 ·by_cases e:b=a
  ·subst e;rw[aL]at z;cases z
  ·rw[aT e]at z;exact R.dom b hb z
 ·rcases dN q with ⟨e',q'⟩ |⟨ne,q'⟩
  ·subst e';cases q';exact⟨.ref a,hs,a,vs,rfl,h3,h4,aL,by rw[eh];exact r⟩
  ·obtain⟨w,k1,k2⟩:=R.at_ j s q';refine⟨w,k1,?_⟩;cases s with
   |val u=>exact (show Rp K (hid (upd H a (.lst vs)) O) w u by rw[eh];exact k2)
   |own zs=>
    obtain⟨b,us,e1,e2,e3,e4,e5⟩:=k2;subst e1;have:b≠a:=λz=>by subst z;exact ne (R.inj i j xs zs b hp q' hs k1)
    exact⟨b,us,rfl,e2,e3,by rw[aT this];exact e4,by rw[eh];exact e5⟩
   |pin z u=>exact⟨k2.1,by rw[eh];exact k2.2⟩
   |dsk w C b d PX=>
    obtain⟨dx,kv,e1,e2,e3,e4,e5,e6⟩:=k2;exact⟨dx,kv,e1,e2,e3,by rw[aT λz=>by rw[z,h5]at e4;cases e4];exact e4,by rw[aT λz=>by rw[z,h5]at e5;cases e5];exact e5,by rw[eh];exact e6⟩
 ·have c1:∃zs',ps[j]?=some (some (.own zs')):=by
   rcases dN q1 with ⟨e,_⟩ |⟨_,z⟩
   ·subst e;exact⟨_,hp⟩
   ·exact⟨_,z⟩
  have c2:∃zs',ps[k]?=some (some (.own zs')):=by
   rcases dN q2 with ⟨e,_⟩ |⟨_,z⟩
   ·subst e;exact⟨_,hp⟩
   ·exact⟨_,z⟩
  obtain⟨_,c1⟩:=c1;obtain⟨_,c2⟩:=c2;exact R.inj j k _ _ b c1 c2 q3 q4
def SubP:PSt->PSt->Prop
 |[],[]=>True
 |none::p,_::q=>SubP p q
 |some s::p,t::q=>t=some s/\SubP p q
 |_,_=>False
theorem SubP.at_:∀{p q:PSt},SubP p q->p.length=q.length/\∀(i:Nat) (s:Sl),p[i]?=some (some s)->q[i]?=some (some s)
 |[],[],_=>⟨rfl,λi s h=>by simp at h⟩
 |none::p,t::q,h=>by
  obtain⟨h1,h2⟩:=SubP.at_ (p:=p) (q:=q) h;refine⟨by simp[h1],λi s e=>?_⟩
  cases i with
  |zero=>simp at e
  |succ i=>exact h2 i s (by simpa using e)
 |some s0::p,t::q,h=>by
  obtain⟨h0,h⟩:=h;obtain⟨h1,h2⟩:=SubP.at_ (p:=p) (q:=q) h;refine⟨by simp[h1],λi s e=>?_⟩
  cases i with
  |zero=>simp at e;subst e;rw[h0];rfl
  |succ i=>exact h2 i s (by simpa using e)
 |[],_::_,h=>h.elim
 |none::_,[],h=>h.elim
 |some _::_,[],h=>h.elim
theorem Rs.sub{P6:PSt}(R:Rs K H0 O0 ps σ H O)(h:SubP P6 ps):Rs K H0 O0 P6 σ H O:=by
 obtain⟨h1,h2⟩:=h.at_;exact⟨R.same,R.old,R.new,R.dom,R.len.trans h1.symm,λi s e=>R.at_ i s (h2 i s e),λi j xs ys a e1 e2=>R.inj i j xs ys a (h2 _ _ e1) (h2 _ _ e2)⟩
end
def Ev(X:Cx)(H0:Hp)(O0:List EX)(ps:PSt)(e:Expr)(u:U):Prop:=
 PE X e λσ H Q=>∃O,Rs X.K H0 O0 ps σ H O/\∀v H',aK H H'->Rp X.K (hid H' O) v u->Q v H'
def EvN(X:Cx)(H0:Hp)(O0:List EX)(ps:PSt)(e:Expr)(xs:List U):Prop:=
 PE X e λσ H Q=>∃O,Rs X.K H0 O0 ps σ H O/\∀a vs H',aK H H'->H a=none->H' a=some (.lst vs)->Rps X.K (hid H' (a::O)) vs xs->Q (.ref a) H'
def Tt(X:Cx)(H0:Hp)(O0:List EX)(ps:PSt)(e:Expr)(b:Bool):Prop:=
 PT X e λσ H Q=>∃O,Rs X.K H0 O0 ps σ H O/\∀H',aK H H'->Q b H'
def Tw(X:Cx)(H0:Hp)(O0:List EX)(ps:PSt)(e:Expr)(b:Bool):Prop:=
 PW X e λσ H Q=>∃O,Rs X.K H0 O0 ps σ H O/\∀H',aK H H'->Q b H'
def EvA(X:Cx)(H0:Hp)(O0:List EX)(ps:PSt)(es:List Expr)(us:List U):Prop:=
 PA X es λσ H Q=>∃O,Rs X.K H0 O0 ps σ H O/\∀vs H',aK H H'->Rps X.K (hid H' O) vs us->Q vs H'
theorem PE.mono{X:Cx}{e:Expr}{t t':TE}(h:PE X e t)(m:∀σ H Q,t' σ H Q->t σ H Q):PE X e t':=λpins s σ H Q I q=>h pins s σ H Q I (m σ H Q q)
theorem PT.mono{X:Cx}{e:Expr}{t t':TT}(h:PT X e t)(m:∀σ H Q,t' σ H Q->t σ H Q):PT X e t':=λpins s σ H Q I q=>h pins s σ H Q I (m σ H Q q)
theorem PW.mono{X:Cx}{e:Expr}{t t':TT}(h:PW X e t)(m:∀σ H Q,t' σ H Q->t σ H Q):PW X e t':=λwh pins s σ H Q I q=>h wh pins s σ H Q I (m σ H Q q)
theorem PA.mono{X:Cx}{e:List Expr}{t t':TA}(h:PA X e t)(m:∀σ H Q,t' σ H Q->t σ H Q):PA X e t':=λpos pins s σ H Q I q=>h pos pins s σ H Q I (m σ H Q q)
theorem PS.mono{X:Cx}{e:Hc}{t t':TS}(h:PS X e t)(m:∀D σ H,t' D σ H->t D σ H):PS X e t':=λpins s σ H D I q=>h pins s σ H D I (m D σ H q)
theorem PSs.mono{X:Cx}{e:List Hc}{t t':TS}(h:PSs X e t)(m:∀D σ H,t' D σ H->t D σ H):PSs X e t':=λpins s σ H D I q=>h pins s σ H D I (m D σ H q)
variable {es:List Expr}{pos:Pos}{u:U}{xs:List U}{ys:List U}{us:List U}
section
variable {X:Cx}{ps:PSt}{a b c e:Expr}{p:Pos}{x y:U}{i j:Int}
theorem EvN.ev(h:EvN X H0 O0 ps e xs):Ev X H0 O0 ps e (.lst xs):=PE.mono h λσ H Q ⟨O,R,k⟩=>⟨O,R,λa vs H' s n h r=>by
 have na:a ∉ O:=λz=>R.dom a z n
 have less:aK (hid H' (a::O)) (hid H' O):=eJ λb hb=>EJ _ hb
 exact k _ H' s (.lst (c9 h na) (r.same less).len (r.same less).at_)⟩
theorem aa(i:Nat){x:Str}{u:U}(h:ps[i]?=some (some (.val u)))(hN:X.N[i]?=some x:=by rfl)(hv:Vis X.env.scope x:=by first |exact Or.inl rfl |exact Or.inr (Or.inl rfl) |exact Or.inr (Or.inr rfl))(hd:(x==("__debug__":Str))=false:=by decide)
  (Qr:(x==("__classdict__":Str))=false:=by decide):Ev X H0 O0 ps (.Name x pos) u:=PE.mono (gZ hN hv hd Qr) λσ H Q ⟨O,R,k⟩=>by
 obtain⟨v,h1,h2⟩:=R.at_ i _ h;exact⟨v,h1,k v H (.refl H) h2⟩
theorem ag{i j pos}:Ev X H0 O0 ps (.Constant (.int i) j pos) (.int i):=PE.mono Bt λ_ H _ ⟨_,_,k⟩=>k _ H (.refl H) (.int i)
theorem z_{i j pos}:Ev X H0 O0 ps (.Constant (.bool i) j pos) (.bl i):=PE.mono De λ_ H _ ⟨_,_,k⟩=>k _ H (.refl H) (.bl i)
theorem nY{x:Str}{n:String}{pos:Pos}(hg:Gl X x)(hm:X.mg x=none)(hv:GS x=some (.type n))(hn:x≠"__name__":=by decide)(hd:(x==("__debug__":Str))=false:=by decide):Ev X H0 O0 ps (.Name x pos) (.ty (.nm n)):=
 PE.mono (DQ hg hm hv hn hd) λ_ H _ ⟨_,_,k⟩=>k _ H (.refl H) (.ty n)
theorem two{ta tb:TE}{σ:St}{H:Hp}{Q:VK}{O:List EX}{r:R2}(R:Rs X.K H0 O0 ps σ H O)
  (ha:∀σ H Q,(∃O,Rs X.K H0 O0 ps σ H O/\∀v H',aK H H'->Rp X.K (hid H' O) v x->Q v H')->ta σ H Q) (hb:∀σ H Q,(∃O,Rs X.K H0 O0 ps σ H O/\∀v H',aK H H'->Rp X.K (hid H' O) v y->Q v H')->tb σ H Q)
  (h:∀v w H',aK H H'->Rs X.K H0 O0 ps σ H' O->Rp X.K (hid H' O) v x->Rp X.K (hid H' O) w y->r v w H' Q):tOp r ta tb σ H Q:=
 ha σ H _ ⟨O,R,λv H1 s1 r1=>hb σ H1 _ ⟨O,R.go s1,λw H2 s2 r2=>h v w H2 (s1.trans s2) (R.go (s1.trans s2)) (r1.same (aM s2)) r2⟩⟩
theorem A9{op:Ov}{g:Int->Int->Int}(ho:OpR X (JJ op) (rI0 λi j=>.int (g i j)))(ha:Ev X H0 O0 ps a (.int i))(hb:Ev X H0 O0 ps b (.int j)):Ev X H0 O0 ps (.BinOp a op b pos) (.int (g i j)):=
 PE.mono (yf ho ha hb) λσ H Q ⟨O,R,k⟩=>two (x:=.int i) (y:=.int j) R (λ_ _ _ z=>z) (λ_ _ _ z=>z) λv w H' s _ r1 r2=>by
  cases r1;cases r2;exact⟨i,j,rfl,rfl,k _ H' s (.int _)⟩
theorem pM{op:Ov}{C:Int->Int->Prop}{g:Int->Int->Int}(ho:OpR X (JJ op) (rI C λi j=>.int (g i j)))(ha:Ev X H0 O0 ps a (.int i))(hb:Ev X H0 O0 ps b (.int j))(hc:C i j):Ev X H0 O0 ps (.BinOp a op b pos) (.int (g i j)):=
 PE.mono (yf ho ha hb) λσ H Q ⟨O,R,k⟩=>two (x:=.int i) (y:=.int j) R (λ_ _ _ z=>z) (λ_ _ _ z=>z) λv w H' s _ r1 r2=>by
  cases r1;cases r2;exact⟨i,j,rfl,rfl,hc,k _ H' s (.int _)⟩
theorem cA(ha:Ev X H0 O0 ps a (.int i))(hb:Ev X H0 O0 ps b (.int j)):Ev X H0 O0 ps (.BinOp a .Add b pos) (.int (i+j)):=A9 BG ha hb
theorem bw(ha:Ev X H0 O0 ps a (.int i))(hb:Ev X H0 O0 ps b (.int j)):Ev X H0 O0 ps (.BinOp a .Sub b pos) (.int (i-j)):=A9 Cc ha hb
theorem aZ(ha:Ev X H0 O0 ps a (.int i))(hb:Ev X H0 O0 ps b (.int j))(hc:IntMulOk i j):Ev X H0 O0 ps (.BinOp a .Mult b pos) (.int (i*j)):=pM zm ha hb hc
theorem fA(ha:Ev X H0 O0 ps a (.int i))(hb:Ev X H0 O0 ps b (.int j))(hc:Bm i j):Ev X H0 O0 ps (.BinOp a .FloorDiv b pos) (.int (i/j)):=pM yP ha hb hc
theorem BT(ha:Ev X H0 O0 ps a (.int i))(hb:Ev X H0 O0 ps b (.int j))(hc:Bj i j):Ev X H0 O0 ps (.BinOp a .FloorDiv b pos) (.int (i.fdiv j)):=pM wA ha hb hc
theorem cP(ha:Ev X H0 O0 ps a (.int i))(hb:Ev X H0 O0 ps b (.int j))(hc:0<j):Ev X H0 O0 ps (.BinOp a .Mod b pos) (.int (i%j)):=pM CI ha hb hc
theorem v8(ha:Ev X H0 O0 ps a (.int i))(hb:Ev X H0 O0 ps b (.int j))(hc:Dn i j):Ev X H0 O0 ps (.BinOp a .Pow b pos) (.int (i ^ j.toNat)):=pM BI ha hb hc
theorem bO(ha:Ev X H0 O0 ps a (.int i)):Ev X H0 O0 ps (.UnaryOp .USub a pos) (.int (-i)):=
 PE.mono (DK Bs ha) λσ H Q ⟨O,R,k⟩=>⟨O,R,λv H' s r=>by cases r;exact⟨i,rfl,k _ H' s (.int _)⟩⟩
end
mutual
def eqW:U->U->Bool
 | .non,.non=>true
 | .bl a,.bl b=>a==b
 | .bl a,.int j=>(if a then 1 else 0)==j
 | .int i,.bl b=>i==(if b then 1 else 0)
 | .int i,.int j=>i==j
 | .str a,.str b=>a==b
 | .tup xs,.tup ys=>eqWs xs ys
 | .lst xs,.lst ys=>eqWs xs ys
 | .lst xs,.scr ys=>eqWs xs ys
 | .scr xs,.lst ys=>eqWs xs ys
 | .scr xs,.scr ys=>eqWs xs ys
 |_,_=>false
def eqWs:List U->List U->Bool
 |[],[]=>true
 |x::xs,y::ys=>eqW x y && eqWs xs ys
 |_,_=>false
end
mutual
def okU:Nat->U->Bool
 |_,.ty _=>false
 |_,.dic=>false
 |0,.tup _=>false
 |0,.lst _=>false
 |0,.scr _=>false
 |n+1,.tup xs=>okUs n xs
 |n+1,.lst xs=>okUs n xs
 |n+1,.scr xs=>okUs n xs
 |_,_=>true
def okUs:Nat->List U->Bool
 |_,[]=>true
 |n,x::xs=>okU n x && okUs n xs
end
theorem jr:∀{n:Nat}{xs:List U}{i:Nat}{x:U},okUs n xs=true->xs[i]?=some x->okU n x=true
 |n,[],i,x,_,h=>by simp at h
 |n,y::xs,0,x,h,e=>by simp at e;subst e;simp[okUs]at h;exact h.1
 |n,y::xs,i+1,x,h,e=>by simp[okUs]at h;exact jr (i:=i) h.2 (by simpa using e)
theorem dE:∀(xs ys:List U),((Fz (min xs.length ys.length)).all (λj=>eqW (xs.getD j .non) (ys.getD j .non)) && xs.length==ys.length)=eqWs xs ys
 |[],[]=>rfl
 |[],y::ys=>by simp[eqWs]
 |x::xs,[]=>by simp[eqWs]
 |x::xs,y::ys=>by
  have ih:=dE xs ys;rw[eqWs,<-ih];simp only[FN,Nat.succ_min_succ];rw[List.range_succ_eq_map,J4,OP];have e:((xs.length+1==ys.length+1))=(xs.length==ys.length):=by simp
  rw[e,Bool.and_assoc];rfl
theorem Rp.one{X:Cx}{pins:List (EX×Obj)}{σ:St}{H:Hp}{s:EL}(I:Inv X pins σ H s){v:V}{x:U}(h:Rp X.K H v x):∀{n:Nat}{y:U},Rp X.K H v y->okU n x=true->eqW x y=true:=by
 have key:∀{vs ws:List V}{xs ys:List U},vs=ws->vs.length=xs.length->ws.length=ys.length->(∀(i:Nat) (x y:U),xs[i]?=some x->ys[i]?=some y->eqW x y=true)->eqWs xs ys=true:=λ{vs ws xs ys} e h1 h2 hh=>by
  subst e;rw[<-dE,Gn,lE];refine⟨λj hj=>?_,by simp[<-h1,<-h2]⟩
  have j1:j<xs.length:=by lia
  have j2:j<ys.length:=by lia
  rw[Fe,EG j1,Fe,EG j2];exact hh j _ _ (EG j1) (EG j2)
 have Ru:∀{vs:List V}{xs ys:List U}{n:Nat},vs.length=xs.length->(∀(i:Nat) (v:V) (x:U),vs[i]?=some v->xs[i]?=some x->∀{n:Nat}{y:U},Rp X.K H v y->okU n x=true->eqW x y=true)->(∀(i:Nat) (v:V) (y:U),vs[i]?=some v->ys[i]?=some y->Rp X.K H v y)->okUs n xs=true->
   ∀(i:Nat) (x y:U),xs[i]?=some x->ys[i]?=some y->eqW x y=true:=λ{vs xs ys n} h1 ih hi ok i x y e1 e2=>by
  have Pq:i<vs.length:=by rw[h1];exact aF e1
  exact ih i _ x (EG Pq) e1 (hi i _ y (EG Pq) e2) (jr ok e1)
 induction h with
 |non=>intro n y q _;cases q;rfl
 |bl b=>intro n y q _;cases q;simp[eqW]
 |int i=>intro n y q _;cases q;simp[eqW]
 |str i=>intro n y q _;cases q;simp[eqW]
 |ty=>intro n y q ok;simp[okU]at ok
 |dic=>intro n y q ok;simp[okU]at ok
 |xc=>intro n y q ok;simp[okU]at ok
 | @scr a vs xs hq hl hi ih=>
  intro n y q ok;cases n with
  |zero=>simp[okU]at ok
  |succ n=>
   rw[okU]at ok;cases q with
   |scr PN PH Pu=>rw[eqW];have e:=I.list_inj hq PN;subst e;exact key rfl hl PH (Ru hl (λi v x a b=>ih i v x a b) Pu ok)
   |lst PN PH Pu=>rw[eqW];have e:=I.list_inj hq (SqL.of PN);subst e;exact key rfl hl PH (Ru hl (λi v x a b=>ih i v x a b) Pu ok)
   |xc PN kk=>
    exfalso
    obtain⟨_,_,pl,_⟩:=I.list hq;obtain⟨o,n,e,c,_⟩:=pl;exact PySem.W.XcOk.off (I.hok _ _ PN).1 e c
   |dic PN=>
    exfalso
    obtain⟨_,_,pl,_⟩:=I.list hq;obtain⟨o,n,e,c,_⟩:=pl;obtain⟨_,_,_,_,o',_,_,e',ex,_⟩:=I.hok _ _ PN;rw[e]at e';cases e';rw[ex.1]at c;exact absurd (NX c) (by decide)
   |tup PN PH Pu=>
    exfalso
    obtain⟨_,_,pl,_⟩:=I.list hq;obtain⟨_,_,pt,_⟩:=I.tuple PN;exact SeqAt.ne_of_list_tuple pl.isList pt rfl
 | @tup a vs xs hq hl hi ih=>
  intro n y q ok;cases n with
  |zero=>simp[okU]at ok
  |succ n=>
   rw[okU]at ok;cases q with
   |tup PN PH Pu=>rw[eqW];have e:=I.tuple_inj hq PN;subst e;exact key rfl hl PH (Ru hl (λi v x a b=>ih i v x a b) Pu ok)
   |scr PN PH Pu=>
    exfalso
    obtain⟨_,_,pl,_⟩:=I.list PN;obtain⟨_,_,pt,_⟩:=I.tuple hq;exact SeqAt.ne_of_list_tuple pl.isList pt rfl
   |lst PN PH Pu=>
    exfalso
    obtain⟨_,_,pl,_⟩:=I.list (SqL.of PN);obtain⟨_,_,pt,_⟩:=I.tuple hq;exact SeqAt.ne_of_list_tuple pl.isList pt rfl
   |xc PN kk=>
    exfalso
    obtain⟨_,_,pt,_⟩:=I.tuple hq;obtain⟨o,e,c,_⟩:=pt;exact PySem.W.XcOk.off (I.hok _ _ PN).1 e c
   |dic PN=>
    exfalso
    obtain⟨_,_,pt,_⟩:=I.tuple hq;obtain⟨o,e,c,_⟩:=pt;obtain⟨_,_,_,_,o',_,_,e',ex,_⟩:=I.hok _ _ PN;rw[e]at e';cases e';rw[ex.1]at c;exact absurd (NX c) (by decide)
 | @lst a vs xs hq hl hi ih=>
  intro n y q ok;cases n with
  |zero=>simp[okU]at ok
  |succ n=>
   rw[okU]at ok;cases q with
   |lst PN PH Pu=>rw[eqW];have e:=I.list_inj (SqL.of hq) (SqL.of PN);subst e;exact key rfl hl PH (Ru hl (λi v x a b=>ih i v x a b) Pu ok)
   |scr PN PH Pu=>rw[eqW];have e:=I.list_inj (SqL.of hq) PN;subst e;exact key rfl hl PH (Ru hl (λi v x a b=>ih i v x a b) Pu ok)
   |tup PN PH Pu=>
    exfalso
    obtain⟨_,_,pl,_⟩:=I.list (SqL.of hq);obtain⟨_,_,pt,_⟩:=I.tuple PN;exact SeqAt.ne_of_list_tuple pl.isList pt rfl
   |xc PN kk=>
    exfalso
    rw[hq]at PN;cases PN
   |dic PN=>
    exfalso
    rw[hq]at PN;cases PN
theorem IsU.list{X:Cx}{pins:List (EX×Obj)}{σ:St}{H:Hp}{s:EL}(I:Inv X pins σ H s){a:EX}{xs:List U}{vs:List V}(h:SqL X.K H a vs)(hl:vs.length=xs.length):∃Pj:List EN,aU vs Pj/\s.heap.IsList a Pj.toArray/\Pj.length=xs.length:=by
 obtain⟨Pj,r,pl,_⟩:=I.list h;exact⟨Pj,r,pl.isList,by rw[<-r.length,hl]⟩
theorem IsU.tup{X:Cx}{pins:List (EX×Obj)}{σ:St}{H:Hp}{s:EL}(I:Inv X pins σ H s){a:EX}{xs:List U}{vs:List V}(h:SqT X.K H a vs)(hl:vs.length=xs.length):∃Pj:List EN,aU vs Pj/\Pf s.heap a Pj.toArray/\Pj.length=xs.length:=by
 obtain⟨Pj,r,pl,_⟩:=I.tuple h;exact⟨Pj,r,pl,by rw[<-r.length,hl]⟩
variable {pins:List (EX×Obj)}
section
variable {X:Cx}{σ:St}{s:EL}
theorem cF(I:Inv X pins σ H s){n:Nat}{vs ws:List V}{xs ys:List U}{Pj Pk:List EN}(r1:aU vs Pj)(r2:aU ws Pk)(Qc:vs.length=xs.length)(PM:ws.length=ys.length)
  (h1:∀(i:Nat) (v:V) (x:U),vs[i]?=some v->xs[i]?=some x->Rp X.K H v x) (h2:∀(i:Nat) (v:V) (x:U),ws[i]?=some v->ys[i]?=some x->Rp X.K H v x) (ok1:okUs n xs=true) (ok2:okUs n ys=true) {A:Fm}
  (Rc:∀(x y:U) (v w:V) (p q:EN),Rp X.K H v x->Rp X.K H w y->bi v p->bi w q->okU n x=true->okU n y=true->SeqAt.RcAt A.in1 s p q (eqW x y)) (hu:A.units+n+1<H_)
  (j:Nat) (j1:j<Pj.length) (j2:j<Pk.length):SeqAt.EqAt A.in1 s Pj[j] Pk[j] (eqW (xs.getD j .non) (ys.getD j .non)):=by
 have a1:j<vs.length:=by rw[r1.length];exact j1
 have a2:j<ws.length:=by rw[r2.length];exact j2
 have b1:j<xs.length:=by lia
 have b2:j<ys.length:=by lia
 rw[Fe,EG b1,Fe,EG b2,HK,HK];have R1:=h1 j vs[j] xs[j] (EG a1) (EG b1);have R2:=h2 j ws[j] ys[j] (EG a2) (EG b2);obtain⟨u1,e1,q1⟩:=r1.get (EG a1);obtain⟨u2,e2,q2⟩:=r2.get (EG a2);rw[EG j1]at e1;rw[EG j2]at e2;cases e1;cases e2;have o1:=jr ok1 (EG b1);have o2:=jr ok2 (EG b2);generalize vs[j]=v at *;generalize ws[j]=w at *;generalize Pj[j]=p at *;generalize Pk[j]=q at *;generalize xs[j]=x at *;generalize ys[j]=y at *;have main:=Rc x y v w p q R1 R2 q1 q2 o1 o2
 have PZ:∀(a b:EX),p=.ref a->q=.ref b->SeqAt.EqAt A.in1 s p q (eqW x y):=λa b ea eb=>by
  subst ea eb;by_cases e:a=b
  ·subst e;have e2:v=w:=q1.inj q2;subst e2;rw[R1.one I R2 o1];exact SeqAt.EqAt.same _
  ·exact SeqAt.EqAt.of_refs e main
 have Pr:A.in1.units<H_:=by show A.units+1<_;lia
 cases R1 with
 |non=>
  cases (show p=Fj from q1)
  cases R2 with
  |non=>cases (show q=Fj from q2);exact SeqAt.EqAt.same _
  |bl b=>cases (show q=FZ b from q2);exact SeqAt.EqAt.none_bool b
  |int i=>obtain⟨t,rfl⟩:=(show ∃t,q=FX i t from q2);exact SeqAt.EqAt.none_int i t
  |str i=>obtain⟨t,rfl⟩:=(show ∃t,q=F6 i t from q2);exact SeqAt.EqAt.none_str i t
  |ty=>simp[okU]at o2
  |dic=>simp[okU]at o2
  |xc=>simp[okU]at o2
  |scr hq hl hi=>cases q2;obtain⟨_,_,pl,_⟩:=IsU.list I hq hl;exact SeqAt.EqAt.none_list pl Pr
  |tup hq hl hi=>cases q2;obtain⟨_,_,pl,_⟩:=IsU.tup I hq hl;exact SeqAt.EqAt.none_tuple pl Pr
  |lst hq hl hi=>cases q2;obtain⟨_,_,pl,_⟩:=IsU.list I (SqL.of hq) hl;exact SeqAt.EqAt.none_list pl Pr
 |bl c=>
  cases (show p=FZ c from q1)
  cases R2 with
  |non=>cases (show q=Fj from q2);exact SeqAt.EqAt.bool_none c
  |bl b=>cases (show q=FZ b from q2);exact SeqAt.EqAt.bool_bool c b
  |int i=>obtain⟨t,rfl⟩:=(show ∃t,q=FX i t from q2);exact SeqAt.EqAt.bool_int c i t
  |str i=>obtain⟨t,rfl⟩:=(show ∃t,q=F6 i t from q2);exact SeqAt.EqAt.bool_str c i t
  |ty=>simp[okU]at o2
  |dic=>simp[okU]at o2
  |xc=>simp[okU]at o2
  |scr hq hl hi=>cases q2;obtain⟨_,_,pl,_⟩:=IsU.list I hq hl;exact SeqAt.EqAt.bool_list c pl Pr
  |tup hq hl hi=>cases q2;obtain⟨_,_,pl,_⟩:=IsU.tup I hq hl;exact SeqAt.EqAt.bool_tuple c pl Pr
  |lst hq hl hi=>cases q2;obtain⟨_,_,pl,_⟩:=IsU.list I (SqL.of hq) hl;exact SeqAt.EqAt.bool_list c pl Pr
 |int c=>
  obtain⟨t0,rfl⟩:=(show ∃t,p=FX c t from q1)
  cases R2 with
  |non=>cases (show q=Fj from q2);exact SeqAt.EqAt.int_none c t0
  |bl b=>cases (show q=FZ b from q2);exact SeqAt.EqAt.int_bool c t0 b
  |int i=>obtain⟨t,rfl⟩:=(show ∃t,q=FX i t from q2);exact SeqAt.EqAt.int_int c t0 i t
  |str i=>obtain⟨t,rfl⟩:=(show ∃t,q=F6 i t from q2);exact SeqAt.EqAt.int_str c t0 i t
  |ty=>simp[okU]at o2
  |dic=>simp[okU]at o2
  |xc=>simp[okU]at o2
  |scr hq hl hi=>cases q2;obtain⟨_,_,pl,_⟩:=IsU.list I hq hl;exact SeqAt.EqAt.int_list c t0 pl Pr
  |tup hq hl hi=>cases q2;obtain⟨_,_,pl,_⟩:=IsU.tup I hq hl;exact SeqAt.EqAt.int_tuple c t0 pl Pr
  |lst hq hl hi=>cases q2;obtain⟨_,_,pl,_⟩:=IsU.list I (SqL.of hq) hl;exact SeqAt.EqAt.int_list c t0 pl Pr
 |str c=>
  obtain⟨t0,rfl⟩:=(show ∃t,p=F6 c t from q1)
  cases R2 with
  |non=>cases (show q=Fj from q2);exact SeqAt.EqAt.str_none c t0
  |bl b=>cases (show q=FZ b from q2);exact SeqAt.EqAt.str_bool c t0 b
  |int i=>obtain⟨t,rfl⟩:=(show ∃t,q=FX i t from q2);exact SeqAt.EqAt.str_int c t0 i t
  |str i=>obtain⟨t,rfl⟩:=(show ∃t,q=F6 i t from q2);exact SeqAt.EqAt.str_str c t0 i t
  |ty=>simp[okU]at o2
  |dic=>simp[okU]at o2
  |xc=>simp[okU]at o2
  |scr hq hl hi=>cases q2;obtain⟨_,_,pl,_⟩:=IsU.list I hq hl;exact SeqAt.EqAt.str_list c t0 pl Pr
  |tup hq hl hi=>cases q2;obtain⟨_,_,pl,_⟩:=IsU.tup I hq hl;exact SeqAt.EqAt.str_tuple c t0 pl Pr
  |lst hq hl hi=>cases q2;obtain⟨_,_,pl,_⟩:=IsU.list I (SqL.of hq) hl;exact SeqAt.EqAt.str_list c t0 pl Pr
 |ty=>simp[okU]at o1
 |dic=>simp[okU]at o1
 |xc=>simp[okU]at o1
 | @scr a vs xs hq hl hi=>
  cases q1;obtain⟨_,_,pl,_⟩:=IsU.list I hq hl;cases R2 with
  |non=>cases (show q=Fj from q2);exact SeqAt.EqAt.list_none pl Pr
  |bl b=>cases (show q=FZ b from q2);exact SeqAt.EqAt.list_bool b pl Pr
  |int i=>obtain⟨t,rfl⟩:=(show ∃t,q=FX i t from q2);exact SeqAt.EqAt.list_int i t pl Pr
  |str i=>obtain⟨t,rfl⟩:=(show ∃t,q=F6 i t from q2);exact SeqAt.EqAt.list_str i t pl Pr
  |ty=>simp[okU]at o2
  |dic=>simp[okU]at o2
  |xc=>simp[okU]at o2
  |scr=>exact PZ _ _ rfl q2
  |tup=>exact PZ _ _ rfl q2
  |lst=>exact PZ _ _ rfl q2
 | @lst a vs xs hq hl hi=>
  cases q1;obtain⟨_,_,pl,_⟩:=IsU.list I (SqL.of hq) hl;cases R2 with
  |non=>cases (show q=Fj from q2);exact SeqAt.EqAt.list_none pl Pr
  |bl b=>cases (show q=FZ b from q2);exact SeqAt.EqAt.list_bool b pl Pr
  |int i=>obtain⟨t,rfl⟩:=(show ∃t,q=FX i t from q2);exact SeqAt.EqAt.list_int i t pl Pr
  |str i=>obtain⟨t,rfl⟩:=(show ∃t,q=F6 i t from q2);exact SeqAt.EqAt.list_str i t pl Pr
  |ty=>simp[okU]at o2
  |dic=>simp[okU]at o2
  |xc=>simp[okU]at o2
  |scr=>exact PZ _ _ rfl q2
  |tup=>exact PZ _ _ rfl q2
  |lst=>exact PZ _ _ rfl q2
 | @tup a vs xs hq hl hi=>
  cases q1;obtain⟨_,_,pl,_⟩:=IsU.tup I hq hl;cases R2 with
  |non=>cases (show q=Fj from q2);exact SeqAt.EqAt.tuple_none pl Pr
  |bl b=>cases (show q=FZ b from q2);exact SeqAt.EqAt.tuple_bool b pl Pr
  |int i=>obtain⟨t,rfl⟩:=(show ∃t,q=FX i t from q2);exact SeqAt.EqAt.tuple_int i t pl Pr
  |str i=>obtain⟨t,rfl⟩:=(show ∃t,q=F6 i t from q2);exact SeqAt.EqAt.tuple_str i t pl Pr
  |ty=>simp[okU]at o2
  |dic=>simp[okU]at o2
  |xc=>simp[okU]at o2
  |scr=>exact PZ _ _ rfl q2
  |tup=>exact PZ _ _ rfl q2
  |lst=>exact PZ _ _ rfl q2
theorem ip{A:Fm}{n:Nat}{a b:EX}{xs ys:List U}{Pj Pk:List EN}(p1:s.heap.IsList a Pj.toArray)(p2:s.heap.IsList b Pk.toArray)(l1:Pj.length=xs.length)(l2:Pk.length=ys.length)(hu:A.units+n<H_)
  (he:∀(j:Nat) (j1:j<Pj.length) (j2:j<Pk.length),SeqAt.EqAt A.in1 s Pj[j] Pk[j] (eqW (xs.getD j .non) (ys.getD j .non))):SeqAt.RcAt A s (.ref a) (.ref b) (eqWs xs ys):=by
 by_cases hl:Pj.length=Pk.length
 ·have:=SeqAt.RcAt.lists (A:=A) (s:=s) (e:=λj=>eqW (xs.getD j .non) (ys.getD j .non)) p1 p2 (by simpa using hl) (by lia) (λj h1 h2=>by simpa using he j (by simpa using h1) (by simpa using h2))
  rw[<-dE,<-l1,<-l2,hl,OQ,beq_self_eq_true,MA]
  rwa [E4,hl]at this
 ·have:=SeqAt.RcAt.lists_lengths (A:=A) (s:=s) p1 p2 (by simpa using hl) (by lia)
  rw[<-dE,<-l1,<-l2,show (Pj.length==Pk.length)=false by simpa using hl,Kt]
  exact this
theorem Ab{A:Fm}{n:Nat}{a b:EX}{xs ys:List U}{Pj Pk:List EN}(p1:Pf s.heap a Pj.toArray)(p2:Pf s.heap b Pk.toArray)(l1:Pj.length=xs.length)(l2:Pk.length=ys.length)(hu:A.units+n<H_)
  (he:∀(j:Nat) (j1:j<Pj.length) (j2:j<Pk.length),SeqAt.EqAt A.in1 s Pj[j] Pk[j] (eqW (xs.getD j .non) (ys.getD j .non))):SeqAt.RcAt A s (.ref a) (.ref b) (eqWs xs ys):=by
 have:=SeqAt.RcAt.tuples (A:=A) (s:=s) (e:=λj=>eqW (xs.getD j .non) (ys.getD j .non)) p1 p2 (by lia) (λj h1 h2=>by simpa using he j (by simpa using h1) (by simpa using h2))
 rw[E4,E4,l1,l2,dE]at this;exact this
theorem Df(I:Inv X pins σ H s):∀(n:Nat) (A:Fm) (x y:U) (v w:V) (p q:EN),Rp X.K H v x->Rp X.K H w y->bi v p->bi w q->okU n x=true->okU n y=true->A.units+n<H_->SeqAt.RcAt A s p q (eqW x y):=by
 intro n
 induction n with
 |zero=>
  intro A x y v w p q R1 R2 q1 q2 o1 o2 hu;cases R1 with
  |non=>
   cases (show p=Fj from q1)
   cases R2 with
   |non=>cases (show q=Fj from q2);exact SeqAt.RcAt.none_none
   |bl b=>cases (show q=FZ b from q2);exact SeqAt.RcAt.none_bool b
   |int i=>obtain⟨t,rfl⟩:=(show ∃t,q=FX i t from q2);exact SeqAt.RcAt.none_int i t
   |str i=>obtain⟨t,rfl⟩:=(show ∃t,q=F6 i t from q2);exact SeqAt.RcAt.none_str i t
   |_=>simp[okU]at o2
  |bl c=>
   cases (show p=FZ c from q1)
   cases R2 with
   |non=>cases (show q=Fj from q2);exact SeqAt.RcAt.bool_none c
   |bl b=>cases (show q=FZ b from q2);exact SeqAt.RcAt.bool_bool c b
   |int i=>obtain⟨t,rfl⟩:=(show ∃t,q=FX i t from q2);exact SeqAt.RcAt.bool_int c i t
   |str i=>obtain⟨t,rfl⟩:=(show ∃t,q=F6 i t from q2);exact SeqAt.RcAt.bool_str c i t
   |_=>simp[okU]at o2
  |int c=>
   obtain⟨t0,rfl⟩:=(show ∃t,p=FX c t from q1)
   cases R2 with
   |non=>cases (show q=Fj from q2);exact SeqAt.RcAt.int_none c t0
   |bl b=>cases (show q=FZ b from q2);exact SeqAt.RcAt.int_bool c t0 b
   |int i=>obtain⟨t,rfl⟩:=(show ∃t,q=FX i t from q2);exact SeqAt.RcAt.int_int c t0 i t
   |str i=>obtain⟨t,rfl⟩:=(show ∃t,q=F6 i t from q2);exact SeqAt.RcAt.int_str c t0 i t
   |_=>simp[okU]at o2
  |str c=>
   obtain⟨t0,rfl⟩:=(show ∃t,p=F6 c t from q1)
   cases R2 with
   |non=>cases (show q=Fj from q2);exact SeqAt.RcAt.str_none c t0
   |bl b=>cases (show q=FZ b from q2);exact SeqAt.RcAt.str_bool c t0 b
   |int i=>obtain⟨t,rfl⟩:=(show ∃t,q=FX i t from q2);exact SeqAt.RcAt.str_int c t0 i t
   |str i=>obtain⟨t,rfl⟩:=(show ∃t,q=F6 i t from q2);exact SeqAt.RcAt.str_str c t0 i t
   |_=>simp[okU]at o2
  |_=>simp[okU]at o1
 |succ n ih=>
  intro A x y v w p q R1 R2 q1 q2 o1 o2 hu;have Pr:A.units<H_:=by lia
  have Rc:∀(x y:U) (v w:V) (p q:EN),Rp X.K H v x->Rp X.K H w y->bi v p->bi w q->okU n x=true->okU n y=true->SeqAt.RcAt A.in1 s p q (eqW x y):=λx y v w p q r1 r2 k1 k2 z1 z2=>ih A.in1 x y v w p q r1 r2 k1 k2 z1 z2 (by show A.units+1+n<_;lia)
  cases R1 with
  |non=>
   cases (show p=Fj from q1)
   cases R2 with
   |non=>cases (show q=Fj from q2);exact SeqAt.RcAt.none_none
   |bl b=>cases (show q=FZ b from q2);exact SeqAt.RcAt.none_bool b
   |int i=>obtain⟨t,rfl⟩:=(show ∃t,q=FX i t from q2);exact SeqAt.RcAt.none_int i t
   |str i=>obtain⟨t,rfl⟩:=(show ∃t,q=F6 i t from q2);exact SeqAt.RcAt.none_str i t
   |ty=>simp[okU]at o2
   |dic=>simp[okU]at o2
   |xc=>simp[okU]at o2
   |scr hq hl hi=>cases q2;obtain⟨_,_,pl,_⟩:=IsU.list I hq hl;exact SeqAt.RcAt.none_list pl Pr
   |tup hq hl hi=>cases q2;obtain⟨_,_,pl,_⟩:=IsU.tup I hq hl;exact SeqAt.RcAt.none_tuple pl Pr
   |lst hq hl hi=>cases q2;obtain⟨_,_,pl,_⟩:=IsU.list I (SqL.of hq) hl;exact SeqAt.RcAt.none_list pl Pr
  |bl c=>
   cases (show p=FZ c from q1)
   cases R2 with
   |non=>cases (show q=Fj from q2);exact SeqAt.RcAt.bool_none c
   |bl b=>cases (show q=FZ b from q2);exact SeqAt.RcAt.bool_bool c b
   |int i=>obtain⟨t,rfl⟩:=(show ∃t,q=FX i t from q2);exact SeqAt.RcAt.bool_int c i t
   |str i=>obtain⟨t,rfl⟩:=(show ∃t,q=F6 i t from q2);exact SeqAt.RcAt.bool_str c i t
   |ty=>simp[okU]at o2
   |dic=>simp[okU]at o2
   |xc=>simp[okU]at o2
   |scr hq hl hi=>cases q2;obtain⟨_,_,pl,_⟩:=IsU.list I hq hl;exact SeqAt.RcAt.bool_list c pl Pr
   |tup hq hl hi=>cases q2;obtain⟨_,_,pl,_⟩:=IsU.tup I hq hl;exact SeqAt.RcAt.bool_tuple c pl Pr
   |lst hq hl hi=>cases q2;obtain⟨_,_,pl,_⟩:=IsU.list I (SqL.of hq) hl;exact SeqAt.RcAt.bool_list c pl Pr
  |int c=>
   obtain⟨t0,rfl⟩:=(show ∃t,p=FX c t from q1)
   cases R2 with
   |non=>cases (show q=Fj from q2);exact SeqAt.RcAt.int_none c t0
   |bl b=>cases (show q=FZ b from q2);exact SeqAt.RcAt.int_bool c t0 b
   |int i=>obtain⟨t,rfl⟩:=(show ∃t,q=FX i t from q2);exact SeqAt.RcAt.int_int c t0 i t
   |str i=>obtain⟨t,rfl⟩:=(show ∃t,q=F6 i t from q2);exact SeqAt.RcAt.int_str c t0 i t
   |ty=>simp[okU]at o2
   |dic=>simp[okU]at o2
   |xc=>simp[okU]at o2
   |scr hq hl hi=>cases q2;obtain⟨_,_,pl,_⟩:=IsU.list I hq hl;exact SeqAt.RcAt.int_list c t0 pl Pr
   |tup hq hl hi=>cases q2;obtain⟨_,_,pl,_⟩:=IsU.tup I hq hl;exact SeqAt.RcAt.int_tuple c t0 pl Pr
   |lst hq hl hi=>cases q2;obtain⟨_,_,pl,_⟩:=IsU.list I (SqL.of hq) hl;exact SeqAt.RcAt.int_list c t0 pl Pr
  |str c=>
   obtain⟨t0,rfl⟩:=(show ∃t,p=F6 c t from q1)
   cases R2 with
   |non=>cases (show q=Fj from q2);exact SeqAt.RcAt.str_none c t0
   |bl b=>cases (show q=FZ b from q2);exact SeqAt.RcAt.str_bool c t0 b
   |int i=>obtain⟨t,rfl⟩:=(show ∃t,q=FX i t from q2);exact SeqAt.RcAt.str_int c t0 i t
   |str i=>obtain⟨t,rfl⟩:=(show ∃t,q=F6 i t from q2);exact SeqAt.RcAt.str_str c t0 i t
   |ty=>simp[okU]at o2
   |dic=>simp[okU]at o2
   |xc=>simp[okU]at o2
   |scr hq hl hi=>cases q2;obtain⟨_,_,pl,_⟩:=IsU.list I hq hl;exact SeqAt.RcAt.str_list c t0 pl Pr
   |tup hq hl hi=>cases q2;obtain⟨_,_,pl,_⟩:=IsU.tup I hq hl;exact SeqAt.RcAt.str_tuple c t0 pl Pr
   |lst hq hl hi=>cases q2;obtain⟨_,_,pl,_⟩:=IsU.list I (SqL.of hq) hl;exact SeqAt.RcAt.str_list c t0 pl Pr
  |ty=>simp[okU]at o1
  |dic=>simp[okU]at o1
  |xc=>simp[okU]at o1
  | @scr a vs xs hq hl hi=>
   cases q1;obtain⟨Pj,r1,pl,l1⟩:=IsU.list I hq hl;rw[okU]at o1;cases R2 with
   |non=>cases (show q=Fj from q2);exact SeqAt.RcAt.list_none pl Pr
   |bl b=>cases (show q=FZ b from q2);exact SeqAt.RcAt.list_bool b pl Pr
   |int i=>obtain⟨t,rfl⟩:=(show ∃t,q=FX i t from q2);exact SeqAt.RcAt.list_int i t pl Pr
   |str i=>obtain⟨t,rfl⟩:=(show ∃t,q=F6 i t from q2);exact SeqAt.RcAt.list_str i t pl Pr
   |ty=>simp[okU]at o2
   |dic=>simp[okU]at o2
   |xc=>simp[okU]at o2
   |scr PN PH Pu=>cases q2;rw[okU]at o2;obtain⟨Pk,r2,PJ,l2⟩:=IsU.list I PN PH;rw[eqW];exact ip pl PJ l1 l2 hu (cF I r1 r2 hl PH hi Pu o1 o2 Rc (by lia))
   |lst PN PH Pu=>cases q2;rw[okU]at o2;obtain⟨Pk,r2,PJ,l2⟩:=IsU.list I (SqL.of PN) PH;rw[eqW];exact ip pl PJ l1 l2 hu (cF I r1 r2 hl PH hi Pu o1 o2 Rc (by lia))
   |tup PN PH Pu=>cases q2;obtain⟨Pk,r2,PJ,l2⟩:=IsU.tup I PN PH;exact SeqAt.RcAt.list_tuple pl PJ Pr
  | @lst a vs xs hq hl hi=>
   cases q1;obtain⟨Pj,r1,pl,l1⟩:=IsU.list I (SqL.of hq) hl;rw[okU]at o1;cases R2 with
   |non=>cases (show q=Fj from q2);exact SeqAt.RcAt.list_none pl Pr
   |bl b=>cases (show q=FZ b from q2);exact SeqAt.RcAt.list_bool b pl Pr
   |int i=>obtain⟨t,rfl⟩:=(show ∃t,q=FX i t from q2);exact SeqAt.RcAt.list_int i t pl Pr
   |str i=>obtain⟨t,rfl⟩:=(show ∃t,q=F6 i t from q2);exact SeqAt.RcAt.list_str i t pl Pr
   |ty=>simp[okU]at o2
   |dic=>simp[okU]at o2
   |xc=>simp[okU]at o2
   |scr PN PH Pu=>cases q2;rw[okU]at o2;obtain⟨Pk,r2,PJ,l2⟩:=IsU.list I PN PH;rw[eqW];exact ip pl PJ l1 l2 hu (cF I r1 r2 hl PH hi Pu o1 o2 Rc (by lia))
   |lst PN PH Pu=>cases q2;rw[okU]at o2;obtain⟨Pk,r2,PJ,l2⟩:=IsU.list I (SqL.of PN) PH;rw[eqW];exact ip pl PJ l1 l2 hu (cF I r1 r2 hl PH hi Pu o1 o2 Rc (by lia))
   |tup PN PH Pu=>cases q2;obtain⟨Pk,r2,PJ,l2⟩:=IsU.tup I PN PH;exact SeqAt.RcAt.list_tuple pl PJ Pr
  | @tup a vs xs hq hl hi=>
   cases q1;obtain⟨Pj,r1,pl,l1⟩:=IsU.tup I hq hl;rw[okU]at o1;cases R2 with
   |non=>cases (show q=Fj from q2);exact SeqAt.RcAt.tuple_none pl Pr
   |bl b=>cases (show q=FZ b from q2);exact SeqAt.RcAt.tuple_bool b pl Pr
   |int i=>obtain⟨t,rfl⟩:=(show ∃t,q=FX i t from q2);exact SeqAt.RcAt.tuple_int i t pl Pr
   |str i=>obtain⟨t,rfl⟩:=(show ∃t,q=F6 i t from q2);exact SeqAt.RcAt.tuple_str i t pl Pr
   |ty=>simp[okU]at o2
   |dic=>simp[okU]at o2
   |xc=>simp[okU]at o2
   |scr PN PH Pu=>cases q2;obtain⟨Pk,r2,PJ,l2⟩:=IsU.list I PN PH;exact SeqAt.RcAt.tuple_list pl PJ Pr
   |lst PN PH Pu=>cases q2;obtain⟨Pk,r2,PJ,l2⟩:=IsU.list I (SqL.of PN) PH;exact SeqAt.RcAt.tuple_list pl PJ Pr
   |tup PN PH Pu=>cases q2;rw[okU]at o2;obtain⟨Pk,r2,PJ,l2⟩:=IsU.tup I PN PH;rw[eqW];exact Ab pl PJ l1 l2 hu (cF I r1 r2 hl PH hi Pu o1 o2 Rc (by lia))
theorem fL{A:Fm}{n:Nat}{a b:EX}{xs ys:List U}{Pj Pk:List EN}(p1:s.heap.IsList a Pj.toArray)(p2:s.heap.IsList b Pk.toArray)(l1:Pj.length=xs.length)(l2:Pk.length=ys.length)(hu:A.units+n<H_)
  (he:∀(j:Nat) (j1:j<Pj.length) (j2:j<Pk.length),SeqAt.EqAt A.in1 s Pj[j] Pk[j] (eqW (xs.getD j .non) (ys.getD j .non))):SeqAt.RcNeAt A s (.ref a) (.ref b) (!eqWs xs ys):=by
 by_cases hl:Pj.length=Pk.length
 ·have:=SeqAt.RcNeAt.lists (A:=A) (s:=s) (e:=λj=>eqW (xs.getD j .non) (ys.getD j .non)) p1 p2 (by simpa using hl) (by lia) (λj h1 h2=>by simpa using he j (by simpa using h1) (by simpa using h2))
  rw[<-dE,<-l1,<-l2,hl,OQ,beq_self_eq_true,MA]
  rwa [E4,hl]at this
 ·have:=SeqAt.RcNeAt.lists_lengths (A:=A) (s:=s) p1 p2 (by simpa using hl) (by lia)
  rw[<-dE,<-l1,<-l2,show (Pj.length==Pk.length)=false by simpa using hl,Kt]
  exact this
theorem uU{A:Fm}{n:Nat}{a b:EX}{xs ys:List U}{Pj Pk:List EN}(p1:Pf s.heap a Pj.toArray)(p2:Pf s.heap b Pk.toArray)(l1:Pj.length=xs.length)(l2:Pk.length=ys.length)(hu:A.units+n<H_)
  (he:∀(j:Nat) (j1:j<Pj.length) (j2:j<Pk.length),SeqAt.EqAt A.in1 s Pj[j] Pk[j] (eqW (xs.getD j .non) (ys.getD j .non))):SeqAt.RcNeAt A s (.ref a) (.ref b) (!eqWs xs ys):=by
 have:=SeqAt.RcNeAt.tuples (A:=A) (s:=s) (e:=λj=>eqW (xs.getD j .non) (ys.getD j .non)) p1 p2 (by lia) (λj h1 h2=>by simpa using he j (by simpa using h1) (by simpa using h2))
 rw[E4,E4,l1,l2,dE]at this;exact this
theorem B1(I:Inv X pins σ H s)(n:Nat)(A:Fm)(x y:U)(v w:V)(p q:EN)(R1:Rp X.K H v x)(R2:Rp X.K H w y)(q1:bi v p)(q2:bi w q)(o1:okU (n+1) x=true)(o2:okU (n+1) y=true)(hu:A.units+(n+1)<H_):SeqAt.RcNeAt A s p q (!eqW x y):=by
 have Pr:A.units<H_:=by lia
 have Rc:∀(x y:U) (v w:V) (p q:EN),Rp X.K H v x->Rp X.K H w y->bi v p->bi w q->okU n x=true->okU n y=true->SeqAt.RcAt A.in1 s p q (eqW x y):=λx y v w p q r1 r2 k1 k2 z1 z2=>Df I n A.in1 x y v w p q r1 r2 k1 k2 z1 z2 (by show A.units+1+n<_;lia)
 cases R1 with
 |ty=>simp[okU]at o1
 |dic=>simp[okU]at o1
 |xc=>simp[okU]at o1
 |non=>
  cases (show p=Fj from q1)
  cases R2 with
  |ty=>simp[okU]at o2
  |dic=>simp[okU]at o2
  |xc=>simp[okU]at o2
  |non=>cases (show q=Fj from q2);exact SeqAt.RcNeAt.none_none
  |bl c2=>cases (show q=FZ c2 from q2);exact SeqAt.RcNeAt.none_bool c2
  |int c2=>obtain⟨t2,rfl⟩:=(show ∃t,q=FX c2 t from q2);exact SeqAt.RcNeAt.none_int c2 t2
  |str c2=>obtain⟨t2,rfl⟩:=(show ∃t,q=F6 c2 t from q2);exact SeqAt.RcNeAt.none_str c2 t2
  |scr PY PM Qv=>cases q2;obtain⟨Pk,r2,PJ,l2⟩:=IsU.list I PY PM;exact SeqAt.RcNeAt.none_list PJ Pr
  |tup PY PM Qv=>cases q2;obtain⟨Pk,r2,PJ,l2⟩:=IsU.tup I PY PM;exact SeqAt.RcNeAt.none_tuple PJ Pr
  |lst PY PM Qv=>cases q2;obtain⟨Pk,r2,PJ,l2⟩:=IsU.list I (SqL.of PY) PM;exact SeqAt.RcNeAt.none_list PJ Pr
 |bl c1=>
  cases (show p=FZ c1 from q1)
  cases R2 with
  |ty=>simp[okU]at o2
  |dic=>simp[okU]at o2
  |xc=>simp[okU]at o2
  |non=>cases (show q=Fj from q2);exact SeqAt.RcNeAt.bool_none c1
  |bl c2=>cases (show q=FZ c2 from q2);exact SeqAt.RcNeAt.bool_bool c1 c2
  |int c2=>obtain⟨t2,rfl⟩:=(show ∃t,q=FX c2 t from q2);exact SeqAt.RcNeAt.bool_int c1 c2 t2
  |str c2=>obtain⟨t2,rfl⟩:=(show ∃t,q=F6 c2 t from q2);exact SeqAt.RcNeAt.bool_str c1 c2 t2
  |scr PY PM Qv=>cases q2;obtain⟨Pk,r2,PJ,l2⟩:=IsU.list I PY PM;exact SeqAt.RcNeAt.bool_list c1 PJ Pr
  |tup PY PM Qv=>cases q2;obtain⟨Pk,r2,PJ,l2⟩:=IsU.tup I PY PM;exact SeqAt.RcNeAt.bool_tuple c1 PJ Pr
  |lst PY PM Qv=>cases q2;obtain⟨Pk,r2,PJ,l2⟩:=IsU.list I (SqL.of PY) PM;exact SeqAt.RcNeAt.bool_list c1 PJ Pr
 |int c1=>
  obtain⟨t1,rfl⟩:=(show ∃t,p=FX c1 t from q1)
  cases R2 with
  |ty=>simp[okU]at o2
  |dic=>simp[okU]at o2
  |xc=>simp[okU]at o2
  |non=>cases (show q=Fj from q2);exact SeqAt.RcNeAt.int_none c1 t1
  |bl c2=>cases (show q=FZ c2 from q2);exact SeqAt.RcNeAt.int_bool c1 t1 c2
  |int c2=>obtain⟨t2,rfl⟩:=(show ∃t,q=FX c2 t from q2);exact SeqAt.RcNeAt.int_int c1 t1 c2 t2
  |str c2=>obtain⟨t2,rfl⟩:=(show ∃t,q=F6 c2 t from q2);exact SeqAt.RcNeAt.int_str c1 t1 c2 t2
  |scr PY PM Qv=>cases q2;obtain⟨Pk,r2,PJ,l2⟩:=IsU.list I PY PM;exact SeqAt.RcNeAt.int_list c1 t1 PJ Pr
  |tup PY PM Qv=>cases q2;obtain⟨Pk,r2,PJ,l2⟩:=IsU.tup I PY PM;exact SeqAt.RcNeAt.int_tuple c1 t1 PJ Pr
  |lst PY PM Qv=>cases q2;obtain⟨Pk,r2,PJ,l2⟩:=IsU.list I (SqL.of PY) PM;exact SeqAt.RcNeAt.int_list c1 t1 PJ Pr
 |str c1=>
  obtain⟨t1,rfl⟩:=(show ∃t,p=F6 c1 t from q1)
  cases R2 with
  |ty=>simp[okU]at o2
  |dic=>simp[okU]at o2
  |xc=>simp[okU]at o2
  |non=>cases (show q=Fj from q2);exact SeqAt.RcNeAt.str_none c1 t1
  |bl c2=>cases (show q=FZ c2 from q2);exact SeqAt.RcNeAt.str_bool c1 t1 c2
  |int c2=>obtain⟨t2,rfl⟩:=(show ∃t,q=FX c2 t from q2);exact SeqAt.RcNeAt.str_int c1 t1 c2 t2
  |str c2=>obtain⟨t2,rfl⟩:=(show ∃t,q=F6 c2 t from q2);exact SeqAt.RcNeAt.str_str c1 t1 c2 t2
  |scr PY PM Qv=>cases q2;obtain⟨Pk,r2,PJ,l2⟩:=IsU.list I PY PM;exact SeqAt.RcNeAt.str_list c1 t1 PJ Pr
  |tup PY PM Qv=>cases q2;obtain⟨Pk,r2,PJ,l2⟩:=IsU.tup I PY PM;exact SeqAt.RcNeAt.str_tuple c1 t1 PJ Pr
  |lst PY PM Qv=>cases q2;obtain⟨Pk,r2,PJ,l2⟩:=IsU.list I (SqL.of PY) PM;exact SeqAt.RcNeAt.str_list c1 t1 PJ Pr
 |scr Rf Qc hi1=>
  cases q1;obtain⟨its1,r1,Qh,l1⟩:=IsU.list I Rf Qc;cases R2 with
  |ty=>simp[okU]at o2
  |dic=>simp[okU]at o2
  |xc=>simp[okU]at o2
  |non=>cases (show q=Fj from q2);exact SeqAt.RcNeAt.list_none Qh Pr
  |bl c2=>cases (show q=FZ c2 from q2);exact SeqAt.RcNeAt.list_bool c2 Qh Pr
  |int c2=>obtain⟨t2,rfl⟩:=(show ∃t,q=FX c2 t from q2);exact SeqAt.RcNeAt.list_int c2 t2 Qh Pr
  |str c2=>obtain⟨t2,rfl⟩:=(show ∃t,q=F6 c2 t from q2);exact SeqAt.RcNeAt.list_str c2 t2 Qh Pr
  |scr PY PM Qv=>cases q2;obtain⟨Pk,r2,PJ,l2⟩:=IsU.list I PY PM;rw[okU]at o1;rw[okU]at o2;rw[eqW];exact fL Qh PJ l1 l2 hu (cF I r1 r2 Qc PM hi1 Qv o1 o2 Rc (by lia))
  |tup PY PM Qv=>cases q2;obtain⟨Pk,r2,PJ,l2⟩:=IsU.tup I PY PM;exact SeqAt.RcNeAt.list_tuple Qh PJ Pr
  |lst PY PM Qv=>cases q2;obtain⟨Pk,r2,PJ,l2⟩:=IsU.list I (SqL.of PY) PM;rw[okU]at o1;rw[okU]at o2;rw[eqW];exact fL Qh PJ l1 l2 hu (cF I r1 r2 Qc PM hi1 Qv o1 o2 Rc (by lia))
 |tup Rf Qc hi1=>
  cases q1;obtain⟨its1,r1,Qh,l1⟩:=IsU.tup I Rf Qc;cases R2 with
  |ty=>simp[okU]at o2
  |dic=>simp[okU]at o2
  |xc=>simp[okU]at o2
  |non=>cases (show q=Fj from q2);exact SeqAt.RcNeAt.tuple_none Qh Pr
  |bl c2=>cases (show q=FZ c2 from q2);exact SeqAt.RcNeAt.tuple_bool c2 Qh Pr
  |int c2=>obtain⟨t2,rfl⟩:=(show ∃t,q=FX c2 t from q2);exact SeqAt.RcNeAt.tuple_int c2 t2 Qh Pr
  |str c2=>obtain⟨t2,rfl⟩:=(show ∃t,q=F6 c2 t from q2);exact SeqAt.RcNeAt.tuple_str c2 t2 Qh Pr
  |scr PY PM Qv=>cases q2;obtain⟨Pk,r2,PJ,l2⟩:=IsU.list I PY PM;exact SeqAt.RcNeAt.tuple_list Qh PJ Pr
  |tup PY PM Qv=>cases q2;obtain⟨Pk,r2,PJ,l2⟩:=IsU.tup I PY PM;rw[okU]at o1;rw[okU]at o2;rw[eqW];exact uU Qh PJ l1 l2 hu (cF I r1 r2 Qc PM hi1 Qv o1 o2 Rc (by lia))
  |lst PY PM Qv=>cases q2;obtain⟨Pk,r2,PJ,l2⟩:=IsU.list I (SqL.of PY) PM;exact SeqAt.RcNeAt.tuple_list Qh PJ Pr
 |lst Rf Qc hi1=>
  cases q1;obtain⟨its1,r1,Qh,l1⟩:=IsU.list I (SqL.of Rf) Qc;cases R2 with
  |ty=>simp[okU]at o2
  |dic=>simp[okU]at o2
  |xc=>simp[okU]at o2
  |non=>cases (show q=Fj from q2);exact SeqAt.RcNeAt.list_none Qh Pr
  |bl c2=>cases (show q=FZ c2 from q2);exact SeqAt.RcNeAt.list_bool c2 Qh Pr
  |int c2=>obtain⟨t2,rfl⟩:=(show ∃t,q=FX c2 t from q2);exact SeqAt.RcNeAt.list_int c2 t2 Qh Pr
  |str c2=>obtain⟨t2,rfl⟩:=(show ∃t,q=F6 c2 t from q2);exact SeqAt.RcNeAt.list_str c2 t2 Qh Pr
  |scr PY PM Qv=>cases q2;obtain⟨Pk,r2,PJ,l2⟩:=IsU.list I PY PM;rw[okU]at o1;rw[okU]at o2;rw[eqW];exact fL Qh PJ l1 l2 hu (cF I r1 r2 Qc PM hi1 Qv o1 o2 Rc (by lia))
  |tup PY PM Qv=>cases q2;obtain⟨Pk,r2,PJ,l2⟩:=IsU.tup I PY PM;exact SeqAt.RcNeAt.list_tuple Qh PJ Pr
  |lst PY PM Qv=>cases q2;obtain⟨Pk,r2,PJ,l2⟩:=IsU.list I (SqL.of PY) PM;rw[okU]at o1;rw[okU]at o2;rw[eqW];exact fL Qh PJ l1 l2 hu (cF I r1 r2 Qc PM hi1 Qv o1 o2 Rc (by lia))
end
def OpS(X:Cx)(f:EN->EN->Sem EN)(x y:U)(z:V):Prop:=OpR X f λv w H Q=>Rp X.K H v x/\Rp X.K H w y/\Q z H
section
variable {X:Cx}{ps:PSt}{a b c e:Expr}{rest:List Expr}{p:Pos}{x y:U}{i j:Int}{k m:Bool}
theorem Rp.out{K:EI}{H:Hp}{O:List EX}{v:V}{u:U}(h:Rp K (hid H O) v u):Rp K H v u:=h.same aC
theorem eM{op:OM}(ho:OpS X (F_ op) x y (.bl k))(ha:Ev X H0 O0 ps a x)(hb:Ev X H0 O0 ps b y)(hm:Ji op b=false:=by first |exact yw _ |with_unfolding_all rfl):Ev X H0 O0 ps (.Compare a [op] [b] pos) (.bl k):=
 PE.mono (Ah ho ha hb hm) λσ H Q ⟨O,R,q⟩=>two R (λ_ _ _ z=>z) (λ_ _ _ z=>z) λv w H' s _ r1 r2=>⟨r1.out,r2.out,q _ H' s (.bl _)⟩
theorem aA{op:OM}(ho:OpS X (F_ op) x y (.bl k))(ha:Ev X H0 O0 ps a x)(hb:Ev X H0 O0 ps b y)(hm:Ji op b=false:=by first |exact yw _ |with_unfolding_all rfl):Tt X H0 O0 ps (.Compare a [op] [b] pos) k:=
 PT.mono (As ho ha hb hm) λσ H Q ⟨O,R,q⟩=>two R (λ_ _ _ z=>z) (λ_ _ _ z=>z) λv w H' s _ r1 r2=>⟨r1.out,r2.out,_,rfl,q H' s⟩
theorem xj{op:OM}{g:Int->Int->Bool}(ho:OpR X (F_ op) (rI0 λi j=>.bl (g i j))):OpS X (F_ op) (.int i) (.int j) (.bl (g i j)):=by
 intro pins s σ H v w p q Q I r1 r2 h;obtain⟨h1,h2,h3⟩:=h;cases h1;cases h2;exact ho pins s σ H _ _ _ _ Q I r1 r2 ⟨i,j,rfl,rfl,h3⟩
theorem e_:OpS X (F_ .Lt) (.int i) (.int j) (.bl (decide (i<j))):=xj Ds
theorem Ej:OpS X (F_ .LtE) (.int i) (.int j) (.bl (decide (i<=j))):=xj Dv
theorem fE:OpS X (F_ .Gt) (.int i) (.int j) (.bl (decide (j<i))):=xj DG
theorem zh(hu:X.A.units+10<H_)(h1:okU 9 x=true)(h2:okU 9 y=true):OpS X (F_ .Eq) x y (.bl (eqW x y)):=by
 intro pins s σ H v w p q Q I r1 r2 h;obtain⟨k1,k2,k3⟩:=h;exact Df I 9 X.A x y v w p q k1 k2 r1 r2 h1 h2 (by lia) X.prog X.w _ _ (a9 I k3 rfl)
theorem DD(hu:X.A.units+10<H_)(h1:okU 9 x=true)(h2:okU 9 y=true):OpS X (F_ .NotEq) x y (.bl (!eqW x y)):=by
 intro pins s σ H v w p q Q I r1 r2 h;obtain⟨k1,k2,k3⟩:=h;exact B1 I 8 X.A x y v w p q k1 k2 r1 r2 h1 h2 (by lia) X.prog X.w _ _ (a9 I k3 rfl)
theorem bG:OpS X (F_ .Eq) (.int i) (.int j) (.bl (decide (i=j))):=by
 intro pins s σ H v w p q Q I r1 r2 h;obtain⟨h1,h2,h3⟩:=h;cases h1;cases h2;exact Dk pins s σ H _ _ _ _ Q I r1 r2 ⟨rfl,by rw[jv,<-JQ]at *;simpa [JQ] using h3⟩
theorem kw:OpS X (F_ .NotEq) (.int i) (.int j) (.bl (!decide (i=j))):=by
 intro pins s σ H v w p q Q I r1 r2 h;obtain⟨h1,h2,h3⟩:=h;cases h1;cases h2;exact DT pins s σ H _ _ _ _ Q I r1 r2 ⟨rfl,by rw[jv];simpa [JQ] using h3⟩
theorem eI(h:Ev X H0 O0 ps e (.bl k))(he:∀QB,isTrue e X.env QB=(do let v <-QB;standAt e.pos;Nq [v] (truthy v)):=by intro _;rfl):Tt X H0 O0 ps e k:=
 PT.mono (BO h he) λσ H Q ⟨O,R,q⟩=>⟨O,R,λv H' s r=>by cases r;exact⟨_,rfl,q H' s⟩⟩
theorem fo(h:Tt X H0 O0 ps a k):Tt X H0 O0 ps (.UnaryOp .Not a pos) (!k):=PT.mono (B_ h) λσ H Q ⟨O,R,q⟩=>⟨O,R,q⟩
theorem Tw.t(h:Tw X H0 O0 ps e k):Tt X H0 O0 ps e k:=h.pt
theorem qP(h:Tt X H0 O0 ps a k):Tw X H0 O0 ps (.BoolOp .And [a] pos) k:=AI h
theorem ja(h:Tt X H0 O0 ps a k):Tw X H0 O0 ps (.BoolOp .Or [a] pos) k:=BM h
theorem rX(ha:Tt X H0 O0 ps a k)(hb:k=true->Tw X H0 O0 ps (.BoolOp .And (b::rest) pos) m):Tw X H0 O0 ps (.BoolOp .And (a::b::rest) pos) (k && m):=by
 cases k with
 |true=>exact PW.mono (w_ ha (hb rfl)) λσ H Q ⟨O,R,q⟩=>⟨O,R,λH' s=>by exact m_ (⟨O,R.go s,λH2 s2=>q H2 (s.trans s2)⟩)⟩
 |false=>exact PW.mono (w_ ha (λ_ _ _ _ _ _ _ h=>h.elim) (tB':=λ_ _ _=>False)) λσ H Q ⟨O,R,q⟩=>⟨O,R,λH' s=>by exact mH (q H' s)⟩
theorem jL(ha:Tt X H0 O0 ps a k)(hb:k=false->Tw X H0 O0 ps (.BoolOp .Or (b::rest) pos) m):Tw X H0 O0 ps (.BoolOp .Or (a::b::rest) pos) (k ||m):=by
 cases k with
 |false=>exact PW.mono (Bp ha (hb rfl)) λσ H Q ⟨O,R,q⟩=>⟨O,R,λH' s=>by exact mH (⟨O,R.go s,λH2 s2=>q H2 (s.trans s2)⟩)⟩
 |true=>exact PW.mono (Bp ha (λ_ _ _ _ _ _ _ h=>h.elim) (tB':=λ_ _ _=>False)) λσ H Q ⟨O,R,q⟩=>⟨O,R,λH' s=>by exact m_ (q H' s)⟩
theorem lG{op}(h:Ev X H0 O0 ps a u):Ev X H0 O0 ps (.BoolOp op [a] pos) u:=Cp h
theorem j0(ha:Ev X H0 O0 ps a (.bl k))(hb:k=true->Ev X H0 O0 ps (.BoolOp .And (b::rest) pos) (.bl m)):Ev X H0 O0 ps (.BoolOp .And (a::b::rest) pos) (.bl (k && m)):=by
 cases k with
 |true=>exact PE.mono (xY ha (hb rfl)) λσ H Q ⟨O,R,q⟩=>⟨O,R,λv H' s r=>by cases r;exact⟨_,rfl,by exact m_ (⟨O,R.go s,λv H2 s2 r2=>q v H2 (s.trans s2) r2⟩)⟩⟩
 |false=>exact PE.mono (xY ha (λ_ _ _ _ _ _ h=>h.elim) (tb:=λ_ _ _=>False)) λσ H Q ⟨O,R,q⟩=>⟨O,R,λv H' s r=>by cases r;exact⟨_,rfl,by exact mH (q _ H' s (.bl _))⟩⟩
theorem DP(ha:Ev X H0 O0 ps a (.bl k))(hb:k=false->Ev X H0 O0 ps (.BoolOp .Or (b::rest) pos) (.bl m)):Ev X H0 O0 ps (.BoolOp .Or (a::b::rest) pos) (.bl (k ||m)):=by
 cases k with
 |false=>exact PE.mono (A2 ha (hb rfl)) λσ H Q ⟨O,R,q⟩=>⟨O,R,λv H' s r=>by cases r;exact⟨_,rfl,by exact mH (⟨O,R.go s,λv H2 s2 r2=>q v H2 (s.trans s2) r2⟩)⟩⟩
 |true=>exact PE.mono (A2 ha (λ_ _ _ _ _ _ h=>h.elim) (tb:=λ_ _ _=>False)) λσ H Q ⟨O,R,q⟩=>⟨O,R,λv H' s r=>by cases r;exact⟨_,rfl,by exact m_ (q _ H' s (.bl _))⟩⟩
theorem A_(ha:Ev X H0 O0 ps a (.bl k)):Ev X H0 O0 ps (.UnaryOp .Not a pos) (.bl (!k)):=PE.mono (Cg ha) λσ H Q ⟨O,R,q⟩=>⟨O,R,λv H' s r=>by cases r;exact⟨_,rfl,q _ H' s (.bl _)⟩⟩
theorem Bo{c:Expr}(hc:Tt X H0 O0 ps c k)(ha:k=true->Ev X H0 O0 ps a u)(hb:k=false->Ev X H0 O0 ps b u):Ev X H0 O0 ps (.IfExp c a b pos) u:=by
 cases k with
 |true=>exact PE.mono (oY hc (ha rfl) (λ_ _ _ _ _ _ h=>h.elim) (tb:=λ_ _ _=>False)) λσ H Q ⟨O,R,q⟩=>⟨O,R,λH' s=>by exact m_ (⟨O,R.go s,λv H2 s2 r2=>q v H2 (s.trans s2) r2⟩)⟩
 |false=>exact PE.mono (oY hc (λ_ _ _ _ _ _ h=>h.elim) (hb rfl) (ta:=λ_ _ _=>False)) λσ H Q ⟨O,R,q⟩=>⟨O,R,λH' s=>by exact mH (⟨O,R.go s,λv H2 s2 r2=>q v H2 (s.trans s2) r2⟩)⟩
theorem aj:EvA X H0 O0 ps [] []:=PA.mono fS λσ H Q ⟨O,R,q⟩=>q [] H (.refl H) .nil
theorem ac(ha:Ev X H0 O0 ps e u)(hr:EvA X H0 O0 ps es us)(hs:EZ (e::es) X.env=(false,HY e X.env)::EZ es X.env:=by rfl):EvA X H0 O0 ps (e::es) (u::us):=
 PA.mono (c_ ha hr hs) λσ H Q ⟨O,R,q⟩=>⟨O,R,λv H1 s1 r1=>⟨O,R.go s1,λvs H2 s2 r2=>q _ H2 (s1.trans s2) (.cons (r1.same (aM s2)) r2)⟩⟩
theorem Rs.hidnew{K:EI}{σ:St}{H:Hp}{O:List EX}(R:Rs K H0 O0 ps σ H O){p:EX}{o:HO}(n:H p=none):hid (upd H p o) O p=some o:=c9 aL λz=>R.dom p z n
theorem Dq{x1}(h:EvA X H0 O0 ps es us)(hz:us.length<=sizeLine:=by first |decide | (simp only[FN,Jm];decide)):Ev X H0 O0 ps (.Tuple es x1 pos) (.tup us):=
 PE.mono (Cs h) λσ H Q ⟨O,R,q⟩=>⟨O,R,λvs H1 s1 r1=>⟨by rw[r1.len];exact hz,λp hp=>by
  have s2:=aN hp (.tup vs);have r2:=r1.same (aM (O:=O) s2);exact q _ _ (s1.trans s2) (.tup (SqT.of ((R.go s1).hidnew hp)) r2.len r2.at_)⟩⟩
theorem DN(h:EvA X H0 O0 ps es us)(hz:us.length<=sizeLine:=by first |decide | (simp only[FN,Jm];decide)):EvN X H0 O0 ps (.List es pos) us:=
 PE.mono (Cz h) λσ H Q ⟨O,R,q⟩=>⟨O,R,λvs H1 s1 r1=>⟨by rw[r1.len];exact hz,λp hp=>by
  exact q p vs _ (s1.trans (aN hp _)) (s1.free hp) aL (r1.same (bD (aN hp _) hp))⟩⟩
theorem aw(ha:Ev X H0 O0 ps a x)(hb:Ev X H0 O0 ps b (.int i))(hx:x.items=some xs)(hi:atI xs i=some u)(hs:mG b:=by intro _ _;rfl):Ev X H0 O0 ps (.Subscript a b pos) u:=
 PE.mono (A1 (tK.or Ck) ha hb hs) λσ H Q ⟨O,R,q⟩=>two (y:=.int i) R (λ_ _ _ z=>z) (λ_ _ _ z=>z) λv w H' s _ r1 r2=>by
  cases r2;cases r1 with
  |scr h hl hh=>cases hx;obtain⟨z,h1,h2⟩:=Rps.atI ⟨hl,hh⟩ hi;exact .inl ⟨_,_,i,z,rfl,rfl,aC.seq h,h1,q z H' s h2⟩
  |lst h hl hh=>cases hx;obtain⟨z,h1,h2⟩:=Rps.atI ⟨hl,hh⟩ hi;exact .inl ⟨_,_,i,z,rfl,rfl,aC.seq (SqL.of h),h1,q z H' s h2⟩
  |tup h hl hh=>cases hx;obtain⟨z,h1,h2⟩:=Rps.atI ⟨hl,hh⟩ hi;exact .inr ⟨_,_,i,z,rfl,rfl,aC.tup h,h1,q z H' s h2⟩
  |_=>cases hx
theorem eV(n:Nat){x:Str}(h:ps[n]?=some (some (.own xs)))(hb:Ev X H0 O0 ps b (.int i))(hi:atI xs i=some u)(hN:X.N[n]?=some x:=by rfl)(hv:Vis X.env.scope x:=by first |exact Or.inl rfl |exact Or.inr (Or.inl rfl) |exact Or.inr (Or.inr rfl))(hd:(x==("__debug__":Str))=false:=by decide)
  (Qr:(x==("__classdict__":Str))=false:=by decide) (hs:mG b:=by intro _ _;rfl):Ev X H0 O0 ps (.Subscript (.Name x p) b pos) u:=
 PE.mono (A1 tK (gZ hN hv hd Qr) hb hs) λσ H Q ⟨O,R,q⟩=>by
  obtain⟨v,h1,a,vs,rfl,h3,h4,h5,h6⟩:=R.at_ n _ h;refine⟨_,h1,O,R,λw H' s r=>?_⟩
  cases r;obtain⟨z,k1,k2⟩:=h6.atI hi;exact⟨a,vs,i,z,rfl,rfl,SqL.of (s _ _ h5),k1,q z H' s (k2.same (aM s))⟩
def eT(X:Cx)(f:EN)(us:List U)(u:U):Prop:=cR X f λvs H Q=>∃O,(∀a∈O,H a≠none)/\Rps X.K (hid H O) vs us/\∀v H',aK H H'->Rp X.K (hid H' O) v u->Q v H'
def AX(X:Cx)(f:EN)(us:List U)(xs:List U):Prop:=cR X f λvs H Q=>∃O,(∀a∈O,H a≠none)/\Rps X.K (hid H O) vs us/\∀a vs H',aK H H'->H a=none->H' a=some (.lst vs)->Rps X.K (hid H' (a::O)) vs xs->Q (.ref a) H'
theorem aq{id:String}{f:Str}(hc:eT X (.builtin id) us u)(hg:Gl X f)(hm:X.mg f=none)(hv:GS f=some (.builtin id))(ha:EvA X H0 O0 ps (e::es) us)(hn:f≠"__name__":=by decide)(QO:(f==("__debug__":Str))=false:=by decide)
  (he:EZ (e::es) X.env=(false,HY e X.env)::EZ es X.env:=by rfl) (Qe:(Ie pos (EZ es X.env)).any (·.1)=false:=by rfl):Ev X H0 O0 ps (.Call (.Name f p) (e::es) [] pos) u:=
 PE.mono (pw hc hg hm hv ha hn QO he Qe) λσ H Q ⟨O,R,q⟩=>⟨O,R,λvs H1 s1 r1=>⟨O,(R.go s1).dom,r1,λv H2 s2 r2=>q v H2 (s1.trans s2) r2⟩⟩
theorem zG{id:String}{f:Str}(hc:eT X (.type id) us u)(hg:Gl X f)(hm:X.mg f=none)(hv:GS f=some (.type id))(ha:EvA X H0 O0 ps (e::es) us)(hn:f≠"__name__":=by decide)(QO:(f==("__debug__":Str))=false:=by decide)
  (he:EZ (e::es) X.env=(false,HY e X.env)::EZ es X.env:=by rfl) (Qe:(Ie pos (EZ es X.env)).any (·.1)=false:=by rfl):Ev X H0 O0 ps (.Call (.Name f p) (e::es) [] pos) u:=
 PE.mono (lS hc hg hm hv ha hn QO he Qe) λσ H Q ⟨O,R,q⟩=>⟨O,R,λvs H1 s1 r1=>⟨O,(R.go s1).dom,r1,λv H2 s2 r2=>q v H2 (s1.trans s2) r2⟩⟩
theorem cU{id:String}{f:Str}(hc:AX X (.type id) us xs)(hg:Gl X f)(hm:X.mg f=none)(hv:GS f=some (.type id))(ha:EvA X H0 O0 ps (e::es) us)(hn:f≠"__name__":=by decide)(QO:(f==("__debug__":Str))=false:=by decide)
  (he:EZ (e::es) X.env=(false,HY e X.env)::EZ es X.env:=by rfl) (Qe:(Ie pos (EZ es X.env)).any (·.1)=false:=by rfl):EvN X H0 O0 ps (.Call (.Name f p) (e::es) [] pos) xs:=
 PE.mono (lS hc hg hm hv ha hn QO he Qe) λσ H Q ⟨O,R,q⟩=>⟨O,R,λvs H1 s1 r1=>⟨O,(R.go s1).dom,r1,λa vs H2 s2 n h r2=>q a vs H2 (s1.trans s2) (s1.free n) h r2⟩⟩
theorem cC{K:EI}{H:Hp}{vs:List V}(h:Rps K H vs [x]):∃v,vs=[v]/\Rp K H v x:=by
 obtain⟨v,ws,rfl,h1,h2⟩:=h.cons_inv;rw[h2.nil_inv];exact⟨v,rfl,h1⟩
theorem gw{K:EI}{H:Hp}{vs:List V}(h:Rps K H vs [x,y]):∃v w,vs=[v,w]/\Rp K H v x/\Rp K H w y:=by
 obtain⟨v,ws,rfl,h1,h2⟩:=h.cons_inv;obtain⟨w,rfl,h3⟩:=cC h2;exact⟨v,w,rfl,h1,h3⟩
theorem cR.mono{f:EN}{r r':List V->Hp->VK->Prop}(h:cR X f r)(m:∀vs H Q,r' vs H Q->r vs H Q):cR X f r':=λpins s σ H vs us Q I v q=>h pins s σ H vs us Q I v (m vs H Q q)
theorem ou{K:EI}{H:Hp}{v:V}(h:Rp K H v x)(hx:x.items=some xs):∃a vs,v=.ref a/\(SqL K H a vs\/SqT K H a vs)/\Rps K H vs xs:=by
 cases h with
 |scr h hl hh=>cases hx;exact⟨_,_,rfl,.inl h,hl,hh⟩
 |lst h hl hh=>cases hx;exact⟨_,_,rfl,.inl (SqL.of h),hl,hh⟩
 |tup h hl hh=>cases hx;exact⟨_,_,rfl,.inr h,hl,hh⟩
 |_=>cases hx
theorem sR{K:EI}{H:Hp}{O:List EX}{a:EX}{vs:List V}(h:SqL K (hid H O) a vs\/SqT K (hid H O) a vs):SqL K H a vs\/SqT K H a vs:=h.imp (λz=>aC.seq z) λz=>aC.tup z
theorem bn(hx:x.items=some xs):eT X (.builtin "len") [x] (.int xs.length):=cR.mono h_ λvs H Q ⟨O,d,r,q⟩=>by
 obtain⟨v,rfl,h⟩:=cC r;obtain⟨a,ws,rfl,h1,h2⟩:=ou h hx;exact⟨a,ws,rfl,sR h1,by rw[h2.len];exact q _ H (.refl H) (.int _)⟩
theorem Ct(n:Nat){x:Str}(h:ps[n]?=some (some (.own xs)))(hg:Gl X "len")(hm:X.mg "len"=none)(hN:X.N[n]?=some x:=by rfl)(hv:Vis X.env.scope x:=by first |exact Or.inl rfl |exact Or.inr (Or.inl rfl) |exact Or.inr (Or.inr rfl))(hd:(x==("__debug__":Str))=false:=by decide)
  (Qr:(x==("__classdict__":Str))=false:=by decide) {pc p':Pos} (hs:EZ [.Name x p'] X.env=(false,HY (.Name x p') X.env)::EZ [] X.env:=by rfl) (Qe:(Ie pos (EZ [] X.env)).any (·.1)=false:=by rfl):Ev X H0 O0 ps (.Call (.Name "len" pc) [.Name x p'] [] pos) (.int xs.length):=
 PE.mono (pw h_ hg hm E8 (c_ (gZ hN hv hd Qr) fS hs) (by decide) (by decide) hs Qe) λσ H Q ⟨O,R,q⟩=>by
  obtain⟨v,h1,a,vs,rfl,h3,h4,h5,h6⟩:=R.at_ n _ h;exact⟨_,h1,a,vs,rfl,.inl (SqL.of h5),by rw[h6.len];exact q _ H (.refl H) (.int _)⟩
theorem l9:eT X (.builtin "abs") [.int i] (.int (if i<0 then -i else i)):=cR.mono vV λvs H Q ⟨O,d,r,q⟩=>by
 obtain⟨v,rfl,h⟩:=cC r;cases h;exact⟨i,rfl,q _ H (.refl H) (.int _)⟩
theorem Dd(hc:X.calm=true):eT X (.builtin "max") [.int i,.int j] (.int (if j >i then j else i)):=cR.mono (ur hc) λvs H Q ⟨O,d,r,q⟩=>by
 obtain⟨v,w,rfl,h,h2⟩:=gw r;cases h;cases h2;exact⟨i,j,rfl,q _ H (.refl H) (.int _)⟩
theorem DL(hc:X.calm=true):eT X (.builtin "min") [.int i,.int j] (.int (if j<i then j else i)):=cR.mono (vd hc) λvs H Q ⟨O,d,r,q⟩=>by
 obtain⟨v,w,rfl,h,h2⟩:=gw r;cases h;cases h2;exact⟨i,j,rfl,q _ H (.refl H) (.int _)⟩
theorem eC(hx:x.items=some xs):AX X (.type "list") [x] xs:=cR.mono mE λvs H Q ⟨O,d,r,q⟩=>by
 obtain⟨v,rfl,h⟩:=cC r;obtain⟨a,ws,rfl,h1,h2⟩:=ou h hx;exact⟨a,ws,rfl,sR h1,λl hl=>q l ws _ (aN hl _) hl aL (h2.same (bD (aN hl _) hl))⟩
theorem zR(hx:x=.lst xs∨x=.scr xs):eT X (.type "tuple") [x] (.tup xs):=cR.mono lc λvs H Q ⟨O,d,r,q⟩=>by
 obtain⟨v,rfl,h⟩:=cC r;have nh:∀{l:EX}{o:HO},H l=none->hid (upd H l o) O l=some o:=λ{l o} hl=>c9 aL λz=>d _ z hl
 rcases hx with rfl |rfl
 ·cases h with
  |lst h hl hh=>exact⟨_,_,rfl,.inl ⟨aC.seq (SqL.of h),λl PH=>q _ _ (aN PH _) (.tup (SqT.of (nh PH)) hl λi v x e1 e2=>(hh i v x e1 e2).same (aM (aN PH _)))⟩⟩
 ·cases h with
  |scr h hl hh=>exact⟨_,_,rfl,.inl ⟨aC.seq h,λl PH=>q _ _ (aN PH _) (.tup (SqT.of (nh PH)) hl λi v x e1 e2=>(hh i v x e1 e2).same (aM (aN PH _)))⟩⟩
def tyU:U->EN
 | .non=>.type "NoneType" | .bl _=>.type "bool" | .int _=>.type "int" | .str _=>.type "str" | .ty _=>.type "type" | .dic=>.type "dict" | .scr _=>.type "list" | .tup _=>.type "tuple" | .lst _=>.type "list"
theorem cW{n:String}(hn:∀m,x≠.ty m)(h:IU X.K (tyU x) (.type n)=some k):eT X (.builtin "isinstance") [x,.ty (.nm n)] (.bl k):=by
 intro pins s σ H vs us Q I r hq;obtain⟨O,d,rs,q⟩:=hq;obtain⟨v,w,rfl,h1,h2⟩:=gw rs;cases h2;obtain⟨p1,p2,rfl,r1,r2⟩:=iE r;cases (show p2=Gd n from r2)
 have PF:∀tk,EP X pins σ Q (.bool k) {s with toks:=tk }:=λtk=>⟨.bl k,H,I.tok _,rfl,q _ H (.refl H) (.bl _)⟩
 cases h1 with
 |non=>exact dZ I r1 .non h PF
 |bl b=>exact dZ I r1 (.bl b) h PF
 |int b=>exact dZ I r1 (.int b) h PF
 |str b=>exact dZ I r1 (.str b) h PF
 |ty m=>exact absurd rfl (hn _)
 |dic e=>exact dZ I r1 (.dK (aC _ _ e)) h PF
 |xc e kk=>exact absurd rfl (hn _)
 |scr e hl hh=>
  cases r1;obtain⟨Pj,_,pl,_⟩:=I.list (aC.seq e);obtain⟨o,nn,e1,e2,_⟩:=pl;exact Gm KC I.kIn ⟨o,e1,e2⟩ h (λz=>nomatch z) PF
 |lst e hl hh=>exact dZ I r1 (.lst (aC _ _ e)) h PF
 |tup e hl hh=>
  cases r1;obtain⟨Pj,_,pl,_⟩:=I.tuple (aC.tup e);obtain⟨o,e1,e2,_⟩:=pl;exact Gm Mt I.kIn ⟨o,e1,e2⟩ h (λz=>nomatch z) PF
end
inductive Out where
 |val (u:U) |new (xs:List U) |exc (C:EX) |dsk (d:EX) (u:U) (PX:List (Str×U))
def p9(K:EI)(H0:Hp)(O0:List EX)(Q:VK)(E:XK):Out->Prop
 | .val u=>∀v H',aK H0 H'->Rp K (hid H' O0) v u->Q v H'
 | .new xs=>∀a vs H',aK H0 H'->H0 a=none->H' a=some (.lst vs)->Rps K (hid H' (a::O0)) vs xs->Q (.ref a) H'
 | .exc C=>∀H',aK H0 H'->E (.ref C) none H'
 | .dsk d u PX=>∀v kv H',aK H0 H'->H' d=some (.dK kv)->DkR K (hid H' (d::O0)) kv PX->Rp K (hid H' (d::O0)) v u->Q v H'
theorem p9.later{K:EI}{H0 H1:Hp}{O0:List EX}{Q:VK}{E:XK}{o:Out}(e:aK H0 H1)(h:p9 K H0 O0 Q E o):p9 K H1 O0 Q E o:=by
 cases o with
 |val u=>exact λv H' s r=>h v H' (e.trans s) r
 |new xs=>exact λa vs H' s n q r=>h a vs H' (e.trans s) (e.free n) q r
 |exc C=>exact λH' s=>h H' (e.trans s)
 |dsk d u PX=>exact λv kv H' s q r p=>h v kv H' (e.trans s) q r p
structure PD where
 nx:PSt->Prop
 rt:Out->Prop
 bk:PSt->Prop:=λ_=>False
 ct:PSt->Prop:=λ_=>False
structure Lf(K:EI)(H0:Hp)(O0:List EX)(E:XK)(D:PD)(D':n9):Prop where
 nx:∀ps σ H O,Rs K H0 O0 ps σ H O->D.nx ps->D'.nx σ H
 bk:∀ps σ H O,Rs K H0 O0 ps σ H O->D.bk ps->D'.bk σ H
 ct:∀ps σ H O,Rs K H0 O0 ps σ H O->D.ct ps->D'.ct σ H
 rt:∀o,D.rt o->p9 K H0 O0 D'.rt E o
def Ws(X:Cx)(H0:Hp)(O0:List EX)(E:XK)(ss:List Hc)(D:PD)(ps:PSt):Prop:=PSs X ss λD' σ H=>Lf X.K H0 O0 E D D'/\∃O,Rs X.K H0 O0 ps σ H O
def W1(X:Cx)(H0:Hp)(O0:List EX)(E:XK)(s:Hc)(D:PD)(ps:PSt):Prop:=PS X s λD' σ H=>Lf X.K H0 O0 E D D'/\∃O,Rs X.K H0 O0 ps σ H O
variable {E:XK}{P6:PSt}{D:PD}{ss:List Hc}{PV:List Hc}
section
variable {X:Cx}{ps:PSt}{s:Hc}{a b c e:Expr}{p:Pos}{x y:U}{k:Bool}
theorem aB(h:D.nx ps):Ws X H0 O0 E [] D ps:=PSs.mono ze λD' σ H ⟨L,O,R⟩=>L.nx ps σ H O R h
theorem af(h:W1 X H0 O0 E s {D with nx:=λp=>Ws X H0 O0 E ss D p } ps):Ws X H0 O0 E (s::ss) D ps:=by
 have h2:PSs X ss λD' σ H=>∃p,Ws X H0 O0 E ss D p/\Lf X.K H0 O0 E D D'/\∃O,Rs X.K H0 O0 p σ H O:=λpins s σ H D' I ⟨p,w,l,r⟩=>w pins s σ H D' I ⟨l,r⟩
 exact PSs.mono (v6 h h2) λD' σ H ⟨L,O,R⟩=>⟨⟨λp σ H O R q=>⟨p,q,L,O,R⟩,L.bk,L.ct,L.rt⟩,O,R⟩
theorem c7(h:Ws X H0 O0 E ss D P6)(hs:SubP P6 ps):Ws X H0 O0 E ss D ps:=PSs.mono h λD' σ H ⟨L,O,R⟩=>⟨L,O,R.sub hs⟩
theorem aI{i:Nat}{x:Str}{PL:Pos}(hN:X.N.Nodup)(hi:X.N[i]?=some x)(hx:Loc X.env.scope x)(he:Ev X H0 O0 ps e u)(h:D.nx (ps.set i (some (.val u))))(hs:IS e (some (.Name x PL)) pos.line X.env=pure false:=by rfl)(hf:X.fn x=true\/X.env.scope.names.lookup x=some .local:=by first |exact .inl rfl |exact .inr rfl |assumption):
  W1 X H0 O0 E (.Assign [.Name x PL] e pos) D ps:=PS.mono (xu hN hi hx he hs hf) λD' σ H ⟨L,O,R⟩=>⟨O,R,λv H' s r=>L.nx _ _ _ O ((R.go s).set r) h⟩
theorem eQ{i:Nat}{x:Str}{PL:Pos}(hN:X.N.Nodup)(hi:X.N[i]?=some x)(hx:Loc X.env.scope x)(he:EvN X H0 O0 ps e xs)(h:D.nx (ps.set i (some (.own xs))))(hs:IS e (some (.Name x PL)) pos.line X.env=pure false:=by rfl)(hf:X.fn x=true\/X.env.scope.names.lookup x=some .local:=by first |exact .inl rfl |exact .inr rfl |assumption):
  W1 X H0 O0 E (.Assign [.Name x PL] e pos) D ps:=PS.mono (xu hN hi hx he hs hf) λD' σ H ⟨L,O,R⟩=>⟨O,R,λa vs H' s n q r=>L.nx _ _ _ _ (R.own s n q r) h⟩
theorem jJ{tb fb:List Hc}(hc:Tt X H0 O0 ps c k)(h1:k=true->Ws X H0 O0 E tb D ps)(h2:k=false->Ws X H0 O0 E fb D ps):W1 X H0 O0 E (.If c tb fb pos) D ps:=by
 cases k with
 |true=>exact PS.mono (A4 hc (h1 rfl) (λ_ _ _ _ _ _ h=>h.elim) (u:=λ_ _ _=>False)) λD' σ H ⟨L,O,R⟩=>⟨O,R,λH' s=>m_ ⟨L,O,R.go s⟩⟩
 |false=>exact PS.mono (A4 hc (λ_ _ _ _ _ _ h=>h.elim) (h2 rfl) (t:=λ_ _ _=>False)) λD' σ H ⟨L,O,R⟩=>⟨O,R,λH' s=>mH ⟨L,O,R.go s⟩⟩
theorem Rs.ret{K:EI}{σ:St}{H:Hp}{O:List EX}{v:V}(R:Rs K H0 O0 ps σ H O)(r:Rp K (hid H O) v u):Rp K (hid H O0) v u:=r.same (eJ R.old)
theorem a_(he:Ev X H0 O0 ps e u)(h:D.rt (.val u)):W1 X H0 O0 E (.Return (some e) pos) D ps:=
 PS.mono (ql he) λD' σ H ⟨L,O,R⟩=>⟨O,R,λv H' s r=>L.rt _ h v H' (R.same.trans s) ((R.go s).ret r)⟩
theorem cX(he:EvN X H0 O0 ps e xs)(h:D.rt (.new xs)):W1 X H0 O0 E (.Return (some e) pos) D ps:=
 PS.mono (ql he) λD' σ H ⟨L,O,R⟩=>⟨O,R,λa vs H' s n q r=>L.rt _ h a vs H' (R.same.trans s) (R.same.free n) q (r.same (eJ λb hb=>by
  rcases EO.mp hb with y |y
  ·subst y;exact ET
  ·exact EJ _ (R.old b y)))⟩
theorem eX(i:Nat){x:Str}(hp:ps[i]?=some (some (.own xs)))(h:D.rt (.new xs))(hN:X.N[i]?=some x:=by rfl)(hv:Vis X.env.scope x:=by first |exact Or.inl rfl |exact Or.inr (Or.inl rfl) |exact Or.inr (Or.inr rfl))(hd:(x==("__debug__":Str))=false:=by decide)
  (Qr:(x==("__classdict__":Str))=false:=by decide):W1 X H0 O0 E (.Return (some (.Name x p)) pos) D ps:=
 PS.mono (ql (gZ hN hv hd Qr)) λD' σ H ⟨L,O,R⟩=>by
  obtain⟨v,h1,a,vs,rfl,h3,h4,h5,h6⟩:=R.at_ i _ hp;refine⟨_,h1,L.rt _ h a vs H R.same ((R.new a h3).resolve_left h4) h5 (h6.same (eJ λb hb=>?_))⟩
  rcases EO.mp hb with y |y
  ·subst y;exact h3
  ·exact R.old b y
theorem yE(he:Ev X H0 O0 ps e u)(h:D.nx ps)(hs:IS e none pos.line X.env=pure false:=by rfl):W1 X H0 O0 E (.Expr e pos) D ps:=
 PS.mono (jp he hs) λD' σ H ⟨L,O,R⟩=>⟨O,R,λv H' s r=>L.nx _ _ _ O (R.go s) h⟩
theorem ck(i:Nat){x:Str}{P1 Px xp:Pos}(hp:ps[i]?=some (some (.own xs)))(ha:Ev X H0 O0 ps e u)(hz:xs.length<sizeLine)(h:D.nx (ps.set i (some (.own (xs++[u])))))
  (hN:X.N[i]?=some x:=by rfl) (hv:Vis X.env.scope x:=by first |exact Or.inl rfl |exact Or.inr (Or.inl rfl) |exact Or.inr (Or.inr rfl)) (hd:(x==("__debug__":Str))=false:=by decide) (Qr:(x==("__classdict__":Str))=false:=by decide)
  (Ql:IE (.Name x xp) "append" X.env (HY (.Name x xp) X.env)=HY (.Name x xp) X.env:=by rfl)
  (Rq:((Ie Px (EZ [e] X.env)).all (λx=>!x.1) && (Nm Px (K7 [] X.env)).all (λx=>x.1.isSome) && decide ([e].length+([]:List J8).length+(if ([]:List J8).isEmpty then 0 else 1)<30))=true:=by rfl)
  (Qm:(P1.endLine==Px.line)=true:=by rfl) (hse:EZ [e] X.env=(false,HY e X.env)::EZ [] X.env:=by rfl) (QC:(Ie Px (EZ [] X.env)).any (·.1)=false:=by rfl)
  (hs:IS (.Call (.Attribute (.Name x xp) "append" P1) [e] [] Px) none pos.line X.env=pure false:=by rfl):W1 X H0 O0 E (.Expr (.Call (.Attribute (.Name x xp) "append" P1) [e] [] Px) pos) D ps:=
 PS.mono (jp (A6 Jn PySem.F.slot_list_append PySem.F.type_list_append iT (gZ hN hv hd Qr) (c_ ha fS hse) Ql Rq Qm hse QC) hs) λD' σ H ⟨L,O,R⟩=>by
  obtain⟨v,h1,a,vs,rfl,h3,h4,h5,h6⟩:=R.at_ i _ hp;refine⟨_,h1,.inl ⟨rfl,_,SqL.of h5⟩,O,R,λw H' s r=>⟨a,vs,w,rfl,rfl,s _ _ h5,by rw[h6.len];exact hz,?_⟩⟩
  exact L.nx _ _ _ O ((R.go s).write hp h1 ((h6.same (aM s)).snoc (.cons r .nil))) h
theorem v9(i:Nat){x:Str}{P1 Px xp:Pos}(hp:ps[i]?=some (some (.own xs)))(Pn:xs≠[])(h:D.nx (ps.set i (some (.own xs.dropLast))))
  (hN:X.N[i]?=some x:=by rfl) (hv:Vis X.env.scope x:=by first |exact Or.inl rfl |exact Or.inr (Or.inl rfl) |exact Or.inr (Or.inr rfl)) (hd:(x==("__debug__":Str))=false:=by decide) (Qr:(x==("__classdict__":Str))=false:=by decide)
  (Ql:IE (.Name x xp) "pop" X.env (HY (.Name x xp) X.env)=HY (.Name x xp) X.env:=by rfl)
  (Qm:(P1.endLine==Px.line)=true:=by rfl)
  (hs:IS (.Call (.Attribute (.Name x xp) "pop" P1) [] [] Px) none pos.line X.env=pure false:=by rfl):W1 X H0 O0 E (.Expr (.Call (.Attribute (.Name x xp) "pop" P1) [] [] Px) pos) D ps:=
 PS.mono (jp (Cl Jn PySem.F.slot_list_pop PySem.F.type_list_pop Bv (gZ hN hv hd Qr) Ql Qm) hs) λD' σ H ⟨L,O,R⟩=>by
  obtain⟨v,h1,a,vs,rfl,h3,h4,h5,h6⟩:=R.at_ i _ hp;have hpos:0<vs.length:=by rw[h6.len];exact FH.mpr Pn
  have Pq:vs.length-1<vs.length:=by lia
  refine⟨_,h1,.inl ⟨rfl,_,SqL.of h5⟩,a,vs,vs[vs.length-1],rfl,rfl,h5,EG Pq,?_⟩;refine L.nx _ _ _ O (R.write hp h1 ⟨by simp[h6.len],λj v x e1 e2=>?_⟩) h
  rw[Ik]at e1 e2;split at e1
  ·split at e2
   ·exact h6.at_ j v x e1 e2
   ·cases e2
  ·cases e1
end
def mN:List Nat->TGs
 |[]=>Dm
 |j::js=>Bi (oU j) (mN js)
def setAll:PSt->List Nat->List U->PSt
 |ps,j::js,u::us=>setAll (ps.set j (some (.val u))) js us
 |ps,_,_=>ps
def jn:St->List Nat->List V->St
 |σ,j::js,u::us=>jn (σ.set j (some u)) js us
 |σ,_,_=>σ
theorem Rs.setAll{K:EI}{H0:Hp}{O0:List EX}{H:Hp}{O:List EX}:∀{js:List Nat}{ps:PSt}{σ:St}{vs:List V}{us:List U},Rs K H0 O0 ps σ H O->Rps K (hid H O) vs us->Rs K H0 O0 (L2.setAll ps js us) (jn σ js vs) H O
 |[],ps,σ,vs,us,R,r=>by cases us <;>cases vs <;>exact R
 |j::js,ps,σ,vs,[],R,r=>by rw[r.nil_inv];exact R
 |j::js,ps,σ,vs,u::us,R,r=>by
  obtain⟨v,ws,rfl,h1,h2⟩:=r.cons_inv;exact Rs.setAll (js:=js) (R.set h1) h2
theorem iM{Q:St->Hp->Prop}{H:Hp}:∀{js:List Nat}{σ:St}{vs:List V},vs.length=js.length->Q (jn σ js vs) H->mN js vs σ H Q
 |[],σ,[],_,q=>⟨rfl,q⟩
 |j::js,σ,v::vs,e,q=>⟨v,vs,rfl,iM (js:=js) (by simpa using e) q⟩
 |[],_,_::_,e,_=>by simp at e
 |_::_,_,[],e,_=>by simp at e
def TgS(X:Cx)(H0:Hp)(O0:List EX)(tg:Expr)(ps:PSt)(u:U)(P6:PSt):Prop:=
 PG X tg λv σ H Q=>∃O,Rs X.K H0 O0 ps σ H O/\Rp X.K (hid H O) v u/\∀Pz H',aK H H'->Rs X.K H0 O0 P6 Pz H' O->Q Pz H'
theorem PG.mono{X:Cx}{e:Expr}{t t':TG}(h:PG X e t)(m:∀v σ H Q,t' v σ H Q->t v σ H Q):PG X e t':=λpins s σ H v u Q I r q=>h pins s σ H v u Q I r (m v σ H Q q)
theorem PI.mono{X:Cx}{tg e:Expr}{t t':TI}(h:PI X tg e t)(m:∀σ H Q,t' σ H Q->t σ H Q):PI X tg e t':=λpins s σ H Q I q=>h pins s σ H Q I (m σ H Q q)
def Yl(K:EI)(J:It)(G:Hp)(xs:List U):Prop:=
 ∀H2,aK G H2->(∀i,i<xs.length->J.go i H2/\∀x H3,J.yld i H2 x H3->H3=H2/\∃u,xs[i]?=some u/\Rp K G x u)/\J.stop xs.length H2
def EvI(X:Cx)(H0:Hp)(O0:List EX)(ps:PSt)(tg iter:Expr)(xs:List U):Prop:=
 PI X tg iter λσ H R=>∃O,Rs X.K H0 O0 ps σ H O/\∀J H',aK H H'->Yl X.K J (hid H' O) xs->R J H'
variable {tg:Expr}{iter:Expr}
section
variable {X:Cx}{ps:PSt}{s:Hc}{a b c e:Expr}{p:Pos}{x y:U}{k:Bool}
theorem eu{i:Nat}{x:Str}(hN:X.N.Nodup)(hi:X.N[i]?=some x)(hx:Loc X.env.scope x)(hf:X.fn x=true\/X.env.scope.names.lookup x=some .local:=by first |exact .inl rfl |exact .inr rfl |assumption):TgS X H0 O0 (.Name x pos) ps u (ps.set i (some (.val u))):=
 PG.mono (aQ hN hi hx hf) λv σ H Q ⟨O,R,r,q⟩=>q _ H (.refl H) (R.set r)
theorem wV{k:Nat}(js:List Nat)(hc:X.calm=true)(h:PGs X es (mN js))(hl:us.length=js.length)(hn:(Jb es X.env).length=js.length:=by rfl)(Qs:(Jb es X.env).findIdx? (·.1)=none:=by rfl):TgS X H0 O0 (.Tuple es k pos) ps (.tup us) (setAll ps js us):=
 PG.mono (j9 hc h hn Qs) λv σ H Q ⟨O,R,r,q⟩=>by
  cases r with
  |tup hq PH hh=>exact⟨_,_,rfl,aC.tup hq,PH.trans hl,iM (PH.trans hl) (q _ H (.refl H) (R.setAll ⟨PH,hh⟩))⟩
theorem AV(he:Ev X H0 O0 ps e u)(hg:TgS X H0 O0 tg ps u P6)(h:D.nx P6)(hs:K0 [tg] e pos.line X.env=pure false:=by rfl)(hw:K1 [tg] e X.env=pure none:=by rfl)
  (h1:(Jb [tg] X.env).map (·.2)=[N9 tg X.env]:=by rfl):W1 X H0 O0 E (.Assign [tg] e pos) D ps:=
 PS.mono (CH he hg hs hw h1) λD' σ H ⟨L,O,R⟩=>⟨O,R,λv H1 s1 r1=>⟨O,R.go s1,r1,λPz H2 s2 R2=>L.nx _ _ _ O R2 h⟩⟩
theorem AZ{i j:Nat}{x y:Str}{px py pt:Pos}{kt k2 pt2}{u w:U}(hc:X.calm=true)(hN:X.N.Nodup)(hi:X.N[i]?=some x)(hj:X.N[j]?=some y)(Qi:i≠j)
  (hx:X.env.scope.names.lookup x=some .local) (hy:X.env.scope.names.lookup y=some .local) (ha:EvA X H0 O0 ps [a,b] [u,w])
  (hw:K1 [.Tuple [.Name x px,.Name y py] kt pt] (.Tuple [a,b] k2 pt2) X.env=pure (some [x,y])) (h:D.nx ((ps.set i (some (.val u))).set j (some (.val w))))
  (hs:K0 [.Tuple [.Name x px,.Name y py] kt pt] (.Tuple [a,b] k2 pt2) pos.line X.env=pure false:=by rfl):
  W1 X H0 O0 E (.Assign [.Tuple [.Name x px,.Name y py] kt pt] (.Tuple [a,b] k2 pt2) pos) D ps:=
 PS.mono (Cf hc hN hi hj Qi hx hy ha hw hs) λD' σ H ⟨L,O,R⟩=>⟨O,R,λvs H1 s1 r1=>by
  obtain⟨v,z,rfl,h1,h2⟩:=gw r1;exact⟨v,z,rfl,L.nx _ _ _ O (((R.go s1).set h1).set h2) h⟩⟩
theorem bQ(he:Ev X H0 O0 ps iter x)(hx:x=.lst xs\/x=.scr xs):EvI X H0 O0 ps tg iter xs:=
 PI.mono (zP he) λσ H Q ⟨O,R,q⟩=>⟨O,R,λv H' s r=>by
  have key:∃a vs,v=.ref a/\SqL X.K (hid H' O) a vs/\Rps X.K (hid H' O) vs xs:=by
   rcases hx with rfl |rfl
   ·cases r with
    |lst hq hl hh=>exact⟨_,_,rfl,SqL.of hq,hl,hh⟩
   ·cases r with
    |scr hq hl hh=>exact⟨_,_,rfl,hq,hl,hh⟩
  obtain⟨a,vs,rfl,hq,rs⟩:=key;refine⟨a,rfl,⟨vs,aC.seq hq⟩,q _ H' s λH2 s2=>⟨λi hi=>?_,⟨vs,s2.seq hq,by rw[rs.len];exact EU _⟩⟩⟩
  have Pu:i<vs.length:=by rw[rs.len];exact hi
  refine⟨⟨vs,vs[i],s2.seq hq,EG Pu⟩,λz H3 y=>⟨y.1,xs[i],EG hi,rs.at_ i z _ (y.2 vs (s2.seq hq)) (EG hi)⟩⟩⟩
theorem C5(he:Ev X H0 O0 ps iter (.tup xs)):EvI X H0 O0 ps tg iter xs:=
 PI.mono (CS he) λσ H Q ⟨O,R,q⟩=>⟨O,R,λv H' s r=>by
  cases r with
  | @tup a vs _ hq hl hh=>
   have rs:Rps X.K (hid H' O) vs xs:=⟨hl,hh⟩;refine⟨a,rfl,⟨vs,aC.tup hq⟩,q _ H' s λH2 s2=>⟨λi hi=>?_,⟨vs,s2.tup hq,by rw[rs.len];exact EU _⟩⟩⟩
   have Pu:i<vs.length:=by rw[rs.len];exact hi
   refine⟨⟨vs,vs[i],s2.tup hq,EG Pu⟩,λz H3 y=>⟨y.1,xs[i],EG hi,rs.at_ i z _ (y.2 vs (s2.tup hq)) (EG hi)⟩⟩⟩
def fD(lo:Int)(n:Nat):List U:=(Fz n).map λ(i:Nat)=>U.int (lo+(i:Int))
theorem cx{lo:Int}{n:Nat}:(fD lo n).length=n:=by simp[fD]
theorem l7{lo:Int}{n i:Nat}(h:i<n):(fD lo n)[i]?=some (.int (lo+(i:Int))):=by
 unfold fD;rw[ES,Gx h];rfl
theorem dt{lo:Int}{n i:Nat}{x:U}(h:(fD lo n)[i]?=some x):i<n/\x=.int (lo+(i:Int)):=by
 have hi:=aF h;rw[cx]at hi;rw[l7 hi]at h;exact⟨hi,(FY h).symm⟩
theorem jE{K:EI}{G:Hp}{lo:Int}{n:Nat}:Yl K (Itr lo n) G (fD lo n):=λH2 s2=>by
 rw[cx];refine⟨λi hi=>⟨hi,λz H3 y=>⟨y.1,_,l7 hi,?_⟩⟩,EU _⟩
 rw[y.2];exact .int _
theorem kR{j:Int}(hg:Gl X "range")(hm:X.mg "range"=none)(ha:EvA X H0 O0 ps [a] [.int j])(h1:-(2 ^ 62)≤j)(h2:j<2 ^ 62)(hs:EZ [a] X.env=[(false,HY a X.env)]:=by rfl):EvI X H0 O0 ps tg (.Call (.Name "range" p) [a] [] pos) (fD 0 j.toNat):=
 PI.mono (vf hg hm ha hs) λσ H Q ⟨O,R,q⟩=>⟨O,R,λvs H' s r=>by
  obtain⟨v,rfl,h⟩:=cC r;cases h;exact⟨j,rfl,h1,h2,q _ H' s jE⟩⟩
def gx(lo c:Int)(n:Nat):List U:=(Fz n).map λ(i:Nat)=>U.int (lo+(i:Int) *c)
theorem eS{lo c:Int}{n:Nat}:(gx lo c n).length=n:=by simp[gx]
theorem jM{lo c:Int}{n i:Nat}(h:i<n):(gx lo c n)[i]?=some (.int (lo+(i:Int) *c)):=by
 unfold gx;rw[ES,Gx h];rfl
theorem iZ{lo c:Int}{n i:Nat}{x:U}(h:(gx lo c n)[i]?=some x):i<n/\x=.int (lo+(i:Int) *c):=by
 have hi:=aF h;rw[eS]at hi;rw[jM hi]at h;exact⟨hi,(FY h).symm⟩
theorem p6{i j m:Int}(hg:Gl X "range")(hm:X.mg "range"=none)(ha:EvA X H0 O0 ps [a,b,c] [.int i,.int j,.int m])(h:-(2 ^ 60)≤i∧i<2 ^ 60∧-(2 ^ 60)≤j∧j<2 ^ 60∧0<m∧m<2 ^ 30)(hs:EZ [a,b,c] X.env=[(false,HY a X.env),(false,HY b X.env),(false,HY c X.env)]:=by rfl)
  (Qy:EZ [b,c] X.env=[(false,HY b X.env),(false,HY c X.env)]:=by rfl):
  EvI X H0 O0 ps tg (.Call (.Name "range" p) [a,b,c] [] pos) (gx i m (e9 i j m)):=
 PI.mono (u8 hg hm ha hs Qy) λσ H Q ⟨O,R,q⟩=>⟨O,R,λvs H' s r=>by
  obtain⟨v,ws,rfl,k1,k2⟩:=r.cons_inv;obtain⟨w,z,rfl,k2,k3⟩:=gw k2;cases k1;cases k2;cases k3;refine⟨i,j,m,rfl,h,q _ H' s λH2 s2=>?_⟩
  rw[eS];refine⟨λi hi=>⟨hi,λz H3 y=>⟨y.1,_,jM hi,?_⟩⟩,EU _⟩
  rw[y.2];exact .int _⟩
theorem Rs.rebase{K:EI}{σ:St}{H:Hp}{O:List EX}(R:Rs K H0 O0 ps σ H O):Rs K (hid H (O.filter λa=>decide (a ∉ O0))) O0 ps σ H O:=
 ⟨aC,R.old,λa ha=>by
  by_cases h:a∈O0
  ·exact .inl h
  ·right;unfold hid;rw[if_pos (F4.mpr ⟨ha,by simpa using h⟩)],R.dom,R.len,R.at_,R.inj⟩
theorem Rs.base{K:EI}{σ:St}{H:Hp}{O:List EX}(R:Rs K H0 O0 ps σ H O):aK H0 (hid H (O.filter λa=>decide (a ∉ O0))):=λb o h=>by
 refine c9 (R.same b o h) λz=>?_
 obtain⟨z1,z2⟩:=F4.mp z;rcases R.new b z1 with y |y
 ·simp[y]at z2
 ·rw[h]at y;cases y
theorem Rs.unbase{K:EI}{H1:Hp}{σ:St}{H:Hp}{O:List EX}(e:aK H0 H1)(R:Rs K H1 O0 ps σ H O):Rs K H0 O0 ps σ H O:=
 ⟨e.trans R.same,R.old,λa ha=>(R.new a ha).imp id λz=>e.free z,R.dom,R.len,R.at_,R.inj⟩
theorem Rs.seen{K:EI}{RJ:PSt}{σ σ2:St}{H H2:Hp}{O O2:List EX}(R:Rs K H0 O0 ps σ H O)(R2:Rs K (hid H (O.filter λa=>decide (a ∉ O0))) O0 RJ σ2 H2 O2):aK (hid H O) (hid H2 O2):=λb o h=>by
 obtain⟨h1,h2⟩:=hG h;have h3:hid H (O.filter λa=>decide (a ∉ O0)) b=some o:=c9 h1 λz=>h2 (F4.mp z).1
 refine c9 (R2.same b o h3) λz=>?_
 rcases R2.new b z with y |y
 ·exact h2 (R.old b y)
 ·rw[h3]at y;cases y
theorem C9(hc:X.calm=true)(hp:LG (FE X.prog X.w) X.A X.env X.xe)(hi:EvI X H0 O0 ps tg iter xs)(Iv:Nat->PSt->Prop)(h0:Iv 0 ps)
  (hs:∀(H0:Hp) (i:Nat) (x:U) (ps:PSt),xs[i]?=some x->Iv i ps->∃P6,TgS X H0 O0 tg ps x P6/\Ws X H0 O0 E PV {D with nx:=Iv (i+1),ct:=Iv (i+1),bk:=D.nx } P6) (hd:∀ps,Iv xs.length ps->D.nx ps)
  (hf:∀x,Gf iter X.env x=pure x:=by intro _;rfl):W1 X H0 O0 E (.For tg iter PV [] pos) D ps:=by
 have hg:PG X tg λv σ H Q=>∃H1 ps u P6,TgS X H1 O0 tg ps u P6/\∃O,Rs X.K H1 O0 ps σ H O/\Rp X.K (hid H O) v u/\∀Pz H',aK H H'->Rs X.K H1 O0 P6 Pz H' O->Q Pz H':=
  λpins s σ H v u Q I r ⟨H1,ps,w,P6,t,z⟩=>t pins s σ H v u Q I r z
 have hb:PSs X PV λD' σ H=>∃H1 D1 P6,Ws X H1 O0 E PV D1 P6/\Lf X.K H1 O0 E D1 D'/\∃O,Rs X.K H1 O0 P6 σ H O:=λpins s σ H D' I ⟨H1,D1,P6,w,z⟩=>w pins s σ H D' I z
 refine PS.mono (BD hp hc hi hg hb hf) λD' σ H ⟨L,O,R⟩=>⟨O,R,λJ H1 s1 Y=>?_⟩
 have R1:=R.go s1;have base:=R1.base;refine⟨λi m σ H=>m=xs.length-i/\i<=xs.length/\∃ps O',Iv i ps/\Rs X.K (hid H1 (O.filter λa=>decide (a ∉ O0))) O0 ps σ H O',⟨_,rfl,FU _,ps,O,h0,R1.rebase⟩,?_⟩
 rintro i m σ2 H2 ⟨rfl,Qv,RJ,O2,iv,R2⟩;have seen:=R1.seen R2;obtain⟨y1,y2⟩:=Y H2 (seen.trans aC);by_cases Pq:i<xs.length
 ·obtain⟨g1,g2⟩:=y1 i Pq;refine .inr ⟨g1,λPz H'=>∃ps O',Iv (i+1) ps/\Rs X.K (hid H1 (O.filter λa=>decide (a ∉ O0))) O0 ps Pz H' O',λPz H' z=>⟨xs.length-(i+1),by lia,rfl,Pq,z⟩,λx H3 y=>?_⟩
  obtain⟨rfl,u,hu,r⟩:=g2 x H3 y;obtain⟨P6,t,w⟩:=hs (hid H1 (O.filter λa=>decide (a ∉ O0))) i u RJ hu iv
  refine⟨_,RJ,u,P6,t,O2,R2,r.same seen,λPz H' s' R'=>⟨_,_,P6,w,?_,O2,R'⟩⟩
  exact⟨λp σ H O R q=>⟨p,O,q,R⟩,λp σ H O R q=>L.nx _ _ _ _ (R.unbase base) q,λp σ H O R q=>⟨p,O,q,R⟩,λo q=>(L.rt o q).later base⟩
 ·have e:i=xs.length:=by lia
  subst e;exact .inl ⟨y2,L.nx _ _ _ _ (R2.unbase base) (hd RJ iv)⟩
theorem Ay(hp:LG (FE X.prog X.w) X.A X.env X.xe)(Iv:Nat->PSt->Prop)(m:Nat)(h0:Iv m ps)
  (hs:∀m ps,Iv m ps->∃b,Tt X H0 O0 ps c b/\(b=true->Ws X H0 O0 E PV {D with nx:=λp=>∃m',m'<m/\Iv m' p,ct:=λp=>∃m',m'<m/\Iv m' p,bk:=D.nx } ps)/\(b=false->D.nx ps)):W1 X H0 O0 E (.While c PV [] pos) D ps:=by
 have ht:PT X c λσ H Q=>∃ps b,Tt X H0 O0 ps c b/\∃O,Rs X.K H0 O0 ps σ H O/\∀H',aK H H'->Q b H':=λpins s σ H Q I ⟨ps,b,t,z⟩=>t pins s σ H Q I z
 have hb:PSs X PV λD' σ H=>∃D1 P6,Ws X H0 O0 E PV D1 P6/\Lf X.K H0 O0 E D1 D'/\∃O,Rs X.K H0 O0 P6 σ H O:=λpins s σ H D' I ⟨D1,P6,w,z⟩=>w pins s σ H D' I z
 refine PS.mono (wG hp ht hb) λD' σ H ⟨L,O,R⟩=>⟨λm σ H=>∃ps O,Iv m ps/\Rs X.K H0 O0 ps σ H O,⟨m,ps,O,h0,R⟩,?_⟩
 rintro m σ2 H2 ⟨RJ,O2,iv,R2⟩;obtain⟨b,t,h1,h2⟩:=hs m RJ iv;refine⟨RJ,b,t,O2,R2,λH3 s3=>?_⟩
 cases b with
 |true=>
  refine m_ ⟨λσ H=>∃m',m'<m/\∃ps O,Iv m' ps/\Rs X.K H0 O0 ps σ H O,λPz H' z=>z,_,RJ,h1 rfl,?_,O2,R2.go s3⟩
  exact⟨λp σ H O R ⟨m',l,q⟩=>⟨m',l,p,O,q,R⟩,λp σ H O R q=>L.nx _ _ _ _ R q,λp σ H O R ⟨m',l,q⟩=>⟨m',l,p,O,q,R⟩,L.rt⟩
 |false=>exact mH (L.nx _ _ _ _ (R2.go s3) (h2 rfl))
def dP:List Nat->PSt->PSt
 |[],ps=>ps
 |i::is,ps=>dP is (ps.set i none)
theorem Rs.mask{K:EI}{H:Hp}{O:List EX}:∀{is:List Nat}{ps:PSt}{σ:St},Rs K H0 O0 ps σ H O->Rs K H0 O0 (dP is ps) (L2.mask is σ) H O
 |[],ps,σ,R=>R
 |i::is,ps,σ,R=>Rs.mask (is:=is) (R.drop (i:=i) (o:=none))
theorem Rs.hide{K:EI}{σ:St}{H H':Hp}{O:List EX}{l:EX}(R:Rs K H0 O0 ps σ H O)(e:aK H H')(n:H l=none)(d:H' l≠none):Rs K H0 O0 ps σ H' (l::O):=by
 refine⟨R.same.trans e,λa ha=>EJ _ (R.old a ha),λa ha=>?_,λa ha z=>?_,R.len,λi s h=>?_,R.inj⟩
 ·rcases EO.mp ha with y |y
  ·subst y;exact .inr (R.same.free n)
  ·exact R.new a y
 ·rcases EO.mp ha with y |y
  ·subst y;exact d z
  ·exact R.dom a y (e.free z)
 ·obtain⟨w,h1,h2⟩:=R.at_ i s h;refine⟨w,h1,?_⟩;cases s with
  |val u=>exact Rp.same (bD e n) h2
  |own ys=>
   obtain⟨b,ws,k1,k2,k3,k4,k5⟩:=h2;exact⟨b,ws,k1,EJ _ k2,k3,e _ _ k4,k5.same (bD e n)⟩
  |pin z u=>exact⟨h2.1,Rp.same (bD e n) h2.2⟩
  |dsk w C b d PX=>obtain⟨dx,kv,k1,k2,k3,k4,k5,k6⟩:=h2;exact⟨dx,kv,k1,EJ _ k2,k3,e _ _ k4,e _ _ k5,k6.same (bD e n)⟩
theorem p_{js is:List Nat}:∀{σ:St}{vs:List V},(∀j∈js,j∈is)->∀(n:Nat) (v:V),n ∉ is->σ[n]?=some (some v)->(jn σ js vs)[n]?=some (some v):=by
 induction js with
 |nil=>intro σ vs _ n v _ h;cases vs <;>exact h
 |cons j js ih=>
  intro σ vs hj n v hn h;cases vs with
  |nil=>exact h
  |cons w ws=>exact ih (λz hz=>hj z (EJ _ hz)) n v hn (by rw[Fw (λz=>hn (by rw[<-z];exact hj j ET))];exact h)
def GOk(g:TG)(K:EI)(is:List Nat)(f:PSt->U->PSt)(dom:U->Prop):Prop:=
 ∀(H0:Hp) (O0:List EX) (ps:PSt) (σ:St) (H:Hp) (O:List EX) (v:V) (u:U) (Q:St->Hp->Prop),dom u->Rs K H0 O0 ps σ H O->Rp K (hid H O) v u->
  (∀Pz,Rs K H0 O0 (f ps u) Pz H O->(∀(n:Nat) (w:V),n ∉ is->σ[n]?=some (some w)->Pz[n]?=some (some w))->Q Pz H)->g v σ H Q
theorem bM{K:EI}{is:List Nat}{i:Nat}(h:i∈is):GOk (oU i) K is (λps u=>ps.set i (some (.val u))) λ_=>True:=λH0 O0 ps σ H O v u Q _ R r q=>
 q _ (R.set r) λn w hn e=>by rw[Fw (λz=>hn (by rw[<-z];exact h))];exact e
theorem jB{K:EI}{is js:List Nat}(h:∀j∈js,j∈is):GOk (C_ K js.length (mN js)) K is (λps u=>match u with | .tup us=>setAll ps js us |_=>ps) λu=>∃us,u=.tup us/\us.length=js.length:=λH0 O0 ps σ H O v u Q d R r q=>by
 obtain⟨us,rfl,hl⟩:=d;cases r with
 |tup hq PH hh=>exact⟨_,_,rfl,aC.tup hq,PH.trans hl,iM (PH.trans hl) (q _ (R.setAll ⟨PH,hh⟩) λn w hn e=>p_ h n w hn e)⟩
theorem lF{is:List Nat}{g:TG}{f:PSt->U->PSt}{dom:U->Prop}{σ:St}{H1:Hp}{O:List EX}{Q:VK}{J:It}{te:TE}(hg:GOk g X.K is f dom)(R1:Rs X.K H0 O0 ps σ H1 O)(Y:Yl X.K J (hid H1 O) xs)(Pm:ys.length=xs.length)(hz:xs.length<=sizeLine)(Qt:∀x∈xs,dom x)
  (Rg:∀(i:Nat) (x y:U) (σ:St) (H:Hp) (O':List EX) (Q:VK),xs[i]?=some x->ys[i]?=some y->Rs X.K H0 O0 (f (dP is ps) x) σ H O'->(∀v H',aK H H'->Rp X.K (hid H' O') v y->Q v H')->te σ H Q)
  (PF:∀a vs H',aK H1 H'->H1 a=none->H' a=some (.lst vs)->Rps X.K (hid H' (a::O)) vs ys->Q (.ref a) H'):t_ is g te σ Q J H1:=by
 intro l hl;refine⟨λi m H2=>m=xs.length-i/\i<=xs.length/\aK H1 H2/\∃vs,H2 l=some (.lst vs)/\vs.length=i/\Rps X.K (hid H2 (l::O)) vs (ys.take i),⟨_,rfl,FU _,aN hl _,[],aL,rfl,by rw[Ku];exact .nil⟩,?_⟩
 rintro i m H2 ⟨rfl,hi,s2,vs,h2,hv,rs⟩;have seen:aK (hid H1 O) (hid H2 (l::O)):=bD s2 hl;obtain⟨y1,y2⟩:=Y H2 (seen.trans aC);by_cases Pq:i<xs.length
 ·obtain⟨g1,g2⟩:=y1 i Pq;refine .inr ⟨g1,λx H3 y=>?_⟩
  obtain⟨rfl,u,hu,r⟩:=g2 x H3 y;have R2:=(R1.mask (is:=is)).hide s2 hl (by rw[h2];intro z;cases z)
  refine hg H0 O0 _ _ H3 (l::O) x u _ (Qt u (E5 hu)) R2 (r.same seen) λRb R4 keep=>?_
  have hy:ys[i]?=some (ys[i]'(by lia)):=EG _
  refine Rg i u _ Rb H3 (l::O) _ hu hy R4 λv H5 s5 r5=>⟨λj w e=>keep j w (gr is σ j w e).2 e,vs,s5 _ _ h2,?_,xs.length-(i+1),by lia,rfl,Pq,(s2.trans s5).put hl _,vs++[v],aL,by simp[hv],?_⟩
  ·rw[hv];lia
  ·rw[jz ET,He,hy];exact (rs.same (aM s5)).snoc (.cons r5 .nil)
 ·have e:i=xs.length:=by lia
  subst e;rw[<-Pm,G5]at rs;exact .inl ⟨y2,PF l vs H2 s2 hl h2 rs⟩
theorem dj{P5:Expr}{Ph:Js}{cl:List (Str×EX)}{is:List Nat}{g:TG}{f:PSt->U->PSt}{dom:U->Prop}(hc:X.calm=true)(B:cS X Ph cl is)(hi:EvI X H0 O0 ps tg iter xs)(hg:∀C s H fp,PG (aE X Ph cl C s H fp) tg g)(gk:GOk g X.K is f dom)
  (Pm:ys.length=xs.length) (hz:xs.length<=sizeLine) (Qt:∀x∈xs,dom x) (he:∀C s H fp (i:Nat) (x y:U),xs[i]?=some x->ys[i]?=some y->Ev (aE X Ph cl C s H fp) H0 O0 (f (dP is ps) x) P5 y)
  (hs:∀x,Gf iter X.env x=pure x:=by intro _;rfl):EvN X H0 O0 ps (.ListComp P5 [⟨tg,iter,[],0⟩] Ph pos) ys:=by
 have Rg:∀C s H fp,PE (aE X Ph cl C s H fp) P5 λσ H Q=>∃i x y,xs[i]?=some x/\ys[i]?=some y/\∃O',Rs X.K H0 O0 (f (dP is ps) x) σ H O'/\∀v H',aK H H'->Rp X.K (hid H' O') v y->Q v H':=
  λC s H fp pins s' σ H' Q I ⟨i,x,y,h1,h2,z⟩=>he C s H fp i x y h1 h2 pins s' σ H' Q I z
 refine PE.mono (zA hc B hi hg Rg hs) λσ H Q ⟨O,R,q⟩=>⟨O,R,λJ H1 s1 Y=>?_⟩
 exact lF gk (R.go s1) Y Pm hz Qt (λi x y σ H O' Q h1 h2 R' z=>⟨i,x,y,h1,h2,O',R',z⟩) λa vs H' s n h r=>q a vs H' (s1.trans s) (s1.free n) h r
theorem ve{P5:Expr}{Ph:Js}{cl:List (Str×EX)}{QJ py:Pos}{y:Str}{j:Nat}{is:List Nat}{g:TG}{f:PSt->U->PSt}{dom:U->Prop}(own:Bool)(hc:X.calm=true)(hN:X.N.Nodup)(hj:X.N[j]?=some y)(hy:Loc X.env.scope y)(B:cS X Ph cl is)
  (hi:EvI X H0 O0 ps tg iter xs) (hg:∀C s H fp,PG (aE X Ph cl C s H fp) tg g) (gk:GOk g X.K is f dom) (Pm:ys.length=xs.length) (hz:xs.length<=sizeLine) (Qt:∀x∈xs,dom x)
  (he:∀C s H fp (i:Nat) (x y:U),xs[i]?=some x->ys[i]?=some y->Ev (aE X Ph cl C s H fp) H0 O0 (f (dP is ps) x) P5 y) (h:D.nx (ps.set j (some (if own then .own ys else .val (.lst ys)))))
  (hs:∀x,Gf iter X.env x=pure x:=by intro _;rfl)
  (hsw:IS (.ListComp P5 [⟨tg,iter,[],0⟩] Ph pos) (some (.Name y py)) QJ.line X.env=pure true:=by rfl) (hf:X.fn y=true\/X.env.scope.names.lookup y=some .local:=by first |exact .inl rfl |exact .inr rfl |assumption):
  W1 X H0 O0 E (.Assign [.Name y py] (.ListComp P5 [⟨tg,iter,[],0⟩] Ph pos) QJ) D ps:=by
 have Rg:∀C s H fp,PE (aE X Ph cl C s H fp) P5 λσ H Q=>∃i x y,xs[i]?=some x/\ys[i]?=some y/\∃O',Rs X.K H0 O0 (f (dP is ps) x) σ H O'/\∀v H',aK H H'->Rp X.K (hid H' O') v y->Q v H':=
  λC s H fp pins s' σ H' Q I ⟨i,x,y,h1,h2,z⟩=>he C s H fp i x y h1 h2 pins s' σ H' Q I z
 refine PS.mono (jZ hc hN hj hy B hi hg Rg hs hsw hf) λD' σ H ⟨L,O,R⟩=>⟨O,R,λJ H1 s1 Y=>?_⟩
 refine lF gk (R.go s1) Y Pm hz Qt (λi x y σ H O' Q h1 h2 R' z=>⟨i,x,y,h1,h2,O',R',z⟩) λa vs H' s n h' r=>?_
 cases own with
 |true=>exact L.nx _ _ _ _ ((R.go s1).own s n h' r) h
 |false=>
  have na:a ∉ O:=λz=>(R.go s1).dom a z n
  have r':=r.same (eJ λb hb=>EJ a hb)
  exact L.nx _ _ _ _ (((R.go s1).go s).set (.lst (c9 h' na) r'.len r'.at_)) h
end
def spU(K:EI)(PR:List U->Out->Prop):Sp:=λvs H Q E=>∃us O o,(∀a∈O,H a≠none)/\Rps K (hid H O) vs us/\PR us o/\p9 K H O Q E o
section
variable {X:Cx}{ps:PSt}{s:Hc}{a b c e:Expr}{p:Pos}{x y:U}{k:Bool}
 {CX:CXT}{n:Nat}{f C:EX}{fd:F5}{pn:List Str}{PR:List U->Out->Prop}{nm:Str}
theorem ax(F:ba X.prog X.w X.K X.mg X.base CX n f fd pn (spU X.K PR))(hr:eH n X.A)(hg:Gl X nm)(hm:X.mg nm=some (.ref f))(hk:Hd X.K (.ref f)=true)(hb:dF X.K fd pn [])(hx:iS CX X E0)
  (ha:EvA X H0 O0 ps (e::es) us) (h:PR us (.val u)) (QO:(nm==("__debug__":Str))=false:=by decide) (he:EZ (e::es) X.env=(false,HY e X.env)::EZ es X.env:=by rfl) (Qe:(Ie pos (EZ es X.env)).any (·.1)=false:=by rfl):
  Ev X H0 O0 ps (.Call (.Name nm p) (e::es) [] pos) u:=
 PE.mono (mY F hr hg hm hk hb .nil hx ha QO he Qe) λσ H Q ⟨O,R,q⟩=>⟨O,R,λvs H1 s1 r1=>by
  show spU X.K PR (vs++[]) H1 Q _;rw[HE];exact⟨us,O,.val u,(R.go s1).dom,r1,h,λv H2 s2 r2=>q v H2 (s1.trans s2) r2⟩⟩
theorem bj(F:ba X.prog X.w X.K X.mg X.base CX n f fd pn (spU X.K PR))(hr:eH n X.A)(hg:Gl X nm)(hm:X.mg nm=some (.ref f))(hk:Hd X.K (.ref f)=true)(hb:dF X.K fd pn [])(hx:iS CX X E0)
  (ha:EvA X H0 O0 ps (e::es) us) (h:PR us (.new xs)) (QO:(nm==("__debug__":Str))=false:=by decide) (he:EZ (e::es) X.env=(false,HY e X.env)::EZ es X.env:=by rfl) (Qe:(Ie pos (EZ es X.env)).any (·.1)=false:=by rfl):
  EvN X H0 O0 ps (.Call (.Name nm p) (e::es) [] pos) xs:=
 PE.mono (mY F hr hg hm hk hb .nil hx ha QO he Qe) λσ H Q ⟨O,R,q⟩=>⟨O,R,λvs H1 s1 r1=>by
  show spU X.K PR (vs++[]) H1 Q _;rw[HE];exact⟨us,O,.new xs,(R.go s1).dom,r1,h,λa vs H2 s2 n2 h2 r2=>q a vs H2 (s1.trans s2) (s1.free n2) h2 r2⟩⟩
end
section
variable {P:EW}{w:Fl}{K:EI}{mg:Str→Option EN}{base:GD}{N pn:List Str}{Pl nm:Str}{Ph:Js}{f:EX}{cd:EN}{A:Fm}{outer:List Env}{s:EL}{ps:PSt}
def gg(N:List Str)(us:List U):PSt:=us.map (λu=>some (.val u))++NV (N.length-us.length) none
theorem aV{st:Hc}{fd:F5}{k:Nat}{PR:List U->Out->Prop}(F:Fun K nm Pl st f fd)(S:av N pn (ak st))(len:∀us o,PR us o->us.length=pn.length)
  (Qk:∀(Pp:EN) (A:Fm) (outer:List Env) (s:EL) (H:Hp) (E:XK) (O:List EX) (us:List U) (o:Out),eH k (A.deeper (LJ Pl (ak st) s.heap.objs.size f Pp))->PR us o->
   Ws (nV (CXF P w) P w K mg base N Pl (ak st) f Pp A outer s H E) H O E (bN st) ⟨λ_=>o=.val .non,λo'=>o'=o,λ_=>False,λ_=>False⟩ (gg N us)):ba P w K mg base (CXF P w) (k+1) f fd pn (spU K PR):=by
 refine F.okF S (λvs H Q E h=>?_) λPp A outer s H vs Q E hr h=>?_
 ·obtain⟨us,O,o,_,r,QL,_⟩:=h;rw[r.len];exact len us o QL
 ·obtain⟨us,O,o,d,r,QL,q⟩:=h;refine⟨_,Qk Pp A outer s H E O us o hr QL,⟨λps σ H' O' R e=>?_,λ_ _ _ _ _ e=>e.elim,λ_ _ _ _ _ e=>e.elim,λo' e=>by subst e;exact q⟩,O,?_⟩
  ·subst e;exact q .non H' R.same .non
  ·refine⟨.refl H,λa h=>h,λa h=>.inl h,d,?_,λi sl e=>?_,λi j xs ys a e1 e2 _ _=>?_⟩
   ·unfold start gg;rw[FJ,FJ,EH,EH,HL,HL,r.len]
   ·unfold gg at e;by_cases hi:i<us.length
    ·rw[Fb (by simpa using hi),ES,EG hi]at e
     cases e;obtain⟨v,h1,h2⟩:=r.get (EG hi);refine⟨v,?_,h2⟩;unfold start;rw[Fb (by simpa [r.len] using hi),ES,h1];rfl
    ·rw[Fd (by simpa using hi),Hs]at e
     split at e <;>cases e
   ·exfalso
    unfold gg at e1;by_cases hi:i<us.length
    ·rw[Fb (by simpa using hi),ES,EG hi]at e1
     cases e1
    ·rw[Fd (by simpa using hi),Hs]at e1
     split at e1 <;>cases e1
end
section
variable {X:Cx}{ps:PSt}{a b c e:Expr}{rest:List Expr}{p p2:Pos}{x y:U}{i j:Int}{k m:Bool}{lo hi:Option Expr}{l h:Option Int}
def EvO(X:Cx)(H0:Hp)(O0:List EX)(ps:PSt)(e:Option Expr)(n:Option Int):Prop:=PO X e λσ H Q=>∃O,Rs X.K H0 O0 ps σ H O/\∀H',aK H H'->Q n H'
theorem fK:EvO X H0 O0 ps none none:=λpins s σ H Q I ⟨O,R,q⟩=>At pins s σ H Q I (q H (.refl H))
theorem fM(he:Ev X H0 O0 ps e (.int i)):EvO X H0 O0 ps (some e) (some i):=λpins s σ H Q I ⟨O,R,q⟩=>Ao he pins s σ H Q I ⟨O,R,λv H' s r=>by cases r;exact⟨i,rfl,q H' s⟩⟩
def g6(xs:List U)(lo hi:Option Int):List U:=(xs.drop (HT.sIx xs.length 0 lo)).take (HT.sIx xs.length xs.length hi-HT.sIx xs.length 0 lo)
theorem Rps.drop{K:EI}{H:Hp}{vs:List V}{xs:List U}(r:Rps K H vs xs)(n:Nat):Rps K H (vs.drop n) (xs.drop n):=⟨by simp[r.len],λi v x h1 h2=>r.at_ _ v x (by rwa [HM]at h1) (by rwa [HM]at h2)⟩
theorem Rps.take{K:EI}{H:Hp}{vs:List V}{xs:List U}(r:Rps K H vs xs)(n:Nat):Rps K H (vs.take n) (xs.take n):=⟨by simp[r.len],λi v x h1 h2=>by
 by_cases hn:i<n
 ·rw[GU hn]at h1 h2;exact r.at_ i v x h1 h2
 ·rw[List.getElem?_take_eq_none (by lia)]at h1
  cases h1⟩
theorem Rps.cut{K:EI}{H:Hp}{vs:List V}{xs:List U}(r:Rps K H vs xs):Rps K H (vh vs l h) (g6 xs l h):=by
 unfold vh g6;rw[r.len];exact (r.drop _).take _
theorem dU(he:Ev X H0 O0 ps e x)(hl:EvO X H0 O0 ps lo l)(hh:EvO X H0 O0 ps hi h)(hx:x=.lst xs\/x=.scr xs):EvN X H0 O0 ps (.Subscript e (.Slice lo hi none p2) pos) (g6 xs l h):=
 PE.mono (wu y_ he hl hh) λσ H Q ⟨O,R,q⟩=>⟨O,R,λv H1 s1 r1=>⟨O,R.go s1,λH2 s2=>⟨O,R.go (s1.trans s2),λH3 s3=>by
  have key:∃a vs,v=.ref a/\SqL X.K (hid H1 O) a vs/\Rps X.K (hid H1 O) vs xs:=by
   rcases hx with rfl |rfl
   ·cases r1 with
    |lst hq hl hh=>exact⟨_,_,rfl,SqL.of hq,hl,hh⟩
   ·cases r1 with
    |scr hq hl hh=>exact⟨_,_,rfl,hq,hl,hh⟩
  obtain⟨a,vs,rfl,hq,rs⟩:=key;have s13:=s2.trans s3;refine⟨a,vs,rfl,s13.seq (aC.seq hq),λp hp=>q p _ _ ((s1.trans s13).trans (aN hp _)) ((s1.trans s13).free hp) aL ?_⟩
  exact (rs.cut.same (aM s13)).same (bD (aN hp _) hp)⟩⟩⟩
theorem pB(ha:Ev X H0 O0 ps a (.lst xs))(hb:Ev X H0 O0 ps b (.lst ys))(hz:xs.length+ys.length<=sizeLine):EvN X H0 O0 ps (.BinOp a .Add b pos) (xs++ys):=
 PE.mono (yf BE ha hb) λσ H Q ⟨O,R,q⟩=>two R (λ_ _ _ z=>z) (λ_ _ _ z=>z) λv w H' s _ r1 r2=>by
  cases r1 with
  |lst hq hl hh=>
   cases r2 with
   |lst PN PH hh'=>
    refine⟨_,_,_,_,rfl,rfl,aC _ _ hq,aC _ _ PN,by rw[hl,PH];exact hz,λp hp=>q p _ _ (s.trans (aN hp _)) (s.free hp) aL ?_⟩
    exact (Rps.snoc ⟨hl,hh⟩ ⟨PH,hh'⟩).same (bD (aN hp _) hp)
def fl:U->V
 | .bl b=>.bl b | .int i=>.int i | .str x=>.str x |_=>.non
def vZ:U->Bool
 | .bl _=>true | .int _=>true | .str _=>true | .non=>true |_=>false
theorem Bn{K:EI}{H:Hp}{v:V}{u:U}(h:Rp K H v u)(f:vZ u=true):v=fl u/\gR v=true:=by
 cases h <;>first |exact⟨rfl,rfl⟩ |simp[vZ]at f
theorem xN{K:EI}{H:Hp}:∀{vs:List V}{xs:List U},Rps K H vs xs->xs.all vZ=true->vs=xs.map fl/\vs.all gR=true
 |vs,[],r,_=>by rw[r.nil_inv];exact⟨rfl,rfl⟩
 |vs,x::xs,r,f=>by
  obtain⟨v,ws,rfl,h1,h2⟩:=r.cons_inv;simp only[J4,Gn]at f;obtain⟨e1,e2⟩:=Bn h1 f.1;obtain⟨e3,e4⟩:=xN h2 f.2;refine⟨by rw[E2,<-e1,<-e3],?_⟩
  simp only[J4,Gn];exact⟨e2,e4⟩
theorem DY(hx:vZ x=true)(hy:y.items=some ys)(hf:ys.all vZ=true):OpS X (F_ .In) x y (.bl (inV (fl x) (ys.map fl))):=by
 intro pins s σ H v w p q Q I r1 r2 h;obtain⟨k1,k2,k3⟩:=h;obtain⟨a,vs,rfl,h1,h2⟩:=ou k2 hy;obtain⟨e1,e2⟩:=Bn k1 hx;obtain⟨e3,e4⟩:=xN h2 hf;exact uq pins s σ H v _ p q Q I r1 r2 ⟨a,vs,rfl,h1,e2,e4,by rw[e1,e3];exact k3⟩
theorem DJ{bs:List Bool}(hc:X.calm=true):eT X (.builtin "all") [.lst (bs.map U.bl)] (.bl (bs.all id)):=by
 intro pins s σ H vs us Q I r hq;obtain⟨O,d,rs,q⟩:=hq;obtain⟨v,rfl,h1⟩:=cC rs;obtain⟨p1,rfl,r1⟩:=ft r;cases h1 with
 | @lst a ws _ hq hl hh=>
  cases r1;obtain⟨Pj,rv,pl,_⟩:=I.list (SqL.of (aC _ _ hq));have Pm:Pj.length=bs.length:=by rw[<-rv.length,hl,EH]
  have QR:∀(i:Nat) (z:EN),Pj.toArray[i]?=some z->z=.bool (bs.getD i false):=λi z e=>by
   have hi:i<Pj.length:=by have:=aF (show Pj[i]?=some z by simpa using e);exact this
   have hb:i<bs.length:=by lia
   have hw:i<ws.length:=by rw[rv.length];exact hi
   obtain⟨u,e1,e2⟩:=rv.get (EG hw);have e3:=hh i ws[i] (.bl bs[i]) (EG hw) (by rw[ES,EG hb];rfl)
   have e4:Pj[i]?=some z:=by simpa using e
   rw[e4]at e1;cases e1;generalize ws[i]=wi at *;cases e3;rw[Fe,EG hb];exact e2
  refine call_all_walk (G_ pl.isList ?_);have Pn:a≠s.heap.objs.size:=by obtain⟨o,e,_⟩:=pl.isList;exact Ft (EY e)
  refine⟨s.heap.objs.size,_,_,_,_,_,λi=>bs.getD i false,rfl,Walks.list (A:=X.A.in1) (I.ok.hd hc) s.heap.objs.size a Pn Pj.toArray,⟨⟨_,E3 _ rfl,rfl,rfl⟩,pl.isList.push _⟩,λi z s' Q' E' hP hQ=>?_,λh' tk hk=>?_⟩
  ·rw[QR i z hP];exact GT hQ
  ·have e:(Fz Pj.toArray.size).all (λi=>bs.getD i false)=bs.all id:=by
    rw[E4,Pm,Hf,lE,Ij];constructor
    ·intro h x hx;obtain⟨i,hi,rfl⟩:=J9 hx;have:=h i hi
     rwa [Fe,EG hi]at this
    ·intro h j hj;rw[Fe,EG hj];exact h _ (JY hj)
   rw[e];refine⟨.bl _,H,I.kept (t':=tk) λb o e=>hk b o ?_ (EK _ e),rfl,q _ H (.refl H) (.bl _)⟩
   intro z;have:b=s.heap.objs.size:=by simpa using z
   exact absurd (EY e) (by rw[this];exact FA _)
end
def vx(J:It)(is:List Nat)(g:TG)(tt:TT)(te:TE)(σ:St)(H1:Hp)(l:EX)(Q:VK):Prop:=
 ∃W:Nat->Nat->Hp->Prop,(∃m,W 0 m (upd H1 l (.lst [])))/\∀i m H2,W i m H2->
  (J.stop i H2/\Q (.ref l) H2)\/(J.go i H2/\∀x H3,J.yld i H2 x H3->g x (mask is σ) H3 λRb H4=>tt Rb H4 λb H5=>
   (∀(j:Nat) (v:V),(mask is σ)[j]?=some (some v)->Rb[j]?=some (some v))/\
   if b=true then te Rb H5 λy H6=>∃vs,H6 l=some (.lst vs)/\vs.length<sizeLine/\∃m',m'<m/\W (i+1) m' (upd H6 l (.lst (vs++[y]))) else ∃m',m'<m/\W (i+1) m' H5)
def vK(is:List Nat)(g:TG)(tt:TT)(te:TE)(σ:St)(Q:VK)(J:It)(H1:Hp):Prop:=∀l,H1 l=none->vx J is g tt te σ H1 l Q
def yT(is:List Nat)(wi:TI)(g:TG)(tt:TT)(te:TE):TE:=λσ H Q=>wi σ H (vK is g tt te σ Q)
section
variable {X:Cx}{σ:St}{s:EL}
theorem uR{P5 iter tg:Expr}{Ph:Js}{cl:List (Str×EX)}{pos pos0:Pos}{is:List Nat}{wi:TI}{g:TG}{tt:TT}{te:TE}{cond:Expr}{use:Option (EN->Sem Unit)}{Q0:VK}{Q:EN->EL->Prop}(hc:X.calm=true)(B:cS X Ph cl is)
  (hi:PI X tg iter wi) (hg:∀C s H fp,PG (aE X Ph cl C s H fp) tg g) (ht:∀C s H fp,PT (aE X Ph cl C s H fp) cond tt) (he:∀C s H fp,PE (aE X Ph cl C s H fp) P5 te) (hs:∀x,Gf iter X.env x=pure x)
  (I:Inv X pins σ H s) (h:yT is wi g tt te σ H Q0)
  (PF:∀(l C:EX) (H':Hp) (s':EL) (m:Str->Option EN),Inv X pins σ H' s'->s'.heap.Ns C m->H' C=none->C≠X.env.locals->C ∉ X.fs->X.s₀.heap.objs.size<=C->(∀x c,X.env.cells.lookup x=some c->c≠C)->(∀p∈X.pn++pins,p.1≠C)->Q0 (.ref l) H'->
   Oz (FE X.prog X.w) X.A X.xe use Q (.ref l) C (.ok .next) s'):
  Ff (FE X.prog X.w) X.A (Mz (.ListComp P5 [⟨tg,iter,[cond],0⟩] Ph pos) Ph X.env pos0 (newList []) false (HY iter X.env) use) Q X.xe s:=by
 refine KG rfl hs B.clos B.kind B.names (thn (hi pins s σ H _ I h) λxv s1 h1=>thn h1 λitv s2 h2=>?_)
 obtain⟨it,fp,tn,J,H2,e,I2,T,st2,f2,R⟩:=h2;subst e;refine G9 (Ma B.cell (by intro y hy;simp at hy) (λh₁ hns QQ=>?_) B.kind)
 have hl:H2 s2.heap.objs.size=none:=I2.hok.fresh (EU _);obtain⟨W,⟨m0,w0⟩,turn⟩:=R s2.heap.objs.size hl
 have I3:Inv X pins σ (upd H2 s2.heap.objs.size (.lst [])) {s2 with heap:=s2.heap.push {cls:=.type "list",dict:=none,data:=.seq ([]:List EN).toArray } }:=
  I2.laid (t':=s2.toks) (o:=.lst []) (λb u e=>EK _ e) (EU _) ⟨FU _,[],0,.nil,E3 _ rfl⟩
 have hfl:∀b∈fp,b<s2.heap.objs.size:=λb hb=>let ⟨o,e,_⟩:=T.obj 0 _ st2 b hb;EY e
 have f3:∀b∈fp,iK X pins (upd H2 s2.heap.objs.size (.lst [])) b:=λb hb=>⟨by rw[aT (Ft (hfl b hb))];exact (f2 b hb).1,(f2 b hb).2⟩
 have kp:∀b o,(s2.heap.push {cls:=.type "list",dict:=none,data:=.seq ([]:List EN).toArray }).get? b=some o→h₁.get? b=some o:=λb o e=>
  QQ.extBut b o (Ft (EY e)) (EK _ e)
 have st4:tn 0 h₁:=T.keep 0 _ _ st2 λb _ o e=>kp b o (EK _ e)
 have hfl3:∀b∈fp,b<(s2.heap.push {cls:=.type "list",dict:=none,data:=.seq ([]:List EN).toArray }).objs.size:=λb hb=>by
  rw[GM];exact GV (hfl b hb)
 have I4:=i0 (t':=s2.toks+([]:List (Str×EN)).length) I3 B f3 hfl3 hns kp
 have loop:Ip (FE X.prog X.w) X.A (.compLoop (.ListComp P5 [⟨tg,iter,[cond],0⟩] Ph pos) 0 (.ref it) (.ref s2.heap.objs.size) (L_ Ph cl (s2.heap.push {cls:=.type "list",dict:=none,data:=.seq ([]:List EN).toArray }).objs.size X.env))
   (Oz (FE X.prog X.w) X.A X.xe use Q (.ref s2.heap.objs.size) (s2.heap.push {cls:=.type "list",dict:=none,data:=.seq ([]:List EN).toArray }).objs.size)
   {s2 with heap:=h₁,toks:=s2.toks+([]:List (Str×EN)).length }:=by
  generalize hs3:({s2 with heap:=s2.heap.push {cls:=.type "list",dict:=none,data:=.seq ([]:List EN).toArray } }:EL)=s3 at *
  have hC:(s2.heap.push {cls:=.type "list",dict:=none,data:=.seq ([]:List EN).toArray }).objs.size=s3.heap.objs.size:=by rw[←hs3]
  rw[hC]
  have QD:∀{H':Hp},(∀b∈fp,H' b=none)->∀b∈fp,iK (aE X Ph cl s3.heap.objs.size s3 (upd H2 s2.heap.objs.size (.lst [])) fp) [] H' b:=λhn b hb=>
   ⟨hn b hb,(I4.ok.exf b hb).1,I4.ok.exfs b hb,.inl hb,λx c e=>(I4.ok.exf b hb).2 x c e,λp hp=>absurd (show p∈([]:List (EX×Obj)) from hp) (by simp)⟩
  have back:∀{Pz:St}{H':Hp}{pp:List (EX×Obj)}{s':EL},Inv (aE X Ph cl s3.heap.objs.size s3 (upd H2 s2.heap.objs.size (.lst [])) fp) pp Pz H' s'->Inv X pins σ H' s':=λI'=>
   I3.call' (ch:=fp) I'.os I'.base I'.hok I'.bare λb hb=>⟨(f3 b hb).2.2.2.1,(f3 b hb).2.1,(f3 b hb).2.2.2.2.1,(f3 b hb).2.2.2.2.2⟩
  refine codeAny_loop rfl (λn s'=>∃i H',Inv (aE X Ph cl s3.heap.objs.size s3 (upd H2 s2.heap.objs.size (.lst [])) fp) [] (mask is σ) H' s'/\tn i s'.heap/\(∀b∈fp,H' b=none)/\W i n H') ?_ m0 ⟨0,_,(by subst hs3;exact I4),st4,λb hb=>(f3 b hb).1,w0⟩
  rintro n s5 ⟨i,H5,I5,RN,fr5,w5⟩;show Ff _ _ ((compTurn (.ListComp P5 [⟨tg,iter,[cond],0⟩] Ph pos) 0 (.ref it) (.ref s2.heap.objs.size) (L_ Ph cl s3.heap.objs.size X.env)).onRaise (λx=>do noteFrame x (L_ Ph cl s3.heap.objs.size X.env);Nx x)) _ _ s5
  refine wpAny_noted ?_;rw[compTurn_list];refine EF (K3 (EF ?_));rcases turn i n H5 w5 with ⟨stop,q⟩ |⟨go,step⟩
  ·refine thn (T.done (aE X Ph cl s3.heap.objs.size s3 (upd H2 s2.heap.objs.size (.lst [])) fp) rfl rfl rfl hc i [] s5 _ H5 _ I5 (QD fr5) RN stop) λr s6 ⟨hr,I6⟩=>?_
   subst hr;refine EM ?_;obtain⟨m6,hn6,_⟩:=I6.loc;have hCn:∀b,b<s3.heap.objs.size->b≠s3.heap.objs.size:=λb hb=>Ft hb
   refine PF _ s3.heap.objs.size H5 s6 m6 (back I6) hn6 I6.free (Io I3.lt) (I3.nofs (EU _)) I3.sz (λx c e=>?_) (λp hp=>?_) q
   ·obtain⟨v,z⟩:=I3.cell x c e;exact Ft z.lt
   ·exact Ft (EY (I3.pin p hp).1)
  ·refine thn (T.item (aE X Ph cl s3.heap.objs.size s3 (upd H2 s2.heap.objs.size (.lst [])) fp) rfl rfl rfl hc i [] s5 _ H5 _ I5 (QD fr5) RN go) λr s6 ⟨u,hr,h6⟩=>?_
   subst hr;refine EF (thn h6 λ_ s7 ⟨x,H7,I7,r7,y7,st7,fr7⟩=>?_)
   have I7':=I7.pinned (QD fr7) (T.obj _ _ st7);refine EF (HJ (hg _ _ _ _ _ s7 (mask is σ) H7 x u _ I7' r7 (step x H7 y7)) (λ_ s8 ⟨σ8,H8,I8,q8⟩=>?_) λ_ _ z=>z.elim)
   refine EF (wpAny_tests_one (HJ (ht _ _ _ _ _ s8 σ8 H8 _ I8 q8) (λbb s9 ⟨H9,I9,sub,q9⟩=>?_) λ_ _ z=>z.elim))
   have fpn:∀{H':Hp}{s':EL}{Pz:St},Inv (aE X Ph cl s3.heap.objs.size s3 (upd H2 s2.heap.objs.size (.lst [])) fp) ([]++jO fp s7.heap) Pz H' s'->tn (i+1) s'.heap/\∀b∈fp,H' b=none:=λ{H' s' Pz} J=>⟨T.keep _ _ _ st7 λb hb o e=>(J.pin (b,o) (E_ _ (E_ _ (dm hb e)))).1,λb hb=>by
    obtain⟨o,e,d⟩:=T.obj _ _ st7 b hb;exact (J.pin (b,o) (E_ _ (E_ _ (dm hb e)))).2.1⟩
   cases bb with
   |true=>
    rw[if_pos rfl]at q9;simp only[if_true];refine EF (EF (HJ (he _ _ _ _ _ s9 σ8 H9 _ I9 q9) (λv s10 ⟨y,H10,I10,r10,vs,hl10,hz,m',hm,w'⟩=>?_) λ_ _ z=>z.elim))
    refine EF (HJ (iT (X:=aE X Ph cl s3.heap.objs.size s3 (upd H2 s2.heap.objs.size (.lst [])) fp) _ s10 σ8 H10 (.ref s2.heap.objs.size) [y] (.ref s2.heap.objs.size) [v] (λ_ H'=>H'=upd H10 s2.heap.objs.size (.lst (vs++[y]))) I10 rfl (.cons r10 .nil) ⟨_,vs,y,rfl,rfl,hl10,hz,rfl⟩) (λz s11 ⟨zv,H11,I11,_,e11⟩=>?_) λ_ _ z=>z.elim)
    subst e11;obtain⟨k1,k2⟩:=fpn I11;exact EM (EM ⟨rfl,m',hm,i+1,_,(I11.unpinned (pins:=[])).weak (by rw[I11.len,fj,I.len]) sub,k1,k2,w'⟩)
   |false=>
    rw[if_neg (by decide)]at q9
    simp only[E7,if_false];obtain⟨m',hm,w'⟩:=q9;obtain⟨k1,k2⟩:=fpn I9
    first
     |exact EM ⟨rfl,m',hm,i+1,_,(I9.unpinned (pins:=[])).weak (by rw[I9.len,fj,I.len]) sub,k1,k2,w'⟩
     |exact EF (EM (EM ⟨rfl,m',hm,i+1,_,(I9.unpinned (pins:=[])).weak (by rw[I9.len,fj,I.len]) sub,k1,k2,w'⟩))
 exact Ly loop (T.self X.A 0 _ _ _ st4 loop)
theorem w6{P5 iter tg:Expr}{Ph:Js}{cl:List (Str×EX)}{pos:Pos}{is:List Nat}{wi:TI}{g:TG}{tt:TT}{te:TE}{cond:Expr}(hc:X.calm=true)(B:cS X Ph cl is)
  (hi:PI X tg iter wi) (hg:∀C s H fp,PG (aE X Ph cl C s H fp) tg g) (ht:∀C s H fp,PT (aE X Ph cl C s H fp) cond tt) (he:∀C s H fp,PE (aE X Ph cl C s H fp) P5 te) (hs:∀x,Gf iter X.env x=pure x:=by intro _;rfl):
  PE X (.ListComp P5 [⟨tg,iter,[cond],0⟩] Ph pos) (yT is wi g tt te):=by
 intro pins s σ H Q I h;rw[eval_ListComp];refine uR (use:=none) hc B hi hg ht he hs I h λl C H' s' m I' hn h1 h2 h3 h4 h5 h6 q=>⟨m,hn,λh' QQ=>?_⟩
 exact⟨.ref l,H',I'.turned (t':=s'.toks) (λb o hb e=>QQ.extBut b o hb e) h1 (Ne.symm h2.symm) (.inr h4) h5 h6,rfl,q⟩
variable {ps:PSt}{cond:Expr}{p:Pos}{fs:List (Option U)}
theorem qe{is:List Nat}{g:TG}{f:PSt->U->PSt}{dom:U->Prop}{σ:St}{H1:Hp}{O:List EX}{Q:VK}{J:It}{tt:TT}{te:TE}(hg:GOk g X.K is f dom)(R1:Rs X.K H0 O0 ps σ H1 O)(Y:Yl X.K J (hid H1 O) xs)(Pm:fs.length=xs.length)(hz:xs.length<=sizeLine)(Qt:∀x∈xs,dom x)
  (htt:∀(i:Nat) (x:U) (o:Option U) (σ:St) (H:Hp) (O':List EX) (Q:Bool->Hp->Prop),xs[i]?=some x->fs[i]?=some o->Rs X.K H0 O0 (f (dP is ps) x) σ H O'->(∀H',aK H H'->Q o.isSome H')->tt σ H Q)
  (Rg:∀(i:Nat) (x y:U) (σ:St) (H:Hp) (O':List EX) (Q:VK),xs[i]?=some x->fs[i]?=some (some y)->Rs X.K H0 O0 (f (dP is ps) x) σ H O'->(∀v H',aK H H'->Rp X.K (hid H' O') v y->Q v H')->te σ H Q)
  (PF:∀a vs H',aK H1 H'->H1 a=none->H' a=some (.lst vs)->Rps X.K (hid H' (a::O)) vs (fs.filterMap id)->Q (.ref a) H'):vK is g tt te σ Q J H1:=by
 intro l hl;refine⟨λi m H2=>m=xs.length-i/\i<=xs.length/\aK H1 H2/\∃vs,H2 l=some (.lst vs)/\vs.length<=i/\Rps X.K (hid H2 (l::O)) vs ((fs.take i).filterMap id),⟨_,rfl,FU _,aN hl _,[],aL,EU _,by rw[Ku];exact .nil⟩,?_⟩
 rintro i m H2 ⟨rfl,hi,s2,vs,h2,hv,rs⟩;have seen:aK (hid H1 O) (hid H2 (l::O)):=bD s2 hl;obtain⟨y1,y2⟩:=Y H2 (seen.trans aC);by_cases Pq:i<xs.length
 ·obtain⟨g1,g2⟩:=y1 i Pq;refine .inr ⟨g1,λx H3 y=>?_⟩
  obtain⟨rfl,u,hu,r⟩:=g2 x H3 y;have R2:=(R1.mask (is:=is)).hide s2 hl (by rw[h2];intro z;cases z)
  refine hg H0 O0 _ _ H3 (l::O) x u _ (Qt u (E5 hu)) R2 (r.same seen) λRb R4 keep=>?_
  obtain⟨o,ho⟩:∃o,fs[i]?=some o:=⟨_,EG (by lia)⟩
  refine htt i u o Rb H3 (l::O) _ hu ho R4 λH5 s5=>⟨λj w e=>keep j w (gr is σ j w e).2 e,?_⟩
  cases o with
  |none=>
   refine mH ⟨xs.length-(i+1),by lia,rfl,Pq,s2.trans s5,vs,s5 _ _ h2,by lia,?_⟩
   rw[He,ho,MC,LN];simpa using rs.same (aM s5)
  |some yv=>
   refine m_ (Rg i u yv Rb H5 (l::O) _ hu ho (R4.go s5) λv H6 s6 r6=>⟨vs,s6 _ _ (s5 _ _ h2),?_,xs.length-(i+1),by lia,rfl,Pq,((s2.trans s5).trans s6).put hl _,vs++[v],aL,by simp;lia,?_⟩)
   ·lia
   ·rw[jz ET,He,ho,MC,LN];exact ((rs.same (aM s5)).same (aM s6)).snoc (.cons r6 .nil)
 ·have e:i=xs.length:=by lia
  subst e;rw[<-Pm,G5]at rs;exact .inl ⟨y2,PF l vs H2 s2 hl h2 rs⟩
theorem jt{P5:Expr}{Ph:Js}{cl:List (Str×EX)}{is:List Nat}{g:TG}{f:PSt->U->PSt}{dom:U->Prop}(fs:List (Option U))(hc:X.calm=true)(B:cS X Ph cl is)(hi:EvI X H0 O0 ps tg iter xs)(hg:∀C s H fp,PG (aE X Ph cl C s H fp) tg g)(gk:GOk g X.K is f dom)
  (Pm:fs.length=xs.length) (hz:xs.length<=sizeLine) (Qt:∀x∈xs,dom x) (ht:∀C s H fp (i:Nat) (x:U) (o:Option U),xs[i]?=some x->fs[i]?=some o->Tt (aE X Ph cl C s H fp) H0 O0 (f (dP is ps) x) cond o.isSome)
  (he:∀C s H fp (i:Nat) (x y:U),xs[i]?=some x->fs[i]?=some (some y)->Ev (aE X Ph cl C s H fp) H0 O0 (f (dP is ps) x) P5 y)
  (hs:∀x,Gf iter X.env x=pure x:=by intro _;rfl):EvN X H0 O0 ps (.ListComp P5 [⟨tg,iter,[cond],0⟩] Ph pos) (fs.filterMap id):=by
 have Rg:∀C s H fp,PE (aE X Ph cl C s H fp) P5 λσ H Q=>∃i x y,xs[i]?=some x/\fs[i]?=some (some y)/\∃O',Rs X.K H0 O0 (f (dP is ps) x) σ H O'/\∀v H',aK H H'->Rp X.K (hid H' O') v y->Q v H':=
  λC s H fp pins s' σ H' Q I ⟨i,x,y,h1,h2,z⟩=>he C s H fp i x y h1 h2 pins s' σ H' Q I z
 have htt:∀C s H fp,PT (aE X Ph cl C s H fp) cond λσ H Q=>∃(i:Nat) (x:U) (o:Option U),xs[i]?=some x/\fs[i]?=some o/\∃O',Rs X.K H0 O0 (f (dP is ps) x) σ H O'/\∀H',aK H H'->Q o.isSome H':=
  λC s H fp pins s' σ H' Q I ⟨i,x,o,h1,h2,z⟩=>ht C s H fp i x o h1 h2 pins s' σ H' Q I z
 refine PE.mono (w6 hc B hi hg htt Rg hs) λσ H Q ⟨O,R,q⟩=>⟨O,R,λJ H1 s1 Y=>?_⟩
 exact qe gk (R.go s1) Y Pm hz Qt (λi x o σ H O' Q h1 h2 R' z=>⟨i,x,o,h1,h2,O',R',z⟩) (λi x y σ H O' Q h1 h2 R' z=>⟨i,x,y,h1,h2,O',R',z⟩) λa vs H' s n h r=>q a vs H' (s1.trans s) (s1.free n) h r
end
inductive B4:List (Option Expr)->List Expr->Prop where
 |nil:B4 [] []
 |cons {k v:Int}{a b:Nat}{p q:Pos}{ks:List (Option Expr)}{vs:List Expr} (h:B4 ks vs):B4 (some (.Constant (.int k) a p)::ks) (.Constant (.int v) b q::vs)
section
variable {X:Cx}{ps:PSt}{keys:List (Option Expr)}{values:List Expr}{k m:Bool}
end
theorem Ws.nox{X:Cx}{H0:Hp}{O0:List EX}{E:XK}{ss:List Hc}{D:PD}{ps:PSt}(h:Ws X.nox H0 O0 E ss D ps):Ws X H0 O0 E ss D ps:=PSs.nox h
theorem ba.calm{P:EW}{w:Fl}{K:EI}{mg:Str->Option EN}{base:GD}{k:Nat}{f:EX}{fd:F5}{ps:List Str}{sp:Sp}(F:ba P w K mg base (CXF P w) k f fd ps sp)(h:∀vs H Q E,sp vs H Q E->sp vs H Q E0):ba P w K mg base CX0 k f fd ps sp:=by
 refine⟨F.len,λA outer s H args us vs Q E hr he hb hv hs=>JP (F.run A outer s H args us vs Q E0 hr he hb hv (h _ _ _ _ hs)) λr s' q=>?_⟩
 cases r with
 |ok fl=>
  cases fl with
  |ret u=>exact q
  |next=>exact q
  |brk=>exact q
  |cont=>exact q
 |error e=>
  obtain⟨_,_,_,_,_,_,_,_,_,_,_,_,_,_,_,hE⟩:=q;exact hE.elim
def ic:List U->Out->Prop:=λus o=>∃ns:List Int,us=[.scr (ns.map U.int)]/\ns.length<=63/\(∀m∈ns,Sz 1048576 m)/\o=.val (.bl true)
theorem xC{K:EI}(vs:List V)(H:Hp)(Q:VK)(E:XK)(h:spU K ic vs H Q E):spU K ic vs H Q E0:=by
 obtain⟨us,O,o,d,r,⟨ns,h1,h2,h3,rfl⟩,q⟩:=h;exact⟨us,O,_,d,r,⟨ns,h1,h2,h3,rfl⟩,q⟩
theorem vG{K:EI}{H:Hp}{a:EX}{ns:List Int}{E:XK}(h1:ns.length<=63)(h2:∀m∈ns,Sz 1048576 m)(h3:SqL K H a (ns.map V.int)):spU K ic [.ref a] H (λv _=>v=.bl true) E:=by
 refine⟨[.scr (ns.map U.int)],[],.val (.bl true),λa ha=>(nomatch ha),.cons ?_ .nil,⟨ns,rfl,h1,h2,rfl⟩,λv H' s r=>by cases r;rfl⟩
 have e:hid H []=H:=by funext b;unfold hid;rw[if_neg (by simp)]
 rw[e];refine .scr h3 (by simp) λi v x e1 e2=>?_
 rw[ES]at e1 e2;cases q:ns[i]? with
 |none=>rw[q]at e1;cases e1
 |some n=>rw[q]at e1 e2;cases e1;cases e2;exact .int n
theorem eK{k:Nat}{A:Fm}(hr:eH k A):A.units+10<H_:=by have:=hr.un;lia
theorem wQ{ns:List Int}{k:Int}(h0:0<=k)(h:k<(ns.length:Int)):atI (ns.map U.int) k=some (.int (ns.getD k.toNat 0)):=by
 have hk:k.toNat<ns.length:=by lia
 have q:atI (ns.map U.int) ((k.toNat:Nat):Int)=some (.int (ns.getD k.toNat 0)):=sV (by rw[ES,Fe,EG hk] <;>rfl)
 rwa [show ((k.toNat:Nat):Int)=k by lia]at q
theorem zp{ns:List Int}(h:∀m∈ns,Sz 1048576 m)(i:Nat):Sz 1048576 (ns.getD i 0):=by
 by_cases hk:i<ns.length
 ·rw[Fe,EG hk,HK];exact h _ (JY hk)
 ·rw[Fe,Fy (by lia),Lk];exact Sz.mono (m:=8) (by decide) (by decide)
abbrev pt(x y:Int):U:=.tup [.int x,.int y]
theorem dTb{p:Prop}[Decidable p](h:decide p=true):p:=of_decide_eq_true h
theorem dFb{p:Prop}[Decidable p](h:decide p=false):¬ p:=of_decide_eq_false h
theorem nTb{p:Prop}[Decidable p](h:(!decide p)=true):¬ p:=by simpa using h
theorem nFb{p:Prop}[Decidable p](h:(!decide p)=false):p:=by simpa using h
theorem vB{a b:Bool}(h:a=b):Out.val (.bl a)=Out.val (.bl b):=by rw[h]
theorem vIO{a b:Int}(h:a=b):Out.val (.int a)=Out.val (.int b):=by rw[h]
mutual
theorem gj:∀(n:Nat) (u:U),okU n u=true->eqW u u=true
 |_,.non,_=>rfl
 |_,.bl b,_=>by simp[eqW]
 |_,.int b,_=>by simp[eqW]
 |_,.str b,_=>by simp[eqW]
 |_,.ty _,h=>by simp[okU]at h
 |_,.dic,h=>by simp[okU]at h
 |0,.tup _,h=>by simp[okU]at h
 |0,.lst _,h=>by simp[okU]at h
 |0,.scr _,h=>by simp[okU]at h
 |n+1,.tup xs,h=>by rw[eqW];rw[okU]at h;exact eqWs_refl n xs h
 |n+1,.lst xs,h=>by rw[eqW];rw[okU]at h;exact eqWs_refl n xs h
 |n+1,.scr xs,h=>by rw[eqW];rw[okU]at h;exact eqWs_refl n xs h
theorem eqWs_refl:∀(n:Nat) (xs:List U),okUs n xs=true->eqWs xs xs=true
 |_,[],_=>rfl
 |n,x::xs,h=>by
  simp only[okUs,Gn]at h;simp only[eqWs,Gn];exact⟨gj n x h.1,eqWs_refl n xs h.2⟩
end
theorem xS{α:Type}{n:Nat}{f:α->U}{l:List α}(h:∀a∈l,okU n (f a)=true):okUs n (l.map f)=true:=by
 induction l with
 |nil=>rfl
 |cons a l ih=>
  rw[E2,okUs,Gn];exact⟨h a ET,ih λb hb=>h b (EJ _ hb)⟩
theorem oI{α:Type}{n:Nat}{f:α->U}{l:List α}(h:∀a,okU n (f a)=true):okU (n+1) (.lst (l.map f))=true:=by rw[okU];exact xS λa _=>h a
section
variable {X:Cx}{ps:PSt}{a b c e:Expr}{rest:List Expr}{k:Bool}
theorem df{tb fb:List Hc}(hc:Tt X H0 O0 ps c k)(hk:k=true)(h:Ws X H0 O0 E tb D ps):W1 X H0 O0 E (.If c tb fb pos) D ps:=jJ hc (λ_=>h) (λe=>by rw[hk]at e;cases e)
theorem bv{tb fb:List Hc}(hc:Tt X H0 O0 ps c k)(hk:k=false)(h:Ws X H0 O0 E fb D ps):W1 X H0 O0 E (.If c tb fb pos) D ps:=jJ hc (λe=>by rw[hk]at e;cases e) (λ_=>h)
theorem iI(ha:Tt X H0 O0 ps a k)(hk:k=false):Tw X H0 O0 ps (.BoolOp .And (a::b::rest) pos) false:=by
 subst hk;exact rX (m:=true) ha λh=>by cases h
theorem AW(ha:Ev X H0 O0 ps a (.bl k))(hk:k=true):Ev X H0 O0 ps (.BoolOp .Or (a::b::rest) pos) (.bl true):=by
 subst hk;exact DP (m:=true) ha λh=>by cases h
end
section
variable {X:Cx}{ps:PSt}{c:Expr}{α:Type}
theorem TgS.sub{p p':PSt}{u:U}{P6:PSt}(h:TgS X H0 O0 tg p u P6)(hs:SubP p p'):TgS X H0 O0 tg p' u P6:=PG.mono h λv σ H Q ⟨O,R,r,q⟩=>⟨O,R.sub hs,r,q⟩
theorem Tt.sub{p p':PSt}{e:Expr}{k:Bool}(h:Tt X H0 O0 p e k)(hs:SubP p p'):Tt X H0 O0 p' e k:=PT.mono h λσ H Q ⟨O,R,q⟩=>⟨O,R.sub hs,q⟩
theorem dJ(st:α->PSt)(Q:Nat->α->Prop)(hc:X.calm=true)(hp:LG (FE X.prog X.w) X.A X.env X.xe)(hi:EvI X H0 O0 ps tg iter xs)(h0:∃a,Q 0 a/\SubP (st a) ps)
  (hs:∀(H0:Hp) (i:Nat) (x:U) (a:α),xs[i]?=some x->Q i a->∃P6,TgS X H0 O0 tg (st a) x P6/\Ws X H0 O0 E PV {D with nx:=λp=>∃b,Q (i+1) b/\SubP (st b) p,ct:=λp=>∃b,Q (i+1) b/\SubP (st b) p,bk:=D.nx } P6)
  (hd:∀a ps,Q xs.length a->SubP (st a) ps->D.nx ps) (hf:∀x,Gf iter X.env x=pure x:=by intro _;rfl):W1 X H0 O0 E (.For tg iter PV [] pos) D ps:=
 C9 hc hp hi (λi ps=>∃a,Q i a/\SubP (st a) ps) h0 (λH0 i x ps hx ⟨a,q,sb⟩=>by
  obtain⟨P6,t,w⟩:=hs H0 i x a hx q;exact⟨P6,t.sub sb,w⟩) (λps ⟨a,q,sb⟩=>hd a ps q sb) hf
theorem gh(st:α->PSt)(Q:Nat->α->Prop)(hp:LG (FE X.prog X.w) X.A X.env X.xe)(h0:∃m a,Q m a/\SubP (st a) ps)
  (hs:∀m a,Q m a->∃b,Tt X H0 O0 (st a) c b/\(b=true->Ws X H0 O0 E PV {D with nx:=λp=>∃m' a',m'<m/\Q m' a'/\SubP (st a') p,ct:=λp=>∃m' a',m'<m/\Q m' a'/\SubP (st a') p,bk:=D.nx } (st a))/\(b=false->∀ps,SubP (st a) ps->D.nx ps)):W1 X H0 O0 E (.While c PV [] pos) D ps:=by
 obtain⟨m,a,q,sb⟩:=h0;refine Ay hp (λm ps=>∃a,Q m a/\SubP (st a) ps) m ⟨a,q,sb⟩ λm ps ⟨a,q,sb⟩=>?_
 obtain⟨b,t,h1,h2⟩:=hs m a q;refine⟨b,t.sub sb,λe=>?_,λe=>h2 e ps sb⟩
 refine c7 (PSs.mono (h1 e) λD' σ H ⟨L,O,R⟩=>⟨⟨λp σ H O R ⟨m',a',l,q',sb'⟩=>L.nx p σ H O R ⟨m',l,a',q',sb'⟩,L.bk,λp σ H O R ⟨m',a',l,q',sb'⟩=>L.ct p σ H O R ⟨m',l,a',q',sb'⟩,L.rt⟩,O,R⟩) sb
end
abbrev P2:=Int×Int
abbrev pu(p:P2):U:=.tup [.int p.1,.int p.2]
abbrev lp(l:List P2):U:=.lst (l.map pu)
theorem BQ(p q:P2):eqW (pu p) (pu q)=decide (p=q):=by
 obtain⟨a,b⟩:=p;obtain⟨c,d⟩:=q;simp only[pu,eqW,eqWs,MA];rw[Hf];simp
theorem xO(l:List P2):okU 9 (lp l)=true:=oI λ_=>rfl
theorem kJ{l:List P2}{i:Nat}{x:U}(h:(l.map pu)[i]?=some x):∃p,l[i]?=some p/\p∈l/\x=pu p:=by
 rw[ES]at h;cases q:l[i]? with
 |none=>rw[q]at h;cases h
 |some p=>rw[q]at h;cases h;exact⟨p,rfl,E5 q,rfl⟩
theorem cH{α:Type}{l:List α}{f:α->U}{g:α->U}{i:Nat}{x y:U}(hx:(l.map f)[i]?=some x)(hy:(l.map g)[i]?=some y):∃a,l[i]?=some a/\a∈l/\x=f a/\y=g a:=by
 rw[ES]at hx hy;cases q:l[i]? with
 |none=>rw[q]at hx;cases hx
 |some p=>rw[q]at hx hy;cases hx;cases hy;exact⟨p,rfl,E5 q,rfl,rfl⟩
theorem W1.mono{X:Cx}{H0:Hp}{O0:List EX}{E:XK}{s:Hc}{D:PD}{J:PSt->Prop}{ps:PSt}(h:W1 X H0 O0 E s {D with nx:=J } ps)(m:∀ps,J ps->D.nx ps):W1 X H0 O0 E s D ps:=
 PS.mono h λD' σ H ⟨L,O,R⟩=>⟨⟨λp σ H O R q=>L.nx p σ H O R (m p q),L.bk,L.ct,L.rt⟩,O,R⟩
theorem iP{X:Cx}{H0:Hp}{O0:List EX}{E:XK}{s:Hc}{ss:List Hc}{D:PD}{ps:PSt}(J:PSt->Prop)(h1:W1 X H0 O0 E s {D with nx:=J } ps)(h2:∀ps,J ps->Ws X H0 O0 E ss D ps):Ws X H0 O0 E (s::ss) D ps:=
 af (W1.mono (J:=J) (D:={D with nx:=λp=>Ws X H0 O0 E ss D p }) h1 h2)
end L2
namespace PySem.W
open PySem PySem.Spec PySem.Calls PyProof.Rows
end PySem.W
namespace L2
open PySem PySem.Spec PySem.W PyProof.Rows
section
variable {X:Cx}{pins:List (EX×Obj)}{σ:St}{H:Hp}{s:EL}
def n9.drop(D:n9)(i:Nat):n9:=⟨λσ H=>D.nx (σ.set i none) H,D.rt,λσ H=>D.bk (σ.set i none) H,λσ H=>D.ct (σ.set i none) H⟩
variable {H0:Hp}{O0:List EX}{E:XK}{ps:PSt}{D:PD}{a e:Expr}{es:List Expr}{us:List U}{k:Bool}{n:Nat}{fd:F5}{pn:List Str}{PR:List U→Out→Prop}
def PD.drop(D:PD)(i:Nat):PD:=⟨λp=>D.nx (p.set i none),D.rt,λp=>D.bk (p.set i none),λp=>D.ct (p.set i none)⟩
variable {pos:Pos}
end
end L2
namespace L2
open PySem
theorem bC{c:Const}{j:Nat}{pos:Pos}{es:List Expr}{env:Env}:EZ (.Constant c j pos::es) env=(false,HY (.Constant c j pos) env)::EZ es env:=by rw[EZ];intro e p h;cases h
theorem dL{l:List Expr}{j:Nat}{pos:Pos}{es:List Expr}{env:Env}:EZ (.Tuple l j pos::es) env=(false,HY (.Tuple l j pos) env)::EZ es env:=by rw[EZ];intro e p h;cases h
theorem BN{l:List Expr}{pos:Pos}{es:List Expr}{env:Env}:EZ (.List l pos::es) env=(false,HY (.List l pos) env)::EZ es env:=by rw[EZ];intro e p h;cases h
theorem ki{o:UnaryOp}{a:Expr}{pos:Pos}{es:List Expr}{env:Env}:EZ (.UnaryOp o a pos::es) env=(false,HY (.UnaryOp o a pos) env)::EZ es env:=by rw[EZ];intro e p h;cases h
theorem bp{a b:Expr}{o:Ov}{pos:Pos}{es:List Expr}{env:Env}:EZ (.BinOp a o b pos::es) env=(false,HY (.BinOp a o b pos) env)::EZ es env:=by rw[EZ];intro e p h;cases h
theorem ai{x:Str}{pos:Pos}{es:List Expr}{env:Env}:EZ (.Name x pos::es) env=(false,HY (.Name x pos) env)::EZ es env:=by rw[EZ];intro e p h;cases h
theorem aH{a b:Expr}{pos:Pos}{es:List Expr}{env:Env}:EZ (.Subscript a b pos::es) env=(false,HY (.Subscript a b pos) env)::EZ es env:=by rw[EZ];intro e p h;cases h
theorem aX{f:Expr}{a:List Expr}{k:List J8}{pos:Pos}{es:List Expr}{env:Env}:EZ (.Call f a k pos::es) env=(false,HY (.Call f a k pos) env)::EZ es env:=by rw[EZ];intro e p h;cases h
theorem ci{e:Expr}{g:List Comprehension}{sc:Js}{pos:Pos}{es:List Expr}{env:Env}:EZ (.ListComp e g sc pos::es) env=(false,HY (.ListComp e g sc pos) env)::EZ es env:=by rw[EZ];intro e p h;cases h
structure EvS(X:Cx)(H0:Hp)(O0:List EX)(ps:PSt)(es:List Expr)(us:List U):Prop where
 a:EvA X H0 O0 ps es us
section
variable {X:Cx}{H0:Hp}{O0:List EX}{ps:PSt}{e:Expr}{es:List Expr}{u:U}{us:List U}{pos:Pos}
theorem bg:EvS X H0 O0 ps [] []:=⟨aj⟩
theorem ar(ha:Ev X H0 O0 ps e u)(hr:EvS X H0 O0 ps es us)(hs:EZ (e::es) X.env=(false,HY e X.env)::EZ es X.env):EvS X H0 O0 ps (e::es) (u::us):=⟨ac ha hr.a hs⟩
theorem bo{x1}(h:EvS X H0 O0 ps es us)(hz:us.length<=sizeLine:=by first |decide | (simp only[FN,Jm];decide)):Ev X H0 O0 ps (.Tuple es x1 pos) (.tup us):=Dq h.a hz
theorem dg(h:EvS X H0 O0 ps es us)(hz:us.length<=sizeLine:=by first |decide | (simp only[FN,Jm];decide)):EvN X H0 O0 ps (.List es pos) us:=DN h.a hz
end
end L2
namespace ST
open PySem PySem.SetTable
def Ris(xs:Array Nat):Prop:=∀(i j x y:Nat),i<j->xs[i]?=some x->xs[j]?=some y->x<y
theorem Ris.inj{xs:Array Nat}(h:Ris xs){i j x:Nat}(h1:xs[i]?=some x)(h2:xs[j]?=some x):i=j:=by
 rcases Hx i j with z |z |z
 ·exact absurd (h i j x x z h1 h2) (FA _)
 ·exact z
 ·exact absurd (h j i x x z h2 h1) (FA _)
theorem eL{xs:Array Nat}{i:Nat}(h:i<xs.size):xs[i]?=some xs[i]:=by simp[h]
theorem tF{xs:Array Nat}{i x:Nat}(h:xs[i]?=some x):i<xs.size:=(HI.mp h).1
theorem nj{xs:Array Nat}(R:Ris xs)(j:Nat):∀(Py lo hi:Nat),lo<=hi->hi<=xs.size->hi-lo<=Py->(∀(i x:Nat),i<lo->xs[i]?=some x->x<j)->(∀(i x:Nat),hi<=i->xs[i]?=some x->j<=x)->
  (∀(i x:Nat),i<below.go xs j Py lo hi->xs[i]?=some x->x<j)/\(∀(i x:Nat),below.go xs j Py lo hi<=i->xs[i]?=some x->j<=x)/\below.go xs j Py lo hi<=xs.size
 |0,lo,hi,h1,h2,h3,h4,h5=>by
  have e:lo=hi:=by lia
  subst e;rw[below.go];exact⟨h4,h5,h2⟩
 |Py+1,lo,hi,h1,h2,h3,h4,h5=>by
  rw[below.go];by_cases Pq:lo<hi
  ·rw[if_pos Pq];have hm:(lo+hi)/2<xs.size:=by lia
   have e:xs.getD ((lo+hi)/2) j=xs[(lo+hi)/2]:=by simp[Ha,hm]
   simp only[e];split
   ·rename_i hl
    refine nj R j Py _ hi (by lia) h2 (by lia) (λi x Pu hx=>?_) h5
    rcases Fq (show i<=(lo+hi)/2 by lia) with z |z
    ·exact LO (R i _ x _ z hx (eL hm)) hl
    ·subst z;rw[eL hm]at hx;cases hx;exact hl
   ·rename_i hl
    refine nj R j Py lo _ (by lia) (by lia) (by lia) h4 (λi x Pu hx=>?_)
    rcases Fq Pu with z |z
    ·exact Gs (JW hl) (FB (R _ i _ x z (eL hm) hx))
    ·subst z;rw[eL hm]at hx;cases hx;exact JW hl
  ·rw[if_neg Pq];have e:lo=hi:=by lia
   subst e;exact⟨h4,h5,h2⟩
theorem fR{xs:Array Nat}(R:Ris xs)(j:Nat):(∀(i x:Nat),i<below xs j->xs[i]?=some x->x<j)/\(∀(i x:Nat),below xs j<=i->xs[i]?=some x->j<=x)/\below xs j<=xs.size:=
 nj R j xs.size 0 xs.size (FU _) (EU _) (by lia) (λi x h=>absurd h (Ny _)) (λi x h e=>absurd (tF e) (by lia))
theorem xx{xs:Array Nat}(R:Ris xs){i j:Nat}(h:xs[i]?=some j):below xs j=i:=by
 obtain⟨h1,h2,h3⟩:=fR R j;rcases Hx (below xs j) i with z |z |z
 ·have hk:below xs j<xs.size:=LO z (tF h);have:=h2 _ _ (EU _) (eL hk);have:=R _ _ _ _ z (eL hk) h;lia
 ·exact z
 ·have:=h1 i j z h;lia
theorem mm{t:SetTable}(R:Ris t.place){i j:Nat}(h:t.place[i]?=some j):t.slot j=.live i:=by
 unfold SetTable.slot;simp only[xx R h,h,beq_self_eq_true,if_true]
theorem uS{t:SetTable}(hd:t.dummies=#[]){j:Nat}(h:∀i:Nat,t.place[i]?≠some j):t.slot j=.empty:=by
 unfold SetTable.slot;have e:(t.place[below t.place j]?==some j)=false:=by simpa using h _
 simp only[e,hd];simp[SetTable.has]
theorem rD{t:SetTable}(R:Ris t.place)(hd:t.dummies=#[])(j:Nat):(t.slot j=.empty/\∀i:Nat,t.place[i]?≠some j)\/∃i:Nat,t.slot j=.live i/\t.place[i]?=some j:=by
 by_cases h:∃i:Nat,t.place[i]?=some j
 ·obtain⟨i,hi⟩:=h;exact .inr ⟨i,mm R hi,hi⟩
 ·exact .inl ⟨uS hd λi e=>h ⟨i,e⟩,λi e=>h ⟨i,e⟩⟩
theorem vn{xs:Array Nat}(R:Ris xs){mask:Nat}(hn:xs.size<=mask):∃s,s<=mask/\∀i:Nat,xs[i]?≠some s:=by
 apply FP;intro Qw
 have all:∀s,s<=mask->∃i:Nat,xs[i]?=some s:=λs hs=>by
  apply FP;intro h;exact Qw ⟨s,hs,λi e=>h ⟨i,e⟩⟩
 have key:∀s,s<=mask->∃i:Nat,xs[i]?=some s/\s<=i:=by
  intro s
  induction s with
  |zero=>intro h;obtain⟨i,hi⟩:=all 0 h;exact⟨i,hi,FU _⟩
  |succ s ih=>
   intro h;obtain⟨i,hi,RT⟩:=ih (by lia)
   obtain⟨k,hk⟩:=all (s+1) h;refine⟨k,hk,?_⟩;rcases Hx i k with z |z |z
   ·lia
   ·subst z;rw[hi]at hk;cases hk
   ·have:=R k i _ _ z hk hi;lia
 obtain⟨i,hi,RT⟩:=key mask (EU _);have:=tF hi;lia
def adv(mask:Nat)(p:Probe):Probe:=
 if p.more >0 then {p with j:=p.j+1,more:=p.more-1 } else
 {p with j:=(leap mask p.i p.perturb).1,more:=runEnd mask (leap mask p.i p.perturb).1-(leap mask p.i p.perturb).1,i:=(leap mask p.i p.perturb).1,perturb:=(leap mask p.i p.perturb).2 }
theorem j7(t:SetTable)(p:Probe):t.advance p=adv t.mask p:=by
 unfold SetTable.advance adv;split
 ·rfl
 ·rfl
def start(mask:Nat)(h:Int):Probe:={j:=bits h%(mask+1),more:=runEnd mask (bits h%(mask+1))-bits h%(mask+1),i:=bits h%(mask+1),perturb:=bits h,dummy:=none }
def pth(mask:Nat)(h:Int):Nat->Probe
 |0=>start mask h
 |n+1=>adv mask (pth mask h n)
def aY(mask:Nat)(h:Int):Nat->Nat×Nat
 |0=>(bits h%(mask+1),bits h)
 |r+1=>leap mask (aY mask h r).1 (aY mask h r).2
theorem jm{mask:Nat}:∀(m:Nat) (p:Probe) (f:Nat->Probe),f 0=p->(∀n,f (n+1)=adv mask (f n))->m<=p.more->f m={p with j:=p.j+m,more:=p.more-m }
 |0,p,f,h0,_,_=>by rw[h0];rfl
 |m+1,p,f,h0,hs,hm=>by
  rw[hs m,jm m p f h0 hs (by lia)]
  unfold adv;rw[if_pos (by show p.more-m >0;lia)]
  simp only[Probe.mk.injEq];exact⟨by lia,by lia,trivial,trivial,trivial⟩
theorem kS(mask:Nat)(h:Int):∀n,(pth mask h n).dummy=none
 |0=>rfl
 |n+1=>by
  rw[pth];unfold adv;split
  ·exact kS mask h n
  ·exact kS mask h n
theorem uW(mask i:Nat):runEnd mask i-i<=9:=by unfold runEnd;split <;>lia
theorem tq(mask:Nat)(h:Int):∀r,∃n,n<=10*r/\pth mask h n={j:=(aY mask h r).1,more:=runEnd mask (aY mask h r).1-(aY mask h r).1,i:=(aY mask h r).1,perturb:=(aY mask h r).2,dummy:=none }
 |0=>⟨0,EU _,rfl⟩
 |r+1=>by
  obtain⟨n,hn,e⟩:=tq mask h r;have hL:=uW mask (aY mask h r).1;have step:=jm (mask:=mask) (runEnd mask (aY mask h r).1-(aY mask h r).1) (pth mask h n) (λm=>pth mask h (n+m)) rfl (λm=>rfl) (by rw[e];exact EU _)
  refine⟨n+(runEnd mask (aY mask h r).1-(aY mask h r).1)+1,by lia,?_⟩
  rw[pth];have QS:pth mask h (n+(runEnd mask (aY mask h r).1-(aY mask h r).1))=_:=step;rw[QS,e];unfold adv;rw[if_neg (by simp)]
  rfl
theorem AM(h:Int):bits h<2 ^ 64:=by
 unfold bits;have h1:=Hg h (show (2 ^ 64:Int)≠0 by decide)
 have h2:=GG h (show (0:Int)<2 ^ 64 by decide)
 lia
theorem lN(mask:Nat)(h:Int):∀r,(aY mask h r).2=bits h/32 ^ r
 |0=>by simp[aY]
 |r+1=>by
  rw[aY];show (aY mask h r).2/32=_;rw[lN mask h r,Lz,Hw]
theorem uV(mask:Nat)(h:Int)(r:Nat)(hr:12<=r):(aY mask h r).2/32=0:=by
 rw[lN];have h1:=AM h;rw[Lz];apply Nat.div_eq_of_lt;have:32 ^ 12*32<=32 ^ r*32:=J2 _ (IP (by decide) hr)
 exact Fu (Fu h1 (by decide)) this
def cK:Nat->Nat
 |0=>1
 |k+1=>cK k*(4*cK k+2)
theorem yj:∀k,∃m,cK k=2 ^ k*(2*m+1)
 |0=>⟨0,by simp[cK]⟩
 |k+1=>by
  obtain⟨m,e⟩:=yj k;refine⟨2*(cK k) *m+m+cK k,?_⟩;rw[cK,Hw];have:cK k*(4*cK k+2)=2 ^ k*(2*m+1) *(4*cK k+2):=by rw[<-e]
  rw[this];generalize cK k=c;generalize 2 ^ k=p;grind
def gE:Nat->Nat->Nat
 |0,x=>x
 |n+1,x=>5*gE n x+1
theorem km(m x:Nat):∀n,gE (m+n) x=gE n (gE m x)
 |0=>rfl
 |n+1=>by rw[<-Nat.add_assoc,gE,km m x n,gE]
theorem ko:∀(k x:Nat),gE (2 ^ k) x=(1+4*cK k) *x+cK k
 |0,x=>by simp[gE,cK]
 |k+1,x=>by
  rw[Hw,Nat.mul_two,km,ko k,ko k,cK];generalize cK k=c;grind
theorem qq(k x:Nat):gE (2 ^ k) x%2 ^ (k+1)=(x+2 ^ k)%2 ^ (k+1):=by
 rw[ko];obtain⟨m,e⟩:=yj k;rw[e]
 have:(1+4*(2 ^ k*(2*m+1))) *x+2 ^ k*(2*m+1)=(x+2 ^ k)+2 ^ (k+1) *(2*(2*m+1) *x+m):=by
  rw[Hw];generalize 2 ^ k=p;grind
 rw[this,Nat.add_mul_mod_self_left]
theorem gY(x:Nat):∀(k y:Nat),∃n,n<2 ^ k/\gE n x%2 ^ k=y%2 ^ k
 |0,y=>⟨0,by simp,by simp[Nat.mod_one]⟩
 |k+1,y=>by
  obtain⟨n,hn,e⟩:=gY x k y;have hp:2 ^ (k+1)=2 ^ k+2 ^ k:=by rw[Hw];lia
  have h2:0<2 ^ k:=Nat.pow_pos (by decide)
  by_cases h:gE n x%2 ^ (k+1)=y%2 ^ (k+1)
  ·exact⟨n,by lia,h⟩
  ·refine⟨n+2 ^ k,by lia,?_⟩
   rw[km,qq];generalize gE n x=z at *;have d1:z%2 ^ (k+1)%2 ^ k=z%2 ^ k:=MD _ ⟨2,by rw[Hw]⟩
   have d2:y%2 ^ (k+1)%2 ^ k=y%2 ^ k:=MD _ ⟨2,by rw[Hw]⟩
   have l1:=Hn z (show 0<2 ^ (k+1) by lia)
   have l2:=Hn y (show 0<2 ^ (k+1) by lia)
   rw[<-LP];rw[<-d1,<-d2]at e;generalize z%2 ^ (k+1)=a at *;generalize y%2 ^ (k+1)=b at *;rw[hp]at *;generalize 2 ^ k=p at *
   have ea:a%p=if a<p then a else a-p:=by
    split
    ·exact FT (by assumption)
    ·rw[Km (by lia),FT (by lia)]
   have eb:b%p=if b<p then b else b-p:=by
    split
    ·exact FT (by assumption)
    ·rw[Km (by lia),FT (by lia)]
   rw[ea,eb]at e;by_cases ha:a<p
   ·rw[if_pos ha]at e;rw[FT (by lia)]
    split at e <;>lia
   ·rw[if_neg ha]at e;rw[Km (by lia),FT (by lia)]
    split at e <;>lia
theorem jI{mask k:Nat}(hk:mask+1=2 ^ k)(h:Int):∀q,(aY mask h (12+q)).1=gE q (aY mask h 12).1%2 ^ k
 |0=>by
  rw[gE]
  have:(aY mask h 12).1<2 ^ k:=by
   rw[<-hk];show (leap mask (aY mask h 11).1 (aY mask h 11).2).1<_;exact Hn _ (by lia)
  exact (FT this).symm
 |q+1=>by
  show (leap mask (aY mask h (12+q)).1 (aY mask h (12+q)).2).1=_;unfold leap;simp only[uV mask h (12+q) (by lia)]
  rw[jI hk h q,hk,gE,OR,Nat.mul_comm 5 _];generalize gE q (aY mask h 12).1=z;generalize 2 ^ k=m;rw[O9,Nat.mod_mul_mod,<-O9]
theorem cover{mask k:Nat}(hk:mask+1=2 ^ k)(h:Int)(s:Nat)(hs:s<=mask):∃n,n<10*turns mask/\(pth mask h n).j=s:=by
 obtain⟨q,hq,e⟩:=gY (aY mask h 12).1 k s;obtain⟨n,hn,en⟩:=tq mask h (12+q);refine⟨n,?_,?_⟩
 ·unfold turns;lia
 ·rw[en];show (aY mask h (12+q)).1=s;rw[jI hk h q,e];exact FT (by lia)
def Liv(t:SetTable)(j:Nat):Prop:=∃i:Nat,t.place[i]?=some j
structure TOk(t:SetTable)(hs:List Int):Prop where
 R:Ris t.place
 d:t.dummies=#[]
 k:∃k,3<=k/\t.mask+1=2 ^ k
 n:t.place.size=hs.length
 f:t.place.size<=t.mask
 le:∀(i x:Nat),t.place[i]?=some x->x<=t.mask
 reach:∀(i j:Nat) (h:Int),t.place[i]?=some j->hs[i]?=some h->∃m,(pth t.mask h m).j=j/\∀m',m'<m->Liv t (pth t.mask h m').j
theorem least{P:Nat->Prop}:∀n,P n->∃m,m<=n/\P m/\∀k,k<m->¬ P k:=by
 intro n
 induction n using Nat.strongRecOn with
 |_ n ih=>
  intro h;by_cases hk:∃k,k<n/\P k
  ·obtain⟨k,hk,hp⟩:=hk;obtain⟨m,h1,h2,h3⟩:=ih k hk hp;exact⟨m,by lia,h2,h3⟩
  ·exact⟨n,EU _,h,λk Sr hp=>hk ⟨k,Sr,hp⟩⟩
theorem qJ{t:SetTable}{hs:List Int}(T:TOk t hs)(h:Int):∃N,N<10*turns t.mask/\¬ Liv t (pth t.mask h N).j/\∀m,m<N->Liv t (pth t.mask h m).j:=by
 obtain⟨s,hs1,Qy⟩:=vn T.R T.f;obtain⟨k,_,hk⟩:=T.k;obtain⟨n,hn,e⟩:=cover hk h s hs1;obtain⟨m,h1,h2,h3⟩:=least (P:=λn=>¬ Liv t (pth t.mask h n).j) n (by show ¬ Liv t (pth t.mask h n).j;rw[e];rintro ⟨i,hi⟩;exact Qy i hi)
 exact⟨m,by lia,h2,λk Sr=>FP λz=>h3 k Sr z⟩
theorem pQ{t:SetTable}{hs:List Int}(T:TOk t hs)(hashAt:Nat->Int)(h:Int){N:Nat}(h0:¬ Liv t (pth t.mask h N).j)(h1:∀m,m<N->Liv t (pth t.mask h m).j):∀(Py n:Nat),n<=N->N-n<Py->
  (probe.go t hashAt h Py (pth t.mask h n)=some (.empty (pth t.mask h N).j none)/\∀(m i:Nat),n<=m->m<N->t.place[i]?=some (pth t.mask h m).j->hashAt i≠h)\/
  ∃m i:Nat,n<=m/\m<N/\t.place[i]?=some (pth t.mask h m).j/\hashAt i=h/\probe.go t hashAt h Py (pth t.mask h n)=some (.candidate (pth t.mask h m).j i (pth t.mask h (m+1)))/\
   ∀(m' i':Nat),n<=m'->m'<m->t.place[i']?=some (pth t.mask h m').j->hashAt i'≠h
 |0,n,_,hf=>by lia
 |Py+1,n,hn,hf=>by
  rw[probe.go];rcases rD T.R T.d (pth t.mask h n).j with ⟨e,Qw⟩ |⟨i,e,hi⟩
  ·have hN:n=N:=by
    rcases Fq hn with z |z
    ·obtain⟨i,hi⟩:=h1 n z;exact absurd hi (Qw i)
    ·exact z
   subst hN;refine .inl ⟨by simp only[e,kS],λm i z1 z2=>by lia⟩
  ·have hN:n<N:=by
    rcases Fq hn with z |z
    ·exact z
    ·subst z;exact absurd ⟨i,hi⟩ h0
   simp only[e];by_cases hh:hashAt i=h
   ·refine .inr ⟨n,i,EU _,hN,hi,hh,?_,λm' i' z1 z2=>by lia⟩
    simp only[hh,beq_self_eq_true,if_true,j7];rfl
   ·have hb:(hashAt i==h)=false:=by simpa using hh
    simp only[hb,E7,if_false,j7];have ih:=pQ T hashAt h h0 h1 Py (n+1) (by lia) (by lia)
    rcases ih with ⟨q1,q2⟩ |⟨m,i2,q1,q2,q3,q4,q5,q6⟩
    ·refine .inl ⟨q1,λm i' z1 z2 z3=>?_⟩
     rcases Fq z1 with z |z
     ·exact q2 m i' z z2 z3
     ·subst z;rw[T.R.inj z3 hi];exact hh
    ·refine .inr ⟨m,i2,by lia,q2,q3,q4,q5,λm' i' z1 z2 z3=>?_⟩
     rcases Fq z1 with z |z
     ·exact q6 m' i' z z2 z3
     ·subst z;rw[T.R.inj z3 hi];exact hh
theorem wt{t:SetTable}{hs:List Int}(T:TOk t hs){h:Int}{N i:Nat}(h0:¬ Liv t (pth t.mask h N).j)(hi:hs[i]?=some h):∃(m j:Nat),m<N/\t.place[i]?=some j/\(pth t.mask h m).j=j:=by
 have Pq:i<t.place.size:=by rw[T.n];exact (E1.mp hi).1
 obtain⟨m,e,hm⟩:=T.reach i _ h (eL Pq) hi;refine⟨m,_,?_,eL Pq,e⟩;rcases Hx m N with z |z |z
 ·exact z
 ·subst z;exact absurd ⟨i,by rw[e];exact eL Pq⟩ h0
 ·exact absurd (hm N z) h0
theorem fg{α:Type}(xs:Array α)(p:Nat)(x:α):(insertAt xs p x).toList=xs.toList.take p++x::xs.toList.drop p:=by
 unfold insertAt;simp[Array.toList_extract];exact LA (by simp)
theorem cE{α:Type}{xs:Array α}{p:Nat}{x:α}(hp:p<=xs.size)(i:Nat):(insertAt xs p x)[i]?=if i<p then xs[i]? else if i=p then some x else xs[i-1]?:=by
 rw[<-FS,fg];have hl:(xs.toList.take p).length=p:=by simp;lia
 by_cases h1:i<p
 ·rw[if_pos h1,Fb (by lia),GU h1,FS]
 ·rw[if_neg h1,Fd (by lia),hl]
  by_cases h2:i=p
  ·subst h2;simp
  ·rw[if_neg h2];obtain⟨q,hq⟩:∃q,i-p=q+1:=⟨i-p-1,by lia⟩
   rw[hq,Ht,HM,FS];congr 1;lia
theorem gQ{α:Type}(xs:Array α)(p:Nat)(x:α)(hp:p<=xs.size):(insertAt xs p x).size=xs.size+1:=by
 rw[<-E6,fg];simp;lia
def gF{α:Type}(xs:List α)(p:Nat)(x:α):List α:=xs.take p++x::xs.drop p
theorem yo{α:Type}{xs:List α}{p:Nat}{x:α}(hp:p<=xs.length)(i:Nat):(gF xs p x)[i]?=if i<p then xs[i]? else if i=p then some x else xs[i-1]?:=by
 unfold gF;have hl:(xs.take p).length=p:=by simp;lia
 by_cases h1:i<p
 ·rw[if_pos h1,Fb (by lia),GU h1]
 ·rw[if_neg h1,Fd (by lia),hl]
  by_cases h2:i=p
  ·subst h2;simp
  ·rw[if_neg h2];obtain⟨q,hq⟩:∃q,i-p=q+1:=⟨i-p-1,by lia⟩
   rw[hq,Ht,HM];congr 1;lia
theorem Af{xs:Array Nat}(R:Ris xs){j:Nat}(Qw:∀i:Nat,xs[i]?≠some j):Ris (insertAt xs (below xs j) j):=by
 obtain⟨h1,h2,h3⟩:=fR R j
 have gt:∀(i x:Nat),below xs j<=i->xs[i]?=some x->j<x:=λi x hi hx=>by
  rcases Fq (h2 i x hi hx) with z |z
  ·exact z
  ·subst z;exact absurd hx (Qw i)
 intro a b x y QG hx hy;rw[cE h3]at hx hy;by_cases a1:a<below xs j
 ·rw[if_pos a1]at hx;by_cases b1:b<below xs j
  ·rw[if_pos b1]at hy;exact R a b x y QG hx hy
  ·rw[if_neg b1]at hy;by_cases b2:b=below xs j
   ·rw[if_pos b2]at hy;cases hy;exact h1 a x a1 hx
   ·rw[if_neg b2]at hy;exact R a (b-1) x y (by lia) hx hy
 ·rw[if_neg a1]at hx;have b1:¬ b<below xs j:=by lia
  rw[if_neg b1]at hy;have b2:¬ b=below xs j:=by lia
  rw[if_neg b2]at hy;by_cases a2:a=below xs j
  ·rw[if_pos a2]at hx;cases hx;exact gt (b-1) y (by lia) hy
  ·rw[if_neg a2]at hx;exact R (a-1) (b-1) x y (by lia) hx hy
theorem rW{xs:Array Nat}{p j:Nat}(hp:p<=xs.size)(s:Nat):(∃i:Nat,(insertAt xs p j)[i]?=some s)↔s=j\/∃i:Nat,xs[i]?=some s:=by
 constructor
 ·rintro ⟨i,hi⟩;rw[cE hp]at hi;split at hi
  ·exact .inr ⟨i,hi⟩
  ·split at hi
   ·cases hi;exact .inl rfl
   ·exact .inr ⟨i-1,hi⟩
 ·rintro (rfl |⟨i,hi⟩)
  ·exact⟨p,by rw[cE hp,if_neg (FA _),if_pos rfl]⟩
  ·by_cases h:i<p
   ·exact⟨i,by rw[cE hp,if_pos h];exact hi⟩
   ·exact⟨i+1,by rw[cE hp,if_neg (by lia),if_neg (by lia)];simpa using hi⟩
theorem TOk.put{t:SetTable}{hs:List Int}(T:TOk t hs){h:Int}{N:Nat}(h0:¬ Liv t (pth t.mask h N).j)(h1:∀m,m<N->Liv t (pth t.mask h m).j)(RT:(pth t.mask h N).j<=t.mask)(hf:t.place.size+1<=t.mask):
  TOk (t.put (pth t.mask h N).j).1 (gF hs (t.put (pth t.mask h N).j).2 h):=by
 have Qw:∀i:Nat,t.place[i]?≠some (pth t.mask h N).j:=λi e=>h0 ⟨i,e⟩
 obtain⟨_,_,hb⟩:=fR T.R (pth t.mask h N).j;have hbl:below t.place (pth t.mask h N).j<=hs.length:=by rw[<-T.n];exact hb
 have ed:(if SetTable.has t.dummies (pth t.mask h N).j then eraseAt t.dummies (below t.dummies (pth t.mask h N).j) else t.dummies)=#[]:=by
  rw[T.d];simp[SetTable.has]
 unfold SetTable.put;simp only[ed];refine⟨Af T.R Qw,rfl,T.k,?_,?_,λi x e=>?_,λi j hh e1 e2=>?_⟩
 ·show (insertAt _ _ _).size=(gF hs _ h).length;rw[gQ _ _ _ hb,T.n];unfold gF;simp;lia
 ·show (insertAt _ _ _).size<=t.mask;rw[gQ _ _ _ hb];exact hf
 ·rcases (rW hb x).mp ⟨i,e⟩ with z |⟨q,hq⟩
  ·rw[z];exact RT
  ·exact T.le q x hq
 ·have liv:∀s,Liv t s->Liv {t with place:=insertAt t.place (below t.place (pth t.mask h N).j) (pth t.mask h N).j,dummies:=#[] } s:=λs z=>(rW hb s).mpr (.inr z)
  change (insertAt t.place _ _)[i]?=some j at e1
  rw[cE hb]at e1;rw[yo hbl]at e2;split at e1
  ·rename_i z
   rw[if_pos z]at e2;obtain⟨m,q1,q2⟩:=T.reach i j hh e1 e2;exact⟨m,q1,λm' hm=>liv _ (q2 m' hm)⟩
  ·rename_i z
   rw[if_neg z]at e2;split at e1
   ·rename_i z2
    rw[if_pos z2]at e2;cases e1;cases e2;exact⟨N,rfl,λm' hm=>liv _ (h1 m' hm)⟩
   ·rename_i z2
    rw[if_neg z2]at e2;obtain⟨m,q1,q2⟩:=T.reach (i-1) j hh e1 e2;exact⟨m,q1,λm' hm=>liv _ (q2 m' hm)⟩
theorem yC{mask:Nat}(h:Int):∀n,(pth mask h n).j+(pth mask h n).more<=mask
 |0=>by
  show bits h%(mask+1)+(runEnd mask (bits h%(mask+1))-bits h%(mask+1))<=mask;have:=Hn (bits h) (show 0<mask+1 by lia)
  unfold runEnd;split <;>lia
 |n+1=>by
  have ih:=yC (mask:=mask) h n;rw[pth];unfold adv;split
  ·simp only;lia
  ·show (leap mask _ _).1+(runEnd mask (leap mask _ _).1-(leap mask _ _).1)<=mask;have:(leap mask (pth mask h n).i (pth mask h n).perturb).1<mask+1:=Hn _ (by lia)
   unfold runEnd;split <;>lia
def OL(owner:Array (Option Nat))(j:Nat):Prop:=∃k:Nat,owner[j]?=some (some k)
def nr(mask:Nat)(h:Int):Nat->Nat
 |0=>0
 |r+1=>nr mask h r+(runEnd mask (aY mask h r).1-(aY mask h r).1)+1
theorem Bl(mask:Nat)(h:Int):∀r,pth mask h (nr mask h r)={j:=(aY mask h r).1,more:=runEnd mask (aY mask h r).1-(aY mask h r).1,i:=(aY mask h r).1,perturb:=(aY mask h r).2,dummy:=none }
 |0=>rfl
 |r+1=>by
  have e:=Bl mask h r;have step:=jm (mask:=mask) (runEnd mask (aY mask h r).1-(aY mask h r).1) (pth mask h (nr mask h r)) (λm=>pth mask h (nr mask h r+m)) rfl (λm=>rfl) (by rw[e];exact EU _)
  have QS:pth mask h (nr mask h r+(runEnd mask (aY mask h r).1-(aY mask h r).1))=_:=step;rw[nr,pth,QS,e];unfold adv;rw[if_neg (by simp)]
  rfl
theorem rG(mask:Nat)(h:Int)(r k:Nat)(hk:k<=runEnd mask (aY mask h r).1-(aY mask h r).1):(pth mask h (nr mask h r+k)).j=(aY mask h r).1+k:=by
 have e:=Bl mask h r;have step:=jm (mask:=mask) k (pth mask h (nr mask h r)) (λm=>pth mask h (nr mask h r+m)) rfl (λm=>rfl) (by rw[e];exact hk)
 have QS:pth mask h (nr mask h r+k)=_:=step;rw[QS,e]
theorem uv(mask i:Nat):i<=runEnd mask i:=by unfold runEnd;split <;>lia
theorem zU(mask:Nat)(h:Int):∀r,(aY mask h r).1<=mask
 |0=>GW (Hn _ (by lia))
 |r+1=>GW (Hn _ (by lia))
theorem qd{mask i:Nat}(h:i<=mask):runEnd mask i<=mask:=by unfold runEnd;split <;>lia
theorem t8{mask:Nat}{owner:Array (Option Nat)}(Qb:owner.size=mask+1)(h:Int):∀(Py r:Nat),(∃r',r<=r'/\r'<r+Py/\owner[(aY mask h r').1]?=some none)->(∀m,m<nr mask h r->OL owner (pth mask h m).j)->
  ∃N,layClean.free mask owner Py (aY mask h r).1 (aY mask h r).2=some (pth mask h N).j/\owner[(pth mask h N).j]?=some none/\∀m,m<N->OL owner (pth mask h m).j
 |0,r,⟨r',h1,h2,_⟩,_=>by lia
 |Py+1,r,hex,hl=>by
  rw[layClean.free];have hge:=uv mask (aY mask h r).1;have hmk:=qd (zU mask h r);have RU:∀k,k<runEnd mask (aY mask h r).1+1-(aY mask h r).1->(aY mask h r).1+k<owner.size:=λk hk=>by lia
  cases hf:(Fz (runEnd mask (aY mask h r).1+1-(aY mask h r).1)).find? λk=>(owner.getD ((aY mask h r).1+k) (some 0)).isNone with
  |some k=>
   obtain⟨p1,p2,p3⟩:=List.find?_range_eq_some.mp hf;have hk:=Fk.mp p2;have Pq:=RU k hk
   have e1:owner[(aY mask h r).1+k]?=some none:=by
    have:owner.getD ((aY mask h r).1+k) (some 0)=owner[(aY mask h r).1+k]:=by simp[Ha,Pq]
    rw[this]at p1;have:owner[(aY mask h r).1+k]=none:=by simpa using p1
    simp[Pq,this]
   have ej:=rG mask h r k (by lia)
   refine⟨nr mask h r+k,by simp only[ej],by rw[ej];exact e1,λm hm=>?_⟩
   by_cases hm1:m<nr mask h r
   ·exact hl m hm1
   ·obtain⟨q,rfl⟩:∃q,m=nr mask h r+q:=⟨m-nr mask h r,by lia⟩
    have hq:=p3 q (by lia)
    have QT:=RU q (by lia)
    rw[rG mask h r q (by lia)]
    have:owner.getD ((aY mask h r).1+q) (some 0)=owner[(aY mask h r).1+q]:=by simp[Ha,QT]
    rw[this]at hq;cases hv:owner[(aY mask h r).1+q] with
    |none=>rw[hv]at hq;simp at hq
    |some v=>exact⟨v,by simp[QT,hv]⟩
  |none=>
   have P7:∀q,q<runEnd mask (aY mask h r).1+1-(aY mask h r).1->OL owner ((aY mask h r).1+q):=λq hq=>by
    have:=List.find?_eq_none.mp hf q (Fk.mpr hq);have QT:=RU q hq;have e:owner.getD ((aY mask h r).1+q) (some 0)=owner[(aY mask h r).1+q]:=by simp[Ha,QT]
    rw[e]at this;cases hv:owner[(aY mask h r).1+q] with
    |none=>rw[hv]at this;simp at this
    |some v=>exact⟨v,by simp[QT,hv]⟩
   have next:=t8 Qb h Py (r+1) (by
    obtain⟨r',h1,h2,h3⟩:=hex;refine⟨r',?_,by lia,h3⟩
    rcases Fq h1 with z |z
    ·exact z
    ·subst z;obtain⟨v,hv⟩:=P7 0 (by lia)
     rw[OR,h3]at hv;cases hv) (λm hm=>by
    by_cases hm1:m<nr mask h r
    ·exact hl m hm1
    ·obtain⟨q,rfl⟩:∃q,m=nr mask h r+q:=⟨m-nr mask h r,by lia⟩
     have hm2:nr mask h r+q<nr mask h r+(runEnd mask (aY mask h r).1-(aY mask h r).1)+1:=hm;rw[rG mask h r q (by lia)]
     exact P7 q (by lia))
   exact next
structure OI(mask:Nat)(owner:Array (Option Nat))(hs:List Int):Prop where
 sz:owner.size=mask+1
 lt:∀(j k:Nat),owner[j]?=some (some k)->k<hs.length
 inj:∀(i j k:Nat),owner[i]?=some (some k)->owner[j]?=some (some k)->i=j
 all:∀k:Nat,k<hs.length->∃j:Nat,owner[j]?=some (some k)
 reach:∀(j k:Nat) (h:Int),owner[j]?=some (some k)->hs[k]?=some h->∃m,(pth mask h m).j=j/\∀m',m'<m->OL owner (pth mask h m').j
theorem OI.free{mask:Nat}{owner:Array (Option Nat)}{hs:List Int}(O:OI mask owner hs)(hn:hs.length<=mask):∃s,s<=mask/\owner[s]?=some none:=by
 apply FP;intro Qw
 have Rv:∀s,s<=mask->OL owner s:=λs Q8=>by
  have Pq:s<owner.size:=by rw[O.sz];lia
  cases e:owner[s] with
  |none=>exact absurd ⟨s,Q8,by simp[Pq,e]⟩ Qw
  |some k=>exact⟨k,by simp[Pq,e]⟩
 have nd:((Fz (mask+1)).map λs=>(owner.getD s none).getD 0).Nodup:=by
  rw[Kg,FF];refine Je ?_ (LB (n:=mask+1));intro a b ha hb QG e;obtain⟨k1,h1⟩:=Rv a (by have:=Fk.mp ha;lia)
  obtain⟨k2,h2⟩:=Rv b (by have:=Fk.mp hb;lia)
  have e1:(owner.getD a none).getD 0=k1:=by simp[Gy,h1]
  have e2:(owner.getD b none).getD 0=k2:=by simp[Gy,h2]
  rw[e1,e2]at e;subst e;have:=O.inj a b k1 h1 h2;lia
 have sub:((Fz (mask+1)).map λs=>(owner.getD s none).getD 0) ⊆ Fz hs.length:=by
  intro x hx;obtain⟨s,hs1,rfl⟩:=ER.mp hx;obtain⟨k1,h1⟩:=Rv s (by have:=Fk.mp hs1;lia)
  have e1:(owner.getD s none).getD 0=k1:=by simp[Gy,h1]
  rw[e1];exact Fk.mpr (O.lt s k1 h1)
 have:=M5 nd sub;simp at this;lia
theorem OI.step{mask k:Nat}(hk:mask+1=2 ^ k){owner:Array (Option Nat)}{hs:List Int}(O:OI mask owner hs)(hn:hs.length<=mask)(h:Int):
  ∃j,layClean.free mask owner (turns mask) (bits h%(mask+1)) (bits h)=some j/\OI mask (owner.setIfInBounds j (some hs.length)) (hs++[h]):=by
 obtain⟨s,hs1,Qy⟩:=O.free hn;obtain⟨q,hq,e⟩:=gY (aY mask h 12).1 k s;have er:(aY mask h (12+q)).1=s:=by rw[jI hk h q,e];exact FT (by lia)
 obtain⟨N,f1,f2,f3⟩:=t8 O.sz h (turns mask) 0 ⟨12+q,FU _,by unfold turns;lia,by rw[er];exact Qy⟩ (λm hm=>absurd hm (Ny _))
 refine⟨_,f1,?_⟩;generalize hj:(pth mask h N).j=j at *;have hjs:j<owner.size:=(HI.mp f2).1
 have get:∀i:Nat,(owner.setIfInBounds j (some hs.length))[i]?=if j=i then some (some hs.length) else owner[i]?:=λi=>by
  rw[Array.getElem?_setIfInBounds];split
  ·rename_i z;subst z;simp[hjs]
  ·rfl
 have liv:∀i,OL owner i->OL (owner.setIfInBounds j (some hs.length)) i:=λi ⟨v,hv⟩=>by
  refine⟨v,?_⟩;rw[get,if_neg (λz=>by subst z;rw[f2]at hv;cases hv)]
  exact hv
 refine⟨by simp[O.sz],λi v e=>?_,λa b v e1 e2=>?_,λv hv=>?_,λi v hh e1 e2=>?_⟩
 ·rw[get]at e;split at e
  ·cases e;simp
  ·have:=O.lt i v e;simp;lia
 ·rw[get]at e1 e2;split at e1 <;>split at e2
  ·lia
  ·cases e1;exact absurd (O.lt b _ e2) (FA _)
  ·cases e2;exact absurd (O.lt a _ e1) (FA _)
  ·exact O.inj a b v e1 e2
 ·simp at hv;rcases Fq (GW hv) with z |z
  ·obtain⟨i,hi⟩:=O.all v z;refine⟨i,?_⟩;rw[get,if_neg (λy=>by subst y;rw[f2]at hi;cases hi)]
   exact hi
  ·subst z;exact⟨j,by rw[get,if_pos rfl]⟩
 ·rw[get]at e1;split at e1
  ·rename_i z
   cases e1;rw[Fd (EU _)]at e2;simp at e2;subst e2;exact⟨N,by rw[hj];exact z,λm hm=>liv _ (f3 m hm)⟩
  ·have hv:=O.lt i v e1;rw[Fb hv]at e2;obtain⟨m,q1,q2⟩:=O.reach i v hh e1 e2;exact⟨m,q1,λm' hm=>liv _ (q2 m' hm)⟩
theorem si{mask k:Nat}(hk:mask+1=2 ^ k):∀(more done:List Int) (owner:Array (Option Nat)),OI mask owner done->done.length+more.length<=mask+1->∃Rw,more.foldl (λacc h=>do
  let (owner,k) <-acc
  let j <-layClean.free mask owner (turns mask) (bits h%(mask+1)) (bits h)
  pure (owner.setIfInBounds j (some k),k+1)) (some (owner,done.length))=some (Rw,done.length+more.length)/\OI mask Rw (done++more)
 |[],done,owner,O,_=>⟨owner,by simp,by simpa using O⟩
 |h::more,done,owner,O,hl=>by
  obtain⟨j,e,O2⟩:=O.step hk (by simp at hl;lia) h
  obtain⟨ow,e2,O3⟩:=si hk more (done++[h]) _ O2 (by simp at hl |-;lia)
  refine⟨ow,?_,by simpa using O3⟩
  rw[Hh]
  have:(do
   let (owner,k) <-some (owner,done.length)
   let j <-layClean.free mask owner (turns mask) (bits h%(mask+1)) (bits h)
   pure (owner.setIfInBounds j (some k),k+1):Option (Array (Option Nat)×Nat))=some (owner.setIfInBounds j (some done.length),done.length+1):=by
   simp[e]
  rw[this];simp only[FJ,LK]at e2;rw[e2];simp;lia
theorem qc{mask k:Nat}(hk:mask+1=2 ^ k){hs:Array Int}(hl:hs.size<=mask+1):∃owner,layClean mask hs=some owner/\OI mask owner hs.toList:=by
 have O0:OI mask (Array.replicate (mask+1) none) []:=⟨by simp,λj k e=>by simp[Jf]at e,λi j k e=>by simp[Jf]at e,λk h=>by simp at h,λj k h e=>by simp[Jf]at e⟩
 obtain⟨ow,e,O⟩:=si hk hs.toList [] _ O0 (by simpa using hl)
 refine⟨ow,?_,by simpa using O⟩
 unfold layClean;rw[<-Array.foldl_toList];simp only[Jm]at e;rw[e];rfl
theorem pH(n:Nat):∀(Py k:Nat),n<2 ^ (k+Py)->∃k',k<=k'/\sizeAbove.go n Py (2 ^ k)=2 ^ k'/\n<2 ^ k'/\(2 ^ k'<=2*n\/k'=k)
 |0,k,h=>⟨k,EU _,rfl,by simpa using h,.inr rfl⟩
 |Py+1,k,h=>by
  rw[sizeAbove.go];by_cases RT:2 ^ k<=n
  ·rw[if_pos RT,<-Hw];obtain⟨k',h1,h2,h3,h4⟩:=pH n Py (k+1) (by rw[show k+1+Py=k+(Py+1) by lia];exact h)
   refine⟨k',by lia,h2,h3,.inl ?_⟩
   rcases h4 with z |z
   ·exact z
   ·subst z;rw[Hw];lia
  ·rw[if_neg RT];exact⟨k,EU _,rfl,by lia,.inr rfl⟩
theorem above(n:Nat)(h:n<2 ^ 60):∃k,3<=k/\sizeAbove n=2 ^ k/\n<2 ^ k/\2 ^ k<=2*n+8:=by
 obtain⟨k,h1,h2,h3,h4⟩:=pH n 64 3 (Fu h (IP (by decide) (by decide)))
 refine⟨k,h1,h2,h3,?_⟩;rcases h4 with z |z
 ·lia
 ·subst z;lia
def dG(mask:Nat)(owner:Array (Option Nat)):List (Nat×Nat):=(Fz (mask+1)).filterMap λj=>(owner.getD j none).map (j,·)
theorem oW(owner:Array (Option Nat)):∀l:List Nat,(l.filterMap λj=>(owner.getD j none).map (j,·)).map (·.1)=l.filter λj=>(owner.getD j none).isSome
 |[]=>rfl
 |a::l=>by
  have ih:=oW owner l;rw[HD,JZ];cases owner.getD a none with
  |none=>simpa using ih
  |some v=>simpa using ih
theorem ef{mask:Nat}{owner:Array (Option Nat)}(Qb:owner.size=mask+1)(j k:Nat):(j,k)∈dG mask owner↔owner[j]?=some (some k):=by
 unfold dG;rw[Kl];constructor
 ·rintro ⟨a,ha,e⟩;have Pq:a<owner.size:=by rw[Qb];exact Fk.mp ha
  cases hv:owner.getD a none with
  |none=>rw[hv]at e;cases e
  |some v=>
   rw[hv]at e;cases e;have:owner.getD j none=owner[j]:=by simp[Ha,Pq]
   rw[this]at hv;simp[Pq,hv]
 ·intro e;have Pq:=(HI.mp e).1;refine⟨j,Fk.mpr (by lia),?_⟩
  rw[Gy,e];rfl
theorem ux(mask:Nat)(owner:Array (Option Nat)):(dG mask owner).Pairwise λa b=>a.1<b.1:=by
 have:=(LB (n:=mask+1)).filter λj=>(owner.getD j none).isSome
 rw[<-oW owner (Fz (mask+1)),FF]at this;exact this
theorem Bz{l:List Nat}(h:l.Pairwise (· < ·)):Ris l.toArray:=by
 intro i j x y Qi hx hy;rw[Iq]at hx hy;obtain⟨h1,e1⟩:=E1.mp hx;obtain⟨h2,e2⟩:=E1.mp hy;have:=FG.mp h i j h1 h2 Qi;rw[e1,e2]at this;exact this
theorem zJ{mask k:Nat}(h3:3<=k)(hk:mask+1=2 ^ k){hs:Array Int}(hl:hs.size<=mask)(finger moves:Nat)(led plain:Bool):
  ∃t order,laid mask finger moves led plain hs=some (t,order)/\TOk t (order.toList.map λi=>hs.getD i 0)/\order.toList.Perm (Fz hs.size)/\t.mask=mask/\t.led=led/\t.plain=plain/\t.moves=moves:=by
 obtain⟨owner,e,O⟩:=qc hk (hs:=hs) (by lia)
 have pr:=ux mask owner
 have nd:((dG mask owner).map (·.2)).Nodup:=by
  rw[Kg,FF];refine Je ?_ pr;intro a b ha hb QG ee;have h1:=(ef O.sz a.1 a.2).mp ha;have h2:=(ef O.sz b.1 b.2).mp hb;rw[ee]at h1;have:=O.inj a.1 b.1 b.2 h1 h2;lia
 have perm:((dG mask owner).map (·.2)).Perm (Fz hs.size):=by
  refine (Gj nd Lm).mpr λx=>?_
  rw[ER,Fk];constructor
  ·rintro ⟨⟨j,v⟩,hm,rfl⟩;have:=O.lt j v ((ef O.sz j v).mp hm);simpa using this
  ·intro hx;obtain⟨j,hj⟩:=O.all x (by simpa using hx)
   exact⟨(j,x),(ef O.sz j x).mpr hj,rfl⟩
 have len:(dG mask owner).length=hs.size:=by have:=perm.length_eq;simpa using this
 refine⟨_,_,by unfold laid;rw[e];rfl,⟨?_,rfl,⟨k,h3,hk⟩,?_,?_,λi x ee=>?_,λi j h e1 e2=>?_⟩,?_,rfl,rfl,rfl,rfl⟩
 ·show Ris ((dG mask owner).map (·.1)).toArray;exact Bz (by rw[FF];exact pr)
 ·show ((dG mask owner).map (·.1)).toArray.size=_;simp[dG]
 ·show ((dG mask owner).map (·.1)).toArray.size<=mask;simp[len,hl]
 ·change ((dG mask owner).map (·.1)).toArray[i]?=some x at ee
  rw[Iq,ES]at ee;cases q:(dG mask owner)[i]? with
  |none=>rw[q]at ee;cases ee
  |some p=>
   rw[q]at ee;cases ee;have:=(ef O.sz p.1 p.2).mp (E5 q);have:=(HI.mp this).1;show p.1<=mask;have hz:=O.sz;lia
 ·change ((dG mask owner).map (·.1)).toArray[i]?=some j at e1
  change (((dG mask owner).map (·.2)).toArray.toList.map λi=>hs.getD i 0)[i]?=some h at e2
  rw[Iq,ES]at e1;rw[ES,ES]at e2;cases q:(dG mask owner)[i]? with
  |none=>rw[q]at e1;cases e1
  |some p=>
   rw[q]at e1 e2;cases e1;have hp:=(ef O.sz p.1 p.2).mp (E5 q);have Pq:=O.lt _ _ hp
   have e3:hs.toList[p.2]?=some h:=by
    have e4:hs.getD p.2 0=h:=by simpa using e2
    have:p.2<hs.size:=by simpa using Pq
    rw[<-e4];simp[Ha,this]
   obtain⟨m,q1,q2⟩:=O.reach _ _ h hp e3;refine⟨m,q1,λm' hm=>?_⟩
   obtain⟨v,hv⟩:=q2 m' hm;obtain⟨n,hn⟩:=FK.mp ((ef O.sz _ v).mpr hv);refine⟨n,?_⟩;show ((dG mask owner).map (·.1)).toArray[n]?=_;rw[Iq,ES,hn];rfl
 ·show ((dG mask owner).map (·.2)).toArray.toList.Perm _;simpa using perm
variable {prog:EW}{E:EN→EL→Prop}
section
variable {w:Fl}{A:Fm}{s:EL}
abbrev TK(prog:EW)(w:Fl)(h:GD)(k:List Int)(b:EX):Prop:=IsTupleKey (JA prog w) h k b
abbrev hsh(prog:EW)(w:Fl)(k:List Int):Int:=tupleKeyHash (JA prog w) k
theorem TK.ints{h:GD}{k:List Int}{vs:List EN}(x:ItemsAre (JA prog w) k vs):∀v∈vs,∃n t,v=.int n t:=by
 induction x with
 |nil=>intro v hv;simp at hv
 |cons h1 _ ih=>
  intro v hv;rcases EO.mp hv with rfl |hv
  ·obtain⟨t,rfl⟩:=Jz h1;exact⟨_,t,rfl⟩
  ·exact ih v hv
theorem lw{k:List Int}{a:EX}{Q:Bool->EL->Prop}(hk:TK prog w s.heap k a)(h:Q false s):Ff (FE prog w) A (JD 8 (.ref a)) Q E s:=by
 have hT:=hk.typeIs;obtain⟨o,items,n,ho,_,hd,hi⟩:=hk;unfold JD;refine EF (LQ hT ?_);dsimp only;rw[if_pos (by decide)]
 refine EF (EM ?_);simp only[GF,E7,if_false];refine EF (GC ho hd ?_);dsimp only;refine EF ?_;rw[<-Im];refine Ln _ (λrest r s'=>r.1=none/\s'=s/\∀v∈rest,∃n t,v=FX n t) _ ?_ ?_ _ _ ⟨rfl,rfl,TK.ints (h:=s.heap) hi⟩
 ·rintro v rest r s' ⟨hr,rfl,P7⟩;obtain⟨n,t,rfl⟩:=P7 v ET;have e:JD 7 (FX n t)=pure false:=by unfold JD;rfl
  rw[e];refine EF (EM ?_);simp only[E7,if_false];exact EM ⟨rfl,rfl,λu hu'=>P7 u (EJ _ hu')⟩
 ·rintro ⟨r1,r2⟩ s' ⟨hr,rfl,_⟩;simp only at hr;subst hr;exact EM h
theorem Dh{k:List Int}{a:EX}{Q:Bool->EL->Prop}(hk:TK prog w s.heap k a)(h:Q true s):Ff (FE prog w) A (Mo 8 (.ref a)) Q E s:=by
 have hT:=hk.typeIs;obtain⟨o,items,n,ho,_,hd,hi⟩:=hk;unfold Mo;refine EF (Ir hT F.slot_tuple_hash.lookup ?_);show Ff _ _ (KH (.ref a) >>=_) _ _ s;refine EF (GC ho hd ?_);refine EF ?_;show Ff _ _ (forIn items _ _) _ _ s;rw[<-Im];refine Ln _ (λrest r s'=>r.1=none/\s'=s/\∀v∈rest,∃n t,v=FX n t) _ ?_ ?_ _ _ ⟨rfl,rfl,TK.ints (h:=s.heap) hi⟩
 ·rintro v rest r s' ⟨hr,rfl,P7⟩;obtain⟨n,t,rfl⟩:=P7 v ET;have e:Mo 7 (FX n t)=pure true:=by unfold Mo;rfl
  rw[e];refine EF (EM ?_);simp only[GF,E7,if_false];exact EM ⟨rfl,rfl,λu hu'=>P7 u (EJ _ hu')⟩
 ·rintro ⟨r1,r2⟩ s' ⟨hr,rfl,_⟩;simp only at hr;subst hr;exact EM h
theorem qE{k:List Int}{a:EX}{l:List EN}{Q:Bool->EL->Prop}(hk:TK prog w s.heap k a)(hl:∀v∈l,∃k' b,v=.ref b/\TK prog w s.heap k' b)(h:Q false s):
  Ff (FE prog w) A (MT (.ref a) l) Q E s:=by
 unfold MT;refine EF ?_;refine Ln _ (λrest r s'=>r.1=none/\s'=s/\∀v∈rest,∃k' b,v=.ref b/\TK prog w s.heap k' b) _ ?_ ?_ _ _ ⟨rfl,rfl,hl⟩
 ·rintro v rest r s' ⟨hr,rfl,P7⟩;obtain⟨k',b,rfl,hb⟩:=P7 v ET;dsimp only;split
  ·exact EM ⟨rfl,rfl,λu hu'=>P7 u (EJ _ hu')⟩
  ·refine EF (LR hk ?_);simp only[GF,E7,if_false];refine EF (LR hb ?_);simp only[GF,E7,if_false];refine EF (lw hk ?_);simp only[E7,if_false];refine EF (lw hb ?_);simp only[E7,if_false];exact EM ⟨rfl,rfl,λu hu'=>P7 u (EJ _ hu')⟩
 ·rintro ⟨r1,r2⟩ s' ⟨hr,rfl,_⟩;simp only at hr;subst hr;exact EM h
def ents(prog:EW)(w:Fl)(kb:List (List Int×EX)):List (Int×EN):=kb.map λp=>(hsh prog w p.1,.ref p.2)
theorem sM{kb:List (List Int×EX)}{i:Nat}:(ents prog w kb)[i]?=(kb[i]?).map λp=>(hsh prog w p.1,.ref p.2):=by unfold ents;rw[ES]
theorem Au(kb:List (List Int×EX)):(ents prog w kb).map (·.1)=kb.map λp=>hsh prog w p.1:=by unfold ents;rw[Fh];rfl
theorem TOk.fits{t:SetTable}{hs:List Int}(T:TOk t hs){n:Nat}(hn:hs.length=n):t.fits n=true:=by
 have h1:=T.n;have h2:=T.f;have h3:t.fill=t.place.size:=by unfold fill;rw[T.d];rfl
 unfold SetTable.fits;rw[h3];simp[h1,hn];lia
theorem TOk.gave{t:SetTable}{hs:List Int}(T:TOk t hs):t.gaveWay=false:=by
 obtain⟨k,h3,hk⟩:=T.k;unfold SetTable.gaveWay;obtain⟨j,rfl⟩:∃j,k=j+1:=⟨k-1,by lia⟩
 rw[Hw]at hk;have:t.mask%2=1:=by lia
 simp[this]
theorem o3{S:EX}{o:Obj}{es:Array (Int×EN)}{ep:Nat}{t:SetTable}{kb:List (List Int×EX)}{k:List Int}{x:EX}(hu:A.units<H_)
  (ho:s.heap.get? S=some o) (hd:o.data=.set es ep t) (he:es.toList=ents prog w kb) (T:TOk t (kb.map λp=>hsh prog w p.1)) (RK:∀p∈kb,TK prog w s.heap p.1 p.2) (hx:TK prog w s.heap k x)
  {N:Nat} (hN:N<10*turns t.mask) (h0:¬ Liv t (pth t.mask (hsh prog w k) N).j) (h1:∀m,m<N->Liv t (pth t.mask (hsh prog w k) m).j) {Q:SetFound->EL->Prop}
  (qf:(∀p∈kb,p.1≠k)->Q (.free (pth t.mask (hsh prog w k) N).j false) s) (qt:(∃p∈kb,p.1=k)->Q (.there none) s):
  ∀(Py n:Nat) (QP:Option Probe),n<=N->N-n<Py->QP.getD (t.probeStart (hsh prog w k))=pth t.mask (hsh prog w k) n->
   (∀(m i:Nat) (p:List Int×EX),m<n->t.place[i]?=some (pth t.mask (hsh prog w k) m).j->kb[i]?=some p->p.1≠k)->
   Ff (FE prog w) A (K8 S (.ref x) (hsh prog w k) true Py QP) Q E s:=by
 have Qb:es.size=kb.length:=by rw[<-E6,he];simp[ents]
 have Qo:t.fits es.size=true:=T.fits (by rw[EH,Qb])
 have eat:∀i:Nat,es[i]?=(kb[i]?).map λ(p:List Int×EX)=>(hsh prog w p.1,Fs p.2):=λi=>by rw[<-FS,he,sM]
 intro Py
 induction Py with
 |zero=>intro n QP _ h;lia
 |succ Py ih=>
  intro n QP hn hf Qs Q1;unfold K8;refine EF (Hb ho hd Qo ?_);dsimp only;rw[T.gave];simp only[E7,if_false];rw[Qs];have hash:∀(i:Nat) (p:List Int×EX),kb[i]?=some p->((es[i]?.map (λ(e:Int×EN)=>e.1)).getD 0:Int)=hsh prog w p.1:=λi p hp=>by rw[eat,hp];rfl
  have pg:=pQ T (λ(i:Nat)=>(es[i]?.map (λ(e:Int×EN)=>e.1)).getD 0) (hsh prog w k) h0 h1 (10*turns t.mask) n hn (by lia)
  split
  ·rename_i met hmet
   rcases pg with ⟨e,Pn⟩ |⟨m,i,hnm,hmN,Qe,hhi,e,hbef⟩
   ·have q:some met=some (.empty (pth t.mask (hsh prog w k) N).j none):=hmet.symm.trans e;cases q;dsimp only;refine EM (qf λp hp Q9=>?_)
    obtain⟨i,hi⟩:=FK.mp hp;obtain⟨m,j,hm,Qe,hj⟩:=wt T (h:=hsh prog w k) h0 (i:=i) (by rw[ES,hi,<-Q9];rfl)
    rcases GH m n with Sm |Sm
    ·exact Q1 m i p Sm (by rw[hj];exact Qe) hi Q9
    ·exact Pn m i Sm hm (by rw[hj];exact Qe) (by rw[hash i p hi,Q9])
   ·have q:some met=some (.candidate (pth t.mask (hsh prog w k) m).j i (pth t.mask (hsh prog w k) (m+1))):=hmet.symm.trans e;cases q;dsimp only;have hik:i<kb.length:=by rw[<-Qb,<-show t.place.size=es.size by rw[T.n,EH,Qb]];exact tF Qe
    obtain⟨p,hp⟩:∃p,kb[i]?=some p:=⟨_,EG hik⟩;have hpm:p∈kb:=E5 hp;have hei:es[i]?=some (hsh prog w p.1,Fs p.2):=by rw[eat,hp];rfl
    have rest:Ff (FE prog w) A (do
      let Ss <-Nq [Fs p.2] (eqBool (Fs p.2) (.ref x))
      let (es',_,t') <-setState S
      if true && Ss then return .there none
      let some same:=t'.sameMemory t.moves t.mask |Nz "set.changed-during-lookup:is-the-new-block-at-the-old-address"
      let still <-match (if same then t'.slot (pth t.mask (hsh prog w k) m).j else .empty) with
       | .live i'=>match es'[i']? with
        |some (_,y')=>do pure (if <-isSame y' (Fs p.2) then some i' else none)
        |none=>pure none
       |_=>pure none
      match still with
      |none=>rule "set.search.anew";K8 S (.ref x) (hsh prog w k) true Py none
      |some i'=>if Ss then return .there (some i') else K8 S (.ref x) (hsh prog w k) true Py (some (pth t.mask (hsh prog w k) (m+1)))) Q E s:=by
     refine EF (F7 (HN hu (RK p hpm) hx ?_));refine EF (Hb ho hd Qo ?_);dsimp only;by_cases Q9:p.1=k
     ·rw[decide_eq_true Q9];simp only[Bool.and_self,if_true];exact EM (qt ⟨p,hpm,Q9⟩)
     ·rw[decide_eq_false Q9];simp only[Kt,E7,if_false];have hsm:t.sameMemory t.moves t.mask=some true:=by unfold SetTable.sameMemory;simp
      rw[hsm];dsimp only;rw[if_pos rfl,mm T.R Qe];dsimp only;rw[hei];dsimp only;refine EF (wpAny_isSame_ref_self ?_);refine EF (EM ?_);simp only[if_true];refine ih (m+1) (some (pth t.mask (hsh prog w k) (m+1))) (by lia) (by lia) rfl λm' i' p' hm' hpl' Qz=>?_
      rcases GH m' n with z |z
      ·exact Q1 m' i' p' z hpl' Qz
      ·rcases Fq (GW hm') with y |y
       ·have:=hbef m' i' z y hpl';intro e';exact this (by rw[hash i' p' Qz,e'])
       ·subst y;have ei:=T.R.inj Qe hpl';subst ei;rw[hp]at Qz;cases Qz;exact Q9
    by_cases hled:t.led=true
    ·rw[hled];simp only[GF,E7,if_false];rw[hei];exact rest
    ·rw[show t.led=false by simpa using hled]
     simp only[HU,if_true];refine EF (qE hx (λv hv=>?_) ?_)
     ·obtain⟨e',he',rfl⟩:=ER.mp hv
      have hm':e'∈es.toList:=by
       have:=J1.mp he';exact J1.mpr (Array.mem_filter.mp this).1
      rw[he]at hm';obtain⟨p',Qz,rfl⟩:=ER.mp hm';exact⟨p'.1,p'.2,rfl,RK p' Qz⟩
     ·simp only[E7,if_false];rw[hei];exact rest
  ·rename_i Qw
   rcases pg with ⟨e,Pn⟩ |⟨m,i,hnm,hmN,Qe,hhi,e,hbef⟩
   ·exact absurd e (Qw _)
   ·exact absurd e (Qw _)
structure SP(prog:EW)(w:Fl)(h:GD)(S:EX)(kb:List (List Int×EX)):Prop where
 ex:∃o es ep t,h.get? S=some o∧o.ExactSet∧o.data=.set es ep t∧es.toList=ents prog w kb∧TOk t (kb.map λp=>hsh prog w p.1)∧t.led=(!w.params.followText "set-order")∧t.plain=true∧t.tooFull=false∧t.mask<8*kb.length+8
 keys:∀p∈kb,TK prog w h p.1 p.2
 nd:(kb.map (·.1)).Nodup
theorem TK.keep{h h':GD}{k:List Int}{b S:EX}{o:Obj}{es ep t}(x:TK prog w h k b)(ho:h.get? S=some o)(hd:o.data=.set es ep t)(hs:Ja S h h'):TK prog w h' k b:=by
 obtain⟨o',items,n,Qu,hc,QF,hi⟩:=x
 have Pn:b≠S:=by
  rintro rfl;obtain rfl:o'=o:=FY (Qu.symm.trans ho);rw[hd]at QF;exact nomatch QF
 exact⟨o',items,n,(hs.2 b Pn).trans Qu,hc,QF,hi⟩
theorem rM(x:EX)(es:Array (Int×EN)):byScan (.ref x) es=false:=by simp[byScan,Value.scannable]
theorem oJ{α β:Type}(f:α->β)(xs:List α)(p:Nat)(x:α):(gF xs p x).map f=gF (xs.map f) p (f x):=by
 unfold gF;rw[FC,E2,OA,OB]
theorem fk{α:Type}(xs:List α)(p:Nat)(x:α):(gF xs p x).Perm (xs++[x]):=by
 unfold gF;refine Lo.trans ?_;rw[JR];exact (Kh x xs).symm
theorem pW{α β:Type}{kb:List α}(f:α->β)(d:β):∀(o:List Nat),(∀i∈o,i<kb.length)->o.map (λi=>((kb.map f).toArray).getD i d)=(o.filterMap λi=>kb[i]?).map f
 |[],_=>rfl
 |i::o,h=>by
  have hi:=h i ET;rw[E2,HD,EG hi,pW f d o λj hj=>h j (EJ _ hj)]
  simp[Ha,hi]
theorem vm{α:Type}{kb:List α}{o:List Nat}(h:o.Perm (Fz kb.length)):(o.filterMap λi=>kb[i]?).Perm kb:=by
 refine (h.filterMap _).trans ?_
 suffices (Fz kb.length).filterMap (λi=>kb[i]?)=kb by rw[this]
 have:∀(l pre:List α),(List.range' pre.length l.length).filterMap (λi=>(pre++l)[i]?)=l:=by
  intro l
  induction l with
  |nil=>intro pre;rfl
  |cons x l ih=>
   intro pre;rw[FN,List.range'_succ,HD];have e:(pre++x::l)[pre.length]?=some x:=by rw[Fd (EU _)];simp
   rw[e];have:=ih (pre++[x]);rw[JE,FJ]at this;simpa using this
 have q:=this kb [];simpa [List.range_eq_range'] using q
theorem AB{t:SetTable}{hs:List Int}(T:TOk t hs)(h:t.tooFull=false):t.place.size+1<=t.mask:=by
 obtain⟨k,h3,hk⟩:=T.k;have hf:t.fill=t.place.size:=by unfold fill;rw[T.d];rfl
 have h8:2 ^ 3<=2 ^ k:=IP (by decide) h3
 unfold tooFull at h;rw[hf]at h;simp at h;lia
theorem CY{S:EX}{o:Obj}{es:Array (Int×EN)}{ep:Nat}{t:SetTable}{kb:List (List Int×EX)}{Q:Unit->EL->Prop}(ho:s.heap.get? S=some o)(hex:o.ExactSet)(hd:o.data=.set es ep t)(he:es.toList=ents prog w kb)
  (T:TOk t (kb.map λp=>hsh prog w p.1)) (hl:t.led=(!w.params.followText "set-order")) (hp:t.plain=true) (RK:∀p∈kb,TK prog w s.heap p.1 p.2) (QX:(kb.map (·.1)).Nodup) (h1:0<kb.length) (hn:kb.length≤1000)
  (h:∀h' QM,Ja S s.heap h'->SP prog w h' S QM->QM.Perm kb->Q () {s with heap:=h' }):Ff (FE prog w) A (setRelay S (grown kb.length)) Q E s:=by
 have Qb:es.size=kb.length:=by rw[<-E6,he];simp[ents]
 have Qo:t.fits es.size=true:=T.fits (by rw[EH,Qb])
 have eat:∀i:Nat,es[i]?=(kb[i]?).map λ(p:List Int×EX)=>(hsh prog w p.1,Fs p.2):=λi=>by rw[<-FS,he,sM]
 have hg:grown kb.length=kb.length*4:=by unfold grown;rw[if_neg (by lia)]
 rw[hg];obtain⟨k,k3,ek,lk,uk⟩:=above (kb.length*4) (by lia)
 have Rx:(sizeAbove (kb.length*4)-1)+1=2 ^ k:=by lia
 obtain⟨t',order,e,T',hord,em,el,ep',_⟩:=zJ k3 Rx (hs:=es.map (·.1)) (by rw[NY,Qb];lia) t.finger (t.movedTo (sizeAbove (kb.length*4)-1)) t.led t.plain
 have hrel:t.relaid (es.map (·.1)) (kb.length*4)=some (t',order):=e;have Ry:order.toList.Perm (Fz kb.length):=by rw[NY,Qb]at hord;exact hord
 have Pq:∀i∈order.toList,i<kb.length:=λi hi=>Fk.mp (Ry.mem_iff.mp hi)
 have Q9:=vm Ry
 have hes:(order.filterMap (λi=>es[i]?)).toList=ents prog w (order.toList.filterMap λi=>kb[i]?):=by
  rw[Array.toList_filterMap];unfold ents;rw[List.map_filterMap];congr 1
  funext i
  rw[eat]
 have hes2:(order.filterMap (λi=>es[i]?)).size=es.size:=by
  rw[<-E6,hes,Qb];unfold ents;rw[EH,Q9.length_eq]
 unfold setRelay;refine EF (Hb ho hd Qo ?_);dsimp only;rw[if_neg (by rw[ek,Gg];lia),hrel]
 have goal:Ff (FE prog w) A (do
   if (order.filterMap (λi=>es[i]?)).size !=es.size then Nz "internal:set-table-lost-an-element"
   pure (order.filterMap (λi=>es[i]?),t'):Sem (Array (Int×EN)×SetTable)) (λr s'=>Ff (FE prog w) A (storeSet S r.1 r.2) Q E s') E s:=by
  rw[hes2];simp only[bne_self_eq_false,E7,if_false];refine EM ?_;refine MU ho hd ?_ (by rw[hes2,Qb,Gg];lia)
  have hg':(s.heap.update S (JF (order.filterMap (λi=>es[i]?)) t')).get? S=some {o with data:=.set (order.filterMap (λi=>es[i]?)) (ep+1) t' }:=by
   have:=FL (JF (order.filterMap (λi=>es[i]?)) t') ho (by rw[NA _ t' hd];rfl)
   rw[NA _ t' hd]at this;exact this
  have QQ:=Ih s.heap S (JF (order.filterMap (λi=>es[i]?)) t')
  refine h _ (order.toList.filterMap λi=>kb[i]?) QQ ⟨⟨_,_,_,t',hg',hex,rfl,hes,?_,by rw[el];exact hl,by rw[ep'];exact hp,?_,?_⟩,λp Qz=>?_,?_⟩ Q9
  ·have:=pW (kb:=kb) (λp=>hsh prog w p.1) 0 order.toList Pq
   rw[<-this]
   have e2:(es.map (·.1))=((kb.map λp=>hsh prog w p.1)).toArray:=by
    apply Lp.mp;rw[Lq,he,Au]
   rw[e2]at T';exact T'
  ·have hf:t'.fill=t'.place.size:=by unfold fill;rw[T'.d];rfl
   have RM:=T'.n;rw[EH,Ry.length_eq,JG]at RM;unfold tooFull;rw[hf,RM,em];simp;lia
  ·rw[em,Q9.length_eq];lia
  ·exact (RK p (Q9.mem_iff.mp Qz)).keep ho hd QQ
  ·exact ((Q9.map (·.1)).nodup_iff).mpr QX
 exact EF goal
theorem qw{S x:EX}{kb:List (List Int×EX)}{k:List Int}{Q:Bool->EL->Prop}(hu:A.units<H_)(P:SP prog w s.heap S kb)(hx:TK prog w s.heap k x)(hn:kb.length<1000)
  (h:∀b h' QM,Ja S s.heap h'->SP prog w h' S QM->(if k∈kb.map (·.1) then QM=kb else QM.Perm (kb++[(k,x)]))->Q b {s with heap:=h' }):
  Ff (FE prog w) A (setAddHashed S (.ref x) (hsh prog w k)) Q E s:=by
 obtain⟨⟨o,es,ep,t,ho,hex,hd,he,T,hl,hp,Su,Rx⟩,RK,QX⟩:=P;have P0:SP prog w s.heap S kb:=⟨⟨o,es,ep,t,ho,hex,hd,he,T,hl,hp,Su,Rx⟩,RK,QX⟩;have Qb:es.size=kb.length:=by rw[<-E6,he];simp[ents]
 have Qo:t.fits es.size=true:=T.fits (by rw[EH,Qb])
 obtain⟨N,hN,h0,h1⟩:=qJ T (hsh prog w k);have hN':N<100000:=by unfold turns at hN;lia
 unfold setAddHashed setAddHashedIn;refine F7 (EF (Hb ho hd Qo ?_));dsimp only;rw[rM];simp only[E7,if_false];unfold setSearch;refine EF (o3 hu ho hd he T RK hx hN h0 h1 (λQw=>?_) (λhyes=>?_) 100000 0 none (FU _) (by lia) rfl λm i p hm=>by lia)
 ·dsimp only;have hk:k ∉ kb.map (·.1):=λz=>by obtain⟨p,Qz,e⟩:=ER.mp z;exact Qw p Qz e
  refine EF (Hb ho hd Qo ?_);dsimp only;generalize hj:(pth t.mask (hsh prog w k) N).j=j at *;have T1:=T.put (h:=hsh prog w k) (N:=N) (by rw[hj];exact h0) h1 (by have:=yC (mask:=t.mask) (hsh prog w k) N;lia) (AB T Su)
  rw[hj]at T1;have epl:(t.put j).1.plain=true:=hp;have eled:(t.put j).1.led=(!w.params.followText "set-order"):=hl;have emask:(t.put j).1.mask=t.mask:=rfl;generalize (t.put j).1=t1 at *;generalize (t.put j).2=q at *;have QU:(gF kb q (k,x)).length=kb.length+1:=by rw[(fk kb q (k,x)).length_eq];simp
  have he1:(insertAt es q (hsh prog w k,Fs x)).toList=ents prog w (gF kb q (k,x)):=by
   rw[fg,he];unfold ents;rw[oJ];rfl
  have hsz1:(insertAt es q (hsh prog w k,Fs x)).size=kb.length+1:=by
   rw[<-E6,he1];unfold ents;rw[EH,QU]
  have T2:TOk t1 ((gF kb q (k,x)).map λp=>hsh prog w p.1):=by rw[oJ];exact T1
  rw[if_pos epl];refine EF (Dh hx ?_);rw[if_pos rfl]
  have hg1:(s.heap.update S (JF (insertAt es q (hsh prog w k,Fs x)) t1)).get? S=some {o with data:=.set (insertAt es q (hsh prog w k,Fs x)) (ep+1) t1 }:=by
   have:=FL (JF (insertAt es q (hsh prog w k,Fs x)) t1) ho (by rw[NA _ t1 hd];rfl)
   rw[NA _ t1 hd]at this;exact this
  have QQ:=Ih s.heap S (JF (insertAt es q (hsh prog w k,Fs x)) t1)
  have hkb1:∀p∈gF kb q (k,x),TK prog w (s.heap.update S (JF (insertAt es q (hsh prog w k,Fs x)) t1)) p.1 p.2:=λp Qz=>by
   have:=(fk kb q (k,x)).mem_iff.mp Qz;rcases Fx.mp this with z |z
   ·exact (RK p z).keep ho hd QQ
   ·rw[EV.mp z];exact hx.keep ho hd QQ
  have hnd1:((gF kb q (k,x)).map (·.1)).Nodup:=by
   rw[((fk kb q (k,x)).map (·.1)).nodup_iff,FC,Hy];refine⟨QX,by simp,λa ha b hb=>?_⟩
   simp at hb;subst hb;rintro rfl;exact hk ha
  refine EF (MU ho hd ?_ (by rw[hsz1,Gg];lia))
  rw[HU,IG];by_cases hft:t1.tooFull=true
  ·rw[if_pos hft,Qb,<-QU];refine EF (CY (s:={s with heap:=s.heap.update S (JF (insertAt es q (hsh prog w k,Fs x)) t1) }) hg1 hex rfl he1 T2 eled epl hkb1 hnd1 (by lia) (by lia) λh' QM hsb' P' pm=>EM ?_)
   exact h true h' QM (QQ.trans hsb') P' (by rw[if_neg hk];exact pm.trans (fk kb q (k,x)))
  ·rw[if_neg hft];refine EM (h true _ (gF kb q (k,x)) QQ ⟨⟨_,_,_,t1,hg1,hex,rfl,he1,T2,eled,epl,by simpa using hft,by rw[emask,QU];lia⟩,hkb1,hnd1⟩ (by rw[if_neg hk];exact fk kb q (k,x)))
 ·dsimp only;refine EM ?_;have hk:k∈kb.map (·.1):=by obtain⟨p,Qz,e⟩:=hyes;exact ER.mpr ⟨p,Qz,e⟩
  exact h false s.heap kb (MV S s.heap) P0 (by rw[if_pos hk])
theorem TK.moved{s s':EL}{wr:List EX}{G:Array ID->Array ID->Prop}{k:List Int}{b:EX}(x:TK prog w s.heap k b)(hb:b ∉ wr)(m:Moved wr G s s'):TK prog w s'.heap k b:=by
 obtain⟨o,Pj,n,ho,hc,hd,hi⟩:=x;exact⟨o,Pj,n,m.heap b o hb ho,hc,hd,hi⟩
theorem SP.moved{s s':EL}{wr:List EX}{G:Array ID->Array ID->Prop}{S:EX}{kb:List (List Int×EX)}(x:SP prog w s.heap S kb)(hS:S ∉ wr)(hb:∀p∈kb,p.2 ∉ wr)(m:Moved wr G s s'):SP prog w s'.heap S kb:=by
 obtain⟨⟨o,es,ep,t,ho,r⟩,hk,hn⟩:=x;exact⟨⟨o,es,ep,t,m.heap S o hS ho,r⟩,λp hp=>(hk p hp).moved (hb p hp) m,hn⟩
structure Got(kx:Nat->List Int×EX)(i:Nat)(kb:List (List Int×EX)):Prop where
 src:∀p∈kb,∃j,j<i/\p=kx j
 all:∀j,j<i->(kx j).1∈kb.map (·.1)
 len:kb.length<=i
variable {R:M4→EL→Prop}{I:EX}{fp wr:List EX}{G:Array ID→Array ID→Prop}{n:Nat}{P:Nat→EN→Prop}{St:Nat→EL→Prop}
theorem xB(W:WalksS prog w A.in1 I fp wr G n P St)(hu:A.in1.units<H_){S:EX}(Qq:S ∉ fp)(kx:Nat->List Int×EX)(hP:∀i v,P i v->v=.ref (kx i).2)(hwr:∀i,i<n->(kx i).2 ∉ wr)(hn:n<=1000):
  ∀(k i:Nat) (s:EL) (kb:List (List Int×EX)),n-i=k->i<=n->St i s->SP prog w s.heap S kb->Got kx i kb->(∀j,j<n->TK prog w s.heap (kx j).1 (kx j).2)->
   (∀s' QM,Moved (S::wr) G s s'->SP prog w s'.heap S QM->Got kx n QM->R (.ok (.ret .none)) s')->
   Ip (FE prog w) A (.builtin "set.update.loop" ⟨[.ref S,.ref I],[]⟩) R s:=by
 have hSw:S ∉ wr:=λh=>Qq (W.sub _ h)
 have more:∀b∈wr,b∈S::wr:=λb hb=>EJ _ hb
 intro k
 induction k with
 |zero=>
  intro i s kb hk hi st hS g tk hR;obtain rfl:i=n:=by lia
  refine Gz PyProof.Rows.F.entry_set_update_loop ?_;rw[F9 PyProof.Rows.F.plain_set_update_loop _];show Ff _ A.in1 (IT (.ref I) >>=_) _ _ s;refine EF (W.done s _ _ st λs' m=>?_)
  exact EM (hR s' kb (m.mono more) (hS.moved hSw (λp hp=>by obtain⟨j,hj,rfl⟩:=g.src p hp;exact hwr j hj) m) g)
 |succ k ih=>
  intro i s kb hk hi st hS g tk hR;have Pq:i<n:=by lia
  have RK:∀p∈kb,p.2 ∉ wr:=λp hp=>by obtain⟨j,hj,rfl⟩:=g.src p hp;exact hwr j (by lia)
  refine Gz PyProof.Rows.F.entry_set_update_loop ?_;rw[F9 PyProof.Rows.F.plain_set_update_loop _];show Ff _ A.in1 (IT (.ref I) >>=_) _ _ s;refine EF (W.item i s _ _ Pq st λv s1 pv st1 m=>?_)
  obtain rfl:=hP i v pv;have hS1:=hS.moved hSw RK m;have tk1:∀j,j<n->TK prog w s1.heap (kx j).1 (kx j).2:=λj hj=>(tk j hj).moved (hwr j hj) m
  show Ff _ A.in1 (Nq [Fs (kx i).2] (setAdd S (.ref (kx i).2)) >>=_) _ _ s1;refine EF (F7 ?_);unfold setAdd;refine F7 (EF (wpAny_pyHash_tuple hu (tk1 i Pq) ?_));refine qw (s:={s1 with toks:=s1.toks+((kx i).1.length+1) }) hu hS1 (tk1 i Pq) (by have:=g.len;lia) λb h' QM sb hS2 hkk=>?_
  obtain⟨⟨o,es,ep,t,ho,hex,hd,hrest⟩,hks,QX⟩:=hS1;have same:∀b o,b ∉ S::wr->s1.heap.get? b=some o->h'.get? b=some o:=λb o hb e=>by rw[sb.2 b (λz=>hb (by rw[z];exact ET))];exact e
  refine EM ⟨Gu PyProof.Rows.F.plain_set_update_loop _,ih (i+1) _ QM (by lia) Pq (W.frame _ s1 _ _ st1 (by show s1.toks<=s1.toks+_;lia) λb hb o e=>?_) hS2 ?_ (λj hj=>(tk1 j hj).keep ho hd sb) λs2 kb2 m2 hS3 g2=>?_⟩
  ·rw[sb.2 b (λz=>Qq (by rw[<-z];exact hb))];exact e
  ·by_cases RU:(kx i).1∈kb.map (·.1)
   ·rw[if_pos RU]at hkk;subst hkk;refine⟨λp hp=>?_,λj hj=>?_,by have:=g.len;lia⟩
    ·obtain⟨j,hj,e⟩:=g.src p hp;exact⟨j,by lia,e⟩
    ·rcases Fq (GW hj) with z |z
     ·exact g.all j z
     ·rw[z];exact RU
   ·rw[if_neg RU]at hkk;refine⟨λp hp=>?_,λj hj=>?_,by rw[hkk.length_eq];have:=g.len;simp;lia⟩
    ·rcases Fx.mp (hkk.mem_iff.mp hp) with z |z
     ·obtain⟨j,hj,e⟩:=g.src p z;exact⟨j,by lia,e⟩
     ·exact⟨i,GO i,by rw[EV.mp z]⟩
    ·rw[(hkk.map (·.1)).mem_iff,FC];rcases Fq (GW hj) with z |z
     ·exact Fv _ (g.all j z)
     ·rw[z];exact E_ _ (by simp)
  ·exact hR s2 kb2 (Moved.trans W.gtrans ((m.mono more).then_heap (by show s1.toks<=s1.toks+_;lia) same) m2) hS3 g2
end
section
variable {w:Fl}{A:Fm}{s:EL}
abbrev cu(w:Fl):Obj:={cls:=.type "set",dict:=none,data:=.set #[] 0 (.fresh 0 0 (!w.params.followText "set-order")) }
theorem yl:TOk (.fresh 0 0 (!w.params.followText "set-order")) [] where
 R:=by intro i j x y _ h;simp[SetTable.fresh]at h
 d:=rfl
 k:=⟨3,by decide,rfl⟩
 n:=rfl
 f:=by show 0<=7;decide
 le:=by intro i x h;simp[SetTable.fresh]at h
 reach:=by intro i x h hi;simp[SetTable.fresh]at hi
theorem wH{h:GD}{S:EX}(e:h.get? S=some (cu w)):SP prog w h S []:=by
 refine⟨⟨_,_,_,_,e,⟨rfl,rfl,rfl⟩,rfl,rfl,yl,rfl,rfl,by simp[SetTable.tooFull,SetTable.fresh,SetTable.fill],by show 7<8;decide⟩,λp hp=>by simp at hp,by simp⟩
theorem y3(a:EN){Q:EN->EL->Prop}(h:Q (.ref s.heap.objs.size) {s with heap:=s.heap.push (cu w) }):
  Ip (FE prog w) A (.call (.builtin "set.__new__") ⟨[.type "set",a],[]⟩) (wants Q E) s:=by
 refine NB ?_;show Ff _ A.in1 (do checkBuiltinCall "set.__new__" ⟨[.type "set",a],[]⟩;again (.builtin "set.__new__" ⟨[.type "set",a],[]⟩)) _ _ s
 refine EF (Mp (PySem.F.newCall_set_1 a) (EM ⟨Gu LS _,Gz PySem.F.entry_set_new ?_⟩));rw[F9 LS _];unfold Builtin.«set.__new__» Builtin.Frozenset.newClass;have hsub:=sub_set_self;obtain⟨hp,g,d,tk,os⟩:=s;dsimp only
 wp_walk
 refine IY (EM ?_);dsimp only;simp only[newObj];exact EF (wpAny_alloc (EM (EM h)))
set_option maxRecDepth 100000 in
theorem call_set_pts{l:EX}{items:Array EN}{Q:EN->EL->Prop}(kx:Nat->List Int×EX)(hh:A.handled=none)(hu:A.in1.in1.in1.units<H_)(hl:s.heap.IsList l items)
  (Qx:∀(i:Nat) (v:EN),items[i]?=some v->v=.ref (kx i).2) (QE:∀i,i<items.size->TK prog w s.heap (kx i).1 (kx i).2) (hn:items.size<=1000)
  (h:∀(h':GD) (tk:Nat) (kb:List (List Int×EX)),SP prog w h' s.heap.objs.size kb->Got kx items.size kb->(∀b o,s.heap.get? b=some o->h'.get? b=some o)->Q (.ref s.heap.objs.size) {s with heap:=h',toks:=tk }):
  Ff (FE prog w) A (call (.type "set") [.ref l]) Q E s:=by
 obtain⟨cc,tl,hmro⟩:=G0.mro;have hmade:=G0.made;have hsub:=G0.sub;refine wpAny_call (NB ?_);show Ff _ _ (callAny (.type "set") _) _ _ _;refine EM ⟨Code.quiet_builtin _ (by decide+kernel),Gz PySem.F.entry_type_call ?_⟩
 rw[Around.under_plain (weight_type_call_type "set" [.ref l] []) rfl];have g1:=G0.notType;have g2:=G0.canCreate;have g3:=PySem.F.typeCall_set_1 (.ref l)
 repeat (any_goals (first |assumption |wp_step))
 refine JP (y3 (w:=w) (.ref l) (E:=E) (Q:=λobj Po=>obj=.ref s.heap.objs.size/\Po={s with heap:=s.heap.push (cu w) }) ⟨rfl,rfl⟩) λr Po hr=>?_
 cases r with
 |error e=>exact hr
 |ok fl=>
  cases fl with
  |ret obj=>
   obtain⟨rfl,rfl⟩:=hr;have hS:(s.heap.push (cu w)).get? s.heap.objs.size=some (cu w):=E3 _ rfl;have hT:Shared.TypeIs {s with heap:=s.heap.push (cu w) } (.ref s.heap.objs.size) "set":=⟨_,hS,rfl⟩
   have hli:=G0.init.lookup;have hbi:=G0.init.bind (.ref s.heap.objs.size)
   repeat (any_goals (first |assumption |wp_step))
   refine JP (codeAny_call_builtin (R:=wants (λr RO=>r=.none/\∃h' tk kb,RO={s with heap:=h',toks:=tk }/\
     SP prog w h' s.heap.objs.size kb/\Got kx items.size kb/\(∀b o,s.heap.get? b=some o->h'.get? b=some o)) E) G0.init.plain PySem.F.entry_set_init (check_set_init_1 hT ?_)) λr₂ RO Rz=>?_
   ·obtain⟨ol,hol,hcl,nl,hdl⟩:=hl;obtain⟨ocls,odict,odata,oslots⟩:=ol;simp only at hcl hdl;subst hcl;subst hdl;have hol':(s.heap.push (cu w)).get? l=some {cls:=.type "list",dict:=odict,data:=.seq items nl,slots:=oslots }:=EK _ hol;have k1:=PySem.F.sub_list_set;have k2:=PySem.F.sub_list_frozenset;have k3:(Gd "list"==Gd "dict")=false:=by decide
    have Qc:(s.heap.push (cu w)).IsList l items:=⟨_,hol',rfl,nl,rfl⟩;unfold Builtin.«set.__init__» noKeywords Builtin.Frozenset.updateFrom;generalize hPI:M3=PI
    wp_walk
    subst hPI;refine G_ Qc (EF (wpAny_runValue ?_));have hlS:l<s.heap.objs.size:=EY hol;have h3:A.in1.in1.in1.handled=none:=by simp[hh]
    have szI:(s.heap.push (cu w)).objs.size=s.heap.objs.size+1:=GM ..;have hneI:l≠(s.heap.push (cu w)).objs.size:=by rw[szI];exact Ft (GV hlS)
    have Qq:s.heap.objs.size ∉ [(s.heap.push (cu w)).objs.size,l]:=by
     rw[szI];intro z;rcases EO.mp z with z |z
     ·exact absurd z (Ft (GO _))
     ·exact absurd (EV.mp z) (Io hlS)
    refine xB ((Walks.list h3 _ l hneI items).toS) hu Qq kx Qx (λi hi=>?_) hn (items.size-0) 0 _ [] (by lia) (FU _)
     ⟨⟨_,E3 _ rfl,rfl,rfl⟩,(Qc.push _)⟩ ?_ ⟨λp hp=>by simp at hp,λj hj=>by lia,by simp⟩ (λj hj=>?_) λs' kb m QV g=>?_
    ·intro z;have z':=EV.mp z;obtain⟨o,_,_,ho,_⟩:=QE i hi;have:=EY ho;rw[z',szI]at this;exact FA _ (LO (GO _) this)
    ·exact wH (EK _ hS)
    ·obtain⟨o,Pj,k,ho,r⟩:=QE j hj;exact⟨o,Pj,k,EK _ (EK _ ho),r⟩
    ·obtain⟨h',g',d',tk',os'⟩:=s';obtain rfl:g'=s.gens:=m.gens;obtain rfl:d'=s.drawn:=m.drawn;obtain rfl:os'=s.os:=m.os;refine EM ?_;show Ff _ _ (ret Fj) _ _ _;refine EM ⟨rfl,h',tk',kb,rfl,QV,g,λb o e=>?_⟩
     have hb:=EY e;refine m.heap b o (λz=>?_) (EK _ (EK _ e))
     rcases EO.mp z with z |z
     ·exact absurd z (Ft hb)
     ·have z':=EV.mp z;rw[z',szI]at hb;exact FA _ (LO (GO _) hb)
   ·cases r₂ with
    |error e=>exact Rz
    |ok fl₂=>
     cases fl₂ with
     |ret r=>
      obtain⟨rfl,h',tk,kb,rfl,QV,g,Sr⟩:=Rz
      repeat (any_goals (first |assumption |wp_step))
      exact h _ _ kb QV g Sr
     |_=>exact Rz.elim
  |_=>exact hr.elim
end
theorem d6:Slot "set_iterator" "__next__" "set_iterator.__next__":=
 .of (owner:="set_iterator") (n:="__next__") (by rw[Iu,Hi];kernel_rfl) (by decide+kernel) (by decide+kernel) (by decide+kernel) (by first |exact .inl (by decide+kernel) |exact .inr (by decide+kernel)) (by rw[JO];kernel_rfl)
theorem jH:entryFor table "set_iterator.__next__"=some Builtin.«set_iterator.__next__»:=entryFor_of_tree (by kernel_rfl)
theorem ly(a:EN):argsOk "set_iterator.__next__" ⟨[a],[]⟩:=by unfold argsOk;kernel_rfl
theorem qT:entryFor table "set.__iter__"=some Builtin.«frozenset.__iter__»:=NZ (id':="frozenset.__iter__") (by kernel_rfl) rfl (by decide+kernel) (by kernel_rfl)
theorem rA{α:Type}{l:List α}{i:Nat}(h:i<l.length):(l[i]::l.eraseIdx i).Perm l:=by
 rw[List.eraseIdx_eq_take_drop_succ];refine Lo.symm.trans ?_;rw[<-List.drop_eq_getElem_cons h,JR]
theorem tj{α:Type}(next:Nat->Nat):∀(Py k:Nat) (left:List α) (out:Array α),left.length=Py->(pickOrder.go next Py k left out).toList.Perm (out.toList++left)
 |0,k,left,out,h=>by
  obtain rfl:left=[]:=GE.mp h;rw[pickOrder.go,HE]
 |Py+1,k,left,out,h=>by
  have hi:next k%left.length<left.length:=Hn _ (by lia)
  rw[pickOrder.go,EG hi];refine (tj next Py (k+1) _ _ (by rw[List.length_eraseIdx_of_lt hi];lia)).trans ?_
  rw[Array.toList_push,JE];refine LU _ ?_;rw[List.singleton_append];exact rA hi
theorem wE{α:Type}(next:Nat->Nat)(xs:Array α):(ME next xs).toList.Perm xs.toList:=by
 unfold ME;have:=tj next xs.size 0 xs.toList #[] (by simp)
 simpa using this
section
variable {w:Fl}{A:Fm}{s:EL}
def cB(w:Fl)(S:EX)(es:Array (Int×EN))(ep:Nat):List EN:=(if w.params.followText "set-order"=true then ME (w.params.setOrder S ep) es else es).toList.map (·.2)
theorem fi(w:Fl)(S:EX)(es:Array (Int×EN))(ep:Nat):(cB w S es ep).Perm (es.toList.map (·.2)):=by
 unfold cB;refine List.Perm.map _ ?_;split
 ·exact wE _ es
 ·exact Kv _
def f9(t:SetTable):Nat->Nat
 |0=>0
 |j+1=>t.place.getD j 0+1
def be(w:Fl)(t:SetTable)(i:Nat):Nat:=if w.params.followText "set-order"=true then 0 else f9 t i
def qM(w:Fl)(h:GD)(it S:EX)(t:SetTable)(i n ep:Nat):Prop:=∃o,h.get? it=some o∧o.cls=.type "set_iterator"∧o.data=.fields #[Kj (be w t i),Kj i,.ref S,Kj n,Kj ep]
theorem qM.ty{it S:EX}{t:SetTable}{i n ep:Nat}(x:qM w s.heap it S t i n ep):s.TypeIs (.ref it) "set_iterator":=let ⟨o,ho,hc,_⟩:=x;⟨o,ho,hc⟩
structure SO(prog:EW)(w:Fl)(o:Obj)(es:Array (Int×EN))(ep:Nat)(t:SetTable)(hs:List Int):Prop where
 ex:o.ExactSet
 d:o.data=.set es ep t
 T:TOk t hs
 n:hs.length=es.size
 led:t.led=(!w.params.followText "set-order")
 plain:t.plain=true
theorem v_{S:EX}{o:Obj}{es ep t hs}{Q:Bool->EL->Prop}(O:SO prog w o es ep t hs)(ho:s.heap.get? S=some o)(h:Q false s):Ff (FE prog w) A (setDrawn S) Q E s:=by
 unfold setDrawn Oq;refine EF (Hb ho O.d (O.T.fits O.n) (EF (EF (IY (EM (EM ?_))))));have q:Q (!w.params.followText "set-order" && (!t.plain && decide (es.size >1))) s:=by rw[O.plain];simpa using h
 exact q
theorem xF{S:EX}{o:Obj}{es ep t hs}{Q:EN->EL->Prop}(O:SO prog w o es ep t hs)(ho:s.heap.get? S=some o)
  (hQ:Q (.ref s.heap.objs.size) {s with heap:=s.heap.push {cls:=.type "set_iterator",data:=.fields #[Kj 0,Kj 0,.ref S,Kj es.size,Kj ep] } }):Ff (FE prog w) A (M3 (.ref S)) Q E s:=by
 have hT:s.TypeIs (.ref S) "set":=⟨o,ho,O.ex.1⟩;refine KI hT LV (Gc LV hT qT ?_ (PySem.F.args_set_iter_1 _));unfold Builtin.«frozenset.__iter__»;show Ff _ _ (Builtin.Frozenset.sizeOf S >>=_) _ _ s;unfold Builtin.Frozenset.sizeOf;refine EF (EF (J_ ho O.d (O.T.fits O.n) (EM ?_)));refine EF (v_ O ho ?_);simp only[E7,if_false];refine EF (EM ?_);refine EF (wpAny_setEpoch_of ho O.d (O.T.fits O.n) ?_);refine EF (G9 (EM ⟨_,rfl,"set_iterator",_,⟨_,E3 _ rfl,rfl⟩,d6.lookup,?_⟩));exact hQ
theorem qu{t:SetTable}{hs:List Int}(T:TOk t hs){i:Nat}(hi:i<=t.place.size):below t.place (f9 t i)=i:=by
 obtain⟨h1,h2,h3⟩:=fR T.R (f9 t i);cases i with
 |zero=>
  dsimp only[f9]at *;rcases Kn (below t.place 0) with z |z
  ·exact z
  ·have:=h1 0 _ z (eL (by lia));lia
 |succ j=>
  dsimp only[f9]at *;have hj:j<t.place.size:=by lia
  have ej:t.place.getD j 0=t.place[j]:=by simp[Ha,hj]
  rw[ej]at h1 h2 h3 |-;generalize hb:below t.place (t.place[j]+1)=b at *;rcases Hx b (j+1) with z |z |z
  ·have:=h2 j t.place[j] (by lia) (eL hj);lia
  ·exact z
  ·have q:=h1 (j+1) _ z (eL (by lia))
   have:=T.R j (j+1) _ _ (by lia) (eL hj) (eL (show j+1<t.place.size by lia))
   lia
theorem kK{S:EX}{o:Obj}{es ep t hs}{i:Nat}{Q:Option (EN×Nat)->EL->Prop}(O:SO prog w o es ep t hs)(ho:s.heap.get? S=some o)(hi:i<=es.size)
  (h:Q (((cB w S es ep)[i]?).map λv=>(v,be w t (i+1))) s):Ff (FE prog w) A (setNext S (be w t i) i ep) Q E s:=by
 have Qo:=O.T.fits O.n;have Qe:t.place.size=es.size:=by rw[O.T.n,O.n]
 unfold setNext Oq;refine EF (Hb ho O.d Qo (EF (EF (IY (EM ?_)))));by_cases bt:w.params.followText "set-order"=true
 ·dsimp only;rw[show (FE prog w).w.params.followText "set-order"=true from bt,if_pos rfl,if_neg (by simp)]
  unfold setWalk Oq;refine EF (EF (Hb ho O.d Qo (EF (EF (IY (EM ?_))))));dsimp only;rw[show (FE prog w).w.params.followText "set-order"=true from bt,if_pos rfl]
  refine EF (IY (EM (EM ?_)))
  have e:MW (λ(e:Int×EN)=>(e.2,be w t i)) (ME (w.params.setOrder S ep) es)[i]?=((cB w S es ep)[i]?).map λv=>(v,be w t (i+1)):=by
   unfold cB be;rw[if_pos bt,if_pos bt,if_pos bt,ES,FS,Option.map_map];rfl
  have q:Q (MW (λ(e:Int×EN)=>(e.2,be w t i)) (ME (w.params.setOrder S ep) es)[i]?) s:=by rw[e];exact h
  exact q
 ·have bf:w.params.followText "set-order"=false:=by simpa using bt
  dsimp only;rw[show (FE prog w).w.params.followText "set-order"=false from bf,if_neg (by simp)]
  have e1:be w t i=f9 t i:=by unfold be;rw[if_neg bt]
  have e2:below t.place (be w t i)=i:=by rw[e1];exact qu O.T (by lia)
  have e3:(match es[below t.place (be w t i)]?,t.place[below t.place (be w t i)]? with
    |some (_,x),some j=>some (x,j+1)
    |_,_=>none)=((cB w S es ep)[i]?).map λv=>(v,be w t (i+1)):=by
   rw[e2];unfold cB be;rw[if_neg bt,if_neg bt,ES,FS];rcases GH i es.size with z |z
   ·have z':i<t.place.size:=by lia
    simp[z,z',Ha,f9]
   ·have z':t.place.size<=i:=by lia
    simp[z,z']
  split
  ·rename_i hc
   exact absurd (show (!t.plain && decide (es.size >1))=true from hc) (by rw[O.plain];simp)
  ·refine EF ?_;show Ff _ _ (if (!t.led && !es.isEmpty)=true then Nz "set:maker-not-led" else pure ()) _ _ _
   rw[O.led,bf,if_neg (by simp)]
   refine EM (EM ?_)
   have q:Q (match es[below t.place (be w t i)]?,t.place[below t.place (be w t i)]? with
    |some (_,x),some j=>some (x,j+1)
    |_,_=>none) s:=by rw[e3];exact h
   exact q
theorem ul{S it:EX}{o:Obj}{es ep t hs}{i:Nat}{v:EN}{Q:Option EN->EL->Prop}(O:SO prog w o es ep t hs)(ho:s.heap.get? S=some o)(Qx:qM w s.heap it S t i es.size ep)(hv:(cB w S es ep)[i]?=some v)
  (hQ:∀h',qM w h' it S t (i+1) es.size ep->Ja it s.heap h'->Q (some v) {s with heap:=h' }):Ff (FE prog w) A (IT (.ref it)) Q E s:=by
 obtain⟨oi,hoi,hc,hd⟩:=id Qx;have Qo:=O.T.fits O.n;unfold IT;refine EF (J5 (Hu (name:=Str.ofString "__next__") Qx.ty d6 (Gc d6 Qx.ty jH ?_ (ly _))));unfold Builtin.«set_iterator.__next__»;refine EF (m:=slotArgs "__next__" 0 _) (EM ?_);dsimp only;refine EF (N0 hoi hd ?_);dsimp only[Kj];refine EF (J_ ho O.d Qo ?_);rw[if_neg (by simp)]
 have Pq:i<es.size:=by
  have q:=(E1.mp hv).1;rw[(fi w S es ep).length_eq,EH,E6]at q;exact q
 rw[show ((be w t i:Nat):Int).toNat=be w t i from Hz _,show ((i:Nat):Int).toNat=i from Hz _,show ((ep:Nat):Int).toNat=ep from Hz _]
 refine EF (kK O ho (FB Pq) ?_);rw[hv];dsimp only[MW];refine EF (Mj hoi hd (by simp) ?_)
 have g1:=FL (Obj.mapFields (·.setIfInBounds 0 (FX ((be w t (i+1):Nat):Int) 0))) hoi (LW (HP hd _));refine EF (Mj g1 (HP hd _) (by simp) ?_)
 refine EM ⟨_,rfl,EM (hQ _ ?_ ((Ih ..).trans (Ih ..)))⟩;refine⟨_,FL _ g1 (LW (HP (HP hd _) _)),(MX ..).trans ((MX ..).trans hc),?_⟩;rw[HP (HP hd _)];simp[Kj]
theorem yF{S it:EX}{o:Obj}{es ep t hs}{Q:Option EN->EL->Prop}(hh:A.handled=none)(O:SO prog w o es ep t hs)(ho:s.heap.get? S=some o)(Qx:qM w s.heap it S t es.size es.size ep)
  (hQ:∀h',Heap.ExtBut it s.heap h'->Q none {s with heap:=h' }):Ff (FE prog w) A (IT (.ref it)) Q E s:=by
 obtain⟨oi,hoi,hc,hd⟩:=id Qx;have Qo:=O.T.fits O.n;unfold IT;refine EF (J5 (Hu (name:=Str.ofString "__next__") Qx.ty d6 (Gc d6 Qx.ty jH ?_ (ly _))));unfold Builtin.«set_iterator.__next__»;refine EF (m:=slotArgs "__next__" 0 _) (EM ?_);dsimp only;refine EF (N0 hoi hd ?_);dsimp only[Kj];refine EF (J_ ho O.d Qo ?_);rw[if_neg (by simp)]
 rw[show ((be w t es.size:Nat):Int).toNat=be w t es.size from Hz _,show ((es.size:Nat):Int).toNat=es.size from Hz _,show ((ep:Nat):Int).toNat=ep from Hz _]
 refine EF (kK O ho (EU _) ?_);rw[show (cB w S es ep)[es.size]?=none from Fy (by rw[(fi w S es ep).length_eq,EH,E6];exact EU _)]
 dsimp only[MW];refine EF (Mj hoi hd (by simp) ?_)
 refine EF ?_;simp only[newExc,newTuple];refine EF (G9 ?_ (by size_fits))
 refine EF (m:=N1 _ _) (Mp (a:=Fj) (by first |rfl | (simp only[N1];rfl)) ?_)
 refine G9 ?_ (by size_fits)
 simp only[raiseNew];refine EF (wpAny_handled ?_);rw[show A.in1.handled=none from hh]
 refine EF (EM (wpAny_throw ?_));refine EF (Ho (T:="StopIteration") (b:=true) ⟨_,E3 _ rfl,rfl⟩ Ml ?_);exact EM (hQ _ (((Ih ..).extBut.push _).push _))
end
end ST
namespace ST
open PySem PySem.SetTable PySem.W
theorem mh:Slot "set_iterator" "__iter__" "set_iterator.__iter__":=
 .of (owner:="set_iterator") (n:="__iter__") (by rw[Iu,Hi];kernel_rfl) (by decide+kernel) (by decide+kernel) (by decide+kernel) (by first |exact .inl (by decide+kernel) |exact .inr (by decide+kernel)) (by rw[JO];kernel_rfl)
theorem qx:entryFor table "set_iterator.__iter__"=some Builtin.«dict_keyiterator.__iter__»:=NZ (id':="dict_keyiterator.__iter__") (by kernel_rfl) rfl (by decide+kernel) (by kernel_rfl)
theorem uL(a:EN):argsOk "set_iterator.__iter__" ⟨[a],[]⟩:=by unfold argsOk;kernel_rfl
section
variable {prog:EW}{w:Fl}{A:Fm}{E:EN→EL→Prop}{s:EL}
theorem AQ{it S:EX}{t:SetTable}{i n ep:Nat}{Q:EN->EL->Prop}(Qx:qM w s.heap it S t i n ep)(h:Q (.ref it) s):Ff (FE prog w) A (M3 (.ref it)) Q E s:=by
 refine KI Qx.ty mh (Gc mh Qx.ty qx ?_ (uL _));exact EM ⟨_,rfl,"set_iterator",_,Qx.ty,d6.lookup,h⟩
theorem ut(hh:A.handled=none){it S:EX}(Pn:S≠it){o:Obj}{es ep t hs}(O:SO prog w o es ep t hs):
  Walks prog w A it [it,S] [it] es.size (λi v=>(cB w S es ep)[i]?=some v) (λi h=>qM w h it S t i es.size ep/\h.get? S=some o) where
 sub:=λb hb=>by simp at hb;simp[hb]
 frame:=λ_ _ _ st hk=>⟨let ⟨x,hx,r⟩:=st.1;⟨x,hk it (by simp) x hx,r⟩,hk S (by simp) o st.2⟩
 item:=λi s Q E hi st hQ=>by
  obtain⟨v,hv⟩:∃v,(cB w S es ep)[i]?=some v:=⟨_,EG (by rw[(fi w S es ep).length_eq,EH,E6];exact hi)⟩
  refine ul O st.2 st.1 hv λh' hit' sb=>?_
  exact hQ v h' s.toks hv ⟨hit',(sb.2 S Pn).trans st.2⟩ λb x hb e=>sb.extBut b x (λz=>hb (by simp[z])) e
 done:=λs Q E st hQ=>yF hh O st.2 st.1 λh' xb=>hQ h' s.toks λb x hb e=>xb b x (λz=>hb (by simp[z])) e
 self:=λ_ _ _ _ st hQ=>AQ st.1 hQ
theorem vN{r:EX}{Q:Bool→EL→Prop}(hT:s.TypeIs (.ref r) "set")(h:Q false s):Ff (FE prog w) A (Builtin.List.listLengthHint (.ref r)) Q E s:=by
 unfold Builtin.List.listLengthHint;refine EF (Ir hT PySem.F.slot_set_len.lookup ?_);generalize hid:("set.__len__":String)=id0
 wp_delta
 rw[show splitId id0=some ("set","__len__") from by subst hid;decide+kernel]
 subst hid;refine EF (Ho (T:="set") (b:=true) hT (by rw[JO];kernel_rfl) ?_)
 refine Ib (λz=>absurd z (by decide)) (λ_=>?_)
 refine Ib (λ_=>?_) (λz=>absurd (by decide+kernel) z)
 exact EF (LQ hT (EM h))
theorem zD{S:EX}{o:Obj}{es ep t hs}(O:SO prog w o es ep t hs):KdlSrc prog w "set" S S es.size (λi v=>(cB w S es ep)[i]?=some v) (λh=>h.get? S=some o) where
 type:=λ_ hm=>⟨o,hm,O.ex.1⟩
 there:=λ_ hm=>⟨EY hm,EY hm⟩
 keep:=λ_ _ hm hk=>hk S (.inl rfl) o hm
 notList:=by decide
 notTuple:=by decide
 hint:=λ_ _ _ _ hm hq=>vN ⟨o,hm,O.ex.1⟩ hq
 iter:=λ_ s hh hm=>⟨_,_,(λ_ _ hq=>xF O hm hq),ut hh (Ft (EY hm)) O,⟨⟨_,E3 _ rfl,rfl,by simp[be,f9]⟩,EK _ hm⟩⟩
end
end ST
namespace ST
open PySem PySem.W PyProof.Rows
inductive gf (lt:Nat->Nat->Bool) (n:Nat) {α:Type}:KasT α->α->Prop
 |ret (a:α):gf lt n (.ret a) a
 |ask {i j:Nat}{k:Bool->KasT α}{a:α}:i<n->j<n->gf lt n (k (lt i j)) a->gf lt n (.ask i j k) a
variable {lt:Nat→Nat→Bool}{n:Nat}
theorem gf.bind{α β:Type}{t:KasT α}{a:α}{f:α->KasT β}{b:β}(h:gf lt n t a)(h':gf lt n (f a) b):gf lt n (t.bind f) b:=by
 induction h with
 |ret a=>exact h'
 |ask hi hj _ ih=>exact gf.ask hi hj (ih h')
theorem gf.wp{α:Type}{t:KasT α}{a:α}(h:gf lt n t a){cmp:Nat->Nat->(Bool->EL->Prop)->EL->Prop}{s:EL}(hc:∀i j C,i<n->j<n->C (lt i j) s->cmp i j C s){Q:α->EL->Prop}(q:Q a s):t.kasWp cmp Q s:=by
 induction h with
 |ret a=>exact q
 |ask hi hj _ ih=>exact hc _ _ _ hi hj (ih q)
structure LtO(n:Nat)(lt:Nat->Nat->Bool):Prop where
 tr:∀i j k,lt i j=true->lt j k=true->lt i k=true
 tot:∀i j,i<n->j<n->i≠j->lt i j=false->lt j i=true
 asy:∀i j,lt i j=true->lt j i=false
abbrev g(p:Array Nat)(k:Nat):Nat:=p.getD k 0
theorem AD{p q:Array Nat}{k l:Nat}(h:p[k]?=q[l]?):g p k=g q l:=by
 unfold g;rw[Gy,Gy,h]
structure PP(n:Nat)(p:Array Nat):Prop where
 perm:p.toList.Perm (Fz n)
theorem PP.size{p:Array Nat}(h:PP n p):p.size=n:=by rw[<-E6,h.perm.length_eq,JG]
theorem PP.mem{p:Array Nat}(h:PP n p){k:Nat}(hk:k<n):g p k<n:=by
 have Sr:k<p.size:=by rw[h.size];exact hk
 have e:g p k=p[k]:=by simp[g,Ha,Sr]
 rw[e];exact Fk.mp (h.perm.mem_iff.mp (by simp))
theorem PP.inj{p:Array Nat}(h:PP n p){k l:Nat}(hk:k<n)(hl:l<n)(e:g p k=g p l):k=l:=by
 have Sr:k<p.toList.length:=by rw[E6,h.size];exact hk
 have PH:l<p.toList.length:=by rw[E6,h.size];exact hl
 have nd:p.toList.Nodup:=h.perm.nodup_iff.mpr Lm;have e1:g p k=p.toList[k]:=by simp[g,Ha,h.size,hk]
 have e2:g p l=p.toList[l]:=by simp[g,Ha,h.size,hl]
 exact (JV nd).mp (by rw[<-e1,<-e2,e])
theorem PP.of{p q:Array Nat}(h:PP n p)(hq:q.Perm p):PP n q:=⟨(Array.perm_iff_toList_perm.mp hq).trans h.perm⟩
def Srt(lt:Nat->Nat->Bool)(p:Array Nat)(m:Nat):Prop:=∀i j,i<j->j<m->lt (g p i) (g p j)=true
def Dsc(lt:Nat->Nat->Bool)(p:Array Nat)(m:Nat):Prop:=∀i j,i<j->j<m->lt (g p j) (g p i)=true
theorem Srt.one(p:Array Nat):Srt lt p 1:=λi j h1 h2=>by lia
theorem Srt.more(O:LtO n lt){p:Array Nat}{m:Nat}(S:Srt lt p m)(h1:1<=m)(h:lt (g p (m-1)) (g p m)=true):Srt lt p (m+1):=λi j Qi hj=>by
 rcases Fq (GW hj) with z |z
 ·exact S i j Qi z
 ·subst z;rcases Fq (show i<=j-1 by lia) with y |y
  ·exact O.tr _ _ _ (S i (j-1) y (by lia)) h
  ·subst y;exact h
theorem Dsc.more(O:LtO n lt){p:Array Nat}{m:Nat}(S:Dsc lt p m)(h1:1<=m)(h:lt (g p m) (g p (m-1))=true):Dsc lt p (m+1):=λi j Qi hj=>by
 rcases Fq (GW hj) with z |z
 ·exact S i j Qi z
 ·subst z;rcases Fq (show i<=j-1 by lia) with y |y
  ·exact O.tr _ _ _ h (S i (j-1) y (by lia))
  ·subst y;exact h
theorem nU(O:LtO n lt){p:Array Nat}(P:PP n p):∀(f m:Nat),1<=m->m+f=n->Srt lt p m->∃m',gf lt n (kas_asc p f m) m'/\m<=m'/\m'<=n/\Srt lt p m'/\(m'<n->lt (g p m') (g p (m'-1))=true)
 |0,m,h1,hf,S=>⟨m,.ret m,EU _,by lia,S,λh=>by lia⟩
 |f+1,m,h1,hf,S=>by
  by_cases hc:lt (g p m) (g p (m-1))=true
  ·refine⟨m,.ask (P.mem (by lia)) (P.mem (by lia)) ?_,EU _,by lia,S,λ_=>hc⟩
   rw[if_pos hc];exact .ret m
  ·have QN:lt (g p m) (g p (m-1))=false:=by simpa using hc
   have ht:=O.tot _ _ (P.mem (show m<n by lia)) (P.mem (show m-1<n by lia)) (λe=>by have:=P.inj (by lia) (by lia) e;lia) QN
   obtain⟨m',r,a1,a2,a3,a4⟩:=nU O P f (m+1) (by lia) (by lia) (S.more O h1 ht)
   refine⟨m',.ask (P.mem (by lia)) (P.mem (by lia)) ?_,by lia,a2,a3,a4⟩
   rw[if_neg hc];exact r
theorem pY(O:LtO n lt){p:Array Nat}(P:PP n p):∀(f m:Nat),1<=m->m+f=n->Dsc lt p m->∃m',gf lt n (kas_desc f p m 0) (p,m',0)/\m<=m'/\m'<=n/\Dsc lt p m'
 |0,m,h1,hf,S=>⟨m,.ret _,EU _,by lia,S⟩
 |f+1,m,h1,hf,S=>by
  by_cases hc:lt (g p m) (g p (m-1))=true
  ·obtain⟨m',r,a1,a2,a3⟩:=pY O P f (m+1) (by lia) (by lia) (S.more O h1 hc)
   refine⟨m',.ask (P.mem (by lia)) (P.mem (by lia)) ?_,by lia,a2,a3⟩
   rw[if_pos hc,if_neg (by lia)];exact r
  ·have QN:lt (g p m) (g p (m-1))=false:=by simpa using hc
   have ht:=O.tot _ _ (P.mem (show m<n by lia)) (P.mem (show m-1<n by lia)) (λe=>by have:=P.inj (by lia) (by lia) e;lia) QN
   refine⟨m,.ask (P.mem (by lia)) (P.mem (by lia)) ?_,EU _,by lia,S⟩
   rw[if_neg hc];refine .ask (P.mem (by lia)) (P.mem (by lia)) ?_
   rw[if_pos ht];exact .ret _
theorem wM{p:Array Nat}(P:PP n p){m k:Nat}(hm:m<=n)(hk:k<m):g (kas_rev p 0 m) k=g p (m-1-k):=by
 refine AD ?_;unfold kas_rev;rw[getElem?_mirror (by rw[P.size];exact hm) _ (by lia)]
 split
 ·congr 1;lia
 ·congr 1;lia
theorem yQ{p:Array Nat}(P:PP n p)(i j:Nat):PP n (kas_rev p i j):=P.of (mirror_perm _ _ _ _)
theorem zS{p:Array Nat}(P:PP n p){m:Nat}(hm:m<=n)(D:Dsc lt p m):Srt lt (kas_rev p 0 m) m:=λi j Qi hj=>by
 rw[wM P hm (by lia),wM P hm hj]
 exact D _ _ (by lia) (by lia)
theorem vz(O:LtO n lt){p:Array Nat}(P:PP n p)(h2:2<=n):∃m p',gf lt n (kas_count n p) (m,p')/\PP n p'/\1<=m/\m<=n/\Srt lt p' m:=by
 obtain⟨m,r,a1,a2,a3,a4⟩:=nU O P (n-1) 1 (EU _) (by lia) (Srt.one p)
 by_cases hm:m=n
 ·exact⟨m,p,r.bind (by rw[if_pos (by simp[hm])];exact .ret _),P,a1,a2,a3⟩
 ·have Pn:¬ ((m==n)=true):=by simpa using hm
  by_cases h1:m >1
  ·refine⟨m,p,r.bind ?_,P,a1,a2,a3⟩;rw[if_neg Pn,if_pos h1];refine .ask (P.mem (by lia)) (P.mem (by lia)) ?_
   rw[if_pos (a3 0 (m-1) (by lia) (by lia))]
   exact .ret _
  ·obtain rfl:m=1:=by lia
   have D2:Dsc lt p 2:=Dsc.more O (λi j x y=>by lia) (EU _) (a4 (by lia))
   obtain⟨d,rd,b1,b2,b3⟩:=pY O P (n-2) 2 (by lia) (by lia) D2
   obtain⟨e,re,c1,c2,c3,c4⟩:=nU O (yQ P 0 d) (n-d) d (by lia) (by lia) (zS P b2 b3)
   refine⟨e,kas_rev p 0 d,r.bind ?_,yQ P 0 d,by lia,c2,c3⟩
   rw[if_neg Pn,if_neg h1];unfold kas_descPart;refine gf.bind (a:=(p,d,0)) rd ?_;rw[if_neg (by simp)]
   unfold kas_tail3;exact re.bind (.ret _)
theorem iU(O:LtO n lt){p:Array Nat}(P:PP n p){k:Nat}(hk:k<n)(S:Srt lt p k):∀(f l r:Nat),l<=r->r<=k->r-l<=f->(∀i,i<l->lt (g p i) (g p k)=true)->(∀i,r<=i->i<k->lt (g p k) (g p i)=true)->
  ∃l',gf lt n (kas_place p k f l r) l'/\l'<=k/\(∀i,i<l'->lt (g p i) (g p k)=true)/\(∀i,l'<=i->i<k->lt (g p k) (g p i)=true)
 |0,l,r,h1,h2,h3,a,b=>⟨l,.ret l,by lia,a,λi x y=>b i (by lia) y⟩
 |f+1,l,r,h1,h2,h3,a,b=>by
  unfold kas_place;by_cases hlr:l ≥ r
  ·rw[if_pos hlr];exact⟨l,.ret l,by lia,a,λi x y=>b i (by lia) y⟩
  ·rw[if_neg hlr];have hm:(l+r)/2<k:=by lia
   by_cases hc:lt (g p k) (g p ((l+r)/2))=true
   ·obtain⟨l',r',x1,x2,x3⟩:=iU O P hk S f l ((l+r)/2) (by lia) (by lia) (by lia) a λi hi hik=>by
     rcases Fq hi with z |z
     ·exact O.tr _ _ _ hc (S _ _ z hik)
     ·rw[<-z];exact hc
    refine⟨l',.ask (P.mem hk) (P.mem (by lia)) ?_,x1,x2,x3⟩
    rw[if_pos hc];exact r'
   ·have QN:lt (g p k) (g p ((l+r)/2))=false:=by simpa using hc
    have ht:=O.tot _ _ (P.mem hk) (P.mem (show (l+r)/2<n by lia)) (λe=>by have:=P.inj hk (by lia) e;lia) QN
    obtain⟨l',r',x1,x2,x3⟩:=iU O P hk S f ((l+r)/2+1) r (by lia) h2 (by lia) (λi hi=>by
     rcases Fq (GW hi) with z |z
     ·exact O.tr _ _ _ (S _ _ z hm) ht
     ·rw[z];exact ht) b
    refine⟨l',.ask (P.mem hk) (P.mem (by lia)) ?_,x1,x2,x3⟩
    rw[if_neg hc];exact r'
theorem tO(O:LtO n lt):∀(f k:Nat) (p:Array Nat),k+f=n->PP n p->Srt lt p k->∃p',gf lt n (kas_bin f p k) p'/\PP n p'/\Srt lt p' n
 |0,k,p,hf,P,S=>⟨p,.ret p,P,by rw[<-hf];exact S⟩
 |f+1,k,p,hf,P,S=>by
  obtain⟨l,rl,x1,x2,x3⟩:=iU O P (show k<n by lia) S k 0 k (FU _) (EU _) (by lia) (λi h=>by lia) (λi h h'=>by lia)
  have at_:∀j,g (OS p k (k-l)) j=if j=l then g p k else if l<j/\j<=k then g p (j-1) else g p j:=λj=>by
   have e:=getElem?_bubble (xs:=p) (src:=k) (by rw[P.size];lia) (k-l) (by lia) j
   rw[show k-(k-l)=l by lia]at e
   split
   ·rename_i z;rw[if_pos z]at e;exact AD e
   ·rename_i z
    rw[if_neg z]at e;split
    ·rename_i y;rw[if_pos y]at e;exact AD e
    ·rename_i y;rw[if_neg y]at e;exact AD e
  have e1:g (OS p k (k-l)) l=g p k:=by rw[at_,if_pos rfl]
  have e2:∀j,l<j->j<=k->g (OS p k (k-l)) j=g p (j-1):=λj y z=>by rw[at_,if_neg (by lia),if_pos ⟨y,z⟩]
  have e3:∀j,j<l->g (OS p k (k-l)) j=g p j:=λj y=>by rw[at_,if_neg (by lia),if_neg (by lia)]
  have S':Srt lt (OS p k (k-l)) (k+1):=λi j Qi hj=>by
   rcases Hx j l with y |y |y
   ·rw[e3 i (by lia),e3 j y];exact S _ _ Qi (by lia)
   ·rw[y,e1,e3 i (by lia)];exact x2 i (by lia)
   ·rw[e2 j y (by lia)]
    rcases Hx i l with z |z |z
    ·rw[e3 i z];exact S _ _ (by lia) (by lia)
    ·rw[z,e1];exact x3 (j-1) (by lia) (by lia)
    ·rw[e2 i z (by lia)];exact S _ _ (by lia) (by lia)
  obtain⟨p',r',P',S''⟩:=tO O f (k+1) (OS p k (k-l)) (by lia) (P.of (bubble_perm _ _ _)) S'
  exact⟨p',rl.bind r',P',S''⟩
theorem pA(O:LtO n lt)(h2:2<=n):∃p,gf lt n (kas_sort n) p/\PP n p/\Srt lt p n:=by
 obtain⟨m,p,r,P,a1,a2,S⟩:=vz O (p:=M6 (Fz n)) ⟨by simp⟩ h2
 by_cases hm:m<n
 ·obtain⟨p',r',P',S'⟩:=tO O (n-max m 1) (max m 1) p (by lia) P (by rw[show max m 1=m by lia];exact S)
  exact⟨p',r.bind (by rw[if_pos hm];exact r'),P',S'⟩
 ·obtain rfl:m=n:=by lia
  exact⟨p,r.bind (by rw[if_neg hm];exact .ret _),P,S⟩
def ltP(a b:Int×Int):Bool:=decide (a.1<b.1\/(a.1=b.1/\a.2<b.2))
theorem gW{a b c:Int×Int}(h1:ltP a b=true)(h2:ltP b c=true):ltP a c=true:=by
 unfold ltP at *;simp at *;lia
theorem fF{a b:Int×Int}(h1:ltP a b=true):ltP b a=false:=by
 unfold ltP at *;simp at *;lia
theorem ltP_tot{a b:Int×Int}(h:a≠b)(h1:ltP a b=false):ltP b a=true:=by
 unfold ltP at *;have:¬ (a.1=b.1/\a.2=b.2):=λz=>h (F8 z.1 z.2)
 simp at *;lia
section
variable {prog:EW}{w:Fl}{A:Fm}{E:EN→EL→Prop}{s:EL}
theorem TK.two{h:GD}{x y:Int}{b:EX}(k:TK prog w h [x,y] b):∃o Pj n t u,h.get? b=some o∧o.cls=.type "tuple"∧o.data=.seq Pj n∧Pj.toList=[.int x t,.int y u]:=by
 obtain⟨o,Pj,n,ho,hc,hd,hi⟩:=k;cases Pu:Pj.toList with
 |nil=>rw[Pu]at hi;cases hi
 |cons v1 r=>
  rw[Pu]at hi;cases hi with
  |cons h1 hr=>
   cases hr with
   |cons h2 hr2=>
    cases hr2;obtain⟨t,rfl⟩:=Jz h1;obtain⟨u,rfl⟩:=Jz h2;exact⟨o,Pj,n,t,u,ho,hc,hd,Pu⟩
theorem yI{x y:EX}{a b:Int×Int}{Q:Bool->EL->Prop}(hx:TK prog w s.heap [a.1,a.2] x)(hy:TK prog w s.heap [b.1,b.2] y)(h:Q (ltP a b) s):Ff (FE prog w) A (keyLt' (Kw true) (.ref x) (.ref y)) Q E s:=by
 obtain⟨o,Pj,n,t,u,ho,_,hd,hi⟩:=hx.two;obtain⟨o',its',n',t',u',Qu,_,QF,Pu⟩:=hy.two;refine kat_lt ho hd Qu QF ?_;rw[hi,Pu];refine kat_cons ((JA prog w).eqBool (a:=a.1) (b:=b.1) (Gh _ _ _ _) (Gh _ _ _ _) ?_);by_cases e1:a.1=b.1
 ·rw[decide_eq_true e1];refine kat_yes (kat_cons ((JA prog w).eqBool (a:=a.2) (b:=b.2) (Gh _ _ _ _) (Gh _ _ _ _) ?_));by_cases e2:a.2=b.2
  ·rw[decide_eq_true e2];refine kat_yes (kat_nil ?_);have z:ltP a b=false:=by unfold ltP;simp;lia
   rw[z]at h
   have z2:decide (Pj.size<its'.size)=false:=by
    rw[<-E6,<-E6,hi,Pu];simp
   rw[z2];exact h
  ·rw[decide_eq_false e2];refine kat_no (kat_one _ _ (lt_int ?_));have z:ltP a b=decide (a.2<b.2):=by unfold ltP;rw[e1];simp
   rw[z]at h;exact h
 ·rw[decide_eq_false e1];refine kat_no (oneLt_int ?_);have z:ltP a b=decide (a.1<b.1):=by unfold ltP;simp[e1]
  rw[z]at h;exact h
abbrev PB:=List ((Int×Int)×EX)
abbrev refs(pb:PB):List EN:=pb.map λp=>Fs p.2
def dfl:(Int×Int)×EX:=((0,0),0)
theorem qL(pb:PB):(Fz pb.length).map (λi=>pb.getD i dfl)=pb:=by
 apply Nc
 ·simp
 ·intro i h1 h2;simp at h1;simp[h1]
theorem pL{pb:PB}{Q:IH->EL->Prop}(QE:∀p∈pb,TK prog w s.heap [p.1.1,p.1.2] p.2)(h0:0<pb.length)(h:Q (Kw true) s):Ff (FE prog w) A (OC (refs pb).toArray) Q E s:=by
 obtain⟨fs,hf,hl,hi⟩:∃fs,KatTups s.heap (refs pb) fs/\fs.length=pb.length/\∀v∈fs,∃n t,v=FX n t:=by
  clear h h0
  induction pb with
  |nil=>exact⟨[],.nil,rfl,λv hv=>by simp at hv⟩
  |cons p r ih=>
   obtain⟨fs,hf,hl,hi⟩:=ih λq hq=>QE q (EJ _ hq)
   obtain⟨o,Pj,n,t,u,ho,hc,hd,Qx⟩:=(QE p ET).two;refine⟨.int p.1.1 t::fs,.cons ho hc hd (by rw[<-FS,Qx];rfl) hf,by simp[hl],λv hv=>?_⟩
   rcases EO.mp hv with z |z
   ·exact⟨_,_,z⟩
   ·exact hi v z
 refine kat_kind (T:=.type "int") hf (by lia) (λv hv=>?_) (by decide) h
 obtain⟨n,t,rfl⟩:=hi v hv;exact Looks.of_pure rfl
theorem xX{a:EX}{pb:PB}{n:Nat}{P:NC→EL→Prop}(ho:s.heap.get? a=some (Ko "list" (refs pb).toArray n))(QE:∀p∈pb,TK prog w s.heap [p.1.1,p.1.2] p.2)(QX:(pb.map (·.1)).Nodup)(h64:pb.length<64)
  (h:∀P8:PB,P8.Perm pb->(P8.map (·.1)).Pairwise (λx y=>ltP x y=true)->P (.done (.ret .none)) {s with heap:=sortedHeap s.heap a (refs pb) (refs P8).toArray }):
  Ff (FE prog w) A (Builtin.«list.sort» ⟨[.ref a],[]⟩) P E s:=by
 have RV:(refs pb).length=pb.length:=by simp
 have Rh:(refs pb).toArray.size=pb.length:=by simp
 rw[ND];have ha:a<s.heap.objs.size:=EY ho;refine EF (listItems_at ho rfl (EF (Jo ho rfl ?_ (by rw[Rh,Gg];lia) (FU _))))
 obtain⟨e1,ho1⟩:∃e1,(s.heap.update a (F1 λ_=>(#[]:Array EN))).get? a=some (Ko "list" #[] e1):=⟨_,NF ho (λ_=>#[])⟩
 refine EF (Ka ho1 rfl (EF (Mm ?_ (by show (refs pb).length<=_;rw[RV,Gg];lia))))
 refine EF (K9 ?_ (FU _));refine F7 ?_;generalize hh6:((s.heap.update a (F1 λ_=>(#[]:Array EN))).push (Ko "tuple" (refs pb).toArray 0)).push (Ko "list" #[] 0)=h6
 have old6:∀b o,b≠a->s.heap.get? b=some o->h6.get? b=some o:=λb o hb e=>by
  rw[<-hh6];exact EK _ (EK _ ((Fg _ _ (Ne.symm hb)).trans e))
 have RW:h6.get? a=some (Ko "list" #[] e1):=by rw[←hh6];exact EK _ (EK _ ho1)
 have tk6:∀p∈pb,TK prog w h6 [p.1.1,p.1.2] p.2:=λp hp=>by
  obtain⟨o,Pj,k,hop,hc,r⟩:=QE p hp;refine⟨o,Pj,k,old6 p.2 o (λz=>?_) hop,hc,r⟩
  rw[z,ho]at hop;cases hop;exact absurd hc (by show ¬ (Gd "list"=Gd "tuple");decide)
 have PF:∀P8:PB,P8.Perm pb->(P8.map (·.1)).Pairwise (λx y=>ltP x y=true)->P (.done (.ret .none)) {s with heap:=h6.update a (F1 λ_=>(refs P8).toArray) }:=λP8 p1 p2=>by
  rw[<-hh6];exact h P8 p1 p2
 show Ff (FE prog w) A _ P E {s with heap:=h6 }
 dsimp only;by_cases h2:(refs pb).toArray.size<2
 ·rw[if_pos h2,if_pos h2];refine EF (EM ?_);rw[StateT.run_pure];refine EF (EM ?_);dsimp only
  have eout:(arrOf (SortSt.mk' general' ((refs pb).toArray.zip (refs pb).toArray) #[] 7 none)).map (·.2)=(refs pb).toArray:=by
   show (((refs pb).toArray.zip (refs pb).toArray)).map (·.2)=_;apply Lp.mp
   have zip2:∀l:List EN,(l.zip l).map (·.2)=l:=λl=>by
    induction l with
    |nil=>rfl
    |cons x r ih=>rw[GI,E2,ih]
   rw[Lq,Nd];exact zip2 _
  rw[eout];refine EF (Ka RW rfl (EF (Jo RW rfl ?_ (FU _) (by rw[Rh,Gg];lia))))
  show Ff _ _ (if (e1 !=e1)=true then _ else _) _ _ _
  rw[if_neg (by simp)]
  refine EM (PF pb (Kv _) ?_)
  match pb,Rh,h2 with
  |[],_,_=>simp
  |[_],_,_=>simp
  |_::_::r,Rh,h2=>rw[Rh]at h2;exact absurd h2 (by simp)
 ·rw[if_neg h2,if_neg h2];rw[Rh]at h2;have h2':2<=(refs pb).length:=by rw[RV];lia
  refine EF (pL (s:={s with heap:=h6 }) tk6 (by lia) ?_)
  have inj:∀i j,i<pb.length->j<pb.length->i≠j->(pb.getD i dfl).1≠(pb.getD j dfl).1:=λi j hi hj Qi e=>by
   refine Qi ((JV (xs:=pb.map (·.1)) (h₀:=by simpa using hi) (h₁:=by simpa using hj) QX).mp ?_)
   simpa [hi,hj] using e
  have O:LtO pb.length (λi j=>ltP (pb.getD i dfl).1 (pb.getD j dfl).1):=⟨λi j k=>gW,λi j hi hj Qi=>ltP_tot (inj i j hi hj Qi),λi j=>fF⟩
  obtain⟨p,R,Ri,S⟩:=pA O (by lia)
  have hcmp:∀i j C,i<pb.length->j<pb.length->C (ltP (pb.getD i dfl).1 (pb.getD j dfl).1) {s with heap:=h6 }->kas_ask prog w A (Kw true) (refs pb) i j C {s with heap:=h6 }:=λi j C hi hj c=>by
   unfold kas_ask;have ei:(refs pb).getD i Fj=.ref (pb.getD i dfl).2:=by simp[hi]
   have ej:(refs pb).getD j Fj=.ref (pb.getD j dfl).2:=by simp[hj]
   rw[ei,ej];have mi:pb.getD i dfl∈pb:=by simp[hi]
   have mj:pb.getD j dfl∈pb:=by simp[hj]
   exact yI (s:={s with heap:=h6 }) (tk6 _ mi) (tk6 _ mj) c
  have tree:(kas_sort (refs pb).length).kasWp (kas_ask prog w A (Kw true) (refs pb)) (λp' s'=>p'=p/\s'={s with heap:=h6 }) {s with heap:=h6 }:=by
   rw[RV];exact R.wp hcmp ⟨rfl,rfl⟩
  refine EF (HJ (kat_run (Q:=λQa s'=>s'={s with heap:=h6 }/\failedOf Qa=none/\(arrOf Qa).map (·.2)=M6 (p.toList.map λi=>(refs pb).getD i Fj)) rfl h2' (by rw[RV];exact h64) (λp' Qa s' _ a2 a3 a4=>?_) tree) ?_ λ_ _ e=>e)
  ·obtain⟨rfl,rfl⟩:=a4;exact⟨rfl,a3,kat_snds rfl a2⟩
  ·rintro ⟨⟨⟩,Qa⟩ s' ⟨rfl,hf,hout⟩;dsimp only;rw[hout];have Pq:∀i∈p.toList,i<pb.length:=λi hi=>Fk.mp (Ri.perm.mem_iff.mp hi)
   have er:(p.toList.map λi=>(refs pb).getD i Fj)=refs (p.toList.map λi=>pb.getD i dfl):=by
    unfold refs;rw[Fh];refine GR λi hi=>?_
    have:=Pq i hi;simp[this]
   rw[er]
   have RA:(p.toList.map λi=>pb.getD i dfl).Perm pb:=by
    refine (Ri.perm.map _).trans ?_;rw[qL]
   have Qy:(refs (p.toList.map λi=>pb.getD i dfl)).toArray.size=pb.length:=by simp[Ri.size]
   refine EF (Ka RW rfl (EF (Jo RW rfl ?_ (FU _) (by rw[Qy,Gg];lia))))
   rw[hf];show Ff _ _ (if (e1 !=e1)=true then _ else _) _ _ _
   rw[if_neg (by simp)]
   refine EM (PF _ RA ?_);rw[Fh,FF,FG];intro i j hi hj Qi;have RB:j<pb.length:=by rw[E6,Ri.size]at hj;exact hj
   have q:=S i j Qi RB;have ei:g p i=p.toList[i]:=by simp[g,Ha,Ri.size,show i<pb.length by lia]
   have ej:g p j=p.toList[j]:=by simp[g,Ha,Ri.size,RB]
   rw[ei,ej]at q;exact q
end
end ST
namespace ST
open PySem PySem.W PyProof.Rows PySem.Calls
theorem yV{α β:Type}(f:α->β){l m:List β}(h:l.Perm m):∀kb:List α,m=kb.map f->∃QM:List α,KJ QM kb/\l=List.map f QM:=by
 induction h with
 |nil=>intro kb e;exact⟨kb,.refl _,e⟩
 | @cons x l m _ ih=>
  intro kb e
  match kb,e with
  |[],e=>simp at e
  |k::kb,e=>
   rw[E2,NG]at e;obtain⟨QM,p,e'⟩:=ih kb e.2;exact⟨k::QM,p.cons k,by rw[E2,<-e',e.1]⟩
 |swap x y l=>
  intro kb e
  match kb,e with
  |[],e=>simp at e
  |[_],e=>simp at e
  |k::k'::kb,e=>
   simp only[E2,NG]at e;exact⟨k'::k::kb,.swap k k' kb,by rw[E2,E2,<-e.2.2,e.1,e.2.1]⟩
 |trans _ _ ih1 ih2=>
  intro kb e;obtain⟨kb2,p2,e2⟩:=ih2 kb e;obtain⟨Sv,p1,e1⟩:=ih1 kb2 e2;exact⟨Sv,p1.trans p2,e1⟩
def ptsOf(kb:List (List Int×EX)):PB:=kb.map λp=>((p.1.getD 0 0,p.1.getD 1 0),p.2)
section
variable {prog:EW}{w:Fl}{A:Fm}{E:EN→EL→Prop}{s:EL}
theorem call_sorted_set{S:EX}{kb:List (List Int×EX)}{Q:EN->EL->Prop}(hh:A.handled=none)(P:SP prog w s.heap S kb)(h64:kb.length<64)(h2:∀p∈kb,p.1.length=2)
  (h:∀(h1 h':GD) (tk:Nat) (pb:PB) (e:Nat),KJ pb (ptsOf kb)→(pb.map (·.1)).Pairwise (λx y=>ltP x y=true)→(∀b o,s.heap.get? b=some o→h1.get? b=some o)→(∀b o,h1.get? b=some o→h'.get? b=some o)→h'.get? h1.objs.size=some (Ko "list" (refs pb).toArray e)→Q (.ref h1.objs.size) {s with heap:=h',toks:=tk }):
  Ff (FE prog w) A (call (.builtin "sorted") [.ref S]) Q E s:=by
 obtain⟨⟨o,es,ep,t,ho,hex,hd,he,T,hl,hp,_,_⟩,hk,QX⟩:=P;have Qb:es.size=kb.length:=by rw[<-E6,he];simp[ents]
 have O:SO prog w o es ep t (kb.map λp=>hsh prog w p.1):=⟨hex,hd,T,by rw[EH,Qb],hl,hp⟩
 have two:∀p∈kb,p.1=[p.1.getD 0 0,p.1.getD 1 0]:=λp Qz=>by
  have:=h2 p Qz
  match hq:p.1,this with
  |[x,y],_=>rfl
 refine call_function_entry kind_sorted plain_sorted entry_sorted (args_sorted1 _) ?_;unfold Builtin.«sorted»;refine EF (m:=checkCount "sorted" 1 1 _) (EM ?_);refine EF (kdu_collect (A:=A.in1) (zD O) hh ho (by rw[Qb,Gg];lia) λh' tk acc keep RX=>?_)
 have QA:acc.toList=cB w S es ep:=by
  apply HA;intro i;rcases GH i acc.size with z |z
  ·rw[FS,Gq z];exact (RX.2 i _ (Gq z)).symm
  ·rw[Fy (by simpa using z),Fy]
   rw[(fi w S es ep).length_eq,EH,E6,<-RX.1];exact z
 obtain⟨Sv,pk,ek⟩:=yV (λ(p:List Int×EX)=>Fs p.2) (fi w S es ep) kb (by rw[he];unfold ents;rw[Fh];rfl)
 have Qc:acc.toList=refs (ptsOf Sv):=by
  rw[QA,ek];unfold refs ptsOf;rw[Fh];rfl
 have QU:(ptsOf Sv).length=kb.length:=by unfold ptsOf;rw[EH,pk.length_eq]
 have hlenA:acc.toList.length=kb.length:=by rw[Qc];simp[QU]
 refine EF (K9 ?_ (by rw[hlenA,Gg];lia))
 have hD:(h'.push {cls:=.type "list",data:=.seq acc.toList.toArray }).get? h'.objs.size=some (Ko "list" (refs (ptsOf Sv)).toArray 0):=by
  rw[<-Qc];exact E3 _ rfl
 have tk1:∀p∈ptsOf Sv,TK prog w (h'.push {cls:=.type "list",data:=.seq acc.toList.toArray }) [p.1.1,p.1.2] p.2:=λp Qz=>by
  obtain⟨q,hq,rfl⟩:=ER.mp Qz;have PN:=pk.mem_iff.mp hq;obtain⟨oq,Pj,k,hoq,r⟩:=hk q PN;have e2:=two q PN;refine⟨oq,Pj,k,EK _ (keep _ _ hoq),?_⟩;rw[<-e2];exact r
 have nd1:((ptsOf Sv).map (·.1)).Nodup:=by
  have n1:(Sv.map (·.1)).Nodup:=((pk.map (·.1)).nodup_iff).mpr QX;unfold ptsOf;rw[Fh];refine FF.mpr ((FF.mp n1).imp_of_mem λ{a b} ha hb QG=>?_)
  intro z;have ea:=two a (pk.mem_iff.mp ha);have eb:=two b (pk.mem_iff.mp hb);have z':(a.1.getD 0 0,a.1.getD 1 0)=(b.1.getD 0 0,b.1.getD 1 0):=z;rw[K_]at z';rw[z'.1,z'.2]at ea;exact QG (ea.trans eb.symm)
 refine EF (F7 (Gc N2 ⟨_,hD,rfl⟩ NH ?_ (N3 _)));refine xX (s:={s with heap:=h'.push {cls:=.type "list",data:=.seq acc.toList.toArray },toks:=tk }) hD tk1 nd1 (by lia) λP8 pp so=>⟨_,rfl,EM ⟨_,rfl,?_⟩⟩
 obtain⟨e,eD⟩:=sortedHeap_at (out:=(refs P8).toArray) hD;refine h h' _ tk P8 e (pp.trans ?_) so keep (λb x Rr=>?_) eD
 ·unfold ptsOf;exact pk.map _
 ·have Pq:=EY Rr;rw[N4 (Ft Pq) (by rw[GM];exact GV Pq)]
  exact EK _ Rr
end
end ST
namespace ST
open PySem
def ins(x:Int×Int):List (Int×Int)->List (Int×Int)
 |[]=>[x]
 |y::r=>if x=y then y::r else if ltP x y=true then x::y::r else y::ins x r
def srt(pts:List (Int×Int)):List (Int×Int):=pts.foldr ins []
theorem ins_mem(x z:Int×Int):∀l,z∈ins x l↔z=x\/z∈l
 |[]=>by simp[ins]
 |y::r=>by
  unfold ins;split
  ·rename_i h;subst h;simp
  ·split
   ·simp
   ·rw[EO,ins_mem x z r,EO];constructor
    ·rintro (h |h |h)
     ·exact .inr (.inl h)
     ·exact .inl h
     ·exact .inr (.inr h)
    ·rintro (h |h |h)
     ·exact .inr (.inl h)
     ·exact .inl h
     ·exact .inr (.inr h)
abbrev Asc(l:List (Int×Int)):Prop:=l.Pairwise (λx y=>ltP x y=true)
theorem ins_asc(x:Int×Int):∀l,Asc l->Asc (ins x l)
 |[],_=>by simp[ins]
 |y::r,h=>by
  unfold ins;split
  ·exact h
  ·rename_i Pn
   obtain⟨h1,h2⟩:=Fi.mp h;split
   ·rename_i Pq
    refine Fi.mpr ⟨λz hz=>?_,h⟩
    rcases EO.mp hz with e |e
    ·rw[e];exact Pq
    ·exact gW Pq (h1 z e)
   ·rename_i Pq
    refine Fi.mpr ⟨λz hz=>?_,ins_asc x r h2⟩
    rcases (ins_mem x z r).mp hz with e |e
    ·rw[e];exact ltP_tot Pn (by simpa using Pq)
    ·exact h1 z e
theorem srt_mem(z:Int×Int):∀l,z∈srt l↔z∈l
 |[]=>by simp[srt]
 |y::r=>by
  show z∈ins y (srt r)↔_;rw[ins_mem,srt_mem z r,EO]
theorem srt_asc:∀l,Asc (srt l)
 |[]=>IF
 |y::r=>ins_asc y (srt r) (srt_asc r)
theorem asc_irr{x:Int×Int}:ltP x x=false:=by unfold ltP;simp
theorem asc_one:∀{l m:List (Int×Int)},Asc l->Asc m->(∀z,z∈l↔z∈m)->l=m
 |[],[],_,_,_=>rfl
 |[],y::r,_,_,h=>by have:=(h y).mpr ET;simp at this
 |x::l,[],_,_,h=>by have:=(h x).mp ET;simp at this
 |x::l,y::m,hl,hm,h=>by
  obtain⟨a1,a2⟩:=Fi.mp hl;obtain⟨b1,b2⟩:=Fi.mp hm
  have e:x=y:=by
   rcases EO.mp ((h x).mp ET) with z |z
   ·exact z
   ·rcases EO.mp ((h y).mpr ET) with z' |z'
    ·exact z'.symm
    ·have:=fF (b1 x z);rw[a1 y z']at this;cases this
  subst e;congr 1;refine asc_one a2 b2 λz=>⟨λhz=>?_,λhz=>?_⟩
  ·rcases EO.mp ((h z).mp (EJ _ hz)) with e |e
   ·have:=a1 z hz;rw[e,asc_irr]at this;cases this
   ·exact e
  ·rcases EO.mp ((h z).mpr (EJ _ hz)) with e |e
   ·have:=b1 z hz;rw[e,asc_irr]at this;cases this
   ·exact e
theorem asc_srt{l:List (Int×Int)}(h:Asc l):srt l=l:=asc_one (srt_asc l) h λz=>srt_mem z l
theorem rT(x:Int×Int):∀l,(ins x l).length<=l.length+1
 |[]=>by simp[ins]
 |y::r=>by
  have:=rT x r;unfold ins;split
  ·simp
  ·split
   ·simp
   ·simp only[FN];lia
theorem srt_len:∀l,(srt l).length<=l.length
 |[]=>EU _
 |y::r=>by
  have h1:=rT y (srt r);have h2:=srt_len r;show (ins y (srt r)).length<=_;simp only[FN];lia
end ST
namespace L2
open PySem PySem.Spec PyProof.Rows
theorem Et{p:Nat->EX->Prop}{n:Nat}(h:∀i,i<n->∃b,p i b):∃f:Nat->EX,∀i,i<n->p i (f i):=by
 refine⟨λi=>if k:i<n then Classical.choose (h i k) else 0,λi hi=>?_⟩
 dsimp only;rw[dif_pos hi];exact Classical.choose_spec (h i hi)
theorem x6:GS "set"=some (.type "set"):=by decide+kernel
section
variable {X:Cx}{H0:Hp}{O0:List EX}{ps:PSt}{e:Expr}{pts:List P2}{pos PL p p':Pos}
theorem gB(hc:X.calm=true)(hu:X.A.units+10<H_)(hg:Gl X "sorted")(hm:X.mg "sorted"=none)(hgs:Gl X "set")(hms:X.mg "set"=none)(ha:Ev X H0 O0 ps e (lp pts))(hl:pts.length<64)
  (he:EZ [e] X.env=(false,HY e X.env)::EZ [] X.env:=by rfl):EvN X H0 O0 ps (.Call (.Name "sorted" p) [.Call (.Name "set" p') [e] [] PL] [] pos) ((ST.srt pts).map pu):=by
 rintro pins s σ H Q I ⟨O,R,q⟩;have hh:X.A.handled=none:=I.ok.hd hc;refine Gi (cJ I hg hm boot_sorted ?_);refine callWith_builtin1 (e:=.Call (.Name "set" p') [e] [] PL) (rest:=[]) ?_ rfl rfl;show Ff _ _ (Ot ((false,HY (.Call (.Name "set" p') [e] [] PL) X.env)::Ie pos (EZ [] X.env))) _ _ s;refine Jj ?_;refine Gi (cJ I hgs hms x6 ?_);refine callWith_type1 (thn (c_ ha fS he PL pins s σ H (λvs H1=>∃v,vs=[v]/\aK H H1/\Rp X.K (hid H1 O) v (lp pts)) I ⟨O,R,λv H1 s1 r1=>⟨v,rfl,s1,r1⟩⟩) λus s1 hx=>?_) he rfl
 obtain⟨vs,H1,I1,rv,v,rfl,sm,rp⟩:=hx;obtain⟨u,rfl,ru⟩:=ft rv;cases rp with
 | @lst a ws _ hq hwl hwi=>
  cases ru;obtain⟨Pj,Q3,pl,hz⟩:=I1.list (SqL.of (aC _ _ hq));have hlp:ws.length=pts.length:=by rw[hwl,EH]
  have Sw:Pj.length=pts.length:=by rw[<-Q3.length,hlp]
  have item:∀i,i<pts.length->∃b,Pj[i]?=some (.ref b)/\Rp X.K (hid H1 O) (.ref b) (pu (pts.getD i (0,0)))/\ST.TK X.prog X.w s1.heap [(pts.getD i (0,0)).1,(pts.getD i (0,0)).2] b:=λi hi=>by
   have hw:ws[i]?=some ws[i]:=EG (by lia)
   have hp:(pts.map pu)[i]?=some (pu (pts.getD i (0,0))):=by rw[ES,EG hi];simp[hi]
   have r:=hwi i _ _ hw hp;obtain⟨u',e1,e2⟩:=Q3.get hw;generalize ws[i]=z at *;cases r with
   | @tup b zs _ hs Rl hsi=>
    cases e2;refine⟨b,e1,Rp.tup hs Rl hsi,?_⟩;obtain⟨jts,rj,ht,_⟩:=I1.tuple (by exact aC.tup hs)
    have z0:zs.length=2:=Rl
    match zs,z0,hsi,rj with
    |[z1,z2],_,hsi,rj=>
     have q1:=hsi 0 z1 _ rfl rfl;have q2:=hsi 1 z2 _ rfl rfl;cases q1;cases q2;obtain⟨u1,u2,rfl,r1,r2⟩:=iE rj;obtain⟨t1,rfl⟩:=r1;obtain⟨t2,rfl⟩:=r2;obtain⟨o,ho,Rj,n,RY⟩:=ht;exact⟨o,_,n,ho,Rj,RY,.cons (Gh _ _ _ _) (.cons (Gh _ _ _ _) .nil)⟩
  obtain⟨QH,Sx⟩:=Et item;have Qb:Pj.toArray.size=pts.length:=by simp[Sw]
  refine ST.call_set_pts (λi=>([(pts.getD i (0,0)).1,(pts.getD i (0,0)).2],QH i)) hh (by show X.A.units+1+1+1<H_;lia) pl.isList (λi z ez=>?_) (λi hi=>?_) (by rw[Qb];lia) λh2 tk kb sp got keep=>?_
  ·have hi:i<pts.length:=by have:=aF (show Pj[i]?=some z by simpa using ez);lia
   have:=(Sx i hi).1;rw[show Pj.toArray[i]?=Pj[i]? by simp,this]at ez
   cases ez;rfl
  ·exact (Sx i (by rw[Qb]at hi;exact hi)).2.2
  ·rw[Qb]at got;have I2:Inv X pins σ H1 {s1 with heap:=h2,toks:=tk }:=I1.kept (t':=tk) keep
   refine JB ?_;have hkl:kb.length<64:=by have:=got.len;lia
   refine ST.call_sorted_set (s:={s1 with heap:=h2,toks:=tk }) hh sp hkl (λz hz=>by obtain⟨j,_,rfl⟩:=got.src z hz;rfl) λh3 h4 tk2 pb ep pm so k1 k2 hD=>?_
   have I3:Inv X pins σ H1 {s1 with heap:=h3,toks:=tk2 }:=I2.kept (t':=tk2) k1
   have src:∀z∈pb,∃j,j<pts.length/\z=(pts.getD j (0,0),QH j):=λz hz=>by
    obtain⟨y,hy,rfl⟩:=ER.mp (pm.mem_iff.mp hz);obtain⟨j,hj,rfl⟩:=got.src y hy;exact⟨j,hj,rfl⟩
   have epts:pb.map (·.1)=ST.srt pts:=by
    refine ST.asc_one so (ST.srt_asc pts) λz=>?_
    rw[ST.srt_mem];constructor
    ·intro hz;obtain⟨y,hy,rfl⟩:=ER.mp hz;obtain⟨j,hj,rfl⟩:=src y hy;simp[hj]
    ·intro hz;obtain⟨j,hj⟩:=FK.mp hz;have hjl:=aF hj;have hk:=got.all j hjl;obtain⟨y,hy,ey⟩:=ER.mp hk;have RU:((y.1.getD 0 0,y.1.getD 1 0),y.2)∈ST.ptsOf kb:=ER.mpr ⟨y,hy,rfl⟩;have hin':=pm.mem_iff.mpr RU;refine ER.mpr ⟨_,hin',?_⟩;rw[ey];have:pts.getD j (0,0)=z:=by rw[Fe,hj];rfl
     show ((pts.getD j (0,0)).1,(pts.getD j (0,0)).2)=z;rw[this]
   have fr:H1 h3.objs.size=none:=I3.hok.fresh (EU _);refine⟨.ref h3.objs.size,upd H1 h3.objs.size (.lst (pb.map λz=>V.ref z.2)),?_,rfl,?_⟩
   ·refine I3.laid (t':=tk2) k2 (EU _) ⟨?_,(ST.refs pb),ep,?_,hD⟩
    ·rw[EH,<-EH (f:=(·.1)),epts,Gg];have:=ST.srt_len pts;lia
    ·have all:∀l:ST.PB,aU (l.map λz=>V.ref z.2) (ST.refs l):=λl=>by
      induction l with
      |nil=>exact .nil
      |cons z r ih=>exact .cons rfl ih
     exact all pb
   ·refine q _ _ _ (sm.trans (aN fr _)) (sm.free fr) aL ⟨?_,λi z x e1 e2=>?_⟩
    ·rw[EH,<-epts,EH,EH]
    ·rw[<-epts,Fh,ES]at e2;rw[ES]at e1;cases hpi:pb[i]? with
     |none=>rw[hpi]at e1;cases e1
     |some y=>
      rw[hpi]at e1 e2;cases e1;cases e2;obtain⟨j,hj,rfl⟩:=src y (E5 hpi);exact (Sx j hj).2.1.same (bD (aN fr _) fr)
end
end L2
namespace ST
open PySem
section
variable {prog:EW}{w:Fl}{A:Fm}{s:EL}{R:M4→EL→Prop}{I:EX}{fp wr:List EX}{G:Array ID→Array ID→Prop}{n:Nat}{P:Nat→EN→Prop}{St:Nat→EL→Prop}{T:String}
def wY(prog:EW)(w:Fl)(T:String):Prop:=∀(A:Fm) (E:EN->EL->Prop) (s:EL) (r:EX) (Q:Bool->EL->Prop),s.TypeIs (.ref r) T->(∀b,Q b s)->Ff (FE prog w) A (Builtin.List.listLengthHint (.ref r)) Q E s
theorem uu(W:WalksS prog w A.in1 I fp wr G n P St)(hT:∀i s,St i s→s.TypeIs (.ref I) T)(hl:(Gd T==Gd "list")=false)(ht:(Gd T==Gd "tuple")=false)(hint:wY prog w T)(S:EX)(res:EN)(c₀:Nat)(Qs:St 0 s)(Qq:S ∉ fp)(hI:I∈fp)
  (hS:s.heap.get? S=some {cls:=.type "list",data:=.seq #[] c₀ })
  (hR:∀s' Qd c',Moved (S::wr) G s s'→s'.heap.get? S=some {cls:=.type "list",dict:=none,data:=.seq Qd c',slots:=#[] }→ItemsOf P Qd n→R (.ok (.ret res)) s') (hn:n≤sizeLine):
  Ff (FE prog w) A.in1 (Builtin.List.listExtendWith (.ref S) (.ref I) res)
   (λPF s'=>match PF with | .done f=>R (.ok f) s' | .again c'=>c'.quiet=true/\Ip (FE prog w) A c' R s') (λe s'=>R (.error e) s') s:=by
 have hSI:S≠I:=λe=>Qq (e ▸ hI)
 unfold Builtin.List.listExtendWith;refine EF (LQ (hT 0 _ Qs) ?_);have k1:Builtin.List.listSameRef (.ref S) (.ref I)=false:=by simp[Builtin.List.listSameRef,hSI]
 simp only[k1,hl,ht,OD,E7,if_false];refine EF (W.self 0 _ _ _ Qs (EF (F7 (hint _ _ _ _ _ (hT 0 _ Qs) λb=>?_))))
 refine Ib (λ_=>?_) (λ_=>?_)
 ·refine EF (Jc (EF ?_));show Ff _ A.in1 (IV S (·.push .none) >>=λ_=>IV S (·.pop)) _ _ _
  refine EF (Gp hS rfl ?_);have g2:=FL (F1 (·.push Fj)) hS rfl;refine Gp (hz:=by seq_fits) g2 rfl ?_
  have g3:=FL (F1 (·.pop)) g2 rfl;have P4:∀b o,b≠S->s.heap.get? b=some o->((s.heap.update S (F1 (·.push Fj))).update S (F1 (·.pop))).get? b=some o:=λb o hb e=>(Fg _ _ (Ne.symm hb)).trans ((Fg _ _ (Ne.symm hb)).trans e)
  refine EM ⟨Gu Gr _,Mc W hn _ Qq _ n 0 _ _ _ rfl (FU _) (W.frame 0 s _ s.toks Qs (EU _) λb hb o e=>P4 b o (λz=>Qq (z ▸ hb)) e) g3 (ItemsOf.nil P) λs' Qd c' m g' it=>?_⟩
  exact hR s' Qd c' (Moved.trans W.gtrans ((Moved.refl W.grefl).then_heap (EU _) λb o hb e=>P4 b o (λz=>hb (z ▸ ET)) e) m) g' it
 ·exact EM ⟨Gu Gr _,Mc W hn _ Qq _ n 0 _ _ _ rfl (FU _) Qs hS (ItemsOf.nil P) λs' Qd c' m g' it=>hR s' Qd c' m g' it⟩
theorem AC(W:WalksS prog w A.in1 I fp wr G n P St)(hT:∀i s,St i s→s.TypeIs (.ref I) T)(hl:(Gd T==Gd "list")=false)(ht:(Gd T==Gd "tuple")=false)(hint:wY prog w T)(S:EX)(Qs:St 0 s)(Qq:S ∉ fp)(hI:I∈fp)
  (hS:s.heap.get? S=some {cls:=.type "list",data:=.seq #[] })
  (hR:∀s' Qd c',Moved (S::wr) G s s'→s'.heap.get? S=some {cls:=.type "list",dict:=none,data:=.seq Qd c',slots:=#[] }→ItemsOf P Qd n→R (.ok (.ret .none)) s') (hn:n≤sizeLine):
  Ff (FE prog w) A.in1 (Builtin.«list.__init__» ⟨[.ref S,.ref I],[]⟩)
   (λPF s'=>match PF with | .done f=>R (.ok f) s' | .again c'=>c'.quiet=true/\Ip (FE prog w) A c' R s') (λe s'=>R (.error e) s') s:=by
 show Ff _ A.in1 (Builtin.List.listItems (.ref S) >>=λold=>Builtin.List.listUpdate (.ref S) (λ_=>#[]) >>=λ_=>letGo old.toList.reverse >>=λ_=>Builtin.List.listExtendWith (.ref S) (.ref I) .none) _ _ s
 refine EF ?_;unfold Builtin.List.listItems;refine EF (GC hS rfl (EM ?_));show Ff _ A.in1 (IV S (λ_=>#[]) >>=λ_=>letGo (#[]:Array EN).toList.reverse >>=λ_=>Builtin.List.listExtendWith (.ref S) (.ref I) .none) _ _ s
 refine EF (Gp hS rfl ?_);have g2:=FL (F1 (λ_=>(#[]:Array EN))) hS rfl
 have P4:∀b o,b≠S->s.heap.get? b=some o->(s.heap.update S (F1 (λ_=>(#[]:Array EN)))).get? b=some o:=λb o hb e=>(Fg _ _ (Ne.symm hb)).trans e
 refine EF (Ii ?_);refine uu W hT hl ht hint S .none _ (W.frame 0 s _ s.toks Qs (EU _) λb hb o e=>P4 b o (λz=>Qq (z ▸ hb)) e) Qq hI g2 (λs' Qd c' m g' it=>?_) hn
 exact hR s' Qd c' (Moved.trans W.gtrans ((Moved.refl W.grefl).then_heap (EU _) λb o hb e=>P4 b o (λz=>hb (z ▸ ET)) e) m) g' it
variable {E:EN→EL→Prop}
theorem call_list_it{Q:EN→EL→Prop}(W:WalksS prog w A.in1.in1 I fp wr G n P St)(hT:∀i s,St i s→s.TypeIs (.ref I) T)(hl:(Gd T==Gd "list")=false)(ht:(Gd T==Gd "tuple")=false)(hint:wY prog w T)(Qs:St 0 s)(hfp:∀b∈fp,b<s.heap.objs.size)(hI:I∈fp)
  (hQ:∀s' Qd c',Moved (s.heap.objs.size::wr) G {s with heap:=s.heap.push {cls:=.type "list",data:=.seq #[] } } s'→
   s'.heap.get? s.heap.objs.size=some {cls:=.type "list",dict:=none,data:=.seq Qd c',slots:=#[] }→ItemsOf P Qd n→Q (.ref s.heap.objs.size) s') (hn:n≤sizeLine):
  Ff (FE prog w) A (call (.type "list") [.ref I]) Q E s:=by
 have Qq:s.heap.objs.size ∉ fp:=λhm=>FA _ (hfp _ hm)
 refine N5 (Q₁:=λobj Po=>obj=.ref s.heap.objs.size∧Po={s with heap:=s.heap.push {cls:=.type "list",data:=.seq #[] } }) Mq (La _) Lb (code_list_new _ ⟨rfl,rfl⟩) λobj Po h₁=>?_
 obtain⟨rfl,rfl⟩:=h₁;have hS:(s.heap.push {cls:=.type "list",data:=.seq #[] }).get? s.heap.objs.size=some {cls:=.type "list",data:=.seq #[] }:=E3 _ rfl;refine⟨⟨_,hS,rfl⟩,KL _ _,AC W hT hl ht hint _ (W.frame 0 s _ s.toks Qs (EU _) λb _ o e=>EK _ e) Qq hI hS (λs' Qd c' m g' it=>?_) hn⟩
 exact⟨rfl,hQ s' Qd c' m g' it⟩
end
theorem y6:MR (.type "list_reverseiterator") "__len__"=pure none:=by rw[Iu,Hi];kernel_rfl
theorem k8:Slot "list_reverseiterator" "__length_hint__" "list_reverseiterator.__length_hint__":=
 .of (owner:="list_reverseiterator") (n:="__length_hint__") (by rw[Iu,Hi];kernel_rfl) (by decide+kernel) (by decide+kernel) (by decide+kernel) (by first |exact .inl (by decide+kernel) |exact .inr (by decide+kernel)) (by rw[JO];kernel_rfl)
theorem hint_rev(prog:EW)(w:Fl):wY prog w "list_reverseiterator":=λA E s r Q hT h=>by
 unfold Builtin.List.listLengthHint;refine EF (Ir hT y6 ?_);show Ff _ A (specialOf (Fs r) (Str.ofString "__length_hint__") >>=_) _ _ _;refine EF (Ir hT k8.lookup ?_);generalize hid:("list_reverseiterator.__length_hint__":String)=id0
 wp_delta
 rw[show splitId id0=some ("list_reverseiterator","__length_hint__") from by subst hid;decide+kernel]
 subst hid;refine EF (Ho (T:="list_reverseiterator") (b:=true) hT (by rw[JO];kernel_rfl) ?_)
 refine Ib (λz=>absurd z (by decide)) (λ_=>?_)
 refine Ib (λ_=>?_) (λz=>absurd (by decide+kernel) z)
 refine Ib (λz=>absurd z (by decide+kernel)) (λ_=>EM (h _))
end ST
namespace L2
open PySem PySem.Spec PyProof.Rows
theorem lh:GS "reversed"=some (.type "reversed"):=by decide+kernel
theorem aU.rev:∀{xs:List V}{us:List EN},aU xs us->aU xs.reverse us.reverse:=λ{xs us} r=>by
 induction r with
 |nil=>exact .nil
 | @cons x u xs us r1 r2 ih=>
  rw[JH,JH]
  have app:∀{a:List V}{b:List EN},aU a b->aU (a++[x]) (b++[u]):=λ{a b} q=>by
   induction q with
   |nil=>exact .cons r1 .nil
   |cons q1 _ ih'=>exact .cons q1 ih'
  exact app ih
theorem Rps.rev{K:EI}{H:Hp}{vs:List V}{xs:List U}(r:Rps K H vs xs):Rps K H vs.reverse xs.reverse:=⟨by simp[r.len],λi v x h1 h2=>by
 have hi:i<vs.length:=by have:=aF h1;simpa using this
 have hx:i<xs.length:=by rw[<-r.len];exact hi
 rw[GA hi]at h1;rw[GA hx,<-r.len]at h2;exact r.at_ _ v x h1 h2⟩
section
variable {X:Cx}{H0:Hp}{O0:List EX}{ps:PSt}{e k:Expr}{x:U}{xs:List U}{pos PL p p' p2:Pos}
theorem uI{K:EI}{H:Hp}{v:V}(rp:Rp K H v x)(hx:x=.lst xs\/x=.scr xs):∃a vs,v=.ref a/\SqL K H a vs/\Rps K H vs xs:=by
 rcases hx with rfl |rfl
 ·cases rp with
  |lst hq hl hh=>exact⟨_,_,rfl,SqL.of hq,hl,hh⟩
 ·cases rp with
  |scr hq hl hh=>exact⟨_,_,rfl,hq,hl,hh⟩
theorem C2(he:Ev X H0 O0 ps e x)(hk:Ev X H0 O0 ps k (.int (-1)))(hx:x=.lst xs\/x=.scr xs):EvN X H0 O0 ps (.Subscript e (.Slice none none (some k) p2) pos) xs.reverse:=by
 rintro pins s σ H Q I ⟨O,R,q⟩;refine Om (thn (he pins s σ H (λv H1=>aK H H1/\Rp X.K (hid H1 O) v x) I ⟨O,R,λv H1 s1 r1=>⟨s1,r1⟩⟩) λu s1 ⟨v,H1,I1,r1,sm,rp⟩=>?_)
 obtain⟨a,vs,rfl,hq,rs⟩:=uI rp hx;cases r1;refine wpAny_Slice ?_;rw[Mu];refine EM (EM ?_);rw[evalPart_some];refine thn (hk pins s1 σ H1 (λv H2=>aK H1 H2/\v=.int (-1)) I1 ⟨O,R.go sm,λv H2 s2 r2=>⟨s2,by cases r2;rfl⟩⟩) λuk s2 hy=>?_
 obtain⟨vk,H2,I2,rk,s12,rfl⟩:=hy;obtain⟨t,rfl⟩:=rk;have I3:Inv X pins σ H2 {s2 with heap:=s2.heap.push {cls:=.type "slice",data:=.fields #[.none,.none,.int (-1) t] } }:=I2.kept (t':=s2.toks) λb ob z=>EK _ z
 obtain⟨Pj,rv,pl,hz⟩:=I3.list (s12.seq (aC.seq hq));have Pm:=rv.length;show Ff (FE X.prog X.w) X.A (Mx e (.Slice none none (some k) p2) (.ref a) (.ref s2.heap.objs.size)) (EP X pins σ Q) X.xe {s2 with heap:=s2.heap.push {cls:=.type "slice",data:=.fields #[.none,.none,.int (-1) t] } }
 refine tail_any (ops:=[.ref a,.ref s2.heap.objs.size]) pl.isList.typeIs slot_list_getitem.lookup ?_ (by with_unfolding_all rfl)
 refine KD pl.isList (Mw ..) .none .none (IsPart.int _ _) (by simp) ?_ (by rw[E4];lia)
 rw[PySem.W.krv_pick];generalize hn:(s2.heap.push {cls:=.type "slice",data:=.fields #[.none,.none,.int (-1) t] }).objs.size=D;have fr:H2 D=none:=I3.hok.fresh (by rw[<-hn];exact EU _)
 refine⟨.ref D,upd H2 D (.lst vs.reverse),I3.laid (t':=s2.toks) (o:=.lst vs.reverse) (λb ob z=>EK _ z) (by rw[<-hn];exact EU _) ⟨by rw[FQ];exact hz,Pj.reverse,0,rv.rev,?_⟩,rfl,?_⟩
 ·rw[<-hn];exact E3 _ rfl
 ·refine q D _ _ ((sm.trans s12).trans (aN fr _)) ((sm.trans s12).free fr) aL ?_;exact (rs.rev.same (aM s12)).same (bD (aN fr _) fr)
theorem uA(hc:X.calm=true)(hg:Gl X "list")(hm:X.mg "list"=none)(hgr:Gl X "reversed")(hmr:X.mg "reversed"=none)(ha:Ev X H0 O0 ps e (.lst xs))
  (he:EZ [e] X.env=(false,HY e X.env)::EZ [] X.env:=by rfl):EvN X H0 O0 ps (.Call (.Name "list" p) [.Call (.Name "reversed" p') [e] [] PL] [] pos) xs.reverse:=by
 rintro pins s σ H Q I ⟨O,R,q⟩;have hh:X.A.handled=none:=I.ok.hd hc;refine Gi (cJ I hg hm HQ ?_);refine callWith_type1 (e:=.Call (.Name "reversed" p') [e] [] PL) (rest:=[]) ?_ aX rfl;rw[aX];show Ff _ _ (Ot ((false,HY (.Call (.Name "reversed" p') [e] [] PL) X.env)::Ie pos (EZ [] X.env))) _ _ s;refine Jj ?_;refine Gi (cJ I hgr hmr lh ?_);refine callWith_type1 (thn (c_ ha fS he PL pins s σ H (λvs H1=>∃v,vs=[v]/\aK H H1/\Rp X.K (hid H1 O) v (.lst xs)) I ⟨O,R,λv H1 s1 r1=>⟨v,rfl,s1,r1⟩⟩) λus s1 hx=>?_) he rfl
 obtain⟨vs,H1,I1,rv,v,rfl,sm,rp⟩:=hx;obtain⟨u,rfl,ru⟩:=ft rv;obtain⟨a,ws,rfl,hq,rs⟩:=uI rp (.inl rfl);cases ru;obtain⟨Pj,Q3,pl,hz⟩:=I1.list (aC.seq hq);have Pm:=Q3.length;have Qb:Pj.toArray.size=Pj.length:=by simp
 refine call_reversed_list pl.isList ?_;have I2:Inv X pins σ H1 {s1 with heap:=s1.heap.push (Pd a ((Pj.toArray.size:Int)-1)) }:=I1.kept (t':=s1.toks) λb ob z=>EK _ z
 refine JB ?_;have QA:a<s1.heap.objs.size:=by obtain⟨o,ho,_⟩:=pl.isList;exact EY ho
 have W:=(Walks.listRev (prog:=X.prog) (w:=X.w) (A:=X.A.in1.in1) hh s1.heap.objs.size a (Ft QA) Pj.toArray).toS;refine ST.call_list_it (T:="list_reverseiterator") (s:={s1 with heap:=s1.heap.push (Pd a ((Pj.toArray.size:Int)-1)) }) W (λi s' st=>st.2.1.typeIs) (by decide) (by decide) (ST.hint_rev _ _) ⟨FU _,⟨_,E3 _ rfl,rfl,by simp[Pd]⟩,pl.isList.push _⟩ (λb hb=>?_) (by simp) (λs3 acc c m hD Qx=>?_) (by rw[Qb];lia)
 ·show b<(s1.heap.push _).objs.size;rw[GM];simp at hb;rcases hb with z |z
  ·rw[z];exact GO _
  ·rw[z];exact GV QA
 ·obtain⟨h3,g3,d3,tk3,os3⟩:=s3;obtain rfl:g3=s1.gens:=m.gens;obtain rfl:d3=s1.drawn:=m.drawn;obtain rfl:os3=s1.os:=m.os;have szI:(s1.heap.push (Pd a ((Pj.toArray.size:Int)-1))).objs.size=s1.heap.objs.size+1:=GM ..
  have keep:∀b ob,s1.heap.get? b=some ob->h3.get? b=some ob:=λb ob z=>by
   have hb:=EY z;refine m.heap b ob (λy=>?_) (EK _ (EK _ z))
   rcases EO.mp y with y |y
   ·rw[y]at hb;have Rr:s1.heap.objs.size+1<s1.heap.objs.size:=by rw[<-szI];exact hb
    exact absurd Rr (by lia)
   ·rw[EV.mp y]at hb;exact FA _ hb
  have RX:acc.toList=Pj.reverse:=by
   apply HA;intro i;rcases GH i acc.size with z |z
   ·have y:=Qx.2 i _ (Gq z);have hi:i<Pj.length:=by rw[Qx.1,Qb]at z;exact z
    rw[FS,Gq z,GA hi,<-y,Qb];simp
   ·have hi:Pj.length<=i:=by rw[Qx.1,Qb]at z;exact z
    rw[Fy (by simpa using z),Fy (by simpa using hi)]
  generalize hn:(s1.heap.push (Pd a ((Pj.toArray.size:Int)-1))).objs.size=D at *;have fr:H1 D=none:=I2.hok.fresh (by rw[<-hn];exact EU _)
  have I3:Inv X pins σ (upd H1 D (.lst ws.reverse)) {s1 with heap:=h3,toks:=tk3 }:=I1.laid (t':=tk3) (o:=.lst ws.reverse) keep (by rw[szI];exact Nat.le_succ _) ⟨by rw[FQ];exact hz,Pj.reverse,c,Q3.rev,by rw[<-RX,Array.toArray_toList];exact hD⟩
  refine⟨.ref D,_,I3,rfl,q D _ _ (sm.trans (aN fr _)) (sm.free fr) aL ?_⟩;exact rs.rev.same (bD (aN fr _) fr)
end
section
variable {X:Cx}{H0:Hp}{O0:List EX}{ps:PSt}{xs:List U}{us:List U}{es:List Expr}{x:Str}{pc p' pos:Pos}
theorem cq(n:Nat)(h:ps[n]?=some (some (.own xs)))(hg:Gl X "len")(hm:X.mg "len"=none)(hN:X.N[n]?=some x:=by rfl)(hv:Vis X.env.scope x:=by first |exact Or.inl rfl |exact Or.inr (Or.inl rfl) |exact Or.inr (Or.inr rfl))(hd:(x==("__debug__":Str))=false:=by decide)
  (Qr:(x==("__classdict__":Str))=false:=by decide) (Qe:(Ie pos (EZ [] X.env)).any (·.1)=false:=by rfl):Ev X H0 O0 ps (.Call (.Name "len" pc) [.Name x p'] [] pos) (.int xs.length):=Ct n h hg hm hN hv hd Qr ai Qe
end
end L2
namespace ST
open PySem
abbrev ik(h:GD)(z TI TO T:EX)(b:Bool):Prop:=h.get? z=some {cls:=.type "zip",dict:=none,data:=.fields #[Kj T,.bool b,.bool false,.ref TI,.ref TO],slots:=#[] }
variable {prog:EW}{E:EN→EL→Prop}
section
variable {w:Fl}{A:Fm}{s:EL}
theorem CW{T:EX}{o:Obj}{Q:Option Obj->EL->Prop}(h:s.heap.get? T=some o)(q:Q (some o) s):Ff (FE prog w) A (loadIfAlive T) Q E s:=λΓ p hΓ=>by
 unfold loadIfAlive;rw[Sem.wp_loadIfAlive,h];simpa using q
theorem gm{z TI TO T:EX}{b:Bool}{oT:Obj}{Q:Bool->EL->Prop}(hz:ik s.heap z TI TO T b)(hT:s.heap.get? T=some oT)(h:∀h',ik h' z TI TO T true->Ja z s.heap h'->Q false {s with heap:=h' }):
  Ff (FE prog w) A (Builtin.SmallTypes.ownedTupleIsFree (.ref z)) Q E s:=by
 unfold Builtin.SmallTypes.ownedTupleIsFree;refine EF (I_ hz rfl (x:=Kj T) rfl ?_);dsimp only[Kj];refine EF (CW (T:=(T:Int).toNat) (o:=oT) (by rw[Hz];exact hT) ?_)
 rw[if_neg (by simp)]
 refine EF (I_ hz rfl (x:=.bool b) rfl ?_);cases b with
 |true=>
  rw[if_neg (by decide)]
  exact EM (h s.heap hz (MV _ _))
 |false=>
  rw[if_pos (by decide)]
  refine EF (wpAny_setField_rec hz (by simp) λh₁ hz₁ hs₁=>EM (h h₁ hz₁ hs₁))
theorem vX{z TI TO i1 i2 l1 l2 T:EX}{b:Bool}{oT:Obj}{k1 k2:Nat}{xs ys:Array EN}{x y:EN}{Q:EN->EL->Prop}(D:IZ z TI TO i1 i2 l1 l2)
  (hz:ik s.heap z TI TO T b) (hT:s.heap.get? T=some oT) (Ra:Ju s.heap TI (.ref i1) (.ref i2))
  (h1:s.heap.IsListIter i1 l1 k1) (h2:s.heap.IsListIter i2 l2 k2) (Qc:s.heap.IsList l1 xs) (PM:s.heap.IsList l2 ys) (hx:xs[k1]?=some x) (hy:ys[k2]?=some y)
  (hQ:∀h',ik h' z TI TO T true->h'.IsListIter i1 l1 (k1+1)->h'.IsListIter i2 l2 (k2+1)->Ju h' s.heap.objs.size x y->(∀c o,c≠z->c≠i1->c≠i2->s.heap.get? c=some o->h'.get? c=some o)->Q (.ref s.heap.objs.size) {s with heap:=h' }):
  Ff (FE prog w) A (Builtin.«zip.__next__» ⟨[.ref z],[]⟩) (λPF s'=>∃v,PF=.done (.ret v)/\Q v s') E s:=by
 show Ff _ _ (field (.ref z) 2 >>=_) _ _ _;refine EF (I_ hz rfl (x:=.bool false) rfl ?_);show Ff _ _ (field (.ref z) 3 >>=_) _ _ _;refine EF (I_ hz rfl (x:=.ref TI) rfl (EF (GC Ra rfl ?_)));show Ff _ _ (Builtin.SmallTypes.ownedTupleIsFree (.ref z) >>=_) _ _ _;refine EF (gm hz hT λha za sa=>?_)
 simp only[E7,if_false];refine EF ?_;rw[<-Im];show Ff _ _ (forIn [Fs i1,Fs i2] _ _) _ _ _;simp only[Ia,IW];refine EF (EF (F7 ?_));show Ff _ _ (Builtin.SmallTypes.nextOf (.ref i1) >>=_) _ _ _;refine EF (Jv (h1.extBut sa.extBut D.i1z) (Qc.extBut sa.extBut D.l1z) hx λhb b1 sb=>EM ?_)
 dsimp only;refine EM ?_;dsimp only;refine EF (EF (F7 ?_));show Ff _ _ (Builtin.SmallTypes.nextOf (.ref i2) >>=_) _ _ _;refine EF (Jv ((h2.extBut sa.extBut D.i2z).extBut sb.extBut D.i12.symm) ((PM.extBut sa.extBut D.l2z).extBut sb.extBut D.l2i1) hy λhc c2 sc=>EM ?_)
 dsimp only;refine EM (EM ?_);dsimp only;refine EF (Mm ?_ (by show 2<=sizeLine;rw[Gg];lia))
 have Qb:hc.objs.size=s.heap.objs.size:=by rw[sc.1,sb.1,sa.1]
 have zc:ik hc z TI TO T true:=sc.extBut _ _ D.i2z.symm (sb.extBut _ _ D.i1z.symm za);refine EM ⟨_,rfl,?_⟩;show Q (.ref hc.objs.size) _;rw[Qb];refine hQ _ (EK _ zc) (((b1.extBut sc.extBut D.i12)).at λo e=>EK _ e) (c2.at λo e=>EK _ e) ?_ λc o n1 n2 n3 e=>EK _ (sc.extBut _ _ n3 (sb.extBut _ _ n2 (sa.extBut _ _ n1 e)))
 rw[<-Qb];exact E3 _ rfl
theorem oj{z TI TO i1 i2 l1 l2 T:EX}{b:Bool}{oT:Obj}{k1:Nat}{xs:Array EN}{Q:NC->EL->Prop}(hh:A.handled=none)(D:IZ z TI TO i1 i2 l1 l2)
  (hz:ik s.heap z TI TO T b) (hT:s.heap.get? T=some oT) (Ra:Ju s.heap TI (.ref i1) (.ref i2))
  (h1:s.heap.IsListIter i1 l1 k1) (Qc:s.heap.IsList l1 xs) (hx:xs[k1]?=none)
  (hE:∀h' e,(∀c o,c≠z→c≠i1→c≠i2→s.heap.get? c=some o→h'.get? c=some o)→(∃o,h'.get? e=some o∧o.cls=.type "StopIteration")→E (.ref e) {s with heap:=h' }):
  Ff (FE prog w) A (Builtin.«zip.__next__» ⟨[.ref z],[]⟩) Q E s:=by
 show Ff _ _ (field (.ref z) 2 >>=_) _ _ _;refine EF (I_ hz rfl (x:=.bool false) rfl ?_);show Ff _ _ (field (.ref z) 3 >>=_) _ _ _;refine EF (I_ hz rfl (x:=.ref TI) rfl (EF (GC Ra rfl ?_)));show Ff _ _ (Builtin.SmallTypes.ownedTupleIsFree (.ref z) >>=_) _ _ _;refine EF (gm hz hT λha za sa=>?_)
 simp only[E7,if_false];refine EF ?_;rw[<-Im];show Ff _ _ (forIn [Fs i1,Fs i2] _ _) _ _ _;simp only[Ia,IW];refine EF (EF (F7 ?_));show Ff _ _ (Builtin.SmallTypes.nextOf (.ref i1) >>=_) _ _ _;refine EF (LX hh (h1.extBut sa.extBut D.i1z) (Qc.extBut sa.extBut D.l1z) hx λhb e sb he=>?_)
 exact hE hb e (λc o n1 n2 n3 q=>sb _ _ n2 (sa.extBut _ _ n1 q)) he
theorem k_{z TI TO i1 i2 l1 l2 T:EX}{b:Bool}{oT:Obj}{k1 k2:Nat}{xs ys:Array EN}{x:EN}{Q:NC->EL->Prop}(hh:A.handled=none)(D:IZ z TI TO i1 i2 l1 l2)
  (hz:ik s.heap z TI TO T b) (hT:s.heap.get? T=some oT) (Ra:Ju s.heap TI (.ref i1) (.ref i2))
  (h1:s.heap.IsListIter i1 l1 k1) (h2:s.heap.IsListIter i2 l2 k2) (Qc:s.heap.IsList l1 xs) (PM:s.heap.IsList l2 ys) (hx:xs[k1]?=some x) (hy:ys[k2]?=none)
  (hE:∀h' e,(∀c o,c≠z→c≠i1→c≠i2→s.heap.get? c=some o→h'.get? c=some o)→(∃o,h'.get? e=some o∧o.cls=.type "StopIteration")→E (.ref e) {s with heap:=h' }):
  Ff (FE prog w) A (Builtin.«zip.__next__» ⟨[.ref z],[]⟩) Q E s:=by
 show Ff _ _ (field (.ref z) 2 >>=_) _ _ _;refine EF (I_ hz rfl (x:=.bool false) rfl ?_);show Ff _ _ (field (.ref z) 3 >>=_) _ _ _;refine EF (I_ hz rfl (x:=.ref TI) rfl (EF (GC Ra rfl ?_)));show Ff _ _ (Builtin.SmallTypes.ownedTupleIsFree (.ref z) >>=_) _ _ _;refine EF (gm hz hT λha za sa=>?_)
 simp only[E7,if_false];refine EF ?_;rw[<-Im];show Ff _ _ (forIn [Fs i1,Fs i2] _ _) _ _ _;simp only[Ia,IW];refine EF (EF (F7 ?_));show Ff _ _ (Builtin.SmallTypes.nextOf (.ref i1) >>=_) _ _ _;refine EF (Jv (h1.extBut sa.extBut D.i1z) (Qc.extBut sa.extBut D.l1z) hx λhb b1 sb=>EM ?_)
 dsimp only;refine EM ?_;dsimp only;refine EF (EF (F7 ?_));show Ff _ _ (Builtin.SmallTypes.nextOf (.ref i2) >>=_) _ _ _;refine EF (LX hh ((h2.extBut sa.extBut D.i2z).extBut sb.extBut D.i12.symm) ((PM.extBut sa.extBut D.l2z).extBut sb.extBut D.l2i1) hy λhc e sc he=>?_)
 exact hE hc e (λc o n1 n2 n3 q=>sc _ _ n3 (sb.extBut _ _ n2 (sa.extBut _ _ n1 q))) he
theorem vo{z TI TO i1 i2 l1 l2 T:EX}{b:Bool}{oT:Obj}{k1 k2:Nat}{xs ys:Array EN}{x y:EN}{Q:Option EN->EL->Prop}(D:IZ z TI TO i1 i2 l1 l2)
  (hz:ik s.heap z TI TO T b) (hT:s.heap.get? T=some oT) (Ra:Ju s.heap TI (.ref i1) (.ref i2))
  (h1:s.heap.IsListIter i1 l1 k1) (h2:s.heap.IsListIter i2 l2 k2) (Qc:s.heap.IsList l1 xs) (PM:s.heap.IsList l2 ys) (hx:xs[k1]?=some x) (hy:ys[k2]?=some y)
  (hQ:∀h',ik h' z TI TO T true->h'.IsListIter i1 l1 (k1+1)->h'.IsListIter i2 l2 (k2+1)->Ju h' s.heap.objs.size x y->(∀c o,c≠z->c≠i1->c≠i2->s.heap.get? c=some o->h'.get? c=some o)->Q (some (.ref s.heap.objs.size)) {s with heap:=h' }):
  Ff (FE prog w) A (IT (.ref z)) Q E s:=by
 have Rk:s.TypeIs (.ref z) "zip":=⟨_,hz,rfl⟩;unfold IT
 exact EF (J5 (Hu (name:=Str.ofString "__next__") Rk GX
  (Gc GX Rk Jw (vX D hz hT Ra h1 h2 Qc PM hx hy λh' a1 a2 a3 a4 a5=>EM (hQ h' a1 a2 a3 a4 a5)) (Jp _))))
theorem kX{z TI TO i1 i2 l1 l2 T:EX}{b:Bool}{oT:Obj}{k1:Nat}{xs:Array EN}{Q:Option EN->EL->Prop}(hh:A.handled=none)(D:IZ z TI TO i1 i2 l1 l2)
  (hz:ik s.heap z TI TO T b) (hT:s.heap.get? T=some oT) (Ra:Ju s.heap TI (.ref i1) (.ref i2)) (h1:s.heap.IsListIter i1 l1 k1) (Qc:s.heap.IsList l1 xs) (hx:xs[k1]?=none)
  (hQ:∀h',(∀c o,c≠z->c≠i1->c≠i2->s.heap.get? c=some o->h'.get? c=some o)->Q none {s with heap:=h' }):Ff (FE prog w) A (IT (.ref z)) Q E s:=by
 have Rk:s.TypeIs (.ref z) "zip":=⟨_,hz,rfl⟩;unfold IT
 refine EF (J5 (Hu (name:=Str.ofString "__next__") Rk GX
  (Gc GX Rk Jw (oj hh D hz hT Ra h1 Qc hx λh' e hk he=>?_) (Jp _))))
 obtain⟨o,ho,hc⟩:=he;refine EF (Ho (T:="StopIteration") (b:=true) ⟨o,ho,hc⟩ Ml ?_);exact EM (hQ h' hk)
theorem j3{z TI TO i1 i2 l1 l2 T:EX}{b:Bool}{oT:Obj}{k1 k2:Nat}{xs ys:Array EN}{x:EN}{Q:Option EN->EL->Prop}(hh:A.handled=none)(D:IZ z TI TO i1 i2 l1 l2)
  (hz:ik s.heap z TI TO T b) (hT:s.heap.get? T=some oT) (Ra:Ju s.heap TI (.ref i1) (.ref i2)) (h1:s.heap.IsListIter i1 l1 k1) (h2:s.heap.IsListIter i2 l2 k2) (Qc:s.heap.IsList l1 xs) (PM:s.heap.IsList l2 ys) (hx:xs[k1]?=some x) (hy:ys[k2]?=none)
  (hQ:∀h',(∀c o,c≠z->c≠i1->c≠i2->s.heap.get? c=some o->h'.get? c=some o)->Q none {s with heap:=h' }):Ff (FE prog w) A (IT (.ref z)) Q E s:=by
 have Rk:s.TypeIs (.ref z) "zip":=⟨_,hz,rfl⟩;unfold IT
 refine EF (J5 (Hu (name:=Str.ofString "__next__") Rk GX
  (Gc GX Rk Jw (k_ hh D hz hT Ra h1 h2 Qc PM hx hy λh' e hk he=>?_) (Jp _))))
 obtain⟨o,ho,hc⟩:=he;refine EF (Ho (T:="StopIteration") (b:=true) ⟨o,ho,hc⟩ Ml ?_);exact EM (hQ h' hk)
end
structure ZL(xs ys:Array EN)(z TI TO i1 i2 l1 l2 S:EX)(h:GD)(i:Nat)(ad:List EX)(c:Nat):Prop where
 ti:Ju h TI (.ref i1) (.ref i2)
 a1:h.IsListIter i1 l1 i
 a2:h.IsListIter i2 l2 i
 b1:h.IsList l1 xs
 b2:h.IsList l2 ys
 acc:h.get? S=some {cls:=.type "list",dict:=none,data:=.seq (ad.map Fs).toArray c,slots:=#[] }
 len:ad.length=i
 tup:∀(j:Nat) (a:EX),ad[j]?=some a->∃x y,xs[j]?=some x/\ys[j]?=some y/\Ju h a x y
 far:∀a∈ad,a≠z/\a≠TO/\a≠i1/\a≠i2/\a≠S
 to:∃o,h.get? TO=some o
 nd:ad.Nodup
 zz:(i=0/\IsZip h z TI TO .none/\∃a b,Ju h TO a b)\/(∃b T,ad[0]?=some T/\ik h z TI TO T b)
variable {R:M4→EL→Prop}
section
variable {w:Fl}{A:Fm}
theorem ZL.put{xs ys:Array EN}{z TI TO i1 i2 l1 l2 S:EX}{h h':GD}{i:Nat}{ad:List EX}{c:Nat}{a:EX}{x y:EN}(Z:ZL xs ys z TI TO i1 i2 l1 l2 S h i ad c)(D:IZ z TI TO i1 i2 l1 l2)
  (hS:S≠z/\S≠TI/\S≠TO/\S≠i1/\S≠i2/\S≠l1/\S≠l2) (ha:a=h.objs.size) (hzlt:z<h.objs.size) (nto:∃o,h'.get? TO=some o) (hx:xs[i]?=some x) (hy:ys[i]?=some y)
  (n1:h'.IsListIter i1 l1 (i+1)) (n2:h'.IsListIter i2 l2 (i+1)) (np:Ju h' a x y) (nk:∀c o,c≠z->c≠TO->c≠i1->c≠i2->h.get? c=some o->h'.get? c=some o)
  (nz:∃b T,(ad++[a])[0]?=some T/\ik h' z TI TO T b):
  ∃c',ZL xs ys z TI TO i1 i2 l1 l2 S (h'.update S (F1 (·.push (.ref a)))) (i+1) (ad++[a]) c':=by
 obtain⟨s1,s2,s3,s4,s5,s6,s7⟩:=hS;have gS:h'.get? S=some {cls:=.type "list",dict:=none,data:=.seq (ad.map Fs).toArray c,slots:=#[] }:=nk S _ s1 s3 s4 s5 Z.acc;have P4:∀b o,b≠S->h'.get? b=some o->(h'.update S (F1 (·.push (.ref a)))).get? b=some o:=λb o hb e=>(Fg _ _ (Ne.symm hb)).trans e
 have Pq:∀b o,h.get? b=some o->b≠a:=λb o e z=>by rw[z,ha]at e;exact FA _ (EY e)
 have aS:a≠S:=λe=>Pq S _ Z.acc e.symm
 have ai1:a≠i1:=by obtain⟨o,e,_⟩:=Z.a1;exact λq=>Pq i1 o e q.symm
 have ai2:a≠i2:=by obtain⟨o,e,_⟩:=Z.a2;exact λq=>Pq i2 o e q.symm
 have az:a≠z:=by rw[ha];exact Io hzlt
 have aTO:a≠TO:=by obtain⟨o,e⟩:=Z.to;exact λq=>Pq TO o e q.symm
 obtain⟨c',gS'⟩:∃c',(h'.update S (F1 (·.push (.ref a)))).get? S=some {cls:=.type "list",dict:=none,data:=.seq ((ad.map Fs).toArray.push (.ref a)) c',slots:=#[] }:=⟨_,PyProof.Rows.get?_update_seq gS (·.push (.ref a))⟩;refine⟨c',⟨P4 _ _ s2.symm (nk TI _ D.TIz D.TITO D.TIi1 D.TIi2 Z.ti),n1.at λo e=>P4 _ o s4.symm e,n2.at λo e=>P4 _ o s5.symm e,?_,?_,?_,by rw[FJ,Z.len];rfl,?_,?_,?_,?_,?_⟩⟩
 ·exact (Z.b1.at λo e=>nk l1 o D.l1z D.l1TO D.l1i1 D.l1i2 e).at λo e=>P4 _ o s6.symm e
 ·exact (Z.b2.at λo e=>nk l2 o D.l2z D.l2TO D.l2i1 D.l2i2 e).at λo e=>P4 _ o s7.symm e
 ·rw[gS'];simp
 ·intro j b hj;rcases GH j ad.length with q |q
  ·rw[Fb q]at hj;obtain⟨x',y',e1,e2,e3⟩:=Z.tup j b hj;obtain⟨f1,f2,f3,f4,f5⟩:=Z.far b (E5 hj);exact⟨x',y',e1,e2,P4 _ _ f5 (nk b _ f1 f2 f3 f4 e3)⟩
  ·rw[Fd q]at hj
   have hj0:j=i:=by
    have:=(E1.mp hj).1;simp at this;rw[Z.len]at *;lia
   subst hj0;rw[Z.len,M7]at hj;cases hj;exact⟨x,y,hx,hy,P4 _ _ aS np⟩
 ·intro b hb;rcases Fx.mp hb with q |q
  ·exact Z.far b q
  ·rw[EV.mp q];exact⟨az,aTO,ai1,ai2,aS⟩
 ·obtain⟨o,e⟩:=nto;exact⟨o,P4 _ _ s3.symm e⟩
 ·rw[Hy];refine⟨Z.nd,by simp,λp hp q hq=>?_⟩
  rw[EV.mp hq];obtain⟨j,hj⟩:=FK.mp hp;obtain⟨_,_,_,_,e⟩:=Z.tup j p hj;exact Pq p _ e
 ·obtain⟨b,T,e1,e2⟩:=nz;exact .inr ⟨b,T,e1,P4 _ _ s1.symm e2⟩
structure ZF(xs ys:Array EN)(S:EX)(h:GD)(ad:List EX)(c:Nat):Prop where
 acc:h.get? S=some {cls:=.type "list",dict:=none,data:=.seq (ad.map Fs).toArray c,slots:=#[] }
 len:ad.length=ys.size
 tup:∀(j:Nat) (a:EX),ad[j]?=some a->∃x y,xs[j]?=some x/\ys[j]?=some y/\Ju h a x y
 ne:∀a∈ad,a≠S
 nd:ad.Nodup
theorem o0(hh:A.in1.handled=none){xs ys:Array EN}{z TI TO i1 i2 l1 l2 S:EX}(D:IZ z TI TO i1 i2 l1 l2)(hS:S≠z/\S≠TI/\S≠TO/\S≠i1/\S≠i2/\S≠l1/\S≠l2)(hxy:ys.size<=xs.size)(hn:xs.size<=1000)(res:EN):
  ∀(k i:Nat) (s:EL) (ad:List EX) (c:Nat),ys.size-i=k->i<=ys.size->ZL xs ys z TI TO i1 i2 l1 l2 S s.heap i ad c->
   (∀h' QH c',ZF xs ys S h' QH c'->(∀b o,b≠z->b≠TO->b≠i1->b≠i2->b≠S->s.heap.get? b=some o->h'.get? b=some o)->(∀a∈QH,a∈ad\/s.heap.get? a=none)->R (.ok (.ret res)) {s with heap:=h' })->
   Ip (FE prog w) A (.builtin "list.extend.loop" ⟨[.ref S,.ref z,res],[]⟩) R s:=by
 intro k
 induction k with
 |zero=>
  intro i s ad c hk hi Z hR;obtain rfl:i=ys.size:=by lia
  refine Gz Kx ?_;rw[F9 Gr _];show Ff _ A.in1 (IT (.ref z) >>=_) _ _ s
  have PF:∀h',(∀b o,b≠z->b≠TO->b≠i1->b≠i2->s.heap.get? b=some o->h'.get? b=some o)->R (.ok (.ret res)) {s with heap:=h' }:=λh' kp=>
   hR h' ad c ⟨kp S _ hS.1 hS.2.2.1 hS.2.2.2.1 hS.2.2.2.2.1 Z.acc,Z.len,λj a e=>by
    obtain⟨x,y,e1,e2,e3⟩:=Z.tup j a e;obtain⟨f1,f2,f3,f4,f5⟩:=Z.far a (E5 e);exact⟨x,y,e1,e2,kp a _ f1 f2 f3 f4 e3⟩,λa ha=>(Z.far a ha).2.2.2.2,Z.nd⟩ (λb o n1 n2 n3 n4 _ e=>kp b o n1 n2 n3 n4 e) λa ha=>.inl ha
  rcases Z.zz with ⟨h0,hz,a,b,hTO⟩ |⟨b,T,hT,hz⟩
  ·refine EF (Md hh D hz Z.ti hTO Z.a1 Z.a2 Z.b1 Z.b2 (.inr (by simp)) λh' kp=>?_)
   exact EM (PF h' kp)
  ·obtain⟨x,y,_,_,hp⟩:=Z.tup 0 T hT;by_cases hq:ys.size<xs.size
   ·refine EF (j3 hh D hz hp Z.ti Z.a1 Z.a2 Z.b1 Z.b2 (Gq hq) (by simp) λh' kp=>?_)
    exact EM (PF h' λb o n1 _ n3 n4 e=>kp b o n1 n3 n4 e)
   ·refine EF (kX hh D hz hp Z.ti Z.a1 Z.b1 (Array.getElem?_eq_none (by lia)) λh' kp=>?_)
    exact EM (PF h' λb o n1 _ n3 n4 e=>kp b o n1 n3 n4 e)
 |succ k ih=>
  intro i s ad c hk hi Z hR;have Pq:i<xs.size:=by lia
  have hly:i+1<=ys.size:=by lia
  have hx:xs[i]?=some xs[i]:=Gq Pq;have hy:ys[i]?=some (ys[i]'(by lia)):=Gq (by lia)
  refine Gz Kx ?_;rw[F9 Gr _];show Ff _ A.in1 (IT (.ref z) >>=_) _ _ s
  have go:∀h',(∃b T,(ad++[s.heap.objs.size])[0]?=some T/\ik h' z TI TO T b)->(∃o,h'.get? TO=some o)->h'.IsListIter i1 l1 (i+1)->h'.IsListIter i2 l2 (i+1)->Ju h' s.heap.objs.size xs[i] (ys[i]'(by lia))->
    (∀b o,b≠z->b≠TO->b≠i1->b≠i2->s.heap.get? b=some o->h'.get? b=some o)->
    Ff (FE prog w) A.in1 (IV S (·.push (.ref s.heap.objs.size)) >>=λ_=>again (.builtin "list.extend.loop" ⟨[.ref S,.ref z,res],[]⟩))
     (λPF s'=>match PF with | .done f=>R (.ok f) s' | .again c'=>c'.quiet=true/\Ip (FE prog w) A c' R s') (λe s'=>R (.error e) s') {s with heap:=h' }:=λh' nz nto n1 n2 np nk=>by
   have gS:h'.get? S=some {cls:=.type "list",dict:=none,data:=.seq (ad.map Fs).toArray c,slots:=#[] }:=nk S _ hS.1 hS.2.2.1 hS.2.2.2.1 hS.2.2.2.2.1 Z.acc
   have hzlt:z<s.heap.objs.size:=by
    rcases Z.zz with ⟨_,hz,_⟩ |⟨_,_,_,hz⟩ <;>exact EY hz
   obtain⟨c',Z'⟩:=Z.put D hS rfl hzlt nto hx hy n1 n2 np nk nz;have QA:((ad.map Fs).toArray).size=i:=by simp[Z.len]
   refine EF (Gp (s:={s with heap:=h' }) gS rfl (EM ⟨Gu Gr _,ih (i+1) _ (ad++[s.heap.objs.size]) c' (by lia) hly Z' λh2 ad2 c2 F kp fr=>?_⟩) (by rw[QA,Gg];lia) (by rw[Array.size_push,QA,Gg];lia))
   refine hR h2 ad2 c2 F (λb o m1 m2 m3 m4 m5 e=>kp b o m1 m2 m3 m4 m5 ((Fg _ _ (Ne.symm m5)).trans (nk b o m1 m2 m3 m4 e))) λa ha=>?_
   rcases fr a ha with q |q
   ·rcases Fx.mp q with q |q
    ·exact .inl q
    ·right;rw[EV.mp q];exact J0 (EU _)
   ·right
    cases hq:s.heap.get? a with
    |none=>rfl
    |some o=>
     exfalso
     by_cases e1:a=S
     ·subst e1;exact F.ne a ha rfl
     ·have q':h'.get? a=none:=by
       have:=q;rw[Fg _ _ (Ne.symm e1)]at this;exact this
      by_cases f1:a=z
      ·obtain⟨_,_,_,e⟩:=nz;rw[f1,e]at q';cases q'
      ·by_cases f2:a=TO
       ·obtain⟨o',e⟩:=nto;rw[f2,e]at q';cases q'
       ·by_cases f3:a=i1
        ·obtain⟨o',e,_⟩:=n1;rw[f3,e]at q';cases q'
        ·by_cases f4:a=i2
         ·obtain⟨o',e,_⟩:=n2;rw[f4,e]at q';cases q'
         ·rw[nk a o f1 f2 f3 f4 hq]at q';cases q'
  rcases Z.zz with ⟨h0,hz,a,b,hTO⟩ |⟨b,T,hT,hz⟩
  ·subst h0;have had:ad=[]:=GE.mp Z.len;refine EF (LY D hz Z.ti hTO Z.a1 Z.a2 Z.b1 Z.b2 hx hy λh' m1 m2 m3 m4 m5 _ kp=>?_)
   exact go h' ⟨false,_,by rw[had];rfl,m1⟩ ⟨_,m2⟩ m3 m4 m5 kp
  ·obtain⟨x,y,_,_,hp⟩:=Z.tup 0 T hT;refine EF (vo D hz hp Z.ti Z.a1 Z.a2 Z.b1 Z.b2 hx hy λh' m1 m3 m4 m5 kp=>?_)
   refine go h' ⟨true,T,?_,m1⟩ ?_ m3 m4 m5 λb o n1 _ n3 n4 e=>kp b o n1 n3 n4 e
   ·rw[Fb (E1.mp hT).1];exact hT
   ·obtain⟨o,e⟩:=Z.to;exact⟨o,kp TO o D.TOz D.TOi1 D.TOi2 e⟩
end
theorem zf:MR (.type "zip") "__len__"=pure none:=by rw[Iu,Hi];kernel_rfl
theorem wW:MR (.type "zip") "__length_hint__"=pure none:=by rw[Iu,Hi];kernel_rfl
theorem xy(prog:EW)(w:Fl):wY prog w "zip":=λA E s r Q hT h=>by
 unfold Builtin.List.listLengthHint;refine EF (Ir hT zf ?_);show Ff _ A (specialOf (Fs r) (Str.ofString "__length_hint__") >>=_) _ _ _;refine EF (Ir hT wW ?_);exact EM (h _)
section
variable {w:Fl}{A:Fm}{s:EL}
theorem vO{z TI TO:EX}{f:EN}{Q:EN->EL->Prop}(hz:IsZip s.heap z TI TO f)(h:Q (.ref z) s):Ff (FE prog w) A (M3 (.ref z)) Q E s:=by
 have hT:s.TypeIs (.ref z) "zip":=⟨_,hz,rfl⟩;refine KI hT LZ (Gc LZ hT PySem.F.entry_zip_iter ?_ (PySem.F.args_zip_iter_1 _));exact EM ⟨_,rfl,"zip",_,hT,GX.lookup,h⟩
theorem qV(hh:A.in1.handled=none){xs ys:Array EN}{z TI TO i1 i2 l1 l2 S:EX}(D:IZ z TI TO i1 i2 l1 l2)(hS:S≠z/\S≠TI/\S≠TO/\S≠i1/\S≠i2/\S≠l1/\S≠l2)(hxy:ys.size<=xs.size)(hn:xs.size<=1000)(res:EN){c₀:Nat}
  (hz:IsZip s.heap z TI TO .none) (Z:∀h',(∀b o,b≠S→s.heap.get? b=some o→h'.get? b=some o)→∀c,h'.get? S=some {cls:=.type "list",dict:=none,data:=.seq #[] c,slots:=#[] }→ZL xs ys z TI TO i1 i2 l1 l2 S h' 0 [] c)
  (gS:s.heap.get? S=some {cls:=.type "list",data:=.seq #[] c₀ })
  (hR:∀h' QH c',ZF xs ys S h' QH c'->(∀b o,b≠z->b≠TO->b≠i1->b≠i2->b≠S->s.heap.get? b=some o->h'.get? b=some o)->(∀a∈QH,s.heap.get? a=none)->R (.ok (.ret res)) {s with heap:=h' }):
  Ff (FE prog w) A.in1 (Builtin.List.listExtendWith (.ref S) (.ref z) res)
   (λPF s'=>match PF with | .done f=>R (.ok f) s' | .again c'=>c'.quiet=true/\Ip (FE prog w) A c' R s') (λe s'=>R (.error e) s') s:=by
 have hT:s.TypeIs (.ref z) "zip":=⟨_,hz,rfl⟩;unfold Builtin.List.listExtendWith;refine EF (LQ hT ?_);have k1:Builtin.List.listSameRef (.ref S) (.ref z)=false:=by simp[Builtin.List.listSameRef,hS.1]
 have k2:(Gd "zip"==Gd "list")=false:=by decide
 have k3:(Gd "zip"==Gd "tuple")=false:=by decide
 simp only[k1,k2,k3,OD,E7,if_false];refine EF (vO hz (EF (F7 (xy prog w _ _ _ _ _ hT λb=>?_))))
 refine Ib (λ_=>?_) (λ_=>?_)
 ·refine EF (Jc (EF ?_));show Ff _ A.in1 (IV S (·.push .none) >>=λ_=>IV S (·.pop)) _ _ _
  refine EF (Gp gS rfl ?_);have g2:=FL (F1 (·.push Fj)) gS rfl;refine Gp (hz:=by seq_fits) g2 rfl ?_
  have g3:=FL (F1 (·.pop)) g2 rfl;have P4:∀b o,b≠S->s.heap.get? b=some o->((s.heap.update S (F1 (·.push Fj))).update S (F1 (·.pop))).get? b=some o:=λb o hb e=>(Fg _ _ (Ne.symm hb)).trans ((Fg _ _ (Ne.symm hb)).trans e)
  refine EM ⟨Gu Gr _,o0 (s:={s with heap:=(s.heap.update S (F1 (·.push Fj))).update S (F1 (·.pop)) }) hh D hS hxy hn res _ 0 [] _ rfl (FU _) (Z _ P4 _ g3) λh' QH c' F kp fr=>?_⟩
  refine hR h' QH c' F (λb o m1 m2 m3 m4 m5 e=>kp b o m1 m2 m3 m4 m5 (P4 b o m5 e)) λa ha=>?_
  rcases fr a ha with q |q
  ·simp at q
  ·cases hq:s.heap.get? a with
   |none=>rfl
   |some o=>
    have e:=P4 a o (F.ne a ha) hq;rw[e]at q;cases q
 ·refine EM ⟨Gu Gr _,o0 hh D hS hxy hn res _ 0 _ [] _ rfl (FU _) (Z _ (λ_ _ _ e=>e) _ gS) λh' QH c' F kp fr=>?_⟩
  exact hR h' QH c' F kp λa ha=>(fr a ha).resolve_left (by simp)
theorem call_list_zip{Q:EN->EL->Prop}(hh:A.handled=none){xs ys:Array EN}{z TI TO i1 i2 l1 l2:EX}(D:IZ z TI TO i1 i2 l1 l2)(hxy:ys.size<=xs.size)(hn:xs.size<=1000)
  (hz:IsZip s.heap z TI TO .none) (Ra:Ju s.heap TI (.ref i1) (.ref i2)) {a b:EN} (hTO:Ju s.heap TO a b) (h1:s.heap.IsListIter i1 l1 0) (h2:s.heap.IsListIter i2 l2 0) (Qc:s.heap.IsList l1 xs) (PM:s.heap.IsList l2 ys)
  (hQ:∀h' QH c',ZF xs ys s.heap.objs.size h' QH c'->(∀b o,b≠z->b≠TO->b≠i1->b≠i2->s.heap.get? b=some o->h'.get? b=some o)->(∀a∈QH,s.heap.get? a=none)->Q (.ref s.heap.objs.size) {s with heap:=h' }):
  Ff (FE prog w) A (call (.type "list") [.ref z]) Q E s:=by
 refine N5 (Q₁:=λobj Po=>obj=.ref s.heap.objs.size∧Po={s with heap:=s.heap.push {cls:=.type "list",data:=.seq #[] } }) Mq (La _) Lb (code_list_new _ ⟨rfl,rfl⟩) λobj Po h₁=>?_
 obtain⟨rfl,rfl⟩:=h₁;generalize hSd:s.heap.objs.size=S at *;have lt:∀c o,s.heap.get? c=some o->S≠c:=λc o e q=>by rw[<-q,<-hSd]at e;exact FA _ (EY e)
 have gS:(s.heap.push {cls:=.type "list",data:=.seq #[] }).get? S=some {cls:=.type "list",data:=.seq #[] }:=by rw[←hSd];exact E3 _ rfl
 have up:∀b o,s.heap.get? b=some o→(s.heap.push {cls:=.type "list",data:=.seq #[] }).get? b=some o:=λb o e=>EK _ e
 have hS:S≠z/\S≠TI/\S≠TO/\S≠i1/\S≠i2/\S≠l1/\S≠l2:=⟨lt _ _ hz,lt _ _ Ra,lt _ _ hTO,by obtain⟨o,e,_⟩:=h1;exact lt _ _ e,by obtain⟨o,e,_⟩:=h2;exact lt _ _ e,by obtain⟨o,e,_⟩:=Qc;exact lt _ _ e,by obtain⟨o,e,_⟩:=PM;exact lt _ _ e⟩
 refine⟨⟨_,gS,rfl⟩,KL _ _,?_⟩;show Ff _ A.in1.in1 (Builtin.List.listItems (.ref S) >>=λold=>Builtin.List.listUpdate (.ref S) (λ_=>#[]) >>=λ_=>letGo old.toList.reverse >>=λ_=>Builtin.List.listExtendWith (.ref S) (.ref z) .none) _ _ _
 refine EF ?_;unfold Builtin.List.listItems;refine EF (GC gS rfl (EM ?_));show Ff _ A.in1.in1 (IV S (λ_=>#[]) >>=λ_=>letGo (#[]:Array EN).toList.reverse >>=λ_=>Builtin.List.listExtendWith (.ref S) (.ref z) .none) _ _ _
 refine EF (Gp gS rfl ?_);have g2:=FL (F1 (λ_=>(#[]:Array EN))) gS rfl
 have P4:∀b o,b≠S→s.heap.get? b=some o→((s.heap.push {cls:=.type "list",data:=.seq #[] }).update S (F1 (λ_=>(#[]:Array EN)))).get? b=some o:=λb o hb e=>(Fg _ _ (Ne.symm hb)).trans (up b o e)
 refine EF (Ii ?_);refine qV (A:=A.in1) (s:={s with heap:=(s.heap.push {cls:=.type "list",data:=.seq #[] }).update S (F1 (λ_=>(#[]:Array EN))) }) hh D hS hxy hn .none (P4 _ _ hS.1.symm hz) (λh' kp c e=>?_) g2 λh' QH c' F kp fr=>?_
 ·have k:∀b o,b≠S->s.heap.get? b=some o->h'.get? b=some o:=λb o hb e=>kp b o hb (P4 b o hb e)
  exact⟨k _ _ hS.2.1.symm Ra,h1.at λo e=>k _ o hS.2.2.2.1.symm e,h2.at λo e=>k _ o hS.2.2.2.2.1.symm e,Qc.at λo e=>k _ o hS.2.2.2.2.2.1.symm e,PM.at λo e=>k _ o hS.2.2.2.2.2.2.symm e,e,rfl,λj a e=>by simp at e,λa ha=>by simp at ha,⟨_,k _ _ hS.2.2.1.symm hTO⟩,Mn,.inl ⟨rfl,k _ _ hS.1.symm hz,a,b,k _ _ hS.2.2.1.symm hTO⟩⟩
 ·refine⟨rfl,hQ h' QH c' F (λb o m1 m2 m3 m4 e=>kp b o m1 m2 m3 m4 (λq=>lt b o e q.symm) (P4 b o (λq=>lt b o e q.symm) e)) λa ha=>?_⟩
  cases hq:s.heap.get? a with
  |none=>rfl
  |some o=>
   have e:=P4 a o (F.ne a ha) hq;have q:=fr a ha;rw[show ({s with heap:=(s.heap.push {cls:=.type "list",data:=.seq #[] }).update S (F1 (λ_=>(#[]:Array EN))) }:EL).heap.get? a=some o from e]at q
   cases q
end
end ST
namespace L2
open PySem PySem.Spec PyProof.Rows
theorem uT{a b:Nat}(h:a<b\/b<a):@Ne EX a b:=λe=>by
 have e':a=b:=e;lia
theorem pT:GS "zip"=some (.type "zip"):=by decide+kernel
section
variable {P:EW}{w:Fl}{H:Hp}{h:GD}{a:EX}{o:HO}
theorem gU(x:cw P w H h a o):∃ob,h.get? a=some ob:=by
 cases o with
 |lst xs=>obtain⟨_,_,_,_,e⟩:=x;exact⟨_,e⟩
 |tup xs=>obtain⟨_,_,_,ob,e,_⟩:=x;exact⟨_,e⟩
 |dK PX=>obtain⟨_,_,_,_,o,_,_,e,_⟩:=x;exact⟨_,e⟩
 |dT PX=>obtain⟨_,_,_,_,o,_,_,e,_⟩:=x;exact⟨_,e⟩
 |set S n=>obtain⟨o,_,_,_,e,_⟩:=x;exact⟨_,e⟩
 |ins C dx fs=>obtain⟨_,_,_,e,_⟩:=x;exact⟨_,e⟩
 |own y=>exact x
 |xd fs=>obtain⟨_,⟨_,_,_,e,_⟩,_⟩:=x;exact⟨_,e⟩
 |rng lo hi=>obtain⟨_,_,_,e⟩:=x;exact⟨_,e⟩
 |frz ob u=>obtain⟨e,_⟩:=x;exact⟨_,e⟩
 |tbl ps=>exact⟨_,(show h.get? a=some _ from x)⟩
 |met f y=>exact⟨_,(show h.get? a=some _ from x)⟩
 |ext φ=>exact x.2.1
end
theorem zC{X:Cx}{pins:List (EX×Obj)}{σ:List (Option V)}{H H':Hp}{s:EL}{h':GD}{t':Nat}(I:Inv X pins σ H s)(k:∀b u,s.heap.get? b=some u->h'.get? b=some u)
  (old:∀b u,s.heap.get? b=some u->H' b=H b) (new:∀b o,s.heap.get? b=none->H' b=some o->cw X.prog X.w H' h' b o):Inv X pins σ H' {s with heap:=h',toks:=t' }:=by
 have at':∀b o,H b=some o->H' b=some o:=λb o e=>let ⟨ob,q⟩:=gU (I.hok b o e);(old b ob q).trans e
 refine I.un ⟨λb u q _ _ _=>k b u q,λb u q _ _ _=>⟨u.slots,k b u q⟩,λb u q n _=>(old b u q).trans n,λb u q _=>⟨u,k b u q⟩,λb xs q=>at' b _ q,λb u xs q=>at' b _ q,λb ps q=>⟨#[],by rw[at' b _ q];simp⟩⟩ λb u e=>?_
 cases hb:s.heap.get? b with
 |some ob=>
  rw[old b ob hb]at e;exact (I.hok b u e).stay (λc v _ q=>k c v q) (λc q=>at' c _ q) λc xs q=>at' c _ q
 |none=>exact new b u hb e
def j4(H:Hp):List EX->List (List V)->Hp
 |[],_=>H
 |a::as,ps=>match ps with
  |[]=>H
  |p::ps=>upd (j4 H as ps) a (.tup p)
theorem o9{H:Hp}:∀{as:List EX}{ps:List (List V)}{b:EX},b ∉ as->j4 H as ps b=H b
 |[],_,_,_=>rfl
 |a::as,[],_,_=>rfl
 |a::as,p::ps,b,h=>by
  show upd (j4 H as ps) a (.tup p) b=H b;rw[aT λz=>h (by rw[z];exact ET)]
  exact o9 λz=>h (EJ _ z)
theorem tM{H:Hp}:∀{as:List EX}{ps:List (List V)}{j:Nat}{a:EX}{p:List V},as.Nodup->as[j]?=some a->ps[j]?=some p->j4 H as ps a=some (.tup p)
 |[],_,j,_,_,_,e,_=>by simp at e
 |_::_,[],j,_,_,_,_,e=>by simp at e
 |b::as,q::ps,0,a,p,_,e1,e2=>by
  simp at e1 e2;subst e1;subst e2;exact aL
 |b::as,q::ps,j+1,a,p,nd,e1,e2=>by
  show upd (j4 H as ps) b (.tup q) a=_;rw[Ht]at e1 e2;have nd':=Gw.mp nd;rw[aT λz=>nd'.1 (by rw[<-z];exact E5 e1)]
  exact tM nd'.2 e1 e2
theorem oA{H:Hp}:∀{as:List EX}{ps:List (List V)}{b:EX}{o:HO},j4 H as ps b=some o->H b=some o\/∃(j:Nat) (p:List V),as[j]?=some b/\ps[j]?=some p/\o=.tup p
 |[],_,_,_,e=>.inl e
 |_::_,[],_,_,e=>.inl e
 |a::as,p::ps,b,o,e=>by
  have e':upd (j4 H as ps) a (.tup p) b=some o:=e;by_cases hb:b=a
  ·subst hb;rw[aL]at e';cases e';exact .inr ⟨0,p,rfl,rfl,rfl⟩
  ·rw[aT hb]at e';rcases oA e' with z |⟨j,q,e1,e2,e3⟩
   ·exact .inl z
   ·exact .inr ⟨j+1,q,by simpa using e1,by simpa using e2,e3⟩
theorem ls:∀(ad:List EX),aU (ad.map V.ref) (ad.map Fs)
 |[]=>.nil
 |_::ad=>.cons rfl (ls ad)
section
variable {X:Cx}{H0:Hp}{O0:List EX}{ps:PSt}{e f:Expr}{x y:U}{xs ys:List U}{pos PL p p':Pos}
theorem kT(hc:X.calm=true)(hg:Gl X "list")(hm:X.mg "list"=none)(hgz:Gl X "zip")(hmz:X.mg "zip"=none)(ha:Ev X H0 O0 ps e x)(hx:x=.lst xs∨x=.scr xs)(hb:Ev X H0 O0 ps f y)(hy:y=.lst ys∨y=.scr ys)(hl:ys.length≤xs.length)(hn:xs.length≤1000)
  (he:EZ [e,f] X.env=(false,HY e X.env)::EZ [f] X.env:=by rfl) (hf:EZ [f] X.env=(false,HY f X.env)::EZ [] X.env:=by rfl):
  EvN X H0 O0 ps (.Call (.Name "list" p) [.Call (.Name "zip" p') [e,f] [] PL] [] pos) (Kp (λa b=>U.tup [a,b]) xs ys):=by
 rintro pins s σ H Q I ⟨O,R,q⟩;have hh:X.A.handled=none:=I.ok.hd hc;refine Gi (cJ I hg hm HQ ?_);refine callWith_type1 (e:=.Call (.Name "zip" p') [e,f] [] PL) (rest:=[]) ?_ aX rfl;rw[aX];show Ff _ _ (Ot ((false,HY (.Call (.Name "zip" p') [e,f] [] PL) X.env)::Ie pos (EZ [] X.env))) _ _ s;refine Jj ?_;refine Gi (cJ I hgz hmz pT ?_);refine callWith_type1 (thn (c_ ha (c_ hb fS hf) he PL pins s σ H (λvs H1=>∃v u,vs=[v,u]/\aK H H1/\Rp X.K (hid H1 O) v x/\Rp X.K (hid H1 O) u y) I ⟨O,R,λv H1 s1 r1=>⟨O,R.go s1,λu H2 s2 r2=>⟨v,u,rfl,s1.trans s2,r1.same (aM s2),r2⟩⟩⟩) λus s1 QY=>?_) he (by rw[hf];rfl)
 obtain⟨vs,H1,I1,rv,v,u,rfl,sm,rp1,rp2⟩:=QY;obtain⟨w1,w2,rfl,ru1,ru2⟩:=iE rv;obtain⟨a,va,rfl,Rf,rs1⟩:=uI rp1 hx;obtain⟨b,vb,rfl,PY,rs2⟩:=uI rp2 hy;cases ru1;cases ru2;obtain⟨ia,ra,Qh,hz1⟩:=I1.list (aC.seq Rf);obtain⟨ib,rb,PJ,hz2⟩:=I1.list (aC.seq PY);have la:=ra.length;have lb:=rb.length;have l1:=rs1.len;have l2:=rs2.len;have al:@LT.lt Nat instLTNat a s1.heap.objs.size:=by obtain⟨o,ho,_⟩:=Qh.isList;exact EY ho
 have bl:@LT.lt Nat instLTNat b s1.heap.objs.size:=by obtain⟨o,ho,_⟩:=PJ.isList;exact EY ho
 refine PySem.call_zip_2 Qh.isList PJ.isList λh' z1 z2 z3 z4 z5 z6 z7=>?_
 refine JB ?_;have D:IZ (s1.heap.objs.size+4) (s1.heap.objs.size+2) (s1.heap.objs.size+3) s1.heap.objs.size (s1.heap.objs.size+1) a b:=by constructor <;>exact uT (by lia)
 have sxy:ib.toArray.size<=ia.toArray.size:=by simp;lia
 have sx:ia.toArray.size<=1000:=by simp;lia
 refine ST.call_list_zip (s:={s1 with heap:=h' }) hh D sxy sx z1 z2 z3 z4 z5 (Qh.isList.at λo e=>z7 _ o e) (PJ.isList.at λo e=>z7 _ o e) λh3 ad c F kp fr=>?_
 have lD:s1.heap.objs.size<=({s1 with heap:=h' }:EL).heap.objs.size:=by show _<=h'.objs.size;lia
 generalize ({s1 with heap:=h' }:EL).heap.objs.size=D0 at *
 have keep:∀b o,s1.heap.get? b=some o->h3.get? b=some o:=λb o e=>by
  have this:@LT.lt Nat instLTNat b s1.heap.objs.size:=EY e;exact kp b o (uT (by lia)) (uT (by lia)) (uT (by lia)) (uT (by lia)) (z7 b o e)
 have fr':∀a∈ad,s1.heap.get? a=none:=λa ha=>by
  cases hq:s1.heap.get? a with
  |none=>rfl
  |some o=>
   have q1:=fr a ha;rw[show ({s1 with heap:=h' }:EL).heap.get? a=some o from z7 a o hq]at q1
   cases q1
 have frD:s1.heap.get? D0=none:=J0 lD
 have nH:∀a,s1.heap.get? a=none->H1 a=none:=λa e=>by
  cases hq:H1 a with
  |none=>rfl
  |some o=>
   obtain⟨ob,z⟩:=gU (I1.hok a o hq);rw[e]at z;cases z
 generalize hP:Kp (λx y:V=>[x,y]) va vb=PS
 have old:∀b u,s1.heap.get? b=some u->upd (j4 H1 ad PS) D0 (.lst (ad.map V.ref)) b=H1 b:=λb u e=>by
  rw[aT λz=>by rw[z,frD]at e;cases e]
  exact o9 λz=>by rw[fr' b z]at e;cases e
 have sm1:aK H1 (upd (j4 H1 ad PS) D0 (.lst (ad.map V.ref))):=λb o e=>let ⟨ob,z⟩:=gU (I1.hok b o e);(old b ob z).trans e
 have lad:ad.length=ib.length:=by rw[F.len];simp
 have atT:∀(j:Nat) (c:EX) (v u:V),ad[j]?=some c->va[j]?=some v->vb[j]?=some u->upd (j4 H1 ad PS) D0 (.lst (ad.map V.ref)) c=some (.tup [v,u]):=λj c v u e1 e2 e3=>by
  rw[aT (F.ne c (E5 e1))];refine tM F.nd e1 ?_;rw[<-hP];exact Hq.mpr ⟨v,u,e2,e3,rfl⟩
 have I3:Inv X pins σ (upd (j4 H1 ad PS) D0 (.lst (ad.map V.ref))) {s1 with heap:=h3 }:=by
  refine zC (t':=s1.toks) I1 keep old λb o nb e=>?_
  by_cases hbD:b=D0
  ·subst hbD;rw[aL]at e;cases e;exact⟨by rw[EH,lad,<-lb];exact hz2,ad.map Fs,c,ls ad,F.acc⟩
  ·rw[aT hbD]at e;rcases oA e with z |⟨j,pr,e1,e2,rfl⟩
   ·rw[nH b nb]at z;cases z
   ·rw[<-hP]at e2;obtain⟨v,u,f1,f2,rfl⟩:=Hq.mp e2;obtain⟨xv,g1,r1⟩:=ra.get f1;obtain⟨yv,g2,r2⟩:=rb.get f2;obtain⟨xv',yv',k1,k2,k3⟩:=F.tup j b e1
    have m1:xv'=xv:=by
     have:ia.toArray[j]?=some xv:=by simpa using g1
     rw[this]at k1;cases k1;rfl
    have m2:yv'=yv:=by
     have:ib.toArray[j]?=some yv:=by simpa using g2
     rw[this]at k2;cases k2;rfl
    subst m1;subst m2;exact⟨(show 2<=sizeLine by decide),[xv',yv'],.cons r1 (.cons r2 .nil),_,k3,rfl,_,rfl⟩
 refine⟨.ref D0,_,I3,rfl,q D0 _ _ (sm.trans sm1) (sm.free (nH _ frD)) aL ⟨?_,λi v u h1 h2=>?_⟩⟩
 ·rw[EH,List.length_zipWith];lia
 ·rw[ES]at h1;cases hi:ad[i]? with
  |none=>rw[hi]at h1;cases h1
  |some c'=>
   rw[hi]at h1;obtain rfl:V.ref c'=v:=by simpa using h1
   obtain⟨xi,yi,f1,f2,rfl⟩:=Hq.mp h2;obtain⟨vi,g1,r1⟩:=rs1.get f1;obtain⟨wi,g2,r2⟩:=rs2.get f2;have S:=bD (O:=O) sm1 (nH _ frD);have rr:=Rps.cons (r1.same S) (Rps.cons (r2.same S) Rps.nil);have QN:=E5 hi;refine .tup (SqT.of (c9 (atT i c' vi wi hi g1 g2) λz=>?_)) rr.len rr.at_
   rcases EO.mp z with z |z
   ·exact F.ne c' QN z
   ·exact (R.go sm).dom c' z (nH _ (fr' c' QN))
theorem uy(hc:X.calm=true)(hg:Gl X "list")(hm:X.mg "list"=none)(hgz:Gl X "zip")(hmz:X.mg "zip"=none)(ha:Ev X H0 O0 ps e x)(hx:x=.lst xs∨x=.scr xs)(hb:Ev X H0 O0 ps f y)(hy:y=.lst ys∨y=.scr ys)(hl:ys.length=xs.length)(hn:xs.length≤1000)
  (he:EZ [e,f] X.env=(false,HY e X.env)::EZ [f] X.env:=by rfl) (hf:EZ [f] X.env=(false,HY f X.env)::EZ [] X.env:=by rfl):
  EvN X H0 O0 ps (.Call (.Name "list" p) [.Call (.Name "zip" p') [e,f] [] PL] [] pos) (Kp (λa b=>U.tup [a,b]) xs ys):=kT hc hg hm hgz hmz ha hx hb hy (OO hl) hn he hf
end
theorem i7(ns:List Int):∀j,preSum (λi=>ns.getD i 0) j=(ns.take j).sum
 |0=>by simp[preSum]
 |j+1=>by rw[preSum,i7 ns j,PySem.sum_take_succ]
section
variable {X:Cx}{ns:List Int}{M:Int}
theorem jR{K:EI}{H:Hp}{ws:List V}{Pj:List EN}(rv:aU ws Pj)(rs:Rps K H ws (ns.map U.int))(i:Nat)(z:EN)(e:Pj.toArray[i]?=some z):∃t,z=.int (ns.getD i 0) t:=by
 have hl:=rs.len;rw[EH]at hl;have e4:Pj[i]?=some z:=by simpa using e
 have hi:i<Pj.length:=aF e4;have hw:i<ws.length:=by rw[rv.length];exact hi
 have hb:i<ns.length:=by lia
 obtain⟨u,e1,e2⟩:=rv.get (EG hw);have e3:=rs.at_ i ws[i] (.int ns[i]) (EG hw) (by rw[ES,EG hb];rfl)
 rw[e4]at e1;cases e1;generalize ws[i]=wi at *;cases e3;rw[Fe,EG hb];obtain⟨t,rfl⟩:=e2;exact⟨t,rfl⟩
theorem xw(hc:X.calm=true)(hM:M∈ns∧∀a∈ns,M≤a):eT X (.builtin "min") [.lst (ns.map U.int)] (.int M):=by
 intro pins s σ H vs us Q I r hq;obtain⟨O,d,rs,q⟩:=hq;obtain⟨v,rfl,h1⟩:=cC rs;obtain⟨p1,rfl,r1⟩:=ft r;cases h1 with
 | @lst a ws _ hq hl hh=>
  cases r1;obtain⟨Pj,rv,pl,_⟩:=I.list (SqL.of (aC _ _ hq));have Pm:Pj.length=ns.length:=by rw[<-rv.length,hl,EH]
  have QR:=jR (ns:=ns) rv ⟨hl,hh⟩;have hn:0<ns.length:=Gb hM.1;refine call_min_walk (G_ pl.isList ?_);have QA:a<s.heap.objs.size:=by obtain⟨o,e,_⟩:=pl.isList;exact EY e
  refine⟨s.heap.objs.size,_,_,_,_,_,_,rfl,Walks.list (A:=X.A.in1) (I.ok.hd hc) s.heap.objs.size a (Ft QA) Pj.toArray,⟨⟨_,E3 _ rfl,rfl,rfl⟩,pl.isList.push _⟩,λb hb=>?_,by rw[E4,Pm];exact hn,CmpOf.ints_lt (λi=>ns.getD i 0) QR,λv h' tk hP hk=>?_⟩
  ·show b<(s.heap.push _).objs.size;rw[GM];rcases EO.mp hb with z |z
   ·rw[z];exact GO _
   ·rw[EV.mp z];exact GV QA
  ·obtain⟨t,rfl⟩:=QR _ _ hP;obtain⟨b1,b2⟩:=argBest_lt (λi=>ns.getD i 0) (Pj.toArray.size-1)
   have e:ns.getD (GB (λi j=>decide (ns.getD i 0<ns.getD j 0)) (Pj.toArray.size-1)) 0=M:=by
    rw[E4,Pm]at b1 b2 |-;generalize GB (λi j=>decide (ns.getD i 0<ns.getD j 0)) (ns.length-1)=g at *
    have hg:g<ns.length:=by lia
    obtain⟨j,hj,ej⟩:=J9 hM.1;have k1:=b2 j (by lia)
    have k2:=hM.2 ns[g] (JY hg);simp only[Fe,EG hg,EG hj,HK]at k1 |-;lia
   rw[e];refine⟨.int M,H,I.kept (t':=tk) λb o e=>hk b o ?_ (EK _ e),⟨t,rfl⟩,q _ H (.refl H) (.int _)⟩
   intro z;have:b=s.heap.objs.size:=by simpa using z
   exact absurd (EY e) (by rw[this];exact FA _)
theorem jF(hc:X.calm=true):eT X (.builtin "sum") [.lst (ns.map U.int)] (.int ns.sum):=by
 intro pins s σ H vs us Q I r hq;obtain⟨O,d,rs,q⟩:=hq;obtain⟨v,rfl,h1⟩:=cC rs;obtain⟨p1,rfl,r1⟩:=ft r;cases h1 with
 | @lst a ws _ hq hl hh=>
  cases r1;obtain⟨Pj,rv,pl,_⟩:=I.list (SqL.of (aC _ _ hq));have Pm:Pj.length=ns.length:=by rw[<-rv.length,hl,EH]
  have QR:=jR (ns:=ns) rv ⟨hl,hh⟩;refine call_sum_walkG (G_ pl.isList ?_);have QA:a<s.heap.objs.size:=by obtain⟨o,e,_⟩:=pl.isList;exact EY e
  refine⟨s.heap.objs.size,_,_,_,_,_,λi=>ns.getD i 0,rfl,Walks.list (A:=X.A.in1) (I.ok.hd hc) s.heap.objs.size a (Ft QA) Pj.toArray,⟨⟨_,E3 _ rfl,rfl,rfl⟩,pl.isList.push _⟩,λb hb=>?_,QR,λh' tk t' hk=>?_⟩
  ·show b<(s.heap.push _).objs.size;rw[GM];rcases EO.mp hb with z |z
   ·rw[z];exact GO _
   ·rw[EV.mp z];exact GV QA
  ·rw[i7,E4,Pm,G5];refine⟨.int ns.sum,H,I.kept (t':=tk) λb o e=>hk b o ?_ (EK _ e),⟨t',rfl⟩,q _ H (.refl H) (.int _)⟩
   intro z;have:b=s.heap.objs.size:=by simpa using z
   exact absurd (EY e) (by rw[this];exact FA _)
end
end L2
namespace ST
open PySem PyProof.Rows
def leP(a b:Int×Int):Bool:=decide (a.1<b.1\/(a.1=b.1/\a.2<=b.2))
section
variable {prog:EW}{w:Fl}{A:Fm}{E:EN→EL→Prop}{s:EL}
theorem sC{x y:Int}{t u:Tok}{Q:EN->EL->Prop}(h:Q (.bool (decide (x<=y))) s):Ff (FE prog w) A (Kb .LtE (.int x t) (.int y u)) Q E s:=
 KM (op:=.LtE) (J7 s _ t) (J7 s _ u) PySem.F.slot_int_le PySem.F.entry_int_le (PySem.F.args_int_le_2 _ _) (gives_int_le _ _ t u) (λx=>nomatch x) h
theorem yJ{x y:EX}{a b:Int×Int}{P:Fin->EL->Prop}(hx:TK prog w s.heap [a.1,a.2] x)(hy:TK prog w s.heap [b.1,b.2] y)(h:P (.done (.ret (.bool (leP a b)))) s):
  Ff (FE prog w) A (Builtin.«tuple.__le__» ⟨[.ref x,.ref y],[]⟩) P E s:=by
 have hTb:=hy.typeIs;obtain⟨o,Pj,n,t,u,ho,_,hd,hi⟩:=hx.two;obtain⟨o',its',n',t',u',Qu,_,QF,Pu⟩:=hy.two;show Ff _ _ (Os (.ref y) (.type "tuple") >>=_) _ _ s;refine EF (Ho hTb JS ?_);simp only[GF,E7,if_false];refine EF (HR ho hd ?_);refine EF (HR Qu QF ?_);have sz:Pj.size=its'.size:=by rw[<-E6,<-E6,hi,Pu];rfl
 rw[hi,Pu];refine EF ?_;simp only[GI,KN,Ia,IW];refine EF (EF ((JA prog w).eqBool (a:=a.1) (b:=b.1) (Gh _ _ _ _) (Gh _ _ _ _) ?_));by_cases e1:a.1=b.1
 ·rw[decide_eq_true e1];simp only[GF,E7,if_false];refine EM ?_;refine EF (EF ((JA prog w).eqBool (a:=a.2) (b:=b.2) (Gh _ _ _ _) (Gh _ _ _ _) ?_));by_cases e2:a.2=b.2
  ·rw[decide_eq_true e2];simp only[GF,E7,if_false];refine EM (EM ?_);have z:leP a b=true:=by unfold leP;simp;lia
   rw[z]at h;refine EM ?_;show P (.done (.ret (.bool (decide (Pj.size<=its'.size))))) s;rw[sz,decide_eq_true (EU _)];exact h
  ·rw[decide_eq_false e2];simp only[HU,if_true];have z:leP a b=decide (a.2<=b.2):=by unfold leP;rw[e1];simp
   rw[z]at h;exact EF (Jc (EF (sC (EF (EM (EM (EM (EM h))))))))
 ·rw[decide_eq_false e1];simp only[HU,if_true];have z:leP a b=decide (a.1<=b.1):=by unfold leP;simp[e1];rw[Int.lt_iff_le_and_ne];simp[e1]
  rw[z]at h;exact EF (Jc (EF (sC (EF (EM (EM (EM (EM h))))))))
theorem le_pts{x y:EX}{a b:Int×Int}{Q:EN->EL->Prop}(hu:A.units<H_)(hx:TK prog w s.heap [a.1,a.2] x)(hy:TK prog w s.heap [b.1,b.2] y)(h:Q (.bool (leP a b)) s):
  Ff (FE prog w) A (F_ .LtE (.ref x) (.ref y)) Q E s:=
 Iw (op:=.LtE) hx.typeIs hy.typeIs L0
  (Gc L0 hx.typeIs PySem.F.entry_tuple_le (yJ hx hy ⟨_,rfl,(λe=>nomatch e),h⟩) (PySem.F.args_tuple_le_2 _ _)) hu
end
end ST
namespace L2
open PySem PySem.Spec PyProof.Rows
section
variable {X:Cx}{H0:Hp}{O0:List EX}{ps:PSt}{a b c:Expr}{pos:Pos}{x y z:U}{p q:P2}{k m:Bool}
theorem Bh{pins:List (EX×Obj)}{σ:List (Option V)}{H:Hp}{s:EL}(I:Inv X pins σ H s){v:V}{u:EN}(r:Rp X.K H v (pu p))(e:bi v u):∃b,u=.ref b/\ST.TK X.prog X.w s.heap [p.1,p.2] b:=by
 cases r with
 | @tup b zs _ hs Rl hsi=>
  cases e;refine⟨b,rfl,?_⟩;obtain⟨jts,rj,ht,_⟩:=I.tuple hs;have z0:zs.length=2:=Rl
  match zs,z0,hsi,rj with
  |[z1,z2],_,hsi,rj=>
   have q1:=hsi 0 z1 _ rfl rfl;have q2:=hsi 1 z2 _ rfl rfl;cases q1;cases q2;obtain⟨u1,u2,rfl,r1,r2⟩:=iE rj;obtain⟨t1,rfl⟩:=r1;obtain⟨t2,rfl⟩:=r2;obtain⟨o,ho,Rj,n,RY⟩:=ht;exact⟨o,_,n,ho,Rj,RY,.cons (Gh _ _ _ _) (.cons (Gh _ _ _ _) .nil)⟩
theorem oS(hu:X.A.units+10<H_):OpS X (F_ .LtE) (pu p) (pu q) (.bl (ST.leP p q)):=by
 intro pins s σ H v w e f Q I r1 r2 h;obtain⟨k1,k2,k3⟩:=h;obtain⟨b1,rfl,t1⟩:=Bh I k1 r1;obtain⟨b2,rfl,t2⟩:=Bh I k2 r2;exact ST.le_pts (by lia) t1 t2 (a9 I k3 rfl)
theorem Dt{cd:Expr}(hc:Tt X H0 O0 ps cd k)(ha:Ev X H0 O0 ps a x)(hb:Ev X H0 O0 ps b y):Ev X H0 O0 ps (.IfExp cd a b pos) (if k=true then x else y):=by
 cases k with
 |true=>exact Bo hc (λ_=>ha) (λh=>nomatch h)
 |false=>exact Bo hc (λh=>nomatch h) (λ_=>hb)
theorem zH{op op':OM}(ho:OpS X (F_ op) x y (.bl k))(Qu:OpS X (F_ op') y z (.bl m))(ha:Ev X H0 O0 ps a x)(hb:Ev X H0 O0 ps b y)(hc:Ev X H0 O0 ps c z)
  (hm:lastMarks [op,op'] [b,c]=false:=by with_unfolding_all rfl):Ev X H0 O0 ps (.Compare a [op,op'] [b,c] pos) (.bl (k && m)):=
 PE.mono (xQ ho Qu ha hb hc hm) λσ H Q ⟨O,R,q⟩=>⟨O,R,λv1 H1 s1 r1=>⟨O,R.go s1,λv2 H2 s2 r2=>⟨(r1.same (aM s2)).out,r2.out,k,rfl,by
  cases k with
  |false=>exact mH (q _ H2 (s1.trans s2) (.bl _))
  |true=>exact m_ ⟨O,(R.go s1).go s2,λv3 H3 s3 r3=>⟨(r2.same (aM s3)).out,r3.out,q _ H3 ((s1.trans s2).trans s3) (.bl _)⟩⟩⟩⟩⟩
end
section
variable {X:Cx}{p q:P2}{l:List P2}
theorem fN{pins:List (EX×Obj)}{σ:List (Option V)}{H:Hp}{s:EL}(I:Inv X pins σ H s){v:V}{u:EN}(r:Rp X.K H v (pu p))(e:bi v u):∃b,u=.ref b/\∀prog w,ST.TK prog w s.heap [p.1,p.2] b:=by
 cases r with
 | @tup b zs _ hs Rl hsi=>
  cases e;refine⟨b,rfl,λprog w=>?_⟩
  obtain⟨jts,rj,ht,_⟩:=I.tuple hs;have z0:zs.length=2:=Rl
  match zs,z0,hsi,rj with
  |[z1,z2],_,hsi,rj=>
   have q1:=hsi 0 z1 _ rfl rfl;have q2:=hsi 1 z2 _ rfl rfl;cases q1;cases q2;obtain⟨u1,u2,rfl,r1,r2⟩:=iE rj;obtain⟨t1,rfl⟩:=r1;obtain⟨t2,rfl⟩:=r2;obtain⟨o,ho,Rj,n,RY⟩:=ht;exact⟨o,_,n,ho,Rj,RY,.cons (Gh _ _ _ _) (.cons (Gh _ _ _ _) .nil)⟩
theorem Bu:decide ([p.1,p.2]=[q.1,q.2])=decide (p=q):=decide_eq_decide.mpr (by
 obtain⟨a,b⟩:=p;obtain⟨c,d⟩:=q;simp)
theorem CJ{A:Fm}{s:EL}{x y:EX}(hu:A.units<H_)(hx:∀prog w,ST.TK prog w s.heap [p.1,p.2] x)(hy:∀prog w,ST.TK prog w s.heap [q.1,q.2] y):SeqAt.EqAt A s (.ref x) (.ref y) (decide (p=q)):=λprog w E Q h=>
 HN hu (hx prog w) (hy prog w) (by rw[Bu];exact h)
open Classical in
theorem xZ{pins:List (EX×Obj)}{σ:List (Option V)}{H:Hp}{s:EL}(I:Inv X pins σ H s){ws:List V}{Pj:List EN}(hu:X.A.in1.units<H_)(rv:aU ws Pj)(rs:Rps X.K H ws (l.map pu)){b:EX}(hb:∀prog w,ST.TK prog w s.heap [p.1,p.2] b):
  ∃e:EN->Bool,(∀y,y∈Pj.toArray->SeqAt.EqAt X.A.in1 s y (.ref b) (e y))/\Pj.toArray.any e=decide (p∈l):=by
 have hll:ws.length=l.length:=by rw[rs.len,EH]
 have item:∀(i:Nat) (y:EN),Pj[i]?=some y->∃(q:P2) (c:EX),l[i]?=some q/\y=.ref c/\∀prog w,ST.TK prog w s.heap [q.1,q.2] c:=λi y hy=>by
  have hi:i<Pj.length:=aF hy;have hw:i<ws.length:=by rw[rv.length];exact hi
  have hq:i<l.length:=by lia
  obtain⟨u,e1,e2⟩:=rv.get (EG hw);rw[hy]at e1;cases e1;obtain⟨c,rfl,t⟩:=fN I (rs.at_ i _ (pu l[i]) (EG hw) (by rw[ES,EG hq];rfl)) e2
  exact⟨l[i],c,EG hq,rfl,t⟩
 have val:∀(q:P2) (c:EX),(∀prog w,ST.TK prog w s.heap [q.1,q.2] c)->decide (∃d,Fs c=.ref d/\∀prog w,ST.TK prog w s.heap [p.1,p.2] d)=decide (q=p):=λq c t=>decide_eq_decide.mpr ⟨λ⟨d,e,t'⟩=>by
  cases e;have:=IsTupleKey.inj (t X.prog X.w) (t' X.prog X.w);obtain⟨a1,a2⟩:=q;obtain⟨b1,b2⟩:=p;simpa using this,λe=>⟨c,rfl,by rw[<-e];exact t⟩⟩
 refine⟨λy=>decide (∃d,y=.ref d/\∀prog w,ST.TK prog w s.heap [p.1,p.2] d),λy hy=>?_,?_⟩
 ·obtain⟨i,hi⟩:=FK.mp (show y∈Pj by simpa using hy)
  obtain⟨q,c,h1,rfl,t⟩:=item i y hi;have:=CJ hu t hb;simp only[val q c t]
  first |exact this |exact cast (by congr) this
 ·rw[Hf,Array.any_eq_true',decide_eq_true_iff];constructor
  ·rintro ⟨y,hy,h⟩;obtain⟨i,hi⟩:=FK.mp (show y∈Pj by simpa using hy)
   obtain⟨q,c,h1,rfl,t⟩:=item i y hi;rw[val q c t,decide_eq_true_iff]at h;rw[<-h];exact E5 h1
  ·intro h;obtain⟨i,hi⟩:=FK.mp h;have Sw:i<Pj.length:=by rw[<-rv.length,hll];exact aF hi
   obtain⟨q,c,h1,h2,t⟩:=item i Pj[i] (EG Sw);rw[hi]at h1;cases h1;exact⟨Pj[i],by simp,by rw[h2];exact decide_eq_true ⟨c,rfl,t⟩⟩
theorem Di(hu:X.A.units+10<H_):OpS X (F_ .In) (pu p) (lp l) (.bl (decide (p∈l))):=by
 intro pins s σ H v w e f Q I r1 r2 h;obtain⟨k1,k2,k3⟩:=h;obtain⟨b1,rfl,t1⟩:=fN I k1 r1;cases k2 with
 | @lst a ws _ hq hl hh=>
  cases r2;obtain⟨Pj,rv,pl,_⟩:=I.list (SqL.of hq);obtain⟨e,he,ha⟩:=xZ (l:=l) I (show X.A.units+1<H_ by lia) rv ⟨hl,hh⟩ t1
  exact SeqAt.in_listAt e pl.isList he (by rw[ha];exact a9 I k3 rfl)
end
theorem nd_len{α:Type}[DecidableEq α]:∀{l m:List α},l.Nodup->(∀x∈l,x∈m)->l.length<=m.length
 |[],_,_,_=>FU _
 |a::l,m,nd,sub=>by
  have h:=Gw.mp nd;have ha:=sub a ET;have ih:=nd_len (m:=m.erase a) h.2 λx hx=>(Me (λe=>h.1 (by rw[<-e];exact hx))).mpr (sub x (EJ _ hx))
  rw[KO ha]at ih;have:=Gb ha;simp only[FN];lia
section
variable {X:Cx}{H0:Hp}{O0:List EX}{ps:PSt}{e:Expr}{pts:List P2}{pos PL p p':Pos}
end
end L2
namespace ST
open PySem
def vq(prog:EW)(w:Fl)(A:Fm)(op:OM)(G:GD->Prop)(P:Nat->EN->Prop)(bt:Nat->Nat->Bool):Prop:=
 ∀i j vi vj (s:EL) (Q:EN->EL->Prop) (E:EN->EL->Prop),G s.heap->P i vi->P j vj->Q (.bool (bt i j)) s->Ff (FE prog w) A (Kb op vi vj) Q E s
section
variable {prog:EW}{w:Fl}{A:Fm}{R:M4→EL→Prop}{I S:EX}{fp wr:List EX}{n:Nat}{P:Nat→EN→Prop}{St:Nat→GD→Prop}{G:GD→Prop}{bt:Nat→Nat→Bool}
theorem uJ(W:Walks prog w A.in1 I fp wr n P St)(hc:vq prog w A.in1 .Lt G P bt)(stay:∀h h':GD,G h->(∀b o,b ∉ wr->b≠S->h.get? b=some o->h'.get? b=some o)->G h')(Qq:S ∉ fp):
  ∀(k j:Nat) (s:EL) (vb:EN) (c:Nat),n-(j+1)=k→j+1≤n→G s.heap→St (j+1) s.heap→P (GB bt j) vb→s.heap.get? S=some {cls:=.type "list",dict:=none,data:=.seq #[vb,vb] c,slots:=#[] }→
  (∀v h' tk,P (GB bt (n-1)) v->(∀b o,b ∉ wr->b≠S->s.heap.get? b=some o->h'.get? b=some o)->R (.ok (.ret v)) {s with heap:=h',toks:=tk })->
  Ip (FE prog w) A (.builtin "min.loop" ⟨[.ref I,.none,.ref S],[]⟩) R s:=by
 have nw:S ∉ wr:=λh=>Qq (W.sub _ h)
 have nm:(Jq "min"++Jq ".loop":String)="min.loop":=by decide
 intro k
 induction k with
 |zero=>
  intro j s vb c hk hj g st pb hS hR;obtain rfl:j+1=n:=by lia
  refine Gz Jx ?_;rw[F9 GK _];show Ff _ A.in1 (KH (.ref S) >>=_) _ _ s;refine EF (GC hS rfl ?_);show Ff _ A.in1 (Lc (IT (.ref I)) _ >>=_) _ _ s;refine EF (HV (W.done s _ _ st λh' tk kp=>?_))
  show Ff _ A.in1 (IV S (λ_=>#[]) >>=_) _ _ _
  refine EF (Gp (kp S _ nw hS) rfl (EF (Ii (EM ?_))));exact hR vb _ tk pb λb o hw hb e=>(Fg _ _ (Ne.symm hb)).trans (kp b o hw e)
 |succ k ih=>
  intro j s vb c hk hj g st pb hS hR;refine Gz Jx ?_;rw[F9 GK _];show Ff _ A.in1 (KH (.ref S) >>=_) _ _ s;refine EF (GC hS rfl ?_);show Ff _ A.in1 (Lc (IT (.ref I)) _ >>=_) _ _ s;refine EF (HV (W.item (j+1) s _ _ (by lia) st λv h' tk pv Qa kp=>?_))
  have g':G h':=stay _ _ g λb o hw _ e=>kp b o hw e
  have QV:=kp S _ nw hS;show Ff _ A.in1 (Lc (Nq [v,v] (Kb .Lt v vb >>=_)) _ >>=_) _ _ _;refine EF (HV (F7 (EF (hc (j+1) (GB bt j) v vb _ _ _ g' pv pb ?_))));refine EF (F7 (GT (EF (Ii (EM ?_)))));by_cases hb:bt (j+1) (GB bt j)=true
  ·rw[if_pos hb];refine EF (Gp QV rfl (EF (Ii ?_)));rw[nm];have P4:∀b o,b≠S->h'.get? b=some o->(h'.update S (F1 λ_=>#[v,v])).get? b=some o:=λb o h e=>(Fg _ _ (Ne.symm h)).trans e
   refine EM ⟨Gu GK _,ih (j+1) _ v _ (by lia) (by lia) (stay _ _ g' λb o _ h e=>P4 b o h e) (W.frame _ _ _ Qa λb hf o e=>P4 b o (λh=>Qq (h ▸ hf)) e) (by rw[GB,if_pos hb];exact pv) (FL _ QV rfl) λv2 h2 t2 p2 k2=>?_⟩
   exact hR v2 h2 t2 p2 λb o hw h e=>k2 b o hw h (P4 b o h (kp b o hw e))
  ·rw[if_neg hb];refine EF (Ii ?_);rw[nm];refine EM ⟨Gu GK _,ih (j+1) _ vb c (by lia) (by lia) g' Qa (by rw[GB,if_neg hb];exact pb) QV λv2 h2 t2 p2 k2=>?_⟩
   exact hR v2 h2 t2 p2 λb o hw h e=>k2 b o hw h (kp b o hw e)
theorem qh(W:Walks prog w A.in1 I fp wr n P St)(hc:vq prog w A.in1 .Lt G P bt)(stay:∀h h':GD,G h->(∀b o,b ∉ wr->b≠S->h.get? b=some o->h'.get? b=some o)->G h')(Qq:S ∉ fp)(hn:0<n){s:EL}{c:Nat}(g:G s.heap)(st:St 0 s.heap)
  (hS:s.heap.get? S=some {cls:=.type "list",dict:=none,data:=.seq #[] c,slots:=#[] })
  (hR:∀v h' tk,P (GB bt (n-1)) v->(∀b o,b ∉ wr->b≠S->s.heap.get? b=some o->h'.get? b=some o)->R (.ok (.ret v)) {s with heap:=h',toks:=tk }):
  Ip (FE prog w) A (.builtin "min.loop" ⟨[.ref I,.none,.ref S],[]⟩) R s:=by
 have nw:S ∉ wr:=λh=>Qq (W.sub _ h)
 have nm:(Jq "min"++Jq ".loop":String)="min.loop":=by decide
 refine Gz Jx ?_;rw[F9 GK _];show Ff _ A.in1 (KH (.ref S) >>=_) _ _ s;refine EF (GC hS rfl ?_);show Ff _ A.in1 (Lc (IT (.ref I)) _ >>=_) _ _ s;refine EF (HV (W.item 0 s _ _ hn st λv h' tk pv Qa kp=>?_))
 have QV:=kp S _ nw hS;show Ff _ A.in1 (IV S (λ_=>#[v,v]) >>=_) _ _ _
 refine EF (Gp QV rfl ?_);rw[nm];have P4:∀b o,b≠S->h'.get? b=some o->(h'.update S (F1 λ_=>#[v,v])).get? b=some o:=λb o h e=>(Fg _ _ (Ne.symm h)).trans e
 refine EM ⟨Gu GK _,uJ W hc stay Qq _ 0 _ v _ rfl hn (stay _ _ g λb o hw h e=>P4 b o h (kp b o hw e)) (W.frame _ _ _ Qa λb hf o e=>P4 b o (λh=>Qq (h ▸ hf)) e) pv (FL _ QV rfl) λv2 h2 t2 p2 k2=>?_⟩
 exact hR v2 h2 t2 p2 λb o hw h e=>k2 b o hw h (P4 b o h (kp b o hw e))
variable {E:EN→EL→Prop}{s:EL}
theorem call_minG{l:EX}{items:Array EN}{G:GD->Prop}{bt:Nat->Nat->Bool}{Q:EN->EL->Prop}(hh:A.handled=none)(hl:s.heap.IsList l items)(hn:0<items.size)(hc:vq prog w A.in1 .Lt G (λi v=>items[i]?=some v) bt)
  (g:G s.heap) (stay:∀h h':GD,G h->(∀b o,s.heap.get? b=some o->h.get? b=some o)->(∀b o,s.heap.get? b=some o->h'.get? b=some o)->G h')
  (hQ:∀v h' tk,items[GB bt (items.size-1)]?=some v->(∀b o,s.heap.get? b=some o->h'.get? b=some o)->Q v {s with heap:=h',toks:=tk }):
  Ff (FE prog w) A (call (.builtin "min") [.ref l]) Q E s:=by
 have nm:(Jq "min"++Jq ".loop":String)="min.loop":=by decide
 refine MF PySem.F.kind_min PySem.F.plain_min PySem.F.entry_min (PySem.F.args_min1 _) ?_;show Ff _ A.in1 (Builtin.Builtins.bindParams "min" ["key","default"] 0 ⟨[],[]⟩ >>=_) _ _ s;refine EF (Mp (show Builtin.Builtins.bindParams "min" ["key","default"] 0 ⟨[],[]⟩=pure [none,none] from rfl) ?_)
 refine EF (EM ?_);refine EF (G_ hl ?_);have QA:l<s.heap.objs.size:=by obtain⟨o,e,_⟩:=hl;exact EY e
 refine EF (G9 ?_);rw[nm];have W:=Walks.list (prog:=prog) (w:=w) (A:=A.in1) hh s.heap.objs.size l (Ft QA) items;have up:∀b o,s.heap.get? b=some o→((s.heap.push {cls:=.type "list_iterator",data:=.fields #[.ref l,.int 0 0] }).push {cls:=.type "list",data:=.seq #[] }).get? b=some o:=λb o e=>EK _ (EK _ e)
 have sI:(s.heap.push {cls:=.type "list_iterator",data:=.fields #[.ref l,.int 0 0] }).objs.size=s.heap.objs.size+1:=GM ..
 have lt:∀b o,s.heap.get? b=some o→b ∉ [s.heap.objs.size]∧b≠(s.heap.push {cls:=.type "list_iterator",data:=.fields #[.ref l,.int 0 0] }).objs.size:=λb o e=>by
  have h:=EY e;refine⟨λz=>?_,λz=>?_⟩
  ·rw[EV.mp z]at h;exact FA _ h
  ·rw[z,sI]at h;exact FA _ (MY h)
 refine EM ⟨Gu GK _,qh (G:=λh=>G h/\∀b o,s.heap.get? b=some o->h.get? b=some o) W (λi j vi vj s' Q' E' g'=>hc i j vi vj s' Q' E' g'.1) (λh h' g' kp=>?_) ?_ hn ⟨stay _ _ g (λ_ _ e=>e) up,up⟩ ⟨⟨_,EK _ (E3 _ rfl),rfl,rfl⟩,(hl.push _).push _⟩ (E3 _ rfl) λv h' tk pv kp=>?_⟩
 ·have k2:∀b o,s.heap.get? b=some o->h'.get? b=some o:=λb o e=>kp b o (lt b o e).1 (lt b o e).2 (g'.2 b o e)
  exact⟨stay _ _ g'.1 g'.2 k2,k2⟩
 ·intro z;have z':(s.heap.push {cls:=.type "list_iterator",data:=.fields #[.ref l,.int 0 0] }).objs.size∈[s.heap.objs.size,l]:=z;rw[sI]at z';rcases EO.mp z' with z |z
  ·exact absurd z (Nf _)
  ·have e:=EV.mp z;rw[<-e]at QA;exact absurd QA (Ng (GO _))
 ·exact hQ v h' tk pv λb o e=>kp b o (lt b o e).1 (lt b o e).2 (up b o e)
theorem u4(W:Walks prog w A.in1 I fp wr n P St)(hc:vq prog w A.in1 .Gt G P bt)(stay:∀h h':GD,G h->(∀b o,b ∉ wr->b≠S->h.get? b=some o->h'.get? b=some o)->G h')(Qq:S ∉ fp):
  ∀(k j:Nat) (s:EL) (vb:EN) (c:Nat),n-(j+1)=k→j+1≤n→G s.heap→St (j+1) s.heap→P (GB bt j) vb→s.heap.get? S=some {cls:=.type "list",dict:=none,data:=.seq #[vb,vb] c,slots:=#[] }→
  (∀v h' tk,P (GB bt (n-1)) v->(∀b o,b ∉ wr->b≠S->s.heap.get? b=some o->h'.get? b=some o)->R (.ok (.ret v)) {s with heap:=h',toks:=tk })->
  Ip (FE prog w) A (.builtin "max.loop" ⟨[.ref I,.none,.ref S],[]⟩) R s:=by
 have nw:S ∉ wr:=λh=>Qq (W.sub _ h)
 have nm:(Jq "max"++Jq ".loop":String)="max.loop":=by decide
 intro k
 induction k with
 |zero=>
  intro j s vb c hk hj g st pb hS hR;obtain rfl:j+1=n:=by lia
  refine Gz Jy ?_;rw[F9 GL _];show Ff _ A.in1 (KH (.ref S) >>=_) _ _ s;refine EF (GC hS rfl ?_);show Ff _ A.in1 (Lc (IT (.ref I)) _ >>=_) _ _ s;refine EF (HV (W.done s _ _ st λh' tk kp=>?_))
  show Ff _ A.in1 (IV S (λ_=>#[]) >>=_) _ _ _
  refine EF (Gp (kp S _ nw hS) rfl (EF (Ii (EM ?_))));exact hR vb _ tk pb λb o hw hb e=>(Fg _ _ (Ne.symm hb)).trans (kp b o hw e)
 |succ k ih=>
  intro j s vb c hk hj g st pb hS hR;refine Gz Jy ?_;rw[F9 GL _];show Ff _ A.in1 (KH (.ref S) >>=_) _ _ s;refine EF (GC hS rfl ?_);show Ff _ A.in1 (Lc (IT (.ref I)) _ >>=_) _ _ s;refine EF (HV (W.item (j+1) s _ _ (by lia) st λv h' tk pv Qa kp=>?_))
  have g':G h':=stay _ _ g λb o hw _ e=>kp b o hw e
  have QV:=kp S _ nw hS;show Ff _ A.in1 (Lc (Nq [v,v] (Kb .Gt v vb >>=_)) _ >>=_) _ _ _;refine EF (HV (F7 (EF (hc (j+1) (GB bt j) v vb _ _ _ g' pv pb ?_))));refine EF (F7 (GT (EF (Ii (EM ?_)))));by_cases hb:bt (j+1) (GB bt j)=true
  ·rw[if_pos hb];refine EF (Gp QV rfl (EF (Ii ?_)));rw[nm];have P4:∀b o,b≠S->h'.get? b=some o->(h'.update S (F1 λ_=>#[v,v])).get? b=some o:=λb o h e=>(Fg _ _ (Ne.symm h)).trans e
   refine EM ⟨Gu GL _,ih (j+1) _ v _ (by lia) (by lia) (stay _ _ g' λb o _ h e=>P4 b o h e) (W.frame _ _ _ Qa λb hf o e=>P4 b o (λh=>Qq (h ▸ hf)) e) (by rw[GB,if_pos hb];exact pv) (FL _ QV rfl) λv2 h2 t2 p2 k2=>?_⟩
   exact hR v2 h2 t2 p2 λb o hw h e=>k2 b o hw h (P4 b o h (kp b o hw e))
  ·rw[if_neg hb];refine EF (Ii ?_);rw[nm];refine EM ⟨Gu GL _,ih (j+1) _ vb c (by lia) (by lia) g' Qa (by rw[GB,if_neg hb];exact pb) QV λv2 h2 t2 p2 k2=>?_⟩
   exact hR v2 h2 t2 p2 λb o hw h e=>k2 b o hw h (kp b o hw e)
theorem qi(W:Walks prog w A.in1 I fp wr n P St)(hc:vq prog w A.in1 .Gt G P bt)(stay:∀h h':GD,G h->(∀b o,b ∉ wr->b≠S->h.get? b=some o->h'.get? b=some o)->G h')(Qq:S ∉ fp)(hn:0<n){s:EL}{c:Nat}(g:G s.heap)(st:St 0 s.heap)
  (hS:s.heap.get? S=some {cls:=.type "list",dict:=none,data:=.seq #[] c,slots:=#[] })
  (hR:∀v h' tk,P (GB bt (n-1)) v->(∀b o,b ∉ wr->b≠S->s.heap.get? b=some o->h'.get? b=some o)->R (.ok (.ret v)) {s with heap:=h',toks:=tk }):
  Ip (FE prog w) A (.builtin "max.loop" ⟨[.ref I,.none,.ref S],[]⟩) R s:=by
 have nw:S ∉ wr:=λh=>Qq (W.sub _ h)
 have nm:(Jq "max"++Jq ".loop":String)="max.loop":=by decide
 refine Gz Jy ?_;rw[F9 GL _];show Ff _ A.in1 (KH (.ref S) >>=_) _ _ s;refine EF (GC hS rfl ?_);show Ff _ A.in1 (Lc (IT (.ref I)) _ >>=_) _ _ s;refine EF (HV (W.item 0 s _ _ hn st λv h' tk pv Qa kp=>?_))
 have QV:=kp S _ nw hS;show Ff _ A.in1 (IV S (λ_=>#[v,v]) >>=_) _ _ _
 refine EF (Gp QV rfl ?_);rw[nm];have P4:∀b o,b≠S->h'.get? b=some o->(h'.update S (F1 λ_=>#[v,v])).get? b=some o:=λb o h e=>(Fg _ _ (Ne.symm h)).trans e
 refine EM ⟨Gu GL _,u4 W hc stay Qq _ 0 _ v _ rfl hn (stay _ _ g λb o hw h e=>P4 b o h (kp b o hw e)) (W.frame _ _ _ Qa λb hf o e=>P4 b o (λh=>Qq (h ▸ hf)) e) pv (FL _ QV rfl) λv2 h2 t2 p2 k2=>?_⟩
 exact hR v2 h2 t2 p2 λb o hw h e=>k2 b o hw h (P4 b o h (kp b o hw e))
theorem call_maxG{l:EX}{items:Array EN}{G:GD->Prop}{bt:Nat->Nat->Bool}{Q:EN->EL->Prop}(hh:A.handled=none)(hl:s.heap.IsList l items)(hn:0<items.size)(hc:vq prog w A.in1 .Gt G (λi v=>items[i]?=some v) bt)
  (g:G s.heap) (stay:∀h h':GD,G h->(∀b o,s.heap.get? b=some o->h.get? b=some o)->(∀b o,s.heap.get? b=some o->h'.get? b=some o)->G h')
  (hQ:∀v h' tk,items[GB bt (items.size-1)]?=some v->(∀b o,s.heap.get? b=some o->h'.get? b=some o)->Q v {s with heap:=h',toks:=tk }):
  Ff (FE prog w) A (call (.builtin "max") [.ref l]) Q E s:=by
 have nm:(Jq "max"++Jq ".loop":String)="max.loop":=by decide
 refine MF PySem.F.kind_max PySem.F.plain_max PySem.F.entry_max (PySem.F.args_max1 _) ?_;show Ff _ A.in1 (Builtin.Builtins.bindParams "max" ["key","default"] 0 ⟨[],[]⟩ >>=_) _ _ s;refine EF (Mp (show Builtin.Builtins.bindParams "max" ["key","default"] 0 ⟨[],[]⟩=pure [none,none] from rfl) ?_)
 refine EF (EM ?_);refine EF (G_ hl ?_);have QA:l<s.heap.objs.size:=by obtain⟨o,e,_⟩:=hl;exact EY e
 refine EF (G9 ?_);rw[nm];have W:=Walks.list (prog:=prog) (w:=w) (A:=A.in1) hh s.heap.objs.size l (Ft QA) items;have up:∀b o,s.heap.get? b=some o→((s.heap.push {cls:=.type "list_iterator",data:=.fields #[.ref l,.int 0 0] }).push {cls:=.type "list",data:=.seq #[] }).get? b=some o:=λb o e=>EK _ (EK _ e)
 have sI:(s.heap.push {cls:=.type "list_iterator",data:=.fields #[.ref l,.int 0 0] }).objs.size=s.heap.objs.size+1:=GM ..
 have lt:∀b o,s.heap.get? b=some o→b ∉ [s.heap.objs.size]∧b≠(s.heap.push {cls:=.type "list_iterator",data:=.fields #[.ref l,.int 0 0] }).objs.size:=λb o e=>by
  have h:=EY e;refine⟨λz=>?_,λz=>?_⟩
  ·rw[EV.mp z]at h;exact FA _ h
  ·rw[z,sI]at h;exact FA _ (MY h)
 refine EM ⟨Gu GL _,qi (G:=λh=>G h/\∀b o,s.heap.get? b=some o->h.get? b=some o) W (λi j vi vj s' Q' E' g'=>hc i j vi vj s' Q' E' g'.1) (λh h' g' kp=>?_) ?_ hn ⟨stay _ _ g (λ_ _ e=>e) up,up⟩ ⟨⟨_,EK _ (E3 _ rfl),rfl,rfl⟩,(hl.push _).push _⟩ (E3 _ rfl) λv h' tk pv kp=>?_⟩
 ·have k2:∀b o,s.heap.get? b=some o->h'.get? b=some o:=λb o e=>kp b o (lt b o e).1 (lt b o e).2 (g'.2 b o e)
  exact⟨stay _ _ g'.1 g'.2 k2,k2⟩
 ·intro z;have z':(s.heap.push {cls:=.type "list_iterator",data:=.fields #[.ref l,.int 0 0] }).objs.size∈[s.heap.objs.size,l]:=z;rw[sI]at z';rcases EO.mp z' with z |z
  ·exact absurd z (Nf _)
  ·have e:=EV.mp z;rw[<-e]at QA;exact absurd QA (Ng (GO _))
 ·exact hQ v h' tk pv λb o e=>kp b o (lt b o e).1 (lt b o e).2 (up b o e)
end
end ST
namespace ST
open PySem PyProof.Rows
section
variable {prog:EW}{w:Fl}{A:Fm}{E:EN→EL→Prop}{s:EL}
theorem uh{x y:Int}{t u:Tok}{Q:EN->EL->Prop}(h:Q (.bool (decide (x<y))) s):Ff (FE prog w) A (Kb .Lt (.int x t) (.int y u)) Q E s:=
 KM (op:=.Lt) (J7 s _ t) (J7 s _ u) PySem.F.slot_int_lt PySem.F.entry_int_lt (PySem.F.args_int_lt_2 _ _) (gives_int_lt _ _ t u) (λx=>nomatch x) h
theorem x4{x y:EX}{a b:Int×Int}{P:Fin->EL->Prop}(hx:TK prog w s.heap [a.1,a.2] x)(hy:TK prog w s.heap [b.1,b.2] y)(h:P (.done (.ret (.bool (ltP a b)))) s):
  Ff (FE prog w) A (Builtin.«tuple.__lt__» ⟨[.ref x,.ref y],[]⟩) P E s:=by
 have hTb:=hy.typeIs;obtain⟨o,Pj,n,t,u,ho,_,hd,hi⟩:=hx.two;obtain⟨o',its',n',t',u',Qu,_,QF,Pu⟩:=hy.two;show Ff _ _ (Os (.ref y) (.type "tuple") >>=_) _ _ s;refine EF (Ho hTb JS ?_);simp only[GF,E7,if_false];refine EF (HR ho hd ?_);refine EF (HR Qu QF ?_);have sz:Pj.size=its'.size:=by rw[<-E6,<-E6,hi,Pu];rfl
 rw[hi,Pu];refine EF ?_;simp only[GI,KN,Ia,IW];refine EF (EF ((JA prog w).eqBool (a:=a.1) (b:=b.1) (Gh _ _ _ _) (Gh _ _ _ _) ?_));by_cases e1:a.1=b.1
 ·rw[decide_eq_true e1];simp only[GF,E7,if_false];refine EM ?_;refine EF (EF ((JA prog w).eqBool (a:=a.2) (b:=b.2) (Gh _ _ _ _) (Gh _ _ _ _) ?_));by_cases e2:a.2=b.2
  ·rw[decide_eq_true e2];simp only[GF,E7,if_false];refine EM (EM ?_);have z:ltP a b=false:=by unfold ltP;simp;lia
   rw[z]at h;refine EM ?_;show P (.done (.ret (.bool (decide (Pj.size<its'.size))))) s;rw[sz,decide_eq_false (FA _)];exact h
  ·rw[decide_eq_false e2];simp only[HU,if_true];have z:ltP a b=decide (a.2<b.2):=by unfold ltP;rw[e1];simp
   rw[z]at h;exact EF (Jc (EF (uh (EF (EM (EM (EM (EM h))))))))
 ·rw[decide_eq_false e1];simp only[HU,if_true];have z:ltP a b=decide (a.1<b.1):=by unfold ltP;simp[e1]
  rw[z]at h;exact EF (Jc (EF (uh (EF (EM (EM (EM (EM h))))))))
theorem lt_ptsR{x y:EX}{a b:Int×Int}{Q:EN->EL->Prop}(hu:A.units<H_)(hx:TK prog w s.heap [a.1,a.2] x)(hy:TK prog w s.heap [b.1,b.2] y)(h:Q (.bool (ltP a b)) s):
  Ff (FE prog w) A (F_ .Lt (.ref x) (.ref y)) Q E s:=
 Iw (op:=.Lt) hx.typeIs hy.typeIs L3
  (Gc L3 hx.typeIs PySem.F.entry_tuple_lt (x4 hx hy ⟨_,rfl,(λe=>nomatch e),h⟩) (PySem.F.args_tuple_lt_2 _ _)) hu
theorem s_{x y:Int}{t u:Tok}{Q:EN->EL->Prop}(h:Q (.bool (decide (y<x))) s):Ff (FE prog w) A (Kb .Gt (.int x t) (.int y u)) Q E s:=
 KM (op:=.Gt) (J7 s _ t) (J7 s _ u) PySem.F.slot_int_gt PySem.F.entry_int_gt (PySem.F.args_int_gt_2 _ _) (gives_int_gt _ _ t u) (λx=>nomatch x) h
theorem xV{x y:EX}{a b:Int×Int}{P:Fin->EL->Prop}(hx:TK prog w s.heap [a.1,a.2] x)(hy:TK prog w s.heap [b.1,b.2] y)(h:P (.done (.ret (.bool (ltP b a)))) s):
  Ff (FE prog w) A (Builtin.«tuple.__gt__» ⟨[.ref x,.ref y],[]⟩) P E s:=by
 have hTb:=hy.typeIs;obtain⟨o,Pj,n,t,u,ho,_,hd,hi⟩:=hx.two;obtain⟨o',its',n',t',u',Qu,_,QF,Pu⟩:=hy.two;show Ff _ _ (Os (.ref y) (.type "tuple") >>=_) _ _ s;refine EF (Ho hTb JS ?_);simp only[GF,E7,if_false];refine EF (HR ho hd ?_);refine EF (HR Qu QF ?_);have sz:Pj.size=its'.size:=by rw[<-E6,<-E6,hi,Pu];rfl
 rw[hi,Pu];refine EF ?_;simp only[GI,KN,Ia,IW];refine EF (EF ((JA prog w).eqBool (a:=a.1) (b:=b.1) (Gh _ _ _ _) (Gh _ _ _ _) ?_));by_cases e1:a.1=b.1
 ·rw[decide_eq_true e1];simp only[GF,E7,if_false];refine EM ?_;refine EF (EF ((JA prog w).eqBool (a:=a.2) (b:=b.2) (Gh _ _ _ _) (Gh _ _ _ _) ?_));by_cases e2:a.2=b.2
  ·rw[decide_eq_true e2];simp only[GF,E7,if_false];refine EM (EM ?_);have z:ltP b a=false:=by unfold ltP;simp;lia
   rw[z]at h;refine EM ?_;show P (.done (.ret (.bool (decide (Pj.size >its'.size))))) s;rw[sz,decide_eq_false (FA _)];exact h
  ·rw[decide_eq_false e2];simp only[HU,if_true];have z:ltP b a=decide (b.2<a.2):=by unfold ltP;rw[e1];simp
   rw[z]at h;exact EF (Jc (EF (s_ (EF (EM (EM (EM (EM h))))))))
 ·rw[decide_eq_false e1];simp only[HU,if_true];have z:ltP b a=decide (b.1<a.1):=by unfold ltP;simp[Ne.symm e1]
  rw[z]at h;exact EF (Jc (EF (s_ (EF (EM (EM (EM (EM h))))))))
theorem gt_ptsR{x y:EX}{a b:Int×Int}{Q:EN->EL->Prop}(hu:A.units<H_)(hx:TK prog w s.heap [a.1,a.2] x)(hy:TK prog w s.heap [b.1,b.2] y)(h:Q (.bool (ltP b a)) s):
  Ff (FE prog w) A (F_ .Gt (.ref x) (.ref y)) Q E s:=
 Iw (op:=.Gt) hx.typeIs hy.typeIs L4
  (Gc L4 hx.typeIs PySem.F.entry_tuple_gt (xV hx hy ⟨_,rfl,(λe=>nomatch e),h⟩) (PySem.F.args_tuple_gt_2 _ _)) hu
end
theorem tD{a b:Int×Int}:ltP a b=true↔(a.1<b.1\/(a.1=b.1/\a.2<b.2)):=by unfold ltP;exact decide_eq_true_iff
theorem ltP_no{a b:Int×Int}:ltP a b=false↔¬ (a.1<b.1\/(a.1=b.1/\a.2<b.2)):=by unfold ltP;exact decide_eq_false_iff_not
theorem ltP_one{a b:Int×Int}(h1:ltP a b=false)(h2:ltP b a=false):a=b:=by
 rw[ltP_no]at h1 h2;obtain⟨a1,a2⟩:=a;obtain⟨b1,b2⟩:=b;simp only[K_]at *;lia
theorem best_min(f:Nat->Int×Int):∀k,GB (λi j=>ltP (f i) (f j)) k<=k/\∀j,j<=k->ltP (f j) (f (GB (λi j=>ltP (f i) (f j)) k))=false
 |0=>⟨EU _,λj hj=>by
  obtain rfl:j=0:=by lia
  rw[ltP_no];simp[GB]⟩
 |k+1=>by
  obtain⟨h1,h2⟩:=best_min f k;by_cases hb:ltP (f (k+1)) (f (GB (λi j=>ltP (f i) (f j)) k))=true
  ·rw[GB,if_pos hb];refine⟨EU _,λj hj=>?_⟩
   rw[tD]at hb;rcases GH j (k+1) with z |z
   ·have:=ltP_no.mp (h2 j (by lia))
    rw[ltP_no];lia
   ·obtain rfl:j=k+1:=by lia
    rw[ltP_no];lia
  ·rw[GB,if_neg hb];refine⟨by lia,λj hj=>?_⟩
   rcases GH j (k+1) with z |z
   ·exact h2 j (by lia)
   ·obtain rfl:j=k+1:=by lia
    simpa using hb
theorem best_max(f:Nat->Int×Int):∀k,GB (λi j=>ltP (f j) (f i)) k<=k/\∀j,j<=k->ltP (f (GB (λi j=>ltP (f j) (f i)) k)) (f j)=false
 |0=>⟨EU _,λj hj=>by
  obtain rfl:j=0:=by lia
  rw[ltP_no];simp[GB]⟩
 |k+1=>by
  obtain⟨h1,h2⟩:=best_max f k;by_cases hb:ltP (f (GB (λi j=>ltP (f j) (f i)) k)) (f (k+1))=true
  ·rw[GB,if_pos hb];refine⟨EU _,λj hj=>?_⟩
   rw[tD]at hb;rcases GH j (k+1) with z |z
   ·have:=ltP_no.mp (h2 j (by lia))
    rw[ltP_no];lia
   ·obtain rfl:j=k+1:=by lia
    rw[ltP_no];lia
  ·rw[GB,if_neg hb];refine⟨by lia,λj hj=>?_⟩
   rcases GH j (k+1) with z |z
   ·exact h2 j (by lia)
   ·obtain rfl:j=k+1:=by lia
    simpa using hb
end ST
namespace L2
open PySem PySem.Spec PyProof.Rows
section
variable {X:Cx}{pts:List P2}{M:P2}
theorem xk{pins:List (EX×Obj)}{σ:List (Option V)}{H:Hp}{s:EL}(I:Inv X pins σ H s){ws:List V}{Pj:List EN}(rv:aU ws Pj)(rs:Rps X.K H ws (pts.map pu))(i:Nat)(y:EN)(hy:Pj.toArray[i]?=some y):
  i<pts.length/\∃c,y=.ref c/\ws[i]?=some (.ref c)/\∀prog w,ST.TK prog w s.heap [(pts.getD i (0,0)).1,(pts.getD i (0,0)).2] c:=by
 have RI:Pj[i]?=some y:=by simpa using hy
 have hll:ws.length=pts.length:=by rw[rs.len,EH]
 have hi:i<Pj.length:=aF RI;have hw:i<ws.length:=by rw[rv.length];exact hi
 have hq:i<pts.length:=by lia
 obtain⟨u,e1,e2⟩:=rv.get (EG hw);rw[RI]at e1;cases e1;have r:=rs.at_ i _ (pu (pts.getD i (0,0))) (EG hw) (by rw[ES,EG hq];simp[hq])
 obtain⟨c,rfl,t⟩:=fN I r e2;refine⟨hq,c,rfl,?_,t⟩;rw[EG hw];generalize ws[i]=z at *;cases r;cases e2;rfl
theorem A5{g:Nat}(hg:g<pts.length):(pts.map pu)[g]?=some (pu (pts.getD g (0,0))):=by
 rw[ES,EG hg];simp[hg]
theorem B9(hc:X.calm=true)(hu:X.A.units+10<H_)(hM:M∈pts)(hL:∀q∈pts,ST.ltP q M=false):eT X (.builtin "min") [lp pts] (pu M):=by
 intro pins s σ H vs us Q I r hq;obtain⟨O,d,rs,q⟩:=hq;obtain⟨v,rfl,h1⟩:=cC rs;obtain⟨p1,rfl,r1⟩:=ft r;cases h1 with
 | @lst a ws _ hq hl hh=>
  cases r1;obtain⟨Pj,rv,pl,_⟩:=I.list (SqL.of (aC _ _ hq));have rs':Rps X.K (hid H O) ws (pts.map pu):=⟨hl,hh⟩;have Pm:Pj.toArray.size=pts.length:=by rw[E4,<-rv.length,hl,EH]
  have QR:=xk (pts:=pts) I rv (rs'.same aC);have hn:0<pts.length:=Gb hM;refine ST.call_minG (G:=λh=>∀(i:Nat) (y:EN),Pj.toArray[i]?=some y->∃c,y=.ref c/\ST.TK X.prog X.w h [(pts.getD i (0,0)).1,(pts.getD i (0,0)).2] c) (bt:=λi j=>ST.ltP (pts.getD i (0,0)) (pts.getD j (0,0))) (I.ok.hd hc) pl.isList (by rw[Pm];exact hn) (λi j vi vj s' Q' E' g hi hj k=>?_) (λi y hy=>?_) (λh h' _ _ k2 i y hy=>?_) λy h' tk hy kp=>?_
  ·obtain⟨c,rfl,t⟩:=g i vi hi;obtain⟨c',rfl,t'⟩:=g j vj hj;exact ST.lt_ptsR (show X.A.units+1<H_ by lia) t t' k
  ·obtain⟨_,c,rfl,_,t⟩:=QR i y hy;exact⟨c,rfl,t _ _⟩
  ·obtain⟨_,c,rfl,_,t⟩:=QR i y hy;obtain⟨o,items,n,ho,z⟩:=t X.prog X.w;exact⟨c,rfl,o,items,n,k2 c o ho,z⟩
  ·obtain⟨hg,c,rfl,hw,t⟩:=QR _ y hy;obtain⟨b1,b2⟩:=ST.best_min (λi=>pts.getD i (0,0)) (Pj.toArray.size-1)
   have e:pts.getD (GB (λi j=>ST.ltP (pts.getD i (0,0)) (pts.getD j (0,0))) (Pj.toArray.size-1)) (0,0)=M:=by
    rw[Pm]at b1 b2 hg |-;generalize GB (λi j=>ST.ltP (pts.getD i (0,0)) (pts.getD j (0,0))) (pts.length-1)=g at *
    obtain⟨j,hj⟩:=FK.mp hM;have k1:=b2 j (by have:=aF hj;lia)
    rw[show pts.getD j (0,0)=M by rw[Fe,hj];rfl]at k1
    exact ST.ltP_one (hL _ (by simp[hg])) k1
   refine⟨.ref c,H,I.kept (t':=tk) kp,rfl,q _ H (.refl H) ?_⟩;have z:=rs'.at_ _ _ _ hw (A5 hg);rw[e]at z;exact z
theorem CQ(hc:X.calm=true)(hu:X.A.units+10<H_)(hM:M∈pts)(hL:∀q∈pts,ST.ltP M q=false):eT X (.builtin "max") [lp pts] (pu M):=by
 intro pins s σ H vs us Q I r hq;obtain⟨O,d,rs,q⟩:=hq;obtain⟨v,rfl,h1⟩:=cC rs;obtain⟨p1,rfl,r1⟩:=ft r;cases h1 with
 | @lst a ws _ hq hl hh=>
  cases r1;obtain⟨Pj,rv,pl,_⟩:=I.list (SqL.of (aC _ _ hq));have rs':Rps X.K (hid H O) ws (pts.map pu):=⟨hl,hh⟩;have Pm:Pj.toArray.size=pts.length:=by rw[E4,<-rv.length,hl,EH]
  have QR:=xk (pts:=pts) I rv (rs'.same aC);have hn:0<pts.length:=Gb hM;refine ST.call_maxG (G:=λh=>∀(i:Nat) (y:EN),Pj.toArray[i]?=some y->∃c,y=.ref c/\ST.TK X.prog X.w h [(pts.getD i (0,0)).1,(pts.getD i (0,0)).2] c) (bt:=λi j=>ST.ltP (pts.getD j (0,0)) (pts.getD i (0,0))) (I.ok.hd hc) pl.isList (by rw[Pm];exact hn) (λi j vi vj s' Q' E' g hi hj k=>?_) (λi y hy=>?_) (λh h' _ _ k2 i y hy=>?_) λy h' tk hy kp=>?_
  ·obtain⟨c,rfl,t⟩:=g i vi hi;obtain⟨c',rfl,t'⟩:=g j vj hj;exact ST.gt_ptsR (show X.A.units+1<H_ by lia) t t' k
  ·obtain⟨_,c,rfl,_,t⟩:=QR i y hy;exact⟨c,rfl,t _ _⟩
  ·obtain⟨_,c,rfl,_,t⟩:=QR i y hy;obtain⟨o,items,n,ho,z⟩:=t X.prog X.w;exact⟨c,rfl,o,items,n,k2 c o ho,z⟩
  ·obtain⟨hg,c,rfl,hw,t⟩:=QR _ y hy;obtain⟨b1,b2⟩:=ST.best_max (λi=>pts.getD i (0,0)) (Pj.toArray.size-1)
   have e:pts.getD (GB (λi j=>ST.ltP (pts.getD j (0,0)) (pts.getD i (0,0))) (Pj.toArray.size-1)) (0,0)=M:=by
    rw[Pm]at b1 b2 hg |-;generalize GB (λi j=>ST.ltP (pts.getD j (0,0)) (pts.getD i (0,0))) (pts.length-1)=g at *
    obtain⟨j,hj⟩:=FK.mp hM;have k1:=b2 j (by have:=aF hj;lia)
    rw[show pts.getD j (0,0)=M by rw[Fe,hj];rfl]at k1
    exact ST.ltP_one k1 (hL _ (by simp[hg]))
   refine⟨.ref c,H,I.kept (t':=tk) kp,rfl,q _ H (.refl H) ?_⟩;have z:=rs'.at_ _ _ _ hw (A5 hg);rw[e]at z;exact z
variable {H0:Hp}{O0:List EX}{ps:PSt}{xs:List U}{x:Str}{pos pc p':Pos}
variable {a b:Expr}{i j:Int}
theorem DA(hg:Gl X x)(h:∃t,X.mg x=some (.int i t))(hd:(x==("__debug__":Str))=false:=by decide):Ev X H0 O0 ps (.Name x pos) (.int i):=by
 obtain⟨t,hm⟩:=h;exact PE.mono (Ap (v:=.int i) hg hm ⟨t,rfl⟩ hd) λ_ H _ ⟨_,_,k⟩=>k _ H (.refl H) (.int i)
end
section
variable {X:Cx}{H0:Hp}{O0:List EX}{ps:PSt}{e tg:Expr}{p pos:Pos}{xs:List U}{x:U}
variable {a b:Expr}{u:U}{k:Int}
end
end L2
namespace L2
open PySem PySem.Spec PySem.W PyProof.Rows
section
variable {X:Cx}
end
end L2
namespace L2
open PySem PySem.Spec PyProof.Rows
variable {H0:Hp}{O0:List EX}{xs:List U}
section
variable {X:Cx}{E:XK}{ps P6:PSt}{D:PD}{s:Hc}{ss PV:List Hc}{a b c e:Expr}{es:List Expr}{pos p:Pos}{u x y:U}{ys us:List U}{k:Bool}
 {CX:CXT}{n:Nat}{f C:EX}{fd:F5}{pn:List Str}{PR:List U->Out->Prop}{nm:Str}
end
theorem Rs.free{K:EI}{H0 H:Hp}{O0 O:List EX}{ps:PSt}{σ:St}{xs:List U}(n:Nat)(h:ps[n]?=some (some (.own xs)))(R:Rs K H0 O0 ps σ H O):∃O',(∀b∈O',b∈O)/\Rs K H0 O0 (ps.set n (some (.val (.lst xs)))) σ H O':=by
 obtain⟨v,hv,a,vs,rfl,ha,ha0,hH,rs⟩:=R.at_ n _ h;have less:∀b∈O.filter (λb=>decide (b≠a)),b∈O:=λb hb=>(F4.mp hb).1
 have keep:∀b∈O,b≠a->b∈O.filter (λb=>decide (b≠a)):=λb hb ne=>F4.mpr ⟨hb,by simpa using ne⟩
 have sm:aK (hid H O) (hid H (O.filter (λb=>decide (b≠a)))):=eJ less
 have na:a ∉ O.filter (λb=>decide (b≠a)):=λz=>by have:=(F4.mp z).2;simp at this
 refine⟨O.filter (λb=>decide (b≠a)),less,R.same,λb hb=>keep b (R.old b hb) λe=>ha0 (e ▸ hb),λb hb=>R.new b (less b hb),λb hb=>R.dom b (less b hb),by rw[R.len,Jl],λi s hs=>?_,λi j ys zs b h1 h2 h3 h4=>?_⟩
 ·rcases dN hs with ⟨rfl,e⟩ |⟨ne,hs⟩
  ·cases e;exact⟨.ref a,hv,.lst (c9 hH na) (rs.same sm).len (rs.same sm).at_⟩
  ·obtain⟨w,hw,ok⟩:=R.at_ i s hs;refine⟨w,hw,?_⟩;cases s with
   |val u=>exact Rp.same sm ok
   |own ys=>
    obtain⟨b,ws,rfl,hb,hb0,hHb,rsb⟩:=ok;refine⟨b,ws,rfl,keep b hb λe=>?_,hb0,hHb,rsb.same sm⟩
    subst e;exact ne (R.inj n i _ _ b h hs hv hw)
   |pin z u=>exact⟨ok.1,Rp.same sm ok.2⟩
   |dsk w C b d PX=>
    obtain⟨dx,kv,e1,e2,e3,e4,e5,e6⟩:=ok;exact⟨dx,kv,e1,keep d e2 (λe=>by rw[e,hH]at e5;cases e5),e3,e4,e5,e6.same sm⟩
 ·rcases dN h1 with ⟨_,e⟩ |⟨_,h1⟩
  ·cases e
  ·rcases dN h2 with ⟨_,e⟩ |⟨_,h2⟩
   ·cases e
   ·exact R.inj i j _ _ b h1 h2 h3 h4
section
variable {X:Cx}{E:XK}{ps:PSt}{D:PD}{ss:List Hc}{e:Expr}{b:Bool}
theorem qC(n:Nat)(h:ps[n]?=some (some (.own xs)))(w:Ws X H0 O0 E ss D (ps.set n (some (.val (.lst xs))))):Ws X H0 O0 E ss D ps:=
 PSs.mono w λD' σ H ⟨L,O,R⟩=>by
  obtain⟨O',_,R'⟩:=R.free n h;exact⟨L,O',R'⟩
end
section
variable {X:Cx}{ns:List Int}{M:Int}
theorem xA(hc:X.calm=true)(hM:M∈ns∧∀a∈ns,a≤M):eT X (.builtin "max") [.lst (ns.map U.int)] (.int M):=by
 intro pins s σ H vs us Q I r hq;obtain⟨O,d,rs,q⟩:=hq;obtain⟨v,rfl,h1⟩:=cC rs;obtain⟨p1,rfl,r1⟩:=ft r;cases h1 with
 | @lst a ws _ hq hl hh=>
  cases r1;obtain⟨Pj,rv,pl,_⟩:=I.list (SqL.of (aC _ _ hq));have Pm:Pj.length=ns.length:=by rw[<-rv.length,hl,EH]
  have QR:=jR (ns:=ns) rv ⟨hl,hh⟩;have hn:0<ns.length:=Gb hM.1;refine call_max_walk (G_ pl.isList ?_);have QA:a<s.heap.objs.size:=by obtain⟨o,e,_⟩:=pl.isList;exact EY e
  refine⟨s.heap.objs.size,_,_,_,_,_,_,rfl,Walks.list (A:=X.A.in1) (I.ok.hd hc) s.heap.objs.size a (Ft QA) Pj.toArray,⟨⟨_,E3 _ rfl,rfl,rfl⟩,pl.isList.push _⟩,λb hb=>?_,by rw[E4,Pm];exact hn,CmpOf.ints_gt (λi=>ns.getD i 0) QR,λv h' tk hP hk=>?_⟩
  ·show b<(s.heap.push _).objs.size;rw[GM];rcases EO.mp hb with z |z
   ·rw[z];exact GO _
   ·rw[EV.mp z];exact GV QA
  ·obtain⟨t,rfl⟩:=QR _ _ hP;obtain⟨b1,b2⟩:=argBest_gt (λi=>ns.getD i 0) (Pj.toArray.size-1)
   have e:ns.getD (GB (λi j=>decide (ns.getD i 0 >ns.getD j 0)) (Pj.toArray.size-1)) 0=M:=by
    rw[E4,Pm]at b1 b2 |-;generalize GB (λi j=>decide (ns.getD i 0 >ns.getD j 0)) (ns.length-1)=g at *
    have hg:g<ns.length:=by lia
    obtain⟨j,hj,ej⟩:=J9 hM.1;have k1:=b2 j (by lia)
    have k2:=hM.2 ns[g] (JY hg);simp only[Fe,EG hg,EG hj,HK]at k1 |-;lia
   rw[e];refine⟨.int M,H,I.kept (t':=tk) λb o e=>hk b o ?_ (EK _ e),⟨t,rfl⟩,q _ H (.refl H) (.int _)⟩
   intro z;have:b=s.heap.objs.size:=by simpa using z
   exact absurd (EY e) (by rw[this];exact FA _)
variable {E:XK}{ps:PSt}{D:PD}{e:Expr}{pos:Pos}{ys:List U}
theorem yq(i:Nat){x:Str}{P1 Px xp:Pos}(hp:ps[i]?=some (some (.own xs)))(ha:Ev X H0 O0 ps e (.lst ys))(hz:xs.length+ys.length<=sizeLine)(h:D.nx (ps.set i (some (.own (xs++ys)))))
  (hN:X.N[i]?=some x:=by rfl) (hv:Vis X.env.scope x:=by first |exact Or.inl rfl |exact Or.inr (Or.inl rfl) |exact Or.inr (Or.inr rfl)) (hd:(x==("__debug__":Str))=false:=by decide) (Qr:(x==("__classdict__":Str))=false:=by decide)
  (Ql:IE (.Name x xp) "extend" X.env (HY (.Name x xp) X.env)=HY (.Name x xp) X.env:=by rfl)
  (Rq:((Ie Px (EZ [e] X.env)).all (λx=>!x.1) && (Nm Px (K7 [] X.env)).all (λx=>x.1.isSome) && decide ([e].length+([]:List J8).length+(if ([]:List J8).isEmpty then 0 else 1)<30))=true:=by rfl)
  (Qm:(P1.endLine==Px.line)=true:=by rfl) (hse:EZ [e] X.env=(false,HY e X.env)::EZ [] X.env:=by rfl) (QC:(Ie Px (EZ [] X.env)).any (·.1)=false:=by rfl)
  (hs:IS (.Call (.Attribute (.Name x xp) "extend" P1) [e] [] Px) none pos.line X.env=pure false:=by rfl):W1 X H0 O0 E (.Expr (.Call (.Attribute (.Name x xp) "extend" P1) [e] [] Px) pos) D ps:=
 PS.mono (jp (A6 Jn PySem.F.slot_list_extend PySem.F.type_list_extend vc (gZ hN hv hd Qr) (c_ ha fS hse) Ql Rq Qm hse QC) hs) λD' σ H ⟨L,O,R⟩=>by
  obtain⟨v,h1,a,vs,rfl,h3,h4,h5,h6⟩:=R.at_ i _ hp;refine⟨_,h1,.inl ⟨rfl,_,SqL.of h5⟩,O,R,λw H' s r=>?_⟩
  cases r with
  | @lst b zs _ hq hl hh=>
   refine⟨a,b,vs,zs,rfl,rfl,s _ _ h5,aC _ _ hq,by rw[h6.len,hl];exact hz,?_⟩
   exact L.nx _ _ _ O ((R.go s).write hp h1 ((h6.same (aM s)).snoc ⟨hl,hh⟩)) h
end
end L2
namespace L2
open PySem PySem.Spec PySem.W PyProof.Rows
section
variable {X:Cx}
variable {H0:Hp}{O0:List EX}{E:XK}{ps:PSt}{D:PD}{a e:Expr}{es:List Expr}{us:List U}{k:Bool}{n:Nat}{fd:F5}{pn:List Str}{PR:List U→Out→Prop}
end
end L2
namespace L2
open PySem PySem.Spec PyProof.Rows
section
variable {X:Cx}{H0:Hp}{O0:List EX}{ps:PSt}{a b:Expr}{p:P2}{l:List P2}
end
end L2
namespace ST
open PySem PySem.W PySem.Calls PyProof.Rows
section
variable {prog:EW}{w:Fl}{A:Fm}{E:EN→EL→Prop}{s:EL}
end
end ST
namespace L2
open PySem PySem.Spec PyProof.Rows
section
variable {X:Cx}{H0:Hp}{O0:List EX}{ps:PSt}{e:Expr}{p pos:Pos}{a b:P2}
end
end L2
namespace ST
open PySem PySem.W PySem.Calls PyProof.Rows
section
variable {prog:EW}{w:Fl}{A:Fm}{E:EN→EL→Prop}{s:EL}
end
end ST
namespace L2
open PySem PySem.Spec PyProof.Rows
section
variable {X:Cx}{H0:Hp}{O0:List EX}{ps:PSt}{e:Expr}{pts:List P2}{pos p:Pos}
end
end L2
namespace L2
open PySem PySem.Spec PySem.W PyProof.Rows
variable {es:List Expr}{pn:List Str}{PR:List U→Out→Prop}
section
variable {X:Cx}
variable {H0:Hp}{O0:List EX}{E:XK}{ps:PSt}{D:PD}{a e:Expr}{us:List U}{k:Bool}{n:Nat}{fd:F5}
end
structure wm(K:EI)(x Pl:Str)(st:Hc)(f:EX)(fd:F5)(D:EX):Prop where
 ex:∃(oc:EN) (od:Option EX) (kV Qp pm:EN) (an:Option EX) (Pp ct:EN) (Q4:Array (Option EN)),
  fd=Hv x Pl (cj st) (bN st) (ak st) (.ref D) kV Qp pm an Pp ct/\K.lookup f=some ⟨oc,od,.func fd,Q4⟩/\JM K Pp Pl=true
 kp:Hd K (.ref f)=true
theorem zW{K:EI}{x Pl:Str}{st:Hc}{f D:EX}{oc:EN}{od an:Option EX}{Q4:Array (Option EN)}{kV Qp pm Pp ct:EN}(l:K.lookup f=some ⟨oc,od,.func (Hv x Pl (cj st) (bN st) (ak st) (.ref D) kV Qp pm an Pp ct),Q4⟩)
  (c:JM K Pp Pl=true) (k:Hd K (.ref f)=true):wm K x Pl st f (Hv x Pl (cj st) (bN st) (ak st) (.ref D) kV Qp pm an Pp ct) D:=⟨⟨oc,od,kV,Qp,pm,an,Pp,ct,Q4,rfl,l,c⟩,k⟩
section
variable {P:EW}{w:Fl}{K:EI}{mg:Str→Option EN}{base:GD}{N:List Str}{Pl nm:Str}{f D:EX}
theorem wm.okF{x:Str}{st:Hc}{fd:F5}{k:Nat}{sp:Sp}(F:wm K x Pl st f fd D)(S:av N pn (ak st))(len:∀vs H Q E,sp vs H Q E->vs.length=pn.length)
  (Qk:∀(Pp:EN) (A:Fm) (outer:List Env) (s:EL) (H:Hp) (vs:List V) (Q:VK) (E:XK),eH k (A.deeper (LJ Pl (ak st) s.heap.objs.size f Pp))->sp vs H Q E->
   ∃t,PSs (nV (CXF P w) P w K mg base N Pl (ak st) f Pp A outer s H E) (bN st) t/\t {nx:=λ_ H'=>Q .non H',rt:=Q } (start N vs) H):ba P w K mg base (CXF P w) (k+1) f fd pn sp:=by
 obtain⟨oc,od,kV,Qp,pm,an,Pp,ct,Q4,rfl,lk,Qr⟩:=F.ex;exact Bb lk Qr S len λA outer s H vs Q E hr QL=>Qk Pp A outer s H vs Q E hr QL
theorem Ce{st:Hc}{fd:F5}{k:Nat}{PR:List U->Out->Prop}(F:wm K nm Pl st f fd D)(S:av N pn (ak st))(len:∀us o,PR us o->us.length=pn.length)
  (Qk:∀(Pp:EN) (A:Fm) (outer:List Env) (s:EL) (H:Hp) (E:XK) (O:List EX) (us:List U) (o:Out),eH k (A.deeper (LJ Pl (ak st) s.heap.objs.size f Pp))->PR us o->
   Ws (nV (CXF P w) P w K mg base N Pl (ak st) f Pp A outer s H E) H O E (bN st) ⟨λ_=>o=.val .non,λo'=>o'=o,λ_=>False,λ_=>False⟩ (gg N us)):ba P w K mg base (CXF P w) (k+1) f fd pn (spU K PR):=by
 refine F.okF S (λvs H Q E h=>?_) λPp A outer s H vs Q E hr h=>?_
 ·obtain⟨us,O,o,_,r,QL,_⟩:=h;rw[r.len];exact len us o QL
 ·obtain⟨us,O,o,d,r,QL,q⟩:=h;refine⟨_,Qk Pp A outer s H E O us o hr QL,⟨λps σ H' O' R e=>?_,λ_ _ _ _ _ e=>e.elim,λ_ _ _ _ _ e=>e.elim,λo' e=>by subst e;exact q⟩,O,?_⟩
  ·subst e;exact q .non H' R.same .non
  ·refine⟨.refl H,λa h=>h,λa h=>.inl h,d,?_,λi sl e=>?_,λi j xs ys a e1 e2 _ _=>?_⟩
   ·unfold start gg;rw[FJ,FJ,EH,EH,HL,HL,r.len]
   ·unfold gg at e;by_cases hi:i<us.length
    ·rw[Fb (by simpa using hi),ES,EG hi]at e
     cases e;obtain⟨v,h1,h2⟩:=r.get (EG hi);refine⟨v,?_,h2⟩;unfold start;rw[Fb (by simpa [r.len] using hi),ES,h1];rfl
    ·rw[Fd (by simpa using hi),Hs]at e
     split at e <;>cases e
   ·exfalso
    unfold gg at e1;by_cases hi:i<us.length
    ·rw[Fb (by simpa using hi),ES,EG hi]at e1
     cases e1
    ·rw[Fd (by simpa using hi),Hs]at e1
     split at e1 <;>cases e1
end
section
variable {X:Cx}{H0:Hp}{O0:List EX}{ps:PSt}{e:Expr}{pos p:Pos}{u:U}{us:List U}{xs:List U}{CX:CXT}{n:Nat}{f:EX}{fd:F5}{nm:Str}{j:Int}
theorem AJ(F:ba X.prog X.w X.K X.mg X.base CX n f fd pn (spU X.K PR))(hr:eH n X.A)(hg:Gl X nm)(hm:X.mg nm=some (.ref f))(hk:Hd X.K (.ref f)=true)(hb:∃t,dF X.K fd pn [.int j t])(hx:iS CX X E0)
  (ha:EvA X H0 O0 ps (e::es) us) (h:PR (us++[.int j]) (.val u)) (QO:(nm==("__debug__":Str))=false:=by decide) (he:EZ (e::es) X.env=(false,HY e X.env)::EZ es X.env:=by rfl) (Qe:(Ie pos (EZ es X.env)).any (·.1)=false:=by rfl):
  Ev X H0 O0 ps (.Call (.Name nm p) (e::es) [] pos) u:=by
 obtain⟨t,hb⟩:=hb;refine PE.mono (mY F hr hg hm hk hb (.cons (show bi (.int j) (.int j t) from ⟨t,rfl⟩) .nil) hx ha QO he Qe) λσ H Q ⟨O,R,q⟩=>⟨O,R,λvs H1 s1 r1=>?_⟩
 show spU X.K PR (vs++[.int j]) H1 Q _;exact⟨us++[.int j],O,.val u,(R.go s1).dom,r1.snoc (.cons (.int _) .nil),h,λv H2 s2 r2=>q v H2 (s1.trans s2) r2⟩
end
end L2
namespace L2
open PySem PySem.Spec PyProof.Rows
section
variable {X:Cx}{H0:Hp}{O0:List EX}{ps:PSt}{a b:Expr}{k:Int}{ns:List Int}
end
theorem uP{P:EW}{w:Fl}{K:EI}{tg:Expr}(it:EX)(lo:Int)(n:Nat):rH P w K tg (Itr lo n) [it] it (λi h=>IsLongIter h it (lo+(i:Nat) *1) ((n:Int)-(i:Nat)) 1) where
 mem:=by simp
 obj:=λi h st b hb=>by
  have e:b=it:=by simpa using hb
  subst e
  exact⟨_,st,λv z=>by
   have z':Data.fields _=Data.cell v:=z;cases z'⟩
 keep:=λi h h' st k=>k it (by simp) _ st
 item:=by
  intro X hP hw hK hc i pins s σ H E I hf st hg;subst hP hw hK;obtain⟨f0,f1,f2,f3,f4,f5⟩:=hf it (by simp)
  have W:=Walks.longrange (prog:=X.prog) (w:=X.w) (I.ok.hd hc) it lo 1 n;refine W.item i s _ _ hg st λv h' tk hv Qa kk=>?_
  obtain⟨t,rfl⟩:=hv;have I1:Inv X pins σ H {s with heap:=h',toks:=tk }:=I.turned (λb o hb e=>kk b o (by simpa using hb) e) f0 f1 f3 f4 f5
  refine⟨_,rfl,oN (s:={s with heap:=h',toks:=tk }) (n:="longrange_iterator") Qa rfl rfl (by decide) ⟨.int (lo+i),H,I1,⟨t,?_⟩,⟨rfl,rfl⟩,Qa,λb hb=>(hf b hb).1⟩⟩
  rw[K6]
 done:=by
  intro X hP hw hK hc i pins s σ H E I hf st hg;subst hP hw hK;obtain⟨f0,f1,f2,f3,f4,f5⟩:=hf it (by simp)
  exact wpAny_pyNext_long_end (I.ok.hd hc) st (by have:n<=i:=hg;lia) λh' eb=>⟨rfl,I.turned (t':=s.toks) (λb o hb e=>eb b o hb e) f0 f1 f3 f4 f5⟩
 self:=λ_ _ _ _ _ st h=>wpAny_pyIter_longiter st h
section
variable {X:Cx}{tg:Expr}
theorem lP{pins:List (EX×Obj)}{σ:St}{H:Hp}{s:EL}{R:It->Hp->Prop}{E:EN->EL->Prop}{lo hi:Int}{t u v:Tok}{tk:Nat}(I:Inv X pins σ H s)
  (q:R (Itr lo (hi-lo).toNat) H):Ff (FE X.prog X.w) X.A (M3 (.ref s.heap.objs.size)) (PIE X pins σ tg R) E {s with heap:=s.heap.push {cls:=.type "range",data:=.fields #[.int lo t,.int hi u,.int 1 v] },toks:=tk }:=by
 have I1:Inv X pins σ H {s with heap:=s.heap.push {cls:=.type "range",data:=.fields #[.int lo t,.int hi u,.int 1 v] },toks:=tk }:=I.kept λb o e=>EK _ e
 have e1:lo+((0:Nat):Int) *1=lo:=by simp
 have e2:(((hi-lo).toNat:Nat):Int)-((0:Nat):Int)=Builtin.Range.rangeSize lo hi 1:=by rw[rangeSize_one];split <;>lia
 by_cases hs:Builtin.Range.small lo hi 1=true
 ·refine Kk (IsRange.new ..) hs ?_
  refine⟨(s.heap.push {cls:=.type "range",data:=.fields #[.int lo t,.int hi u,.int 1 v] }).objs.size,[(s.heap.push {cls:=.type "range",data:=.fields #[.int lo t,.int hi u,.int 1 v] }).objs.size],_,_,H,rfl,
   I1.kept (t':=tk) λb o e=>EK _ e,kj _ lo (hi-lo).toNat,?_,λb hb=>?_,q⟩
  ·show K5 _ _ (lo+((0:Nat):Int) *1) ((((hi-lo).toNat:Nat):Int)-((0:Nat):Int)) 1;rw[e1,e2];exact E3 _ rfl
  ·have e:b=(s.heap.push {cls:=.type "range",data:=.fields #[.int lo t,.int hi u,.int 1 v] }).objs.size:=by simpa using hb
   subst e;exact I1.fpOk (EU _) (I1.hok.fresh (EU _))
 ·refine wpAny_pyIter_longrange (IsRange.new ..) (by simpa using hs) ?_
  refine⟨(s.heap.push {cls:=.type "range",data:=.fields #[.int lo t,.int hi u,.int 1 v] }).objs.size,[(s.heap.push {cls:=.type "range",data:=.fields #[.int lo t,.int hi u,.int 1 v] }).objs.size],_,_,H,rfl,
   I1.kept (t':=tk) λb o e=>EK _ e,uP _ lo (hi-lo).toNat,?_,λb hb=>?_,q⟩
  ·show IsLongIter _ _ (lo+((0:Nat):Int) *1) ((((hi-lo).toNat:Nat):Int)-((0:Nat):Int)) 1;rw[e1,e2];exact E3 _ rfl
  ·have e:b=(s.heap.push {cls:=.type "range",data:=.fields #[.int lo t,.int hi u,.int 1 v] }).objs.size:=by simpa using hb
   subst e;exact I1.fpOk (EU _) (I1.hok.fresh (EU _))
def CU(ta:TA):TI:=λσ H R=>ta σ H λvs H1=>∃i j:Int,vs=[.int i,.int j]/\R (Itr i (j-i).toNat) H1
theorem qF{a b:Expr}{ta:TA}{p pos:Pos}(hg:Gl X "range")(hm:X.mg "range"=none)(ha:PA X [a,b] ta)(hs:EZ [a,b] X.env=[(false,HY a X.env),(false,HY b X.env)]:=by rfl)(Qy:EZ [b] X.env=[(false,HY b X.env)]:=by rfl):
  PI X tg (.Call (.Name "range" p) [a,b] [] pos) (CU ta):=by
 intro pins s σ H R I h;refine Call_ (cJ I hg hm ML (PyProof.Rows.callWith_type1 (thn (ha pos pins s σ H _ I h) λus s1 ⟨vs,H1,I1,r1,q1⟩=>?_) (by rw[hs,Qy]) (by rw[Qy];rfl)))
 obtain⟨i,j,e,q⟩:=q1;subst e;cases r1 with
 |cons r rr=>
  cases rr with
  |cons r' rr=>
   cases rr;obtain⟨t,rfl⟩:=r;obtain⟨t',rfl⟩:=r';exact call_range_2 (lP I1 q)
variable {H0:Hp}{O0:List EX}{ps:PSt}{a b:Expr}{p pos:Pos}
theorem uQ{i j:Int}(hg:Gl X "range")(hm:X.mg "range"=none)(ha:EvA X H0 O0 ps [a,b] [.int i,.int j])(hs:EZ [a,b] X.env=[(false,HY a X.env),(false,HY b X.env)]:=by rfl)(Qy:EZ [b] X.env=[(false,HY b X.env)]:=by rfl):
  EvI X H0 O0 ps tg (.Call (.Name "range" p) [a,b] [] pos) (fD i (j-i).toNat):=
 PI.mono (qF hg hm ha hs Qy) λσ H Q ⟨O,R,q⟩=>⟨O,R,λvs H' s r=>by
  obtain⟨v,w,rfl,k1,k2⟩:=gw r;cases k1;cases k2;exact⟨i,j,rfl,q _ H' s jE⟩⟩
variable {E:XK}{P6:PSt}{D:PD}{iter cond:Expr}{xs:List U}
variable {e:Expr}{ns:List Int}
variable {c:Expr}
end
end L2
namespace TS
open PySem PyProof.Rows
variable {prog:EW}{w:Fl}{E:EN→EL→Prop}{s:EL}
section
variable {A:Fm}
def gt(a:Array Ic)(i:Nat):Ic:=a.getD i (Fj,Fj)
end
section
variable {α:Type}{R:α→α→Bool}{A B out:List α}{ia ib:Nat}
structure MI(R:α->α->Bool)(A B out:List α)(ia ib:Nat):Prop where
 perm:out.Perm (A.take ia++B.take ib)
 srt:out.Pairwise λx y=>R x y=true
 lA:∀x∈out,∀y∈A.drop ia,R x y=true
 lB:∀x∈out,∀y∈B.drop ib,R x y=true
structure MO(R:α->α->Bool)(A B:List α):Prop where
 tr:∀x y z,R x y=true->R y z=true->R x z=true
 sA:A.Pairwise λx y=>R x y=true
 sB:B.Pairwise λx y=>R x y=true
 tot:∀x∈A,∀y∈B,R y x=false->R x y=true
end
section
variable {M:Model}{A:Fm}{σ:Type}
theorem wif{α:Type}{c:Prop}[Decidable c]{x y:StateT σ Sem α}{Q:α->σ->Prop}{st:σ}(h:c->wpS M A E s x Q st)(k:¬ c->wpS M A E s y Q st):wpS M A E s (if c then x else y) Q st:=by
 by_cases e:c
 ·rw[if_pos e];exact h e
 ·rw[if_neg e];exact k e
def qZ(prog:EW)(w:Fl)(A:Fm)(E:EN->EL->Prop)(s:EL)(κ:IH)(P:Ic->Prop)(R:Ic->Ic->Bool):Prop:=
 ∀x y st (Q:Option Bool->SortSt->Prop),P x->P y->kindOf st=κ->Q (some (R x y)) st->wpS (FE prog w) A E s (lt' x y) Q st
variable {κ:IH}{P:Ic→Prop}{R:Ic→Ic→Bool} (K:qZ prog w A E s κ P R)
include K
end
section
variable {α:Type}{R:α→α→Bool}{A B:List α}
end
section
variable {prog:EW}{w:Fl}{A:Fm}{E:EN→EL→Prop}{s:EL}{κ:IH}{P:Ic→Prop}{R:Ic→Ic→Bool} (K:qZ prog w A E s κ P R)
include K
end
section
end
section
variable {prog:EW}{w:Fl}{A:Fm}{E:EN→EL→Prop}{s:EL}{κ:IH}{P:Ic→Prop}{R:Ic→Ic→Bool} (K:qZ prog w A E s κ P R)
include K
end
variable {R:Ic→Ic→Bool}{κ:IH}{P:Ic→Prop}{l:List Ic}{pd:Array (Nat×Nat×Nat)}
section
variable {A:Fm}
structure Ord(P:Ic->Prop)(R:Ic->Ic->Bool)(l:List Ic):Prop where
 tr:∀x y z,R x y=true->R y z=true->R x z=true
 tot:∀x∈l,∀y∈l,x≠y->R x y=false->R y x=true
 nd:l.Nodup
 hp:∀x∈l,P x
structure Stt(κ:IH)(l:List Ic)(pd:Array (Nat×Nat×Nat))(st:SortSt):Prop where
 kind:kindOf st=κ
 failed:failedOf st=none
 perm:(arrOf st).toList.Perm l
 pend:pendingOf st=pd
def Kept(a b:Array Ic)(lo:Nat):Prop:=∀j,j<lo->gt b j=gt a j
variable (K:qZ prog w A E s κ P R)
include K
end
section
variable {A:Fm}
variable (K:qZ prog w A E s κ P R)
include K
end
section
variable {A:Fm}
variable (K:qZ prog w A E s κ P R)
include K
end
section
variable {A:Fm}
variable (K:qZ prog w A E s κ P R)
include K
end
end TS
namespace ST
open PySem PySem.W PyProof.Rows
abbrev ky(p:(Int×Int)×EX):Ic:=(Fs p.2,Fs p.2)
open Classical in
noncomputable def RP (pb:PB) (x y:Ic):Bool:=decide (∃p∈pb,∃q∈pb,x=ky p/\y=ky q/\ltP p.1 q.1=true)
section
variable {prog:EW}{w:Fl}{A:Fm}{E:EN→EL→Prop}{s:EL}
end
end ST
namespace ST
open PySem PySem.W PyProof.Rows PySem.Calls
section
variable {prog:EW}{w:Fl}{A:Fm}{E:EN→EL→Prop}{s:EL}
end
end ST
namespace L2
open PySem PySem.Spec PyProof.Rows
section
variable {X:Cx}{H0:Hp}{O0:List EX}{ps:PSt}{e:Expr}{pts:List P2}{pos PL p p':Pos}
end
section
variable {X:Cx}{tg:Expr}
def B5(ta:TA):TI:=λσ H R=>ta σ H λvs H1=>∃j:Int,vs=[.int j]/\R (Itr 0 (j-0).toNat) H1
theorem qQ{a:Expr}{ta:TA}{p pos:Pos}(hg:Gl X "range")(hm:X.mg "range"=none)(ha:PA X [a] ta)(hs:EZ [a] X.env=[(false,HY a X.env)]:=by rfl):
  PI X tg (.Call (.Name "range" p) [a] [] pos) (B5 ta):=by
 intro pins s σ H R I h;refine Call_ (cJ I hg hm ML (PyProof.Rows.callWith_type1 (thn (ha pos pins s σ H _ I h) λus s1 ⟨vs,H1,I1,r1,q1⟩=>?_) (by rw[hs];rfl) rfl))
 obtain⟨j,e,q⟩:=q1;subst e;cases r1 with
 |cons r rr=>
  cases rr;obtain⟨t,rfl⟩:=r;exact call_range_1 (lP I1 q)
variable {H0:Hp}{O0:List EX}{ps:PSt}{a:Expr}{p pos:Pos}
theorem u0{j:Int}(hg:Gl X "range")(hm:X.mg "range"=none)(ha:EvA X H0 O0 ps [a] [.int j])(hs:EZ [a] X.env=[(false,HY a X.env)]:=by rfl):
  EvI X H0 O0 ps tg (.Call (.Name "range" p) [a] [] pos) (fD 0 (j-0).toNat):=
 PI.mono (qQ hg hm ha hs) λσ H Q ⟨O,R,q⟩=>⟨O,R,λvs H' s r=>by
  obtain⟨v,rfl,h⟩:=cC r;cases h;exact⟨j,rfl,q _ H' s jE⟩⟩
end
end L2
namespace ST
open PySem PySem.W PySem.Calls PyProof.Rows
section
variable {prog:EW}{w:Fl}{A:Fm}{E:EN→EL→Prop}{s:EL}
end
end ST
namespace L2
open PySem PySem.Spec PyProof.Rows
section
variable {X:Cx}{H0:Hp}{O0:List EX}{ps:PSt}{e:Expr}{pts:List P2}{pos p:Pos}
variable {E:XK}{P6:PSt}{D:PD}{a b c:Expr}{es:List Expr}{u:U}{xs ys us:List U}
 {n:Nat}{C:EX}{fd:F5}{pn:List Str}{PR:List U->Out->Prop}
end
end L2
namespace L2
open PySem PySem.Spec PySem.W PyProof.Rows
variable {H0:Hp}{O0:List EX}{pos:Pos}{mg:Str→Option EN}{es:List Expr}
section
variable {X:Cx}{E:XK}{ps:PSt}{D:PD}{s:Hc}{u:U}{xs:List U}
variable {P:EW}{w:Fl}{K:EI}{base:GD}{N pn:List Str}{Pl nm:Str}{f:EX}
variable {e:Expr}{us:List U}{x:Str}{pc p':Pos}
variable {c:Expr}{n:Nat}{fd:F5}{PR:List U→Out→Prop}{AA rest:List Hc}{nx:PSt→Prop}{ex:PSt→EX→Prop}
end
abbrev T'(l:List Nat):Str:=⟨l.toArray⟩
variable {tg:Expr}
section
variable {X:Cx}
end
abbrev sg(c:Nat):U:=.str ⟨#[c]⟩
variable {P1:Pos}{Px:Pos}
section
variable {X:Cx}{ps:PSt}{a b e:Expr}{p p2:Pos}{x y:Str}{i:Int}{lo hi:Option Expr}{l h:Option Int}
end
inductive Cst:Expr->U->Prop
 |str (x:Str) (j) (p:Pos):Cst (.Constant (.str x) j p) (.str x)
 |int (i:Int) (j) (p:Pos):Cst (.Constant (.int i) j p) (.int i)
 |bl (b:Bool) (j) (p:Pos):Cst (.Constant (.bool b) j p) (.bl b)
 |non (j) (p:Pos):Cst (.Constant .none j p) .non
inductive CG:List Expr->List U->Prop
 |nil:CG [] []
 |cons {e:Expr}{u:U}{es:List Expr}{us:List U}:Cst e u->CG es us->CG (e::es) (u::us)
structure EvD(X:Cx)(H0:Hp)(O0:List EX)(ps:PSt)(e:Expr)(u:U):Prop where
 ev:Ev X H0 O0 ps e u
theorem dsp{X:Cx}{H0:Hp}{O0:List EX}{ps:PSt}{es:List Expr}{us:List U}{pos:Pos}(h:EvS X H0 O0 ps es us)(hz:us.length<=sizeLine):EvD X H0 O0 ps (.List es pos) (.lst us):=⟨EvN.ev (dg h hz)⟩
section
variable {X:Cx}{ps:PSt}{a b e:Expr}{x y:Str}
end
def spl(c:Nat):List Nat->List (List Nat)
 |[]=>[[]]
 |a::l=>if a=c then []::spl c l else (a::(spl c l).headD [])::(spl c l).drop 1
section
variable {X:Cx}{E:XK}{ps:PSt}{a b e:Expr}{y:Str}{l:List Nat}{c:Nat}{u:U}{C:EX}
end
section
variable {M:Model}{A:Fm}{E:EN→EL→Prop}{s:EL}
end
section
variable {P:EW}{w:Fl}{K:Frag}{base:GD}{N:List Str}{Pl:Str}{Ph:Js}{f:EX}{cd:EN}{A:Fm}{outer:List Env}{s:EL}{H:Hp}{E:XK}
variable {X:Cx}{pins:List (EX×Obj)}{σ:St}
variable {ps:PSt}{iter P5 e:Expr}{p:Pos}{xs ys us:List U}{C0:EX}
end
structure EvM(X:Cx)(H0:Hp)(O0:List EX)(ps:PSt)(e:Expr)(us:List U):Prop where
 ev:EvN X H0 O0 ps e us
end L2
namespace L2
open PySem PySem.Spec PyProof.Rows
structure Dl(K:EI)(ps:PSt)(j:Nat)(xss:Nat->List U)(H0:Hp)(O0:List EX)(σ:St)(H:Hp)(O:List EX)(d:EX)(as:Nat->EX):Prop where
 rs:Rs K H0 O0 ps σ H O
 vals:∀(i:Nat) (s:Sl),ps[i]?=some (some s)->∃u,s=.val u
 non:ps[j]?=some none
 at_:σ[j]?=some (some (.ref d))
 dO:d∈O
 dO0:d ∉ O0
 aO:∀r,r<3->as r∈O/\as r ∉ O0
 da:∀r,r<3->as r≠d
 inj:∀r t,r<3->t<3->as r=as t->r=t
 dh:H d=some (.lst [.ref (as 0),.ref (as 1),.ref (as 2)])
 ah:∀r,r<3->∃vs,H (as r)=some (.lst vs)/\Rps K (hid H O) vs (xss r)
section
variable {K:EI}{H0 H H':Hp}{O0 O:List EX}{ps:PSt}{σ:St}{j:Nat}{xss:Nat→List U}{d:EX}{as:Nat→EX}
variable {X:Cx}{E:XK}{D:PD}{iter e1 e2:Expr}{items:List U}{ss:List Hc}
end
end L2
namespace ST2
open PySem PySem.SetTable ST
section
variable {prog:EW}{w:Fl}{A:Fm}{E:EN→EL→Prop}{s:EL}
abbrev K4:=(Int×Int)×(Int×Int)
abbrev l1(k:K4):List Int:=[k.1.1,k.1.2]
abbrev l2(k:K4):List Int:=[k.2.1,k.2.2]
def TQ(prog:EW)(w:Fl)(h:GD)(k:K4)(b:EX):Prop:=∃o items n a1 a2,h.get? b=some o∧o.cls=.type "tuple"∧o.data=.seq items n∧items.toList=[.ref a1,.ref a2]∧TK prog w h (l1 k) a1∧TK prog w h (l2 k) a2
variable {hZ:K4→Int}
def ents(hZ:K4->Int)(kb:List (K4×EX)):List (Int×EN):=kb.map λp=>(hZ p.1,.ref p.2)
structure SP(prog:EW)(w:Fl)(hZ:K4->Int)(h:GD)(S:EX)(kb:List (K4×EX)):Prop where
 ex:∃o es ep t,h.get? S=some o∧o.ExactSet∧o.data=.set es ep t∧es.toList=ents hZ kb∧TOk t (kb.map λp=>hZ p.1)∧t.led=(!w.params.followText "set-order")∧t.plain=true∧t.tooFull=false∧t.mask<8*kb.length+8
 keys:∀p∈kb,TQ prog w h p.1 p.2
 nd:(kb.map (·.1)).Nodup
structure Got(kx:Nat->K4×EX)(i:Nat)(kb:List (K4×EX)):Prop where
 src:∀p∈kb,∃j,j<i/\p=kx j
 all:∀j,j<i->(kx j).1∈kb.map (·.1)
 len:kb.length<=i
variable {R:M4→EL→Prop}{I:EX}{fp wr:List EX}{G:Array ID→Array ID→Prop}{n:Nat}{P:Nat→EN→Prop}{St:Nat→EL→Prop}
end
end ST2
namespace ST
open PySem PySem.W PySem.Calls PyProof.Rows
section
variable {prog:EW}{w:Fl}{A:Fm}{E:EN→EL→Prop}{s:EL}
end
end ST
namespace L2
open PySem PySem.Spec PyProof.Rows
section
variable {X:Cx}{H0:Hp}{O0:List EX}{ps:PSt}{e:Expr}{p pos:Pos}{a b:P2}
variable {pts:List P2}{prs dd:List (P2×P2)}{PL p':Pos}
end
end L2
namespace HT
open PySem PySem.W PySem.Spec PyProof.Rows L2
section
variable {prog:EW}{w:Fl}{A:Fm}{E:EN→EL→Prop}{s:EL}
end
end HT
namespace L2
open PySem PySem.Spec PyProof.Rows
section
variable {X:Cx}{H0:Hp}{O0:List EX}{E:XK}{ps:PSt}{D:PD}{e:Expr}{lo hi:Option Expr}{l h:Option Int}{pos p2:Pos}{xs ys:List U}
end
end L2
namespace L2
open PySem PySem.Spec PySem.W PyProof.Rows
open PySem.Builtin.Str in
def EE(x y z:Str):Str:=if ((occurrences x y 0 x.length 1).isEmpty || (y.length==0 && z.length==0))=true then x else glued z (partsBetween x (occurrences x y 0 x.length 1) y.length)
section
variable {prog:EW}{w:Fl}{A:Fm}{E:EN→EL→Prop}{s:EL}{x y z:Str}{t u v k:Tok}{Q:EN→EL→Prop}
end
section
variable {X:Cx}{H0:Hp}{O0:List EX}{E:XK}{ps:PSt}{D:PD}
end
end L2
namespace ST3
open PySem PySem.W PySem.Calls PyProof.Rows ST
abbrev TR:=(Int×Int)×(Int×Int)×(Int×Int)
def ltT(a b:TR):Bool:=if a.1=b.1 then (if a.2.1=b.2.1 then ltP a.2.2 b.2.2 else ltP a.2.1 b.2.1) else ltP a.1 b.1
theorem AR{a b:TR}(h:ltT a b=true):ltT b a=false:=by
 unfold ltT at *;by_cases h1:a.1=b.1
 ·rw[if_pos h1]at h;rw[if_pos h1.symm];by_cases h2:a.2.1=b.2.1
  ·rw[if_pos h2]at h;rw[if_pos h2.symm];exact fF h
  ·rw[if_neg h2]at h;rw[if_neg (Ne.symm h2)];exact fF h
 ·rw[if_neg h1]at h;rw[if_neg (Ne.symm h1)];exact fF h
theorem zt{a b:TR}(h:a≠b)(k:ltT a b=false):ltT b a=true:=by
 unfold ltT at *;by_cases h1:a.1=b.1
 ·rw[if_pos h1]at k;rw[if_pos h1.symm];by_cases h2:a.2.1=b.2.1
  ·rw[if_pos h2]at k;rw[if_pos h2.symm];exact ltP_tot (λe=>h (F8 h1 (F8 h2 e))) k
  ·rw[if_neg h2]at k;rw[if_neg (Ne.symm h2)];exact ltP_tot h2 k
 ·rw[if_neg h1]at k;rw[if_neg (Ne.symm h1)];exact ltP_tot h1 k
theorem ju{a:Int×Int}:ltP a a=false:=asc_irr
theorem Cn{a b c:TR}(h:ltT a b=true)(k:ltT b c=true):ltT a c=true:=by
 unfold ltT at *;by_cases h1:a.1=b.1
 ·rw[if_pos h1]at h;by_cases k1:b.1=c.1
  ·rw[if_pos k1]at k;rw[if_pos (h1.trans k1)];by_cases h2:a.2.1=b.2.1
   ·rw[if_pos h2]at h;by_cases k2:b.2.1=c.2.1
    ·rw[if_pos k2]at k;rw[if_pos (h2.trans k2)];exact gW h k
    ·rw[if_neg k2]at k;rw[if_neg (by rw[h2];exact k2),h2];exact k
   ·rw[if_neg h2]at h;by_cases k2:b.2.1=c.2.1
    ·rw[if_neg (by rw[<-k2];exact h2),<-k2];exact h
    ·rw[if_neg k2]at k;have t:=gW h k;rw[if_neg (λe=>by rw[e,ju]at t;cases t)];exact t
  ·rw[if_neg k1]at k;rw[if_neg (by rw[h1];exact k1),h1];exact k
 ·rw[if_neg h1]at h;by_cases k1:b.1=c.1
  ·rw[if_neg (by rw[<-k1];exact h1),<-k1];exact h
  ·rw[if_neg k1]at k;have t:=gW h k;rw[if_neg (λe=>by rw[e,ju]at t;cases t)];exact t
section
variable {prog:EW}{w:Fl}{A:Fm}{E:EN→EL→Prop}{s:EL}
abbrev lq(p:Int×Int):List Int:=[p.1,p.2]
def TT(prog:EW)(w:Fl)(h:GD)(t:TR)(b:EX):Prop:=∃o items n a1 a2 a3,h.get? b=some o∧o.cls=.type "tuple"∧o.data=.seq items n∧items.toList=[.ref a1,.ref a2,.ref a3]∧TK prog w h (lq t.1) a1∧TK prog w h (lq t.2.1) a2∧TK prog w h (lq t.2.2) a3
theorem TT.grow{h h':GD}{k:TR}{b:EX}(x:TT prog w h k b)(e:∀b o,o.cls=.type "tuple"→h.get? b=some o→h'.get? b=some o):TT prog w h' k b:=by
 obtain⟨o,it,n,a1,a2,a3,h1,hc,h2,h3,h4,h5,h6⟩:=x;have up:∀{k:List Int}{a:EX},TK prog w h k a->TK prog w h' k a:=λ{k a} t=>by obtain⟨o,it,n,g1,gc,g2⟩:=t;exact⟨o,it,n,e _ _ gc g1,gc,g2⟩
 exact⟨o,it,n,a1,a2,a3,e _ _ hc h1,hc,h2,h3,up h4,up h5,up h6⟩
theorem Db{p q:Int×Int}(h:lq p=lq q):p=q:=by
 obtain⟨a,b⟩:=p;obtain⟨c,d⟩:=q;injection h with h1 h2
 injection h2 with h2 _
 simp only at h1 h2;rw[h1,h2]
theorem mM(a b:Int×Int):decide (lq a=lq b)=decide (a=b):=decide_eq_decide.mpr ⟨Db,λe=>by rw[e]⟩
theorem Cy(hu:A.units+1<H_){x y:EX}{a b:TR}{Q:Bool->EL->Prop}(hx:TT prog w s.heap a x)(hy:TT prog w s.heap b y)(h:Q (ltT a b) s):Ff (FE prog w) A (keyLt' (Kw false) (.ref x) (.ref y)) Q E s:=by
 obtain⟨o,Pj,n,a1,a2,a3,ho,_,hd,hi,t1,t2,t3⟩:=hx;obtain⟨o',its',n',b1,b2,b3,Qu,_,QF,Pu,u1,u2,u3⟩:=hy;refine kat_lt ho hd Qu QF ?_;rw[hi,Pu];unfold ltT at h;refine kat_cons (HN (by lia) t1 u1 ?_)
 rw[mM];by_cases e1:a.1=b.1
 ·rw[decide_eq_true e1];rw[if_pos e1]at h;refine kat_yes (kat_cons (HN (by lia) t2 u2 ?_))
  rw[mM];by_cases e2:a.2.1=b.2.1
  ·rw[decide_eq_true e2];rw[if_pos e2]at h;refine kat_yes (kat_cons (HN (by lia) t3 u3 ?_))
   rw[mM];by_cases e3:a.2.2=b.2.2
   ·rw[decide_eq_true e3];refine kat_yes (kat_nil ?_);rw[e3,ju]at h
    have z2:decide (Pj.size<its'.size)=false:=by
     rw[<-E6,<-E6,hi,Pu];simp
    rw[z2];exact h
   ·rw[decide_eq_false e3];exact kat_no (kat_one _ _ (lt_ptsR (by lia) t3 u3 h))
  ·rw[decide_eq_false e2];rw[if_neg e2]at h;exact kat_no (kat_one _ _ (lt_ptsR (by lia) t2 u2 h))
 ·rw[decide_eq_false e1];rw[if_neg e1]at h;exact kat_no (kat_one _ _ (lt_ptsR (by lia) t1 u1 h))
abbrev PT3:=List (TR×EX)
abbrev Bd(pb:PT3):List EN:=pb.map λp=>Fs p.2
theorem v7{pb:PT3}{Q:IH->EL->Prop}(QE:∀p∈pb,TT prog w s.heap p.1 p.2)(h0:0<pb.length)(h:Q (Kw false) s):Ff (FE prog w) A (OC (Bd pb).toArray) Q E s:=by
 obtain⟨fs,hf,hl,hi⟩:∃fs,KatTups s.heap (Bd pb) fs∧fs.length=pb.length∧∀v∈fs,∃a o,v=Fs a∧s.heap.get? a=some o∧o.cls=.type "tuple":=by
  clear h h0
  induction pb with
  |nil=>exact⟨[],.nil,rfl,λv hv=>by simp at hv⟩
  |cons p r ih=>
   obtain⟨fs,hf,hl,hi⟩:=ih λq hq=>QE q (EJ _ hq)
   obtain⟨o,Pj,n,a1,a2,a3,ho,hc,hd,Qx,t1,_⟩:=QE p ET;refine⟨.ref a1::fs,.cons ho hc hd (by rw[<-FS,Qx];rfl) hf,by simp[hl],λv hv=>?_⟩
   rcases EO.mp hv with z |z
   ·obtain⟨o1,_,_,g1,g2,_⟩:=t1;exact⟨a1,o1,z,g1,g2⟩
   ·exact hi v z
 refine kat_kind (T:=.type "tuple") hf (by lia) (λv hv=>?_) (by decide) h
 obtain⟨a,o,rfl,g1,g2⟩:=hi v hv;rw[<-g2];exact (Looks.ld g1).andThen .now
abbrev ky3(p:TR×EX):Ic:=(Fs p.2,Fs p.2)
open Classical in
noncomputable def RP3 (pb:PT3) (x y:Ic):Bool:=decide (∃p∈pb,∃q∈pb,x=ky3 p/\y=ky3 q/\ltT p.1 q.1=true)
end
end ST3
namespace L2
open PySem PySem.Spec PyProof.Rows
abbrev trU(t:ST3.TR):U:=.tup [pu t.1,pu t.2.1,pu t.2.2]
def t0:ST3.TR:=((0,0),(0,0),(0,0))
section
variable {X:Cx}{H0:Hp}{O0:List EX}{ps:PSt}{e:Expr}{trs:List ST3.TR}{pos p:Pos}
theorem Dj{a b c:V}{us:List EN}(h:aU [a,b,c] us):∃u v w,us=[u,v,w]/\bi a u/\bi b v/\bi c w:=by
 cases h with
 |cons h1 r=>
  cases r with
  |cons h2 r=>
   cases r with
   |cons h3 r=>cases r;exact⟨_,_,_,rfl,h1,h2,h3⟩
end
end L2
namespace ST6
open PySem PySem.W PySem.Calls PyProof.Rows ST
def ltL:List Int->List Int->Bool
 |a::r,b::t=>if a=b then ltL r t else decide (a<b)
 |[],_::_=>true
 |_,[]=>false
section
variable {prog:EW}{w:Fl}{A:Fm}{E:EN→EL→Prop}{s:EL}
abbrev PT6:=List (List Int×EX)
abbrev ky6(p:List Int×EX):Ic:=(Fs p.2,Fs p.2)
open Classical in
noncomputable def RP6 (pb:PT6) (x y:Ic):Bool:=decide (∃p∈pb,∃q∈pb,x=ky6 p/\y=ky6 q/\ltL p.1 q.1=true)
end
end ST6
namespace L2
open PySem PySem.Spec PyProof.Rows
section
variable {X:Cx}{H0:Hp}{O0:List EX}{ps:PSt}{e:Expr}{trs:List (List Int)}{pos p:Pos}
end
end L2
namespace ST
open PySem
structure Z3A(z TI TO i1 i2 i3 l1 l2 l3:EX):Prop where
 TIz:TI≠z
 TOz:TO≠z
 i1z:i1≠z
 i2z:i2≠z
 i3z:i3≠z
 TITO:TI≠TO
 TIi1:TI≠i1
 TIi2:TI≠i2
 TIi3:TI≠i3
 TOi1:TO≠i1
 TOi2:TO≠i2
 TOi3:TO≠i3
 i12:i1≠i2
 i13:i1≠i3
 i23:i2≠i3
 l1z:l1≠z
 l1TO:l1≠TO
 l1i1:l1≠i1
 l1i2:l1≠i2
 l1i3:l1≠i3
 l2z:l2≠z
 l2TO:l2≠TO
 l2i1:l2≠i1
 l2i2:l2≠i2
 l2i3:l2≠i3
 l3z:l3≠z
 l3TO:l3≠TO
 l3i1:l3≠i1
 l3i2:l3≠i2
 l3i3:l3≠i3
section
variable {prog:EW}{w:Fl}{A:Fm}{E:EN→EL→Prop}{s:EL}
end
end ST
namespace L2
open PySem PySem.Spec PyProof.Rows
theorem zV{X:Cx}{pins:List (EX×Obj)}{σ:List (Option V)}{H:Hp}{s:EL}{h':GD}{t':Nat}{fp:List EX}{p:EX}{xs:List V}(I:Inv X pins σ H s)(hf:∀b∈fp,iK X pins H b)
  (k:∀b o,b ∉ fp->s.heap.get? b=some o->h'.get? b=some o) (hp:s.heap.objs.size<=p) (new:cw X.prog X.w (upd H p (.tup xs)) h' p (.tup xs)):
  Inv X pins σ (upd H p (.tup xs)) {s with heap:=h',toks:=t' }:=by
 have fresh:H p=none:=I.hok.fresh hp;have np:∀b o,s.heap.get? b=some o->b≠p:=λb o e z=>absurd (Fu (EY e) hp) (by rw[z];exact FA _)
 have nh:∀b u,H b=some u->b≠p:=λb u e z=>by rw[z,fresh]at e;cases e
 have nf:∀b u,H b=some u->b ∉ fp:=λb u e z=>by rw[(hf b z).1]at e;cases e
 refine I.step (g':=s.gens) (d':=s.drawn) (ch:=fp) (λb hb=>?_) (λb o _ _ hc e _=>k b o hc e) (λb o _ _ hc e _=>⟨o.slots,k b o hc e⟩) (λb o _ e n=>by rw[aT (np b o e)];exact n)
  (λb o hc e=>⟨o,k b o hc e⟩) (λb xs e=>by rw[aT (nh b _ e)];exact e) (λb o u e=>by rw[aT (nh b _ e)];exact e) (λb ps e=>⟨#[],by rw[aT (nh b _ e),e];simp⟩) (λm hm=>?_) (λb u e=>?_) I.bare
 ·obtain⟨f0,f1,f2,f3,f4,f5⟩:=hf b hb;exact⟨f3,f1,f4,f5⟩
 ·obtain⟨o,es,ep,ho,r⟩:=hm;exact⟨o,es,ep,k _ o (λz=>(hf _ z).2.1 rfl) ho,r⟩
 ·by_cases hb:b=p
  ·subst hb;rw[aL]at e;cases e;exact new
  ·rw[aT hb]at e;refine (I.hok b u e).stay (λc v hc q=>k c v ?_ q) (λc q=>by rw[aT (nh c _ q)];exact q) λc xs q=>by rw[aT (nh c _ q)];exact q
   rcases hc with z |z
   ·rw[z];exact nf b u e
   ·exact nf c _ z
theorem zd{X:Cx}{pins:List (EX×Obj)}{σ:List (Option V)}{H:Hp}{s:EL}{h':GD}{t':Nat}{fp:List EX}(I:Inv X pins σ H s)(hf:∀b∈fp,iK X pins H b)
  (k:∀b o,b ∉ fp->s.heap.get? b=some o->h'.get? b=some o):Inv X pins σ H {s with heap:=h',toks:=t' }:=by
 have nf:∀b u,H b=some u->b ∉ fp:=λb u e z=>by rw[(hf b z).1]at e;cases e
 refine I.step (g':=s.gens) (d':=s.drawn) (ch:=fp) (λb hb=>?_) (λb o _ _ hc e _=>k b o hc e) (λb o _ _ hc e _=>⟨o.slots,k b o hc e⟩) (λ_ _ _ _ n=>n)
  (λb o hc e=>⟨o,k b o hc e⟩) (λ_ _ e=>e) (λ_ _ _ e=>e) (λb ps e=>⟨#[],by rw[e];simp⟩) (λm hm=>?_) (λb u e=>?_) I.bare
 ·obtain⟨f0,f1,f2,f3,f4,f5⟩:=hf b hb;exact⟨f3,f1,f4,f5⟩
 ·obtain⟨o,es,ep,ho,r⟩:=hm;exact⟨o,es,ep,k _ o (λz=>(hf _ z).2.1 rfl) ho,r⟩
 ·refine (I.hok b u e).stay (λc v hc q=>k c v ?_ q) (λ_ q=>q) λ_ _ q=>q
  rcases hc with z |z
  ·rw[z];exact nf b u e
  ·exact nf c _ z
def Yz(K:EI)(J:It)(G:Hp)(xs:List U):Prop:=
 ∀H2,aK G H2->(∀i,i<xs.length->J.go i H2/\∀x H3,J.yld i H2 x H3->aK H2 H3/\∃u,xs[i]?=some u/\∀O2,(∀a∈O2,H2 a≠none)->aK G (hid H2 O2)->Rp K (hid H3 O2) x u)/\J.stop xs.length H2
def EvZ(X:Cx)(H0:Hp)(O0:List EX)(ps:PSt)(tg iter:Expr)(xs:List U):Prop:=
 PI X tg iter λσ H R=>∃O,Rs X.K H0 O0 ps σ H O/\∀J H',aK H H'->Yz X.K J (hid H' O) xs->R J H'
section
variable {X:Cx}{H0:Hp}{O0:List EX}{E:XK}{ps:PSt}{D:PD}{PV:List Hc}{e f g tg iter:Expr}{es:List Expr}{p pos:Pos}{x y z:U}{xs ys zs us:List U}
end
abbrev Ent:=List Int×EX×EN
def Sd(P:EW)(w:Fl)(d:EX)(xs:List Ent)(h:GD):Prop:=
 (d==N6)=false/\xs.length<=sizeLine/\∃o es ep,h.get? d=some o/\o.ExactDict/\o.data=.dict es ep/\es.toList=xs.map (entryOfKey (tupleKind (JA P w)))/\(xs.map (·.1)).Nodup
section
variable {X:Cx}{pins:List (EX×Obj)}{σ:St}{H:Hp}{s:EL}{a b:EX}{k:List Int}{xs:List Ent}{A:Fm}{E:EN→EL→Prop}
variable {o i e Qj:Expr}{pos PL RQ:Pos}{td ty tv:TE}
end
structure Sn(P:EW)(w:Fl)(K:EI)(ps:PSt)(j:Nat)(xs:List Ent)(H0:Hp)(O0:List EX)(σ:St)(H:Hp)(O:List EX)(d:EX):Prop where
 rs:Rs K H0 O0 ps σ H O
 vals:∀(i:Nat) (s:Sl),ps[i]?=some (some s)->∃u,s=.val u
 non:ps[j]?=some none
 at_:σ[j]?=some (some (.ref d))
 dO:d∈O
 dO0:d ∉ O0
 dh:H d=some (.ext (Sd P w d xs))
 ky:∀x∈xs,SqT K (hid H O) x.2.1 (x.1.map V.int)
section
variable {P:EW}{w:Fl}{K:EI}{H0 H H':Hp}{O0 O:List EX}{ps:PSt}{σ:St}{j:Nat}{xs:List Ent}{d:EX}
variable {X:Cx}{E:XK}{D:PD}{iter e t1:Expr}{items:List U}{ss b1 b2:List Hc}
end
end L2
namespace ST6
open PySem PyProof.Rows ST
section
variable {prog:EW}{w:Fl}{A:Fm}{E:EN→EL→Prop}{s:EL}
end
end ST6
namespace L2
open PySem PySem.Spec PyProof.Rows
section
variable {κ:Type} [DecidableEq κ]
end
abbrev KT(H:Hp):List (List Key×V)->List (List Key×EX×EN)->Prop:=Paired λp q=>p.1=q.1/\H q.2.1=some (.tup (p.1.map kV))/\bi p.2 q.2.2
variable {P:EW}{w:Fl}{H:Hp}{pins:List (EX×Obj)}{σ:St}{s:EL}
section
variable {h:GD}{a:EX}
variable {X:Cx}{y v:V}{u r:EN}{o:Option V}{A:Fm}{E:EN→EL→Prop}
variable {PX:List (Key×V)}{k:Key}
end
variable {o:Expr}{pos:Pos}
section
variable {X:Cx}{i e Qj:Expr}{PL RQ:Pos}{td ty tv:TE}
end
structure M1(X:Cx)(o:Expr)(m:Str)(P1:Pos)(e:Expr)(Px:Pos):Prop where
 base:IE o m X.env (HY o X.env)=HY o X.env
 few:((Ie Px (EZ [e] X.env)).all (λx=>!x.1) && (Nm Px (K7 [] X.env)).all (λx=>x.1.isSome)
  && decide (([e]:List Expr).length+([]:List J8).length+(if ([]:List J8).isEmpty then 0 else 1)<30))=true
 line:(P1.endLine==Px.line)=true
 trees:Ie Px (EZ [e] X.env)=[(false,HY e X.env)]
structure M2(X:Cx)(o:Expr)(m:Str)(P1:Pos)(e f:Expr)(Px:Pos):Prop where
 base:IE o m X.env (HY o X.env)=HY o X.env
 few:((Ie Px (EZ [e,f] X.env)).all (λx=>!x.1) && (Nm Px (K7 [] X.env)).all (λx=>x.1.isSome)
  && decide (([e,f]:List Expr).length+([]:List J8).length+(if ([]:List J8).isEmpty then 0 else 1)<30))=true
 line:(P1.endLine==Px.line)=true
 trees:Ie Px (EZ [e,f] X.env)=[(false,HY e X.env),(false,HY f X.env)]
section
variable {X:Cx}{a:EX}{y d:V}{u r:EN}{o:Option V}{A:Fm}{E:EN→EL→Prop}
end
variable {P1:Pos}{Px:Pos}
section
variable {X:Cx}{e f:Expr}{td ty tx:TE}
variable {a:EX}{PX:List (Key×V)}{A:Fm}{E:EN→EL→Prop}
variable {y:V}{u:EN}
end
variable {u:U}{E:XK}{PX:List (Str×U)}{K:EI}{H0:Hp}{O0:List EX}{D:PD}{C:EX}{d:EX}
section
variable {H':Hp}{kv:List (Key×V)}{k:Key}{v:V}{x:Str}
variable {X:Cx}{ps:PSt}{e:Expr}{p:Pos}{n:Str}{w:Bool}{a:EX}{i:Nat}
end
variable {pn:List Str}{Pl:Str}
section
variable {mg:Str→Option EN}{base:GD}{N:List Str}{nm:Str}{f:EX}
end
variable {es:List Expr}{us:List U}{fd:F5}{PR:EX→List (Str×U)→List U→Out→Prop}
section
variable {X:Cx}{ps ps1 RJ:PSt}{e b:Expr}{rest:List Expr}{p:Pos}{z:U}{x n m:Str}{w:Bool}{Cx' a f:EX}{kvs':List (Str×U)}{i k:Nat}{c c':Bool}{CX:CXT}
end
section
variable {mg:Str→Option EN}{base:GD}{N:List Str}{nm sf:Str}{f:EX}{p1 p2 p3 p4:Pos}
variable {X:Cx}{ps:PSt}{p p':Pos}{x:Str}{i k:Nat}{CX:CXT}
end
variable {xs:List U}
section
variable {X:Cx}{ps:PSt}{e:Expr}{p:Pos}{x m:Str}{w:Bool}{C' a f:EX}{i k:Nat}{CX:CXT}
end
section
variable {X:Cx}{ps:PSt}{e i:Expr}{p:Pos}{n nm t:Str}{vs:List (Str×EN)}{tk:Tok}{ty:TE}
variable {a:Expr}{x:Str}
end
def Es(K:EI)(l1 l2:EX):It:=
 ⟨λi H=>∃xs ys x y,SqL K H l1 xs/\SqL K H l2 ys/\xs[i]?=some x/\ys[i]?=some y,
  λi H u H'=>∃p x y,u=.ref p/\H p=none/\H'=upd H p (.tup [x,y])/\(∀xs,SqL K H l1 xs->xs[i]?=some x)/\(∀ys,SqL K H l2 ys->ys[i]?=some y),
  λi H=>∃xs ys,SqL K H l1 xs/\SqL K H l2 ys/\xs.length<=i⟩
theorem zK{P:EW}{w:Fl}{K:EI}{es:List Expr}{ctx pos}(z TI TO i1 i2 l1 l2:EX)(D:IZ z TI TO i1 i2 l1 l2):
  rH P w K (.Tuple es ctx pos) (Es K l1 l2) [z,TI,TO,i1,i2] z (λi h=>IsZip h z TI TO .none/\Ju h TI (.ref i1) (.ref i2)/\(∃a b,Ju h TO a b)/\h.IsListIter i1 l1 i/\h.IsListIter i2 l2 i) where
 mem:=by simp
 obj:=λi h st b hb=>by
  obtain⟨gz,gI,⟨a,c,gO⟩,h1,h2⟩:=st
  have li:∀{it l k},h.IsListIter it l k->∃o,h.get? it=some o/\∀v,o.data≠.cell v:=λq=>by
   obtain⟨o,e,_,d⟩:=q;exact⟨o,e,λv z=>by rw[d]at z;cases z⟩
  simp only[EO,Fo,or_false]at hb;rcases hb with e |e |e |e |e <;>subst e
  ·exact⟨_,gz,λv z=>by cases z⟩
  ·exact⟨_,gI,λv z=>by cases z⟩
  ·exact⟨_,gO,λv z=>by cases z⟩
  ·exact li h1
  ·exact li h2
 keep:=λi h h' st k=>by
  obtain⟨gz,gI,⟨a,c,gO⟩,h1,h2⟩:=st;exact⟨k z (by simp) _ gz,k TI (by simp) _ gI,⟨a,c,k TO (by simp) _ gO⟩,h1.at λo e=>k i1 (by simp) o e,h2.at λo e=>k i2 (by simp) o e⟩
 item:=by
  intro X hP hw hK hc i pins s σ H E I hf st hg;subst hP hw hK;obtain⟨gz,gI,⟨a,b,gO⟩,h1,h2⟩:=st;obtain⟨xs,ys,x,y,q1,q2,e1,e2⟩:=hg;obtain⟨n1,r1,p1,_⟩:=I.list q1;obtain⟨n2,r2,p2,_⟩:=I.list q2;obtain⟨u1,k1,t1⟩:=r1.get e1;obtain⟨u2,k2,t2⟩:=r2.get e2;refine LY D gz gI gO h1 h2 p1.isList p2.isList (x:=u1) (y:=u2) (by simpa using k1) (by simpa using k2) λh' a1 a2 a3 a4 a5 a6 kp=>?_
  refine⟨_,rfl,?_⟩;refine wpAny_letOwnedTupleGo_zip (s:={s with heap:=h' }) a1 λhN b1 sb=>?_
  have nz:s.heap.objs.size≠z:=Io (EY gz);have tri:Ju hN s.heap.objs.size u1 u2:=(sb.2 _ nz).trans a5;have fresh:H s.heap.objs.size=none:=I.hok.fresh (EU _)
  have nf:s.heap.objs.size ∉ [z,TI,TO,i1,i2]:=λhb=>by
   have key:∀{d o},s.heap.get? d=some o->s.heap.objs.size≠d:=λe=>Io (EY e)
   have li:∀{it l k},s.heap.IsListIter it l k->s.heap.objs.size≠it:=λq=>by obtain⟨o,e,_⟩:=q;exact key e
   simp only[EO,Fo,or_false]at hb;rcases hb with e |e |e |e |e
   ·exact key gz e
   ·exact key gI e
   ·exact key gO e
   ·exact li h1 e
   ·exact li h2 e
  refine⟨.ref s.heap.objs.size,upd H s.heap.objs.size (.tup [x,y]),zV (s:=s) (h':=hN) (t':=s.toks) I hf (λd o hd e=>?_) (EU _) ⟨by show 2<=sizeLine;decide,[u1,u2],.cons t1 (.cons t2 .nil),⟨_,tri,rfl,_,rfl⟩⟩,rfl,
   ⟨_,x,y,rfl,fresh,rfl,λzs q=>by rw[I.list_inj q q1];exact e1,λzs q=>by rw[I.list_inj q q2];exact e2⟩,?_,λd hd=>?_⟩
  ·simp only[EO,Fo,or_false,not_or]at hd;obtain⟨d1,d2,d3,d4,d5⟩:=hd;exact (sb.2 d d1).trans (kp d o d1 d3 d4 d5 e)
  ·have up:∀d o,d≠z->h'.get? d=some o->hN.get? d=some o:=λd o n e=>(sb.2 d n).trans e
   exact⟨b1,up _ _ D.TIz (kp _ _ D.TIz D.TITO D.TIi1 D.TIi2 gI),⟨_,_,up _ _ D.TOz a2⟩,a3.at λo e=>up _ o D.i1z e,a4.at λo e=>up _ o D.i2z e⟩
  ·rw[aT λe=>nf (by rw[<-e];exact hd)]
   exact (hf d hd).1
 done:=by
  intro X hP hw hK hc i pins s σ H E I hf st hg;subst hP hw hK;obtain⟨gz,gI,⟨a,b,gO⟩,h1,h2⟩:=st;obtain⟨xs,ys,q1,q2,hl⟩:=hg;obtain⟨n1,r1,p1,_⟩:=I.list q1;obtain⟨n2,r2,p2,_⟩:=I.list q2;have e1:=r1.length;refine Md (I.ok.hd hc) D gz gI gO h1 h2 p1.isList p2.isList (.inl (by simp;lia)) λh' kp=>⟨rfl,zd (t':=s.toks) I hf λd o hd e=>?_⟩
  simp only[EO,Fo,or_false,not_or]at hd;exact kp d o (by simp_all) (by simp_all) (by simp_all) (by simp_all) e
 self:=λ_ _ _ _ _ st h=>Nh st.1 h
variable {PV:List Hc}
section
variable {X:Cx}{ps:PSt}{e f g tg iter:Expr}{p:Pos}{x y z:U}{ys zs:List U}
def gH:List U->List U->List U
 |x::xs,y::ys=>.tup [x,y]::gH xs ys
 |_,_=>[]
theorem lv:∀{xs ys:List U},xs.length=ys.length->(gH xs ys).length=xs.length
 |[],_,_=>by simp[gH]
 |_::xs,_::ys,h1=>by simp only[gH,FN]at *;rw[lv (by lia)]
theorem oX:∀{xs ys:List U}{i:Nat}{a b:U},xs[i]?=some a->ys[i]?=some b->(gH xs ys)[i]?=some (.tup [a,b])
 |_::xs,_::ys,0,a,b,h1,h2=>by simp at h1 h2;simp[gH,h1,h2]
 |_::xs,_::ys,i+1,a,b,h1,h2=>by rw[Ht]at h1 h2;rw[gH,Ht];exact oX h1 h2
theorem Ca{ctx RQ}(hg:Gl X "zip")(hm:X.mg "zip"=none)(ha:Ev X H0 O0 ps e x)(hx:x=.lst xs∨x=.scr xs)(hb:Ev X H0 O0 ps f y)(hy:y=.lst ys∨y=.scr ys)
  (l12:xs.length=ys.length) (he:EZ [e,f] X.env=(false,HY e X.env)::EZ [f] X.env) (hf:EZ [f] X.env=(false,HY f X.env)::EZ [] X.env):
  EvZ X H0 O0 ps (.Tuple es ctx RQ) (.Call (.Name "zip" p) [e,f] [] pos) (gH xs ys):=by
 rintro pins s σ H Q I ⟨O,R,q⟩;refine Gi (cJ I hg hm pT ?_)
 refine callWith_type1 (thn (c_ ha (c_ hb fS hf) he pos pins s σ H (λvs H1=>∃v u,vs=[v,u]/\aK H H1/\Rp X.K (hid H1 O) v x/\Rp X.K (hid H1 O) u y) I
  ⟨O,R,λv H1 s1 r1=>⟨O,R.go s1,λu H2 s2 r2=>⟨v,u,rfl,s1.trans s2,r1.same (aM s2),r2⟩⟩⟩) λus s1 QY=>?_) he (by rw[hf];rfl)
 obtain⟨vs,H1,I1,rv,v,u,rfl,sm,rp1,rp2⟩:=QY;obtain⟨w1,w2,rfl,ru1,ru2⟩:=iE rv;obtain⟨a,va,rfl,Rf,rs1⟩:=uI rp1 hx;obtain⟨b,vb,rfl,PY,rs2⟩:=uI rp2 hy;cases ru1;cases ru2;obtain⟨ia,ra,Qh,hz1⟩:=I1.list (aC.seq Rf);obtain⟨ib,rb,PJ,hz2⟩:=I1.list (aC.seq PY);have l1:=rs1.len;have l2:=rs2.len;have al:@LT.lt Nat instLTNat a s1.heap.objs.size:=by obtain⟨o,ho,_⟩:=Qh.isList;exact EY ho
 have bl:@LT.lt Nat instLTNat b s1.heap.objs.size:=by obtain⟨o,ho,_⟩:=PJ.isList;exact EY ho
 refine call_zip_2 Qh.isList PJ.isList λh' g1 g2 g3 g4 g5 g7 g8=>?_
 have D:IZ (s1.heap.objs.size+4) (s1.heap.objs.size+2) (s1.heap.objs.size+3) s1.heap.objs.size (s1.heap.objs.size+1) a b:=by constructor <;>exact uT (by lia)
 refine Nh (s:={s1 with heap:=h' }) g1 ?_
 have I2:Inv X pins σ H1 {s1 with heap:=h' }:=I1.kept (t':=s1.toks) g8
 refine⟨s1.heap.objs.size+4,_,_,_,H1,rfl,I2,zK _ _ _ _ _ a b D,⟨g1,g2,⟨_,_,g3⟩,g4,g5⟩,λd hd=>?_,q _ H1 sm λH2 s2=>?_⟩
 ·have ge:s1.heap.objs.size<=d:=by
   simp only[EO,Fo,or_false]at hd;rcases hd with e |e |e |e |e <;>rw[e] <;>first |exact Nat.le_add_right _ _ |exact EU _
  exact I1.fpOk ge (I1.hok.fresh ge)
 ·rw[lv l12];refine⟨λi hi=>?_,⟨va,vb,s2.seq Rf,s2.seq PY,by lia⟩⟩
  have h1:i<va.length:=by lia
  have h2:i<vb.length:=by lia
  refine⟨⟨va,vb,va[i],vb[i],s2.seq Rf,s2.seq PY,EG h1,EG h2⟩,?_⟩;rintro _ H3 ⟨pp,x1,y1,rfl,nn,rfl,e1,e2⟩;have sm2:aK H2 (upd H2 pp (.tup [x1,y1])):=aN nn _;have m1:xs[i]?=some (xs[i]'(by lia)):=EG (by lia)
  have m2:ys[i]?=some (ys[i]'(by lia)):=EG (by lia)
  refine⟨sm2,_,oX m1 m2,λO2 hO sG=>?_⟩
  have all:Rps X.K (hid (upd H2 pp (.tup [x1,y1])) O2) [x1,y1] [_,_]:=
   .cons ((rs1.at_ i _ _ (e1 _ (s2.seq Rf)) m1).same (sG.trans (aM sm2))) (.cons ((rs2.at_ i _ _ (e2 _ (s2.seq PY)) m2).same (sG.trans (aM sm2))) .nil)
  exact .tup (SqT.of (c9 aL λhp=>hO pp hp nn)) all.len all.at_
theorem qB{is:List Nat}{g:TG}{f:PSt->U->PSt}{dom:U->Prop}{σ:St}{H1:Hp}{O:List EX}{Q:VK}{J:It}{te:TE}(hg:GOk g X.K is f dom)(R1:Rs X.K H0 O0 ps σ H1 O)(Y:Yz X.K J (hid H1 O) xs)(Pm:ys.length=xs.length)(hz:xs.length<=sizeLine)(Qt:∀x∈xs,dom x)
  (Rg:∀(i:Nat) (x y:U) (σ:St) (H:Hp) (O':List EX) (Q:VK),xs[i]?=some x->ys[i]?=some y->Rs X.K H0 O0 (f (dP is ps) x) σ H O'->(∀v H',aK H H'->Rp X.K (hid H' O') v y->Q v H')->te σ H Q)
  (PF:∀a vs H',aK H1 H'->H1 a=none->H' a=some (.lst vs)->Rps X.K (hid H' (a::O)) vs ys->Q (.ref a) H'):t_ is g te σ Q J H1:=by
 intro l hl;refine⟨λi m H2=>m=xs.length-i/\i<=xs.length/\aK H1 H2/\∃vs,H2 l=some (.lst vs)/\vs.length=i/\Rps X.K (hid H2 (l::O)) vs (ys.take i),⟨_,rfl,FU _,aN hl _,[],aL,rfl,by rw[Ku];exact .nil⟩,?_⟩
 rintro i m H2 ⟨rfl,hi,s2,vs,h2,hv,rs⟩;have seen:aK (hid H1 O) (hid H2 (l::O)):=bD s2 hl;obtain⟨y1,y2⟩:=Y H2 (seen.trans aC);by_cases Pq:i<xs.length
 ·obtain⟨g1,g2⟩:=y1 i Pq;refine .inr ⟨g1,λx H3 y=>?_⟩
  obtain⟨s3,u,hu,r⟩:=g2 x H3 y;have R2:=((R1.mask (is:=is)).hide s2 hl (by rw[h2];intro z;cases z)).go s3
  have h3:=s3 _ _ h2;refine hg H0 O0 _ _ H3 (l::O) x u _ (Qt u (E5 hu)) R2 (r (l::O) (λb hb z=>by rcases EO.mp hb with k |k;(rw[k,h2]at z;cases z);exact R1.dom b k (s2.free z)) seen) λRb R4 keep=>?_
  have hy:ys[i]?=some (ys[i]'(by lia)):=EG _
  refine Rg i u _ Rb H3 (l::O) _ hu hy R4 λv H5 s5 r5=>⟨λj w e=>keep j w (gr is σ j w e).2 e,vs,s5 _ _ h3,?_,xs.length-(i+1),by lia,rfl,Pq,((s2.trans s3).trans s5).put hl _,vs++[v],aL,by simp[hv],?_⟩
  ·rw[hv];lia
  ·rw[jz ET,He,hy];exact ((rs.same (aM s3)).same (aM s5)).snoc (.cons r5 .nil)
 ·have e:i=xs.length:=by lia
  subst e;rw[<-Pm,G5]at rs;exact .inl ⟨y2,PF l vs H2 s2 hl h2 rs⟩
theorem rK{P5:Expr}{Ph:Js}{cl:List (Str×EX)}{QJ py:Pos}{y:Str}{j:Nat}{is:List Nat}{g:TG}{f:PSt->U->PSt}{dom:U->Prop}(own:Bool)(hc:X.calm=true)(hN:X.N.Nodup)(hj:X.N[j]?=some y)(hy:Loc X.env.scope y)(B:cS X Ph cl is)
  (hi:EvZ X H0 O0 ps tg iter xs) (hg:∀C s H fp,PG (aE X Ph cl C s H fp) tg g) (gk:GOk g X.K is f dom) (Pm:ys.length=xs.length) (hz:xs.length<=sizeLine) (Qt:∀x∈xs,dom x)
  (he:∀C s H fp (i:Nat) (x y:U),xs[i]?=some x->ys[i]?=some y->Ev (aE X Ph cl C s H fp) H0 O0 (f (dP is ps) x) P5 y) (h:D.nx (ps.set j (some (if own then .own ys else .val (.lst ys)))))
  (hs:∀x,Gf iter X.env x=pure x:=by intro _;rfl)
  (hsw:IS (.ListComp P5 [⟨tg,iter,[],0⟩] Ph pos) (some (.Name y py)) QJ.line X.env=pure true:=by rfl) (hf:X.fn y=true\/X.env.scope.names.lookup y=some .local:=by first |exact .inl rfl |exact .inr rfl |assumption):
  W1 X H0 O0 E (.Assign [.Name y py] (.ListComp P5 [⟨tg,iter,[],0⟩] Ph pos) QJ) D ps:=by
 have Rg:∀C s H fp,PE (aE X Ph cl C s H fp) P5 λσ H Q=>∃i x y,xs[i]?=some x/\ys[i]?=some y/\∃O',Rs X.K H0 O0 (f (dP is ps) x) σ H O'/\∀v H',aK H H'->Rp X.K (hid H' O') v y->Q v H':=
  λC s H fp pins s' σ H' Q I ⟨i,x,y,h1,h2,z⟩=>he C s H fp i x y h1 h2 pins s' σ H' Q I z
 refine PS.mono (jZ hc hN hj hy B hi hg Rg hs hsw hf) λD' σ H ⟨L,O,R⟩=>⟨O,R,λJ H1 s1 Y=>?_⟩
 refine qB gk (R.go s1) Y Pm hz Qt (λi x y σ H O' Q h1 h2 R' z=>⟨i,x,y,h1,h2,O',R',z⟩) λa vs H' s n h' r=>?_
 cases own with
 |true=>exact L.nx _ _ _ _ ((R.go s1).own s n h' r) h
 |false=>
  have na:a ∉ O:=λz=>(R.go s1).dom a z n
  have r':=r.same (eJ λb hb=>EJ a hb)
  exact L.nx _ _ _ _ (((R.go s1).go s).set (.lst (c9 h' na) r'.len r'.at_)) h
variable {n nm t:Str}{vs:List (Str×Str)}
end
structure ED(P:EW)(w:Fl)(K:EI)(mg:Str->Option EN)(base:GD)(CX:CXT)(k:Nat)(f:EX)(fd:F5)(ps:List Str)(sp:Sp):Prop where
 len:∀vs H Q E,sp vs H Q E->vs.length=ps.length
 run:∀(A:Fm) (outer:List Env) (s:EL) (H:Hp) (args:Args) (us:List EN) (vs:List V) (Q:VK) (E:XK),1<=s.toks->eH k A->xU P w K mg base A outer s H->MP s fd args (ps.zip us)->aU vs us->sp vs H Q E->
  Ip (FE P w) A (.call (.ref f) args) (CR CX outer P w H s Q E) s
section
variable {X:Cx}{CX:CXT}{k:Nat}{f:EX}{ps:List Str}{sp:Sp}{RR:List V}{ds:List EN}{x m:Str}{p:Pos}{e:Expr}{ta te:TE}{t:TA}{st:Hc}{rest:List Hc}{tS u:TS}
variable {tg:Expr}
variable {to:TE}{name:Str}{T id:String}{r:V→List V→Hp→VK→Prop}
end
section
variable {X:Cx}{ps P6:PSt}{s:Hc}{ss:List Hc}{a b c e:Expr}{p:Pos}{x y:U}{ys:List U}{n:Nat}{CX:CXT}{f d':EX}{PR:List U→Out→Prop}{nm:Str}
end
section
variable {mg:Str→Option EN}{base:GD}{N:List Str}{nm:Str}{Ph:Js}{f:EX}{cd:EN}{A:Fm}{outer:List Env}{ps:PSt}
end
theorem oo{X:Cx}{H0:Hp}{O0:List EX}{ps:PSt}{e:Expr}{u u':U}(h:u=u')(t:Ev X H0 O0 ps e u):Ev X H0 O0 ps e u':=h ▸ t
end L2
namespace L2
open PySem PySem.Spec PySem.W PyProof.Rows
structure Dfn(K:EI)(mg:Str->Option EN)(x:Str)(st:Hc)(ps:List Str) where
 a:EX
 d:F5
 F:Fun K x x st a d
 b:dF K d ps []
 m:mg x=some (.ref a)
structure DfD(K:EI)(mg:Str->Option EN)(x:Str)(st:Hc)(ps:List Str)(j:Int) where
 a:EX
 d:F5
 D:EX
 F:wm K x x st a d D
 b:dF K d ps []
 bd:∃t,dF K d ps [.int j t]
 m:mg x=some (.ref a)
structure MDf(K:EI)(C:EX)(x q:Str)(st:Hc)(ps:List Str) where
 a:EX
 d:F5
 F:Fun K x q st a d
 b:dF K d ps []
 m:Ey K C x a
structure IDf(K:EI)(C:EX)(x q:Str)(st:Hc)(ps:List Str) where
 a:EX
 d:F5
 F:Fun K x q st a d
 b:dF K d ps []
 m:Mk K C a
structure Exn(mg:Str->Option EN)(x:Str) where
 c:EX
 m:mg x=some (.ref c)
abbrev Bw(x q:Str)(st:Hc)(ps:List Str):Prop:=∀(kV Qp pm:EN) (an:Option EX) (Pp ct:EN) (us:List EN),us.length=ps.length->JL (fnOf x q (cj st) (bN st) (ak st) .none kV Qp pm an Pp ct) ⟨us,[]⟩=pure (ps.zip us)
section
variable {K:EI}{h:GD}{mg:Str→Option EN}{x q:Str}{st:Hc}{ps:List Str}{f C D:EX}{j:Int}{oc:EN}{od an:Option EX}{kV dc pm cd ct:EN}{sl:Array (Option EN)}{x1 x2 x3 t:_}
def dfn(X:K.In h)(G:h.Ns GP mg)(hb:Bw x x st ps)(a:nsIn K GP x=some (some (.ref f)))(l:K.lookup f=some ⟨oc,od,.func (fnOf x x (cj st) (bN st) (ak st) .none kV dc pm an cd ct),sl⟩)(c:codeIn K cd x=true)(k:keepIn K (.ref f)=true):Dfn K mg x st ps:=⟨f,_,vL l c k,(vL l c k).binds hb,mg_of X G a⟩
def dfD(X:K.In h)(G:h.Ns GP mg)(hb:K.lookup D=some ⟨.type "tuple",x1,.seq #[.int j t] x2,x3⟩→∀(kV dc pm:EN) (an:Option EX) (cd ct:EN),dF K (fnOf x x (cj st) (bN st) (ak st) (.ref D) kV dc pm an cd ct) ps []∧∃t,dF K (fnOf x x (cj st) (bN st) (ak st) (.ref D) kV dc pm an cd ct) ps [.int j t])(a:nsIn K GP x=some (some (.ref f)))(l:K.lookup f=some ⟨oc,od,.func (fnOf x x (cj st) (bN st) (ak st) (.ref D) kV dc pm an cd ct),sl⟩)(c:codeIn K cd x=true)(k:keepIn K (.ref f)=true)(q:K.lookup D=some ⟨.type "tuple",x1,.seq #[.int j t] x2,x3⟩):DfD K mg x st ps j:=⟨f,_,D,zW l c k,(hb q kV dc pm an cd ct).1,(hb q kV dc pm an cd ct).2,mg_of X G a⟩
def exn(X:K.In h)(G:h.Ns GP mg)(a:nsIn K GP x=some (some (.ref f))):Exn mg x:=⟨f,mg_of X G a⟩
theorem g_i{t:_}(X:K.In h)(G:h.Ns GP mg)(a:nsIn K GP x=some (some (.int j t))):∃t,mg x=some (.int j t):=⟨t,mg_of X G a⟩
end
end L2
namespace SG
open PySem PySem.W PySem.Calls PyProof.Rows ST
abbrev rfs{α:Type}(pb:List (α×EX)):List EN:=pb.map λp=>Fs p.2
structure Ky(α:Type) where
 lt:α->α->Bool
 tr:∀{a b c:α},lt a b=true->lt b c=true->lt a c=true
 tot:∀{a b:α},a≠b->lt a b=false->lt b a=true
 asy:∀{a b:α},lt a b=true->lt b a=false
 is:EW->Fl->GD->α->EX->Prop
 kd:IH
 grow:∀{prog:EW}{w:Fl}{h h':GD}{a:α}{b:EX},is prog w h a b→(∀b o,o.cls=.type "tuple"→h.get? b=some o→h'.get? b=some o)→is prog w h' a b
 ask:∀{prog:EW}{w:Fl}{A:Fm}{E:EN->EL->Prop}{s:EL}{x y:EX}{a b:α}{Q:Bool->EL->Prop},A.units+1<H_->is prog w s.heap a x->is prog w s.heap b y->Q (lt a b) s->Ff (FE prog w) A (keyLt' kd (.ref x) (.ref y)) Q E s
 kind:∀{prog:EW}{w:Fl}{A:Fm}{E:EN->EL->Prop}{s:EL}{pb:List (α×EX)}{Q:IH->EL->Prop},(∀p∈pb,is prog w s.heap p.1 p.2)->0<pb.length->Q kd s->Ff (FE prog w) A (OC (rfs pb).toArray) Q E s
section
variable {α:Type} [DecidableEq α] (S:Ky α)
def ins(x:α):List α->List α
 |[]=>[x]
 |y::r=>if x=y then y::r else if S.lt x y=true then x::y::r else y::ins x r
def srt(l:List α):List α:=l.foldr (ins S) []
theorem ins_mem(x z:α):∀l,z∈ins S x l↔z=x\/z∈l
 |[]=>by simp[ins]
 |y::r=>by
  unfold ins;split
  ·rename_i h;subst h;simp
  ·split
   ·simp
   ·rw[EO,ins_mem x z r,EO];grind
abbrev Asc(l:List α):Prop:=l.Pairwise (λx y=>S.lt x y=true)
theorem ins_asc(x:α):∀l,Asc S l->Asc S (ins S x l)
 |[],_=>by simp[ins]
 |y::r,h=>by
  unfold ins;split
  ·exact h
  ·rename_i Pn
   obtain⟨h1,h2⟩:=Fi.mp h;split
   ·rename_i Pq
    refine Fi.mpr ⟨λz hz=>?_,h⟩
    rcases EO.mp hz with e |e
    ·rw[e];exact Pq
    ·exact S.tr Pq (h1 z e)
   ·rename_i Pq
    refine Fi.mpr ⟨λz hz=>?_,ins_asc x r h2⟩
    rcases (ins_mem S x z r).mp hz with e |e
    ·rw[e];exact S.tot Pn (by simpa using Pq)
    ·exact h1 z e
theorem srt_mem(z:α):∀l,z∈srt S l↔z∈l
 |[]=>by simp[srt]
 |y::r=>by
  show z∈ins S y (srt S r)↔_;rw[ins_mem,srt_mem z r,EO]
theorem srt_asc:∀l,Asc S (srt S l)
 |[]=>IF
 |y::r=>ins_asc S y (srt S r) (srt_asc r)
omit [DecidableEq α] in
theorem irr(a:α):S.lt a a=false:=by
 cases h:S.lt a a with
 |false=>rfl
 |true=>rw[S.asy h]at h;cases h
omit [DecidableEq α] in
theorem asc_one:∀{l m:List α},Asc S l->Asc S m->(∀z,z∈l↔z∈m)->l=m
 |[],[],_,_,_=>rfl
 |[],y::r,_,_,h=>by have:=(h y).mpr ET;simp at this
 |x::l,[],_,_,h=>by have:=(h x).mp ET;simp at this
 |x::l,y::m,hl,hm,h=>by
  obtain⟨a1,a2⟩:=Fi.mp hl;obtain⟨b1,b2⟩:=Fi.mp hm
  have e:x=y:=by
   rcases EO.mp ((h x).mp ET) with z |z
   ·exact z
   ·rcases EO.mp ((h y).mpr ET) with z' |z'
    ·exact z'.symm
    ·have:=S.asy (b1 x z);rw[a1 y z']at this;cases this
  subst e;congr 1;refine asc_one a2 b2 λz=>⟨λhz=>?_,λhz=>?_⟩
  ·rcases EO.mp ((h z).mp (EJ _ hz)) with e |e
   ·have:=a1 z hz;rw[e,irr]at this;cases this
   ·exact e
  ·rcases EO.mp ((h z).mpr (EJ _ hz)) with e |e
   ·have:=b1 z hz;rw[e,irr]at this;cases this
   ·exact e
end
section
variable {α:Type} (S:Ky α) {prog:EW}{w:Fl}{A:Fm}{E:EN→EL→Prop}{s:EL}
theorem Aw(pb:List (α×EX))(d0:α×EX):(Fz pb.length).map (λi=>pb.getD i d0)=pb:=by
 apply Nc
 ·simp
 ·intro i h1 h2;simp at h1;simp[h1]
include S
theorem Ci{a:EX}{pb:List (α×EX)}{n:Nat}{P:NC→EL→Prop}(ho:s.heap.get? a=some (Ko "list" (rfs pb).toArray n))(QE:∀p∈pb,S.is prog w s.heap p.1 p.2)(hu:A.units+1<H_)(d0:α×EX)(QX:(pb.map (·.1)).Nodup)(h64:pb.length<64)
  (h:∀P8:List (α×EX),P8.Perm pb->(P8.map (·.1)).Pairwise (λx y=>S.lt x y=true)->P (.done (.ret .none)) {s with heap:=sortedHeap s.heap a (rfs pb) (rfs P8).toArray }):
  Ff (FE prog w) A (Builtin.«list.sort» ⟨[.ref a],[]⟩) P E s:=by
 have RV:(rfs pb).length=pb.length:=by simp
 have Rh:(rfs pb).toArray.size=pb.length:=by simp
 rw[ND];have ha:a<s.heap.objs.size:=EY ho;refine EF (listItems_at ho rfl (EF (Jo ho rfl ?_ (by rw[Rh,Gg];lia) (FU _))))
 obtain⟨e1,ho1⟩:∃e1,(s.heap.update a (F1 λ_=>(#[]:Array EN))).get? a=some (Ko "list" #[] e1):=⟨_,NF ho (λ_=>#[])⟩
 refine EF (Ka ho1 rfl (EF (Mm ?_ (by show (rfs pb).length<=_;rw[RV,Gg];lia))))
 refine EF (K9 ?_ (FU _));refine F7 ?_;generalize hh6:((s.heap.update a (F1 λ_=>(#[]:Array EN))).push (Ko "tuple" (rfs pb).toArray 0)).push (Ko "list" #[] 0)=h6
 have old6:∀b o,b≠a->s.heap.get? b=some o->h6.get? b=some o:=λb o hb e=>by
  rw[<-hh6];exact EK _ (EK _ ((Fg _ _ (Ne.symm hb)).trans e))
 have RW:h6.get? a=some (Ko "list" #[] e1):=by rw[←hh6];exact EK _ (EK _ ho1)
 have tk6:∀p∈pb,S.is prog w h6 p.1 p.2:=λp hp=>by
  refine S.grow (QE p hp) λb o hc e=>old6 b o (λz=>?_) e
  rw[z,ho]at e;cases e;exact absurd hc (by show ¬ (Gd "list"=Gd "tuple");decide)
 have PF:∀P8:List (α×EX),P8.Perm pb->(P8.map (·.1)).Pairwise (λx y=>S.lt x y=true)->P (.done (.ret .none)) {s with heap:=h6.update a (F1 λ_=>(rfs P8).toArray) }:=λP8 p1 p2=>by
  rw[<-hh6];exact h P8 p1 p2
 show Ff (FE prog w) A _ P E {s with heap:=h6 }
 dsimp only;by_cases h2:(rfs pb).toArray.size<2
 ·rw[if_pos h2,if_pos h2];refine EF (EM ?_);rw[StateT.run_pure];refine EF (EM ?_);dsimp only
  have eout:(arrOf (SortSt.mk' general' ((rfs pb).toArray.zip (rfs pb).toArray) #[] 7 none)).map (·.2)=(rfs pb).toArray:=by
   show (((rfs pb).toArray.zip (rfs pb).toArray)).map (·.2)=_;apply Lp.mp
   have zip2:∀l:List EN,(l.zip l).map (·.2)=l:=λl=>by
    induction l with
    |nil=>rfl
    |cons x r ih=>rw[GI,E2,ih]
   rw[Lq,Nd];exact zip2 _
  rw[eout];refine EF (Ka RW rfl (EF (Jo RW rfl ?_ (FU _) (by rw[Rh,Gg];lia))))
  show Ff _ _ (if (e1 !=e1)=true then _ else _) _ _ _
  rw[if_neg (by simp)]
  refine EM (PF pb (Kv _) ?_)
  match pb,Rh,h2 with
  |[],_,_=>simp
  |[_],_,_=>simp
  |_::_::r,Rh,h2=>rw[Rh]at h2;exact absurd h2 (by simp)
 ·rw[if_neg h2,if_neg h2];rw[Rh]at h2;have h2':2<=(rfs pb).length:=by rw[RV];lia
  refine EF (S.kind (s:={s with heap:=h6 }) tk6 (by lia) ?_)
  have inj:∀i j,i<pb.length->j<pb.length->i≠j->(pb.getD i d0).1≠(pb.getD j d0).1:=λi j hi hj Qi e=>by
   refine Qi ((JV (xs:=pb.map (·.1)) (h₀:=by simpa using hi) (h₁:=by simpa using hj) QX).mp ?_)
   simpa [hi,hj] using e
  have O:LtO pb.length (λi j=>S.lt (pb.getD i d0).1 (pb.getD j d0).1):=⟨λi j k=>S.tr,λi j hi hj Qi=>S.tot (inj i j hi hj Qi),λi j=>S.asy⟩
  obtain⟨p,R,Ri,SS⟩:=pA O (by lia)
  have hcmp:∀i j C,i<pb.length->j<pb.length->C (S.lt (pb.getD i d0).1 (pb.getD j d0).1) {s with heap:=h6 }->kas_ask prog w A (S.kd) (rfs pb) i j C {s with heap:=h6 }:=λi j C hi hj c=>by
   unfold kas_ask;have ei:(rfs pb).getD i Fj=.ref (pb.getD i d0).2:=by simp[hi]
   have ej:(rfs pb).getD j Fj=.ref (pb.getD j d0).2:=by simp[hj]
   rw[ei,ej];have mi:pb.getD i d0∈pb:=by simp[hi]
   have mj:pb.getD j d0∈pb:=by simp[hj]
   exact S.ask (s:={s with heap:=h6 }) hu (tk6 _ mi) (tk6 _ mj) c
  have tree:(kas_sort (rfs pb).length).kasWp (kas_ask prog w A (S.kd) (rfs pb)) (λp' s'=>p'=p/\s'={s with heap:=h6 }) {s with heap:=h6 }:=by
   rw[RV];exact R.wp hcmp ⟨rfl,rfl⟩
  refine EF (HJ (kat_run (Q:=λQa s'=>s'={s with heap:=h6 }/\failedOf Qa=none/\(arrOf Qa).map (·.2)=M6 (p.toList.map λi=>(rfs pb).getD i Fj)) rfl h2' (by rw[RV];exact h64) (λp' Qa s' _ a2 a3 a4=>?_) tree) ?_ λ_ _ e=>e)
  ·obtain⟨rfl,rfl⟩:=a4;exact⟨rfl,a3,kat_snds rfl a2⟩
  ·rintro ⟨⟨⟩,Qa⟩ s' ⟨rfl,hf,hout⟩;dsimp only;rw[hout];have Pq:∀i∈p.toList,i<pb.length:=λi hi=>Fk.mp (Ri.perm.mem_iff.mp hi)
   have er:(p.toList.map λi=>(rfs pb).getD i Fj)=rfs (p.toList.map λi=>pb.getD i d0):=by
    unfold rfs;rw[Fh];refine GR λi hi=>?_
    have:=Pq i hi;simp[this]
   rw[er]
   have RA:(p.toList.map λi=>pb.getD i d0).Perm pb:=by
    refine (Ri.perm.map _).trans ?_;rw[Aw]
   have Qy:(rfs (p.toList.map λi=>pb.getD i d0)).toArray.size=pb.length:=by simp[Ri.size]
   refine EF (Ka RW rfl (EF (Jo RW rfl ?_ (FU _) (by rw[Qy,Gg];lia))))
   rw[hf];show Ff _ _ (if (e1 !=e1)=true then _ else _) _ _ _
   rw[if_neg (by simp)]
   refine EM (PF _ RA ?_);rw[Fh,FF,FG];intro i j hi hj Qi;have RB:j<pb.length:=by rw[E6,Ri.size]at hj;exact hj
   have q:=SS i j Qi RB;have ei:g p i=p.toList[i]:=by simp[g,Ha,Ri.size,show i<pb.length by lia]
   have ej:g p j=p.toList[j]:=by simp[g,Ha,Ri.size,RB]
   rw[ei,ej]at q;exact q
theorem call_g{l:EX}{pb:List (α×EX)}{Q:EN->EL->Prop}(hl:s.heap.IsList l (rfs pb).toArray)(QE:∀p∈pb,S.is prog w s.heap p.1 p.2)(hu:A.units+5<H_)(d0:α×EX)(QX:(pb.map (·.1)).Nodup)(h64:pb.length<64)
  (h:∀(h1 h':GD) (tk:Nat) (P8:List (α×EX)) (e:Nat),P8.Perm pb→(P8.map (·.1)).Pairwise (λx y=>S.lt x y=true)→(∀c o,s.heap.get? c=some o→h1.get? c=some o)→(∀c o,h1.get? c=some o→h'.get? c=some o)→h'.get? h1.objs.size=some (Ko "list" (rfs P8).toArray e)→Q (.ref h1.objs.size) {s with heap:=h',toks:=tk }):
  Ff (FE prog w) A (call (.builtin "sorted") [.ref l]) Q E s:=by
 have hrl:(rfs pb).length=pb.length:=by simp
 refine Calls.call_function_entry kind_sorted plain_sorted entry_sorted (args_sorted1 _) ?_;unfold Builtin.«sorted»;refine EF (m:=checkCount "sorted" 1 1 _) (EM ?_);refine EF (collect_list hl ?_ (by rw[hrl,Gg];lia))
 refine EF (K9 ?_ (by rw[hrl,Gg];lia))
 generalize hg:(s.heap.push (Ko "list" #[] 0)).update s.heap.objs.size (F1 (·++(rfs pb).toArray))=h1
 have keep:∀c o,s.heap.get? c=some o->h1.get? c=some o:=λc o e=>by
  rw[<-hg,Fg _ _ (Io (EY e))];exact EK _ e
 have hD:(h1.push {cls:=.type "list",data:=.seq (rfs pb).toArray }).get? h1.objs.size=some (Ko "list" (rfs pb).toArray 0):=E3 _ rfl
 have up:∀p∈pb,S.is prog w (h1.push {cls:=.type "list",data:=.seq (rfs pb).toArray }) p.1 p.2:=λp hp=>by
  exact S.grow (QE p hp) λb o _ e=>EK _ (keep _ _ e)
 refine EF (F7 (Gc N2 ⟨_,hD,rfl⟩ NH ?_ (N3 _)));refine Ci S (s:={s with heap:=h1.push {cls:=.type "list",data:=.seq (rfs pb).toArray } }) hD up (by show A.units+1+1+1<H_;lia) d0 QX h64 λP8 pp so=>⟨_,rfl,EM ⟨_,rfl,?_⟩⟩
 obtain⟨e,eD⟩:=sortedHeap_at (out:=(rfs P8).toArray) hD;refine h h1 _ s.toks P8 e pp so keep (λc o hb=>?_) eD
 have Pq:=EY hb;rw[N4 (Ft Pq) (by rw[GM];exact GV Pq)]
 exact EK _ hb
end
end SG
namespace L2
open PySem PySem.Spec PyProof.Rows
section
variable {X:Cx}{H0:Hp}{O0:List EX}{ps:PSt}{e:Expr}{pos p:Pos}
theorem mW{α:Type}[DecidableEq α](S:SG.Ky α)(uf:α→U)(t0:α){trs:List α}(Qx:∀{pins:List (EX×Obj)}{σ:St}{H:Hp}{s:EL}{z:V}{u:EN}{a:α},Inv X pins σ H s→Rp X.K H z (uf a)→bi z u→∃b,z=.ref b∧u=.ref b∧S.is X.prog X.w s.heap a b)(hg:Gl X "sorted")(hm:X.mg "sorted"=none)(hu:X.A.units+10<H_)(ha:Ev X H0 O0 ps e (.lst (trs.map uf)))(hl:trs.length<64∧trs.Nodup)
  (he:EZ [e] X.env=(false,HY e X.env)::EZ [] X.env:=by rfl):EvN X H0 O0 ps (.Call (.Name "sorted" p) [e] [] pos) ((SG.srt S trs).map uf):=by
 obtain⟨hl,hn⟩:=hl;rintro pins s σ H Q I ⟨O,R,q⟩;refine Gi (cJ I hg hm boot_sorted ?_);refine callWith_builtin1 (e:=e) (rest:=[]) (thn (c_ ha fS he pos pins s σ H (λvs H1=>∃v,vs=[v]/\aK H H1/\Rp X.K (hid H1 O) v (.lst (trs.map uf))) I ⟨O,R,λv H1 s1 r1=>⟨v,rfl,s1,r1⟩⟩) λus s1 hx=>?_) he rfl
 obtain⟨vs,H1,I1,rv,v,rfl,sm,rp⟩:=hx;obtain⟨u,rfl,ru⟩:=ft rv;cases rp with
 | @lst a ws _ hq hwl hwi=>
  cases ru;obtain⟨Pj,Q3,pl,hz⟩:=I1.list (SqL.of (aC _ _ hq));have hlp:ws.length=trs.length:=by rw[hwl,EH]
  have Sw:Pj.length=trs.length:=by rw[<-Q3.length,hlp]
  have item:∀i,i<trs.length->∃b,Pj[i]?=some (.ref b)/\Rp X.K (hid H1 O) (.ref b) (uf (trs.getD i t0))/\S.is X.prog X.w s1.heap (trs.getD i t0) b:=λi hi=>by
   have hw:ws[i]?=some ws[i]:=EG (by lia)
   have hp:(trs.map uf)[i]?=some (uf (trs.getD i t0)):=by rw[ES,EG hi];simp[hi]
   have r:=hwi i _ _ hw hp;obtain⟨u',e1,e2⟩:=Q3.get hw;obtain⟨b,ez,rfl,tb⟩:=Qx I1 (r.same aC) e2;rw[ez]at r;exact⟨b,e1,r,tb⟩
  let ad:Nat->EX:=λi=>match Pj[i]? with |some (.ref b)=>b |_=>0
  have Sx:∀i,i<trs.length->Pj[i]?=some (.ref (ad i))/\Rp X.K (hid H1 O) (.ref (ad i)) (uf (trs.getD i t0))/\S.is X.prog X.w s1.heap (trs.getD i t0) (ad i):=λi hi=>by
   obtain⟨b,e1,e2,e3⟩:=item i hi;have:ad i=b:=by show (match Pj[i]? with |some (.ref b)=>b |_=>0)=b;rw[e1]
   rw[this];exact⟨e1,e2,e3⟩
  generalize ad=QH at Sx;clear ad;generalize RL:((Fz trs.length).map λi=>((trs.getD i t0,QH i):α×EX))=pb
  have hits:Pj=SG.rfs pb:=by
   apply HA;intro i;rw[<-RL];unfold SG.rfs;rcases GH i trs.length with z |z
   ·rw[(Sx i z).1];simp[z]
   ·rw[Fy (by lia),Fy (by simpa using z)]
  have h1p:pb.map (·.1)=trs:=by
   rw[<-RL,Fh];apply HA;intro i;rcases GH i trs.length with z |z
   ·simp[z]
   ·rw[Fy (by simpa using z),Fy z]
  have srcb:∀z∈pb,∃j,j<trs.length/\z=(trs.getD j t0,QH j):=λz hz=>by
   rw[<-RL]at hz;obtain⟨j,hj,rfl⟩:=ER.mp hz;exact⟨j,Fk.mp hj,rfl⟩
  have hbl:pb.length=trs.length:=by rw[<-h1p,EH]
  rw[hits]at pl;refine SG.call_g S (pb:=pb) pl.isList (λz hz=>?_) (by show X.A.units+5<H_;lia) (t0,0) (by rw[h1p];exact hn) (by lia) λh3 h4 tk2 P8 ep pm so k1 k2 hD=>?_
  ·obtain⟨j,hj,rfl⟩:=srcb z hz;exact (Sx j hj).2.2
  ·have I3:Inv X pins σ H1 {s1 with heap:=h3,toks:=tk2 }:=I1.kept (t':=tk2) k1
   have src:∀z∈P8,∃j,j<trs.length/\z=(trs.getD j t0,QH j):=λz hz=>srcb z (pm.mem_iff.mp hz)
   have etrs:P8.map (·.1)=SG.srt S trs:=by
    refine SG.asc_one S so (SG.srt_asc S trs) λz=>?_
    rw[SG.srt_mem,(pm.map (·.1)).mem_iff,h1p]
   have fr:H1 h3.objs.size=none:=I3.hok.fresh (EU _);refine⟨.ref h3.objs.size,upd H1 h3.objs.size (.lst (P8.map λz=>V.ref z.2)),?_,rfl,?_⟩
   ·refine I3.laid (t':=tk2) k2 (EU _) ⟨?_,(SG.rfs P8),ep,?_,hD⟩
    ·rw[EH,pm.length_eq,hbl,Gg];lia
    ·have all:∀l:List (α×EX),aU (l.map λz=>V.ref z.2) (SG.rfs l):=λl=>by
      induction l with
      |nil=>exact .nil
      |cons z r ih=>exact .cons rfl ih
     exact all P8
   ·refine q _ _ _ (sm.trans (aN fr _)) (sm.free fr) aL ⟨?_,λi z x e1 e2=>?_⟩
    ·rw[EH,<-etrs,EH,EH]
    ·rw[<-etrs,Fh,ES]at e2;rw[ES]at e1;cases hpi:P8[i]? with
     |none=>rw[hpi]at e1;cases e1
     |some y=>
      rw[hpi]at e1 e2;cases e1;cases e2;obtain⟨j,hj,rfl⟩:=src y (E5 hpi);exact (Sx j hj).2.1.same (bD (aN fr _) fr)
end
end L2
namespace ST3
open PySem PySem.W PySem.Calls PyProof.Rows ST
def KT:SG.Ky TR:=⟨ltT,Cn,zt,AR,TT,Kw false,λh e=>h.grow e,λhu h k q=>Cy hu h k q,λh k q=>v7 h k q⟩
abbrev PQ:=(Int×Int)×Int
def ltQ(a b:PQ):Bool:=if a.1=b.1 then decide (a.2<b.2) else ltP a.1 b.1
theorem BC{a b c:PQ}(h:ltQ a b=true)(k:ltQ b c=true):ltQ a c=true:=by
 unfold ltQ at *;by_cases h1:a.1=b.1
 ·rw[if_pos h1]at h;by_cases k1:b.1=c.1
  ·rw[if_pos k1]at k;rw[if_pos (h1.trans k1)];simp at *;lia
  ·rw[if_neg k1]at k;rw[if_neg (by rw[h1];exact k1),h1];exact k
 ·rw[if_neg h1]at h;by_cases k1:b.1=c.1
  ·rw[if_neg (by rw[<-k1];exact h1),<-k1];exact h
  ·rw[if_neg k1]at k;have t:=gW h k;rw[if_neg (λe=>by rw[e,ju]at t;cases t)];exact t
theorem Al{a b:PQ}(h:a≠b)(k:ltQ a b=false):ltQ b a=true:=by
 unfold ltQ at *;by_cases h1:a.1=b.1
 ·rw[if_pos h1]at k;rw[if_pos h1.symm];have:a.2≠b.2:=λe=>h (F8 h1 e)
  simp at *;lia
 ·rw[if_neg h1]at k;rw[if_neg (Ne.symm h1)];exact ltP_tot h1 k
theorem AK{a b:PQ}(h:ltQ a b=true):ltQ b a=false:=by
 unfold ltQ at *;by_cases h1:a.1=b.1
 ·rw[if_pos h1]at h;rw[if_pos h1.symm];simp at *;lia
 ·rw[if_neg h1]at h;rw[if_neg (Ne.symm h1)];exact fF h
section
variable {prog:EW}{w:Fl}{A:Fm}{E:EN→EL→Prop}{s:EL}
def TQ(prog:EW)(w:Fl)(h:GD)(t:PQ)(b:EX):Prop:=∃o items n a1 u,h.get? b=some o∧o.cls=.type "tuple"∧o.data=.seq items n∧items.toList=[.ref a1,.int t.2 u]∧TK prog w h (lq t.1) a1
theorem TQ.grow{h h':GD}{k:PQ}{b:EX}(x:TQ prog w h k b)(e:∀b o,o.cls=.type "tuple"→h.get? b=some o→h'.get? b=some o):TQ prog w h' k b:=by
 obtain⟨o,it,n,a1,u,h1,hc,h2,h3,h4⟩:=x;have up:∀{k:List Int}{a:EX},TK prog w h k a->TK prog w h' k a:=λ{k a} t=>by obtain⟨o,it,n,g1,gc,g2⟩:=t;exact⟨o,it,n,e _ _ gc g1,gc,g2⟩
 exact⟨o,it,n,a1,u,e _ _ hc h1,hc,h2,h3,up h4⟩
theorem CF(hu:A.units+1<H_){x y:EX}{a b:PQ}{Q:Bool->EL->Prop}(hx:TQ prog w s.heap a x)(hy:TQ prog w s.heap b y)(h:Q (ltQ a b) s):Ff (FE prog w) A (keyLt' (Kw false) (.ref x) (.ref y)) Q E s:=by
 obtain⟨o,Pj,n,a1,u,ho,_,hd,hi,t1⟩:=hx;obtain⟨o',its',n',b1,u',Qu,_,QF,Pu,u1⟩:=hy;refine kat_lt ho hd Qu QF ?_;rw[hi,Pu];unfold ltQ at h;refine kat_cons (HN (by lia) t1 u1 ?_)
 rw[mM];by_cases e1:a.1=b.1
 ·rw[decide_eq_true e1];rw[if_pos e1]at h;refine kat_yes (kat_cons ((JA prog w).eqBool (a:=a.2) (b:=b.2) (Gh _ _ _ _) (Gh _ _ _ _) ?_));by_cases e2:a.2=b.2
  ·rw[decide_eq_true e2];refine kat_yes (kat_nil ?_);rw[decide_eq_false (by lia)]at h
   have z2:decide (Pj.size<its'.size)=false:=by
    rw[<-E6,<-E6,hi,Pu];simp
   rw[z2];exact h
  ·rw[decide_eq_false e2];exact kat_no (kat_one _ _ (lt_int h))
 ·rw[decide_eq_false e1];rw[if_neg e1]at h;exact kat_no (kat_one _ _ (lt_ptsR (by lia) t1 u1 h))
theorem wg{pb:List (PQ×EX)}{Q:IH->EL->Prop}(QE:∀p∈pb,TQ prog w s.heap p.1 p.2)(h0:0<pb.length)(h:Q (Kw false) s):Ff (FE prog w) A (OC (SG.rfs pb).toArray) Q E s:=by
 obtain⟨fs,hf,hl,hi⟩:∃fs,KatTups s.heap (SG.rfs pb) fs∧fs.length=pb.length∧∀v∈fs,∃a o,v=Fs a∧s.heap.get? a=some o∧o.cls=.type "tuple":=by
  clear h h0
  induction pb with
  |nil=>exact⟨[],.nil,rfl,λv hv=>by simp at hv⟩
  |cons p r ih=>
   obtain⟨fs,hf,hl,hi⟩:=ih λq hq=>QE q (EJ _ hq)
   obtain⟨o,Pj,n,a1,u,ho,hc,hd,Qx,t1⟩:=QE p ET;refine⟨.ref a1::fs,.cons ho hc hd (by rw[<-FS,Qx];rfl) hf,by simp[hl],λv hv=>?_⟩
   rcases EO.mp hv with z |z
   ·obtain⟨o1,_,_,g1,g2,_⟩:=t1;exact⟨a1,o1,z,g1,g2⟩
   ·exact hi v z
 refine kat_kind (T:=.type "tuple") hf (by lia) (λv hv=>?_) (by decide) h
 obtain⟨a,o,rfl,g1,g2⟩:=hi v hv;rw[<-g2];exact (Looks.ld g1).andThen .now
end
def KQ:SG.Ky PQ:=⟨ltQ,BC,Al,AK,TQ,Kw false,λh e=>h.grow e,λhu h k q=>CF hu h k q,λh k q=>wg h k q⟩
def KP:SG.Ky (Int×Int):=⟨ltP,gW,ltP_tot,fF,λprog w h p b=>TK prog w h (lq p) b,Kw true,λt e=>by obtain⟨o,it,n,g1,gc,g2⟩:=t;exact⟨o,it,n,e _ _ gc g1,gc,g2⟩,λhu h k q=>yI h k q,λh k q=>pL h k q⟩
end ST3
namespace L2
open PySem PySem.Spec PyProof.Rows
abbrev qU(t:ST3.PQ):U:=.tup [pu t.1,.int t.2]
section
variable {X:Cx}{pins:List (EX×Obj)}{σ:St}{H:Hp}{s:EL}{z:V}{u:EN}
theorem DX{a:ST3.TR}(I:Inv X pins σ H s)(r:Rp X.K H z (trU a))(e:bi z u):∃b,z=.ref b/\u=.ref b/\ST3.KT.is X.prog X.w s.heap a b:=by
 cases r with
 | @tup b zs _ hs Rl hsi=>
  cases e;refine⟨b,rfl,rfl,?_⟩;obtain⟨jts,rj,ht,_⟩:=I.tuple hs;have z0:zs.length=3:=Rl
  match zs,z0,hsi,rj with
  |[z1,z2,z3],_,hsi,rj=>
   obtain⟨u1,u2,u3,rfl,r1,r2,r3⟩:=Dj rj;obtain⟨x,rfl,tx⟩:=fN I (hsi 0 z1 _ rfl rfl) r1;obtain⟨y,rfl,ty⟩:=fN I (hsi 1 z2 _ rfl rfl) r2;obtain⟨v,rfl,tv⟩:=fN I (hsi 2 z3 _ rfl rfl) r3;obtain⟨o,ho,Rj,n,RY⟩:=ht;exact⟨o,_,n,x,y,v,ho,Rj,RY,rfl,tx _ _,ty _ _,tv _ _⟩
theorem Ef{a:ST3.PQ}(I:Inv X pins σ H s)(r:Rp X.K H z (qU a))(e:bi z u):∃b,z=.ref b/\u=.ref b/\ST3.KQ.is X.prog X.w s.heap a b:=by
 cases r with
 | @tup b zs _ hs Rl hsi=>
  cases e;refine⟨b,rfl,rfl,?_⟩;obtain⟨jts,rj,ht,_⟩:=I.tuple hs;have z0:zs.length=2:=Rl
  match zs,z0,hsi,rj with
  |[z1,z2],_,hsi,rj=>
   obtain⟨u1,u2,rfl,r1,r2⟩:=iE rj;obtain⟨x,rfl,tx⟩:=fN I (hsi 0 z1 _ rfl rfl) r1;have q2:=hsi 1 z2 _ rfl rfl;cases q2;obtain⟨t,rfl⟩:=r2;obtain⟨o,ho,Rj,n,RY⟩:=ht;exact⟨o,_,n,x,t,ho,Rj,RY,rfl,tx _ _⟩
theorem Ez{a:P2}(I:Inv X pins σ H s)(r:Rp X.K H z (pu a))(e:bi z u):∃b,z=.ref b/\u=.ref b/\ST3.KP.is X.prog X.w s.heap a b:=by
 obtain⟨b,rfl,tb⟩:=fN I r e;refine⟨b,?_,rfl,tb _ _⟩;cases r;cases e;rfl
variable {p:P2}{l:List P2}
theorem CO(hu:X.A.units+10<H_):OpS X (F_ .In) (pu p) (.tup (l.map pu)) (.bl (decide (p∈l))):=by
 intro pins s σ H v w e f Q I r1 r2 h;obtain⟨k1,k2,k3⟩:=h;obtain⟨b1,rfl,t1⟩:=fN I k1 r1;cases k2 with
 | @tup a ws _ hq hl hh=>
  cases r2;obtain⟨Pj,rv,pl,_⟩:=I.tuple hq;obtain⟨e,he,ha⟩:=xZ (l:=l) I (show X.A.units+1<H_ by lia) rv ⟨hl,hh⟩ t1
  exact SeqAt.in_tupleAt e pl he (by rw[ha];exact a9 I k3 rfl)
end
end L2
local macro_rules | `(tactic|walk_at"sz")=>`(tactic|first |with_reducible assumption | ((with_reducible apply L2.Sz.sub') <;>walk_at"sz") | ((with_reducible apply L2.Sz.add') <;>walk_at"sz") | ((with_reducible apply L2.Sz.mul) <;>walk_at"sz") | ((with_reducible apply L2.Sz.neg) <;>walk_at"sz") | ((with_reducible apply L2.Sz.ediv) <;>walk_at"sz") | ((with_reducible apply L2.Sz.abs) <;>walk_at"sz") |exact L2.Sz.lit (m:=8) (by decide) |exact L2.Sz.emod (m:=250) (by decide) (by decide) |exact L2.Sz.lit (m:=250) (by decide))
local macro_rules | `(tactic|walk_at"mul")=>`(tactic|exact L2.Sz.ok (by walk_at"sz") (by walk_at"sz") (by decide))
local macro_rules | `(tactic|walk_at"div")=>`(tactic|first |exact⟨by decide,L2.Sz.mono (m:=250) (by decide) (by decide)⟩ |exact⟨by lia,L2.Sz.mono (by walk_at"sz") (by decide)⟩)
local macro_rules | `(tactic|walk_at"mod")=>`(tactic|first |decide |lia)
local macro_rules | `(tactic|walk_at"szb")=>`(tactic|exact L2.Sz.mono (by walk_at"sz") (by decide))
local macro_rules | `(tactic|walk_at"kit")=>`(tactic|first |exact L2.kit_int_int _ |exact L2.kit_int_bool _ |exact L2.kit_tuple_tuple _ |exact L2.kit_list_list _ |exact L2.kit_bool_int _ |exact L2.kit_list_tuple _ |rfl)
local macro_rules | `(tactic|walk_at"ok")=>`(tactic|first |rfl |decide)
local macro_rules | `(tactic|walk_at"sub")=>`(tactic|first |exact trivial | (refine⟨rfl,?_⟩;walk_at"sub") | (with_reducible apply L2.SubP.skip;walk_at"sub"))
local macro_rules | `(tactic|walk_at"len")=>`(tactic|first |decide | (simp only[List.length_append,List.length_cons,List.length_nil,List.length_map];decide))
namespace My
open PySem PySem.Spec PyProof.Rows L2
def top(i:Nat):Hc:=PySem.Challenge.pw_stakefield_k35_told_sums.main.body.getD i (.Pass ⟨0,0,0,0⟩)
abbrev kF:Hc:=top 8
abbrev yn:Hc:=top 9
abbrev o6:Hc:=top 10
abbrev yG:Hc:=top 12
abbrev iN:Hc:=top 13
abbrev i8:Hc:=top 14
abbrev pN:Hc:=top 15
abbrev tE:Hc:=top 16
abbrev kN:Hc:=top 17
abbrev rR:Hc:=top 18
abbrev tR:Hc:=top 19
abbrev wR:Hc:=top 21
abbrev ig:Hc:=top 22
abbrev tI:Hc:=top 23
abbrev rP:Hc:=top 24
abbrev fY:Hc:=top 25
abbrev nQ:Hc:=top 26
abbrev eY:Hc:=top 27
abbrev x8:Hc:=top 28
abbrev e7:Hc:=top 29
abbrev rq:Hc:=top 31
abbrev jW:Hc:=top 33
abbrev iV:Hc:=top 34
abbrev eR:Hc:=top 35
abbrev jX:Hc:=top 38
abbrev gD:Hc:=top 39
abbrev oZ:Hc:=top 40
abbrev lV:Hc:=top 41
abbrev pJ:Hc:=top 42
abbrev lX:Hc:=top 44
abbrev sW:Hc:=top 45
abbrev cV:Hc:=top 46
abbrev xf:Hc:=top 47
abbrev iY:Hc:=top 49
abbrev gq:Hc:=top 50
abbrev i4:Hc:=top 51
abbrev iW:Hc:=top 52
abbrev gs:Hc:=top 53
abbrev l8:Hc:=top 54
abbrev ir:Hc:=top 55
abbrev il:Hc:=top 56
abbrev hU:Hc:=top 57
abbrev i9:Hc:=top 58
abbrev eZ:Hc:=top 59
abbrev eo:Hc:=top 60
abbrev jb:Hc:=top 61
abbrev i_:Hc:=top 62
abbrev h7:Hc:=top 63
abbrev io:Hc:=top 64
abbrev kC:Hc:=top 65
theorem p7:av ["thing"] ["thing"] (ak kF):=by walk_at"sC"
theorem Ai:av ["number"] ["number"] (ak yn):=by walk_at"sC"
theorem bK:av ["a","b","high","high_times","low","low_times","fits","rest","rest_times","s"] ["a","b"] (ak o6):=by walk_at"sC"
theorem zO:av ["move"] ["move"] (ak yG):=by walk_at"sC"
theorem kH:av ["thing","number"] ["thing"] (ak iN):=by walk_at"sC"
theorem nq:av ["thing"] ["thing"] (ak i8):=by walk_at"sC"
theorem uC:av ["P","move"] ["P","move"] (ak pN):=by walk_at"sC"
theorem pO:av ["P","move","place"] ["P","move"] (ak tE):=by walk_at"sC"
theorem cO:av ["move","side","a","b","c","d"] ["move"] (ak kN):=by walk_at"sC"
theorem wS:av ["P","Q"] ["P","Q"] (ak rR):=by walk_at"sC"
theorem eG:av ["P","Q","far","u","v","parts","s","t"] ["P","Q"] (ak tR):=by walk_at"sC"
theorem y9:av ["P","Q","R"] ["P","Q","R"] (ak wR):=by walk_at"sC"
theorem fe:av ["row","kept","P"] ["row"] (ak ig):=by walk_at"sC"
theorem gd:av ["points","row","there","back"] ["points"] (ak tI):=by walk_at"sC"
theorem x9:av ["land"] ["land"] (ak rP):=by walk_at"sC"
theorem je:av ["P","Q","R"] ["P","Q","R"] (ak fY):=by walk_at"sC"
theorem ku:av ["land","P","A","B"] ["land","P"] (ak nQ):=by walk_at"sC"
theorem eA:av ["land","A","B"] ["land"] (ak eY):=by walk_at"sC"
theorem qS:av ["land","A","B"] ["land"] (ak x8):=by walk_at"sC"
theorem gl:av ["land","move","P"] ["land","move"] (ak e7):=by walk_at"sC"
theorem ud:av ["land","k","P"] ["land","k"] (ak rq):=by walk_at"sC"
theorem pz:av ["land","k"] ["land","k"] (ak jW):=by walk_at"sC"
theorem nE:av ["land"] ["land"] (ak iV):=by walk_at"sC"
theorem oH:av ["land","k","many"] ["land","k"] (ak eR):=by walk_at"sC"
theorem cy:av ["land","y","begins","ends","A","B","rise","run"] ["land","y"] (ak jX):=by walk_at"sC"
theorem b7:av ["land","move","levelled","back","found","y","ends","x","P"] ["land"] (ak gD):=by walk_at"sC"
theorem vp:av ["land"] ["land"] (ak oZ):=by walk_at"sC"
theorem fT:av ["row","hand","kept","cut","P"] ["row","hand"] (ak lV):=by walk_at"sC"
theorem lY:av ["land","row"] ["land"] (ak pJ):=by walk_at"sC"
theorem fB:av ["piece","corners"] ["piece"] (ak lX):=by walk_at"sC"
theorem yH:av ["k","P","Q","R"] ["k","P","Q","R"] (ak sW):=by walk_at"sC"
theorem bF:av ["piece","k","P","corners","across","pairs","corner","side","pair"] ["piece","k","P"] (ak cV):=by walk_at"sC"
theorem ug:av ["land","k","P","piece"] ["land","k","P"] (ak xf):=by walk_at"sC"
theorem mO:av ["script","k"] ["script","k"] (ak iY):=by walk_at"sC"
theorem cI:av ["one","other"] ["one","other"] (ak gq):=by walk_at"sC"
theorem mL:av ["a","b","p"] ["a","b","p"] (ak i4):=by walk_at"sC"
theorem fO:av ["points","way","p"] ["points"] (ak iW):=by walk_at"sC"
theorem dM:av ["points","some"] ["points"] (ak gs):=by walk_at"sC"
theorem j_:av ["land","p","k"] ["land","p"] (ak l8):=by walk_at"sC"
theorem bq:av ["script","many","p","m","n","x","y"] ["script","many","p"] (ak ir):=by walk_at"sC"
theorem k9:av ["thing"] ["thing"] (ak il):=by walk_at"sC"
theorem gP:av ["found","pair"] ["found"] (ak hU):=by walk_at"sC"
theorem ii:av ["spots","k"] ["spots"] (ak i9):=by walk_at"sC"
theorem eE:av ["spots","some","piece","spot"] ["spots","some"] (ak eZ):=by walk_at"sC"
theorem cN:av ["pairs","many","pair","x"] ["pairs"] (ak eo):=by walk_at"sC"
theorem nD:av ["script"] ["script"] (ak jb):=by walk_at"sC"
theorem nC:av ["cell","x","y"] ["cell","x","y"] (ak i_):=by walk_at"sC"
theorem ff:av ["script","points","k"] ["script"] (ak h7):=by walk_at"sC"
theorem b_:av ["script","spots","pairs","k","cell","times_v"] ["script","spots"] (ak io):=by walk_at"sC"
theorem cf:av ["script","near","walked","k","land","p","spots","point","handed","found","posts","pair","spot","some","kept","other"] ["script"] (ak kC):=by walk_at"sC"
set_option genInjectivity false in
set_option genSizeOf false in
set_option genSizeOfSpec false in
structure Txt(w:Fl)(K:EI)(mg:Str->Option EN) where
 aaJ:Dfn K mg "is_whole" kF ["thing"]
 aaY:Dfn K mg "sign" yn ["number"]
 aaH:Dfn K mg "shares" o6 ["a","b"]
 aaZ:Dfn K mg "hand" yG ["move"]
 aaN:Dfn K mg "is_move" iN ["thing"]
 aaj:Dfn K mg "need_move" i8 ["thing"]
 aaV:Dfn K mg "turned" pN ["P","move"]
 aau:Dfn K mg "moved" tE ["P","move"]
 aaf:Dfn K mg "way_back" kN ["move"]
 aaC:Dfn K mg "steps" rR ["P","Q"]
 aaD:Dfn K mg "level" tR ["P","Q"]
 aaM:Dfn K mg "turn" wR ["P","Q","R"]
 aag:Dfn K mg "left_bends" ig ["row"]
 aaE:Dfn K mg "field" tI ["points"]
 aap:Dfn K mg "sides" rP ["land"]
 aam:Dfn K mg "lies_between" fY ["P","Q","R"]
 aaR:Dfn K mg "where" nQ ["land","P"]
 aaq:Dfn K mg "double_area" eY ["land"]
 aa1:Dfn K mg "rim" x8 ["land"]
 aar:Dfn K mg "field_moved" e7 ["land","move"]
 aaT:Dfn K mg "fold" rq ["land","k"]
 aaK:Dfn K mg "multiple" jW ["land","k"]
 aaz:Dfn K mg "points_in" iV ["land"]
 aa0:DfD K mg "count" eR ["land","k"] 1
 aaL:Dfn K mg "row_ends" jX ["land","y"]
 aaO:Dfn K mg "by_rows" gD ["land"]
 aaW:Dfn K mg "stakes" oZ ["land"]
 aay:Dfn K mg "cut_off" lV ["row","hand"]
 aaI:Dfn K mg "pieces" pJ ["land"]
 aaP:Dfn K mg "widened" lX ["piece"]
 aaF:Dfn K mg "times" sW ["k","P","Q","R"]
 aan:Dfn K mg "put_together" cV ["piece","k","P"]
 aaU:Dfn K mg "told" xf ["land","k","P"]
 aaa:Dfn K mg "_law_cell" iY ["script","k"]
 aao:Dfn K mg "_law_divisor" gq ["one","other"]
 aab:Dfn K mg "_law_side" i4 ["a","b","p"]
 aak:Dfn K mg "_law_half" iW ["points"]
 aae:Dfn K mg "_law_corners" gs ["points"]
 aaQ:Dfn K mg "_law_in" l8 ["land","p"]
 aah:Dfn K mg "_law_moved" ir ["script","many","p"]
 aad:Dfn K mg "_law_whole" il ["thing"]
 aav:Dfn K mg "_law_kinds" hU ["found"]
 aaA:Dfn K mg "_law_near" i9 ["spots"]
 aas:Dfn K mg "_law_in_one" eZ ["spots","some"]
 aat:Dfn K mg "_law_sum" eo ["pairs"]
 aal:Dfn K mg "_law_ends" jb ["script"]
 aaB:Dfn K mg "_law_lean" i_ ["cell","x","y"]
 aaw:Dfn K mg "_law_spots" h7 ["script"]
 aax:Dfn K mg "_law_taken" io ["script","spots"]
 aa4:Dfn K mg "law" kC ["script"]
 aa5:mg "abs"=none
 abd:mg "all"=none
 aba:mg "bool"=none
 abc:mg "int"=none
 aai:mg "isinstance"=none
 aac:mg "len"=none
 aaG:mg "list"=none
 aa8:mg "max"=none
 aa9:mg "min"=none
 aaX:mg "range"=none
 aa6:mg "reversed"=none
 aa_:mg "set"=none
 aaS:mg "sorted"=none
 aa7:mg "sum"=none
 aa2:mg "tuple"=none
 abb:mg "zip"=none
 aa3:∃t,mg "MOST_STAKES"=some (.int 100 t)
section
variable {P:EW}{w:Fl}{K:EI}{mg:Str→Option EN}{base:GD}
def sgn(n:Int):Int:=if 0<n then 1 else if n<0 then -1 else 0
def b8(b:Int):Int:=if b<0 then -b else b
theorem dy(b:Int):b8 b=(b.natAbs:Int):=by unfold b8;split <;>lia
theorem iB{b:Int}(h:b≠0):0<b8 b:=by unfold b8;split <;>lia
theorem dH(d b:Int):d ∣ b8 b↔d ∣ b:=by
 unfold b8;split
 ·exact Ld
 ·exact Iff.rfl
theorem wy(d b:Int):b8 b ∣ d↔b ∣ d:=by
 unfold b8;split
 ·exact Int.neg_dvd
 ·exact Iff.rfl
structure i5(a b high ht low lt:Int):Prop where
 hp:0<high
 lo0:0<=low
 lolt:low<high
 dv:∀d,(d ∣ high/\d ∣ low)↔(d ∣ a/\d ∣ b)
 ch:b ∣ ht*a-high
 cl:b ∣ lt*a-low
 bd:ht.natAbs*low.natAbs+lt.natAbs*high.natAbs<=b.natAbs
 hi:high.natAbs<=b.natAbs
theorem pG{a b:Int}(hb:b≠0):i5 a b (b8 b) 0 (a%b8 b) 1:=by
 have h0:=iB hb;refine⟨h0,Hg _ (by lia),GG _ h0,λd=>?_,?_,?_,?_,by rw[dy];simp⟩
 ·rw[dH];constructor
  ·rintro ⟨h1,h2⟩;refine⟨?_,h1⟩;have e:=HS a (b8 b);rw[<-e];exact Iy h2 (FV ((dH d b).mpr h1) (HB _ _))
  ·rintro ⟨h1,h2⟩;refine⟨h2,?_⟩;have e:a%b8 b=a-b8 b*(a/b8 b):=by have:=HS a (b8 b);lia
   rw[e];exact Kc h1 (FV ((dH d b).mpr h2) (HB _ _))
 ·rw[Hj,Int.zero_sub,Ld];exact (dH b b).mpr (Kq b)
 ·have e:1*a-a%b8 b=b8 b*(a/b8 b):=by have:=HS a (b8 b);lia
  rw[e];exact FV ((dH b b).mpr (Kq b)) (HB _ _)
 ·rw[dy];simp
theorem sr{a b high ht low lt:Int}(I:i5 a b high ht low lt)(h:low≠0):i5 a b low lt (high-high/low*low) (ht-high/low*lt)/\high-high/low*low<low:=by
 obtain⟨hp,lo0,lolt,dv,ch,cl,bd,hi⟩:=I;have hl:0<low:=by lia
 have e:=HS high low;have r0:=Hg high h;have r1:=GG high hl;have hf:0<=high/low:=LL (by lia) (by lia)
 have er:high-high/low*low=high%low:=by rw[Jg];lia
 rw[er];refine⟨⟨hl,r0,r1,λd=>?_,cl,?_,?_,by lia⟩,r1⟩
 ·rw[<-dv d];constructor
  ·rintro ⟨h1,h2⟩;refine⟨?_,h1⟩;rw[<-e];exact Iy h2 (FV h1 (HB _ _))
  ·rintro ⟨h1,h2⟩;refine⟨h2,?_⟩;rw[show high%low=high-low*(high/low) by lia]
   exact Kc h1 (FV h2 (HB _ _))
 ·have e2:(ht-high/low*lt) *a-high%low=(ht*a-high)-(high/low) *(lt*a-low):=by grind
  rw[e2];exact Kc ch (FV cl (F2 _ _))
 ·have n1:(ht-high/low*lt).natAbs<=ht.natAbs+(high/low).natAbs*lt.natAbs:=by
   have:=Int.natAbs_sub_le ht (high/low*lt);rw[JN]at this;exact this
  have n2:high.natAbs=(high%low).natAbs+low.natAbs*(high/low).natAbs:=by
   have:(high.natAbs:Int)=((high%low).natAbs+low.natAbs*(high/low).natAbs:Nat):=by
    push_cast
    rw[IQ r0,IQ hf,IQ (by lia:0<=high),IQ lo0]
    lia
   lia
  have n3:(ht-high/low*lt).natAbs*low.natAbs<=(ht.natAbs+(high/low).natAbs*lt.natAbs) *low.natAbs:=J2 _ n1;rw[n2]at bd;refine Gs ?_ bd;generalize (ht-high/low*lt).natAbs=A at *;generalize ht.natAbs=B at *;generalize lt.natAbs=C at *;generalize low.natAbs=D at *;generalize (high/low).natAbs=E at *;generalize (high%low).natAbs=F at *;grind
structure di(a b g s t:Int):Prop where
 g0:0<=g
 eq:s*a+t*b=g
 da:g ∣ a
 db:g ∣ b
 z:b=0->t=0/\s=sgn a/\g=b8 a
 nz:b≠0->0<g/\0<=s/\s<b8 b/g
theorem lK(a:Int):di a 0 (b8 a) (sgn a) 0:=by
 refine⟨by unfold b8;split <;>lia,?_,(wy a a).mpr (Kq a),OT _,λ_=>⟨rfl,rfl,rfl⟩,λh=>absurd rfl h⟩
 unfold sgn b8;split
 ·split <;>lia
 ·split
  ·lia
  ·lia
theorem yA{a b high ht lt:Int}(hb:b≠0)(I:i5 a b high ht 0 lt):di a b high (ht%(b8 b/high)) ((high-ht%(b8 b/high) *a).fdiv b):=by
 obtain⟨hp,lo0,lolt,dv,ch,cl,bd,hi⟩:=I;obtain⟨ga,gb⟩:=(dv high).mp ⟨Kq _,OT _⟩;obtain⟨a',rfl⟩:=ga;have gb2:high ∣ b8 b:=(dH _ _).mpr gb;obtain⟨b',Rr⟩:=gb2;have hb0:=iB hb;have hq:b8 b/high=b':=by rw[Rr,GY _ (by lia)]
 have hb1:0<b':=by
  have:0<high*b':=by lia
  exact GZ this (by lia)
 rw[hq];have es:=HS ht b'
 have key:b ∣ high-ht%b'*(high*a'):=by
  have e:high-ht%b'*(high*a')=-(ht*(high*a')-high)+b8 b*(a'*(ht/b')):=by
   rw[Rr,show ht%b'=ht-b'*(ht/b') by lia];grind
  rw[e];refine Iy (Ld.mpr ch) (FV ((dH b b).mpr (Kq b)) (HB _ _))
 refine⟨by lia,?_,HB _ _,gb,λh=>absurd h hb,λ_=>⟨hp,Hg _ (by lia),?_⟩⟩
 ·obtain⟨c,hc⟩:=key;rw[hc,Int.mul_fdiv_cancel_left _ hb,Jg c b];lia
 ·rw[hq];exact GG _ hb1
theorem DO{a b high ht low lt:Int}(I:i5 a b high ht low lt):lt.natAbs<=b.natAbs:=by
 have h1:1<=high.natAbs:=by have:=I.hp;lia
 have h2:lt.natAbs*1<=lt.natAbs*high.natAbs:=Nat.mul_le_mul_left _ h1;have:=I.bd;lia
theorem wI{a b g s t g' s' t':Int}(h:di a b g s t)(h':di a b g' s' t'):g=g'/\s=s'/\t=t':=by
 have d1:g ∣ g':=by rw[<-h'.eq];exact Iy (FV h.da (F2 _ _)) (FV h.db (F2 _ _))
 have d2:g' ∣ g:=by rw[<-h.eq];exact Iy (FV h'.da (F2 _ _)) (FV h'.db (F2 _ _))
 have eg:g=g':=Ni h.g0 h'.g0 d1 d2;subst eg;by_cases hb:b=0
 ·obtain⟨h1,h2,_⟩:=h.z hb;obtain⟨k1,k2,_⟩:=h'.z hb;exact⟨rfl,by lia,by lia⟩
 ·obtain⟨p,s0,s1⟩:=h.nz hb;obtain⟨_,s0',s1'⟩:=h'.nz hb;obtain⟨a',ha⟩:=h.da;obtain⟨b',Rr⟩:=(dH g b).mpr h.db;obtain⟨b'',RC⟩:=h.db;have hq:b8 b/g=b':=by rw[Rr,GY _ (by lia)]
  rw[hq]at s1 s1';have e1:=h.eq;have e2:=h'.eq;have bz:b''≠0:=by intro z;rw[z,G6]at RC;exact hb RC
  have k1:s*a'+t*b''=1:=by
   have:g*(s*a'+t*b'')=g*1:=by rw[ha,RC]at e1;grind
   exact F3 (by lia) this
  have k2:s'*a'+t'*b''=1:=by
   have:g*(s'*a'+t'*b'')=g*1:=by rw[ha,RC]at e2;grind
   exact F3 (by lia) this
  have k3:b'' ∣ s-s':=by
   refine⟨s*(t'-t)+t*(s-s'),?_⟩;grind
  have k4:b' ∣ s-s':=by
   have:b'.natAbs=b''.natAbs:=by
    have q1:(b8 b).natAbs=b.natAbs:=by rw[dy];simp
    rw[Rr,RC]at q1;rw[JN,JN]at q1;exact Nat.eq_of_mul_eq_mul_left (by lia) q1
   exact JT.mp (by rw[this];exact JT.mpr k3)
  have k5:s=s':=by
   have:s-s'=0:=Int.eq_zero_of_dvd_of_natAbs_lt_natAbs k4 (by lia)
   lia
  subst k5;refine⟨rfl,rfl,?_⟩;have:b*t=b*t':=by grind
  exact F3 hb this
theorem A7{a b:Int}(hb:b≠0):∀(n:Nat) (high ht low lt:Int),low.toNat<=n->i5 a b high ht low lt->∃high' ht' lt',i5 a b high' ht' 0 lt'
 |0,high,ht,low,lt,hn,I=>by
  have:low=0:=by have:=I.lo0;lia
  subst this;exact⟨_,_,_,I⟩
 |n+1,high,ht,low,lt,hn,I=>by
  by_cases h:low=0
  ·subst h;exact⟨_,_,_,I⟩
  ·obtain⟨I2,less⟩:=sr I h;have:=I2.lo0;exact A7 hb n _ _ _ _ (by have:=I.lo0;lia) I2
theorem iF(a b:Int):∃g s t,di a b g s t:=by
 by_cases hb:b=0
 ·subst hb;exact⟨_,_,_,lK a⟩
 ·obtain⟨h,ht,lt,I⟩:=A7 hb _ _ _ _ _ (EU _) (pG (a:=a) hb);exact⟨_,_,_,yA hb I⟩
theorem hJ{m:Nat}{a b g s t:Int}(G:di a b g s t)(sa:Sz m a)(sb:Sz m b):Sz (m+8) g/\Sz (m+8) s/\Sz (2*m+8) t:=by
 by_cases hb:b=0
 ·subst hb;obtain⟨h1,h2,h3⟩:=G.z rfl;rw[h1,h2,h3];have s1:Sz 8 (sgn a):=by unfold Sz sgn;split;decide;split <;>decide
  exact⟨(Sz.abs sa).mono (by lia),s1.mono (by lia),Sz.mono (m:=8) (by decide) (by lia)⟩
 ·obtain⟨g0,s0,s1⟩:=G.nz hb;have h1:b8 b/g<=b8 b:=Ll _ (by have:=iB hb;lia)
  have h2:=dy b
  have sg:Sz m g:=by
   refine sb.natle ?_;exact Nat.le_of_dvd (by lia) (JT.mpr G.db)
  have ss:Sz m s:=sb.natle (by lia)
  refine⟨sg.mono (by lia),ss.mono (by lia),?_⟩
  have e:t*b=g-s*a:=by have:=G.eq;lia
  have q:Sz (2*m+1) (t*b):=by
   rw[e];have:Sz (m+m) (s*a):=ss.mul sa;have h3:=(sg.mono (show m<=m+m by lia)).sub this
   exact h3.mono (by lia)
  refine (Sz.mono (m:=2*m+1) ?_ (by lia))
  unfold Sz at *;rw[JN]at q;have:1<=b.natAbs:=by lia
  exact Jk (Nat.le_mul_of_pos_right _ this) q
def ui:List U->Out->Prop:=λus o=>∃n:Int,us=[.int n]/\o=.val (.int (sgn n))
theorem tU(T:Txt w K mg):ba P w K mg base (CXF P w) 1 T.aaY.a T.aaY.d ["number"] (spU K (ui)):=by
 refine aV T.aaY.F Ai (λus o h=>?_) (λPp A outer s H E O us o hr h=>?_)
 ·obtain⟨n,rfl,rfl⟩:=h;rfl
 obtain⟨n,rfl,rfl⟩:=h;refine Ws.nox ?_;refine af (jJ (aA fE (aa 0 rfl) ag) (λhT=>?_) (λhF=>(aB ?_)))
 ·refine af (a_ ag ?_);exact vIO (by unfold sgn;rw[if_pos (dTb hT)])
 ·refine af (jJ (aA e_ (aa 0 rfl) ag) (λhT=>?_) (λhF=>(aB ?_)))
  ·refine af (a_ (bO ag) ?_);exact vIO (by unfold sgn;rw[if_neg (dFb hF),if_pos (dTb hT)])
  ·rename_i hF2
   refine af (a_ ag ?_);exact vIO (by unfold sgn;rw[if_neg (dFb hF),if_neg (dFb hF2)])
def oF:List U->Out->Prop:=λus o=>∃a b g s t:Int,us=[.int a,.int b]/\Sz 4000 a/\Sz 4000 b/\di a b g s t/\o=.val (.tup [.int g,.int s,.int t])
theorem pX{a b g s t g' s' t':Int}(G:di a b g s t)(G':di a b g' s' t'):Out.val (.tup [.int g,.int s,.int t])=Out.val (.tup [.int g',.int s',.int t']):=by
 obtain⟨rfl,rfl,rfl⟩:=wI G G';rfl
theorem lR(T:Txt w K mg):ba P w K mg base (CXF P w) 2 T.aaH.a T.aaH.d ["a","b"] (spU K (oF)):=by
 refine aV T.aaH.F bK (λus o h=>?_) (λPp A outer s H E O us o hr h=>?_)
 ·obtain⟨a,b,g,s,t,rfl,sa,sb,G,rfl⟩:=h;rfl
 obtain⟨a,b,g,s,t,rfl,sa,sb,G,rfl⟩:=h;refine Ws.nox ?_;refine af (jJ (aA bG (aa 1 rfl) ag) (λhT=>?_) (λhF=>(aB ?_)))
 ·have hb:b=0:=dTb hT;subst hb;refine af (a_ (bo (ar (aq l9 rfl T.aa5 PyProof.Rows.boot_abs (ac (aa 0 rfl) aj ai)) (ar (ax ((tU T).mono (by decide)) hr rfl T.aaY.m T.aaY.F.kp T.aaY.b au (ac (aa 0 rfl) aj ai) ⟨_,rfl,rfl⟩) (ar ag bg bC) aX) aX)) ?_)
  exact pX (lK a) G
 ·have hb:b≠0:=dFb hF;have hp0:=iB hb;have sab:Sz 4000 (b8 b):=Sz.abs sb;refine af (aI (i:=2) bK.nd rfl (Or.inl rfl) (aq l9 rfl T.aa5 PyProof.Rows.boot_abs (ac (aa 1 rfl) aj ai)) ?_);refine af (aI (i:=3) bK.nd rfl (Or.inl rfl) ag ?_);refine af (aI (i:=4) bK.nd rfl (Or.inl rfl) (cP (aa 0 rfl) (aa 2 rfl) hp0) ?_);refine af (aI (i:=5) bK.nd rfl (Or.inl rfl) ag ?_);refine af (gh (λm:Int×Int×Int×Int=>[some (.val (.int a)),some (.val (.int b)),some (.val (.int m.1)),some (.val (.int m.2.1)),some (.val (.int m.2.2.1)),some (.val (.int m.2.2.2)),none,none,none,none]) (λn m=>n=m.2.2.1.toNat/\i5 a b m.1 m.2.1 m.2.2.1 m.2.2.2) PassesOwn.never ?h0 ?hs)
  case h0=>exact⟨_,(_,_,_,_),⟨rfl,pG hb⟩,rfl,rfl,rfl,rfl,rfl,rfl,trivial⟩
  case hs=>
   rintro m ⟨high,ht,low,lt⟩ ⟨rfl,I⟩;dsimp only at I |-;have hl0:=I.lo0;have Qc:=I.lolt;have sh:Sz 4000 high:=sb.natle I.hi;have sl:Sz 4000 low:=sh.natle (by lia)
   have slt:Sz 4000 lt:=sb.natle (DO I);refine⟨_,(aA kw (aa 4 rfl) ag),λh=>?_,λh ps PU=>?_⟩
   ·have hl:low≠0:=nTb h;obtain⟨I2,less⟩:=sr I hl;have Pq:(high-high/low*low).toNat<low.toNat:=by clear h;lia
    refine af (aI (i:=6) bK.nd rfl (Or.inl rfl) (fA (aa 2 rfl) (aa 4 rfl) (by walk_at"div")) ?_)
    have sf:Sz 4000 (high/low):=sh.ediv;refine af (aI (i:=7) bK.nd rfl (Or.inl rfl) (bw (aa 2 rfl) (aZ (aa 6 rfl) (aa 4 rfl) (by walk_at"mul"))) ?_)
    refine af (aI (i:=8) bK.nd rfl (Or.inl rfl) (bw (aa 3 rfl) (aZ (aa 6 rfl) (aa 5 rfl) (by walk_at"mul"))) ?_)
    refine af (aI (i:=2) bK.nd rfl (Or.inl rfl) (aa 4 rfl) ?_);refine af (aI (i:=3) bK.nd rfl (Or.inl rfl) (aa 5 rfl) ?_);refine af (aI (i:=4) bK.nd rfl (Or.inl rfl) (aa 7 rfl) ?_);refine af (aI (i:=5) bK.nd rfl (Or.inl rfl) (aa 8 rfl) (aB ?_));exact⟨_,(_,_,_,_),Pq,⟨rfl,I2⟩,rfl,rfl,rfl,rfl,rfl,rfl,trivial⟩
   ·have hl:low=0:=nFb h;subst hl;refine c7 ?_ PU;have G2:=yA hb I;obtain⟨g0,s0,s1⟩:=G2.nz hb;have hm:0<b8 b/high:=by lia
    have hg:0<high:=I.hp
    have ss:Sz 4000 (ht%(b8 b/high)):=by
     refine sb.natle ?_;have h1:b8 b/high<=b8 b:=Ll _ (by lia)
     have h2:=dy b;lia
    refine af (aI (i:=9) bK.nd rfl (Or.inl rfl) (cP (aa 3 rfl) (fA (aq l9 rfl T.aa5 PyProof.Rows.boot_abs (ac (aa 1 rfl) aj ai)) (aa 2 rfl) ⟨hg,sh.mono (by decide)⟩) hm) ?_)
    refine af (a_ (bo (ar (aa 2 rfl) (ar (aa 9 rfl) (ar (BT (bw (aa 2 rfl) (aZ (aa 9 rfl) (aa 0 rfl) (Sz.ok ss sa (by decide)))) (aa 1 rfl) ⟨hb,sb.mono (by decide)⟩) bg bp) ai) ai)) ?_)
    exact pX G2 G
abbrev mv(a b c d e f:Int):U:=.tup [.int a,.int b,.int c,.int d,.int e,.int f]
structure Mv(a b c d e f:Int):Prop where
 u:a*d-b*c=1\/a*d-b*c=-1
 a:Sz 30000 a
 b:Sz 30000 b
 c:Sz 30000 c
 d:Sz 30000 d
 e:Sz 30000 e
 f:Sz 30000 f
def qo:List U->Out->Prop:=λus o=>∃n:Int,us=[.int n]/\o=.val (.bl true)
theorem p5(T:Txt w K mg):ba P w K mg base (CXF P w) 1 T.aaJ.a T.aaJ.d ["thing"] (spU K (qo)):=by
 refine aV T.aaJ.F p7 (λus o h=>?_) (λPp A outer s H E O us o hr h=>?_)
 ·obtain⟨n,rfl,rfl⟩:=h;rfl
 obtain⟨n,rfl,rfl⟩:=h;refine Ws.nox ?_;refine af (a_ (j0 (aq (cW (by intro _ h;cases h) (by walk_at"kit")) rfl T.aai Hk (ac (aa 0 rfl) (ac (nY rfl T.abc boot_int) aj ai) ai)) (λhz=>(lG (A_ (aq (cW (by intro _ h;cases h) (by walk_at"kit")) rfl T.aai Hk (ac (aa 0 rfl) (ac (nY rfl T.aba boot_bool) aj ai) ai)))))) ?_);exact rfl
def uF:List U->Out->Prop:=λus o=>∃a b c d e f,us=[mv a b c d e f]/\Sz 30000 a/\Sz 30000 b/\Sz 30000 c/\Sz 30000 d/\o=.val (.int (a*d-b*c))
theorem t6(T:Txt w K mg):ba P w K mg base (CXF P w) 1 T.aaZ.a T.aaZ.d ["move"] (spU K (uF)):=by
 refine aV T.aaZ.F zO (λus o h=>?_) (λPp A outer s H E O us o hr h=>?_)
 ·obtain⟨a,b,c,d,e,f,rfl,sa,sb,sc,sd,rfl⟩:=h;rfl
 obtain⟨a,b,c,d,e,f,rfl,sa,sb,sc,sd,rfl⟩:=h;refine Ws.nox ?_;refine af (a_ (bw (aZ (aw (aa 0 rfl) ag rfl rfl) (aw (aa 0 rfl) ag rfl rfl) (by walk_at"mul")) (aZ (aw (aa 0 rfl) ag rfl rfl) (aw (aa 0 rfl) ag rfl rfl) (by walk_at"mul"))) ?_);exact rfl
def om:List U->Out->Prop:=λus o=>∃a b c d e f,us=[mv a b c d e f]/\Mv a b c d e f/\o=.val (.bl true)
theorem rC(T:Txt w K mg):ba P w K mg base (CXF P w) 2 T.aaN.a T.aaN.d ["thing"] (spU K (om)):=by
 refine aV T.aaN.F kH (λus o h=>?_) (λPp A outer s H E O us o hr h=>?_)
 ·obtain⟨a,b,c,d,e,f,rfl,M,rfl⟩:=h;rfl
 obtain⟨a,b,c,d,e,f,rfl,M,rfl⟩:=h;refine Ws.nox ?_;refine af (bv (Tw.t (jL (fo (eI (aq (cW (by intro _ h;cases h) rfl) rfl T.aai Hk (ac (aa 0 rfl) (ac (nY rfl T.aa2 MZ) aj ai) ai)))) (λhz=>(ja (aA kw (aq (bn rfl) rfl T.aac E8 (ac (aa 0 rfl) aj ai)) ag))))) rfl (aB ?_))
 refine af (bv (fo (eI (aq (DJ rfl (bs:=[true,true,true,true,true,true])) rfl T.abd boot_all (ac (EvN.ev (dj  rfl (blk (ak iN) ["thing","number"] [1] rfl rfl rfl rfl (by decide+kernel)) (C5 (aa 0 rfl)) (λ_ _ _ _=>aQ (i:=1) kH.nd rfl (Or.inl rfl)) (bM (by decide)) ?clen ?csz (λ_ _=>trivial) ?celt)) aj ci)))) rfl (aB ?_))
 case clen=>rfl
 case csz=>show 6<=sizeLine;decide
 case celt=>
  intro C s' H' fp i x y hx hy
  have k:∃n:Int,x=.int n/\y=.bl true:=by
   match i,hx,hy with
   |0,hx,hy=>cases hx;cases hy;exact⟨a,rfl,rfl⟩
   |1,hx,hy=>cases hx;cases hy;exact⟨b,rfl,rfl⟩
   |2,hx,hy=>cases hx;cases hy;exact⟨c,rfl,rfl⟩
   |3,hx,hy=>cases hx;cases hy;exact⟨d,rfl,rfl⟩
   |4,hx,hy=>cases hx;cases hy;exact⟨e,rfl,rfl⟩
   |5,hx,hy=>cases hx;cases hy;exact⟨f,rfl,rfl⟩
   |i+6,hx,hy=>cases hx
  obtain⟨n,rfl,rfl⟩:=k;exact (ax ((p5 T).mono (by decide)) hr rfl T.aaJ.m T.aaJ.F.kp T.aaJ.b au (ac (aa 1 rfl) aj ai) ⟨n,rfl,rfl⟩)
 refine af (a_ (eM (DY rfl rfl rfl) (ax ((t6 T).mono (by decide)) hr rfl T.aaZ.m T.aaZ.F.kp T.aaZ.b au (ac (aa 0 rfl) aj ai) ⟨a,b,c,d,e,f,rfl,M.a,M.b,M.c,M.d,rfl⟩) (bo (ar ag (ar (bO ag) bg ki) bC))) ?_)
 refine vB ?_;show inV (fl (.int (a*d-b*c))) ([U.int 1,.int (-1)].map fl)=_;rcases M.u with h |h <;>rw[h] <;>rfl
def u6:List U->Out->Prop:=λus o=>∃a b c d e f,us=[mv a b c d e f]/\Mv a b c d e f/\o=.val .non
theorem hV(T:Txt w K mg):ba P w K mg base (CXF P w) 3 T.aaj.a T.aaj.d ["thing"] (spU K (u6)):=by
 refine aV T.aaj.F nq (λus o h=>?_) (λPp A outer s H E O us o hr h=>?_)
 ·obtain⟨a,b,c,d,e,f,rfl,M,rfl⟩:=h;rfl
 obtain⟨a,b,c,d,e,f,rfl,M,rfl⟩:=h;refine Ws.nox ?_;refine af (bv (fo (eI (ax ((rC T).mono (by decide)) hr rfl T.aaN.m T.aaN.F.kp T.aaN.b au (ac (aa 0 rfl) aj ai) ⟨a,b,c,d,e,f,rfl,M,rfl⟩))) rfl (aB (aB ?_)))
 exact rfl
def oG:List U->Out->Prop:=λus o=>∃x y a b c d e f,us=[pt x y,mv a b c d e f]/\(Sz 30000 x/\Sz 30000 y/\Sz 30000 a/\Sz 30000 b/\Sz 30000 c/\Sz 30000 d)/\o=.val (pt (a*x+b*y) (c*x+d*y))
theorem uN(T:Txt w K mg):ba P w K mg base (CXF P w) 1 T.aaV.a T.aaV.d ["P","move"] (spU K (oG)):=by
 refine aV T.aaV.F uC (λus o h=>?_) (λPp A outer s H E O us o hr h=>?_)
 ·obtain⟨x,y,a,b,c,d,e,f,rfl,⟨sx,sy,sa,sb,sc,sd⟩,rfl⟩:=h;rfl
 obtain⟨x,y,a,b,c,d,e,f,rfl,⟨sx,sy,sa,sb,sc,sd⟩,rfl⟩:=h;refine Ws.nox ?_;refine af (a_ (bo (ar (cA (aZ (aw (aa 1 rfl) ag rfl rfl) (aw (aa 0 rfl) ag rfl rfl) (by walk_at"mul")) (aZ (aw (aa 1 rfl) ag rfl rfl) (aw (aa 0 rfl) ag rfl rfl) (by walk_at"mul"))) (ar (cA (aZ (aw (aa 1 rfl) ag rfl rfl) (aw (aa 0 rfl) ag rfl rfl) (by walk_at"mul")) (aZ (aw (aa 1 rfl) ag rfl rfl) (aw (aa 0 rfl) ag rfl rfl) (by walk_at"mul"))) bg bp) bp)) ?_);exact rfl
def rJ:List U->Out->Prop:=λus o=>∃x y a b c d e f,us=[pt x y,mv a b c d e f]/\Mv a b c d e f/\Sz 30000 x/\Sz 30000 y/\o=.val (pt (a*x+b*y+e) (c*x+d*y+f))
theorem ie(T:Txt w K mg):ba P w K mg base (CXF P w) 4 T.aau.a T.aau.d ["P","move"] (spU K (rJ)):=by
 refine aV T.aau.F pO (λus o h=>?_) (λPp A outer s H E O us o hr h=>?_)
 ·obtain⟨x,y,a,b,c,d,e,f,rfl,M,sx,sy,rfl⟩:=h;rfl
 obtain⟨x,y,a,b,c,d,e,f,rfl,M,sx,sy,rfl⟩:=h;refine Ws.nox ?_;refine af (yE (ax ((hV T).mono (by decide)) hr rfl T.aaj.m T.aaj.F.kp T.aaj.b au (ac (aa 1 rfl) aj ai) ⟨a,b,c,d,e,f,rfl,M,rfl⟩) ?_)
 refine af (aI (i:=2) pO.nd rfl (Or.inl rfl) (ax ((uN T).mono (by decide)) hr rfl T.aaV.m T.aaV.F.kp T.aaV.b au (ac (aa 0 rfl) (ac (aa 1 rfl) aj ai) ai) ⟨x,y,a,b,c,d,e,f,rfl,⟨sx,sy,M.a,M.b,M.c,M.d⟩,rfl⟩) ?_)
 refine af (a_ (bo (ar (cA (aw (aa 2 rfl) ag rfl rfl) (aw (aa 1 rfl) ag rfl rfl)) (ar (cA (aw (aa 2 rfl) ag rfl rfl) (aw (aa 1 rfl) ag rfl rfl)) bg bp) bp)) ?_);exact rfl
def Av(a b c d e f:Int):U:=
 mv ((a*d-b*c) *d) (-(a*d-b*c) *b) (-(a*d-b*c) *c) ((a*d-b*c) *a) (-((a*d-b*c) *d*e+-(a*d-b*c) *b*f)) (-(-(a*d-b*c) *c*e+(a*d-b*c) *a*f))
def vw:List U->Out->Prop:=λus o=>∃a b c d e f,us=[mv a b c d e f]/\Mv a b c d e f/\o=.val (Av a b c d e f)
theorem f7(T:Txt w K mg):ba P w K mg base (CXF P w) 4 T.aaf.a T.aaf.d ["move"] (spU K (vw)):=by
 refine aV T.aaf.F cO (λus o h=>?_) (λPp A outer s H E O us o hr h=>?_)
 ·obtain⟨a,b,c,d,e,f,rfl,M,rfl⟩:=h;rfl
 obtain⟨a,b,c,d,e,f,rfl,M,rfl⟩:=h;refine Ws.nox ?_;obtain⟨hd,sa,sb,sc,sd,se,sf⟩:=M;have M:Mv a b c d e f:=⟨hd,sa,sb,sc,sd,se,sf⟩;have sh:Sz 8 (a*d-b*c):=by rcases hd with h |h <;>rw[h] <;>decide
 refine af (yE (ax ((hV T).mono (by decide)) hr rfl T.aaj.m T.aaj.F.kp T.aaj.b au (ac (aa 0 rfl) aj ai) ⟨a,b,c,d,e,f,rfl,M,rfl⟩) ?_)
 refine af (aI (i:=1) cO.nd rfl (Or.inl rfl) (ax ((t6 T).mono (by decide)) hr rfl T.aaZ.m T.aaZ.F.kp T.aaZ.b au (ac (aa 0 rfl) aj ai) ⟨a,b,c,d,e,f,rfl,sa,sb,sc,sd,rfl⟩) ?_)
 refine af (aI (i:=2) cO.nd rfl (Or.inl rfl) (aZ (aa 1 rfl) (aw (aa 0 rfl) ag rfl rfl) (by walk_at"mul")) ?_)
 refine af (aI (i:=3) cO.nd rfl (Or.inl rfl) (aZ (bO (aa 1 rfl)) (aw (aa 0 rfl) ag rfl rfl) (by walk_at"mul")) ?_)
 refine af (aI (i:=4) cO.nd rfl (Or.inl rfl) (aZ (bO (aa 1 rfl)) (aw (aa 0 rfl) ag rfl rfl) (by walk_at"mul")) ?_)
 refine af (aI (i:=5) cO.nd rfl (Or.inl rfl) (aZ (aa 1 rfl) (aw (aa 0 rfl) ag rfl rfl) (by walk_at"mul")) ?_)
 refine af (a_ (bo (ar (aa 2 rfl) (ar (aa 3 rfl) (ar (aa 4 rfl) (ar (aa 5 rfl) (ar (bO (cA (aZ (aa 2 rfl) (aw (aa 0 rfl) ag rfl rfl) (by walk_at"mul")) (aZ (aa 3 rfl) (aw (aa 0 rfl) ag rfl rfl) (by walk_at"mul")))) (ar (bO (cA (aZ (aa 4 rfl) (aw (aa 0 rfl) ag rfl rfl) (by walk_at"mul")) (aZ (aa 5 rfl) (aw (aa 0 rfl) ag rfl rfl) (by walk_at"mul")))) bg ki) ki) ai) ai) ai) ai)) ?_)
 exact rfl
theorem yk{a b g s t:Int}(G:di a b g s t):g=((HF a b:Nat):Int):=by
 have h1:g ∣ ((HF a b:Nat):Int):=L5 G.da G.db
 have h2:((HF a b:Nat):Int) ∣ g:=by
  rw[<-G.eq];exact Iy (FV (I0 ..) (F2 _ _)) (FV (II ..) (F2 _ _))
 exact Ni G.g0 (Int.natCast_nonneg _) h1 h2
theorem jK(a b:Int):∃s t,di a b ((HF a b:Nat):Int) s t:=by
 obtain⟨g,s,t,G⟩:=iF a b;have e:=yk G;subst e;exact⟨s,t,G⟩
theorem uX{a b g s t g' s' t':Int}(G:di a b g s t)(gp:0<g)(G':di (a/g) (b/g) g' s' t'):g'=1:=by
 obtain⟨a',ha⟩:=G.da;obtain⟨b',hb⟩:=G.db;have ea:a/g=a':=by rw[ha,GY _ (by lia)]
 have eb:b/g=b':=by rw[hb,GY _ (by lia)]
 rw[ea,eb]at G';have e:=G.eq
 have k1:s*a'+t*b'=1:=by
  have:g*(s*a'+t*b')=g*1:=by rw[ha,hb]at e;grind
  exact F3 (by lia) this
 have d:g' ∣ 1:=by rw[<-k1];exact Iy (FV G'.da (F2 _ _)) (FV G'.db (F2 _ _))
 have:=Int.le_of_dvd (by decide) d
 have h0:=G'.g0;rcases GJ h0 with h |h
 ·lia
 ·rw[<-h]at d;exact absurd (M8.mp d) (by decide)
theorem u9{x0 y0 x1 y1 g s t:Int}(G:di (x1-x0) (y1-y0) g s t)(h:g=0):x0=x1/\y0=y1:=by
 subst h;have h1:=M8.mp G.da;have h2:=M8.mp G.db;lia
structure wL(x0 y0 x1 y1:Int):Prop where
 s0:Sz 3000 x0
 t0:Sz 3000 y0
 s1:Sz 3000 x1
 t1:Sz 3000 y1
def rF:List U->Out->Prop:=λus o=>∃x0 y0 x1 y1 g s t:Int,us=[pt x0 y0,pt x1 y1]/\wL x0 y0 x1 y1/\di (x1-x0) (y1-y0) g s t/\o=.val (.int g)
theorem kB(T:Txt w K mg):ba P w K mg base (CXF P w) 3 T.aaC.a T.aaC.d ["P","Q"] (spU K (rF)):=by
 refine aV T.aaC.F wS (λus o h=>?_) (λPp A outer s H E O us o hr h=>?_)
 ·obtain⟨x0,y0,x1,y1,g,s,t,rfl,⟨s0,t0,s1,t1⟩,G,rfl⟩:=h;rfl
 obtain⟨x0,y0,x1,y1,g,s,t,rfl,⟨s0,t0,s1,t1⟩,G,rfl⟩:=h;refine Ws.nox ?_;refine af (a_ (aw (ax ((lR T).mono (by decide)) hr rfl T.aaH.m T.aaH.F.kp T.aaH.b au (ac (bw (aw (aa 1 rfl) ag rfl rfl) (aw (aa 0 rfl) ag rfl rfl)) (ac (bw (aw (aa 1 rfl) ag rfl rfl) (aw (aa 0 rfl) ag rfl rfl)) aj bp) bp) ⟨_,_,g,s,t,rfl,by walk_at"szb",by walk_at"szb",G,rfl⟩) ag rfl rfl) ?_)
 exact rfl
def rh:List U->Out->Prop:=λus o=>∃x0 y0 x1 y1 g a b s t:Int,us=[pt x0 y0,pt x1 y1]/\wL x0 y0 x1 y1/\di (x1-x0) (y1-y0) g a b/\g≠0/\di ((x1-x0)/g) ((y1-y0)/g) 1 s t/\
  o=.val (mv s t (-((y1-y0)/g)) ((x1-x0)/g) (-s*x0-t*y0) ((y1-y0)/g*x0-(x1-x0)/g*y0))
theorem kh(T:Txt w K mg):ba P w K mg base (CXF P w) 4 T.aaD.a T.aaD.d ["P","Q"] (spU K (rh)):=by
 refine aV T.aaD.F eG (λus o h=>?_) (λPp A outer s H E O us o hr h=>?_)
 ·obtain⟨x0,y0,x1,y1,g,a,b,s,t,rfl,two,G,gn,G1,rfl⟩:=h;rfl
 obtain⟨x0,y0,x1,y1,g,a,b,s,t,rfl,two,G,gn,G1,rfl⟩:=h;refine Ws.nox ?_;have gp:0<g:=by have:=G.g0;lia
 obtain⟨s0,t0,s1,t1⟩:=two;have two:wL x0 y0 x1 y1:=⟨s0,t0,s1,t1⟩;have sx:Sz 3001 (x1-x0):=by walk_at"szb"
 have sy:Sz 3001 (y1-y0):=by walk_at"szb"
 obtain⟨sg,_,_⟩:=hJ G sx sy;have su:Sz 3001 ((x1-x0)/g):=sx.ediv;have sv:Sz 3001 ((y1-y0)/g):=sy.ediv;obtain⟨_,ss,st⟩:=hJ G1 su sv;refine af (aI (i:=2) eG.nd rfl (Or.inl rfl) (ax ((kB T).mono (by decide)) hr rfl T.aaC.m T.aaC.F.kp T.aaC.b au (ac (aa 0 rfl) (ac (aa 1 rfl) aj ai) ai) ⟨x0,y0,x1,y1,g,a,b,rfl,two,G,rfl⟩) ?_)
 refine af (bv (aA bG (aa 2 rfl) ag) (decide_eq_false gn) (aB ?_));refine af (aI (i:=3) eG.nd rfl (Or.inl rfl) (fA (bw (aw (aa 1 rfl) ag rfl rfl) (aw (aa 0 rfl) ag rfl rfl)) (aa 2 rfl) ⟨gp,sg.mono (by decide)⟩) ?_)
 refine af (aI (i:=4) eG.nd rfl (Or.inl rfl) (fA (bw (aw (aa 1 rfl) ag rfl rfl) (aw (aa 0 rfl) ag rfl rfl)) (aa 2 rfl) ⟨gp,sg.mono (by decide)⟩) ?_)
 refine af (aI (i:=5) eG.nd rfl (Or.inl rfl) (ax ((lR T).mono (by decide)) hr rfl T.aaH.m T.aaH.F.kp T.aaH.b au (ac (aa 3 rfl) (ac (aa 4 rfl) aj ai) ai) ⟨_,_,1,s,t,rfl,su.mono (by decide),sv.mono (by decide),G1,rfl⟩) ?_)
 refine af (aI (i:=6) eG.nd rfl (Or.inl rfl) (aw (aa 5 rfl) ag rfl rfl) ?_);refine af (aI (i:=7) eG.nd rfl (Or.inl rfl) (aw (aa 5 rfl) ag rfl rfl) ?_);refine af (a_ (bo (ar (aa 6 rfl) (ar (aa 7 rfl) (ar (bO (aa 4 rfl)) (ar (aa 3 rfl) (ar (bw (aZ (bO (aa 6 rfl)) (aw (aa 0 rfl) ag rfl rfl) (by walk_at"mul")) (aZ (aa 7 rfl) (aw (aa 0 rfl) ag rfl rfl) (by walk_at"mul"))) (ar (bw (aZ (aa 4 rfl) (aw (aa 0 rfl) ag rfl rfl) (by walk_at"mul")) (aZ (aa 3 rfl) (aw (aa 0 rfl) ag rfl rfl) (by walk_at"mul"))) bg bp) bp) ai) ki) ai) ai)) ?_)
 exact rfl
abbrev Pt:=Int×Int
def plt(p q:Pt):Prop:=p.1<q.1\/(p.1=q.1/\p.2<q.2)
def ae(a b p:Pt):Int:=(b.1-a.1) *(p.2-a.2)-(b.2-a.2) *(p.1-a.1)
theorem bu{a b c:Pt}(h1:plt a b)(h2:plt b c):plt a c:=by unfold plt at *;lia
theorem aG(a:Pt):¬ plt a a:=by unfold plt;lia
theorem dw(a b:Pt):plt a b\/a=b\/plt b a:=by
 unfold plt;by_cases h1:a.1=b.1
 ·by_cases h2:a.2=b.2
  ·exact .inr (.inl (F8 h1 h2))
  ·lia
 ·lia
def bU(x y:Int):Prop:=0<x\/(x=0/\0<y)
theorem aD{a b:Pt}(h:plt a b):bU (b.1-a.1) (b.2-a.2):=by unfold plt bU at *;lia
theorem dz{u1 u2 v1 v2 w1 w2:Int}(hu:bU u1 u2)(hv:bU v1 v2)(hw:bU w1 w2)(h1:0<=u1*v2-u2*v1)(h2:0<=v1*w2-v2*w1):0<=u1*w2-u2*w1:=by
 unfold bU at *;by_cases hv1:v1=0
 ·subst hv1;have Sy:0<v2:=by lia
  have hw1:w1=0:=by
   have:v2*w1<=0:=by rw[Hj]at h2;lia
   by_cases hz:0<w1
   ·have:=FD Sy hz;lia
   ·lia
  subst hw1;have hw2:0<w2:=by lia
  have:=Fc (show 0<=u1 by lia) (show 0<=w2 by lia)
  simp;lia
 ·have hv':0<v1:=by lia
  have e:v1*(u1*w2-u2*w1)=u1*(v1*w2-v2*w1)+w1*(u1*v2-u2*v1):=by grind
  have p1:=Fc (show 0<=u1 by lia) h2
  have p2:=Fc (show 0<=w1 by lia) h1
  have:0<=v1*(u1*w2-u2*w1):=by lia
  exact Hl this hv'
theorem d8{u1 u2 v1 v2 w1 w2:Int}(hu:bU u1 u2)(hv:bU v1 v2)(hw:bU w1 w2)(h1:0<u1*v2-u2*v1)(h2:0<=v1*w2-v2*w1):0<u1*w2-u2*w1:=by
 unfold bU at *;by_cases hv1:v1=0
 ·subst hv1;have Sy:0<v2:=by lia
  have hw1:w1=0:=by
   have:v2*w1<=0:=by rw[Hj]at h2;lia
   by_cases hz:0<w1
   ·have:=FD Sy hz;lia
   ·lia
  subst hw1;have hw2:0<w2:=by lia
  have Pr:0<u1:=by
   rcases hu with h |⟨h,_⟩
   ·exact h
   ·subst h;simp at h1
  have:=FD Pr hw2;simp;lia
 ·have hv':0<v1:=by lia
  have e:v1*(u1*w2-u2*w1)=u1*(v1*w2-v2*w1)+w1*(u1*v2-u2*v1):=by grind
  have p1:=Fc (show 0<=u1 by lia) h2
  by_cases hw1:w1=0
  ·subst hw1;have hw2:0<w2:=by lia
   have Pr:0<u1:=by
    rcases hu with h |⟨h,h'⟩
    ·exact h
    ·subst h;have:=FD h' hv';simp at h1;lia
   have:=FD Pr hw2;simp;lia
  ·have p2:=FD (show 0<w1 by lia) h1
   have:0<v1*(u1*w2-u2*w1):=by lia
   exact GZ this (by lia)
def h9:List Pt->Prop
 |b::a::r=>plt a b/\h9 (a::r)
 |_=>True
def jc:List Pt->Prop
 |c::b::a::r=>0<ae a b c/\jc (b::a::r)
 |_=>True
def gL(done:List Pt):List Pt->Prop
 |b::a::r=>(∀q∈done,0<=ae a b q)/\gL done (a::r)
 |_=>True
theorem jc.tail:∀{b:Pt}{st:List Pt},jc (b::st)->jc st
 |_,[],_=>trivial
 |_,[_],_=>trivial
 |_,_::_::_,h=>h.2
theorem h9.tail:∀{b:Pt}{st:List Pt},h9 (b::st)->h9 st
 |_,[],_=>trivial
 |_,_::_,h=>h.2
theorem gL.tail{done:List Pt}:∀{b:Pt}{st:List Pt},gL done (b::st)->gL done st
 |_,[],_=>trivial
 |_,_::_,h=>h.2
def aW(P:Pt):List Pt->List Pt
 |b::a::r=>if ae a b P<=0 then aW P (a::r) else b::a::r
 |st=>st
def am(row:List Pt):List Pt:=row.foldl (λst P=>P::aW P st) []
structure Kept(done st:List Pt):Prop where
 ne:st≠[]
 desc:h9 st
 turns:jc st
 cover:gL done st
 sub:∀p∈st,p∈done
structure uZ(done st:List Pt)(P:Pt):Prop extends Kept done st where
 pend:∀h r,st=h::r->∀q∈done,plt h q->0<=ae h P q
theorem uE{done:List Pt}{P b a:Pt}{r:List Pt}(hP:∀q∈done,plt q P)(D:uZ done (b::a::r) P)(h:ae a b P<=0):uZ done (a::r) P:=by
 refine⟨⟨by simp,D.desc.tail,D.turns.tail,D.cover.tail,λp hp=>D.sub p (EJ _ hp)⟩,?_⟩
 intro h' r' e q hq Pq;cases e;have QG:=D.desc.1;have PN:=D.cover.1 q hq;have SA:=hP b (D.sub b ET);have hqP:=hP q hq;rcases dw q b with z |z |z
 ·have l1:=aD Pq;have l2:=aD QG;have l3:=aD (bu QG SA);have:=dz (u1:=P.1-a.1) (u2:=P.2-a.2) (v1:=b.1-a.1) (v2:=b.2-a.2) (w1:=q.1-a.1) (w2:=q.2-a.2) l3 l2 l1 (by unfold ae at h;grind) (by unfold ae at PN;grind)
  unfold ae;grind
 ·subst z;unfold ae at *;grind
 ·have p:=D.pend b _ rfl q hq z;unfold ae at *;grind
theorem oR{done:List Pt}{P:Pt}(hP:∀q∈done,plt q P):∀st:List Pt,uZ done st P->uZ done (aW P st) P/\(∀b a r,aW P st=b::a::r->0<ae a b P)/\(st.getLast?=(aW P st).getLast?)
 |[],D=>absurd rfl D.ne
 |[b],D=>⟨D,λ_ _ _ e=>by simp[aW]at e,rfl⟩
 |b::a::r,D=>by
  by_cases h:ae a b P<=0
  ·rw[aW,if_pos h];obtain⟨h1,h2,h3⟩:=oR hP (a::r) (uE hP D h);exact⟨h1,h2,by rw[<-h3];simp⟩
  ·rw[aW,if_neg h];refine⟨D,λb' a' r' e=>?_,rfl⟩
   cases e;lia
theorem vF{done st:List Pt}{P:Pt}(hP:∀q∈done,plt q P)(D:uZ done st P)(ht:∀b a r,st=b::a::r->0<ae a b P)(hmin:∀x,st=[x]->∀q∈done,q=x\/plt x q):Kept (done++[P]) (P::st):=by
 have up:∀(b:Pt) (r:List Pt),h9 (b::r)->jc (b::r)->gL done (b::r)->plt b P->(∀a r',r=a::r'->0<=ae a b P)->gL (done++[P]) (b::r):=by
  intro b r
  induction r generalizing b with
  |nil=>intro _ _ _ _ _;trivial
  |cons a r ih=>
   intro hd htn hc SA hl;refine⟨λq hq=>?_,?_⟩
   ·rcases Fx.mp hq with z |z
    ·exact hc.1 q z
    ·rw[EV.mp z];exact hl a r rfl
   ·refine ih a hd.tail htn.tail hc.tail (bu hd.1 SA) (λc r' e=>?_)
    subst e;have t:=htn.1;have g:=hl a _ rfl;have l1:=aD hd.2.1;have l2:=aD hd.1;have l3:=aD (bu hd.1 SA);have:=dz (u1:=a.1-c.1) (u2:=a.2-c.2) (v1:=b.1-a.1) (v2:=b.2-a.2) (w1:=P.1-a.1) (w2:=P.2-a.2) l1 l2 l3 (by unfold ae at t;grind) (by unfold ae at g;grind)
    unfold ae;grind
 obtain⟨h,r,e⟩:∃h r,st=h::r:=by
  cases Qs:st with
  |nil=>exact absurd Qs D.ne
  |cons h r=>exact⟨h,r,rfl⟩
 subst e;have hhP:=hP h (D.sub h ET);refine⟨by simp,⟨hhP,D.desc⟩,?_,⟨λq hq=>?_,?_⟩,λp hp=>?_⟩
 ·cases r with
  |nil=>trivial
  |cons a r'=>exact⟨ht h a r' rfl,D.turns⟩
 ·rcases Fx.mp hq with z |z
  ·rcases dw q h with y |y |y
   ·cases r with
    |nil=>
     rcases hmin h rfl q z with w |w
     ·subst w;exact absurd y (aG _)
     ·exact absurd (bu y w) (aG _)
    |cons a r'=>
     have t:=ht h a r' rfl;have c:=D.cover.1 q z;have l1:=aD D.desc.1;have l2:=aD y;have l3:=aD hhP;have:=dz (u1:=h.1-q.1) (u2:=h.2-q.2) (v1:=h.1-a.1) (v2:=h.2-a.2) (w1:=P.1-h.1) (w2:=P.2-h.2) l2 l1 l3 (by unfold ae at c;grind) (by unfold ae at t;grind)
     unfold ae;grind
   ·subst y;unfold ae;grind
   ·exact D.pend h r rfl q z y
  ·rw[EV.mp z];unfold ae;grind
 ·exact up h r D.desc D.turns D.cover hhP (λa r' e=>M9 (ht h a r' (by rw[e])))
 ·rcases EO.mp hp with z |z
  ·subst z;exact E_ _ ET
  ·exact Fv _ (D.sub p z)
theorem kI(row:List Pt)(P:Pt):am (row++[P])=P::aW P (am row):=by
 unfold am;rw[KU];rfl
theorem jQ{row:List Pt}(hs:row.Pairwise plt):∀n,0<n->n<=row.length->Kept (row.take n) (am (row.take n))/\(am (row.take n)).getLast?=row.head?/\(am (row.take n)).head?=row[n-1]?
 |0,h,_=>absurd h (by decide)
 |1,_,h=>by
  cases row with
  |nil=>simp at h
  |cons a r=>
   simp only[List.take_succ_cons,Ku];exact⟨⟨by simp[am],trivial,trivial,trivial,λp hp=>by simpa [am,aW] using hp⟩,rfl,rfl⟩
 |n+2,_,h=>by
  obtain⟨K,hl,hh⟩:=jQ hs (n+1) (by lia) (by lia)
  have hn:n+1<row.length:=by lia
  have et:row.take (n+2)=row.take (n+1)++[row[n+1]]:=by rw[List.take_succ_eq_append_getElem hn]
  have hP:∀q∈row.take (n+1),plt q row[n+1]:=λq hq=>by
   obtain⟨i,hi,e⟩:=IX.mp hq;subst e;exact FG.mp hs i (n+1) (by lia) hn (by lia)
  have D:uZ (row.take (n+1)) (am (row.take (n+1))) row[n+1]:=⟨K,λh' r e q hq Pq=>by
   exfalso
   rw[e]at hh;simp only[NI,MG]at hh;have RM:n<row.length:=by lia
   rw[EG RM]at hh;have hh':=FY hh;obtain⟨i,hi,e2⟩:=IX.mp hq;subst e2;rw[hh']at Pq;rcases GH i n with z |z
   ·exact aG _ (bu Pq (FG.mp hs i n (by lia) RM z))
   ·have:i=n:=by lia
    subst this;exact aG _ Pq⟩
  obtain⟨D2,ht,P9⟩:=oR hP _ D;rw[et,kI];refine⟨vF hP D2 ht (λx e q hq=>?_),?_,?_⟩
  ·rw[e,hl]at P9;simp at P9;obtain⟨i,hi,e2⟩:=IX.mp hq;have h0:0<row.length:=by lia
   have e3:row[0]=x:=by
    rw[G8,EG h0]at P9;exact FY P9
   subst e2;rcases Kn i with z |z
   ·subst z;exact .inl e3
   ·right;rw[<-e3];exact FG.mp hs 0 i h0 (by lia) z
  ·rw[List.getLast?_cons,<-P9,hl];cases row with
   |nil=>simp at hn
   |cons a r=>rfl
  ·simp only[NI,MG];rw[show n+2-1=n+1 by lia,EG hn]
theorem cD{row:List Pt}(hs:row.Pairwise plt)(h:row≠[]):Kept row (am row)/\(am row).getLast?=row.head?/\(am row).head?=row.getLast?:=by
 have h0:0<row.length:=FH.mpr h;obtain⟨h1,h2,h3⟩:=jQ hs row.length h0 (EU _);rw[G5]at h1 h2 h3;exact⟨h1,h2,by rw[h3,Ga]⟩
theorem jj{u1 u2 v1 v2 w1 w2:Int}(hu:bU u1 u2)(hv:bU v1 v2)(hw:bU w1 w2)(h1:0<=u1*v2-u2*v1)(h2:0<v1*w2-v2*w1):0<u1*w2-u2*w1:=by
 unfold bU at *;by_cases hv1:v1=0
 ·subst hv1;have Sy:0<v2:=by lia
  have:=Fc (show 0<=v2 by lia) (show 0<=w1 by lia)
  simp at h2;lia
 ·have hv':0<v1:=by lia
  have Pr:0<u1:=by
   rcases hu with h |⟨h,h'⟩
   ·exact h
   ·subst h;have:=FD h' hv';simp at h1;lia
  have e:v1*(u1*w2-u2*w1)=u1*(v1*w2-v2*w1)+w1*(u1*v2-u2*v1):=by grind
  have p1:=FD Pr h2;have p2:=Fc (show 0<=w1 by lia) h1
  have q:0<v1*(u1*w2-u2*w1):=by lia
  exact GZ q hv'
def low(row:List Pt)(p:Pt):Prop:=∀a∈row,∀b∈row,plt a p->plt p b->0<ae a p b
theorem A8{row:List Pt}{p:Pt}:∀(st:List Pt) (n:Pt),h9 (n::st)->jc (n::st)->gL row (n::st)->p∈st->(∀l,(n::st).getLast?=some l->plt l p)->
  ∃n' q,0<ae q p n'/\plt q p/\plt p n'/\(∀x∈row,0<=ae p n' x)/\(∀x∈row,0<=ae q p x)
 |[],n,_,_,_,hp,_=>by simp at hp
 |h::r,n,D,T,C,hp,hl=>by
  by_cases e:h=p
  ·subst e;cases r with
   |nil=>exact absurd (hl h (by simp)) (aG h)
   |cons q r'=>exact⟨n,q,T.1,D.2.1,D.1,C.1,C.2.1⟩
  ·have Qz:p∈r:=by
    rcases EO.mp hp with z |z
    ·exact absurd z.symm e
    ·exact z
   exact A8 r h D.tail T.tail C.tail Qz (λl PH=>hl l (by rw[Gk];exact PH))
theorem nG{row:List Pt}(hs:row.Pairwise plt){p:Pt}(hp:p∈am row):low row p:=by
 intro a ha b hb hap RL;have Pn:row≠[]:=λz=>by rw[z]at ha;simp at ha
 obtain⟨K,P9,QW⟩:=cD hs Pn
 have mn:∀x∈row,∀m,row.head?=some m->x=m\/plt m x:=λx hx m hm=>by
  cases row with
  |nil=>simp at hx
  |cons y r=>
   cases hm;rcases EO.mp hx with z |z
   ·exact .inl z
   ·exact .inr ((Fi.mp hs).1 x z)
 have mx:∀x∈row,∀m,row.getLast?=some m->x=m\/plt x m:=λx hx m hm=>by
  obtain⟨i,hi⟩:=FK.mp hx;have Sw:=(E1.mp hi).1;rw[Ga]at hm;have hml:=(E1.mp hm).1;rcases Fq (show i<=row.length-1 by lia) with z |z
  ·right
   have h1:=FG.mp hs i (row.length-1) Sw hml z;rw[(E1.mp hi).2,(E1.mp hm).2]at h1;exact h1
  ·left;rw[z,hm]at hi;exact (FY hi).symm
 cases Qs:am row with
 |nil=>exact absurd Qs K.ne
 |cons n st=>
  rw[Qs]at K P9 QW hp;have hn:row.getLast?=some n:=by rw[<-QW];rfl
  have hpn:p∈st:=by
   rcases EO.mp hp with z |z
   ·rcases mx b hb n hn with y |y
    ·rw[y,<-z]at RL;exact absurd RL (aG p)
    ·rw[z]at RL;exact absurd (bu RL y) (aG n)
   ·exact z
  obtain⟨n',q,t,qp,pn,c1,c2⟩:=A8 st n K.desc K.turns K.cover hpn (λl hl=>by
   rw[P9]at hl;rcases mn a ha l hl with y |y
   ·rw[<-y];exact hap
   ·exact bu y hap)
  have g1:=c2 a ha;have g2:=c1 b hb;unfold ae at *;have k1:0<=(p.1-a.1) *(p.2-q.2)-(p.2-a.2) *(p.1-q.1):=by grind
  have k2:0<(p.1-q.1) *(n'.2-p.2)-(p.2-q.2) *(n'.1-p.1):=by grind
  have k3:0<=(n'.1-p.1) *(b.2-p.2)-(n'.2-p.2) *(b.1-p.1):=by grind
  have k4:=d8 (aD qp) (aD pn) (aD RL) k2 k3;have k5:=jj (aD hap) (aD qp) (aD RL) k1 k4;grind
theorem yy{row:List Pt}{p:Pt}:∀(st:List Pt) (h:Pt),h9 (h::st)->gL row (h::st)->p∈row->p ∉ h::st->plt p h->(∀l,(h::st).getLast?=some l->plt l p)->∃a∈h::st,∃b∈h::st,plt a p/\plt p b/\0<=ae a b p
 |[],h,_,_,_,_,hp,hl=>absurd (bu hp (hl h (by simp))) (aG p)
 |a::r,h,D,C,hr,Qw,hp,hl=>by
  rcases dw p a with z |z |z
  ·obtain⟨x,hx,y,hy,k⟩:=yy r a D.tail C.tail hr (λw=>Qw (EJ _ w)) z (λl PH=>hl l (by rw[Gk];exact PH))
   exact⟨x,EJ _ hx,y,EJ _ hy,k⟩
  ·exact absurd (by rw[z];simp) Qw
  ·exact⟨a,by simp,h,by simp,z,hp,C.1 p hr⟩
theorem gap{row:List Pt}(hs:row.Pairwise plt){p:Pt}(hp:p∈row)(Qw:p ∉ am row):∃a∈am row,∃b∈am row,plt a p/\plt p b/\ae a p b<=0:=by
 have Pn:row≠[]:=λz=>by rw[z]at hp;simp at hp
 obtain⟨K,P9,QW⟩:=cD hs Pn;cases Qs:am row with
 |nil=>exact absurd Qs K.ne
 |cons n st=>
  rw[Qs]at K P9 QW Qw;have hn:row.getLast?=some n:=by rw[<-QW];rfl
  have pn:plt p n:=by
   obtain⟨i,hi⟩:=FK.mp hp;have Sw:=(E1.mp hi).1;rw[Ga]at hn;have hml:=(E1.mp hn).1;rcases Fq (show i<=row.length-1 by lia) with z |z
   ·have h1:=FG.mp hs i (row.length-1) Sw hml z;rw[(E1.mp hi).2,(E1.mp hn).2]at h1;exact h1
   ·rw[z,hn]at hi;exact absurd (by rw[<-FY hi];simp) Qw
  obtain⟨a,ha,b,hb,k1,k2,k3⟩:=yy st n K.desc K.cover hp Qw pn (λl hl=>by
   have PH:=hl;rw[P9]at hl;cases row with
   |nil=>simp at hp
   |cons y r=>
    cases hl;rcases EO.mp hp with z |z
    ·exact absurd (by rw[z];exact G4 PH) Qw
    ·exact (Fi.mp hs).1 p z)
  refine⟨a,ha,b,hb,k1,k2,?_⟩;unfold ae at *;grind
theorem uH{row Qg:List Pt}(hs:row.Pairwise plt)(Q8:Qg.Pairwise plt)(h1:∀p∈Qg,p∈row)(h2:∀p∈am row,p∈Qg)(sub:∀(r:List Pt) (q:Pt),q∈am r->q∈r)(p:Pt):p∈am Qg↔p∈am row:=by
 constructor
 ·intro hp;refine FP λQw=>?_
  obtain⟨a,ha,b,hb,k1,k2,k3⟩:=gap hs (h1 p (sub _ _ hp)) Qw;have:=nG Q8 hp a (h2 a ha) b (h2 b hb) k1 k2;lia
 ·intro hp;refine FP λQw=>?_
  obtain⟨a,ha,b,hb,k1,k2,k3⟩:=gap Q8 (h2 p hp) Qw;have:=nG hs hp a (h1 a (sub _ _ ha)) b (h1 b (sub _ _ hb)) k1 k2;lia
abbrev Szp(m:Nat)(p:P2):Prop:=Sz m p.1/\Sz m p.2
theorem rO(b:P2)(r:List P2):atI ((b::r).reverse.map pu) (-1)=some (pu b):=by
 have h:ixN ((b::r).reverse.map pu).length (-1)=some r.length:=by
  unfold ixN;simp;lia
 unfold atI;rw[h];simp
theorem sD(b a:P2)(r:List P2):atI ((b::a::r).reverse.map pu) (-2)=some (pu a):=by
 have h:ixN ((b::a::r).reverse.map pu).length (-2)=some r.length:=by
  unfold ixN;simp;lia
 unfold atI;rw[h];simp
theorem jw(P:P2):∀st:List P2,(aW P st).length<=st.length
 |[]=>EU _
 |[_]=>EU _
 |b::a::r=>by
  unfold aW;split
  ·have:=jw P (a::r);simp only[FN]at *;lia
  ·exact EU _
theorem sS(P:P2):∀(st:List P2) (q:P2),q∈aW P st->q∈st
 |[],_,h=>h
 |[_],_,h=>h
 |b::a::r,q,h=>by
  unfold aW at h;split at h
  ·exact EJ _ (sS P (a::r) q h)
  ·exact h
theorem fH{row:List P2}{i:Nat}{P:P2}(h:row[i]?=some P):am (row.take (i+1))=P::aW P (am (row.take i)):=by
 rw[He,h];exact kI _ _
theorem gu(row:List P2):∀i,(am (row.take i)).length<=i
 |0=>by simp[am]
 |i+1=>by
  have ih:=gu row i;cases h:row[i]? with
  |none=>rw[He,h];simp;lia
  |some P=>
   rw[fH h];have:=jw P (am (row.take i));simp only[FN];lia
theorem fq(row:List P2):∀i q,q∈am (row.take i)->q∈row
 |0,q,h=>by simp[am]at h
 |i+1,q,h=>by
  cases hi:row[i]? with
  |none=>rw[He,hi]at h;exact fq row i q (by simpa using h)
  |some P=>
   rw[fH hi]at h;rcases EO.mp h with e |e
   ·rw[e];exact E5 hi
   ·exact fq row i q (sS P _ q e)
theorem xD(n:Int):decide (sgn n<1)=decide (n<=0):=by
 have h:sgn n<1↔n<=0:=by
  unfold sgn;split
  ·lia
  ·split <;>lia
 exact decide_eq_decide.mpr h
theorem fZ(l:List P2):g6 (l.map pu) none (some (-1))=l.dropLast.map pu:=by
 unfold g6 HT.sIx;rw[KY,List.dropLast_eq_take];simp
 try lia
def ao(pts:List P2):List P2:=if (ST.srt pts).length=1 then ST.srt pts else (am (ST.srt pts)).reverse.dropLast++(am (ST.srt pts).reverse).reverse.dropLast
theorem eF(a b:Pt):plt a b↔ST.ltP a b=true:=by unfold plt ST.ltP;simp
theorem iA{l:List Pt}:ST.Asc l↔l.Pairwise plt:=⟨λh=>h.imp λ{a b} k=>(eF a b).mpr k,λh=>h.imp λ{a b} k=>(eF a b).mp k⟩
theorem lJ:∀{st:List Pt},h9 st->st.Pairwise (λx y=>plt y x)
 |[],_=>IF
 |[_],_=>by simp
 |b::a::r,h=>by
  have ih:=lJ h.2;refine Fi.mpr ⟨λx hx=>?_,ih⟩
  rcases EO.mp hx with z |z
  ·rw[z];exact h.1
  ·exact bu ((Fi.mp ih).1 x z) h.1
theorem bT(row:List Pt)(q:Pt)(h:q∈am row):q∈row:=by
 have:=fq row row.length q;rw[G5]at this;exact this h
theorem dX{row:List Pt}(hs:row.Pairwise plt):ST.Asc (am row).reverse:=by
 by_cases Pn:row=[]
 ·subst Pn;exact IF
 ·exact iA.mpr (Iz.mpr (lJ (cD hs Pn).1.desc))
theorem o5{row Qg:List Pt}(hs:row.Pairwise plt)(Q8:Qg.Pairwise plt)(h1:∀p∈Qg,p∈row)(h2:∀p∈am row,p∈Qg):am Qg=am row:=by
 have e:=ST.asc_one (dX Q8) (dX hs) λz=>by
  rw[E9,E9];exact uH hs Q8 h1 h2 bT z
 exact List.reverse_inj.mp e
def ng(p:Pt):Pt:=(-p.1,-p.2)
theorem gK(p:Pt):ng (ng p)=p:=by unfold ng;simp
theorem B8(l:List Pt):(l.map ng).map ng=l:=by
 rw[Fh,show ng ∘ ng=id from funext gK,O_]
theorem jP(a b c:Pt):ae (ng a) (ng b) (ng c)=ae a b c:=by unfold ae ng;grind
theorem kW{a b:Pt}(h:plt a b):plt (ng b) (ng a):=by unfold plt ng at *;simp;lia
theorem wT(P:Pt):∀st:List Pt,aW (ng P) (st.map ng)=(aW P st).map ng
 |[]=>rfl
 |[_]=>rfl
 |b::a::r=>by
  show aW (ng P) (ng b::ng a::r.map ng)=_;unfold aW;rw[jP];split
  ·exact wT P (a::r)
  ·rfl
theorem gi:∀row:List Pt,am (row.map ng)=(am row).map ng:=λrow=>by
 have key:∀(l:List Pt) (st:List Pt),(l.map ng).foldl (λst P=>P::aW P st) (st.map ng)=(l.foldl (λst P=>P::aW P st) st).map ng:=by
  intro l
  induction l with
  |nil=>intro st;rfl
  |cons p r ih=>
   intro st;rw[E2,Hh,Hh,wT];exact ih (p::aW p st)
 exact key row []
theorem c6{row:List Pt}(hs:row.Pairwise plt):(row.reverse.map ng).Pairwise plt:=by
 rw[FF,Iz];exact hs.imp λ{a b} h=>kW h
theorem bY(row:List Pt):am row.reverse=(am (row.reverse.map ng)).map ng:=by rw[gi,B8]
theorem nO{row Qg:List Pt}(hs:row.Pairwise plt)(Q8:Qg.Pairwise plt)(h1:∀p∈Qg,p∈row)(h2:∀p∈am row.reverse,p∈Qg):am Qg.reverse=am row.reverse:=by
 rw[bY row,bY Qg];congr 1;refine o5 (c6 hs) (c6 Q8) (λp hp=>?_) (λp hp=>?_)
 ·obtain⟨q,hq,rfl⟩:=ER.mp hp;exact ER.mpr ⟨q,E9.mpr (h1 q (E9.mp hq)),rfl⟩
 ·rw[gi]at hp;obtain⟨q,hq,rfl⟩:=ER.mp hp;exact ER.mpr ⟨q,E9.mpr (h2 q hq),rfl⟩
theorem ends{row:List Pt}(hs:row.Pairwise plt)(h2:2<=row.length):∃mn mx t1 t2,am row=mx::t1/\am row.reverse=mn::t2/\mn∈t1/\mx∈t2/\(∀p∈row,p=mn\/plt mn p)/\(∀p∈row,p=mx\/plt p mx)/\mn∈row/\mx∈row:=by
 have Pn:row≠[]:=λz=>by rw[z]at h2;simp at h2
 obtain⟨K,hl,hh⟩:=cD hs Pn;have hneR:row.reverse.map ng≠[]:=by simpa using Pn
 obtain⟨KR,hlR,hhR⟩:=cD (c6 hs) hneR;have e1:row.head?=some row[0]:=by rw[G8];exact EG (by lia)
 have e2:row.getLast?=some row[row.length-1]:=by rw[Ga];exact EG (by lia)
 have l01:plt row[0] row[row.length-1]:=FG.mp hs 0 (row.length-1) (by lia) (by lia) (by lia)
 have mnA:∀p∈row,p=row[0]\/plt row[0] p:=λp hp=>by
  obtain⟨i,hi,rfl⟩:=Mf.mp hp;rcases Kn i with z |z
  ·left;subst z;rfl
  ·right;exact FG.mp hs 0 i (by lia) hi z
 have mxA:∀p∈row,p=row[row.length-1]\/plt p row[row.length-1]:=λp hp=>by
  obtain⟨i,hi,rfl⟩:=Mf.mp hp;rcases Fq (show i<=row.length-1 by lia) with z |z
  ·right;exact FG.mp hs i (row.length-1) hi (by lia) z
  ·left;subst z;rfl
 have ne:row[0]≠row[row.length-1]:=λz=>by rw[z]at l01;exact aG _ l01
 generalize row[0]=mn at *;generalize row[row.length-1]=mx at *;have mmn:mn∈row:=IJ e1;have mmx:mx∈row:=G4 e2;rw[e1]at hl;rw[e2]at hh
 have RD:(am row.reverse).getLast?=some mx:=by
  rw[bY,JI,hlR,Kz,Kr,e2];simp[gK]
 have RZ:(am row.reverse).head?=some mn:=by
  rw[bY,Kz,hhR,JI,JU,e1];simp[gK]
 cases hb:am row with
 |nil=>rw[hb]at hh;cases hh
 |cons x t1=>
  rw[hb]at hh hl;cases hh;cases hbR:am row.reverse with
  |nil=>rw[hbR]at RZ;cases RZ
  |cons y t2=>
   rw[hbR]at RZ RD;cases RZ;refine⟨_,_,t1,t2,rfl,rfl,?_,?_,mnA,mxA,mmn,mmx⟩
   ·cases t1 with
    |nil=>simp at hl;exact absurd hl.symm ne
    |cons z r=>rw[Gk]at hl;exact G4 hl
   ·cases t2 with
    |nil=>simp at RD;exact absurd RD ne
    |cons z r=>rw[Gk]at RD;exact G4 RD
theorem yx(st:List Pt):st.reverse.dropLast=st.tail.reverse:=by
 cases st with
 |nil=>rfl
 |cons h t=>simp
theorem gA{l:List Pt}:l.reverse.Nodup↔l.Nodup:=by
 unfold List.Nodup;rw[Iz];exact⟨λh=>h.imp λk=>Ne.symm k,λh=>h.imp λk=>Ne.symm k⟩
theorem d7:∀{l m:List Pt},l.Nodup->(∀x∈l,x∈m)->l.length<=m.length
 |[],_,_,_=>FU _
 |x::l,m,h,hs=>by
  obtain⟨h1,h2⟩:=Gw.mp h;have hx:x∈m:=hs x ET;have ih:=d7 (m:=m.erase x) h2 λy hy=>(Me (λe=>h1 (by rw[<-e];exact hy))).mpr (hs y (EJ _ hy))
  rw[KO hx]at ih;have:=Gb hx;simp only[FN];lia
theorem dS(pts:List Pt):(ST.srt pts).Pairwise plt:=iA.mp (ST.srt_asc pts)
theorem f_{pts:List Pt}(h:2<=(ST.srt pts).length):ao pts=(am (ST.srt pts)).tail.reverse++(am (ST.srt pts).reverse).tail.reverse:=by
 unfold ao;rw[if_neg (by lia),yx,yx]
theorem hW{pts:List Pt}(h:pts≠[]):ao pts≠[]:=by
 have hs:ST.srt pts≠[]:=λz=>by
  obtain⟨p,r,rfl⟩:=List.exists_cons_of_ne_nil h;have:=(ST.srt_mem p (p::r)).mpr ET;rw[z]at this;simp at this
 by_cases h1:(ST.srt pts).length=1
 ·unfold ao;rw[if_pos h1];exact hs
 ·have h2:2<=(ST.srt pts).length:=by have:=FH.mpr hs;lia
  obtain⟨mn,mx,t1,t2,e1,e2,m1,m2,_⟩:=ends (dS pts) h2;rw[f_ h2,e1,e2];intro z;have:t1.reverse=[]:=(List.append_eq_nil_iff.mp z).1;rw[List.reverse_eq_nil_iff.mp this]at m1;simp at m1
theorem bV(pts:List Pt):(ao pts).Nodup:=by
 have nd:∀{l:List Pt},l.Pairwise plt->l.Nodup:=λh=>h.imp λ{a b} k e=>by rw[e]at k;exact aG b k
 by_cases h2:2<=(ST.srt pts).length
 ·have hs:=dS pts;obtain⟨mn,mx,t1,t2,e1,e2,m1,m2,Sm,hmx,i1,i2⟩:=ends hs h2;have n1:(mx::t1).Nodup:=by rw[<-e1];exact gA.mp (nd (iA.mp (dX hs)))
  have n2:(mn::t2).Nodup:=by
   rw[<-e2,bY];have:=gA.mp (nd (iA.mp (dX (c6 hs))));refine FF.mpr (this.imp λ{a b} QG e=>QG ?_)
   rw[<-gK a,e,gK]
  obtain⟨x1,y1⟩:=Gw.mp n1;obtain⟨x2,y2⟩:=Gw.mp n2;rw[f_ h2,e1,e2,HW,HW,Hy];refine⟨gA.mpr y1,gA.mpr y2,λp hp q hq=>?_⟩
  rintro rfl;have p1:p∈t1:=E9.mp hp;have p2:p∈t2:=E9.mp hq;have b1:p∈am (ST.srt pts):=by rw[e1];exact EJ _ p1
  have b2:p∈am (ST.srt pts).reverse:=by rw[e2];exact EJ _ p2
  have pr:=bT _ _ b1;have l1:plt mn p:=(Sm p pr).resolve_left λe=>x2 (by rw[<-e];exact p2)
  have l2:plt p mx:=(hmx p pr).resolve_left λe=>x1 (by rw[<-e];exact p1)
  have d1:=nG hs b1 mn i1 mx i2 l1 l2;have b3:ng p∈am ((ST.srt pts).reverse.map ng):=by rw[gi];exact ER.mpr ⟨p,b2,rfl⟩
  have d2:=nG (c6 hs) b3 (ng mx) (ER.mpr ⟨mx,E9.mpr i2,rfl⟩) (ng mn) (ER.mpr ⟨mn,E9.mpr i1,rfl⟩) (kW l2) (kW l1);rw[jP]at d2;unfold ae at d1 d2;grind
 ·unfold ao;split
  ·exact nd (dS pts)
  ·have e:ST.srt pts=[]:=GE.mp (by lia)
   rw[e];exact Mn
theorem bA(pts:List Pt):∀p∈ao pts,p∈pts:=λp hp=>by
 unfold ao at hp;split at hp
 ·exact (ST.srt_mem p pts).mp hp
 ·rcases Fx.mp hp with h |h
  ·exact (ST.srt_mem p pts).mp (bT _ _ (E9.mp (Mg _ h)))
  ·exact (ST.srt_mem p pts).mp (E9.mp (bT _ _ (E9.mp (Mg _ h))))
theorem hX(pts:List Pt):(ao pts).length<=pts.length:=d7 (bV pts) (bA pts)
theorem gC(pts:List Pt):ao (ao pts)=ao pts:=by
 by_cases h2:2<=(ST.srt pts).length
 ·have hs:=dS pts;obtain⟨mn,mx,t1,t2,e1,e2,m1,m2,Sm,hmx,i1,i2⟩:=ends hs h2;have ec:=f_ h2
  have mem1:∀p∈am (ST.srt pts),p∈ao pts:=λp hp=>by
   rw[ec,e1,e2,HW,HW];rw[e1]at hp;rcases EO.mp hp with z |z
   ·rw[z];exact E_ _ (E9.mpr m2)
   ·exact Fv _ (E9.mpr z)
  have mem2:∀p∈am (ST.srt pts).reverse,p∈ao pts:=λp hp=>by
   rw[ec,e1,e2,HW,HW];rw[e2]at hp;rcases EO.mp hp with z |z
   ·rw[z];exact Fv _ (E9.mpr m1)
   ·exact E_ _ (E9.mpr z)
  have Q8:=dS (ao pts);have sub:∀p∈ST.srt (ao pts),p∈ST.srt pts:=λp hp=>(ST.srt_mem p pts).mpr (bA pts p ((ST.srt_mem p _).mp hp))
  have q1:=o5 hs Q8 sub λp hp=>(ST.srt_mem p _).mpr (mem1 p hp)
  have q2:=nO hs Q8 sub λp hp=>(ST.srt_mem p _).mpr (mem2 p hp)
  have len:2<=(ST.srt (ao pts)).length:=by
   have a1:mn∈ST.srt (ao pts):=(ST.srt_mem _ _).mpr (mem1 mn (by rw[e1];exact EJ _ m1))
   have a2:mx∈ST.srt (ao pts):=(ST.srt_mem _ _).mpr (mem1 mx (by rw[e1];exact ET))
   have ne:mn≠mx:=λz=>by
    have nd:=bV pts;rw[ec,e1,e2,HW,HW,Hy]at nd;exact nd.2.2 mn (E9.mpr m1) mx (E9.mpr m2) z
   have:=d7 (l:=[mn,mx]) (m:=ST.srt (ao pts)) (by simp[ne]) (λx hx=>by
    rcases EO.mp hx with z |z
    ·rw[z];exact a1
    ·rw[EV.mp z];exact a2)
   exact this
  rw[f_ len,q1,q2,<-ec]
 ·have e:ao pts=ST.srt pts:=by
   unfold ao;split
   ·rfl
   ·have e:ST.srt pts=[]:=GE.mp (by lia)
    rw[e];rfl
  rw[e];have e3:ST.srt (ST.srt pts)=ST.srt pts:=ST.asc_srt (ST.srt_asc pts);unfold ao;rw[e3];split
  ·rfl
  ·have e:ST.srt pts=[]:=GE.mp (by lia)
   rw[e];rfl
def vE:List U->Out->Prop:=λus o=>∃P Q R:P2,us=[pu P,pu Q,pu R]/\Szp 5000 P/\Szp 5000 Q/\Szp 5000 R/\o=.val (.int (sgn (ae P Q R)))
theorem jy(T:Txt w K mg):ba P w K mg base (CXF P w) 2 T.aaM.a T.aaM.d ["P","Q","R"] (spU K (vE)):=by
 refine aV T.aaM.F y9 (λus o h=>?_) (λPp A outer s H E O us o hr h=>?_)
 ·obtain⟨P,Q,R,rfl,⟨p1,p2⟩,⟨q1,q2⟩,⟨r1,r2⟩,rfl⟩:=h;rfl
 obtain⟨P,Q,R,rfl,⟨p1,p2⟩,⟨q1,q2⟩,⟨r1,r2⟩,rfl⟩:=h;refine Ws.nox ?_;refine af (a_ (ax ((tU T).mono (by decide)) hr rfl T.aaY.m T.aaY.F.kp T.aaY.b au (ac (bw (aZ (bw (aw (aa 1 rfl) ag rfl rfl) (aw (aa 0 rfl) ag rfl rfl)) (bw (aw (aa 2 rfl) ag rfl rfl) (aw (aa 0 rfl) ag rfl rfl)) (by walk_at"mul")) (aZ (bw (aw (aa 1 rfl) ag rfl rfl) (aw (aa 0 rfl) ag rfl rfl)) (bw (aw (aa 2 rfl) ag rfl rfl) (aw (aa 0 rfl) ag rfl rfl)) (by walk_at"mul"))) aj bp) ⟨_,rfl,rfl⟩) ?_)
 exact rfl
def kE:List U->Out->Prop:=λus o=>∃row:List P2,us=[lp row]/\(∀p∈row,Szp 5000 p)/\row.length<=900/\o=.new ((am row).reverse.map pu)
theorem gN(T:Txt w K mg):ba P w K mg base (CXF P w) 3 T.aag.a T.aag.d ["row"] (spU K (kE)):=by
 refine aV T.aag.F fe (λus o h=>?_) (λPp A outer s H E O us o hr h=>?_)
 ·obtain⟨row,rfl,sz,hl,rfl⟩:=h;rfl
 obtain⟨row,rfl,sz,hl,rfl⟩:=h;refine Ws.nox ?_;refine af (eQ (i:=1) fe.nd rfl (Or.inl rfl) (dg bg) ?_);refine af (dJ (λst:List P2=>[some (.val (lp row)),some (.own (st.reverse.map pu)),none]) (λi st=>st=am (row.take i)) rfl PassesOwn.never (bQ (aa 0 rfl) (.inl rfl)) ?h0 ?hs ?hd)
 case h0=>exact⟨[],rfl,rfl,rfl,trivial⟩
 case hs=>
  rintro H0 i x _ hx rfl;obtain⟨P,hP,mP,rfl⟩:=kJ hx;have hi:i<row.length:=aF hP;have sP:=sz P mP;refine⟨_,(eu (i:=2) fe.nd rfl (Or.inl rfl)),?_⟩;have len0:=gu row i;refine iP (λps=>SubP [some (.val (lp row)),some (.own ((aW P (am (row.take i))).reverse.map pu)),some (.val (pu P))] ps) (gh (λs2:List P2=>[some (.val (lp row)),some (.own (s2.reverse.map pu)),some (.val (pu P))]) (λm s2=>m=s2.length/\aW P s2=aW P (am (row.take i))/\(∀p∈s2,p∈row)/\s2.length<=i) PassesOwn.never ?h0 ?hs) ?hj
  case h0=>exact⟨_,_,⟨rfl,rfl,λq hq=>fq row i q hq,len0⟩,rfl,rfl,rfl,trivial⟩
  case hs=>
   rintro m s2 ⟨rfl,e2,sub,QK⟩
   match s2,e2,sub,QK with
   |[],e2,sub,QK=>
    refine⟨false,?_,λh=>(nomatch h),λh ps PU=>e2 ▸ PU⟩
    exact (Tw.t (iI (aA fE (cq 1 rfl rfl T.aac) ag) rfl))
   |[b],e2,sub,QK=>
    refine⟨false,?_,λh=>(nomatch h),λh ps PU=>e2 ▸ PU⟩
    exact (Tw.t (iI (aA fE (cq 1 rfl rfl T.aac) ag) rfl))
   |b::a::r,e2,sub,QK=>
    have sa:=sz a (sub a (by simp))
    have sb:=sz b (sub b (by simp))
    have e1:decide ((1:Int)<((((b::a::r).reverse.map pu).length:Nat):Int))=true:=decide_eq_true (by simp;lia)
    refine⟨decide ((1:Int)<((((b::a::r).reverse.map pu).length:Nat):Int)) && decide (sgn (ae a b P)<1),?_,λh=>?_,λh ps PU=>?_⟩
    ·exact (Tw.t (rX (aA fE (cq 1 rfl rfl T.aac) ag) (λhz=>(qP (aA e_ (ax ((jy T).mono (by decide)) hr rfl T.aaM.m T.aaM.F.kp T.aaM.b au (ac (eV 1 rfl (bO ag) (sD b a r)) (ac (eV 1 rfl (bO ag) (rO b (a::r))) (ac (aa 2 rfl) aj ai) aH) aH) ⟨a,b,P,rfl,sa,sb,sP,rfl⟩) ag)))))
    ·rw[e1,IG,xD]at h;have hd:=dTb h;refine af (v9 1 rfl (by simp) (aB ?_))
     refine⟨_,a::r,?_,⟨rfl,?_,λq hq=>sub q (EJ _ hq),?_⟩,rfl,?_,rfl,trivial⟩
     ·simp
     ·rw[←e2];conv=>rhs;unfold aW
      rw[if_pos hd]
     ·simp only[FN]at *;lia
     ·exact congrArg (λl=>some (Sl.own l)) (by simp)
    ·rw[e1,IG,xD]at h;have hd:=dFb h
     have e3:aW P (b::a::r)=b::a::r:=by conv=>lhs;unfold aW
                                        rw[if_neg hd]
     rw[<-e2,e3];exact PU
  case hj=>
   intro ps PU;refine c7 ?_ PU;have e4:=fH hP;have R0:=jw P (am (row.take i));refine af (ck 1 rfl (aa 2 rfl) (by rw[EH,FQ];exact ay (by lia)) (aB ?_))
   refine⟨_,rfl,rfl,?_,trivial⟩;exact congrArg (λl=>some (Sl.own l)) (by rw[e4];simp)
 case hd=>
  rintro st ps Qs PU;refine c7 ?_ PU;refine af (eX 1 rfl ?_);rw[Qs];simp
theorem x_{m:Nat}{pts:List P2}(h:∀p∈pts,Szp m p):∀p∈ST.srt pts,Szp m p:=λp hp=>h p ((ST.srt_mem p pts).mp hp)
theorem iD(row:List P2):(am row).length<=row.length:=by
 have:=gu row row.length
 rwa [G5]at this
def qk:List U->Out->Prop:=λus o=>∃pts:List P2,us=[lp pts]/\(∀p∈pts,Szp 5000 p)/\pts.length<64/\pts≠[]/\o=.new ((ao pts).map pu)
theorem kD(T:Txt w K mg):ba P w K mg base (CXF P w) 4 T.aaE.a T.aaE.d ["points"] (spU K (qk)):=by
 refine aV T.aaE.F gd (λus o h=>?_) (λPp A outer s H E O us o hr h=>?_)
 ·obtain⟨pts,rfl,sz,hl,Pn,rfl⟩:=h;rfl
 obtain⟨pts,rfl,sz,hl,Pn,rfl⟩:=h;refine Ws.nox ?_;have hml:((pts.map pu).length:Int)=(pts.length:Int):=by rw[EH]
 have hpos:0<pts.length:=FH.mpr Pn;refine af (bv (aA bG (aq (bn rfl) rfl T.aac E8 (ac (aa 0 rfl) aj ai)) ag) (by rw[hml];exact decide_eq_false (by lia)) (aB ?_))
 have sl:=ST.srt_len pts;have hms:(((ST.srt pts).map pu).length:Int)=((ST.srt pts).length:Int):=by rw[EH]
 have szs:=x_ sz;by_cases h1:(ST.srt pts).length=1
 ·refine af (eQ (i:=1) gd.nd rfl (Or.inl rfl) (gB rfl (eK hr) rfl T.aaS rfl T.aa_ (aa 0 rfl) hl ai) ?_);refine af (df (aA bG (cq 1 rfl rfl T.aac) ag) (by rw[hms];exact decide_eq_true (by lia)) ?_)
  refine af (eX 1 rfl ?_);show Out.new _=Out.new _;unfold ao;rw[if_pos h1]
 ·refine af (aI (i:=1) gd.nd rfl (Or.inl rfl) (EvN.ev (gB rfl (eK hr) rfl T.aaS rfl T.aa_ (aa 0 rfl) hl ai)) ?_);refine af (bv (aA bG (aq (bn rfl) rfl T.aac E8 (ac (aa 1 rfl) aj ai)) ag) (by rw[hms];exact decide_eq_false (by lia)) (aB ?_))
  have b1:=iD (ST.srt pts);have b2:=iD (ST.srt pts).reverse;rw[FQ]at b2;refine af (aI (i:=2) gd.nd rfl (Or.inl rfl) (EvN.ev (bj ((gN T).mono (by decide)) hr rfl T.aag.m T.aag.F.kp T.aag.b au (ac (aa 1 rfl) aj ai) ⟨ST.srt pts,rfl,szs,by lia,rfl⟩)) ?_)
  refine af (aI (i:=3) gd.nd rfl (Or.inl rfl) (EvN.ev (bj ((gN T).mono (by decide)) hr rfl T.aag.m T.aag.F.kp T.aag.b au (ac (EvN.ev (C2 (aa 1 rfl) (bO ag) (.inl rfl))) aj aH) ⟨(ST.srt pts).reverse,by rw[lp,G7],λp hp=>szs p (E9.mp hp),by rw[FQ];lia,rfl⟩)) ?_)
  refine af (cX (pB (EvN.ev (dU (aa 2 rfl) fK (fM (bO ag)) (.inl rfl))) (EvN.ev (dU (aa 3 rfl) fK (fM (bO ag)) (.inl rfl))) (by rw[fZ,fZ,EH,EH,G3,G3,FQ,FQ];exact FB (ay (by lia)))) ?_)
  show Out.new _=Out.new _;unfold ao;rw[if_neg h1,fZ,fZ,<-FC]
def ap(a b c d e f:Int)(p:P2):P2:=(a*p.1+b*p.2+e,c*p.1+d*p.2+f)
theorem Bf{m:Nat}{a b c d e f:Int}{p:P2}(sa:Sz 500 a)(sb:Sz 500 b)(sc:Sz 500 c)(sd:Sz 500 d)(se:Sz 500 e)(sf:Sz 500 f)(hm:m<=3000)(s:Szp m p):Szp (m+510) (ap a b c d e f p):=by
 have key:∀{x y z:Int},Sz 500 x->Sz 500 y->Sz 500 z->Sz (m+510) (x*p.1+y*p.2+z):=λsx sy sz=>by
  have h1:=L2.Sz.add' (L2.Sz.mul sx s.1) (L2.Sz.mul sy s.2);have h2:=L2.Sz.add' h1 sz;exact h2.mono (by lia)
 exact⟨key sa sb se,key sc sd sf⟩
def Ag:List U->Out->Prop:=λus o=>∃(pts:List P2) (a b c d e f:Int),us=[lp pts,mv a b c d e f]/\Mv a b c d e f/\(∀p∈pts,Szp 3000 p)/\(∀p∈pts,Szp 5000 (ap a b c d e f p))/\pts≠[]/\pts.length<64/\o=.new ((ao (pts.map (ap a b c d e f))).map pu)
theorem jG(T:Txt w K mg):ba P w K mg base (CXF P w) 5 T.aar.a T.aar.d ["land","move"] (spU K (Ag)):=by
 refine aV T.aar.F gl (λus o h=>?_) (λPp A outer s H E O us o hr h=>?_)
 ·obtain⟨pts,a,b,c,d,e,f,rfl,M,sz,sy,Pn,hl,rfl⟩:=h;rfl
 obtain⟨pts,a,b,c,d,e,f,rfl,M,sz,sy,Pn,hl,rfl⟩:=h;refine Ws.nox ?_;refine af (cX (bj ((kD T).mono (by decide)) hr rfl T.aaE.m T.aaE.F.kp T.aaE.b au (ac (EvN.ev (dj (ys:=(pts.map λp=>pu (ap a b c d e f p))) rfl (blk (ak e7) ["land","move","P"] [2] rfl rfl rfl rfl (by decide+kernel)) (bQ (aa 0 rfl) (.inl rfl)) (λ_ _ _ _=>aQ (i:=2) gl.nd rfl (Or.inl rfl)) (bM (by decide)) ?clen ?csz (λ_ _=>trivial) ?celt)) aj ci) ⟨pts.map (ap a b c d e f),by rw[lp,Fh];rfl,λp hp=>by obtain⟨q,hq,rfl⟩:=ER.mp hp;exact sy q hq,by rw[EH];exact hl,by simpa using Pn,rfl⟩) ?_)
 case clen=>simp
 case csz=>rw[EH];exact FB (ay (by lia))
 case celt=>
  intro C s' H' fp j x y hx hy;obtain⟨p,hp,mp,rfl,rfl⟩:=cH hx hy;exact (ax ((ie T).mono (by decide)) hr rfl T.aau.m T.aau.F.kp T.aau.b au (ac (aa 2 rfl) (ac (aa 1 rfl) aj ai) ai) ⟨p.1,p.2,a,b,c,d,e,f,rfl,M,(sz p mp).1.mono (by decide),(sz p mp).2.mono (by decide),rfl⟩)
 exact rfl
theorem qj{l m:List Pt}(h:ST.srt l=ST.srt m):ao l=ao m:=by unfold ao;rw[h]
theorem lu{l m:List Pt}(h:∀z,z∈l↔z∈m):ST.srt l=ST.srt m:=ST.asc_one (ST.srt_asc l) (ST.srt_asc m) λz=>by rw[ST.srt_mem,ST.srt_mem];exact h z
theorem b6{pts:List Pt}(h:¬ 2<=(ST.srt pts).length):ao pts=ST.srt pts:=by
 unfold ao;split
 ·rfl
 ·have e:ST.srt pts=[]:=GE.mp (by lia)
  rw[e];rfl
section
variable {f:Pt→Pt}
theorem zi(hf:∀a b,plt a b->plt (f a) (f b))(l:List Pt):ST.srt (l.map f)=(ST.srt l).map f:=by
 refine ST.asc_one (ST.srt_asc _) (iA.mpr (FF.mpr ((dS l).imp λ{a b} h=>hf a b h))) λz=>?_
 rw[ST.srt_mem,ER,ER];exact⟨λ⟨x,hx,e⟩=>⟨x,(ST.srt_mem x l).mpr hx,e⟩,λ⟨x,hx,e⟩=>⟨x,(ST.srt_mem x l).mp hx,e⟩⟩
theorem tG(hd:∀a b c,ae (f a) (f b) (f c)<=0↔ae a b c<=0)(P:Pt):∀st:List Pt,aW (f P) (st.map f)=(aW P st).map f
 |[]=>rfl
 |[_]=>rfl
 |b::a::r=>by
  show aW (f P) (f b::f a::r.map f)=_;unfold aW;by_cases h:ae a b P<=0
  ·rw[if_pos h,if_pos ((hd a b P).mpr h)];exact tG hd P (a::r)
  ·rw[if_neg h,if_neg λz=>h ((hd a b P).mp z)];rfl
theorem lH(hd:∀a b c,ae (f a) (f b) (f c)<=0↔ae a b c<=0)(row:List Pt):am (row.map f)=(am row).map f:=by
 have key:∀(l:List Pt) (st:List Pt),(l.map f).foldl (λst P=>P::aW P st) (st.map f)=(l.foldl (λst P=>P::aW P st) st).map f:=by
  intro l
  induction l with
  |nil=>intro st;rfl
  |cons p r ih=>
   intro st;rw[E2,Hh,Hh,tG hd];exact ih (p::aW p st)
 exact key row []
theorem oV(hf:∀a b,plt a b->plt (f a) (f b))(hd:∀a b c,ae (f a) (f b) (f c)<=0↔ae a b c<=0)(l:List Pt):ao (l.map f)=(ao l).map f:=by
 unfold ao;rw[zi hf,EH,<-G7,lH hd,lH hd];split
 ·rfl
 ·rw[FC,KY,KY,G7,G7]
end
def scl(k:Int)(p:Pt):Pt:=(k*p.1,k*p.2)
theorem tf{k:Int}(hk:0<k)(a b:Pt)(h:plt a b):plt (scl k a) (scl k b):=by
 unfold plt scl at *;rcases h with h |⟨h1,h2⟩
 ·exact .inl (IM h hk)
 ·exact .inr ⟨by rw[h1],IM h2 hk⟩
theorem AE{k:Int}(hk:0<k)(a b c:Pt):ae (scl k a) (scl k b) (scl k c)<=0↔ae a b c<=0:=by
 have e:ae (scl k a) (scl k b) (scl k c)=(k*k) *ae a b c:=by unfold ae scl;grind
 have kk:0<k*k:=FD hk hk;rw[e];constructor
 ·intro h;refine FP λz=>?_
  have:=FD kk (show 0<ae a b c by lia)
  lia
 ·intro h;have:=Fc (show 0<=k*k by lia) (show 0<=- ae a b c by lia)
  rw[Mr]at this;lia
theorem m9(p:Pt):scl 1 p=p:=by unfold scl;simp
def kQ:List Int->Int
 |[]=>0
 |a::l=>l.foldl min a
theorem gM:∀(l:List Int) (a:Int),l.foldl min a∈a::l
 |[],a=>by simp
 |b::l,a=>by
  have:=gM l (min a b);rw[Hh];rcases EO.mp this with e |e
  ·rw[e];rcases L6 a b with h |h
   ·rw[Int.min_eq_left h];simp
   ·rw[Int.min_eq_right h];simp
  ·exact EJ _ (EJ _ e)
theorem ix:∀(l:List Int) (a:Int),∀x∈a::l,l.foldl min a<=x
 |[],a,x,h=>by simp at h;rw[h];exact Kd _
 |b::l,a,x,h=>by
  have ih:=ix l (min a b);rw[Hh];have h0:=ih (min a b) ET;rcases EO.mp h with rfl |h
  ·lia
  ·rcases EO.mp h with rfl |h
   ·lia
   ·exact ih x (EJ _ h)
theorem bW{l:List Int}(h:l≠[]):kQ l∈l/\∀a∈l,kQ l<=a:=by
 cases l with
 |nil=>exact absurd rfl h
 |cons a l=>exact⟨gM l a,ix l a⟩
theorem wv{a b:Int}(h:a<=b):sgn a<=sgn b:=by
 unfold sgn;split <;>split <;>(try split) <;>(try split) <;>lia
theorem AN{l:List Int}(h:l≠[]):sgn (kQ l)∈l.map sgn/\∀a∈l.map sgn,sgn (kQ l)<=a:=by
 obtain⟨h1,h2⟩:=bW h;refine⟨FI h1,λa ha=>?_⟩
 obtain⟨b,hb,rfl⟩:=ER.mp ha;exact wv (h2 b hb)
abbrev gp(l:List P2)(i:Nat):P2:=l.getD i (0,0)
def nxt(l:List P2)(i:Nat):P2:=gp l ((i+1)%l.length)
def sdl(l:List P2):List (P2×P2):=(Fz l.length).map λi=>(gp l i,nxt l i)
abbrev pq(s:P2×P2):U:=.tup [pu s.1,pu s.2]
theorem dR{l:List P2}{i:Nat}(h:i<l.length):l[i]?=some (gp l i):=by simp[gp,h]
theorem ce{l:List P2}{i:Nat}(h:i<l.length):gp l i∈l:=E5 (dR h)
theorem lm(l:List U):g6 l (some 1) none=l.drop 1:=by
 unfold g6 HT.sIx;cases l with
 |nil=>simp
 |cons a l=>simp
theorem rV(l:List U):g6 l none (some 1)=l.take 1:=by
 unfold g6 HT.sIx;cases l with
 |nil=>simp
 |cons a l=>simp
theorem xr(l:List P2):Kp (λa b=>U.tup [a,b]) (l.map pu) (g6 (l.map pu) (some 1) none++g6 (l.map pu) none (some 1))=(sdl l).map pq:=by
 rw[lm,rV];apply HA;intro i;unfold sdl;by_cases hi:i<l.length
 ·have e1:(l.map pu)[i]?=some (pu (gp l i)):=by rw[ES,dR hi];rfl
  have e2:((l.map pu).drop 1++(l.map pu).take 1)[i]?=some (pu (nxt l i)):=by
   unfold nxt;by_cases hj:i+1<l.length
   ·rw[Fb (by simp;lia),HM,Nat.add_comm,FT hj,ES,dR hj];rfl
   ·have e:i+1=l.length:=by lia
    rw[Fd (by simp;lia),e,L7]
    rw[show i-((l.map pu).drop 1).length=0 by simp;lia,GU (by lia),ES,dR (by lia)];rfl
  rw[Hq.mpr ⟨_,_,e1,e2,rfl⟩,Fh,ES,Gx hi];rfl
 ·rw[Fy (by simp;lia),Fy (by simp;lia)]
theorem gv(l:List P2):(sdl l).length=l.length:=by simp[sdl]
theorem cg{l:List P2}{s:P2×P2}(h:s∈sdl l):s.1∈l/\s.2∈l:=by
 obtain⟨i,hi,rfl⟩:=ER.mp h;have Pu:=Fk.mp hi;exact⟨ce Pu,ce (Hn _ (by lia))⟩
def rB:List U->Out->Prop:=λus o=>∃l:List P2,us=[lp l]/\l.length<=900/\o=.new ((sdl l).map pq)
theorem f6(T:Txt w K mg):ba P w K mg base (CXF P w) 1 T.aap.a T.aap.d ["land"] (spU K (rB)):=by
 refine aV T.aap.F x9 (λus o h=>?_) (λPp A outer s H E O us o hr h=>?_)
 ·obtain⟨l,rfl,hl,rfl⟩:=h;rfl
 obtain⟨l,rfl,hl,rfl⟩:=h;refine Ws.nox ?_;have Pm:(g6 (l.map pu) (some 1) none++g6 (l.map pu) none (some 1)).length=l.length:=by rw[lm,rV];simp;lia
 refine af (cX (uy rfl rfl T.aaG rfl T.abb (aa 0 rfl) (.inl rfl) (EvN.ev (pB (EvN.ev (dU (aa 0 rfl) (fM ag) fK (.inl rfl))) (EvN.ev (dU (aa 0 rfl) fK (fM ag) (.inl rfl))) (by rw[<-FJ,Pm];exact FB (ay (by lia))))) (.inl rfl) (by rw[Pm,EH]) (by rw[EH];lia) ai bp) ?_)
 rw[xr]
def btw(P Q R:P2):Bool:=decide (ae P Q R=0) && (ST.leP P R && ST.leP R Q)
def mF(l:List P2)(p:P2):List Int:=(sdl l).map λs=>ae s.1 s.2 p
def whr(l:List P2)(p:P2):Int:=if l.length<3 then (if btw (gp l 0) (gp l (l.length-1)) p=true then 0 else -1) else sgn (kQ (mF l p))
theorem DR{l:List P2}(h:0<l.length):atI (l.map pu) 0=some (pu (gp l 0)):=yR (i:=0) rfl (by rw[ES,dR h];rfl)
theorem jx{l:List P2}(h:0<l.length):atI (l.map pu) (-1)=some (pu (gp l (l.length-1))):=by
 have e:ixN (l.map pu).length (-1)=some (l.length-1):=by
  unfold ixN;simp;lia
 unfold atI;rw[e];show (l.map pu)[l.length-1]?=_;rw[ES,dR (by lia)];rfl
def gst(s:P2×P2):Int:=((HF (s.2.1-s.1.1) (s.2.2-s.1.2):Nat):Int)
def crs(s:P2×P2):Int:=s.1.1*s.2.2-s.1.2*s.2.1
def area(l:List P2):Int:=((sdl l).map crs).sum
def kL(l:List P2):Int:=((sdl l).map gst).sum
def pin(l:List P2):Int:=if l.length<3 then 0 else (area l-kL l+2)/2
theorem jo{s:P2×P2}(h:s.1≠s.2):0<gst s:=by
 unfold gst
 have:HF (s.2.1-s.1.1) (s.2.2-s.1.2)≠0:=λe=>by
  have:=Int.gcd_eq_zero_iff.mp e;exact h (F8 (by lia) (by lia))
 lia
def ev(p:P2):Int:=if p.1%2=0/\p.2%2=0 then 1 else 0
theorem jk(l:List P2):(sdl l).map (·.1)=l:=by
 apply HA;intro i;unfold sdl;rw[Fh];by_cases hi:i<l.length
 ·rw[ES,Gx hi,dR hi];rfl
 ·rw[Fy (by simp;lia),Fy (by lia)]
theorem nN(l:List P2):(sdl l).map (·.2)=l.drop 1++l.take 1:=by
 apply HA;intro i;unfold sdl;rw[Fh];by_cases hi:i<l.length
 ·rw[ES,Gx hi];show some (nxt l i)=_;unfold nxt;by_cases hj:i+1<l.length
  ·rw[Fb (by simp;lia),HM,show 1+i=i+1 by lia,FT hj,dR hj]
  ·have e:i+1=l.length:=by lia
   rw[Fd (by simp;lia),e,L7]
   rw[show i-(l.drop 1).length=0 by simp;lia,GU (by lia),dR (by lia)]
 ·rw[Fy (by simp;lia),Fy (by simp;lia)]
theorem oP{α:Type}(f g:α->Int):∀l:List α,(l.map λs=>f s-g s).sum=(l.map f).sum-(l.map g).sum
 |[]=>rfl
 |a::l=>by simp only[E2,FW,oP f g l];lia
theorem o4{α:Type}(f g:α->Int):∀l:List α,(l.map λs=>f s+g s).sum=(l.map f).sum+(l.map g).sum
 |[]=>rfl
 |a::l=>by simp only[E2,FW,o4 f g l];lia
theorem Co{l:List P2}(hn:l.Nodup)(h2:2<=l.length):∀s∈sdl l,s.1≠s.2:=λs hs e=>by
 obtain⟨i,hi,rfl⟩:=ER.mp hs;have Pu:=Fk.mp hi;have hj:(i+1)%l.length<l.length:=Hn _ (by lia)
 have e':gp l i=gp l ((i+1)%l.length):=e;have:l[i]?=l[(i+1)%l.length]?:=by rw[dR Pu,dR hj,e']
 have:=(IK Pu hn).mp this;by_cases hk:i+1<l.length
 ·rw[FT hk]at this;lia
 ·have e:i+1=l.length:=by lia
  rw[e,L7]at this;lia
theorem qD{m n:Nat}{l:List P2}(h:m<=n)(k:∀p∈l,Szp m p):∀p∈l,Szp n p:=λp hp=>⟨(k p hp).1.mono h,(k p hp).2.mono h⟩
def uB:List U->Out->Prop:=λus o=>∃l:List P2,us=[lp l]/\l.length<=900/\(∀p∈l,Szp 2500 p)/\o=.val (.int (area l))
theorem kn(T:Txt w K mg):ba P w K mg base (CXF P w) 2 T.aaq.a T.aaq.d ["land"] (spU K (uB)):=by
 refine aV T.aaq.F eA (λus o h=>?_) (λPp A outer s H E O us o hr h=>?_)
 ·obtain⟨l,rfl,hl,sz,rfl⟩:=h;rfl
 obtain⟨l,rfl,hl,sz,rfl⟩:=h;refine Ws.nox ?_;refine af (a_ (aq (jF rfl ) rfl T.aa7 Nn (ac (EvN.ev (dj (ys:=(((sdl l).map crs).map U.int)) rfl (blk (ak eY) ["land","A","B"] [1,2] rfl rfl rfl rfl (by decide+kernel)) (bQ (EvN.ev (bj ((f6 T).mono (by decide)) hr rfl T.aap.m T.aap.F.kp T.aap.b au (ac (aa 0 rfl) aj ai) ⟨l,rfl,hl,rfl⟩)) (.inl rfl)) (λ_ _ _ _=>j9 rfl (bS (aQ (i:=1) eA.nd rfl (Or.inl rfl)) (bS (aQ (i:=2) eA.nd rfl (Or.inl rfl)) fI))) (jB (js:=[1,2]) (by decide)) ?clen ?csz ?dom ?celt)) aj ci)) ?_)
 case clen=>simp
 case csz=>simp only[gv,EH];exact FB (ay (by lia))
 case dom=>
  intro x hx;obtain⟨s,_,rfl⟩:=ER.mp hx;exact⟨_,rfl,rfl⟩
 case celt=>
  intro C s' H' fp j x y hx hy;rw[Fh]at hy;obtain⟨s,hs,ms,rfl,rfl⟩:=cH hx hy;obtain⟨m1,m2⟩:=cg ms;have z1:=(sz _ m1).1;have z2:=(sz _ m1).2;have z3:=(sz _ m2).1;have z4:=(sz _ m2).2;exact (bw (aZ (aw (aa 1 rfl) ag rfl rfl) (aw (aa 2 rfl) ag rfl rfl) (by walk_at"mul")) (aZ (aw (aa 1 rfl) ag rfl rfl) (aw (aa 2 rfl) ag rfl rfl) (by walk_at"mul")))
 exact rfl
theorem oC{done:List Pt}:∀{st:List Pt},gL done st->∀(k:Nat) {a b:Pt},st[k]?=some b->st[k+1]?=some a->∀q∈done,0<=ae a b q
 |[],_,k,_,_,h,_=>by simp at h
 |[_],_,k,_,_,_,h=>by simp at h
 |x::y::r,C,0,a,b,h1,h2=>by
  simp at h1 h2;subst h1;subst h2;exact C.1
 |x::y::r,C,k+1,a,b,h1,h2=>oC C.2 k (by simpa using h1) (by simpa using h2)
theorem pE:∀{st:List Pt},jc st->∀(k:Nat) {a b c:Pt},st[k]?=some c->st[k+1]?=some b->st[k+2]?=some a->0<ae a b c
 |[],_,k,_,_,_,h,_,_=>by simp at h
 |[_],_,k,_,_,_,_,h,_=>by simp at h
 |[_,_],_,k,_,_,_,_,_,h=>by simp at h
 |x::y::z::r,C,0,a,b,c,h1,h2,h3=>by
  simp at h1 h2 h3;subst h1;subst h2;subst h3;exact C.1
 |x::y::z::r,C,k+1,a,b,c,h1,h2,h3=>pE C.2 k (by simpa using h1) (by simpa using h2) (by simpa using h3)
theorem w9{st:List Pt}{i:Nat}{a b:Pt}(h1:st.reverse[i]?=some a)(h2:st.reverse[i+1]?=some b):∃k,st[k]?=some b/\st[k+1]?=some a:=by
 have l2:i+1<st.length:=by have:=(E1.mp h2).1;simpa using this
 rw[GA (by lia)]at h1
 rw[GA l2]at h2;exact⟨st.length-1-(i+1),h2,by rw[<-h1];congr 1;lia⟩
theorem u5{st:List Pt}{i:Nat}{a b c:Pt}(h1:st.reverse[i]?=some a)(h2:st.reverse[i+1]?=some b)(h3:st.reverse[i+2]?=some c):∃k,st[k]?=some c/\st[k+1]?=some b/\st[k+2]?=some a:=by
 have l3:i+2<st.length:=by have:=(E1.mp h3).1;simpa using this
 rw[GA (by lia)]at h1
 rw[GA (by lia)]at h2
 rw[GA l3]at h3;exact⟨st.length-1-(i+2),h3,by rw[<-h2];congr 1;lia,by rw[<-h1];congr 1;lia⟩
theorem fX{row:List Pt}(hs:row.Pairwise plt)(h:row≠[]){i:Nat}{a b:Pt}(h1:(am row).reverse[i]?=some a)(h2:(am row).reverse[i+1]?=some b):∀q∈row,0<=ae a b q:=by
 obtain⟨k,e1,e2⟩:=w9 h1 h2;exact oC (cD hs h).1.cover k e1 e2
theorem g_{row:List Pt}(hs:row.Pairwise plt)(h:row≠[]){i:Nat}{a b c:Pt}(h1:(am row).reverse[i]?=some a)(h2:(am row).reverse[i+1]?=some b)(h3:(am row).reverse[i+2]?=some c):0<ae a b c:=by
 obtain⟨k,e1,e2,e3⟩:=u5 h1 h2 h3;exact pE (cD hs h).1.turns k e1 e2 e3
theorem fG{row:List Pt}{i:Nat}{a:Pt}(h1:(am row.reverse).reverse[i]?=some a):(am (row.reverse.map ng)).reverse[i]?=some (ng a):=by
 rw[bY,<-G7,ES]at h1;cases e:(am (row.reverse.map ng)).reverse[i]? with
 |none=>rw[e]at h1;cases h1
 |some z=>rw[e]at h1;cases h1;rw[gK]
theorem j6{row:List Pt}(hs:row.Pairwise plt)(h:row≠[]){i:Nat}{a b:Pt}(h1:(am row.reverse).reverse[i]?=some a)(h2:(am row.reverse).reverse[i+1]?=some b):∀q∈row,0<=ae a b q:=λq hq=>by
 have:=fX (c6 hs) (by simpa using h) (fG h1) (fG h2) (ng q) (FI (E9.mpr hq))
 rwa [jP]at this
theorem lO{row:List Pt}(hs:row.Pairwise plt)(h:row≠[]){i:Nat}{a b c:Pt}(h1:(am row.reverse).reverse[i]?=some a)(h2:(am row.reverse).reverse[i+1]?=some b)(h3:(am row.reverse).reverse[i+2]?=some c):0<ae a b c:=by
 have:=g_ (c6 hs) (by simpa using h) (fG h1) (fG h2) (fG h3)
 rwa [jP]at this
theorem vS{u1 u2 v1 v2 w1 w2:Int}(hu:bU u1 u2)(hv:bU v1 v2)(h0:u1*v2-u2*v1=0)(h1:u1*w2-u2*w1<=0)(h2:0<=v1*w2-v2*w1):u1*w2-u2*w1=0/\v1*w2-v2*w1=0:=by
 have e1:v1*(u1*w2-u2*w1)=u1*(v1*w2-v2*w1):=by grind
 have e2:v2*(u1*w2-u2*w1)=u2*(v1*w2-v2*w1):=by grind
 have PF:∀{s t A B:Int},0<s->0<t->s*A=t*B->A<=0->0<=B->A=0/\B=0:=λ{s t A B} hs ht e ha hb=>by
  have k1:s*A<=0:=FM (by lia) ha
  have k2:0<=t*B:=Fc (by lia) hb
  have z1:s*A=0:=by lia
  have z2:t*B=0:=by lia
  refine⟨(Fp.mp z1).resolve_left (by lia),(Fp.mp z2).resolve_left (by lia)⟩
 rcases hu with hu |⟨hu,hu2⟩
 ·rcases hv with hv |⟨hv,Sy⟩
  ·exact PF hv hu e1 h1 h2
  ·rw[hv]at h0;have:=FD hu Sy;lia
 ·rcases hv with hv |⟨hv,Sy⟩
  ·rw[hu]at h0;have:=FD hu2 hv;lia
  ·exact PF Sy hu2 e2 h1 h2
theorem vy{a m c:Pt}(ha:plt a m)(hc:plt c m)(h:ae a m c=0){q:Pt}(h1:0<=ae a m q)(h2:0<=ae m c q):ae a m q=0/\ae m c q=0:=by
 have k:=vS (w1:=m.1-q.1) (w2:=m.2-q.2) (aD ha) (aD hc) (by unfold ae at h;grind) (by unfold ae at h1;grind) (by unfold ae at h2;grind)
 unfold ae;exact⟨by grind,by grind⟩
theorem zo(a b c:Pt):ae a b c=ae b c a:=by unfold ae;grind
theorem Dr{row:List Pt}(hs:row.Pairwise plt)(Pn:row≠[]){i:Nat}{a m c:Pt}(h1:(am row).reverse[i]?=some a)(h2:(am row).reverse[i+1]?=some m)(hl:(am row).length=i+2)
  (h3:(am row.reverse).reverse[0]?=some m) (h4:(am row.reverse).reverse[1]?=some c) (ha:plt a m) (hc:plt c m) (big:2<(am row).length\/2<(am row.reverse).length):0<ae a m c:=by
 have mem:∀{j:Nat}{p:Pt},(am row).reverse[j]?=some p->p∈row:=λh=>bT row _ (E9.mp (E5 h))
 have memR:∀{j:Nat}{p:Pt},(am row.reverse).reverse[j]?=some p->p∈row:=λh=>E9.mp (bT _ _ (E9.mp (E5 h)))
 have cv:=fX hs Pn h1 h2;have cb:=j6 hs Pn h3 h4;have h0:=cv c (memR h4);rcases GJ h0 with z |z
 ·exact z
 ·exfalso
  have R3:∀q∈row,ae a m q=0/\ae m c q=0:=λq hq=>vy ha hc z.symm (cv q hq) (cb q hq)
  rcases big with b |b
  ·have hi:0<i:=by lia
   have hx:i-1<(am row).reverse.length:=by simp;lia
   have e:=EG hx;have t:=g_ hs Pn e (by rw[Nat.sub_add_cancel hi];exact h1) (by rw[show i-1+2=i+1 by lia];exact h2)
   rw[zo,(R3 _ (mem e)).1]at t;lia
  ·have hx:2<(am row.reverse).reverse.length:=by simpa using b
   have e:=EG hx;have t:=lO hs Pn h3 h4 e;rw[(R3 _ (memR e)).2]at t;lia
structure BZ(row T B:List Pt)(mn mx:Pt):Prop where
 t0:T[0]?=some mn
 t1:T[T.length-1]?=some mx
 b0:B[0]?=some mx
 b1:B[B.length-1]?=some mn
 lt:2<=T.length
 lb:2<=B.length
 least:∀p∈row,p=mn\/plt mn p
 most:∀p∈row,p=mx\/plt p mx
theorem AU{l:List Pt}:l.reverse[0]?=l.getLast?:=by rw[List.getLast?_eq_head?_reverse,G8]
theorem Bk{l:List Pt}:l.reverse[l.reverse.length-1]?=l.head?:=by rw[<-Ga,JU]
theorem BV{row:List Pt}(hs:row.Pairwise plt)(h2:2<=row.length):∃mn mx,BZ row (am row).reverse (am row.reverse).reverse mn mx:=by
 have Pn:row≠[]:=λz=>by rw[z]at h2;simp at h2
 obtain⟨mn,mx,t1,t2,e1,e2,m1,m2,least,most,_,_⟩:=ends hs h2;obtain⟨K,hl,hh⟩:=cD hs Pn;obtain⟨KR,hlR,hhR⟩:=cD (c6 hs) (by simpa using Pn)
 have l1:2<=(am row).length:=by rw[e1];have:=Gb m1;simp;lia
 have l2:2<=(am row.reverse).length:=by rw[e2];have:=Gb m2;simp;lia
 have hd:row.head?=some row[0]:=by rw[G8];exact EG (by lia)
 have ld:row.getLast?=some row[row.length-1]:=by rw[Ga];exact EG (by lia)
 have q1:row[0]=mn:=by
  have hb:=hhR;rw[JI,JU,hd]at hb;have:(am row.reverse).head?=some row[0]:=by rw[bY,Kz,hb];simp[gK]
  rw[e2]at this;exact (FY this).symm
 have q2:row[row.length-1]=mx:=by
  rw[ld,e1]at hh;exact (FY hh).symm
 refine⟨mn,mx,?_,?_,?_,?_,by simpa using l1,by simpa using l2,least,most⟩
 ·rw[AU,hl,hd,q1]
 ·rw[Bk,hh,ld,q2]
 ·rw[AU,bY,JI,hlR,Kz,Kr,ld,q2];simp[gK]
 ·rw[Bk,e2];rfl
section
variable {row T B:List Pt}{mn mx:Pt}
theorem d_(W:BZ row T B mn mx){k:Nat}(hk:k<=T.length-1):(T.dropLast++B.dropLast)[k%(T.dropLast++B.dropLast).length]?=T[k]?:=by
 have h1:=W.lt;have h2:=W.lb;have hn:(T.dropLast++B.dropLast).length=T.length-1+(B.length-1):=by simp
 rw[hn,FT (by lia)]
 by_cases h:k<T.length-1
 ·rw[Fb (by simpa using h),Ik,if_pos h]
 ·obtain rfl:k=T.length-1:=by lia
  rw[Fd (by simp),G3,M7,Ik,if_pos (by lia),W.b0,W.t1]
theorem jq(W:BZ row T B mn mx){k:Nat}(h0:T.length-1<=k)(hk:k<=T.length-1+(B.length-1)):(T.dropLast++B.dropLast)[k%(T.dropLast++B.dropLast).length]?=B[k-(T.length-1)]?:=by
 have h1:=W.lt;have h2:=W.lb;have hn:(T.dropLast++B.dropLast).length=T.length-1+(B.length-1):=by simp
 by_cases h:k<T.length-1+(B.length-1)
 ·rw[hn,FT h,Fd (by simpa using h0),G3,Ik,if_pos (by lia)]
 ·obtain rfl:k=T.length-1+(B.length-1):=by lia
  have:=d_ W (k:=0) (by lia)
  rw[OU]at this;rw[hn,L7,this,W.t0,show T.length-1+(B.length-1)-(T.length-1)=B.length-1 by lia,W.b1]
end
theorem eO{l:List Pt}{i:Nat}(h:i<l.length):∃a,l[i]?=some a:=⟨_,EG h⟩
theorem jD{pts:List Pt}(h2:2<=(ST.srt pts).length){i:Nat}(hi:i<(ao pts).length):∃a b,(ao pts)[i]?=some a/\(ao pts)[(i+1)%(ao pts).length]?=some b/\(∀p∈pts,0<=ae a b p)/\(2<(ao pts).length->∃c,(ao pts)[(i+2)%(ao pts).length]?=some c/\0<ae a b c):=by
 have hs:=dS pts;have Pn:ST.srt pts≠[]:=λz=>by rw[z]at h2;simp at h2
 obtain⟨mn,mx,W⟩:=BV hs h2;have RE:∀p∈pts,p∈ST.srt pts:=λp hp=>(ST.srt_mem p pts).mpr hp
 have hc:ao pts=(am (ST.srt pts)).reverse.dropLast++(am (ST.srt pts).reverse).reverse.dropLast:=by
  unfold ao;rw[if_neg (by lia)]
 have tc:∀{j:Nat}{a b:Pt},(am (ST.srt pts)).reverse[j]?=some a->(am (ST.srt pts)).reverse[j+1]?=some b->∀q∈ST.srt pts,0<=ae a b q:=λh h'=>fX hs Pn h h'
 have tt:∀{j:Nat}{a b c:Pt},(am (ST.srt pts)).reverse[j]?=some a->(am (ST.srt pts)).reverse[j+1]?=some b->(am (ST.srt pts)).reverse[j+2]?=some c->0<ae a b c:=λh h' h''=>g_ hs Pn h h' h''
 have bc:∀{j:Nat}{a b:Pt},(am (ST.srt pts).reverse).reverse[j]?=some a->(am (ST.srt pts).reverse).reverse[j+1]?=some b->∀q∈ST.srt pts,0<=ae a b q:=λh h'=>j6 hs Pn h h'
 have bt:∀{j:Nat}{a b c:Pt},(am (ST.srt pts).reverse).reverse[j]?=some a->(am (ST.srt pts).reverse).reverse[j+1]?=some b->(am (ST.srt pts).reverse).reverse[j+2]?=some c->0<ae a b c:=λh h' h''=>lO hs Pn h h' h''
 have R5:∀{j:Nat}{p:Pt},(am (ST.srt pts)).reverse[j]?=some p->p∈ST.srt pts:=λh=>bT _ _ (E9.mp (E5 h))
 have memB:∀{j:Nat}{p:Pt},(am (ST.srt pts).reverse).reverse[j]?=some p->p∈ST.srt pts:=λh=>E9.mp (bT _ _ (E9.mp (E5 h)))
 have ndT:(am (ST.srt pts)).reverse.Nodup:=(dX hs).imp λ{a b} h e=>by subst e;exact aG _ ((eF _ _).mpr h)
 have ndB:(am (ST.srt pts).reverse).reverse.Nodup:=by
  rw[bY,<-G7];have ndR:(am ((ST.srt pts).reverse.map ng)).reverse.Nodup:=(dX (c6 hs)).imp λ{a b} h e=>by subst e;exact aG _ ((eF _ _).mpr h)
  exact HC _ (λa b (h:a≠b) e=>h (by have:=congrArg ng e;rwa [gK,gK]at this)) ndR
 have m1:∀{j:Nat}{a m c:Pt},(am (ST.srt pts)).reverse[j]?=some a->(am (ST.srt pts)).reverse[j+1]?=some m->(am (ST.srt pts)).length=j+2->(am (ST.srt pts).reverse).reverse[0]?=some m->(am (ST.srt pts).reverse).reverse[1]?=some c->plt a m->plt c m->2<(am (ST.srt pts)).length\/2<(am (ST.srt pts).reverse).length->0<ae a m c:=λa1 a2 a3 a4 a5 a6 a7 a8=>Dr hs Pn a1 a2 a3 a4 a5 a6 a7 a8
 have m2:∀{j:Nat}{a m c:Pt},(am (ST.srt pts).reverse).reverse[j]?=some a->(am (ST.srt pts).reverse).reverse[j+1]?=some m->(am (ST.srt pts).reverse).length=j+2->(am (ST.srt pts)).reverse[0]?=some m->(am (ST.srt pts)).reverse[1]?=some c->plt m a->plt m c->2<(am (ST.srt pts)).length\/2<(am (ST.srt pts).reverse).length->0<ae a m c:=λ{j a m c} a1 a2 a3 a4 a5 a6 a7 a8=>by
  have er:((ST.srt pts).reverse.map ng).reverse=(ST.srt pts).map ng:=by rw[<-G7,Mh]
  have fw:∀{k:Nat}{p:Pt},(am (ST.srt pts)).reverse[k]?=some p->(am ((ST.srt pts).reverse.map ng).reverse).reverse[k]?=some (ng p):=λ{k p} h=>by
   rw[er,gi,<-G7,ES,h];rfl
  have lb:(am ((ST.srt pts).reverse.map ng)).length=(am (ST.srt pts).reverse).length:=by rw[bY,EH]
  have lt:(am ((ST.srt pts).reverse.map ng).reverse).length=(am (ST.srt pts)).length:=by rw[er,gi,EH]
  have:=Dr (c6 hs) (by simpa using Pn) (fG a1) (fG a2) (by rw[lb];exact a3) (fw a4) (fw a5) (kW a6) (kW a7) (by rw[lb,lt];exact a8.symm)
  rwa [jP]at this
 rw[hc]at hi |-;have lT:(am (ST.srt pts)).reverse.length=(am (ST.srt pts)).length:=FQ;have lB:(am (ST.srt pts).reverse).reverse.length=(am (ST.srt pts).reverse).length:=FQ;generalize (am (ST.srt pts)).reverse=T at *;generalize (am (ST.srt pts).reverse).reverse=B at *;have h1:=W.lt;have h3:=W.lb;have hn:(T.dropLast++B.dropLast).length=T.length-1+(B.length-1):=by simp
 have own:∀k,k<(T.dropLast++B.dropLast).length->(T.dropLast++B.dropLast)[k]?=(T.dropLast++B.dropLast)[k%(T.dropLast++B.dropLast).length]?:=λk hk=>by rw[FT hk]
 have tne:∀{j k:Nat}{p q:Pt},T[j]?=some p->T[k]?=some q->j≠k->p≠q:=λ{j k p q} a1 a2 a3 e=>a3 ((IK (aF a1) ndT).mp (by rw[a1,a2,e]))
 have bne:∀{j k:Nat}{p q:Pt},B[j]?=some p->B[k]?=some q->j≠k->p≠q:=λ{j k p q} a1 a2 a3 e=>a3 ((IK (aF a1) ndB).mp (by rw[a1,a2,e]))
 by_cases c1:i<T.length-1
 ·obtain⟨a,ea⟩:=eO (l:=T) (i:=i) (by lia)
  obtain⟨b,eb⟩:=eO (l:=T) (i:=i+1) (by lia)
  refine⟨a,b,by rw[own i hi,d_ W (by lia)];exact ea,by rw[d_ W (by lia)];exact eb,λp hp=>tc ea eb p (RE p hp),λbig=>?_⟩
  by_cases c2:i+2<=T.length-1
  ·obtain⟨c,ec⟩:=eO (l:=T) (i:=i+2) (by lia)
   exact⟨c,by rw[d_ W c2];exact ec,tt ea eb ec⟩
  ·have e:i+1=T.length-1:=by lia
   obtain⟨c,ec⟩:=eO (l:=B) (i:=1) (by lia)
   have emx:b=mx:=by have:=W.t1;rw[<-e,eb]at this;exact FY this
   subst emx;refine⟨c,by rw[jq W (by lia) (by lia),show i+2-(T.length-1)=1 by lia];exact ec,m1 ea eb (by lia) W.b0 ec ?_ ?_ (by lia)⟩
   ·exact (W.most a (R5 ea)).resolve_left (tne ea eb (by lia))
   ·exact (W.most c (memB ec)).resolve_left (bne ec W.b0 (by lia))
 ·obtain⟨a,ea⟩:=eO (l:=B) (i:=i-(T.length-1)) (by lia)
  obtain⟨b,eb⟩:=eO (l:=B) (i:=i-(T.length-1)+1) (by lia)
  refine⟨a,b,by rw[own i hi,jq W (by lia) (by lia)];exact ea,by rw[jq W (by lia) (by lia),show i+1-(T.length-1)=i-(T.length-1)+1 by lia];exact eb,λp hp=>bc ea eb p (RE p hp),λbig=>?_⟩
  by_cases c2:i+2<=T.length-1+(B.length-1)
  ·obtain⟨c,ec⟩:=eO (l:=B) (i:=i-(T.length-1)+2) (by lia)
   exact⟨c,by rw[jq W (by lia) c2,show i+2-(T.length-1)=i-(T.length-1)+2 by lia];exact ec,bt ea eb ec⟩
  ·have e:i-(T.length-1)+1=B.length-1:=by lia
   obtain⟨c,ec⟩:=eO (l:=T) (i:=1) (by lia)
   have emn:b=mn:=by have:=W.b1;rw[<-e,eb]at this;exact FY this
   subst emn;refine⟨c,?_,m2 ea eb (by lia) W.t0 ec ?_ ?_ (by lia)⟩
   ·have:=d_ W (k:=1) (by lia)
    rw[show (i+2)%(T.dropLast++B.dropLast).length=1%(T.dropLast++B.dropLast).length by rw[hn,show i+2=1+(T.length-1+(B.length-1)) by lia,M0],this]
    exact ec
   ·exact (W.least a (memB ea)).resolve_left (bne ea eb (by lia))
   ·exact (W.least c (R5 ec)).resolve_left (tne ec W.t0 (by lia))
def cd(n q:Int):Int:=-(-n/q)
structure Chd(n q:Int):Prop where
 q0:0<=q
 qn:q<n
 g:HF n q=1
def unc:List Int->Int×Int
 |[]=>(1,0)
 |b::l=>(b*(unc l).1-(unc l).2,(unc l).1)
structure Lvl(a b:Pt)(g u v s t:Int):Prop where
 g0:0<g
 e1:b.1-a.1=g*u
 e2:b.2-a.2=g*v
 st:s*u+t*v=1
def tx(a c:Pt)(s t:Int):Int:=s*(c.1-a.1)+t*(c.2-a.2)
def ty(a c:Pt)(u v:Int):Int:=u*(c.2-a.2)-v*(c.1-a.1)
def bk(a:Pt)(u v s t x y:Int):Pt:=(u*x-t*y+a.1,v*x+s*y+a.2)
theorem Lvl.area{a b:Pt}{g u v s t:Int}(L:Lvl a b g u v s t)(c:Pt):ae a b c=g*ty a c u v:=by
 have:=L.e1;have:=L.e2;unfold ae ty;grind
theorem Lvl.back{a b:Pt}{g u v s t:Int}(L:Lvl a b g u v s t)(c:Pt):c.1=u*tx a c s t-t*ty a c u v+a.1/\c.2=v*tx a c s t+s*ty a c u v+a.2:=by
 have:=L.st;unfold tx ty;constructor <;>grind
def wth(a b:Int)(p:Pt):Int:=a*p.1+b*p.2
theorem Bx{a b:Int}{u p v:Pt}(hb:b<=0)(h1:plt u p)(h2:plt p v)(h:ae u p v<=0):wth a b p<=wth a b u\/wth a b p<=wth a b v:=by
 rcases FO (wth a b u) (wth a b p) with c1 |c1
 ·rcases FO (wth a b v) (wth a b p) with c2 |c2
  ·exfalso
   have e:(v.1-p.1) *(wth a b p-wth a b u)+(p.1-u.1) *(wth a b p-wth a b v)=-((-b) *(-(ae u p v))):=by unfold wth ae;grind
   have n1:0<=(-b) *(-(ae u p v)):=Fc (by lia) (by lia)
   have d1:0<=p.1-u.1:=by unfold plt at h1;lia
   have d2:0<=v.1-p.1:=by unfold plt at h2;lia
   have m1:0<=(v.1-p.1) *(wth a b p-wth a b u):=Fc d2 (by lia)
   have m2:0<=(p.1-u.1) *(wth a b p-wth a b v):=Fc d1 (by lia)
   rcases FO 0 (p.1-u.1) with d |d
   ·have:=FD d (show 0<wth a b p-wth a b v by lia)
    lia
   ·have ex:u.1=p.1:=by lia
    have ey:u.2<p.2:=by unfold plt at h1;lia
    have:0<=(-b) *(p.2-u.2):=Fc (by lia) (by lia)
    have e2:wth a b p-wth a b u=-((-b) *(p.2-u.2)):=by unfold wth;rw[ex];grind
    lia
  ·exact .inr c2
 ·exact .inl c1
theorem r_{row:List Pt}(hs:row.Pairwise plt){a b:Int}(hb:b<=0){p:Pt}(hp:p∈row):∃c∈am row,wth a b p<=wth a b c:=by
 by_cases h:p∈am row
 ·exact⟨p,h,Kd _⟩
 ·obtain⟨u,hu,v,hv,k1,k2,k3⟩:=gap hs hp h;rcases Bx (a:=a) hb k1 k2 k3 with e |e
  ·exact⟨u,hu,e⟩
  ·exact⟨v,hv,e⟩
theorem CK(a b:Int)(p:Pt):wth (-a) (-b) (ng p)=wth a b p:=by unfold wth ng;grind
theorem zL(a b:Int)(p:Pt):wth a b (ng p)=wth (-a) (-b) p:=by unfold wth ng;grind
theorem yc{row:List Pt}(hs:row.Pairwise plt){a b:Int}(hb:0<=b){p:Pt}(hp:p∈row):∃c∈am row.reverse,wth a b p<=wth a b c:=by
 obtain⟨c,hc,k⟩:=r_ (c6 hs) (a:=-a) (b:=-b) (by lia) (p:=ng p) (ER.mpr ⟨p,E9.mpr hp,rfl⟩)
 refine⟨ng c,by rw[bY];exact ER.mpr ⟨c,hc,rfl⟩,?_⟩
 rw[CK]at k;rw[zL];exact k
theorem pF{pts:List Pt}(a b:Int){p:Pt}(hp:p∈pts):∃c∈ao pts,wth a b p<=wth a b c:=by
 have Qz:p∈ST.srt pts:=(ST.srt_mem p pts).mpr hp;by_cases h2:2<=(ST.srt pts).length
 ·have hs:=dS pts;obtain⟨mn,mx,t1,t2,e1,e2,m1,m2,_⟩:=ends hs h2;have big:=f_ h2;rw[e1,e2]at big;rcases L6 b 0 with hb |hb
  ·obtain⟨c,hc,k⟩:=r_ hs (a:=a) hb Qz;refine⟨c,?_,k⟩;rw[big];rw[e1]at hc;rcases EO.mp hc with rfl |hc
   ·exact E_ _ (E9.mpr m2)
   ·exact Fv _ (E9.mpr hc)
  ·obtain⟨c,hc,k⟩:=yc hs (a:=a) hb Qz;refine⟨c,?_,k⟩;rw[big];rw[e2]at hc;rcases EO.mp hc with rfl |hc
   ·exact Fv _ (E9.mpr m1)
   ·exact E_ _ (E9.mpr hc)
 ·exact⟨p,by rw[b6 h2];exact Qz,Kd _⟩
def hiL:List Int->Int
 |[]=>0
 |a::l=>l.foldl max a
theorem fc:∀(l:List Int) (a:Int),l.foldl max a∈a::l
 |[],a=>by simp
 |b::l,a=>by
  have:=fc l (max a b);rw[Hh];rcases EO.mp this with e |e
  ·rw[e];rcases L6 a b with h |h
   ·rw[Int.max_eq_right h];simp
   ·rw[Int.max_eq_left h];simp
  ·exact EJ _ (EJ _ e)
theorem fP:∀(l:List Int) (a:Int),∀x∈a::l,x<=l.foldl max a
 |[],a,x,h=>by simp at h;rw[h];exact Kd _
 |b::l,a,x,h=>by
  have ih:=fP l (max a b);rw[Hh];have h0:=ih (max a b) ET;rcases EO.mp h with rfl |h
  ·lia
  ·rcases EO.mp h with rfl |h
   ·lia
   ·exact ih x (EJ _ h)
def hiW(a b:Int)(l:List Pt):Int:=hiL (l.map (wth a b))
theorem oh{l:List Pt}(a b:Int)(h:l≠[]):(∃p∈l,wth a b p=hiW a b l)/\∀p∈l,wth a b p<=hiW a b l:=by
 cases l with
 |nil=>exact absurd rfl h
 |cons q l=>
  refine⟨?_,λp hp=>?_⟩
  ·have:=fc (l.map (wth a b)) (wth a b q);rw[<-E2]at this;obtain⟨p,hp,e⟩:=ER.mp this;exact⟨p,hp,e⟩
  ·exact fP (l.map (wth a b)) (wth a b q) _ (by rw[<-E2];exact FI hp)
theorem lC{l:List P2}(h3:3<=(ao l).length):2<=(ST.srt l).length:=by
 rcases GH (ST.srt l).length 2 with h |h
 ·rw[b6 (by lia)]at h3;lia
 ·exact h
theorem ue{l:List P2}{i:Nat}(h:i<l.length):(gp l i,gp l ((i+1)%l.length))∈sdl l:=ER.mpr ⟨i,Fk.mpr h,rfl⟩
theorem iX{l:List P2}{i:Nat}{a:P2}(h:l[i]?=some a):gp l i=a:=by simp[gp,h]
theorem xa{n i:Nat}:((i+1)%n+1)%n=(i+2)%n:=by rw[LP]
theorem dI{l:List P2}(h3:3<=(ao l).length){s:P2×P2}(hs:s∈sdl (ao l)):∀q∈l,0<=ae s.1 s.2 q:=by
 obtain⟨i,hi,rfl⟩:=ER.mp hs;obtain⟨a,b,e1,e2,cov,_⟩:=jD (lC h3) (Fk.mp hi);show ∀q∈l,0<=ae (gp (ao l) i) (gp (ao l) ((i+1)%(ao l).length)) q;rw[iX e1,iX e2];exact cov
theorem jA{l:List P2}(h3:3<=(ao l).length){A B:P2}(hs:(A,B)∈sdl (ao l)):∃C,(B,C)∈sdl (ao l)/\0<ae A B C:=by
 obtain⟨i,hi,e⟩:=ER.mp hs;have Pu:=Fk.mp hi;obtain⟨a,b,e1,e2,_,tu⟩:=jD (lC h3) Pu;obtain⟨c,e3,pos⟩:=tu (by lia)
 have ea:A=a:=by rw[<-iX e1];exact (congrArg J6 e).symm
 have eb:B=b:=by rw[<-iX e2];exact (congrArg Le e).symm
 refine⟨c,?_,by rw[ea,eb];exact pos⟩
 have:=ue (l:=ao l) (i:=(i+1)%(ao l).length) (Hn _ (by lia))
 rw[xa,iX e2,iX e3]at this;rw[eb];exact this
theorem Dy{l:List P2}{A:P2}(h:A∈l):∃B,(A,B)∈sdl l:=by
 obtain⟨i,hi⟩:=FK.mp h;have Pu:=(E1.mp hi).1;have:=ue Pu;rw[iX hi]at this;exact⟨_,this⟩
theorem vM{l:List P2}{A:P2}(h:A∈l):∃Z,(Z,A)∈sdl l:=by
 obtain⟨i,hi⟩:=FK.mp h;have Pu:=(E1.mp hi).1;have hj:(i+l.length-1)%l.length<l.length:=Hn _ (by lia)
 have:=ue hj
 have e:((i+l.length-1)%l.length+1)%l.length=i:=by
  rw[LP,show i+l.length-1+1=i+l.length by lia,M0,FT Pu]
 rw[e,iX hi]at this;exact⟨_,this⟩
theorem Cm{l:List P2}(hn:l.Nodup){A B C:P2}(h1:(A,B)∈sdl l)(h2:(A,C)∈sdl l):B=C:=by
 obtain⟨i,hi,e⟩:=ER.mp h1;obtain⟨j,hj,e'⟩:=ER.mp h2;have Pu:=Fk.mp hi;have RB:=Fk.mp hj;have ea:gp l i=gp l j:=(congrArg J6 e).trans (congrArg J6 e').symm;have:i=j:=(IK Pu hn).mp (by rw[dR Pu,dR RB,ea])
 subst this;exact (congrArg Le e).symm.trans (congrArg Le e')
theorem CV{u1 u2 v1 v2 w1 w2:Int}(hd:0<u1*v2-u2*v1)(h1:u1*w2-u2*w1=0)(h2:v1*w2-v2*w1=0):w1=0/\w2=0:=by
 have e1:(u1*v2-u2*v1) *w1=0:=by
  have:(u1*v2-u2*v1) *w1=v1*(u1*w2-u2*w1)-u1*(v1*w2-v2*w1):=by grind
  rw[this,h1,h2];simp
 have e2:(u1*v2-u2*v1) *w2=0:=by
  have:(u1*v2-u2*v1) *w2=v2*(u1*w2-u2*w1)-u2*(v1*w2-v2*w1):=by grind
  rw[this,h1,h2];simp
 refine⟨?_,?_⟩
 ·rcases Fp.mp e1 with h |h
  ·lia
  ·exact h
 ·rcases Fp.mp e2 with h |h
  ·lia
  ·exact h
def vt(l:List P2)(p:P2):Prop:=p∈l/\∃a b:Int,∀q∈l,q≠p->wth a b q<wth a b p
theorem eW{l:List P2}{p:P2}(h:vt l p):p∈ao l:=by
 obtain⟨hp,a,b,k⟩:=h;obtain⟨c,hc,e⟩:=pF a b hp;by_cases hcp:c=p
 ·rw[<-hcp];exact hc
 ·have:=k c (bA _ c hc) hcp;lia
theorem cQ{l:List P2}(h3:3<=(ao l).length){p:P2}(hp:p∈ao l):vt l p:=by
 obtain⟨Z,hZ⟩:=vM hp;obtain⟨B,hB,pos⟩:=jA h3 hZ;refine⟨bA _ p hp,B.2-Z.2,Z.1-B.1,λq hq Pn=>?_⟩
 have c1:=dI h3 hZ q hq;have c2:=dI h3 hB q hq;dsimp only at c1 c2;have e:wth (B.2-Z.2) (Z.1-B.1) q-wth (B.2-Z.2) (Z.1-B.1) p=-(ae Z p q+ae p B q):=by unfold wth ae;grind
 rcases GJ (Int.add_nonneg c1 c2) with h |h
 ·lia
 ·exfalso
  have z1:ae Z p q=0:=by lia
  have z2:ae p B q=0:=by lia
  have:=CV (u1:=p.1-Z.1) (u2:=p.2-Z.2) (v1:=B.1-p.1) (v2:=B.2-p.2) (w1:=q.1-p.1) (w2:=q.2-p.2) (by rw[<-(show ae Z p B=(p.1-Z.1) *(B.2-p.2)-(p.2-Z.2) *(B.1-p.1) by unfold ae;grind)];exact pos) (by rw[<-z1];unfold ae;grind) (by rw[<-z2];unfold ae;grind)
  exact Pn (F8 (by lia) (by lia))
theorem CB{u1 u2 v1 v2 w1 w2:Int}(h:u1*w2-u2*w1=0):(u1*v2-u2*v1) *w1=(w1*v2-w2*v1) *u1/\(u1*v2-u2*v1) *w2=(w1*v2-w2*v1) *u2:=by
 constructor
 ·have:(u1*v2-u2*v1) *w1-(w1*v2-w2*v1) *u1=v1*(u1*w2-u2*w1):=by grind
  rw[h]at this;simp at this;lia
 ·have:(u1*v2-u2*v1) *w2-(w1*v2-w2*v1) *u2=v2*(u1*w2-u2*w1):=by grind
  rw[h]at this;simp at this;lia
theorem fQ{l:List P2}(h3:3<=(ao l).length){A B:P2}:(A,B)∈sdl (ao l)↔A∈ao l/\B∈ao l/\A≠B/\∀q∈ao l,0<=ae A B q:=by
 constructor
 ·intro h;exact⟨(cg h).1,(cg h).2,Co (bV l) (by lia) _ h,λq hq=>dI h3 h q (bA _ q hq)⟩
 ·rintro ⟨hA,hB,Pn,cov⟩;obtain⟨C,hC⟩:=Dy hA;obtain⟨Z,hZ⟩:=vM hA;by_cases hBC:B=C
  ·rw[hBC];exact hC
  ·exfalso
   obtain⟨D,hD,pD⟩:=jA h3 hC;obtain⟨C',hC',pC⟩:=jA h3 hZ;have:C'=C:=Cm (bV l) hC' hC;subst this;have mC:=(cg hC).2;have mD:=(cg hD).2;have lB:=bA _ B hB;have k1:=dI h3 hC B lB;have k2:=cov C' mC;have k3:=dI h3 hZ B lB;have k4:=dI h3 hD B lB;dsimp only at k1 k3 k4 mC mD
   have z:(C'.1-A.1) *(B.2-A.2)-(C'.2-A.2) *(B.1-A.1)=0:=by
    have e1:ae A C' B=(C'.1-A.1) *(B.2-A.2)-(C'.2-A.2) *(B.1-A.1):=rfl;have e2:ae A B C'=-((C'.1-A.1) *(B.2-A.2)-(C'.2-A.2) *(B.1-A.1)):=by unfold ae;grind
    omega
   obtain⟨p1,p2⟩:=CB (v1:=Z.1-A.1) (v2:=Z.2-A.2) z
   have dpos:0<(C'.1-A.1) *(Z.2-A.2)-(C'.2-A.2) *(Z.1-A.1):=by
    rw[<-(show ae Z A C'=(C'.1-A.1) *(Z.2-A.2)-(C'.2-A.2) *(Z.1-A.1) by unfold ae;grind)];exact pC
   have QJ:0<=(B.1-A.1) *(Z.2-A.2)-(B.2-A.2) *(Z.1-A.1):=by
    rw[<-(show ae Z A B=(B.1-A.1) *(Z.2-A.2)-(B.2-A.2) *(Z.1-A.1) by unfold ae;grind)];exact k3
   generalize (C'.1-A.1) *(Z.2-A.2)-(C'.2-A.2) *(Z.1-A.1)=d at *;generalize (B.1-A.1) *(Z.2-A.2)-(B.2-A.2) *(Z.1-A.1)=s at *
   have s0:s≠0:=λe=>by
    rw[e,Hj]at p1 p2;have q1:=(Fp.mp p1).resolve_left (by lia)
    have q2:=(Fp.mp p2).resolve_left (by lia)
    exact Pn (F8 (by lia) (by lia))
   have s1:s≠d:=λe=>by
    rw[e]at p1 p2;have q1:=F3 (by lia) p1
    have q2:=F3 (by lia) p2
    exact hBC (F8 (by lia) (by lia))
   have s2:s<=d:=by
    have e:d*ae C' D B=(d-s) *ae A C' D:=by
     have e1:d*ae C' D B=(D.1-C'.1) *(d*(B.2-A.2)-d*(C'.2-A.2))-(D.2-C'.2) *(d*(B.1-A.1)-d*(C'.1-A.1)):=by unfold ae;grind
     rw[e1,p1,p2];unfold ae;grind
    have:0<=d*ae C' D B:=Fc (by lia) k4
    rcases FO d s with h |h
    ·have:0<(s-d) *ae A C' D:=FD (by lia) pD
     have e3:(d-s) *ae A C' D=-((s-d) *ae A C' D):=by grind
     lia
    ·exact h
   obtain⟨_,a,b,top⟩:=cQ h3 hB;have t1:=top A (bA _ A hA) Pn;have t2:=top C' (bA _ C' mC) (λe=>hBC e.symm)
   have w1:d*(wth a b B-wth a b A)=s*(wth a b C'-wth a b A):=by
    have e1:d*(wth a b B-wth a b A)=a*(d*(B.1-A.1))+b*(d*(B.2-A.2)):=by unfold wth;grind
    rw[e1,p1,p2];unfold wth;grind
   have g1:0<d*(wth a b B-wth a b A):=FD (by lia) (by lia)
   have g2:0<wth a b C'-wth a b A:=by
    rcases FO 0 (wth a b C'-wth a b A) with h |h
    ·exact h
    ·have:0<=s* -(wth a b C'-wth a b A):=Fc (by lia) (by lia)
     have e3:s*(wth a b C'-wth a b A)=-(s* -(wth a b C'-wth a b A)):=by grind
     lia
   have g3:0<(d-s) *(wth a b C'-wth a b A):=FD (by lia) g2
   have w2:d*(wth a b B-wth a b C')=-((d-s) *(wth a b C'-wth a b A)):=by
    have:d*(wth a b B-wth a b C')=d*(wth a b B-wth a b A)-d*(wth a b C'-wth a b A):=by grind
    rw[this,w1];grind
   have g4:0<d*(wth a b B-wth a b C'):=FD (by lia) (by lia)
   lia
structure Lin(f:P2->P2)(d:Int):Prop where
 one:d=1\/d=-1
 ex:∃a b c e:Int,a*e-b*c=d/\∀p,f p=(a*p.1+b*p.2,c*p.1+e*p.2)
theorem Lin.det{f:P2->P2}{d:Int}(L:Lin f d)(A B q:P2):ae (f A) (f B) (f q)=d*ae A B q:=by
 obtain⟨a,b,c,e,h,k⟩:=L.ex;rw[k,k,k,<-h];unfold ae;grind
theorem sJ{f:P2->P2}{d:Int}(L:Lin f d)(A B:P2):crs (f A,f B)=d*crs (A,B):=by
 obtain⟨a,b,c,e,h,k⟩:=L.ex;rw[k,k,<-h];unfold crs;grind
theorem nL{f:P2->P2}{d:Int}(L:Lin f d)(x y:Int):∃x' y':Int,∀p,wth x' y' (f p)=wth x y p:=by
 obtain⟨a,b,c,e,h,k⟩:=L.ex;refine⟨d*(x*e-y*c),d*(y*a-x*b),λp=>?_⟩
 rw[k];have dd:d*d=1:=by rcases L.one with z |z <;>rw[z] <;>rfl
 have:wth (d*(x*e-y*c)) (d*(y*a-x*b)) (a*p.1+b*p.2,c*p.1+e*p.2)=d*(a*e-b*c) *wth x y p:=by unfold wth;grind
 rw[this,h,dd,IA]
theorem Lin.inj{f:P2->P2}{d:Int}(L:Lin f d){p q:P2}(e:f p=f q):p=q:=by
 obtain⟨x,y,h⟩:=nL L 1 0;obtain⟨x',y',h'⟩:=nL L 0 1;have h1:wth 1 0 p=wth 1 0 q:=by rw[<-h,<-h,e]
 have h2:wth 0 1 p=wth 0 1 q:=by rw[<-h',<-h',e]
 unfold wth at h1 h2;exact F8 (by lia) (by lia)
theorem tP{f:P2->P2}{d:Int}(L:Lin f d){l:List P2}{p:P2}(h:vt l p):vt (l.map f) (f p):=by
 obtain⟨hp,a,b,k⟩:=h;obtain⟨x,y,e⟩:=nL L a b;refine⟨FI hp,x,y,λq hq Pn=>?_⟩
 obtain⟨r,hr,rfl⟩:=ER.mp hq;rw[e,e];exact k r hr λz=>Pn (by rw[z])
theorem xI{f:P2->P2}{d:Int}(L:Lin f d){l:List P2}{p:P2}(hp:p∈l)(h:vt (l.map f) (f p)):vt l p:=by
 obtain⟨_,a,b,k⟩:=h;obtain⟨u,v,w,z,_,kf⟩:=L.ex;refine⟨hp,a*u+b*w,a*v+b*z,λq hq Pn=>?_⟩
 have e:∀r:P2,wth (a*u+b*w) (a*v+b*z) r=wth a b (f r):=λr=>by rw[kf];unfold wth;grind
 rw[e,e];exact k (f q) (FI hq) λz=>Pn (L.inj z)
theorem fu{f:P2->P2}{d:Int}(L:Lin f d){l:List P2}(h3:3<=(ao l).length):3<=(ao (l.map f)).length:=by
 have nd:((ao l).map f).Nodup:=HC _ (λa b (h:a≠b) e=>h (L.inj e)) (bV l)
 have:=d7 nd (m:=ao (l.map f)) λx hx=>by
  obtain⟨p,hp,rfl⟩:=ER.mp hx;exact eW (tP L (cQ h3 hp))
 rw[EH]at this;lia
theorem dD{f:P2->P2}{d:Int}(L:Lin f d){l:List P2}(h3:3<=(ao l).length)(x:P2):x∈ao (l.map f)↔∃p∈ao l,f p=x:=by
 constructor
 ·intro h;obtain⟨p,hp,rfl⟩:=ER.mp (bA _ x h);exact⟨p,eW (xI L hp (cQ (fu L h3) h)),rfl⟩
 ·rintro ⟨p,hp,rfl⟩;exact eW (tP L (cQ h3 hp))
def sdf(f:P2->P2)(d:Int)(s:P2×P2):P2×P2:=if d=1 then (f s.1,f s.2) else (f s.2,f s.1)
theorem rc{f:P2->P2}{d:Int}(L:Lin f d){l:List P2}(h3:3<=(ao l).length)(t:P2×P2):t∈sdl (ao (l.map f))↔∃s∈sdl (ao l),sdf f d s=t:=by
 have Q7:=fu L h3;have sw:∀A B q:P2,ae B A q=-ae A B q:=λA B q=>by unfold ae;grind
 constructor
 ·intro h;obtain⟨x,y⟩:=t;obtain⟨hx,hy,ne,cov⟩:=(fQ Q7).mp h;obtain⟨A,hA,rfl⟩:=(dD L h3 x).mp hx;obtain⟨B,hB,rfl⟩:=(dD L h3 y).mp hy
  have cv:∀q∈ao l,0<=d*ae A B q:=λq hq=>by
   have:=cov (f q) ((dD L h3 _).mpr ⟨q,hq,rfl⟩)
   rwa [L.det]at this
  rcases L.one with z |z
  ·refine⟨(A,B),(fQ h3).mpr ⟨hA,hB,λe=>ne (by rw[e]),λq hq=>?_⟩,by unfold sdf;rw[if_pos z]⟩
   have:=cv q hq;rw[z]at this;lia
  ·refine⟨(B,A),(fQ h3).mpr ⟨hB,hA,λe=>ne (by rw[e]),λq hq=>?_⟩,by unfold sdf;rw[if_neg (by lia)]⟩
   have:=cv q hq;rw[sw];rw[z]at this;lia
 ·rintro ⟨⟨A,B⟩,hs,rfl⟩;obtain⟨hA,hB,ne,cov⟩:=(fQ h3).mp hs
  have cv:∀q∈ao (l.map f),0<=d*ae (f A) (f B) q:=λq hq=>by
   obtain⟨p,hp,rfl⟩:=(dD L h3 q).mp hq;have:=cov p hp;rw[L.det,<-OE,show d*d=1 by rcases L.one with z |z <;>rw[z] <;>rfl]
   lia
  unfold sdf;rcases L.one with z |z
  ·rw[if_pos z];refine (fQ Q7).mpr ⟨(dD L h3 _).mpr ⟨A,hA,rfl⟩,(dD L h3 _).mpr ⟨B,hB,rfl⟩,λe=>ne (L.inj e),λq hq=>?_⟩
   have:=cv q hq;dsimp only;rw[z]at this;lia
  ·rw[if_neg (by lia)]
   refine (fQ Q7).mpr ⟨(dD L h3 _).mpr ⟨B,hB,rfl⟩,(dD L h3 _).mpr ⟨A,hA,rfl⟩,λe=>ne (L.inj e.symm),λq hq=>?_⟩
   have:=cv q hq;dsimp only;rw[sw];rw[z]at this;lia
theorem wz{l:List P2}(hn:l.Nodup):(sdl l).Nodup:=by
 have h:((sdl l).map (·.1)).Nodup:=by rw[jk];exact hn
 exact (FF.mp h).imp λ{a b} k e=>k (by rw[e])
theorem AO{f:P2->P2}{d:Int}(L:Lin f d){s t:P2×P2}(e:sdf f d s=sdf f d t):s=t:=by
 unfold sdf at e;split at e
 ·exact F8 (L.inj (congrArg J6 e)) (L.inj (congrArg Le e))
 ·exact F8 (L.inj (congrArg Le e)) (L.inj (congrArg J6 e))
theorem sn{f:P2->P2}{d:Int}(L:Lin f d){l:List P2}(h3:3<=(ao l).length):KJ (sdl (ao (l.map f))) ((sdl (ao l)).map (sdf f d)):=by
 refine (Gj (wz (bV _)) ?_).mpr λt=>?_
 ·exact HC _ (λa b (h:a≠b) e=>h (AO L e)) (wz (bV l))
 ·rw[rc L h3,ER]
def ub(s:P2×P2):Int:=(s.2.1-s.1.1)/gst s
def vb(s:P2×P2):Int:=(s.2.2-s.1.2)/gst s
def onS(s:P2×P2)(k:Int):P2:=(s.1.1+k*ub s,s.1.2+k*vb s)
theorem jS(s:P2×P2):s.2.1-s.1.1=gst s*ub s:=by
 unfold ub;have h:gst s ∣ s.2.1-s.1.1:=I0 ..;rw[IR h]
theorem jV(s:P2×P2):s.2.2-s.1.2=gst s*vb s:=by
 unfold vb;have h:gst s ∣ s.2.2-s.1.2:=II ..;rw[IR h]
theorem CA{s:P2×P2}(h:s.1≠s.2):∃cs ct,Lvl s.1 s.2 (gst s) (ub s) (vb s) cs ct:=by
 have g0:=jo h;obtain⟨cs,ct,G⟩:=jK (s.2.1-s.1.1) (s.2.2-s.1.2);have Ge:cs*(s.2.1-s.1.1)+ct*(s.2.2-s.1.2)=gst s:=G.eq;refine⟨cs,ct,g0,jS s,jV s,?_⟩
 have e:gst s*(cs*ub s+ct*vb s)=gst s*1:=by
  rw[K6];have:gst s*(cs*ub s+ct*vb s)=cs*(gst s*ub s)+ct*(gst s*vb s):=by grind
  rw[this,<-jS,<-jV];exact Ge
 exact F3 (by lia) e
theorem zk{s:P2×P2}(h:s.1≠s.2){p:P2}(hp:ae s.1 s.2 p=0):∃k,p=onS s k:=by
 obtain⟨cs,ct,L⟩:=CA h
 have z:ty s.1 p (ub s) (vb s)=0:=by
  rw[L.area]at hp;exact (Fp.mp hp).resolve_left (by have:=L.g0;lia)
 obtain⟨b1,b2⟩:=L.back p;rw[z]at b1 b2;refine⟨tx s.1 p cs ct,F8 ?_ ?_⟩
 ·show p.1=s.1.1+tx s.1 p cs ct*ub s;grind
 ·show p.2=s.1.2+tx s.1 p cs ct*vb s;grind
theorem Cv(s:P2×P2)(k:Int)(X Y:P2):gst s*ae X Y (onS s k)=(gst s-k) *ae X Y s.1+k*ae X Y s.2:=by
 have h1:=jS s;have h2:=jV s;have e1:s.2.1=s.1.1+gst s*ub s:=by lia
 have e2:s.2.2=s.1.2+gst s*vb s:=by lia
 unfold onS ae;dsimp only;rw[e1,e2];grind
theorem cG{a b:Int}(ha:0<a)(h:0<=a*b):0<=b:=by
 rcases FO b 0 with z |z
 ·have:=FD ha (show 0 < -b by lia)
  have e:a* -b=-(a*b):=by grind
  lia
 ·exact z
section
variable {l:List P2} (h3:3≤(ao l).length)
include h3
end
theorem n5{A B p:P2}(h:ST.ltP A B=true):(ae A B p=0/\ST.leP A p=true/\ST.leP p B=true)↔∃k:Int,0<=k/\k<=gst (A,B)/\p=onS (A,B) k:=by
 have Pn:(A,B).1≠(A,B).2:=λe=>by
  dsimp only at e;subst e;unfold ST.ltP at h;simp at h
 have g0:=jo Pn;have h1:=jS (A,B);have h2:=jV (A,B);dsimp only at h1 h2;unfold ST.ltP at h;have h:=of_decide_eq_true h
 have lex:0<ub (A,B)\/(ub (A,B)=0/\0<vb (A,B)):=by
  rcases h with z |⟨z,w⟩
  ·left
   have:0<gst (A,B) *ub (A,B):=by lia
   exact GZ this (by lia)
  ·right
   have e:gst (A,B) *ub (A,B)=0:=by lia
   have:0<gst (A,B) *vb (A,B):=by lia
   exact⟨(Fp.mp e).resolve_left (by lia),GZ this (by lia)⟩
 have sg:∀k:Int,(ST.leP A (onS (A,B) k)=true↔0<=k)/\(ST.leP (onS (A,B) k) B=true↔k<=gst (A,B)):=λk=>by
  have r:∀m:Int,(0<m*ub (A,B)\/(m*ub (A,B)=0/\0<=m*vb (A,B)))↔0<=m:=λm=>by
   rcases lex with u |⟨u,v⟩
   ·constructor
    ·rintro (z |⟨z,_⟩)
     ·exact M9 (Int.pos_of_mul_pos_left z (by lia))
     ·rcases Fp.mp z with w |w <;>lia
    ·intro hm;rcases GJ hm with z |z
     ·left;exact FD z u
     ·right;rw[<-z];simp
   ·rw[u,G6];constructor
    ·rintro (z |⟨_,z⟩)
     ·lia
     ·rw[Jg]at z;exact cG v z
    ·intro hm;exact .inr ⟨rfl,Fc hm (by lia)⟩
  have e1:(gst (A,B)-k) *ub (A,B)=B.1-(A.1+k*ub (A,B)):=by
   have:(gst (A,B)-k) *ub (A,B)=gst (A,B) *ub (A,B)-k*ub (A,B):=by grind
   lia
  have e2:(gst (A,B)-k) *vb (A,B)=B.2-(A.2+k*vb (A,B)):=by
   have:(gst (A,B)-k) *vb (A,B)=gst (A,B) *vb (A,B)-k*vb (A,B):=by grind
   lia
  have r1:=r k;have r2:=r (gst (A,B)-k);rw[e1,e2]at r2;unfold ST.leP onS;rw[decide_eq_true_eq,decide_eq_true_eq];dsimp only;constructor
  ·rw[<-r1];omega
  ·rw[show k<=gst (A,B)↔0<=gst (A,B)-k by lia,<-r2];lia
 constructor
 ·rintro ⟨d,a,b⟩;obtain⟨k,rfl⟩:=zk Pn d;exact⟨k,(sg k).1.mp a,(sg k).2.mp b,rfl⟩
 ·rintro ⟨k,k0,k1,rfl⟩;refine⟨?_,(sg k).1.mpr k0,(sg k).2.mpr k1⟩;have m:=Cv (A,B) k A B;have z1:ae A B A=0:=by unfold ae;grind
  have z2:ae A B B=0:=by unfold ae;grind
  dsimp only at m;rw[z1,z2,G6,G6,OV]at m;exact (Fp.mp m).resolve_left (by lia)
theorem AL{a b c e x y:Int}(h:a*e-b*c=1\/a*e-b*c=-1):HF (a*x+b*y) (c*x+e*y)=HF x y:=by
 apply Nat.dvd_antisymm
 ·have h1:((HF (a*x+b*y) (c*x+e*y):Nat):Int) ∣ a*x+b*y:=I0 ..;have h2:((HF (a*x+b*y) (c*x+e*y):Nat):Int) ∣ c*x+e*y:=II ..;generalize HF (a*x+b*y) (c*x+e*y)=g at *
  have k1:(g:Int) ∣ (a*e-b*c) *x:=by
   have:(a*e-b*c) *x=e*(a*x+b*y)-b*(c*x+e*y):=by grind
   rw[this];exact Kc (FV h1 (F2 ..)) (FV h2 (F2 ..))
  have k2:(g:Int) ∣ (a*e-b*c) *y:=by
   have:(a*e-b*c) *y=a*(c*x+e*y)-c*(a*x+b*y):=by grind
   rw[this];exact Kc (FV h2 (F2 ..)) (FV h1 (F2 ..))
  have up:∀z:Int,(g:Int) ∣ (a*e-b*c) *z->(g:Int) ∣ z:=λz k=>by
   rcases h with w |w <;>rw[w]at k
   ·rwa [IA]at k
   ·rw[Int.neg_one_mul]at k;exact Ld.mp k
  exact OF.mp (L5 (up x k1) (up y k2))
 ·have h1:((HF x y:Nat):Int) ∣ x:=I0 ..;have h2:((HF x y:Nat):Int) ∣ y:=II ..;exact OF.mp (L5 (Iy (FV h1 (F2 ..)) (FV h2 (F2 ..))) (Iy (FV h1 (F2 ..)) (FV h2 (F2 ..))))
theorem eB(A B:P2):gst (B,A)=gst (A,B):=by
 unfold gst;dsimp only;rw[show A.1-B.1=-(B.1-A.1) by lia,show A.2-B.2=-(B.2-A.2) by lia,Int.gcd_neg,Int.neg_gcd]
theorem tp{f:P2->P2}{d:Int}(L:Lin f d)(s:P2×P2):gst (sdf f d s)=gst s:=by
 obtain⟨A,B⟩:=s
 have key:gst (f A,f B)=gst (A,B):=by
  obtain⟨a,b,c,e,h,k⟩:=L.ex;unfold gst;rw[k,k];dsimp only;rw[show a*B.1+b*B.2-(a*A.1+b*A.2)=a*(B.1-A.1)+b*(B.2-A.2) by grind,show c*B.1+e*B.2-(c*A.1+e*A.2)=c*(B.1-A.1)+e*(B.2-A.2) by grind]
  rw[AL (by rw[h];exact L.one)]
 unfold sdf;split
 ·exact key
 ·exact (eB _ _).trans key
theorem AS{f:P2->P2}{d:Int}(L:Lin f d)(s:P2×P2):crs (sdf f d s)=crs s:=by
 obtain⟨A,B⟩:=s;unfold sdf;rcases L.one with z |z
 ·rw[if_pos z,sJ L];rw[z];exact IA _
 ·rw[if_neg (by lia),sJ L,z];unfold crs;grind
theorem oO{l m:List Int}(h:KJ l m):l.sum=m.sum:=by
 induction h with
 |nil=>rfl
 |cons _ _ ih=>rw[FW,FW,ih]
 |swap=>simp only[FW];lia
 |trans _ _ h1 h2=>exact h1.trans h2
theorem Aj{f:P2->P2}{d:Int}(L:Lin f d){l:List P2}(h3:3<=(ao l).length):kL (ao (l.map f))=kL (ao l):=by
 unfold kL;rw[oO ((sn L h3).map gst),Fh];exact congrArg Pe (GR λs _=>tp L s)
theorem xM{f:P2->P2}{d:Int}(L:Lin f d){l:List P2}(h3:3<=(ao l).length):area (ao (l.map f))=area (ao l):=by
 unfold area;rw[oO ((sn L h3).map crs),Fh];exact congrArg Pe (GR λs _=>AS L s)
def chn:List P2->P2->Prop
 |b::c::r,q=>0<=ae b c q/\chn (c::r) q
 |_,_=>True
structure Cvx(a:P2)(ch:List P2):Prop where
 tr:ch.Pairwise λx y=>0<ae a x y
 sd:∀x,x=a\/x∈ch->chn ch x
theorem sO(l:List P2):sdl l=Np l (l.drop 1++l.take 1):=by
 have h1:=jk l;have h2:=nN l
 have:sdl l=Np ((sdl l).map (·.1)) ((sdl l).map (·.2)):=by
  generalize sdl l=s
  induction s with
  |nil=>rfl
  |cons x r ih=>simp only[E2,GI];rw[<-ih]
 rw[h1,h2]at this;exact this
theorem fU{l:List P2}{k:Int}{i:Nat}(e:k=(i:Int))(h:i<l.length):atI (l.map pu) k=some (pu (gp l i)):=yR e (by rw[ES,dR h];rfl)
theorem Szp.mono{m n:Nat}{p:P2}(h:Szp m p)(le:m<=n):Szp n p:=⟨h.1.mono le,h.2.mono le⟩
theorem AF(Z P B q:P2)(a b:Int):ae Z P B*(wth a b q-wth a b P)=-(ae P B q*(wth a b P-wth a b Z))-ae Z P q*(wth a b P-wth a b B):=by unfold ae wth;grind
theorem nv{l:List P2}(h3:3<=(ao l).length)(a b:Int):∃Z P B,(Z,P)∈sdl (ao l)/\(P,B)∈sdl (ao l)/\0<ae Z P B/\wth a b P=hiW a b (ao l)/\wth a b Z<=wth a b P/\wth a b B<=wth a b P:=by
 obtain⟨⟨P,hP,e⟩,k⟩:=oh a b (l:=ao l) (λz=>by rw[z]at h3;simp at h3)
 obtain⟨Z,hZ⟩:=vM hP;obtain⟨B,hB,pos⟩:=jA h3 hZ;refine⟨Z,P,B,hZ,hB,pos,e,?_,?_⟩
 ·rw[e];exact k Z (cg hZ).1
 ·rw[e];exact k B (cg hB).2
theorem DE{l:List P2}(h3:3<=(ao l).length)(a b:Int){q:P2}(hq:∀s∈sdl (ao l),0<=ae s.1 s.2 q):wth a b q<=hiW a b (ao l):=by
 obtain⟨Z,P,B,hZ,hB,pos,e,k1,k2⟩:=nv h3 a b;rw[<-e];have i1:0<=ae P B q*(wth a b P-wth a b Z):=Fc (hq _ hB) (by lia)
 have i2:0<=ae Z P q*(wth a b P-wth a b B):=Fc (hq _ hZ) (by lia)
 have pe:=AF Z P B q a b;rcases FO (wth a b P) (wth a b q) with h |h
 ·have:=FD pos (show 0<wth a b q-wth a b P by lia)
  lia
 ·exact h
def nX(l:List P2):Int:=if l.length<3 then gst (gp l 0,gp l (l.length-1))+1 else kL l
def mJ(a:Int)(n:Nat):List Int:=(Fz n).map λ(i:Nat)=>a+(i:Int)
def yg(x:Int)(n:Nat)(y:Int)(m:Nat):List P2:=((mJ x n).map λa=>(mJ y m).map λb=>(a,b)).flatten
theorem fv{a:Int}{n:Nat}{x:Int}:x∈mJ a n↔a<=x/\x<a+n:=by
 unfold mJ;rw[ER];constructor
 ·rintro ⟨i,hi,rfl⟩;have:=Fk.mp hi;lia
 ·rintro ⟨h1,h2⟩;exact⟨(x-a).toNat,Fk.mpr (by lia),by lia⟩
theorem ox(a:Int)(n:Nat):(mJ a n).Nodup:=by
 unfold mJ;exact HC _ (λi j (h:i≠j) e=>h (by lia)) Lm
theorem xt{x y:Int}{n m:Nat}{p:P2}:p∈yg x n y m↔(x<=p.1/\p.1<x+n)/\y<=p.2/\p.2<y+m:=by
 unfold yg;rw[Nj];constructor
 ·rintro ⟨q,hq,hp⟩;obtain⟨a,ha,rfl⟩:=ER.mp hq;obtain⟨b,hb,rfl⟩:=ER.mp hp;exact⟨fv.mp ha,fv.mp hb⟩
 ·rintro ⟨h1,h2⟩;exact⟨_,ER.mpr ⟨p.1,fv.mpr h1,rfl⟩,ER.mpr ⟨p.2,fv.mpr h2,rfl⟩⟩
theorem y4(x:Int)(n:Nat)(y:Int)(m:Nat):(yg x n y m).Nodup:=by
 unfold yg;refine List.pairwise_flatten.mpr ⟨λq hq=>?_,?_⟩
 ·obtain⟨a,_,rfl⟩:=ER.mp hq;exact HC _ (λi j (h:i≠j) e=>h (congrArg Le e)) (ox y m)
 ·refine FF.mpr ((ox x n).imp λ{a b} h p hp q hq e=>?_)
  obtain⟨_,_,rfl⟩:=ER.mp hp;obtain⟨_,_,rfl⟩:=ER.mp hq;exact h (congrArg J6 e)
def loX(l:List P2):Int:=kQ (l.map (·.1))
def hiX(l:List P2):Int:=hiL (l.map (·.1))
def loY(l:List P2):Int:=kQ (l.map (·.2))
def hiY(l:List P2):Int:=hiL (l.map (·.2))
theorem cM{l:List Int}(h:l≠[]):hiL l∈l/\∀a∈l,a<=hiL l:=by
 cases l with
 |nil=>exact absurd rfl h
 |cons a l=>exact⟨fc l a,fP l a⟩
def bxN(l:List P2):Nat:=(hiX l+1-loX l).toNat
def byN(l:List P2):Nat:=(hiY l+1-loY l).toNat
def box(l:List P2):List P2:=yg (loX l) (bxN l) (loY l) (byN l)
theorem du{l:List P2}(Pn:l≠[]){p:P2}:p∈box l↔(loX l<=p.1/\p.1<=hiX l)/\loY l<=p.2/\p.2<=hiY l:=by
 unfold box bxN byN;rw[xt];lia
theorem rL{A B:List P2}(hA:A.Nodup)(hB:B.Nodup)(h:∀p,p∈A↔p∈B):A.length=B.length:=((Gj hA hB).mpr h).length_eq
theorem yO{l:List P2}(h3:3<=(ao l).length){p:P2}(h:∀s∈sdl (ao l),0<=ae s.1 s.2 p):p∈box (ao l):=by
 have Pn:ao l≠[]:=λz=>by rw[z]at h3;simp at h3
 have key:∀a b:Int,∃q∈ao l,wth a b p<=wth a b q:=λa b=>by
  obtain⟨⟨q,hq,e⟩,_⟩:=oh a b Pn;exact⟨q,hq,by rw[e];exact DE h3 a b h⟩
 have hx:(ao l).map (·.1)≠[]:=by simpa using Pn
 have hy:(ao l).map (·.2)≠[]:=by simpa using Pn
 obtain⟨q1,m1,k1⟩:=key 1 0;obtain⟨q2,m2,k2⟩:=key (-1) 0;obtain⟨q3,m3,k3⟩:=key 0 1;obtain⟨q4,m4,k4⟩:=key 0 (-1);have a1:=(cM hx).2 q1.1 (FI m1);have a2:=(bW hx).2 q2.1 (FI m2);have a3:=(cM hy).2 q3.2 (FI m3);have a4:=(bW hy).2 q4.2 (FI m4);unfold wth at k1 k2 k3 k4;rw[du Pn];unfold loX hiX loY hiY;lia
theorem zq(A:P2):box [A]=[A]:=by
 have h:∀p,p∈box [A]↔p∈[A]:=λp=>by
  rw[du (by simp),EV]
  unfold loX hiX loY hiY kQ hiL;simp only[E2,Ig,List.foldl_nil];constructor
  ·intro h;exact F8 (by lia) (by lia)
  ·rintro rfl;lia
 have hp:=(Gj (y4 _ _ _ _) (by simp:[A].Nodup)).mpr h
 exact List.perm_singleton.mp hp
theorem y8{A B p:P2}(h:ST.ltP A B=true):(p∈box [A,B]/\ae A B p=0)↔∃k:Int,0<=k/\k<=gst (A,B)/\p=onS (A,B) k:=by
 rw[<-n5 h,du (by simp)]
 have lt:=h;unfold ST.ltP at lt;have lt:=of_decide_eq_true lt;have e1:loX [A,B]=A.1:=by show min A.1 B.1=A.1;lia
 have e2:hiX [A,B]=B.1:=by show max A.1 B.1=B.1;lia
 have e3:loY [A,B]=min A.2 B.2:=rfl;have e4:hiY [A,B]=max A.2 B.2:=rfl;rw[e1,e2,e3,e4];unfold ST.leP;rw[decide_eq_true_eq,decide_eq_true_eq];constructor
 ·rintro ⟨⟨⟨a1,a2⟩,b1,b2⟩,d⟩;refine⟨d,?_,?_⟩
  ·rcases GJ a1 with z |z
   ·exact .inl z
   ·right
    refine⟨z,?_⟩;rcases lt with w |⟨w,w'⟩
    ·unfold ae at d;rw[<-z,OW,G6,Ks]at d;have:=(Fp.mp d).resolve_left (by lia)
     lia
    ·lia
  ·rcases GJ a2 with z |z
   ·exact .inl z
   ·right
    refine⟨z,?_⟩;rcases lt with w |⟨w,w'⟩
    ·have d':(B.1-A.1) *(p.2-B.2)=0:=by
      have:ae A B p=(B.1-A.1) *(p.2-B.2):=by unfold ae;rw[z];grind
      lia
     have:=(Fp.mp d').resolve_left (by lia)
     lia
    ·lia
 ·rintro ⟨d,a,b⟩;refine⟨⟨⟨by lia,by lia⟩,?_⟩,d⟩
  rcases lt with w |⟨w,w'⟩
  ·have hd:(B.1-A.1) *(p.2-A.2)=(B.2-A.2) *(p.1-A.1):=by unfold ae at d;lia
   have QF:(B.1-A.1) *(B.2-p.2)=(B.2-A.2) *(B.1-p.1):=by grind
   rcases L6 A.2 B.2 with u |u
   ·have x1:=Fc (show 0<=B.2-A.2 by lia) (show 0<=p.1-A.1 by lia)
    have x2:=Fc (show 0<=B.2-A.2 by lia) (show 0<=B.1-p.1 by lia)
    rw[<-hd]at x1;rw[<-QF]at x2;have y1:=cG (by lia) x1
    have y2:=cG (by lia) x2
    lia
   ·have x1:=Fc (show 0<=A.2-B.2 by lia) (show 0<=p.1-A.1 by lia)
    have x2:=Fc (show 0<=A.2-B.2 by lia) (show 0<=B.1-p.1 by lia)
    have f1:(A.2-B.2) *(p.1-A.1)=(B.1-A.1) *(A.2-p.2):=by grind
    have f2:(A.2-B.2) *(B.1-p.1)=(B.1-A.1) *(p.2-B.2):=by grind
    rw[f1]at x1;rw[f2]at x2;have y1:=cG (by lia) x1
    have y2:=cG (by lia) x2
    lia
  ·lia
theorem Ar(A B:P2):sdl [A,B]=[(A,B),(B,A)]:=by
 unfold sdl nxt;simp[IB]
theorem um{A B:P2}(h:ao [A,B]=[A,B]):ST.ltP A B=true:=by
 have nd:[A,B].Nodup:=by rw[<-h];exact bV _
 have ne:A≠B:=by simpa using nd
 have asc:=ST.srt_asc [A,B];have hm:=λz=>ST.srt_mem z [A,B]
 match e:ST.srt [A,B],asc,hm with
 |[],_,hm=>have:=(hm A).mpr (by simp);simp at this
 |[X],_,hm=>
  have a:=(hm A).mpr (by simp)
  have b:=(hm B).mpr (by simp)
  rw[EV]at a b;exact absurd (a.trans b.symm) ne
 |X::Y::[],asc,_=>
  have c:ao [A,B]=[X,Y]:=by unfold ao;rw[e];simp[am,aW]
  rw[h]at c;injection c with c1 c2
  injection c2 with c2 _
  subst c1 c2;exact (Fi.mp asc).1 _ (by simp)
 |X::Y::Z::r,_,_=>
  have:=ST.srt_len [A,B];rw[e]at this;simp at this
def iQ(l:List P2):Int:=pin l+nX l
def TP:List P2->Prop
 |[]=>True
 |a::v=>(v.Pairwise λx y=>0<ae a x y)/\TP v
section
variable {l:List P2} (R:∀s∈sdl l,∀w∈l,w≠s.1→w≠s.2→0<ae s.1 s.2 w) (nd:l.Nodup)
include R nd
end
theorem ot(f:P2->P2)(l:List P2):sdl (l.map f)=(sdl l).map λs=>(f s.1,f s.2):=by
 rw[sO,sO,<-OB,<-OA,<-FC];generalize l.drop 1++l.take 1=m
 induction l generalizing m with
 |nil=>rfl
 |cons a l ih=>
  cases m with
  |nil=>simp
  |cons b m=>simp only[E2,GI];rw[ih]
theorem l_{a b:P2}(h:ST.ltP a b=true):ao [a,b]=[a,b]:=by
 have e:ST.srt [a,b]=[a,b]:=ST.asc_srt (by simp[ST.Asc,h])
 unfold ao;rw[e];simp[am,aW]
def bZ(l:List P2)(p:P2):Bool:=if l.length=1 then decide (p=gp l 0) else if l.length=2 then (decide (ae (gp l 0) (gp l 1) p=0) && (ST.leP (gp l 0) p && ST.leP p (gp l 1))) else (sdl l).all λs=>decide (0<=ae s.1 s.2 p)
theorem fC{l:List P2}(h3:3<=l.length)(p:P2):bZ l p=true↔∀s∈sdl l,0<=ae s.1 s.2 p:=by
 unfold bZ;rw[if_neg (by lia),if_neg (by lia),Ij]
 simp only[decide_eq_true_eq]
theorem fJ(A B p:P2):bZ [A,B] p=true↔ae A B p=0/\ST.leP A p=true/\ST.leP p B=true:=by
 unfold bZ;rw[if_neg (by simp),if_pos (by simp),Gn,Gn,decide_eq_true_eq]
 rfl
theorem iH(A p:P2):bZ [A] p=true↔p=A:=by
 unfold bZ;rw[if_pos (by simp),decide_eq_true_eq];rfl
section
variable {l:List P2} (h3:3≤(ao l).length)
include h3
end
theorem Cr{A B:P2}(h:ST.ltP A B=true):A.1<B.1\/(A.1=B.1/\A.2<B.2):=by
 unfold ST.ltP at h;exact of_decide_eq_true h
theorem xJ{A B:P2}(h:ST.ltP A B=true):loX [A,B]=A.1/\hiX [A,B]=B.1/\loY [A,B]=min A.2 B.2/\hiY [A,B]=max A.2 B.2:=by
 have:=Cr h;exact⟨(by show min A.1 B.1=A.1;lia),(by show max A.1 B.1=B.1;lia),rfl,rfl⟩
theorem zT{A B:P2}(h:ST.ltP A B=true){p:P2}(hp:bZ [A,B] p=true):p∈box [A,B]:=by
 have:=(fJ A B p).mp hp;exact ((y8 h).mpr ((n5 h).mp this)).1
structure Fld(l:List P2):Prop where
 ne:l≠[]
 cr:ao l=l
theorem Fld.cases{l:List P2}(F:Fld l):(∃A,l=[A])\/(∃A B,l=[A,B]/\ST.ltP A B=true)\/3<=(ao l).length:=by
 match l,F with
 |[],F=>exact absurd rfl F.ne
 |[A],_=>exact .inl ⟨A,rfl⟩
 |[A,B],F=>exact .inr (.inl ⟨A,B,rfl,um F.cr⟩)
 |A::B::C::r,F=>exact .inr (.inr (by rw[F.cr];simp))
theorem Fld.in_box{l:List P2}(F:Fld l){p:P2}(h:bZ l p=true):p∈box l:=by
 rcases F.cases with ⟨A,rfl⟩ |⟨A,B,rfl,lt⟩ |h3
 ·rw[(iH A p).mp h,zq];simp
 ·exact zT lt h
 ·rw[<-F.cr]at h |-;exact yO h3 ((fC h3 p).mp h)
def shf(s a b:Int)(p:P2):P2:=(p.1+a,p.2+s*p.1+b)
theorem AT(s a b:Int)(p q:P2)(h:plt p q):plt (shf s a b p) (shf s a b q):=by
 unfold plt shf at *;dsimp only;rcases h with h |⟨h,k⟩
 ·left;lia
 ·right;rw[h];lia
theorem nI(s a b:Int)(p q r:P2):ae (shf s a b p) (shf s a b q) (shf s a b r)=ae p q r:=by unfold ae shf;grind
theorem AH{s a b:Int}{p q:P2}(e:shf s a b p=shf s a b q):p=q:=by
 have e1:p.1+a=q.1+a:=congrArg J6 e;have e2:p.2+s*p.1+b=q.2+s*q.1+b:=congrArg Le e;have e1:p.1=q.1:=by lia
 rw[e1]at e2;exact F8 e1 (by lia)
theorem ke(s a b:Int)(l:List P2):ao (l.map (shf s a b))=(ao l).map (shf s a b):=oV (AT s a b) (λp q r=>by rw[nI]) l
theorem tW(s a b:Int)(p q:P2):ST.leP (shf s a b p) (shf s a b q)=ST.leP p q:=by
 unfold ST.leP shf;dsimp only;rw[Hf,decide_eq_true_eq,decide_eq_true_eq];constructor
 ·rintro (h |⟨h,k⟩)
  ·left;lia
  ·right
   have:p.1=q.1:=by lia
   rw[this]at k;lia
 ·rintro (h |⟨h,k⟩)
  ·left;lia
  ·right;rw[h];lia
theorem qI{f:P2->P2}{l:List P2}{i:Nat}(h:i<l.length):gp (l.map f) i=f (gp l i):=by simp[gp,h]
theorem Cu(s a b:Int)(l:List P2)(Pn:l≠[])(p:P2):bZ (l.map (shf s a b)) (shf s a b p)=bZ l p:=by
 have h0:0<l.length:=FH.mpr Pn;unfold bZ;rw[EH];by_cases h1:l.length=1
 ·rw[if_pos h1,if_pos h1,qI h0];exact decide_eq_decide.mpr ⟨AH,λe=>by rw[e]⟩
 ·rw[if_neg h1,if_neg h1];by_cases h2:l.length=2
  ·rw[if_pos h2,if_pos h2,qI h0,qI (show 1<l.length by lia),nI,tW,tW]
  ·rw[if_neg h2,if_neg h2,ot,OP];congr 1
   funext t
   show decide (0<=ae (shf s a b t.1) (shf s a b t.2) (shf s a b p))=_;rw[nI]
theorem uD{pts:List P2}(Pn:pts≠[]):∃mn mx,(ao pts)[0]?=some mn/\mn∈pts/\mx∈pts/\(∀q∈pts,ST.ltP q mn=false)/\(∀q∈pts,ST.ltP mx q=false)/\(¬ 2<(ao pts).length->(ao pts)[(ao pts).length-1]?=some mx):=by
 have no:∀{a b:P2},(a=b\/plt a b)->ST.ltP b a=false:=λ{a b} h=>by
  rw[ST.ltP_no];rcases h with rfl |h
  ·lia
  ·unfold plt at h;lia
 by_cases h2:2<=(ST.srt pts).length
 ·have hs:=dS pts;obtain⟨mn,mx,W⟩:=BV hs h2
  have hc:ao pts=(am (ST.srt pts)).reverse.dropLast++(am (ST.srt pts).reverse).reverse.dropLast:=by
   unfold ao;rw[if_neg (by lia)]
  have R5:mn∈ST.srt pts:=bT _ _ (E9.mp (E5 W.t0));have memX:mx∈ST.srt pts:=bT _ _ (E9.mp (E5 W.t1));refine⟨mn,mx,?_,(ST.srt_mem _ _).mp R5,(ST.srt_mem _ _).mp memX,λq hq=>no ((W.least q ((ST.srt_mem _ _).mpr hq)).imp (λe=>e.symm) id),λq hq=>no (W.most q ((ST.srt_mem _ _).mpr hq)),λh=>?_⟩
  ·have:=d_ W (k:=0) (by lia)
   rw[OU]at this;rw[hc,this];exact W.t0
  ·rw[hc]at h |-;have h1:=W.lt;have h3:=W.lb;have hn:((am (ST.srt pts)).reverse.dropLast++(am (ST.srt pts).reverse).reverse.dropLast).length=(am (ST.srt pts)).reverse.length-1+((am (ST.srt pts).reverse).reverse.length-1):=by simp
   have:=d_ W (k:=(am (ST.srt pts)).reverse.length-1) (EU _);rw[W.t1,FT (by lia)]at this
   rw[<-this];congr 1;lia
 ·have h1:(ST.srt pts).length=1:=by
   obtain⟨x,hx⟩:=KA pts Pn;have:=Gb ((ST.srt_mem x pts).mpr hx);lia
  obtain⟨x,hx⟩:=Il.mp h1;have all:∀q∈pts,q=x:=λq hq=>by have:=(ST.srt_mem q pts).mpr hq;rw[hx]at this;simpa using this
  have mx:x∈pts:=(ST.srt_mem _ _).mp (by rw[hx];simp)
  rw[b6 h2,hx];exact⟨x,x,rfl,mx,mx,λq hq=>no (.inl (all q hq).symm),λq hq=>no (.inl (all q hq)),λ_=>rfl⟩
theorem og{f:P2->P2}{d:Int}(L:Lin f d)(A B:P2):gst (f A,f B)=gst (A,B):=by
 have:=tp L (A,B);unfold sdf at this;split at this
 ·exact this
 ·rw[<-eB];exact this
theorem v4{f:P2->P2}{d:Int}(L:Lin f d){A B:P2}(h:A≠B)(k:Int):onS (f A,f B) k=f (onS (A,B) k):=by
 have g0:0<gst (A,B):=jo h;have e1:=jS (A,B);have e2:=jV (A,B);have eg:=og L A B;obtain⟨a,b,c,e,_,hf⟩:=L.ex
 have u1:ub (f A,f B)=a*ub (A,B)+b*vb (A,B):=by
  unfold ub;rw[eg];dsimp only at *;rw[hf,hf];dsimp only
  rw[show a*B.1+b*B.2-(a*A.1+b*A.2)=gst (A,B) *(a*ub (A,B)+b*vb (A,B)) by
   have:a*B.1+b*B.2-(a*A.1+b*A.2)=a*(B.1-A.1)+b*(B.2-A.2):=by grind
   rw[this,e1,e2];grind]
  rw[GY _ (by lia)]
  rfl
 have v1:vb (f A,f B)=c*ub (A,B)+e*vb (A,B):=by
  unfold vb;rw[eg];dsimp only at *;rw[hf,hf];dsimp only
  rw[show c*B.1+e*B.2-(c*A.1+e*A.2)=gst (A,B) *(c*ub (A,B)+e*vb (A,B)) by
   have:c*B.1+e*B.2-(c*A.1+e*A.2)=c*(B.1-A.1)+e*(B.2-A.2):=by grind
   rw[this,e1,e2];grind]
  rw[GY _ (by lia)]
  rfl
 unfold onS;rw[u1,v1];dsimp only;rw[hf,hf];dsimp only;exact F8 (by dsimp only;grind) (by dsimp only;grind)
theorem Ac{A B:P2}(h:A≠B)(k:Int):onS (B,A) k=onS (A,B) (gst (A,B)-k):=by
 have e1:=jS (A,B);have e2:=jV (A,B);have e3:=jS (B,A);have e4:=jV (B,A);have g0:0<gst (A,B):=jo h;rw[eB]at e3 e4;dsimp only at *;have u:ub (B,A)=-ub (A,B):=F3 (a:=gst (A,B)) (by lia) (by rw[Mr];lia)
 have v:vb (B,A)=-vb (A,B):=F3 (a:=gst (A,B)) (by lia) (by rw[Mr];lia)
 unfold onS;rw[u,v];dsimp only;exact F8 (by dsimp only;grind) (by dsimp only;grind)
def pV(A B p:P2):Prop:=∃k:Int,0<=k/\k<=gst (A,B)/\p=onS (A,B) k
theorem wX{A B:P2}(h:A≠B)(p:P2):pV B A p↔pV A B p:=by
 have key:∀{A B:P2},A≠B->pV B A p->pV A B p:=λ{A B} h ⟨k,k0,k1,e⟩=>by
  rw[eB]at k1;exact⟨gst (A,B)-k,by lia,by lia,by rw[e,Ac h]⟩
 exact⟨key h,key h.symm⟩
theorem zQ{f:P2->P2}{d:Int}(L:Lin f d){A B:P2}(h:A≠B)(p:P2):pV (f A) (f B) (f p)↔pV A B p:=by
 unfold pV;rw[og L];constructor
 ·rintro ⟨k,k0,k1,e⟩;exact⟨k,k0,k1,L.inj (by rw[e,v4 L h])⟩
 ·rintro ⟨k,k0,k1,e⟩;exact⟨k,k0,k1,by rw[e,v4 L h]⟩
theorem qK{A B:P2}(h:ST.ltP A B=true)(p:P2):bZ [A,B] p=true↔pV A B p:=by rw[fJ,n5 h];rfl
theorem g9{A B:P2}(h:A≠B):(ST.ltP A B=true/\ao [A,B]=[A,B])\/(ST.ltP B A=true/\ao [A,B]=[B,A]):=by
 by_cases hl:ST.ltP A B=true
 ·exact .inl ⟨hl,l_ hl⟩
 ·have hb:=ST.ltP_tot h (by simpa using hl)
  refine .inr ⟨hb,?_⟩;rw[qj (lu (m:=[B,A]) λz=>by simp[or_comm]),l_ hb]
theorem CT{f:P2->P2}{d:Int}(L:Lin f d){l:List P2}(F:Fld l)(p:P2):bZ (ao (l.map f)) (f p)=bZ l p:=by
 rw[Hf];rcases F.cases with ⟨A,rfl⟩ |⟨A,B,rfl,lt⟩ |h3
 ·have e:ao ([A].map f)=[f A]:=rfl;rw[e,iH,iH];exact⟨λh=>L.inj h,λh=>by rw[h]⟩
 ·have ne:A≠B:=λe=>by rw[e,ST.asc_irr]at lt;cases lt
  have ne':f A≠f B:=λe=>ne (L.inj e)
  rw[qK lt,<-zQ L ne];show bZ (ao [f A,f B]) (f p)=true↔_;rcases g9 ne' with ⟨h,e⟩ |⟨h,e⟩
  ·rw[e,qK h]
  ·rw[e,qK h,wX ne']
 ·have l3:=fu L h3;have Q7:3<=l.length:=by rw[<-F.cr];exact h3
  rw[fC l3,fC Q7];constructor
  ·intro h s hs;have:=h _ ((rc L h3 _).mpr ⟨s,by rw[F.cr];exact hs,rfl⟩)
   unfold sdf at this;rcases L.one with e |e
   ·rw[if_pos e]at this;dsimp only at this;rw[L.det,e,IA]at this;exact this
   ·rw[if_neg (by lia)]at this
    dsimp only at this;rw[L.det,e]at this;have sw:ae s.2 s.1 p=-ae s.1 s.2 p:=by unfold ae;grind
    lia
  ·intro h t ht;obtain⟨s,hs,rfl⟩:=(rc L h3 t).mp ht;have k:=h s (by rw[F.cr]at hs;exact hs)
   unfold sdf;rcases L.one with e |e
   ·rw[if_pos e];dsimp only;rw[L.det,e,IA];exact k
   ·rw[if_neg (by lia)]
    dsimp only;rw[L.det,e];have sw:ae s.2 s.1 p=-ae s.1 s.2 p:=by unfold ae;grind
    lia
theorem nF{a b c d:Int}(h:a*d-b*c=1\/a*d-b*c=-1):Lin (λp:P2=>(a*p.1+b*p.2,c*p.1+d*p.2)) (a*d-b*c):=⟨h,a,b,c,d,rfl,λ_=>rfl⟩
theorem kM(a b c d e f:Int)(l:List P2):l.map (ap a b c d e f)=(l.map λp:P2=>(a*p.1+b*p.2,c*p.1+d*p.2)).map (shf 0 e f):=by
 rw[Fh];refine GR λp _=>?_
 unfold ap shf;exact F8 rfl (by dsimp only[Function.comp];lia)
theorem yd{a b c d:Int}(e f:Int)(h:a*d-b*c=1\/a*d-b*c=-1){l:List P2}(F:Fld l)(p:P2):bZ (ao (l.map (ap a b c d e f))) (ap a b c d e f p)=bZ l p:=by
 rw[kM,ke]
 have hp:ap a b c d e f p=shf 0 e f (a*p.1+b*p.2,c*p.1+d*p.2):=by
  unfold ap shf;exact F8 rfl (by dsimp only;lia)
 rw[hp,Cu _ _ _ _ (hW (by simpa using F.ne))]
 exact CT (nF h) F p
theorem wK{a b c d:Int}(e f:Int){l:List P2}(F:Fld l):Fld (ao (l.map (ap a b c d e f))):=⟨hW (by simpa using F.ne),gC _⟩
theorem xg{a b c d e f:Int}(h:a*d-b*c=1\/a*d-b*c=-1){p q:P2}(k:ap a b c d e f p=ap a b c d e f q):p=q:=by
 refine (nF h).inj ?_;have e1:a*p.1+b*p.2+e=a*q.1+b*q.2+e:=congrArg J6 k;have e2:c*p.1+d*p.2+f=c*q.1+d*q.2+f:=congrArg Le k;exact F8 (by dsimp only;lia) (by dsimp only;lia)
theorem BH{a b c d e f:Int}(h:a*d-b*c=1\/a*d-b*c=-1)(q:P2):∃p,ap a b c d e f p=q:=by
 rcases h with h |h
 ·refine⟨(d*(q.1-e)-b*(q.2-f),a*(q.2-f)-c*(q.1-e)),?_⟩;unfold ap;refine F8 ?_ ?_
  ·dsimp only;have:a*(d*(q.1-e)-b*(q.2-f))+b*(a*(q.2-f)-c*(q.1-e))=(a*d-b*c) *(q.1-e):=by grind
   rw[this,h];lia
  ·dsimp only;have:c*(d*(q.1-e)-b*(q.2-f))+d*(a*(q.2-f)-c*(q.1-e))=(a*d-b*c) *(q.2-f):=by grind
   rw[this,h];lia
 ·refine⟨(-(d*(q.1-e)-b*(q.2-f)),-(a*(q.2-f)-c*(q.1-e))),?_⟩;unfold ap;refine F8 ?_ ?_
  ·dsimp only;have:a* -(d*(q.1-e)-b*(q.2-f))+b* -(a*(q.2-f)-c*(q.1-e))=-((a*d-b*c) *(q.1-e)):=by grind
   rw[this,h];lia
  ·dsimp only;have:c* -(d*(q.1-e)-b*(q.2-f))+d* -(a*(q.2-f)-c*(q.1-e))=-((a*d-b*c) *(q.2-f)):=by grind
   rw[this,h];lia
def kg(s:P2×P2)(y:Int):Int:=(s.2.1-s.1.1) *(y-s.1.2)
def wc(y:Int)(s:P2×P2):Int:=s.1.1+kg s y/(s.2.2-s.1.2)
def yW(y:Int)(s:P2×P2):Int:=s.1.1-kg s y / -(s.2.2-s.1.2)
def cY(l:List P2)(ss:List (P2×P2))(y:Int):List Int:=hiX l::(ss.filter λs=>decide (0<s.2.2-s.1.2)).map (wc y)
def c8(l:List P2)(ss:List (P2×P2))(y:Int):List Int:=loX l::(ss.filter λs=>decide (s.2.2-s.1.2<0)).map (yW y)
def kZ(l:List P2)(y:Int):Int:=kQ (cY l (sdl l) y)
def fW(l:List P2)(y:Int):Int:=hiL (c8 l (sdl l) y)
theorem jl(s:P2×P2)(x y:Int):ae s.1 s.2 (x,y)=kg s y-(s.2.2-s.1.2) *(x-s.1.1):=by unfold ae kg;grind
theorem sQ{s:P2×P2}{x y:Int}(h:0<s.2.2-s.1.2):0<=ae s.1 s.2 (x,y)↔x<=wc y s:=by
 rw[jl];unfold wc;have k:x-s.1.1<=kg s y/(s.2.2-s.1.2)↔(x-s.1.1) *(s.2.2-s.1.2)<=kg s y:=LC h;rw[Jg]at k;lia
theorem rY{s:P2×P2}{x y:Int}(h:s.2.2-s.1.2<0):0<=ae s.1 s.2 (x,y)↔yW y s<=x:=by
 rw[jl];unfold yW;have k:s.1.1-x<=kg s y / -(s.2.2-s.1.2)↔(s.1.1-x) * -(s.2.2-s.1.2)<=kg s y:=LC (by lia)
 have e:(s.1.1-x) * -(s.2.2-s.1.2)=(s.2.2-s.1.2) *(x-s.1.1):=by grind
 rw[e]at k;lia
theorem tJ{l:List P2}{ss:List (P2×P2)}{x y:Int}:x<=kQ (cY l ss y)↔x<=hiX l/\∀s∈ss,0<s.2.2-s.1.2->x<=wc y s:=by
 have ok:=bW (l:=cY l ss y) (by unfold cY;simp)
 constructor
 ·intro h;refine⟨IC h (ok.2 _ (by unfold cY;simp)),λs hs hr=>IC h (ok.2 _ ?_)⟩
  unfold cY;exact EJ _ (FI (F4.mpr ⟨hs,decide_eq_true hr⟩))
 ·rintro ⟨h1,h2⟩;have m:=ok.1;unfold cY at m;rcases EO.mp m with e |e
  ·unfold cY;rw[e];exact h1
  ·obtain⟨s,hs,e2⟩:=ER.mp e;obtain⟨hs,hr⟩:=F4.mp hs;unfold cY;rw[<-e2];exact h2 s hs (of_decide_eq_true hr)
theorem sU{l:List P2}{ss:List (P2×P2)}{x y:Int}:hiL (c8 l ss y)<=x↔loX l<=x/\∀s∈ss,s.2.2-s.1.2<0->yW y s<=x:=by
 have ok:=cM (l:=c8 l ss y) (by unfold c8;simp)
 constructor
 ·intro h;refine⟨IC (ok.2 _ (by unfold c8;simp)) h,λs hs hr=>IC (ok.2 _ ?_) h⟩
  unfold c8;exact EJ _ (FI (F4.mpr ⟨hs,decide_eq_true hr⟩))
 ·rintro ⟨h1,h2⟩;have m:=ok.1;unfold c8 at m;rcases EO.mp m with e |e
  ·unfold c8;rw[e];exact h1
  ·obtain⟨s,hs,e2⟩:=ER.mp e;obtain⟨hs,hr⟩:=F4.mp hs;unfold c8;rw[<-e2];exact h2 s hs (of_decide_eq_true hr)
theorem vQ{l:List P2}(Pn:l≠[]):∃q∈l,q.2=loY l:=by
 obtain⟨q,hq,e⟩:=ER.mp (bW (l:=l.map (·.2)) (by simpa using Pn)).1
 exact⟨q,hq,e⟩
theorem wP{l:List P2}(Pn:l≠[]):∃q∈l,q.2=hiY l:=by
 obtain⟨q,hq,e⟩:=ER.mp (cM (l:=l.map (·.2)) (by simpa using Pn)).1
 exact⟨q,hq,e⟩
theorem yt{l:List P2}(F:Fld l)(h3:3<=l.length){x y:Int}(y0:loY l<=y)(y1:y<=hiY l):bZ l (x,y)=true↔fW l y<=x/\x<=kZ l y:=by
 have hc:=F.cr;have c3:3<=(ao l).length:=by rw[hc];exact h3
 unfold fW kZ;rw[tJ,sU];constructor
 ·intro h;have d:=(fC h3 _).mp h;have b:=(du F.ne).mp (F.in_box h);exact⟨⟨b.1.1,λs hs hr=>(rY hr).mp (d s hs)⟩,b.1.2,λs hs hr=>(sQ hr).mp (d s hs)⟩
 ·rintro ⟨⟨_,hb⟩,_,he⟩;refine (fC h3 _).mpr λs hs=>?_
  rcases FO 0 (s.2.2-s.1.2) with z |z
  ·exact (sQ z).mpr (he s hs z)
  ·rcases FO (s.2.2-s.1.2) 0 with w |w
   ·exact (rY w).mpr (hb s hs w)
   ·have e0:s.2.2-s.1.2=0:=by lia
    have cov:∀q∈l,0<=(s.2.1-s.1.1) *(q.2-s.1.2):=λq hq=>by
     have k:=dI c3 (by rw[hc];exact hs) q hq
     have:=jl s q.1 q.2;rw[e0,Hj,Ks]at this;rw[<-show kg s q.2=(s.2.1-s.1.1) *(q.2-s.1.2) from rfl,<-this]
     exact k
    rw[jl,e0,Hj,Ks];show 0<=(s.2.1-s.1.1) *(y-s.1.2);rcases FO 0 (s.2.1-s.1.1) with u |u
    ·obtain⟨q,hq,eq⟩:=vQ F.ne;have k:=Hl (cov q hq) u;exact Fc (by lia) (by lia)
    ·rcases FO (s.2.1-s.1.1) 0 with v |v
     ·obtain⟨q,hq,eq⟩:=wP F.ne;have c:=cov q hq;have e2:(s.2.1-s.1.1) *(q.2-s.1.2)=(-(s.2.1-s.1.1)) *(s.1.2-q.2):=by grind
      rw[e2]at c;have k:=Hl c (by lia)
      have e3:(s.2.1-s.1.1) *(y-s.1.2)=(-(s.2.1-s.1.1)) *(s.1.2-y):=by grind
      rw[e3];exact Fc (by lia) (by lia)
     ·rw[show s.2.1-s.1.1=0 by lia,Hj];exact Kd _
theorem bH{a b:P2}:ST.leP a b=true↔a.1<b.1\/(a.1=b.1/\a.2<=b.2):=by unfold ST.leP;exact decide_eq_true_iff
theorem wF{A B:P2}(lt:ST.ltP A B=true)(h:A.2=B.2){x y:Int}(hy:y=A.2):bZ [A,B] (x,y)=true↔fW [A,B] y<=x/\x<=kZ [A,B] y:=by
 obtain⟨b1,b2,_,_⟩:=xJ lt;unfold fW kZ;rw[tJ,sU,fJ,Ar,b1,b2];have hl:=Cr lt;constructor
 ·rintro ⟨_,h1,h2⟩;rw[bH]at h1 h2;dsimp only at h1 h2;refine⟨⟨by lia,λs hs hr=>?_⟩,by lia,λs hs hr=>?_⟩
  ·simp at hs;rcases hs with rfl |rfl <;>dsimp only at hr <;>lia
  ·simp at hs;rcases hs with rfl |rfl <;>dsimp only at hr <;>lia
 ·rintro ⟨⟨h1,_⟩,h2,_⟩;rw[bH,bH];dsimp only;refine⟨?_,by lia,by lia⟩
  unfold ae;rw[hy,<-h];grind
def kr(l:List P2)(y:Int):List P2:=(mJ (fW l y) (kZ l y+1-fW l y).toNat).map λx=>(x,y)
def dQ(l:List P2)(n:Nat):List P2:=((Fz n).map λy:Nat=>kr l (0+(y:Int))).flatten
theorem fm{l:List P2}{y:Int}{p:P2}:p∈kr l y↔p.2=y/\fW l y<=p.1/\p.1<=kZ l y:=by
 unfold kr;rw[ER];constructor
 ·rintro ⟨x,hx,rfl⟩;have:=fv.mp hx;exact⟨rfl,by lia,by lia⟩
 ·rintro ⟨e,h1,h2⟩;exact⟨p.1,fv.mpr ⟨h1,by lia⟩,by rw[<-e]⟩
theorem dY{l:List P2}{n:Nat}{p:P2}:p∈dQ l n↔(0<=p.2/\p.2<n)/\fW l p.2<=p.1/\p.1<=kZ l p.2:=by
 unfold dQ;rw[Nj];constructor
 ·rintro ⟨r,hr,hp⟩;obtain⟨y,hy,rfl⟩:=ER.mp hr;have:=Fk.mp hy;obtain⟨e,h1,h2⟩:=fm.mp hp;rw[<-e]at h1 h2;exact⟨by lia,h1,h2⟩
 ·rintro ⟨h0,h1,h2⟩;exact⟨_,ER.mpr ⟨p.2.toNat,Fk.mpr (by lia),rfl⟩,fm.mpr ⟨by lia,by rw[show 0+(p.2.toNat:Int)=p.2 by lia];exact⟨h1,h2⟩⟩⟩
theorem rZ(l:List P2)(y:Int):(kr l y).Nodup:=HC _ (λa b h e=>h (congrArg J6 e)) (ox _ _)
theorem kG(l:List P2)(n:Nat):dQ l (n+1)=dQ l n++kr l (0+(n:Int)):=by
 unfold dQ;rw[IB,FC,List.flatten_append];simp
theorem kP(l:List P2):∀n,(dQ l n).Nodup
 |0=>by unfold dQ;simp
 |n+1=>by
  rw[kG];refine Hy.mpr ⟨kP l n,rZ l _,λa ha b hb e=>?_⟩
  have h1:=dY.mp ha;have h2:=(fm.mp hb).1;rw[<-e]at h2;lia
structure Lev(l:List P2):Prop where
 F:Fld l
 y0:loY l=0
 two:l.length=2->hiY l=0
 ne1:2<=l.length
theorem j5{l:List P2}(L:Lev l)(p:P2):p∈dQ l (hiY l+1).toNat↔bZ l p=true:=by
 obtain⟨q,hq,eq⟩:=vQ L.F.ne
 have hh:0<=hiY l:=by
  have:=(cM (l:=l.map (·.2)) (by simpa using L.F.ne)).2 q.2 (FI hq)
  have e:=L.y0;unfold hiY;lia
 rw[dY]
 have key:0<=p.2->p.2<=hiY l->(bZ l (p.1,p.2)=true↔fW l p.2<=p.1/\p.1<=kZ l p.2):=λh0 h1=>by
  rcases L.F.cases with ⟨A,rfl⟩ |⟨A,B,e,lt⟩ |h3
  ·have:=L.ne1;simp at this
  ·subst e;obtain⟨_,_,b3,b4⟩:=xJ lt;have t:=L.two rfl;have y0:=L.y0;exact wF lt (by lia) (by lia)
  ·exact yt L.F (by rw[<-L.F.cr];exact h3) (by rw[L.y0];exact h0) h1
 constructor
 ·rintro ⟨h0,h1⟩;exact (key h0.1 (by lia)).mpr h1
 ·intro h;have b:=(du L.F.ne).mp (L.F.in_box h);rw[L.y0]at b;exact⟨by lia,(key b.2.1 b.2.2).mp h⟩
structure LvP(a b:P2)(g u v s t:Int):Prop where
 gp:0<g
 hu:g*u=b.1-a.1
 hv:g*v=b.2-a.2
 st:s*u+t*v=1
abbrev lvF(a:P2)(u v s t:Int):P2->P2:=ap s t (-v) u (-s*a.1-t*a.2) (v*a.1-u*a.2)
abbrev bkF(a:P2)(u v s t:Int):P2->P2:=ap u (-t) v s a.1 a.2
theorem sK{a b:P2}{g u v s t:Int}(L:LvP a b g u v s t)(p:P2):bkF a u v s t (lvF a u v s t p)=p/\lvF a u v s t (bkF a u v s t p)=p:=by
 have h:=L.st;unfold bkF lvF ap;refine⟨F8 ?_ ?_,F8 ?_ ?_⟩ <;>dsimp only
 ·have:u*(s*p.1+t*p.2+(-s*a.1-t*a.2))+-t*(-v*p.1+u*p.2+(v*a.1-u*a.2))+a.1=(s*u+t*v) *p.1-(s*u+t*v) *a.1+a.1:=by grind
  rw[this,h];lia
 ·have:v*(s*p.1+t*p.2+(-s*a.1-t*a.2))+s*(-v*p.1+u*p.2+(v*a.1-u*a.2))+a.2=(s*u+t*v) *p.2-(s*u+t*v) *a.2+a.2:=by grind
  rw[this,h];lia
 ·have:s*(u*p.1+-t*p.2+a.1)+t*(v*p.1+s*p.2+a.2)+(-s*a.1-t*a.2)=(s*u+t*v) *p.1:=by grind
  rw[this,h];lia
 ·have:-v*(u*p.1+-t*p.2+a.1)+u*(v*p.1+s*p.2+a.2)+(v*a.1-u*a.2)=(s*u+t*v) *p.2:=by grind
  rw[this,h];lia
theorem BL{a b:P2}{g u v s t:Int}(L:LvP a b g u v s t)(q:P2):g*(lvF a u v s t q).2=ae a b q:=by
 unfold lvF ap ae;dsimp only;rw[<-L.hu,<-L.hv];grind
theorem yB{l:List P2}(F:Fld l)(h2:2<=l.length){g u v s t:Int}(L:LvP (gp l 0) (gp l 1) g u v s t):Lev (ao (l.map (lvF (gp l 0) u v s t))):=by
 have hd:s*u-t* -v=1:=by have:=L.st;grind
 have F':=wK (a:=s) (b:=t) (c:=-v) (d:=u) (-s*(gp l 0).1-t*(gp l 0).2) (v*(gp l 0).1-u*(gp l 0).2) F;have hg:=L.gp;have im0:lvF (gp l 0) u v s t (gp l 0)=(0,0):=by unfold lvF ap;refine F8 ?_ ?_ <;>dsimp only <;>grind
 have up:∀q∈l,0<=(lvF (gp l 0) u v s t q).2:=λq hq=>by
  have e:=BL L q
  have k:0<=ae (gp l 0) (gp l 1) q:=by
   rcases F.cases with ⟨A,rfl⟩ |⟨A,B,rfl,lt⟩ |h3
   ·simp at h2
   ·simp at hq;rcases hq with rfl |rfl
    ·show 0<=ae q B q;unfold ae;grind
    ·show 0<=ae A q q;unfold ae;grind
   ·have c3:3<=l.length:=by rw[<-F.cr];exact h3
    have hs:=ue (l:=l) (i:=0) (by lia)
    rw[show (0+1)%l.length=1 from FT (by lia)]at hs
    exact dI h3 (by rw[F.cr];exact hs) q hq
  rw[<-e]at k;exact Hl k hg
 have g0:gp l 0∈l:=ce (by lia)
 have yb:∀q∈ao (l.map (lvF (gp l 0) u v s t)),0<=q.2:=λq hq=>by
  obtain⟨p,hp,rfl⟩:=ER.mp (bA _ q hq);exact up p hp
 have R0:3<=l.length->3<=(ao (l.map (lvF (gp l 0) u v s t))).length:=λh3=>by
  unfold lvF;rw[kM,ke,EH];exact fu (nF (.inl hd)) (by rw[F.cr];exact h3)
 have two:∀A B,l=[A,B]->ST.ltP A B=true->ao (l.map (lvF (gp l 0) u v s t))=[(0,0),(g,0)]:=λA B e lt=>by
  subst e
  have im1:lvF A u v s t B=(g,0):=by
   have k1:=L.hu;have k2:=L.hv;have k3:=L.st;have k1':g*u=B.1-A.1:=k1;have k2':g*v=B.2-A.2:=k2;unfold lvF ap;refine F8 ?_ ?_ <;>dsimp only
   ·have:s*B.1+t*B.2+(-s*A.1-t*A.2)=s*(B.1-A.1)+t*(B.2-A.2):=by grind
    rw[this,<-k1',<-k2'];have:s*(g*u)+t*(g*v)=g*(s*u+t*v):=by grind
    rw[this,k3,K6]
   ·have:-v*B.1+u*B.2+(v*A.1-u*A.2)=u*(B.2-A.2)-v*(B.1-A.1):=by grind
    rw[this,<-k1',<-k2'];grind
  have im0':lvF A u v s t A=(0,0):=im0;show ao [lvF A u v s t A,lvF A u v s t B]=_;rw[im0',im1];rcases g9 (A:=(0,0)) (B:=(g,0)) (λe=>by have:=congrArg J6 e;dsimp only at this;lia) with ⟨_,e⟩ |⟨z,_⟩
  ·exact e
  ·have:=Cr z;dsimp only at this;lia
 refine⟨F',?_,λe=>?_,?_⟩
 ·obtain⟨c,hc,k⟩:=pF 0 (-1) (FI (f:=lvF (gp l 0) u v s t) g0);rw[im0]at k;unfold wth at k;dsimp only at k;have c0:=yb c hc;have ok:=bW (l:=(ao (l.map (lvF (gp l 0) u v s t))).map (·.2)) (by simpa using F'.ne)
  have le:=ok.2 c.2 (FI (f:=λp:P2=>p.2) hc)
  obtain⟨d,QF,ed⟩:=ER.mp ok.1;have:=yb d QF;unfold loY;lia
 ·rcases F.cases with ⟨A,rfl⟩ |⟨A,B,e2,lt⟩ |h3
  ·simp at h2
  ·rw[two A B e2 lt];rfl
  ·have:=R0 (by rw[<-F.cr];exact h3);lia
 ·rcases F.cases with ⟨A,rfl⟩ |⟨A,B,e2,lt⟩ |h3
  ·simp at h2
  ·rw[two A B e2 lt];exact EU _
  ·have:=R0 (by rw[<-F.cr];exact h3);lia
def xq(l:List P2)(u v s t:Int):List P2:=(dQ (ao (l.map (lvF (gp l 0) u v s t))) (hiY (ao (l.map (lvF (gp l 0) u v s t)))+1).toNat).map (bkF (gp l 0) u v s t)
theorem sL{l:List P2}(F:Fld l)(h2:2<=l.length){g u v s t:Int}(L:LvP (gp l 0) (gp l 1) g u v s t)(p:P2):p∈xq l u v s t↔bZ l p=true:=by
 have hd:s*u-t* -v=1:=by have:=L.st;grind
 have iw:=λq=>yd (a:=s) (b:=t) (c:=-v) (d:=u) (-s*(gp l 0).1-t*(gp l 0).2) (v*(gp l 0).1-u*(gp l 0).2) (.inl hd) F q
 have V:=yB F h2 L;unfold xq;rw[ER];constructor
 ·rintro ⟨q,hq,rfl⟩;have k:=(j5 V q).mp hq;rw[<-(sK L q).2]at k;rw[<-iw];exact k
 ·intro h;exact⟨lvF (gp l 0) u v s t p,(j5 V _).mpr (by rw[iw];exact h),(sK L p).1⟩
theorem vY{l:List P2}{g u v s t:Int}(L:LvP (gp l 0) (gp l 1) g u v s t):(xq l u v s t).Nodup:=
 HC _ (λa b h e=>h (by rw[<-(sK L a).2,<-(sK L b).2,e])) (kP _ _)
def aJ(l:List P2):List P2:=ST.srt ((box l).filter λp=>bZ l p)
theorem br{l:List P2}(F:Fld l)(p:P2):p∈aJ l↔bZ l p=true:=by
 unfold aJ;rw[ST.srt_mem,F4];exact⟨λh=>h.2,λh=>⟨F.in_box h,h⟩⟩
theorem mU{l R:List P2}(F:Fld l)(h:∀p,p∈R↔bZ l p=true):ST.srt R=aJ l:=by
 unfold aJ;refine lu λp=>?_
 rw[h,F4];exact⟨λk=>⟨F.in_box k,k⟩,λk=>k.2⟩
def wU:List U->Out->Prop:=λus o=>∃l:List P2,us=[lp l]/\0<l.length/\l.length<=900/\(∀p∈l,Szp 2500 p)/\o=.val (.int (nX l))
theorem vT(T:Txt w K mg):ba P w K mg base (CXF P w) 4 T.aa1.a T.aa1.d ["land"] (spU K (wU)):=by
 refine aV T.aa1.F qS (λus o h=>?_) (λPp A outer s H E O us o hr h=>?_)
 ·obtain⟨l,rfl,h0,hl,sz,rfl⟩:=h;rfl
 obtain⟨l,rfl,h0,hl,sz,rfl⟩:=h;refine Ws.nox ?_;have hm:((l.map pu).length:Int)=(l.length:Int):=by rw[EH]
 unfold nX;by_cases h3:l.length<3
 ·rw[if_pos h3];refine af (df (aA e_ (aq (bn rfl) rfl T.aac E8 (ac (aa 0 rfl) aj ai)) ag) (by rw[hm];exact decide_eq_true (by lia)) ?_)
  have z0:=sz _ (ce h0);have z1:=sz _ (ce (l:=l) (i:=l.length-1) (by lia))
  obtain⟨cs,ct,G⟩:=jK ((gp l (l.length-1)).1-(gp l 0).1) ((gp l (l.length-1)).2-(gp l 0).2);refine af (a_ (cA (ax ((kB T).mono (by decide)) hr rfl T.aaC.m T.aaC.F.kp T.aaC.b au (ac (aw (aa 0 rfl) ag rfl (DR h0)) (ac (aw (aa 0 rfl) (bO ag) rfl (jx h0)) aj aH) aH) ⟨_,_,_,_,_,cs,ct,rfl,⟨z0.1.mono (by decide),z0.2.mono (by decide),z1.1.mono (by decide),z1.2.mono (by decide)⟩,G,rfl⟩) ag) ?_)
  exact rfl
 ·rw[if_neg h3];refine af (bv (aA e_ (aq (bn rfl) rfl T.aac E8 (ac (aa 0 rfl) aj ai)) ag) (by rw[hm];exact decide_eq_false (by lia)) (aB ?_))
  refine af (a_ (aq (jF rfl ) rfl T.aa7 Nn (ac (EvN.ev (dj (ys:=(((sdl l).map gst).map U.int)) rfl (blk (ak x8) ["land","A","B"] [1,2] rfl rfl rfl rfl (by decide+kernel)) (bQ (EvN.ev (bj ((f6 T).mono (by decide)) hr rfl T.aap.m T.aap.F.kp T.aap.b au (ac (aa 0 rfl) aj ai) ⟨l,rfl,hl,rfl⟩)) (.inl rfl)) (λ_ _ _ _=>j9 rfl (bS (aQ (i:=1) qS.nd rfl (Or.inl rfl)) (bS (aQ (i:=2) qS.nd rfl (Or.inl rfl)) fI))) (jB (js:=[1,2]) (by decide)) ?clen ?csz ?dom ?celt)) aj ci)) ?_)
  case clen=>simp
  case csz=>simp only[gv,EH];exact FB (ay (by lia))
  case dom=>
   intro x hx;obtain⟨s,_,rfl⟩:=ER.mp hx;exact⟨_,rfl,rfl⟩
  case celt=>
   intro C s' H' fp j x y hx hy;rw[Fh]at hy;obtain⟨s,hs,ms,rfl,rfl⟩:=cH hx hy;obtain⟨m1,m2⟩:=cg ms;obtain⟨cs,ct,G⟩:=jK (s.2.1-s.1.1) (s.2.2-s.1.2);exact (ax ((kB T).mono (by decide)) hr rfl T.aaC.m T.aaC.F.kp T.aaC.b au (ac (aa 1 rfl) (ac (aa 2 rfl) aj ai) ai) ⟨_,_,_,_,_,cs,ct,rfl,⟨(sz _ m1).1.mono (by decide),(sz _ m1).2.mono (by decide),(sz _ m2).1.mono (by decide),(sz _ m2).2.mono (by decide)⟩,G,rfl⟩)
  exact rfl
theorem qy{m n:Nat}{k:Int}{p:P2}(sk:Sz n k)(s:Szp m p):Szp (n+m) (scl k p):=⟨L2.Sz.mul sk s.1,L2.Sz.mul sk s.2⟩
def vA:List U->Out->Prop:=λus o=>∃(pts:List P2) (k:Int),us=[lp pts,.int k]/\Sz 1000 k/\(∀p∈pts,Szp 3000 p)/\pts≠[]/\pts.length<64/\o=.new ((ao (pts.map (scl k))).map pu)
theorem nu(T:Txt w K mg):ba P w K mg base (CXF P w) 5 T.aaT.a T.aaT.d ["land","k"] (spU K (vA)):=by
 refine aV T.aaT.F ud (λus o h=>?_) (λPp A outer s H E O us o hr h=>?_)
 ·obtain⟨pts,k,rfl,sk,sz,Pn,hl,rfl⟩:=h;rfl
 obtain⟨pts,k,rfl,sk,sz,Pn,hl,rfl⟩:=h;refine Ws.nox ?_;refine af (cX (bj ((kD T).mono (by decide)) hr rfl T.aaE.m T.aaE.F.kp T.aaE.b au (ac (EvN.ev (dj (ys:=(pts.map λp=>pu (scl k p))) rfl (blk (ak rq) ["land","k","P"] [2] rfl rfl rfl rfl (by decide+kernel)) (bQ (aa 0 rfl) (.inl rfl)) (λ_ _ _ _=>aQ (i:=2) ud.nd rfl (Or.inl rfl)) (bM (by decide)) ?clen ?csz (λ_ _=>trivial) ?celt)) aj ci) ⟨pts.map (scl k),by rw[lp,Fh];rfl,λp hp=>by obtain⟨q,hq,rfl⟩:=ER.mp hp;have z:=qy sk (sz q hq);exact⟨z.1.mono (by decide),z.2.mono (by decide)⟩,by rw[EH];exact hl,by simpa using Pn,rfl⟩) ?_)
 case clen=>simp
 case csz=>rw[EH];exact FB (ay (by lia))
 case celt=>
  intro C s' H' fp j x y hx hy;obtain⟨p,hp,mp,rfl,rfl⟩:=cH hx hy;have s1:=(sz p mp).1;have s2:=(sz p mp).2;exact (bo (ar (aZ (aa 1 rfl) (aw (aa 2 rfl) ag rfl rfl) (by walk_at"mul")) (ar (aZ (aa 1 rfl) (aw (aa 2 rfl) ag rfl rfl) (by walk_at"mul")) bg bp) bp))
 exact rfl
def uo:List U->Out->Prop:=λus o=>∃(pts:List P2) (k:Int),us=[lp pts,.int k]/\0<=k/\Sz 1000 k/\(∀p∈pts,Szp 3000 p)/\pts≠[]/\pts.length<64/\o=.new ((ao (pts.map (scl k))).map pu)
theorem pR(T:Txt w K mg):ba P w K mg base (CXF P w) 6 T.aaK.a T.aaK.d ["land","k"] (spU K (uo)):=by
 refine aV T.aaK.F pz (λus o h=>?_) (λPp A outer s H E O us o hr h=>?_)
 ·obtain⟨pts,k,rfl,k0,sk,sz,Pn,hl,rfl⟩:=h;rfl
 obtain⟨pts,k,rfl,k0,sk,sz,Pn,hl,rfl⟩:=h;refine Ws.nox ?_;refine af (bv (aA e_ (aa 1 rfl) ag) (decide_eq_false (by lia)) (aB ?_))
 refine af (cX (bj ((nu T).mono (by decide)) hr rfl T.aaT.m T.aaT.F.kp T.aaT.b au (ac (aa 0 rfl) (ac (aa 1 rfl) aj ai) ai) ⟨pts,k,rfl,sk,sz,Pn,hl,rfl⟩) ?_)
 exact rfl
def wx:List U->Out->Prop:=λus o=>∃l:List P2,us=[lp l]/\l.length<=900/\(∀p∈l,Szp 2500 p)/\o=.val (.int (pin l))
theorem mK(T:Txt w K mg):ba P w K mg base (CXF P w) 5 T.aaz.a T.aaz.d ["land"] (spU K (wx)):=by
 refine aV T.aaz.F nE (λus o h=>?_) (λPp A outer s H E O us o hr h=>?_)
 ·obtain⟨l,rfl,hl,sz,rfl⟩:=h;rfl
 obtain⟨l,rfl,hl,sz,rfl⟩:=h;refine Ws.nox ?_;have hm:((l.map pu).length:Int)=(l.length:Int):=by rw[EH]
 by_cases h3:l.length<3
 ·refine af (df (aA e_ (aq (bn rfl) rfl T.aac E8 (ac (aa 0 rfl) aj ai)) ag) (by rw[hm];exact decide_eq_true (by lia)) ?_)
  refine af (a_ ag ?_);exact vIO (by unfold pin;rw[if_pos h3])
 ·refine af (bv (aA e_ (aq (bn rfl) rfl T.aac E8 (ac (aa 0 rfl) aj ai)) ag) (by rw[hm];exact decide_eq_false (by lia)) (aB ?_))
  have er:nX l=kL l:=by unfold nX;rw[if_neg h3]
  refine af (a_ (fA (cA (bw (ax ((kn T).mono (by decide)) hr rfl T.aaq.m T.aaq.F.kp T.aaq.b au (ac (aa 0 rfl) aj ai) ⟨l,rfl,hl,sz,rfl⟩) (ax ((vT T).mono (by decide)) hr rfl T.aa1.m T.aa1.F.kp T.aa1.b au (ac (aa 0 rfl) aj ai) ⟨l,rfl,by lia,hl,sz,rfl⟩)) ag) ag (by walk_at"div")) ?_)
  exact vIO (by unfold pin;rw[if_neg h3,er])
theorem wo{pts:List P2}{k:Int}(sk:Sz 1000 k)(sz:∀p∈pts,Szp 1500 p):∀p∈ao (pts.map (scl k)),Szp 2500 p:=λp hp=>by
 obtain⟨q,hq,rfl⟩:=ER.mp (bA _ p hp);exact qy sk (sz q hq)
def jU:List U->Out->Prop:=λus o=>∃(pts:List P2) (k:Int),us=[lp pts,.int k]/\0<=k/\Sz 1000 k/\(∀p∈pts,Szp 1500 p)/\pts≠[]/\pts.length<64/\o=.val (.int (iQ (ao (pts.map (scl k)))))
theorem xW(T:Txt w K mg):ba P w K mg base (CXF P w) 7 T.aa0.a T.aa0.d ["land","k"] (spU K (jU)):=by
 refine Ce T.aa0.F oH (λus o h=>?_) (λPp A outer s H E O us o hr h=>?_)
 ·obtain⟨pts,k,rfl,k0,sk,sz,Pn,hl,rfl⟩:=h;rfl
 obtain⟨pts,k,rfl,k0,sk,sz,Pn,hl,rfl⟩:=h;refine Ws.nox ?_;have cl:(ao (pts.map (scl k))).length<=900:=Gs (hX _) (by rw[EH];lia)
 have cn:0<(ao (pts.map (scl k))).length:=FH.mpr (hW (by simpa using Pn))
 refine af (aI (i:=2) oH.nd rfl (Or.inl rfl) (EvN.ev (bj ((pR T).mono (by decide)) hr rfl T.aaK.m T.aaK.F.kp T.aaK.b au (ac (aa 0 rfl) (ac (aa 1 rfl) aj ai) ai) ⟨pts,k,rfl,k0,sk,qD (by decide) sz,Pn,hl,rfl⟩)) ?_)
 refine af (a_ (cA (ax ((mK T).mono (by decide)) hr rfl T.aaz.m T.aaz.F.kp T.aaz.b au (ac (aa 2 rfl) aj ai) ⟨_,rfl,cl,wo sk sz,rfl⟩) (ax ((vT T).mono (by decide)) hr rfl T.aa1.m T.aa1.F.kp T.aa1.b au (ac (aa 2 rfl) aj ai) ⟨_,rfl,cn,cl,wo sk sz,rfl⟩)) ?_)
 exact rfl
theorem qR(l:List P2)(L:List (P2×P2))(s:P2×P2)(y:Int):cY l (L++[s]) y=cY l L y++(if 0<s.2.2-s.1.2 then [wc y s] else []):=by
 unfold cY;rw[MH,FC];by_cases h:0<s.2.2-s.1.2
 ·rw[if_pos h,Lg (by simpa using h)];rfl
 ·rw[if_neg h,Lh (by simpa using h)];rfl
theorem qr(l:List P2)(L:List (P2×P2))(s:P2×P2)(y:Int):c8 l (L++[s]) y=c8 l L y++(if s.2.2-s.1.2<0 then [yW y s] else []):=by
 unfold c8;rw[MH,FC];by_cases h:s.2.2-s.1.2<0
 ·rw[if_pos h,Lg (by simpa using h)];rfl
 ·rw[if_neg h,Lh (by simpa using h)];rfl
theorem yD(l:List P2)(y:Int)(L:List (P2×P2)):(cY l L y).length<=L.length+1/\(c8 l L y).length<=L.length+1:=by
 unfold cY c8;simp only[FN,EH];exact⟨Nk (Hm _ _),Nk (Hm _ _)⟩
def qX:List U->Out->Prop:=λus o=>∃(l:List P2) (y:Int),us=[lp l,.int y]/\l≠[]/\l.length<=900/\(∀q∈l,Szp 1000 q)/\Sz 1001 y/\o=.val (.tup [.int (fW l y),.int (kZ l y)])
theorem o8(T:Txt w K mg):ba P w K mg base (CXF P w) 2 T.aaL.a T.aaL.d ["land","y"] (spU K (qX)):=by
 refine aV T.aaL.F cy (λus o h=>?_) (λPp A outer s H E O us o hr h=>?_)
 ·obtain⟨l,y,rfl,Pn,hl,sz,sy,rfl⟩:=h;rfl
 obtain⟨l,y,rfl,Pn,hl,sz,sy,rfl⟩:=h;refine Ws.nox ?_;obtain⟨mn,mx,_,m1,m2,q1,q2,_⟩:=uD Pn;have hx:l.map (·.1)≠[]:=by simpa using Pn
 have e1:mn.1=loX l:=by
  have ok:=bW hx;obtain⟨q,hq,e⟩:=ER.mp ok.1;have a:=ok.2 mn.1 (FI (f:=λp:P2=>p.1) m1)
  have b:=q1 q hq;rw[ST.ltP_no]at b;unfold loX;lia
 have e2:mx.1=hiX l:=by
  have ok:=cM hx;obtain⟨q,hq,e⟩:=ER.mp ok.1;have a:=ok.2 mx.1 (FI (f:=λp:P2=>p.1) m2)
  have b:=q2 q hq;rw[ST.ltP_no]at b;unfold hiX;lia
 refine af (eQ (i:=2) cy.nd rfl (Or.inl rfl) (dg (ar (aw (aq (B9 rfl (eK hr) m1 q1) rfl T.aa9 OG (ac (aa 0 rfl) aj ai)) ag rfl rfl) bg aH)) ?_);refine af (eQ (i:=3) cy.nd rfl (Or.inl rfl) (dg (ar (aw (aq (CQ rfl (eK hr) m2 q2) rfl T.aa8 OH (ac (aa 0 rfl) aj ai)) ag rfl rfl) bg aH)) ?_);rw[e1,e2];refine af (dJ (λi:Nat=>[some (.val (lp l)),some (.val (.int y)),some (.own ((c8 l ((sdl l).take i) y).map U.int)),some (.own ((cY l ((sdl l).take i) y).map U.int)),none,none,none,none]) (λi j=>i=j) rfl PassesOwn.never (bQ (EvN.ev (bj ((f6 T).mono (by decide)) hr rfl T.aap.m T.aap.F.kp T.aap.b au (ac (aa 0 rfl) aj ai) ⟨l,rfl,hl,rfl⟩)) (.inl rfl)) ?h0 ?hs ?hd)
 case h0=>exact⟨0,rfl,rfl,rfl,rfl,rfl,trivial⟩
 case hs=>
  rintro H0 i x _ QY rfl
  have hq:∃s,(sdl l)[i]?=some s/\x=pq s:=by
   rw[ES]at QY;cases e:(sdl l)[i]? with
   |none=>rw[e]at QY;cases QY
   |some s=>rw[e]at QY;cases QY;exact⟨s,rfl,rfl⟩
  obtain⟨s,hs,rfl⟩:=hq;obtain⟨n1,n2⟩:=cg (E5 hs);have hi:i<(sdl l).length:=aF hs;rw[gv]at hi;have z1:=(sz _ n1).1;have z2:=(sz _ n1).2;have z3:=(sz _ n2).1;have z4:=(sz _ n2).2;have tk:(sdl l).take (i+1)=(sdl l).take i++[s]:=by rw[He,hs];rfl
  have bE:=qR l ((sdl l).take i) s y;have bB:=qr l ((sdl l).take i) s y;rw[<-tk]at bE bB;obtain⟨r1,r2⟩:=yD l y ((sdl l).take i);have r0:((sdl l).take i).length<=i:=by simp;lia
  refine⟨_,(wV [4,5] rfl (bS (aQ (i:=4) cy.nd rfl (Or.inl rfl)) (bS (aQ (i:=5) cy.nd rfl (Or.inl rfl)) fI)) rfl),?_⟩;refine af (aI (i:=6) cy.nd rfl (Or.inl rfl) (bw (aw (aa 5 rfl) ag rfl rfl) (aw (aa 4 rfl) ag rfl rfl)) ?_);refine af (aI (i:=7) cy.nd rfl (Or.inl rfl) (aZ (bw (aw (aa 5 rfl) ag rfl rfl) (aw (aa 4 rfl) ag rfl rfl)) (bw (aa 1 rfl) (aw (aa 4 rfl) ag rfl rfl)) (by walk_at"mul")) ?_)
  rw[show (s.2.1-s.1.1) *(y-s.1.2)=kg s y from rfl]
  have rz:Sz 1001 (s.2.2-s.1.2):=(L2.Sz.sub' z4 z2).mono (by decide)
  have rn:Sz 1001 (-(s.2.2-s.1.2)):=rz.natle (by lia)
  show Ws _ _ _ _ _ _ [some (.val (lp l)),some (.val (.int y)),some (.own ((c8 l ((sdl l).take i) y).map U.int)),some (.own ((cY l ((sdl l).take i) y).map U.int)),some (.val (pu s.1)),some (.val (pu s.2)),some (.val (.int (s.2.2-s.1.2))),some (.val (.int (kg s y)))];by_cases p:0<s.2.2-s.1.2
  ·rw[if_pos p]at bE;rw[if_neg (by lia),HE]at bB
   refine af (df (aA fE (aa 6 rfl) ag) (decide_eq_true p) ?_);refine af (ck 3 rfl (cA (aw (aa 4 rfl) ag rfl rfl) (fA (aa 7 rfl) (aa 6 rfl) ⟨p,rz.mono (by decide)⟩)) (by rw[EH];exact ay (by lia)) (aB ?_))
   refine af (bv (aA e_ (aa 6 rfl) ag) (decide_eq_false (by lia)) (aB (aB ?_)))
   refine⟨i+1,rfl,rfl,rfl,?_,?_,trivial⟩
   ·exact congrArg (λl=>some (Sl.own l)) (by rw[bB])
   ·exact congrArg (λl=>some (Sl.own l)) (by rw[bE,FC];rfl)
  ·rw[if_neg p,HE]at bE;refine af (bv (aA fE (aa 6 rfl) ag) (decide_eq_false p) (aB ?_));by_cases n:s.2.2-s.1.2<0
   ·rw[if_pos n]at bB;refine af (df (aA e_ (aa 6 rfl) ag) (decide_eq_true n) ?_);refine af (ck 2 rfl (bw (aw (aa 4 rfl) ag rfl rfl) (fA (aa 7 rfl) (bO (aa 6 rfl)) ⟨by lia,rn.mono (by decide)⟩)) (by rw[EH];exact ay (by lia)) (aB (aB ?_)))
    refine⟨i+1,rfl,rfl,rfl,?_,?_,trivial⟩
    ·exact congrArg (λl=>some (Sl.own l)) (by rw[bB,FC];rfl)
    ·exact congrArg (λl=>some (Sl.own l)) (by rw[bE])
   ·rw[if_neg n,HE]at bB;refine af (bv (aA e_ (aa 6 rfl) ag) (decide_eq_false n) (aB (aB ?_)));refine⟨i+1,rfl,rfl,rfl,?_,?_,trivial⟩
    ·exact congrArg (λl=>some (Sl.own l)) (by rw[bB])
    ·exact congrArg (λl=>some (Sl.own l)) (by rw[bE])
 case hd=>
  rintro q ps hq PU;refine c7 ?_ PU;have e:q=(sdl l).length:=by rw[<-hq,EH]
  subst e;rw[G5];refine qC 2 rfl (qC 3 rfl ?_);show Ws _ _ _ _ _ _ [some (.val (lp l)),some (.val (.int y)),some (.val (.lst ((c8 l (sdl l) y).map U.int))),some (.val (.lst ((cY l (sdl l) y).map U.int))),none,none,none,none];refine af (a_ (bo (ar (aq (xA rfl (cM (l:=c8 l (sdl l) y) (by unfold c8;simp))) rfl T.aa8 OH (ac (aa 2 rfl) aj ai)) (ar (aq (xw rfl (bW (l:=cY l (sdl l) y) (by unfold cY;simp))) rfl T.aa9 OG (ac (aa 3 rfl) aj ai)) bg aX) aX)) ?_)
  exact rfl
theorem DC{a b c d e f a' b' c' d' e' f':Int}(h1:a=a')(h2:b=b')(h3:c=c')(h4:d=d')(h5:e=e')(h6:f=f'):mv a b c d e f=mv a' b' c' d' e' f':=by rw[h1,h2,h3,h4,h5,h6]
theorem BR{a b:P2}(h:a≠b):∃g s1 t1 s t:Int,di (b.1-a.1) (b.2-a.2) g s1 t1/\g≠0/\di ((b.1-a.1)/g) ((b.2-a.2)/g) 1 s t/\LvP a b g ((b.1-a.1)/g) ((b.2-a.2)/g) s t:=by
 obtain⟨g,s1,t1,G⟩:=iF (b.1-a.1) (b.2-a.2)
 have gn:g≠0:=λe=>h (by
  obtain⟨h1,h2⟩:=u9 G e;exact F8 h1 h2)
 have gp:0<g:=by have:=G.g0;lia
 obtain⟨g',s,t,G'⟩:=iF ((b.1-a.1)/g) ((b.2-a.2)/g);have:=uX G gp G';subst this;exact⟨g,s1,t1,s,t,G,gn,G',gp,IR G.da,IR G.db,G'.eq⟩
theorem t4{a:P2}{u v s t:Int}(h:s*u+t*v=1):Av s t (-v) u (-s*a.1-t*a.2) (v*a.1-u*a.2)=mv u (-t) v s a.1 a.2:=by
 have k:s*u-t* -v=1:=by grind
 unfold Av;rw[k];refine DC (by lia) (by lia) (by lia) (by lia) ?_ ?_
 ·have:-(1*u*(-s*a.1-t*a.2)+-1*t*(v*a.1-u*a.2))=(s*u+t*v) *a.1:=by grind
  rw[this,h,IA]
 ·have:-(-1* -v*(-s*a.1-t*a.2)+1*s*(v*a.1-u*a.2))=(s*u+t*v) *a.2:=by grind
  rw[this,h,IA]
theorem zw{l:List P2}(F:Fld l)(h2:2<=l.length):gp l 0≠gp l 1:=λe=>by
 have nd:l.Nodup:=by rw[<-F.cr];exact bV l
 have:l[0]?=l[1]?:=by rw[dR (by lia),dR (by lia),e]
 have:=(IK (by lia) nd).mp this
 lia
theorem zM{l:List P2}{n y:Nat}(h:y<n):(kr l (0+(y:Int))).length<=(dQ l n).length:=d7 (rZ _ _) λp hp=>by
 have k:=fm.mp hp;refine dY.mpr ⟨by lia,?_⟩
 rw[k.1];exact k.2
theorem ya{l:List P2}{n y:Nat}(h:y<=n):(dQ l y).length<=(dQ l n).length:=d7 (kP _ _) λp hp=>by
 have k:=dY.mp hp;exact dY.mpr ⟨by lia,k.2⟩
theorem BX(l:List P2):SG.srt ST3.KP l=ST.srt l:=ST.asc_one (SG.srt_asc ST3.KP l) (ST.srt_asc l) λz=>by rw[SG.srt_mem,ST.srt_mem]
def oD:List U->Out->Prop:=λus o=>∃l:List P2,us=[lp l]/\Fld l/\2<=l.length/\l.length<64/\(∀p∈l,Szp 150 p)/\(iQ l<=100/\(aJ l).length<=60)/\o=.new ((aJ l).map pu)
theorem vR{l:List P2}(F:Fld l)(h2:2<=l.length){g u v s t:Int}(L:LvP (gp l 0) (gp l 1) g u v s t):(xq l u v s t).length=(aJ l).length:=rL (vY L) ((ST.srt_asc _).imp λ{a b} h e=>by subst e;rw[ST.asc_irr]at h;cases h) λp=>by rw[sL F h2 L,br F]
theorem qv(T:Txt w K mg):ba P w K mg base (CXF P w) 6 T.aaO.a T.aaO.d ["land"] (spU K (oD)):=by
 refine aV T.aaO.F b7 (λus o h=>?_) (λPp A outer s H E O us o hr h=>?_)
 ·obtain⟨l,rfl,F,h2,hl,sz,⟨_,hc⟩,rfl⟩:=h;rfl
 obtain⟨l,rfl,F,h2,hl,sz,⟨_,hc⟩,rfl⟩:=h;refine Ws.nox ?_;obtain⟨g,s1,t1,s,t,G,gn,G1,L⟩:=BR (zw F h2);have z0:=sz _ (ce (l:=l) (i:=0) (by lia))
 have z1:=sz _ (ce (l:=l) (i:=1) (by lia))
 have zx:Sz 151 ((gp l 1).1-(gp l 0).1):=(L2.Sz.sub' z1.1 z0.1).mono (by decide)
 have zy:Sz 151 ((gp l 1).2-(gp l 0).2):=(L2.Sz.sub' z1.2 z0.2).mono (by decide)
 have two:wL (gp l 0).1 (gp l 0).2 (gp l 1).1 (gp l 1).2:=⟨z0.1.mono (by decide),z0.2.mono (by decide),z1.1.mono (by decide),z1.2.mono (by decide)⟩
 have su:Sz 151 (((gp l 1).1-(gp l 0).1)/g):=zx.ediv;have sv:Sz 151 (((gp l 1).2-(gp l 0).2)/g):=zy.ediv;obtain⟨_,ss,st⟩:=hJ G1 su sv;refine af (aI (i:=1) b7.nd rfl (Or.inl rfl) (ax ((kh T).mono (by decide)) hr rfl T.aaD.m T.aaD.F.kp T.aaD.b au (ac (aw (aa 0 rfl) ag rfl (fU (i:=0) (by decide) (by lia))) (ac (aw (aa 0 rfl) ag rfl (fU (i:=1) (by decide) (by lia))) aj aH) aH) ⟨_,_,_,_,g,s1,t1,s,t,rfl,two,G,gn,G1,rfl⟩) ?_)
 have V:=yB F h2 L;have Pm:=vR F h2 L;have RE:=sL F h2 L;have QX:=vY L;generalize hu:((gp l 1).1-(gp l 0).1)/g=u at *;generalize hv:((gp l 1).2-(gp l 0).2)/g=v at *;have hd:s*u-t* -v=1:=by have:=L.st;grind
 have a5:Sz 500 s:=ss.mono (by decide)
 have b5:Sz 500 t:=st.mono (by decide)
 have c5:Sz 500 (-v):=(sv.natle (by lia):Sz 151 (-v)).mono (by decide)
 have d5:Sz 500 u:=su.mono (by decide)
 have ns:Sz 310 (-s):=(ss.natle (by lia):Sz _ (-s)).mono (by decide)
 have e5:Sz 500 (-s*(gp l 0).1-t*(gp l 0).2):=(L2.Sz.sub' (L2.Sz.mul ns z0.1) (L2.Sz.mul (st.mono (n:=310) (by decide)) z0.2)).mono (by decide)
 have f5:Sz 500 (v*(gp l 0).1-u*(gp l 0).2):=(L2.Sz.sub' (L2.Sz.mul sv z0.1) (L2.Sz.mul su z0.2)).mono (by decide)
 have k5:500<=30000:=by decide
 have M:Mv s t (-v) u (-s*(gp l 0).1-t*(gp l 0).2) (v*(gp l 0).1-u*(gp l 0).2):=⟨.inl hd,a5.mono k5,b5.mono k5,c5.mono k5,d5.mono k5,e5.mono k5,f5.mono k5⟩;refine af (aI (i:=2) b7.nd rfl (Or.inl rfl) (EvN.ev (bj ((jG T).mono (by decide)) hr rfl T.aar.m T.aar.F.kp T.aar.b au (ac (aa 0 rfl) (ac (aa 1 rfl) aj ai) ai) ⟨l,_,_,_,_,_,_,rfl,M,qD (by decide) sz,λp hp=>by have z:=Bf a5 b5 c5 d5 e5 f5 (by decide) (sz p hp);exact⟨z.1.mono (by decide),z.2.mono (by decide)⟩,F.ne,hl,rfl⟩)) ?_)
 have mz:∀p∈ao (l.map (lvF (gp l 0) u v s t)),Szp 1000 p:=λp hp=>by
  obtain⟨q,hq,rfl⟩:=ER.mp (bA _ p hp);have z:=Bf a5 b5 c5 d5 e5 f5 (by decide) (sz q hq)
  exact⟨z.1.mono (by decide),z.2.mono (by decide)⟩
 have ml:(ao (l.map (lvF (gp l 0) u v s t))).length<=900:=Gs (hX _) (by rw[EH];lia)
 refine af (aI (i:=3) b7.nd rfl (Or.inr rfl) (ax ((f7 T).mono (by decide)) hr rfl T.aaf.m T.aaf.F.kp T.aaf.b au (ac (aa 1 rfl) aj ai) ⟨_,_,_,_,_,_,rfl,M,rfl⟩) ?_)
 rw[t4 L.st];unfold xq at Pm RE QX;rw[EH]at Pm;have hbk:∀p:P2,pu (bkF (gp l 0) u v s t p)=pt (u*p.1+-t*p.2+(gp l 0).1) (v*p.1+s*p.2+(gp l 0).2):=λp=>rfl
 have nt:Sz 30000 (-t):=(st.natle (by lia):Sz _ (-t)).mono (by decide)
 have MB:Mv u (-t) v s (gp l 0).1 (gp l 0).2:=⟨.inl (by have:=L.st;grind),d5.mono k5,nt,sv.mono (by decide),a5.mono k5,z0.1.mono (by decide),z0.2.mono (by decide)⟩
 have mne:=V.F.ne;have hY:=cM (l:=(ao (l.map (lvF (gp l 0) u v s t))).map (·.2)) (by simpa using mne)
 have zY:Sz 1000 (hiY (ao (l.map (lvF (gp l 0) u v s t)))):=by
  obtain⟨q,hq,e⟩:=wP mne;rw[<-e];exact (mz q hq).2
 show Ws _ _ _ _ _ _ [some (.val (lp l)),some (.val (mv s t (-v) u (-s*(gp l 0).1-t*(gp l 0).2) (v*(gp l 0).1-u*(gp l 0).2))),some (.val (lp (ao (l.map (lvF (gp l 0) u v s t))))),some (.val (mv u (-t) v s (gp l 0).1 (gp l 0).2)),none,none,none,none,none];generalize hM:ao (l.map (lvF (gp l 0) u v s t))=m at *;refine af (eQ (i:=4) b7.nd rfl (Or.inl rfl) (dg bg) ?_);refine af (dJ (λi:Nat=>[some (.val (lp l)),some (.val (mv s t (-v) u (-s*(gp l 0).1-t*(gp l 0).2) (v*(gp l 0).1-u*(gp l 0).2))),some (.val (lp m)),some (.val (mv u (-t) v s (gp l 0).1 (gp l 0).2)),some (.own (((dQ m i).map (bkF (gp l 0) u v s t)).map pu)),none,none,none,none]) (λi j=>i=j) rfl PassesOwn.never (u0 rfl T.aaX (ac (cA (aq (xA rfl hY) rfl T.aa8 OH (ac (EvN.ev (dj (ys:=((m.map (·.2)).map U.int)) rfl (blk (ak gD) ["land","move","levelled","back","found","y","ends","x","P"] [8] rfl rfl rfl rfl (by decide+kernel)) (bQ (aa 2 rfl) (.inl rfl)) (λ_ _ _ _=>aQ (i:=8) b7.nd rfl (Or.inl rfl)) (bM (by decide)) ?clen ?csz (λ_ _=>trivial) ?celt)) aj ci)) ag) aj bp)) ?h0 ?hs ?hd)
 case clen=>simp
 case csz=>rw[EH];exact FB (ay (by lia))
 case celt=>
  intro C s' H' fp j x y hx hy;rw[Fh]at hy;obtain⟨p,hp,mp,rfl,rfl⟩:=cH hx hy;exact (aw (aa 8 rfl) ag rfl rfl)
 case h0=>exact⟨0,rfl,rfl,rfl,rfl,rfl,rfl,trivial⟩
 case hs=>
  rintro H0 i x _ hx rfl;obtain⟨hi,rfl⟩:=dt hx
  have Pu:i<(hiY m+1).toNat:=by
   have:hiL (m.map (·.2))=hiY m:=rfl;rw[this]at hi;lia
  have rf:=zM (l:=m) Pu;have rg:=ya (l:=m) (FB Pu)
  have iz:Sz 1001 (0+(i:Int)):=by
   have one:Sz 1000 (1:Int):=Sz.mono (m:=8) (by decide) (by decide)
   exact Sz.le (by lia) (L2.Sz.add' zY one)
  have rl:(kr m (0+(i:Int))).length=(kZ m (0+(i:Int))+1-fW m (0+(i:Int))).toNat:=by unfold kr mJ;simp
  refine⟨_,(eu (i:=5) b7.nd rfl (Or.inr rfl)),?_⟩;refine af (aI (i:=6) b7.nd rfl (Or.inl rfl) (ax ((o8 T).mono (by decide)) hr rfl T.aaL.m T.aaL.F.kp T.aaL.b au (ac (aa 2 rfl) (ac (aa 5 rfl) aj ai) ai) ⟨m,_,rfl,mne,ml,mz,iz,rfl⟩) ?_)
  refine af (yq 4 rfl (EvN.ev (dj (ys:=(((kr m (0+(i:Int))).map (bkF (gp l 0) u v s t)).map pu)) rfl (blk (ak gD) ["land","move","levelled","back","found","y","ends","x","P"] [7] rfl rfl rfl rfl (by decide+kernel)) (uQ rfl T.aaX (ac (aw (aa 6 rfl) ag rfl rfl) (ac (cA (aw (aa 6 rfl) ag rfl rfl) ag) aj bp) aH)) (λ_ _ _ _=>aQ (i:=7) b7.nd rfl (Or.inl rfl)) (bM (by decide)) ?clen ?csz (λ_ _=>trivial) ?celt)) (by simp only[EH];exact FB (ay (by lia))) (aB ?_))
  case clen=>rw[cx,EH,EH,rl]
  case csz=>rw[cx];exact FB (ay (by lia))
  case celt=>
   intro C s' H' fp j x y hx hy;obtain⟨hj,rfl⟩:=dt hx
   have ey:y=pu (bkF (gp l 0) u v s t (fW m (0+(i:Int))+(j:Int),0+(i:Int))):=by
    unfold kr mJ at hy;rw[Fh,Fh,Fh,ES,Gx hj]at hy;cases hy;rfl
   have hp:(fW m (0+(i:Int))+(j:Int),0+(i:Int))∈kr m (0+(i:Int)):=fm.mpr ⟨rfl,by dsimp only;lia,by dsimp only;lia⟩
   have hq:(fW m (0+(i:Int))+(j:Int),0+(i:Int))∈dQ m (hiY m+1).toNat:=by
    have k:=fm.mp hp;exact dY.mpr ⟨by dsimp only;lia,k.2⟩
   have bx:=(du mne).mp (V.F.in_box ((j5 V _).mp hq))
   have zX:Sz 30000 (fW m (0+(i:Int))+(j:Int)):=by
    obtain⟨q1,m1,e1⟩:=ER.mp (bW (l:=m.map (·.1)) (by simpa using mne)).1
    obtain⟨q2,m2,e2⟩:=ER.mp (cM (l:=m.map (·.1)) (by simpa using mne)).1
    have y1:=(mz q1 m1).1;have y2:=(mz q2 m2).1;have b1:q1.1<=fW m (0+(i:Int))+(j:Int):=by have:=bx.1.1;unfold loX at this;rw[<-e1]at this;exact this
    have b2:fW m (0+(i:Int))+(j:Int)<=q2.1:=by have:=bx.1.2;unfold hiX at this;rw[<-e2]at this;exact this
    rcases FO (fW m (0+(i:Int))+(j:Int)) 0 with z |z
    ·exact (y1.natle (by lia):Sz 1000 _).mono (by decide)
    ·exact (y2.natle (by lia):Sz 1000 _).mono (by decide)
   rw[ey,hbk];exact (ax ((ie T).mono (by decide)) hr rfl T.aau.m T.aau.F.kp T.aau.b au (ac (bo (ar (aa 7 rfl) (ar (aa 5 rfl) bg ai) ai)) (ac (aa 3 rfl) aj ai) dL) ⟨_,_,_,_,_,_,_,_,rfl,MB,zX,iz.mono (by decide),rfl⟩)
  refine⟨i+1,rfl,rfl,rfl,rfl,rfl,?_,trivial⟩;exact congrArg (λl=>some (Sl.own l)) (by rw[kG,FC,FC])
 case hd=>
  rintro q ps hq PU;refine c7 ?_ PU;rw[cx]at hq;have e:q=(hiY m+1).toNat:=by rw[<-hq];show (hiY m+1-0).toNat=_;lia
  subst e;refine qC 4 rfl ?_;have fs:=mU F RE;have n64:((dQ m (hiY m+1).toNat).map (bkF (gp l 0) u v s t)).length<64:=by rw[EH];lia
  refine af (cX (mW ST3.KP pu (0,0) (trs:=(dQ m (hiY m+1).toNat).map (bkF (gp l 0) u v s t)) Ez rfl T.aaS (eK hr) (aa 4 rfl) ⟨n64,QX⟩ ai) ?_);rw[BX,fs]
def pI:List U->Out->Prop:=λus o=>∃l:List P2,us=[lp l]/\Fld l/\l.length<64/\(∀p∈l,Szp 150 p)/\(iQ l<=100/\(aJ l).length<=60)/\o=.new ((aJ l).map pu)
theorem uM(T:Txt w K mg):ba P w K mg base (CXF P w) 8 T.aaW.a T.aaW.d ["land"] (spU K (pI)):=by
 refine aV T.aaW.F vp (λus o h=>?_) (λPp A outer s H E O us o hr h=>?_)
 ·obtain⟨l,rfl,F,hl,sz,hc,rfl⟩:=h;rfl
 obtain⟨l,rfl,F,hl,sz,hc,rfl⟩:=h;refine Ws.nox ?_;have hm:((l.map pu).length:Int)=(l.length:Int):=by rw[EH]
 have one:ao (l.map (scl 1))=l:=by rw[show scl 1=id from funext m9,O_];exact F.cr
 have cs:jU [lp l,.int 1] (.val (.int (iQ l))):=⟨l,1,rfl,by decide,Sz.mono (m:=8) (by decide) (by decide),qD (by decide) sz,F.ne,hl,by rw[one]⟩
 have l0:0<l.length:=FH.mpr F.ne;have hc1:=hc.1;refine af (bv (aA fE (AJ ((xW T).mono (by decide)) hr rfl T.aa0.m T.aa0.F.kp T.aa0.bd au (ac (aa 0 rfl) aj ai) cs) (DA rfl T.aa3)) (decide_eq_false (by lia)) (aB ?_))
 by_cases h1:l.length=1
 ·refine af (df (aA bG (aq (bn rfl) rfl T.aac E8 (ac (aa 0 rfl) aj ai)) ag) (by rw[hm];exact decide_eq_true (by lia)) ?_)
  refine af (cX (cU (eC rfl) rfl T.aaG HQ (ac (aa 0 rfl) aj ai)) ?_);obtain⟨A,rfl⟩:=Il.mp h1
  have:aJ [A]=[A]:=by
   rw[<-mU (R:=[A]) F λp=>by rw[iH];simp]
   exact b6 (pts:=[A]) (by have:=ST.srt_len [A];simp at this;lia) ▸ F.cr
  rw[this]
 ·refine af (bv (aA bG (aq (bn rfl) rfl T.aac E8 (ac (aa 0 rfl) aj ai)) ag) (by rw[hm];exact decide_eq_false (by lia)) (aB ?_))
  refine af (cX (bj ((qv T).mono (by decide)) hr rfl T.aaO.m T.aaO.F.kp T.aaO.b au (ac (aa 0 rfl) aj ai) ⟨l,rfl,F,by lia,hl,sz,hc,rfl⟩) ?_)
  exact rfl
theorem tH{A B C:P2}(hD:0<ae A B C)(h:∀p,0<=ae A B p->0<=ae B C p->0<=ae C A p->p=A\/p=B\/p=C):ae A B C=1:=by
 refine FP λn1=>?_
 obtain⟨g,s,t,G⟩:=iF (B.1-A.1) (B.2-A.2);obtain⟨u,hu⟩:=G.da;obtain⟨v,hv⟩:=G.db;have ge:=G.eq;have g0:=G.g0
 have gn:g≠0:=λe=>by
  rw[e,Hj]at hu hv;have:ae A B C=0:=by unfold ae;rw[hu,hv];lia
  lia
 have gp:0<g:=by lia
 have no:∀p:P2,0<=ae A B p->0<=ae B C p->0<=ae C A p->p≠A->p≠B->p≠C->False:=λp h1 h2 h3 a b c=>by
  rcases h p h1 h2 h3 with e |e |e
  ·exact a e
  ·exact b e
  ·exact c e
 have suv:s*u+t*v=1:=by
  have:g*(s*u+t*v)=g*1:=by rw[K6];rw[hu,hv]at ge;rw[<-ge];grind
  exact F3 gn this
 have eD:ae A B C=g*(u*(C.2-A.2)-v*(C.1-A.1)):=by unfold ae;rw[hu,hv];grind
 by_cases g1:g=1
 ·subst g1;have hx:ae A B C=u*(C.2-A.2)-v*(C.1-A.1):=by rw[eD];lia
  generalize hd:ae A B C=d at *;obtain⟨x,hx0⟩:∃x,x=s*(C.1-A.1)+t*(C.2-A.2):=⟨_,rfl⟩
  have c1:C.1-A.1=x*u-d*t:=by
   have:x*u-d*t=(s*u+t*v) *(C.1-A.1):=by rw[hx0,hx];grind
   rw[this,suv];lia
  have c2:C.2-A.2=x*v+d*s:=by
   have:x*v+d*s=(s*u+t*v) *(C.2-A.2):=by rw[hx0,hx];grind
   rw[this,suv];lia
  have q1:=Hg (-x) (show d≠0 by lia)
  have q2:=GG (-x) hD;have q3:=Int.mul_ediv_add_emod (-x) d;generalize -x/d=m at *;generalize -x%d=r at *;have er:r=-x-d*m:=by lia
  have b1:B.1=A.1+u:=by lia
  have b2:B.2=A.2+v:=by lia
  have d1:ae A B (A.1-m*u-t,A.2-m*v+s)=1:=by
   unfold ae;dsimp only;rw[b1,b2,<-suv];grind
  have d3:ae C A (A.1-m*u-t,A.2-m*v+s)=r:=by
   have:ae C A (A.1-m*u-t,A.2-m*v+s)=(-m*u-t) *(C.2-A.2)-(-m*v+s) *(C.1-A.1):=by unfold ae;dsimp only;grind
   rw[this,c1,c2,er];have:(-m*u-t) *(x*v+d*s)-(-m*v+s) *(x*u-d*t)=(s*u+t*v) *(-x-d*m):=by grind
   rw[this,suv];lia
  have d2:ae B C (A.1-m*u-t,A.2-m*v+s)=d-1-r:=by
   have:ae A B (A.1-m*u-t,A.2-m*v+s)+ae B C (A.1-m*u-t,A.2-m*v+s)+ae C A (A.1-m*u-t,A.2-m*v+s)=ae A B C:=by unfold ae;dsimp only;grind
   lia
  have z:∀p q:P2,ae p q p=0/\ae p q q=0:=λp q=>by unfold ae;constructor <;>grind
  refine no (A.1-m*u-t,A.2-m*v+s) (by lia) (by lia) (by lia) (λe=>?_) (λe=>?_) (λe=>?_)
  ·rw[e,(z A B).1]at d1;lia
  ·rw[e,(z A B).2]at d1;lia
  ·rw[e,hd]at d1;lia
 ·have d1:ae A B (A.1+u,A.2+v)=0:=by unfold ae;dsimp only;rw[hu,hv];grind
  generalize hy:u*(C.2-A.2)-v*(C.1-A.1)=y at *;have yp:0<y:=by rw[eD]at hD;exact GZ hD gp
  have d3:ae C A (A.1+u,A.2+v)=y:=by unfold ae;dsimp only;rw[<-hy];grind
  have d2:ae B C (A.1+u,A.2+v)=(g-1) *y:=by
   have:ae A B (A.1+u,A.2+v)+ae B C (A.1+u,A.2+v)+ae C A (A.1+u,A.2+v)=ae A B C:=by unfold ae;dsimp only;grind
   rw[eD]at this;have e:(g-1) *y=g*y-y:=by grind
   rw[e];lia
  have d2':0<=(g-1) *y:=Fc (by lia) (by lia)
  have z:∀p q:P2,ae p q q=0/\ae p q p=0:=λp q=>by unfold ae;constructor <;>grind
  refine no (A.1+u,A.2+v) (by lia) (by lia) (by lia) (λe=>?_) (λe=>?_) (λe=>?_)
  ·rw[e,(z C A).1]at d3;lia
  ·rw[e,(z B C).2]at d2;have:=FD (show 0<g-1 by lia) yp
   lia
  ·rw[e]at d1;lia
def bL(s:Int)(P:P2):List P2->List P2
 |b::a::r=>if 0<s*ae a b P then bL s P (a::r) else b::a::r
 |st=>st
def cT(s:Int)(P:P2):List P2->List (P2×P2×P2)
 |b::a::r=>if 0<s*ae a b P then (a,b,P)::cT s P (a::r) else []
 |_=>[]
def u_(s:Int)(done:List P2):List P2->Prop
 |b::a::r=>(∀q∈done,s*ae a b q<=0/\(s*ae a b q=0->plt a q->plt q b->False))/\u_ s done (a::r)
 |_=>True
theorem Bq{s:Int}(hs:s=1\/s=-1){u1 u2 v1 v2 w1 w2:Int}(hu:bU u1 u2)(hv:bU v1 v2)(hw:bU w1 w2)(h1:s*(u1*v2-u2*v1)<=0)(h2:s*(v1*w2-v2*w1)<=0):s*(u1*w2-u2*w1)<=0:=by
 rcases hs with e |e <;>subst e
 ·have:=dz hw hv hu (by grind) (by grind)
  grind
 ·have:=dz hu hv hw (by lia) (by lia)
  lia
theorem Dx{s:Int}(hs:s=1\/s=-1){u1 u2 p1 p2 w1 w2:Int}(hu:bU u1 u2)(hp:bU p1 p2)(hw:bU w1 w2)(h1:0<s*(u1*p2-u2*p1))(h2:s*(u1*w2-u2*w1)<0):s*(p1*w2-p2*w1)<0:=by
 rcases hs with e |e <;>subst e
 ·have:=d8 hw hu hp (by grind) (by lia)
  grind
 ·have:=d8 hp hu hw (by grind) (by lia)
  lia
structure KW(s:Int)(done st:List P2):Prop where
 ne:st≠[]
 desc:h9 st
 cov:u_ s done st
 sub:∀p∈st,p∈done
 bot:∀z,st.getLast?=some z->∀q∈done,¬ plt q z
structure DW(s:Int)(done st:List P2)(P:P2):Prop extends KW s done st where
 pend:∀h r,st=h::r->∀q∈done,plt h q->s*ae h P q<0
theorem oy{s:Int}(hs:s=1\/s=-1){done:List P2}{P b a:P2}{r:List P2}(hP:∀q∈done,plt q P)(D:DW s done (b::a::r) P)(h:0<s*ae a b P):DW s done (a::r) P:=by
 refine⟨⟨by simp,D.desc.tail,D.cov.2,λp hp=>D.sub p (EJ _ hp),λz hz=>D.bot z (by rw[Gk];exact hz)⟩,?_⟩
 intro h' r' e q hq Pq;cases e;have QG:=D.desc.1;obtain⟨c1,c2⟩:=D.cov.1 q hq;have SA:=hP b (D.sub b ET);rcases dw q b with z |z |z
 ·have QT:s*ae a b q<0:=by
   rcases GJ c1 with y |y
   ·exact y
   ·exact (c2 y Pq z).elim
  have:=Dx hs (u1:=b.1-a.1) (u2:=b.2-a.2) (p1:=P.1-a.1) (p2:=P.2-a.2) (w1:=q.1-a.1) (w2:=q.2-a.2) (aD QG) (aD (bu QG SA)) (aD Pq) (by unfold ae at h;exact h) (by unfold ae at QT;exact QT)
  unfold ae;exact this
 ·subst z;have:ae a P q=- ae a q P:=by unfold ae;grind
  rw[this,Mr];lia
 ·have p:=D.pend b _ rfl q hq z;have:ae a P q=ae a b q-ae a b P+ae b P q:=by unfold ae;grind
  rw[this];have e:s*(ae a b q-ae a b P+ae b P q)=s*ae a b q-s*ae a b P+s*ae b P q:=by grind
  lia
theorem xK{s:Int}(hs:s=1\/s=-1){done:List P2}{P:P2}(hP:∀q∈done,plt q P):∀st:List P2,DW s done st P->DW s done (bL s P st) P/\(∀b a r,bL s P st=b::a::r->s*ae a b P<=0)
 |[],D=>absurd rfl D.ne
 |[b],D=>⟨D,λ_ _ _ e=>by simp[bL]at e⟩
 |b::a::r,D=>by
  by_cases h:0<s*ae a b P
  ·rw[bL,if_pos h];exact xK hs hP (a::r) (oy hs hP D h)
  ·rw[bL,if_neg h];refine⟨D,λb' a' r' e=>?_⟩
   cases e;lia
theorem p8{s:Int}(hs:s=1\/s=-1){done:List P2}{P:P2}(hP:∀q∈done,plt q P):∀{st:List P2},h9 st->u_ s done st->(∀p∈st,p∈done)->(∀b a r,st=b::a::r->s*ae a b P<=0)->u_ s (done++[P]) st
 |[],_,_,_,_=>trivial
 |[_],_,_,_,_=>trivial
 |b::a::r,d,c,sub,h=>by
  have h0:=h b a r rfl;have mb:=sub b ET;refine⟨λq hq=>?_,p8 hs hP d.tail c.2 (λp hp=>sub p (EJ _ hp)) λb' a' r' e=>?_⟩
  ·rcases Fx.mp hq with k |k
   ·exact c.1 q k
   ·rw[EV.mp k];refine⟨h0,λ_ _ k2=>?_⟩
    have:=hP b mb;unfold plt at *;lia
  ·cases e;have d2:=d.tail.1;have c2:=(c.2.1 b mb).1;have hb:=hP b mb
   have:=Bq hs (u1:=a.1-a'.1) (u2:=a.2-a'.2) (v1:=b.1-a.1) (v2:=b.2-a.2) (w1:=P.1-b.1) (w2:=P.2-b.2) (aD d2) (aD d.1) (aD hb) (by
    have:ae a' a b=(a.1-a'.1) *(b.2-a.2)-(a.2-a'.2) *(b.1-a.1):=by unfold ae;grind
    rw[<-this];exact c2) (by
    have:ae a b P=(b.1-a.1) *(P.2-b.2)-(b.2-a.2) *(P.1-b.1):=by unfold ae;grind
    rw[<-this];exact h0)
   have e:s*ae a' a P=s*ae a' a b+s*((a.1-a'.1) *(P.2-b.2)-(a.2-a'.2) *(P.1-b.1)):=by unfold ae;grind
   lia
theorem BP{s:Int}(hs:s=1\/s=-1){done st:List P2}{P:P2}(hP:∀q∈done,plt q P)(K:KW s done st)(top:∀h r,st=h::r->∀q∈done,¬ plt h q):KW s (done++[P]) (P::bL s P st):=by
 obtain⟨D,stop⟩:=xK hs hP st ⟨K,λh r e q hq Pq=>absurd Pq (top h r e q hq)⟩
 generalize bL s P st=t at *;have hPn:¬ plt P P:=by unfold plt;lia
 have RF:∀b a r,t=b::a::r->s*ae a b P<=0:=stop;have cm:=p8 hs hP D.desc D.cov D.sub RF
 match t,D,RF,cm with
 |[],D,_,_=>exact absurd rfl D.ne
 |[b],D,RF,cm=>
  have mb:=D.sub b ET;refine⟨by simp,⟨hP b mb,trivial⟩,⟨λq hq=>?_,trivial⟩,λp hp=>?_,λz hz q hq=>?_⟩
  ·rcases Fx.mp hq with k |k
   ·rcases dw q b with y |y |y
    ·exact absurd y (D.bot b rfl q k)
    ·subst y;exact⟨by unfold ae;grind,λ_ k1 _=>by unfold plt at k1;lia⟩
    ·have:=D.pend b _ rfl q k y;exact⟨by lia,λe _ _=>by lia⟩
   ·rw[EV.mp k];exact⟨by unfold ae;grind,λ_ _ k2=>hPn k2⟩
  ·rcases EO.mp hp with k |k
   ·rw[k];simp
   ·exact Fv _ (D.sub p k)
  ·have ez:z=b:=by simpa using hz.symm
   subst ez;rcases Fx.mp hq with k |k
   ·exact D.bot z rfl q k
   ·rw[EV.mp k];have:=hP z mb;unfold plt at *;lia
 |b::a::r,D,RF,cm=>
  have mb:=D.sub b ET;have h0:=RF b a r rfl;refine⟨by simp,⟨hP b mb,D.desc⟩,⟨λq hq=>?_,cm⟩,λp hp=>?_,λz hz q hq=>?_⟩
  ·rcases Fx.mp hq with k |k
   ·rcases dw q b with y |y |y
    ·have c1:=(D.cov.1 q k).1;have hb:=hP b mb
     have:=Bq hs (u1:=b.1-q.1) (u2:=b.2-q.2) (v1:=b.1-a.1) (v2:=b.2-a.2) (w1:=P.1-b.1) (w2:=P.2-b.2) (aD y) (aD D.desc.1) (aD hb) (by
      have:(b.1-q.1) *(b.2-a.2)-(b.2-q.2) *(b.1-a.1)=ae a b q:=by unfold ae;grind
      rw[this];exact c1) (by
      have:ae a b P=(b.1-a.1) *(P.2-b.2)-(b.2-a.2) *(P.1-b.1):=by unfold ae;grind
      rw[<-this];exact h0)
     have e:ae b P q=(b.1-q.1) *(P.2-b.2)-(b.2-q.2) *(P.1-b.1):=by unfold ae;grind
     rw[e];exact⟨this,λ_ k1 _=>by unfold plt at *;lia⟩
    ·subst y;exact⟨by unfold ae;grind,λ_ k1 _=>by unfold plt at k1;lia⟩
    ·have:=D.pend b _ rfl q k y;exact⟨by lia,λe _ _=>by lia⟩
   ·rw[EV.mp k];exact⟨by unfold ae;grind,λ_ _ k2=>hPn k2⟩
  ·rcases EO.mp hp with k |k
   ·rw[k];simp
   ·exact Fv _ (D.sub p k)
  ·have hz':(b::a::r).getLast?=some z:=by rw[Gk]at hz;exact hz
   rcases Fx.mp hq with k |k
   ·exact D.bot z hz' q k
   ·rw[EV.mp k];have:=hP z (D.sub z (G4 hz'));unfold plt at *;lia
abbrev Tri:=P2×P2×P2
def gG(t:Tri):Int:=ae t.1 t.2.1 t.2.2
def wst(s:Int)(z:List P2×List Tri)(P:P2):List P2×List Tri:=(P::bL s P z.1,z.2++cT s P z.1)
def aR(s:Int)(row:List P2):List P2×List Tri:=row.foldl (wst s) ([],[])
theorem ca(s:Int)(row:List P2)(P:P2):aR s (row++[P])=wst s (aR s row) P:=by unfold aR;rw[KU];rfl
theorem fh{Q:List P2->Prop}(h0:Q [])(h1:∀l P,Q l->Q (l++[P])):∀l,Q l:=λl=>by
 have key:∀m:List P2,Q m.reverse:=λm=>by
  induction m with
  |nil=>exact h0
  |cons a m ih=>rw[JH];exact h1 _ _ ih
 have:=key l.reverse
 rwa [Mh]at this
theorem d9{l:List P2}{P:P2}(h:(l++[P]).Pairwise plt):l.Pairwise plt/\∀q∈l,plt q P:=by
 rw[List.pairwise_append]at h;exact⟨h.1,λq hq=>h.2.2 q hq P (by simp)⟩
theorem iC(s:Int)(row:List P2)(P:P2):(aR s (row++[P])).1.head?=some P:=by rw[ca];rfl
theorem l5{s:Int}(hs:s=1\/s=-1):∀row:List P2,row.Pairwise plt->row≠[]->KW s row (aR s row).1:=by
 refine fh (λ_ h=>absurd rfl h) λl P ih Qy _=>?_
 obtain⟨h1,h2⟩:=d9 Qy;rw[ca];show KW s (l++[P]) (P::bL s P (aR s l).1);by_cases hl:l=[]
 ·subst hl;show KW s [P] [P];refine⟨by simp,trivial,trivial,λp hp=>by simpa using hp,λz hz q hq=>?_⟩
  have e1:q=P:=by simpa using hq
  have e2:P=z:=by simpa using hz
  rw[e1,<-e2];unfold plt;lia
 ·have K:=ih h1 hl;refine BP hs h2 K λh r e q hq=>?_
  have:l=l.dropLast++[l.getLast hl]:=(Gv hl).symm;have hd:=iC s l.dropLast (l.getLast hl);rw[<-this,e]at hd;have eh:h=l.getLast hl:=by simpa using hd
  rw[eh];rw[this]at h1 hq;rcases Fx.mp hq with k |k
  ·have:=(d9 h1).2 q k;unfold plt at *;lia
  ·rw[EV.mp k];unfold plt;lia
def chS:List P2->Int
 |b::a::r=>crs (a,b)+chS (a::r)
 |_=>0
theorem sZ(s:Int)(P:P2):∀st:List P2,chS (P::bL s P st)+((cT s P st).map gG).sum=chS (P::st)
 |[]=>by simp[bL,cT]
 |[b]=>by simp[bL,cT]
 |b::a::r=>by
  by_cases h:0<s*ae a b P
  ·rw[bL,cT,if_pos h,if_pos h,E2,FW];have ih:=sZ s P (a::r);show _+(ae a b P+_)=crs (b,P)+(crs (a,b)+chS (a::r));have e:chS (P::a::r)=crs (a,P)+chS (a::r):=rfl;rw[e]at ih;have d:ae a b P=crs (a,b)+crs (b,P)-crs (a,P):=by unfold ae crs;grind
   lia
  ·rw[bL,cT,if_neg h,if_neg h];simp
theorem pP{P t:P2}{st:List P2}(h:st.head?=some t):chS (P::st)=crs (t,P)+chS st:=by
 cases st with
 |nil=>cases h
 |cons a r=>cases h;rfl
theorem rN(s:Int):∀row:List P2,((aR s row).2.map gG).sum=chS row.reverse-chS (aR s row).1:=by
 refine fh rfl λl P ih=>?_
 rw[ca,List.reverse_append];show (((aR s l).2++cT s P (aR s l).1).map gG).sum=chS (P::l.reverse)-chS (P::bL s P (aR s l).1);have h:=sZ s P (aR s l).1;rw[FC,L8,ih];by_cases hl:l=[]
 ·subst hl;simp[aR,bL,cT,chS]
 ·have e:l=l.dropLast++[l.getLast hl]:=(Gv hl).symm;have hd:=iC s l.dropLast (l.getLast hl);rw[<-e]at hd;have hr:l.reverse.head?=some (l.getLast hl):=by rw[Kr,Jh hl]
  rw[pP hd]at h;rw[pP hr];lia
theorem lj(P:P2):∀st:List P2,OX (aW P st) st
 |[]=>IL _
 |[_]=>IL _
 |b::a::r=>by
  rw[aW];split
  ·exact (lj P (a::r)).trans (List.sublist_cons_self _ _)
  ·exact IL _
theorem kc:∀r:List P2,OX (am r).reverse r:=by
 refine fh (IL _) λl P ih=>?_
 have e:am (l++[P])=P::aW P (am l):=by unfold am;rw[KU];rfl
 rw[e,JH];exact ((lj P (am l)).reverse.trans ih).append (IL _)
structure TOk(s:Int)(row:List P2)(t:Tri):Prop where
 ma:t.1∈row
 mb:t.2.1∈row
 mP:t.2.2∈row
 ab:plt t.1 t.2.1
 bP:plt t.2.1 t.2.2
 d:0<s*gG t
 cov:∀q∈row,plt q t.2.2->s*ae t.1 t.2.1 q<=0/\(s*ae t.1 t.2.1 q=0->plt t.1 q->plt q t.2.1->False)
theorem Ba{s:Int}(hs:s=1\/s=-1){done:List P2}{P:P2}(hP:∀q∈done,plt q P):∀st:List P2,DW s done st P->∀t∈cT s P st,TOk s (done++[P]) t
 |[],_,t,h=>by cases h
 |[_],_,t,h=>by cases h
 |b::a::r,D,t,h=>by
  rw[cT]at h;split at h
  ·rename_i k
   rcases EO.mp h with e |e
   ·subst e;have ma:=D.sub a (by simp)
    have mb:=D.sub b (by simp)
    refine⟨Fv _ ma,Fv _ mb,by simp,D.desc.1,hP b mb,k,λq hq Pq=>?_⟩
    rcases Fx.mp hq with y |y
    ·exact D.cov.1 q y
    ·rw[EV.mp y]at Pq;have hlt':plt P P:=Pq;unfold plt at hlt';lia
   ·exact Ba hs hP (a::r) (oy hs hP D k) t e
  ·cases h
theorem yu{s:Int}{row:List P2}{P:P2}(hP:∀q∈row,plt q P){t:Tri}(h:TOk s row t):TOk s (row++[P]) t:=by
 refine⟨Fv _ h.ma,Fv _ h.mb,Fv _ h.mP,h.ab,h.bP,h.d,λq hq Pq=>?_⟩
 rcases Fx.mp hq with y |y
 ·exact h.cov q y Pq
 ·rw[EV.mp y]at Pq;have:=hP _ h.mP;unfold plt at *;lia
theorem eU{s:Int}(hs:s=1\/s=-1):∀row:List P2,row.Pairwise plt->∀t∈(aR s row).2,TOk s row t:=by
 refine fh (λ_ t h=>by cases h) λl P ih Qy t ht=>?_
 obtain⟨h1,h2⟩:=d9 Qy;rw[ca]at ht;rcases Fx.mp (show t∈(aR s l).2++cT s P (aR s l).1 from ht) with k |k
 ·exact yu h2 (ih h1 t k)
 ·by_cases hl:l=[]
  ·subst hl;cases k
  ·refine Ba hs h2 _ ⟨l5 hs l h1 hl,λh r e q hq Pq=>?_⟩ t k
   have e2:l=l.dropLast++[l.getLast hl]:=(Gv hl).symm;have hd:=iC s l.dropLast (l.getLast hl);rw[<-e2,e]at hd;have eh:h=l.getLast hl:=by simpa using hd
   rw[eh]at Pq;rw[e2]at h1 hq
   exfalso
   rcases Fx.mp hq with k |k
   ·have:=(d9 h1).2 q k;unfold plt at *;lia
   ·rw[EV.mp k]at Pq;unfold plt at Pq;lia
theorem iO{s:Int}(hs:s=1\/s=-1){row:List P2}{t:Tri}(h:TOk s row t){p:P2}(hp:p∈row)(h1:0<=s*ae t.1 t.2.1 p)(h2:0<=s*ae t.2.1 t.2.2 p)(h3:0<=s*ae t.2.2 t.1 p):p=t.1\/p=t.2.1\/p=t.2.2:=by
 obtain⟨a,b,P⟩:=t;have ab:=h.ab;have bP:=h.bP;have d:=h.d;have cv:=h.cov p hp;dsimp only at *;unfold gG at d;dsimp only at d;have sum:s*ae a b p+s*ae b P p+s*ae P a p=s*ae a b P:=by unfold ae;grind
 have x1:s*ae a b P*(P.1-p.1)=s*ae b P p*(P.1-a.1)+s*ae P a p*(P.1-b.1):=by unfold ae;grind
 have x2:s*ae a b P*(P.2-p.2)=s*ae b P p*(P.2-a.2)+s*ae P a p*(P.2-b.2):=by unfold ae;grind
 have y1:s*ae a b P*(p.1-a.1)=s*ae P a p*(b.1-a.1)+s*ae a b p*(P.1-a.1):=by unfold ae;grind
 have y2:s*ae a b P*(p.2-a.2)=s*ae P a p*(b.2-a.2)+s*ae a b p*(P.2-a.2):=by unfold ae;grind
 have z1:s*ae a b P*(b.1-p.1)=s*ae b P p*(b.1-a.1)-s*ae a b p*(P.1-b.1):=by unfold ae;grind
 have z2:s*ae a b P*(b.2-p.2)=s*ae b P p*(b.2-a.2)-s*ae a b p*(P.2-b.2):=by unfold ae;grind
 generalize s*ae a b P=D at *;generalize s*ae b P p=α at *;generalize s*ae P a p=β at *;generalize s*ae a b p=γ at *;have aP:=bu ab bP
 have zero:∀{x:Int},D*x=0->x=0:=λ{x} e=>by
  rcases Fp.mp e with k |k
  ·lia
  ·exact k
 have neg:∀{x:Int},0<=D*x->0<=x:=λ{x} e=>by
  rcases FO x 0 with k |k
  ·have:=HX d k;lia
  ·exact k
 have R6:∀{x:Int},0<D*x->0<x:=λ{x} e=>by
  rcases FO 0 x with k |k
  ·exact k
  ·have:=FM (show 0<=D by lia) k
   lia
 have lex:∀{u1 u2 v1 v2:Int},bU u1 u2->bU v1 v2->∀{m n:Int},0<=m->0<=n->(m*u1+n*v1=0/\m*u2+n*v2=0/\m=0/\n=0)\/bU (m*u1+n*v1) (m*u2+n*v2):=λ{u1 u2 v1 v2} hu hv {m n} hm hn=>by
  by_cases m0:m=0
  ·by_cases n0:n=0
   ·subst m0;subst n0;left;simp
   ·subst m0
    right
    unfold bU at *;rcases hv with k |⟨k1,k2⟩
    ·left;have:=FD (show 0<n by lia) k;lia
    ·right;rw[k1];have:=FD (show 0<n by lia) k2;exact⟨by lia,by lia⟩
  ·right
   unfold bU at *;have mp:0<m:=by lia
   rcases hu with k |⟨k1,k2⟩
   ·left
    have:=FD mp k;have:0<=n*v1:=Fc hn (by lia)
    lia
   ·rcases hv with j |⟨j1,j2⟩
    ·by_cases n0:n=0
     ·subst n0;right;rw[k1];have:=FD mp k2;exact⟨by lia,by lia⟩
     ·left;rw[k1];have:=FD (show 0<n by lia) j;lia
    ·right
     rw[k1,j1];have:=FD mp k2;have:0<=n*v2:=Fc hn (by lia)
     exact⟨by lia,by lia⟩
 by_cases hpP:p=P
 ·exact .inr (.inr hpP)
 have ltP:plt p P:=by
  rcases lex (aD aP) (aD bP) h2 h3 with ⟨e1,e2,_⟩ |k
  ·rw[<-x1]at e1;rw[<-x2]at e2;have e1:=zero e1;have e2:=zero e2;exact absurd (F8 (by lia) (by lia)) hpP
  ·rw[<-x1,<-x2]at k;unfold bU at k;unfold plt;rcases k with k |⟨k1,k2⟩
   ·have:=R6 k;lia
   ·have:=zero k1;have:=R6 k2;lia
 obtain⟨g1,g2⟩:=cv ltP;have g0:γ=0:=by lia
 rw[g0]at y1 y2 z1 z2;simp only[Hj,OV,Ks]at y1 y2 z1 z2;by_cases b0:β=0
 ·rw[b0,Hj]at y1 y2;have e1:=zero y1;have e2:=zero y2;exact .inl (F8 (by lia) (by lia))
 by_cases a0:α=0
 ·rw[a0,Hj]at z1 z2;have e1:=zero z1;have e2:=zero z2;exact .inr (.inl (F8 (by lia) (by lia)))
 have l:=aD ab
 have mid:∀{m x1 x2:Int},0<m->D*x1=m*(b.1-a.1)->D*x2=m*(b.2-a.2)->bU x1 x2:=λ{m x1 x2} hm e1 e2=>by
  unfold bU at l |-;rcases l with k |⟨k1,k2⟩
  ·left;apply R6;rw[e1];exact FD hm k
  ·right
   rw[k1,G6]at e1;exact⟨zero e1,R6 (by rw[e2];exact FD hm k2)⟩
 have m1:=mid (show 0<β by lia) y1 y2
 have m2:=mid (show 0<α by lia) z1 z2
 refine (g2 g0 ?_ ?_).elim
 ·unfold bU at m1;unfold plt;lia
 ·unfold bU at m2;unfold plt;lia
theorem mR {s:Int} (hs:s=1∨s=-1) {row:List P2} (hr:row.Pairwise plt) (conv:∀a b c p:P2,a∈row→b∈row→c∈row→0<ae a b c→0≤ae a b p→0≤ae b c p→0≤ae c a p→p∈row):∀t∈(aR s row).2,gG t=s:=λt ht=>by
 have K:=eU hs row hr t ht;have d:=K.d;rcases hs with e |e <;>subst e
 ·have d1:0<ae t.1 t.2.1 t.2.2:=by unfold gG at d;lia
  refine tH d1 λp h1 h2 h3=>?_
  exact iO (.inl rfl) K (conv _ _ _ p K.ma K.mb K.mP d1 h1 h2 h3) (by lia) (by lia) (by lia)
 ·have e1:ae t.2.1 t.1 t.2.2=- gG t:=by unfold gG ae;grind
  have d1:0<ae t.2.1 t.1 t.2.2:=by rw[e1];lia
  have:=tH d1 λp h1 h2 h3=>by
   have mp:=conv _ _ _ p K.mb K.ma K.mP d1 h1 h2 h3
   have f1:ae t.1 t.2.1 p=- ae t.2.1 t.1 p:=by unfold ae;grind
   have f2:ae t.2.1 t.2.2 p=- ae t.2.2 t.2.1 p:=by unfold ae;grind
   have f3:ae t.2.2 t.1 p=- ae t.1 t.2.2 p:=by unfold ae;grind
   rcases iO (.inr rfl) K mp (by rw[f1];lia) (by rw[f2];lia) (by rw[f3];lia) with k |k |k
   ·exact .inr (.inl k)
   ·exact .inl k
   ·exact .inr (.inr k)
  rw[e1]at this;lia
theorem iR{c:Int}:∀{l:List Tri},(∀t∈l,gG t=c)->(l.map gG).sum=c*(l.length:Int)
 |[],_=>by simp
 |t::l,h=>by
  rw[E2,FW,h t ET,iR λx hx=>h x (EJ _ hx),FN]
  grind
theorem nP(s:Int)(P:P2):∀st:List P2,(cT s P st).map (λt=>t.2.1)++bL s P st=st
 |[]=>rfl
 |[_]=>rfl
 |b::a::r=>by
  by_cases h:0<s*ae a b P
  ·rw[bL,cT,if_pos h,if_pos h,E2,Lr,nP s P (a::r)]
  ·rw[bL,cT,if_neg h,if_neg h];rfl
theorem nA(s:Int):∀row:List P2,KJ ((aR s row).2.map (λt=>t.2.1)++(aR s row).1) row:=by
 refine fh (Kv _) λl P ih=>?_
 rw[ca];show KJ (((aR s l).2++cT s P (aR s l).1).map (λt=>t.2.1)++(P::bL s P (aR s l).1)) (l++[P])
 have e:=nP s P (aR s l).1;rw[FC,JE]
 have k:KJ ((cT s P (aR s l).1).map (λt=>t.2.1)++(P::bL s P (aR s l).1)) ((aR s l).1++[P]):=by
  refine Lo.trans ?_;rw[e];exact (Kh P _).symm
 refine (LU _ k).trans ?_;rw[<-JE];exact ih.append_right [P]
theorem yK(s:Int){row:List P2}(h:row.Nodup):((aR s row).2.map (λt=>t.2.1)).Nodup:=by
 have:=(nA s row).nodup_iff.mpr h;exact (Hy.mp this).1
theorem Aq{row:List P2}(hr:row.Pairwise plt)(hn:row.Nodup):((aR 1 row).2++(aR (-1) row).2).Nodup:=by
 refine Hy.mpr ⟨?_,?_,λt h1 u h2 e=>?_⟩
 ·exact (FF.mp (yK 1 hn)).imp λ{a b} k e=>k (by rw[e])
 ·exact (FF.mp (yK (-1) hn)).imp λ{a b} k e=>k (by rw[e])
 ·subst e;have d1:=(eU (.inl rfl) row hr t h1).d;have d2:=(eU (.inr rfl) row hr t h2).d;lia
theorem wa(s n:Int)(hs:s=1\/s=-1):decide (sgn n=s)=decide (0<s*n):=by
 refine decide_eq_decide.mpr ?_;unfold sgn;rcases hs with rfl |rfl <;>(repeat' split) <;>lia
def bX(t:Tri):ST3.TR:=if 0<ae t.1 t.2.1 t.2.2 then (t.1,t.2.1,t.2.2) else (t.1,t.2.2,t.2.1)
theorem pZ{a b c:P2}(h1:plt a b)(h2:plt b c)(h:ae a b c≠0):ao [a,b,c]=[(bX (a,b,c)).1,(bX (a,b,c)).2.1,(bX (a,b,c)).2.2]:=by
 have h13:=bu h1 h2
 have hs:ST.srt [a,b,c]=[a,b,c]:=ST.asc_srt (by
  refine .cons (λx hx=>?_) (.cons (λx hx=>?_) (.cons (λx hx=>by simp at hx) .nil))
  ·simp at hx;rcases hx with rfl |rfl
   ·exact (eF _ _).mp h1
   ·exact (eF _ _).mp h13
  ·simp at hx;rw[hx];exact (eF _ _).mp h2)
 have hd:ae c b a=-ae a b c:=by unfold ae;grind
 unfold ao;rw[hs];unfold bX;by_cases k:0<ae a b c
 ·simp[am,aW,hd,k,show ¬ ae a b c<=0 by lia,show -ae a b c<=0 by lia]
 ·simp[am,aW,hd,k,show ae a b c<=0 by lia,show ¬ -ae a b c<=0 by lia]
theorem n8(s:Int)(row:List P2):(aR s row).2.length+(aR s row).1.length=row.length:=by
 have:=(nA s row).length_eq;rw[FJ,EH]at this;exact this
theorem Ak(s:Int)(row:List P2):∀q∈(aR s row).1,q∈row:=λq hq=>(nA s row).mem_iff.mp (E_ _ hq)
def wN:List U->Out->Prop:=λus o=>∃(row:List P2) (s:Int),us=[lp row,.int s]/\(s=1\/s=-1)/\row.Pairwise plt/\(∀p∈row,Szp 2500 p)/\row.length<=200/\o=.new ((aR s row).2.map λt=>trU (bX t))
theorem kq(T:Txt w K mg):ba P w K mg base (CXF P w) 5 T.aay.a T.aay.d ["row","hand"] (spU K (wN)):=by
 refine aV T.aay.F fT (λus o h=>?_) (λPp A outer s H E O us o hr h=>?_)
 ·obtain⟨row,s,rfl,hs,Rm,sz,hl,rfl⟩:=h;rfl
 obtain⟨row,s,rfl,hs,Rm,sz,hl,rfl⟩:=h;refine Ws.nox ?_;refine af (eQ (i:=2) fT.nd rfl (Or.inl rfl) (dg bg) ?_);refine af (eQ (i:=3) fT.nd rfl (Or.inl rfl) (dg bg) ?_);refine af (dJ (λz:List P2×List Tri=>[some (.val (lp row)),some (.val (.int s)),some (.own (z.1.reverse.map pu)),some (.own (z.2.map λt=>trU (bX t))),none]) (λi z=>z=aR s (row.take i)) rfl PassesOwn.never (bQ (aa 0 rfl) (.inl rfl)) ?h0 ?hs ?hd)
 case h0=>exact⟨([],[]),rfl,rfl,rfl,rfl,rfl,trivial⟩
 case hs=>
  rintro H0 i x _ hx rfl;obtain⟨P,hP,mP,rfl⟩:=kJ hx;have hi:i<row.length:=aF hP;have sP:=sz P mP;refine⟨_,(eu (i:=4) fT.nd rfl (Or.inl rfl)),?_⟩;have tk:row.take (i+1)=row.take i++[P]:=by rw[He,hP];rfl
  have hp:(row.take i++[P]).Pairwise plt:=by rw[<-tk];exact Rm.sublist (MQ _ _)
  obtain⟨hp1,hp2⟩:=d9 hp;have lz:=n8 s (row.take i);rw[Lj]at lz
  have sub:∀q∈(aR s (row.take i)).1,q∈row/\plt q P:=λq hq=>by
   have:=Ak s _ q hq;exact⟨List.mem_of_mem_take this,hp2 q this⟩
  have hdesc:h9 (aR s (row.take i)).1:=by
   by_cases h0:row.take i=[]
   ·rw[h0];exact trivial
   ·exact (l5 hs _ hp1 h0).desc
  have suc:aR s (row.take (i+1))=wst s (aR s (row.take i)) P:=by rw[tk,ca]
  generalize aR s (row.take i)=z at *;refine iP (λps=>SubP [some (.val (lp row)),some (.val (.int s)),some (.own ((bL s P z.1).reverse.map pu)),some (.own ((z.2++cT s P z.1).map λt=>trU (bX t))),some (.val (pu P))] ps) (gh (λy:List P2×List Tri=>[some (.val (lp row)),some (.val (.int s)),some (.own (y.1.reverse.map pu)),some (.own (y.2.map λt=>trU (bX t))),some (.val (pu P))]) (λn y=>n=y.1.length/\bL s P y.1=bL s P z.1/\y.2++cT s P y.1=z.2++cT s P z.1/\(∀q∈y.1,q∈row/\plt q P)/\h9 y.1/\y.2.length+y.1.length<=i) PassesOwn.never ?h0 ?hs) ?hj
  case h0=>exact⟨_,z,⟨rfl,rfl,rfl,sub,hdesc,by lia⟩,rfl,rfl,rfl,rfl,rfl,trivial⟩
  case hs=>
   rintro m ⟨y1,y2⟩ ⟨rfl,e1,e2,sb,ds,le⟩;dsimp only at e1 e2 sb ds le |-
   match y1,e1,e2,sb,ds,le with
   |[],e1,e2,sb,ds,le=>
    refine⟨false,?_,λh=>(nomatch h),λh ps PU=>?_⟩
    ·exact (Tw.t (iI (aA fE (cq 2 rfl rfl T.aac) ag) rfl))
    ·rw[<-e1,<-e2];simpa [bL,cT] using PU
   |[b],e1,e2,sb,ds,le=>
    refine⟨false,?_,λh=>(nomatch h),λh ps PU=>?_⟩
    ·exact (Tw.t (iI (aA fE (cq 2 rfl rfl T.aac) ag) rfl))
    ·rw[<-e1,<-e2];simpa [bL,cT] using PU
   |b::a::r,e1,e2,sb,ds,le=>
    have sa:=sz a (sb a (by simp)).1
    have sbb:=sz b (sb b (by simp)).1
    have pbP:=(sb b (by simp)).2
    have pab:plt a b:=ds.1;have l1:decide ((1:Int)<((((b::a::r).reverse.map pu).length:Nat):Int))=true:=decide_eq_true (by simp;lia)
    have up:∀{p:P2},Szp 2500 p->Szp 5000 p:=λh=>⟨h.1.mono (by decide),h.2.mono (by decide)⟩
    refine⟨decide ((1:Int)<((((b::a::r).reverse.map pu).length:Nat):Int)) && decide (sgn (ae a b P)=s),?_,λh=>?_,λh ps PU=>?_⟩
    ·exact (Tw.t (rX (aA fE (cq 2 rfl rfl T.aac) ag) (λhz=>(qP (aA bG (ax ((jy T).mono (by decide)) hr rfl T.aaM.m T.aaM.F.kp T.aaM.b au (ac (eV 2 rfl (bO ag) (sD b a r)) (ac (eV 2 rfl (bO ag) (rO b (a::r))) (ac (aa 4 rfl) aj ai) aH) aH) ⟨a,b,P,rfl,up sa,up sbb,up sP,rfl⟩) (aa 1 rfl))))))
    ·rw[l1,IG,wa s _ hs]at h;have hd:=dTb h;have hd0:ae a b P≠0:=λz=>by rw[z]at hd;simp at hd
     have ct:=pZ pab pbP hd0
     refine af (ck 3 rfl (zG (zR (.inl rfl)) rfl T.aa2 MZ (ac (EvN.ev (bj ((kD T).mono (by decide)) hr rfl T.aaE.m T.aaE.F.kp T.aaE.b au (ac (EvN.ev (dg (ar (eV 2 rfl (bO ag) (sD b a r)) (ar (eV 2 rfl (bO ag) (rO b (a::r))) (ar (aa 4 rfl) bg ai) aH) aH))) aj BN) ⟨[a,b,P],rfl,λp hp=>by
      simp only[EO,Fo,or_false]at hp;rcases hp with rfl |rfl |rfl
      ·exact up sa
      ·exact up sbb
      ·exact up sP,by simp,by simp,by rw[ct]⟩)) aj aX)) (by rw[EH];exact ay (by simp at le;lia)) ?_)
     refine af (v9 2 rfl (by simp) (aB ?_))
     refine⟨_,(a::r,y2++[(a,b,P)]),?_,⟨rfl,?_,?_,λq hq=>sb q (EJ _ hq),ds.2,?_⟩,rfl,rfl,?_,?_,rfl,trivial⟩
     ·simp
     ·rw[←e1];conv=>rhs;unfold bL
      rw[if_pos hd]
     ·rw[←e2];conv=>rhs;unfold cT
      rw[if_pos hd];simp
     ·simp at le |-;lia
     ·exact congrArg (λl=>some (Sl.own l)) (by simp)
     ·exact congrArg (λl=>some (Sl.own l)) (by simp)
    ·rw[l1,IG,wa s _ hs]at h;have hd:=dFb h
     have k1:bL s P (b::a::r)=b::a::r:=by conv=>lhs;unfold bL
                                          rw[if_neg hd]
     have k2:cT s P (b::a::r)=[]:=by conv=>lhs;unfold cT
                                     rw[if_neg hd]
     rw[<-e1,<-e2,k1,k2,HE];exact PU
  case hj=>
   intro ps PU;refine c7 ?_ PU
   have kl:(bL s P z.1).length<=z.1.length:=by
    have:∀st:List P2,(bL s P st).length<=st.length:=λst=>by
     have:=congrArg Nt (nP s P st);rw[FJ]at this;lia
    exact this _
   refine af (ck 2 rfl (aa 4 rfl) (by rw[EH,FQ];exact ay (by lia)) (aB ?_))
   refine⟨_,rfl,rfl,rfl,?_,?_,trivial⟩
   ·exact congrArg (λl=>some (Sl.own l)) (by rw[suc];simp[wst])
   ·exact congrArg (λl=>some (Sl.own l)) (by rw[suc];rfl)
 case hd=>
  rintro q ps hq PU;refine c7 ?_ PU;rw[EH]at hq;subst hq;rw[G5];refine af (eX 3 rfl ?_);exact rfl
def dk(k:Int)(Q R x:P2):Int:=k*(Q.1*R.2-Q.2*R.1)+x.1*(Q.2-R.2)-x.2*(Q.1-R.1)
structure Wt(a b c:P2)(α β γ k:Int)(x:P2):Prop where
 h1:0<=α
 h2:0<=β
 h3:0<=γ
 hk:α+β+γ=k
 hx:x.1=α*a.1+β*b.1+γ*c.1
 hy:x.2=α*a.2+β*b.2+γ*c.2
theorem jC(a b c:P2):ae a b a=0/\ae a b b=0/\ae b c a=ae a b c/\ae c a b=ae a b c:=by
 unfold ae;refine⟨?_,?_,?_,?_⟩ <;>grind
theorem iL{n:Nat}{x a b:Int}(ha:Sz n a)(hb:Sz n b)(h1:a<=x)(h2:x<=b):Sz n x:=by
 rcases FO x 0 with z |z
 ·exact ha.natle (by lia)
 ·exact hb.natle (by lia)
theorem mS{l:List P2}(Pn:l≠[])(h:∀p∈l,Szp 150 p):loX l<=hiX l/\loY l<=hiY l/\Sz 150 (loX l)/\Sz 150 (hiX l)/\Sz 150 (loY l)/\Sz 150 (hiY l):=by
 have hx:l.map (·.1)≠[]:=by simpa using Pn
 have hy:l.map (·.2)≠[]:=by simpa using Pn
 obtain⟨q1,m1,e1⟩:=ER.mp (bW hx).1;obtain⟨q2,m2,e2⟩:=ER.mp (cM hx).1;obtain⟨q3,m3,e3⟩:=ER.mp (bW hy).1;obtain⟨q4,m4,e4⟩:=ER.mp (cM hy).1;have l1:=(bW hx).2 _ (cM hx).1;have l2:=(bW hy).2 _ (cM hy).1;refine⟨l1,l2,?_,?_,?_,?_⟩
 ·unfold loX;rw[<-e1];exact (h q1 m1).1
 ·unfold hiX;rw[<-e2];exact (h q2 m2).1
 ·unfold loY;rw[<-e3];exact (h q3 m3).2
 ·unfold hiY;rw[<-e4];exact (h q4 m4).2
theorem uj{Z P B q:P2}(hD:0<ae Z P B)(h1:ae Z P q=0)(h2:ae P B q=0):q=P:=by
 have f1:ae Z P B*(q.1-P.1)=0:=by
  have:ae Z P B*(q.1-P.1)=(B.1-P.1) *ae Z P q-(P.1-Z.1) *ae P B q:=by unfold ae;grind
  rw[this,h1,h2];simp
 have f2:ae Z P B*(q.2-P.2)=0:=by
  have:ae Z P B*(q.2-P.2)=(B.2-P.2) *ae Z P q-(P.2-Z.2) *ae P B q:=by unfold ae;grind
  rw[this,h1,h2];simp
 have g1:=(Fp.mp f1).resolve_left (by lia)
 have g2:=(Fp.mp f2).resolve_left (by lia)
 exact F8 (by lia) (by lia)
theorem BJ{l:List P2}(h3:3<=(ao l).length){p q:P2}{a b:Int}(hp:p∈ao l)(hw:∀r∈ao l,r≠p->wth a b r<wth a b p)(hq:∀s∈sdl (ao l),0<=ae s.1 s.2 q)(ne:q≠p):wth a b q<wth a b p:=by
 obtain⟨Z,P,B,hZ,hB,pos,e,k1,k2⟩:=nv h3 a b;have mZ:=cg hZ;have mB:=cg hB;dsimp only at mZ mB
 have hP:P=p:=FP λz=>by
  have w1:=hw P mZ.2 z;obtain⟨_,kk⟩:=oh a b (l:=ao l) (λz=>by rw[z]at h3;simp at h3)
  have:=kk p hp;lia
 subst hP
 have nZ:Z≠P:=fun z=>by subst z;have:ae Z Z B=0:=by unfold ae;grind
                        lia
 have nB:B≠P:=fun z=>by subst z;have:ae Z B B=0:=by unfold ae;grind
                        lia
 have wZ:=hw Z mZ.1 nZ;have wB:=hw B mB.2 nB;have i1:=hq _ hB;have i2:=hq _ hZ;dsimp only at i1 i2;have id:ae Z P B*(wth a b P-wth a b q)=ae P B q*(wth a b P-wth a b Z)+ae Z P q*(wth a b P-wth a b B):=by unfold ae wth;grind
 rcases FO (wth a b q) (wth a b P) with z |z
 ·exact z
 ·exfalso
  have t1:0<=ae P B q*(wth a b P-wth a b Z):=Fc i1 (by lia)
  have t2:0<=ae Z P q*(wth a b P-wth a b B):=Fc i2 (by lia)
  have t3:ae Z P B*(wth a b P-wth a b q)<=0:=by
   have:=Fc (show 0<=ae Z P B by lia) (show 0<=wth a b q-wth a b P by lia)
   have e2:ae Z P B*(wth a b q-wth a b P)=-(ae Z P B*(wth a b P-wth a b q)):=by grind
   lia
  have z1:ae P B q*(wth a b P-wth a b Z)=0:=by omega
  have z2:ae Z P q*(wth a b P-wth a b B)=0:=by omega
  have d1:=(Fp.mp z1).resolve_right (by lia)
  have d2:=(Fp.mp z2).resolve_right (by lia)
  exact ne (uj pos d2 d1)
theorem vJ{A B:List P2}(h:∀p,p∈A↔p∈B):ao A=ao B:=by
 have:ST.srt A=ST.srt B:=ST.asc_one (ST.srt_asc _) (ST.srt_asc _) λz=>by rw[ST.srt_mem,ST.srt_mem,h]
 unfold ao;rw[this]
theorem vI{l:List P2}(F:Fld l)(h3:3<=l.length):ao (aJ l)=l:=by
 have hc:=F.cr;have Q7:3<=(ao l).length:=by rw[hc];exact h3
 have inl:∀q,q∈aJ l↔∀s∈sdl (ao l),0<=ae s.1 s.2 q:=λq=>by rw[br F,fC h3,hc]
 have sub:∀p∈l,p∈aJ l:=λp hp=>(inl p).mpr λs hs=>((fQ Q7).mp hs).2.2.2 p (by rw[hc];exact hp)
 have up:∀p∈l,p∈ao (aJ l):=λp hp=>by
  obtain⟨_,a,b,hw⟩:=cQ Q7 (p:=p) (by rw[hc];exact hp)
  refine eW ⟨sub p hp,a,b,λq hq ne=>?_⟩
  exact BJ Q7 (by rw[hc];exact hp) (λr hr=>hw r (bA _ r hr)) ((inl q).mp hq) ne
 have c3:3<=(ao (aJ l)).length:=by
  have nd:l.Nodup:=by rw[<-hc];exact bV l
  exact Gs h3 (L2.nd_len nd up)
 have dn:∀p∈ao (aJ l),p∈l:=λp hp=>FP λz=>by
  obtain⟨hm,a,b,hw⟩:=cQ c3 hp;have pk:=DE Q7 a b ((inl p).mp hm);obtain⟨⟨q,hq,e⟩,_⟩:=oh a b (l:=ao l) (λz=>by rw[z]at Q7;simp at Q7)
  rw[hc]at hq;have:=hw q (sub q hq) λe=>z (e ▸ hq)
  lia
 rw[<-gC (aJ l),vJ λp=>⟨dn p,up p⟩,hc]
theorem l4{l:List P2}(F:Fld l)(h3:3<=l.length):∀a b c p:P2,a∈aJ l->b∈aJ l->c∈aJ l->0<ae a b c->0<=ae a b p->0<=ae b c p->0<=ae c a p->p∈aJ l:=λa b c p ha hb hc hd h1 h2 h4=>by
 have inl:∀q,q∈aJ l↔∀s∈sdl l,0<=ae s.1 s.2 q:=λq=>by rw[br F,fC h3]
 rw[inl]at *;intro s hs;have a1:=ha s hs;have b1:=hb s hs;have c1:=hc s hs;have id:ae a b c*ae s.1 s.2 p=ae s.1 s.2 a*ae b c p+ae s.1 s.2 b*ae c a p+ae s.1 s.2 c*ae a b p:=by unfold ae;grind
 have t1:=Fc a1 h2;have t2:=Fc b1 h4;have t3:=Fc c1 h1;rcases FO (ae s.1 s.2 p) 0 with z |z
 ·exfalso
  have:=FD hd (show 0 < -ae s.1 s.2 p by lia)
  have e:ae a b c* -ae s.1 s.2 p=-(ae a b c*ae s.1 s.2 p):=by grind
  lia
 ·exact z
theorem b9(l:List P2):(aJ l).Pairwise plt:=(ST.srt_asc _).imp λ{a b} h=>(eF a b).mpr h
def nW(l:List P2):List Tri:=(aR 1 (aJ l)).2++(aR (-1) (aJ l)).2
def pcs(l:List P2):List ST3.TR:=(nW l).map bX
theorem Cw(l:List P2):(pcs l).Nodup:=by
 have hp:=b9 l;have nd:(aJ l).Nodup:=hp.imp λ{a b} h e=>by subst e;exact aG a h
 unfold pcs;refine FF.mpr ((Aq hp nd).imp_of_mem λ{x y} hx hy ne e=>ne ?_)
 have key:∀t,t∈nW l->plt t.1 t.2.1/\plt t.2.1 t.2.2:=λt ht=>by
  rcases Fx.mp ht with h |h
  ·have:=eU (.inl rfl) _ hp t h;exact⟨this.ab,this.bP⟩
  ·have:=eU (.inr rfl) _ hp t h;exact⟨this.ab,this.bP⟩
 obtain⟨x1,x2⟩:=key x hx;obtain⟨y1,y2⟩:=key y hy;obtain⟨a,b,c⟩:=x;obtain⟨a',b',c'⟩:=y;unfold bX at e;dsimp only at *;split at e <;>split at e <;>simp only[K_]at e
 ·obtain⟨rfl,rfl,rfl⟩:=e;rfl
 ·obtain⟨rfl,rfl,rfl⟩:=e;exact absurd (bu x2 y2) (aG _)
 ·obtain⟨rfl,rfl,rfl⟩:=e;exact absurd (bu x2 y2) (aG _)
 ·obtain⟨rfl,rfl,rfl⟩:=e;rfl
theorem t7(l:List P2):(nW l).length<=2*(aJ l).length:=by
 unfold nW;have h1:=n8 1 (aJ l);have h2:=n8 (-1) (aJ l);rw[FJ];lia
def dl:List P2->List (List P2)
 |a::b::r=>[a,b]::dl (b::r)
 |_=>[]
def dC(l:List P2):List (List P2):=if l.length=1 then [[gp l 0]] else if l.length=2 then dl (aJ l) else (SG.srt ST3.KT (pcs l)).map λt=>[t.1,t.2.1,t.2.2]
abbrev plU(q:List P2):U:=.tup (q.map pu)
theorem md:∀r:List P2,Kp (λa b=>U.tup [a,b]) (r.map pu) ((r.map pu).drop 1)=(dl r).map plU
 |[]=>rfl
 |[_]=>rfl
 |a::b::r=>by
  have ih:=md (b::r);simp only[E2,List.drop_succ_cons,List.drop_zero,List.zipWith_cons_cons,dl]at ih |-;rw[ih];rfl
theorem iu{A:P2}(F:Fld [A]):aJ [A]=[A]:=by
 rw[<-mU (R:=[A]) F λp=>by rw[iH];simp]
 exact b6 (pts:=[A]) (by have:=ST.srt_len [A];simp at this;lia) ▸ F.cr
structure gX(l:List P2):Prop where
 F:Fld l
 l64:l.length<64
 sz:∀p∈l,Szp 150 p
 cnt:iQ l<=100
 np:(aJ l).length<=60
 few:3<=l.length->(pcs l).length<64
def xR:List U->Out->Prop:=λus o=>∃l:List P2,us=[lp l]/\gX l/\o=.new ((dC l).map plU)
theorem l6(T:Txt w K mg):ba P w K mg base (CXF P w) 9 T.aaI.a T.aaI.d ["land"] (spU K (xR)):=by
 refine aV T.aaI.F lY (λus o h=>?_) (λPp A outer s H E O us o hr h=>?_)
 ·obtain⟨l,rfl,⟨F,hl,sz,hc,fl,few⟩,rfl⟩:=h;rfl
 obtain⟨l,rfl,⟨F,hl,sz,hc,fl,few⟩,rfl⟩:=h;refine Ws.nox ?_;have hm:((l.map pu).length:Int)=(l.length:Int):=by rw[EH]
 have l0:0<l.length:=FH.mpr F.ne;refine af (aI (i:=1) lY.nd rfl (Or.inl rfl) (EvN.ev (bj ((uM T).mono (by decide)) hr rfl T.aaW.m T.aaW.F.kp T.aaW.b au (ac (aa 0 rfl) aj ai) ⟨l,rfl,F,hl,sz,⟨hc,fl⟩,rfl⟩)) ?_)
 by_cases h1:l.length=1
 ·obtain⟨A,rfl⟩:=Il.mp h1;rw[iu F];refine af (df (aA bG (aq (bn rfl) rfl T.aac E8 (ac (aa 0 rfl) aj ai)) ag) rfl ?_);refine af (cX (dg (ar (bo (ar (aw (aa 1 rfl) ag rfl rfl) bg aH)) bg dL)) ?_);exact rfl
 refine af (bv (aA bG (aq (bn rfl) rfl T.aac E8 (ac (aa 0 rfl) aj ai)) ag) (by rw[hm];exact decide_eq_false (by lia)) (aB ?_))
 by_cases h2:l.length=2
 ·refine af (df (aA bG (aq (bn rfl) rfl T.aac E8 (ac (aa 0 rfl) aj ai)) ag) (by rw[hm];exact decide_eq_true (by lia)) ?_)
  refine af (cX (kT rfl rfl T.aaG rfl T.abb (aa 1 rfl) (.inl rfl) (EvN.ev (dU (aa 1 rfl) (fM ag) fK (.inl rfl))) (.inl rfl) (by rw[lm,Na];lia) (by rw[EH];lia) ai aH) ?_)
  rw[lm,md];unfold dC;rw[if_neg h1,if_pos h2]
 refine af (bv (aA bG (aq (bn rfl) rfl T.aac E8 (ac (aa 0 rfl) aj ai)) ag) (by rw[hm];exact decide_eq_false (by lia)) (aB ?_))
 have rl:=t7 l
 have fz:∀p∈aJ l,Szp 2500 p:=λp hp=>by
  have q:=(du F.ne).mp (F.in_box ((br F p).mp hp));obtain⟨_,_,w1,w2,w3,w4⟩:=mS F.ne sz;exact⟨(iL w1 w2 q.1.1 q.1.2).mono (by decide),(iL w3 w4 q.2.1 q.2.2).mono (by decide)⟩
 have hpc:U.lst (((aR 1 (aJ l)).2.map λt=>trU (bX t))++((aR (-1) (aJ l)).2.map λt=>trU (bX t)))=U.lst ((pcs l).map trU):=by
  unfold pcs nW;rw[Fh,FC];rfl
 refine af (cX (mW ST3.KT trU t0 (trs:=pcs l) DX rfl T.aaS (eK hr) (oo hpc (EvN.ev (pB (EvN.ev (bj ((kq T).mono (by decide)) hr rfl T.aay.m T.aay.F.kp T.aay.b au (ac (aa 1 rfl) (ac ag aj bC) ai) ⟨aJ l,1,rfl,.inl rfl,b9 l,fz,by lia,rfl⟩)) (EvN.ev (bj ((kq T).mono (by decide)) hr rfl T.aay.m T.aay.F.kp T.aay.b au (ac (aa 1 rfl) (ac (bO ag) aj ki) ai) ⟨aJ l,-1,rfl,.inr rfl,b9 l,fz,by lia,rfl⟩)) (by rw[EH,EH];exact FB (ay (by unfold nW at rl;rw[FJ]at rl;lia)))))) ⟨few (by lia),Cw l⟩ bp) ?_)
 unfold dC;rw[if_neg h1,if_neg h2,Fh];exact rfl
def mQ:List U->Out->Prop:=λus o=>∃P Q R:P2,us=[pu P,pu Q,pu R]/\Szp 5000 P/\Szp 5000 Q/\Szp 5000 R/\o=.val (.bl (btw P Q R))
theorem xT(n:Int):decide (sgn n=0)=decide (n=0):=decide_eq_decide.mpr (by unfold sgn;split <;>(try split) <;>lia)
theorem ji(T:Txt w K mg):ba P w K mg base (CXF P w) 3 T.aam.a T.aam.d ["P","Q","R"] (spU K (mQ)):=by
 refine aV T.aam.F je (λus o h=>?_) (λPp A outer s H E O us o hr h=>?_)
 ·obtain⟨P,Q,R,rfl,p,q,r,rfl⟩:=h;rfl
 obtain⟨P,Q,R,rfl,p,q,r,rfl⟩:=h;refine Ws.nox ?_;refine af (a_ (j0 (eM bG (ax ((jy T).mono (by decide)) hr rfl T.aaM.m T.aaM.F.kp T.aaM.b au (ac (aa 0 rfl) (ac (aa 1 rfl) (ac (aa 2 rfl) aj ai) ai) ai) ⟨P,Q,R,rfl,p,q,r,rfl⟩) ag) (λhz=>(lG (zH (oS (eK hr)) (oS (eK hr)) (aa 0 rfl) (aa 2 rfl) (aa 1 rfl))))) ?_)
 show Out.val (.bl (decide (sgn (ae P Q R)=0) && (ST.leP P R && ST.leP R Q)))=_;rw[xT];rfl
def qG:List U->Out->Prop:=λus o=>∃(l:List P2) (p:P2),us=[lp l,pu p]/\0<l.length/\l.length<=900/\(∀q∈l,Szp 5000 q)/\Szp 5000 p/\o=.val (.int (whr l p))
theorem oE(T:Txt w K mg):ba P w K mg base (CXF P w) 4 T.aaR.a T.aaR.d ["land","P"] (spU K (qG)):=by
 refine aV T.aaR.F ku (λus o h=>?_) (λPp A outer s H E O us o hr h=>?_)
 ·obtain⟨l,p,rfl,h0,hl,sz,sp,rfl⟩:=h;rfl
 obtain⟨l,p,rfl,h0,hl,sz,sp,rfl⟩:=h;refine Ws.nox ?_;have hm:((l.map pu).length:Int)=(l.length:Int):=by rw[EH]
 have z0:=sz _ (ce h0);have z1:=sz _ (ce (l:=l) (i:=l.length-1) (by lia))
 by_cases h3:l.length<3
 ·refine af (df (aA e_ (aq (bn rfl) rfl T.aac E8 (ac (aa 0 rfl) aj ai)) ag) (by rw[hm];exact decide_eq_true (by lia)) ?_)
  refine af (a_ (Dt (eI (ax ((ji T).mono (by decide)) hr rfl T.aam.m T.aam.F.kp T.aam.b au (ac (aw (aa 0 rfl) ag rfl (DR h0)) (ac (aw (aa 0 rfl) (bO ag) rfl (jx h0)) (ac (aa 1 rfl) aj ai) aH) aH) ⟨_,_,_,rfl,z0,z1,sp,rfl⟩)) ag (bO ag)) ?_)
  unfold whr;rw[if_pos h3];by_cases hb:btw (gp l 0) (gp l (l.length-1)) p=true
  ·rw[if_pos hb,if_pos hb]
  ·rw[if_neg hb,if_neg hb]
 ·refine af (bv (aA e_ (aq (bn rfl) rfl T.aac E8 (ac (aa 0 rfl) aj ai)) ag) (by rw[hm];exact decide_eq_false (by lia)) (aB ?_))
  refine af (a_ (aq (xw rfl (AN (l:=mF l p) (by intro e;have:=congrArg Nt e;simp[mF,gv]at this;rw[this]at h0;simp at h0))) rfl T.aa9 OG (ac (EvN.ev (dj (ys:=((mF l p).map sgn |>.map U.int)) rfl (blk (ak nQ) ["land","P","A","B"] [2,3] rfl rfl rfl rfl (by decide+kernel)) (bQ (EvN.ev (bj ((f6 T).mono (by decide)) hr rfl T.aap.m T.aap.F.kp T.aap.b au (ac (aa 0 rfl) aj ai) ⟨l,rfl,hl,rfl⟩)) (.inl rfl)) (λ_ _ _ _=>j9 rfl (bS (aQ (i:=2) ku.nd rfl (Or.inl rfl)) (bS (aQ (i:=3) ku.nd rfl (Or.inl rfl)) fI))) (jB (js:=[2,3]) (by decide)) ?clen ?csz ?dom ?celt)) aj ci)) ?_)
  case clen=>simp[mF]
  case csz=>simp only[mF,gv,EH];exact FB (ay (by lia))
  case dom=>
   intro x hx;obtain⟨s,_,rfl⟩:=ER.mp hx;exact⟨_,rfl,rfl⟩
  case celt=>
   intro C s' H' fp j x y hx hy;rw[mF,Fh,Fh]at hy;obtain⟨s,hs,ms,rfl,rfl⟩:=cH hx hy;obtain⟨m1,m2⟩:=cg ms;exact (ax ((jy T).mono (by decide)) hr rfl T.aaM.m T.aaM.F.kp T.aaM.b au (ac (aa 2 rfl) (ac (aa 3 rfl) (ac (aa 1 rfl) aj ai) ai) ai) ⟨s.1,s.2,p,rfl,sz _ m1,sz _ m2,sp,rfl⟩)
  unfold whr;rw[if_neg h3]
inductive Wd:List P2->List P2->Prop
 |one (a:P2) (s t:Int):di ((a.1+1)-a.1) (a.2-a.2) 1 s t->Wd [a] [a,(a.1+1,a.2),(a.1-t,a.2+s)]
 |two (a b:P2) (s t:Int):di (b.1-a.1) (b.2-a.2) 1 s t->Wd [a,b] [a,b,(a.1-t,a.2+s)]
 |three (a b c:P2):Wd [a,b,c] [a,b,c]
structure Lv1(a b:P2)(s t:Int):Prop where
 two:wL a.1 a.2 b.1 b.2
 G:di (b.1-a.1) (b.2-a.2) 1 s t
 G1:di ((b.1-a.1)/1) ((b.2-a.2)/1) 1 s t
 M:Mv s t (-((b.2-a.2)/1)) ((b.1-a.1)/1) (-s*a.1-t*a.2) ((b.2-a.2)/1*a.1-(b.1-a.1)/1*a.2)
 B:Mv ((b.1-a.1)/1) (-t) ((b.2-a.2)/1) s a.1 a.2
 e:Av s t (-((b.2-a.2)/1)) ((b.1-a.1)/1) (-s*a.1-t*a.2) ((b.2-a.2)/1*a.1-(b.1-a.1)/1*a.2)=mv ((b.1-a.1)/1) (-t) ((b.2-a.2)/1) s a.1 a.2
theorem lv1{a b:P2}{s t:Int}(za:Szp 2501 a)(zb:Szp 2501 b)(G:di (b.1-a.1) (b.2-a.2) 1 s t):Lv1 a b s t:=by
 have zx:Sz 2502 ((b.1-a.1)/1):=by rw[L9];exact (L2.Sz.sub' zb.1 za.1).mono (by decide)
 have zy:Sz 2502 ((b.2-a.2)/1):=by rw[L9];exact (L2.Sz.sub' zb.2 za.2).mono (by decide)
 have G1:di ((b.1-a.1)/1) ((b.2-a.2)/1) 1 s t:=by rw[L9,L9];exact G
 obtain⟨_,ss,st⟩:=hJ G1 zx zy;have eq:=G1.eq;have ns:Sz _ (-s):=ss.natle (by lia)
 have nt:Sz _ (-t):=st.natle (by lia)
 have ny:Sz 2502 (-((b.2-a.2)/1)):=zy.natle (by lia)
 refine⟨⟨za.1.mono (by decide),za.2.mono (by decide),zb.1.mono (by decide),zb.2.mono (by decide)⟩,G,G1,⟨.inl (by grind),ss.mono (by decide),st.mono (by decide),ny.mono (by decide),zx.mono (by decide),(L2.Sz.sub' (L2.Sz.mul ns za.1) (L2.Sz.mul st za.2)).mono (by decide),(L2.Sz.sub' (L2.Sz.mul zy za.1) (L2.Sz.mul zx za.2)).mono (by decide)⟩,⟨.inl (by grind),zx.mono (by decide),nt.mono (by decide),zy.mono (by decide),ss.mono (by decide),za.1.mono (by decide),za.2.mono (by decide)⟩,t4 eq⟩
theorem pi{a b:P2}(s t:Int):pt ((b.1-a.1)/1*0+-t*1+a.1) ((b.2-a.2)/1*0+s*1+a.2)=pu (a.1-t,a.2+s):=by
 have e1:(b.1-a.1)/1*0+-t*1+a.1=a.1-t:=by rw[G6];lia
 have e2:(b.2-a.2)/1*0+s*1+a.2=a.2+s:=by rw[G6];lia
 rw[e1,e2]
def zB:List U->Out->Prop:=λus o=>∃q c:List P2,us=[plU q]/\Wd q c/\(∀p∈q,Szp 2500 p)/\o=.new (c.map pu)
theorem qA(T:Txt w K mg):ba P w K mg base (CXF P w) 5 T.aaP.a T.aaP.d ["piece"] (spU K (zB)):=by
 refine aV T.aaP.F fB (λus o h=>?_) (λPp A outer s H E O us o hr h=>?_)
 ·obtain⟨q,c,rfl,W,sz,rfl⟩:=h;rfl
 obtain⟨q,c,rfl,W,sz,rfl⟩:=h;refine Ws.nox ?_;have o30:Sz 30000 (1:Int):=Sz.mono (m:=8) (by decide) (by decide)
 have z30:Sz 30000 (0:Int):=Sz.mono (m:=8) (by decide) (by decide)
 cases W with
 |one a s t G=>
  have za:=sz a (by simp)
  have zb:Szp 2501 (a.1+1,a.2):=⟨(L2.Sz.add' za.1 (Sz.mono (m:=8) (n:=2500) (by decide) (by decide))).mono (by decide),za.2.mono (by decide)⟩
  have L:=lv1 (a:=a) (b:=(a.1+1,a.2)) (za.mono (by decide)) zb G
  refine af (eQ (i:=1) fB.nd rfl (Or.inl rfl) (cU (eC rfl) rfl T.aaG HQ (ac (aa 0 rfl) aj ai)) ?_);refine af (df (aA bG (cq 1 rfl rfl T.aac) ag) rfl ?_);refine af (ck 1 rfl (bo (ar (cA (aw (eV 1 rfl ag rfl) ag rfl rfl) ag) (ar (aw (eV 1 rfl ag rfl) ag rfl rfl) bg aH) bp)) (ay (by simp)) (aB ?_))
  refine af (df (aA bG (cq 1 rfl rfl T.aac) ag) rfl ?_);refine af (ck 1 rfl (ax ((ie T).mono (by decide)) hr rfl T.aau.m T.aau.F.kp T.aau.b au (ac (bo (ar ag (ar ag bg bC) bC)) (ac (ax ((f7 T).mono (by decide)) hr rfl T.aaf.m T.aaf.F.kp T.aaf.b au (ac (ax ((kh T).mono (by decide)) hr rfl T.aaD.m T.aaD.F.kp T.aaD.b au (ac (eV 1 rfl ag rfl) (ac (eV 1 rfl ag rfl) aj aH) aH) ⟨a.1,a.2,a.1+1,a.2,1,s,t,s,t,rfl,L.two,L.G,by decide,L.G1,rfl⟩) aj aX) ⟨_,_,_,_,_,_,rfl,L.M,rfl⟩) aj aX) dL) ⟨0,1,_,_,_,_,_,_,by rw[L.e],L.B,z30,o30,rfl⟩) (ay (by simp)) (aB ?_))
  refine af (eX 1 rfl ?_);rw[pi];exact rfl
 |two a b s t G=>
  have za:=sz a (by simp)
  have zb:=sz b (by simp)
  have L:=lv1 (a:=a) (b:=b) (za.mono (by decide)) (zb.mono (by decide)) G
  refine af (eQ (i:=1) fB.nd rfl (Or.inl rfl) (cU (eC rfl) rfl T.aaG HQ (ac (aa 0 rfl) aj ai)) ?_);refine af (bv (aA bG (cq 1 rfl rfl T.aac) ag) rfl (aB ?_));refine af (df (aA bG (cq 1 rfl rfl T.aac) ag) rfl ?_);refine af (ck 1 rfl (ax ((ie T).mono (by decide)) hr rfl T.aau.m T.aau.F.kp T.aau.b au (ac (bo (ar ag (ar ag bg bC) bC)) (ac (ax ((f7 T).mono (by decide)) hr rfl T.aaf.m T.aaf.F.kp T.aaf.b au (ac (ax ((kh T).mono (by decide)) hr rfl T.aaD.m T.aaD.F.kp T.aaD.b au (ac (eV 1 rfl ag rfl) (ac (eV 1 rfl ag rfl) aj aH) aH) ⟨a.1,a.2,b.1,b.2,1,s,t,s,t,rfl,L.two,L.G,by decide,L.G1,rfl⟩) aj aX) ⟨_,_,_,_,_,_,rfl,L.M,rfl⟩) aj aX) dL) ⟨0,1,_,_,_,_,_,_,by rw[L.e],L.B,z30,o30,rfl⟩) (ay (by simp)) (aB ?_))
  refine af (eX 1 rfl ?_);rw[pi];exact rfl
 |three a b c=>
  refine af (eQ (i:=1) fB.nd rfl (Or.inl rfl) (cU (eC rfl) rfl T.aaG HQ (ac (aa 0 rfl) aj ai)) ?_);refine af (bv (aA bG (cq 1 rfl rfl T.aac) ag) rfl (aB ?_));refine af (bv (aA bG (cq 1 rfl rfl T.aac) ag) rfl (aB ?_));refine af (eX 1 rfl ?_);exact rfl
def ro:List U->Out->Prop:=λus o=>∃(k:Int) (x Q R:P2),us=[.int k,pu x,pu Q,pu R]/\Sz 1000 k/\Szp 5000 x/\Szp 5000 Q/\Szp 5000 R/\o=.val (.int (dk k Q R x))
theorem kO(T:Txt w K mg):ba P w K mg base (CXF P w) 1 T.aaF.a T.aaF.d ["k","P","Q","R"] (spU K (ro)):=by
 refine aV T.aaF.F yH (λus o h=>?_) (λPp A outer s H E O us o hr h=>?_)
 ·obtain⟨k,x,Q,R,rfl,sk,⟨x1,x2⟩,⟨q1,q2⟩,⟨r1,r2⟩,rfl⟩:=h;rfl
 obtain⟨k,x,Q,R,rfl,sk,⟨x1,x2⟩,⟨q1,q2⟩,⟨r1,r2⟩,rfl⟩:=h;refine Ws.nox ?_;refine af (a_ (bw (cA (aZ (aa 0 rfl) (bw (aZ (aw (aa 2 rfl) ag rfl rfl) (aw (aa 3 rfl) ag rfl rfl) (by walk_at"mul")) (aZ (aw (aa 2 rfl) ag rfl rfl) (aw (aa 3 rfl) ag rfl rfl) (by walk_at"mul"))) (by walk_at"mul")) (aZ (aw (aa 1 rfl) ag rfl rfl) (bw (aw (aa 2 rfl) ag rfl rfl) (aw (aa 3 rfl) ag rfl rfl)) (by walk_at"mul"))) (aZ (aw (aa 1 rfl) ag rfl rfl) (bw (aw (aa 2 rfl) ag rfl rfl) (aw (aa 3 rfl) ag rfl rfl)) (by walk_at"mul"))) ?_)
 exact rfl
def wts:List P2->Int->P2->List (P2×Int)
 |[a,b,c],k,x=>[(a,dk k b c x),(b,dk k c a x),(c,dk k a b x)]
 |_,_,_=>[]
def dr(c:List P2)(k:Int)(x:P2):List ST3.PQ:=SG.srt ST3.KQ ((wts c k x).filter λz=>decide (0<z.2))
def wC:List U->Out->Prop:=λus o=>∃(q c:List P2) (k:Int) (x:P2),us=[plU q,.int k,pu x]/\Wd q c/\(∀p∈q,Szp 2500 p)/\(∀p∈c,Szp 5000 p)/\c.Nodup/\Sz 1000 k/\Szp 5000 x/\o=.new ((dr c k x).map qU)
theorem vU{q c:List P2}(W:Wd q c):∃a b d:P2,c=[a,b,d]:=by cases W <;>exact⟨_,_,_,rfl⟩
def vD(l:List (P2×Int)):List (Option U):=l.map λz=>if 0<z.2 then some (qU z) else none
theorem yY(l:List (P2×Int)):(vD l).filterMap id=(l.filter λz=>decide (0<z.2)).map qU:=by
 induction l with
 |nil=>rfl
 |cons p l ih=>
  unfold vD at *;rw[E2,JZ];by_cases h:0<p.2
  ·rw[if_pos h,if_pos (by simpa using h),E2,<-ih];rfl
  ·rw[if_neg h,if_neg (by simpa using h)];exact ih
theorem Eh(b d a:P2):(sdl [b,d,a]).map pq=[pq (b,d),pq (d,a),pq (a,b)]:=by
 unfold sdl nxt;simp[IB,gp]
theorem jd(T:Txt w K mg):ba P w K mg base (CXF P w) 6 T.aan.a T.aan.d ["piece","k","P"] (spU K (wC)):=by
 refine aV T.aan.F bF (λus o h=>?_) (λPp A outer s H E O us o hr h=>?_)
 ·obtain⟨q,c,k,x,rfl,W,sq,sc,nd,sk,sx,rfl⟩:=h;rfl
 obtain⟨q,c,k,x,rfl,W,sq,sc,nd,sk,sx,rfl⟩:=h;refine Ws.nox ?_;obtain⟨a,b,d,rfl⟩:=vU W;have sa:=sc a (by simp)
 have sb:=sc b (by simp)
 have sd:=sc d (by simp)
 refine af (aI (i:=3) bF.nd rfl (Or.inl rfl) (EvN.ev (bj ((qA T).mono (by decide)) hr rfl T.aaP.m T.aaP.F.kp T.aaP.b au (ac (aa 0 rfl) aj ai) ⟨q,_,rfl,W,sq,rfl⟩)) ?_)
 have e0:g6 (([a,b,d]:List P2).map pu) (some 1) none++g6 (([a,b,d]:List P2).map pu) none (some 1)=([b,d,a]:List P2).map pu:=by rw[lm,rV];rfl
 refine af (aI (i:=4) bF.nd rfl (Or.inl rfl) (EvN.ev (bj ((f6 T).mono (by decide)) hr rfl T.aap.m T.aap.F.kp T.aap.b au (ac (oo (congrArg U.lst e0) (EvN.ev (pB (EvN.ev (dU (aa 3 rfl) (fM ag) fK (.inl rfl))) (EvN.ev (dU (aa 3 rfl) fK (fM ag) (.inl rfl))) (by rw[lm,rV];exact FB (ay (by simp)))))) aj bp) ⟨[b,d,a],rfl,by simp,rfl⟩)) ?_)
 rw[Eh];show Ws _ _ _ _ _ _ [some (.val (plU q)),some (.val (.int k)),some (.val (pu x)),some (.val (lp [a,b,d])),some (.val (.lst [pq (b,d),pq (d,a),pq (a,b)])),none,none,none,none];refine af (rK (ys:=(wts [a,b,d] k x).map qU) (j:=5) false rfl bF.nd rfl (Or.inl rfl) (blk (ak cV) ["piece","k","P","corners","across","pairs","corner","side","pair"] [6,7] rfl rfl rfl rfl (by decide+kernel)) (Ca rfl T.abb (aa 3 rfl) (.inl rfl) (aa 4 rfl) (.inl rfl) rfl ai ai) (λ_ _ _ _=>j9 rfl (bS (aQ (i:=6) bF.nd rfl (Or.inl rfl)) (bS (aQ (i:=7) bF.nd rfl (Or.inl rfl)) fI))) (jB (js:=[6,7]) (by decide)) ?clen ?csz ?dom ?celt ?_)
 case clen=>rfl
 case csz=>exact FB (ay (by simp[gH]))
 case dom=>
  intro z hz;simp only[gH,E2,Ig,EO,Fo,or_false]at hz;rcases hz with rfl |rfl |rfl <;>exact⟨_,rfl,rfl⟩
 case celt=>
  intro C s' H' fp j z y hz hy
  match j,hz,hy with
  |0,hz,hy=>
   cases hz;cases hy;exact (bo (ar (aa 6 rfl) (ar (ax ((kO T).mono (by decide)) hr rfl T.aaF.m T.aaF.F.kp T.aaF.b au (ac (aa 1 rfl) (ac (aa 2 rfl) (ac (aw (aa 7 rfl) ag rfl rfl) (ac (aw (aa 7 rfl) ag rfl rfl) aj aH) aH) ai) ai) ⟨k,x,b,d,rfl,sk,sx,sb,sd,rfl⟩) bg aX) ai))
  |1,hz,hy=>
   cases hz;cases hy;exact (bo (ar (aa 6 rfl) (ar (ax ((kO T).mono (by decide)) hr rfl T.aaF.m T.aaF.F.kp T.aaF.b au (ac (aa 1 rfl) (ac (aa 2 rfl) (ac (aw (aa 7 rfl) ag rfl rfl) (ac (aw (aa 7 rfl) ag rfl rfl) aj aH) aH) ai) ai) ⟨k,x,d,a,rfl,sk,sx,sd,sa,rfl⟩) bg aX) ai))
  |2,hz,hy=>
   cases hz;cases hy;exact (bo (ar (aa 6 rfl) (ar (ax ((kO T).mono (by decide)) hr rfl T.aaF.m T.aaF.F.kp T.aaF.b au (ac (aa 1 rfl) (ac (aa 2 rfl) (ac (aw (aa 7 rfl) ag rfl rfl) (ac (aw (aa 7 rfl) ag rfl rfl) aj aH) aH) ai) ai) ⟨k,x,a,b,rfl,sk,sx,sa,sb,rfl⟩) bg aX) ai))
  |j+3,hz,hy=>simp[wts]at hy
 have nw:((wts [a,b,d] k x).map (·.1)).Nodup:=nd;have wl:(wts [a,b,d] k x).length=3:=rfl;show Ws _ _ _ _ _ _ [some (.val (plU q)),some (.val (.int k)),some (.val (pu x)),some (.val (lp [a,b,d])),some (.val (.lst [pq (b,d),pq (d,a),pq (a,b)])),some (.val (.lst ((wts [a,b,d] k x).map qU))),none,none,none];unfold dr;generalize wts [a,b,d] k x=w3 at *;refine af (cX (mW ST3.KQ qU ((0,0),0) (trs:=w3.filter λz=>decide (0<z.2)) Ef rfl T.aaS (eK hr) (oo (congrArg U.lst (yY w3)) (EvN.ev (jt (vD w3) rfl (blk (ak cV) ["piece","k","P","corners","across","pairs","corner","side","pair"] [8] rfl rfl rfl rfl (by decide+kernel)) (bQ (aa 5 rfl) (.inl rfl)) (λ_ _ _ _=>aQ (i:=8) bF.nd rfl (Or.inl rfl)) (bM (by decide)) ?clen ?csz (λ_ _=>trivial) ?ctest ?celt))) ⟨Jk (Hm _ _) (by lia),?nd⟩ ci) ?_)
 case clen=>unfold vD;simp
 case csz=>rw[EH];exact FB (ay (by lia))
 case ctest=>
  intro C s' H' fp j z o hz ho;rw[ES]at hz;obtain⟨e,he,rfl⟩:=HH.mp hz;unfold vD at ho;rw[ES,he]at ho;cases ho
  have key:(if 0<e.2 then some (qU e) else none).isSome=decide (e.2 >0):=by
   by_cases h:0<e.2
   ·rw[if_pos h,decide_eq_true h];rfl
   ·rw[if_neg h,decide_eq_false h];rfl
  rw[key];exact (aA fE (aw (aa 8 rfl) ag rfl rfl) ag)
 case celt=>
  intro C s' H' fp j z y hz hy;rw[ES]at hz;obtain⟨e,he,rfl⟩:=HH.mp hz;unfold vD at hy;rw[ES,he]at hy;by_cases h:0<e.2
  ·rw[HG,if_pos h]at hy;cases hy;exact (aa 8 rfl)
  ·rw[HG,if_neg h]at hy;cases hy
 case nd=>exact ((FF.mp nw).imp λ{a b} h e=>h (by rw[e])).sublist Ke
 exact rfl
def inK(k:Int)(r:List P2)(x:P2):Bool:=decide (-1<whr (ao (r.map (scl k))) x)
def iJ:List U->Out->Prop:=λus o=>∃(l:List P2) (k:Int) (x:P2) (u:List (List P2)) (q:List P2) (v:List (List P2)) (c:List P2),us=[lp l,.int k,pu x]/\gX l/\0<=k/\Sz 1000 k/\Szp 5000 x/\dC l=u++q::v/\(∀r∈u,inK k r x=false)/\inK k q x=true/\Wd q c/\(∀p∈c,Szp 5000 p)/\c.Nodup/\o=.new ((dr c k x).map qU)
theorem jN:∀{r:List P2}{q:List P2},q∈dl r->∃a b,q=[a,b]/\a∈r/\b∈r
 |[],q,h=>by cases h
 |[_],q,h=>by cases h
 |a::b::r,q,h=>by
  rcases EO.mp h with e |e
  ·exact⟨a,b,e,by simp,by simp⟩
  ·obtain⟨c,d,e1,e2,e3⟩:=jN e;exact⟨c,d,e1,EJ _ e2,EJ _ e3⟩
theorem ye{l:List P2}{t:ST3.TR}(h:t∈pcs l):t.1∈aJ l/\t.2.1∈aJ l/\t.2.2∈aJ l:=by
 obtain⟨r,hr,rfl⟩:=ER.mp h;have hp:=b9 l
 have key:∀t,t∈nW l->t.1∈aJ l/\t.2.1∈aJ l/\t.2.2∈aJ l:=λt ht=>by
  rcases Fx.mp ht with h |h
  ·have:=eU (.inl rfl) _ hp t h;exact⟨this.ma,this.mb,this.mP⟩
  ·have:=eU (.inr rfl) _ hp t h;exact⟨this.ma,this.mb,this.mP⟩
 obtain⟨k1,k2,k3⟩:=key r hr;unfold bX;split
 ·exact⟨k1,k2,k3⟩
 ·exact⟨k1,k3,k2⟩
theorem t5{l:List P2}(F:Fld l){q:List P2}(h:q∈dC l):q≠[]/\q.length<=3/\∀p∈q,p∈aJ l:=by
 have l0:0<l.length:=FH.mpr F.ne;unfold dC at h;split at h
 ·rename_i h1
  obtain⟨A,rfl⟩:=Il.mp h1;rw[EV.mp h,iu F];simp
 ·split at h
  ·obtain⟨a,b,rfl,ma,mb⟩:=jN h;refine⟨by simp,by simp,λp hp=>?_⟩
   simp at hp;rcases hp with rfl |rfl
   ·exact ma
   ·exact mb
  ·obtain⟨t,ht,rfl⟩:=ER.mp h;obtain⟨k1,k2,k3⟩:=ye ((SG.srt_mem _ _ _).mp ht);refine⟨by simp,by simp,λp hp=>?_⟩
   simp at hp;rcases hp with rfl |rfl |rfl
   ·exact k1
   ·exact k2
   ·exact k3
theorem gX.fz{l:List P2}(O:gX l):∀p∈aJ l,Szp 2500 p:=λp hp=>by
 have q:=(du O.F.ne).mp (O.F.in_box ((br O.F p).mp hp));obtain⟨_,_,w1,w2,w3,w4⟩:=mS O.F.ne O.sz;exact⟨(iL w1 w2 q.1.1 q.1.2).mono (by decide),(iL w3 w4 q.2.1 q.2.2).mono (by decide)⟩
theorem nR(T:Txt w K mg):ba P w K mg base (CXF P w) 10 T.aaU.a T.aaU.d ["land","k","P"] (spU K (iJ)):=by
 refine aV T.aaU.F ug (λus o h=>?_) (λPp A outer s H E O us o hr h=>?_)
 ·obtain⟨l,k,x,u,q,v,c,rfl,O,k0,sk,sx,hp,hu,hq,W,sc,nd,rfl⟩:=h;rfl
 obtain⟨l,k,x,u,q,v,c,rfl,O,k0,sk,sx,hp,hu,hq,W,sc,nd,rfl⟩:=h;refine Ws.nox ?_;refine af (bv (aA e_ (aa 1 rfl) ag) (decide_eq_false (by lia)) (aB ?_))
 have fz:=O.fz;refine af (dJ (λ_:Unit=>[some (.val (lp l)),some (.val (.int k)),some (.val (pu x)),none]) (λi _=>i<=u.length) rfl PassesOwn.never (bQ (EvN.ev (bj ((l6 T).mono (by decide)) hr rfl T.aaI.m T.aaI.F.kp T.aaI.b au (ac (aa 0 rfl) aj ai) ⟨l,rfl,O,rfl⟩)) (.inl rfl)) ?h0 ?hs ?hd)
 case h0=>exact⟨(),FU _,rfl,rfl,rfl,trivial⟩
 case hs=>
  rintro H0 i y _ hy hi;rw[ES]at hy;obtain⟨r,Rm,rfl⟩:=HH.mp hy;obtain⟨rn,r3,rm⟩:=t5 O.F (E5 Rm);have rz:∀p∈r,Szp 2500 p:=λp hp=>fz p (rm p hp)
  have cz:∀p∈ao (r.map (scl k)),Szp 5000 p:=λp hp=>by
   obtain⟨z,hz,rfl⟩:=ER.mp (bA _ p hp);exact (qy sk (rz z hz)).mono (by decide)
  have cl:=hX (r.map (scl k));rw[EH]at cl;have cn:ao (r.map (scl k))≠[]:=hW (by simpa using rn)
  refine⟨_,(eu (i:=3) ug.nd rfl (Or.inl rfl)),?_⟩;rw[hp]at Rm;have test:decide (whr (ao (r.map (scl k))) x >-1)=inK k r x:=rfl;by_cases e:i<u.length
  ·rw[Fb e]at Rm;have:=hu r (E5 Rm);refine af (bv (aA fE (ax ((oE T).mono (by decide)) hr rfl T.aaR.m T.aaR.F.kp T.aaR.b au (ac (EvN.ev (bj ((nu T).mono (by decide)) hr rfl T.aaT.m T.aaT.F.kp T.aaT.b au (ac (EvN.ev (cU (eC rfl) rfl T.aaG HQ (ac (aa 3 rfl) aj ai))) (ac (aa 1 rfl) aj ai) aX) ⟨r,k,rfl,sk,λp hp=>(rz p hp).mono (by decide),rn,by lia,rfl⟩)) (ac (aa 2 rfl) aj ai) aX) ⟨_,x,rfl,FH.mpr cn,by lia,cz,sx,rfl⟩) (bO ag)) (by rw[test];exact this) (aB (aB ?_)))
   exact⟨(),e,rfl,rfl,rfl,trivial⟩
  ·have ei:i=u.length:=by lia
   subst ei;rw[Fd (EU _),M7]at Rm;cases Rm;refine af (df (aA fE (ax ((oE T).mono (by decide)) hr rfl T.aaR.m T.aaR.F.kp T.aaR.b au (ac (EvN.ev (bj ((nu T).mono (by decide)) hr rfl T.aaT.m T.aaT.F.kp T.aaT.b au (ac (EvN.ev (cU (eC rfl) rfl T.aaG HQ (ac (aa 3 rfl) aj ai))) (ac (aa 1 rfl) aj ai) aX) ⟨q,k,rfl,sk,λp hp=>(rz p hp).mono (by decide),rn,by lia,rfl⟩)) (ac (aa 2 rfl) aj ai) aX) ⟨_,x,rfl,FH.mpr cn,by lia,cz,sx,rfl⟩) (bO ag)) (by rw[test];exact hq) ?_)
   refine af (cX (bj ((jd T).mono (by decide)) hr rfl T.aan.m T.aan.F.kp T.aan.b au (ac (aa 3 rfl) (ac (aa 1 rfl) (ac (aa 2 rfl) aj ai) ai) ai) ⟨q,c,k,x,rfl,W,rz,sc,nd,sk,sx,rfl⟩) ?_)
   exact rfl
 case hd=>
  rintro n ps hn PU
  exfalso
  rw[EH,hp]at hn;simp at hn;lia
def cel(ns:List Int)(k:Int):Int:=if k<(ns.length:Int) then ns.getD k.toNat 0 else 7*k*k+3*k+1
theorem f8{ns:List Int}(h:∀m∈ns,Sz 1048576 m){k:Int}(h0:0<=k)(h1:k<1000):Sz 1048576 (cel ns k):=by
 unfold cel;split
 ·exact zp h _
 ·refine Sz.mono (m:=100) ?_ (by decide)
  have:7*k*k<=7*1000*1000:=by
   have:k*k<=1000*1000:=Int.mul_le_mul (by lia) (by lia) h0 (by lia)
   rw[OE];lia
  have h2:0<=7*k*k:=Fc (by lia) h0
  unfold Sz;lia
def uY:List U->Out->Prop:=λus o=>∃(ns:List Int) (k:Int),us=[.scr (ns.map U.int),.int k]/\ns.length<=63/\0<=k/\k<1000/\o=.val (.int (cel ns k))
theorem bI(T:Txt w K mg):ba P w K mg base (CXF P w) 1 T.aaa.a T.aaa.d ["script","k"] (spU K (uY)):=by
 refine aV T.aaa.F mO (λus o h=>?_) (λPp A outer s H E O us o hr h=>?_)
 ·obtain⟨ns,k,rfl,hl,h0,h1,rfl⟩:=h;rfl
 obtain⟨ns,k,rfl,hl,h0,h1,rfl⟩:=h;refine Ws.nox ?_;have sk:Sz 64 k:=by unfold Sz;lia
 have hm:((ns.map U.int).length:Int)=(ns.length:Int):=by rw[EH]
 refine af (jJ (aA e_ (aa 1 rfl) (aq (bn rfl) rfl T.aac E8 (ac (aa 0 rfl) aj ai))) (λhT=>?_) (λhF=>(aB ?_)))
 ·rw[hm]at hT;have hk:=dTb hT;refine af (a_ (aw (aa 0 rfl) (aa 1 rfl) rfl (wQ h0 hk)) ?_);exact vIO (by unfold cel;rw[if_pos hk])
 ·rw[hm]at hF;have hk:=dFb hF;refine af (a_ (cA (cA (aZ (aZ ag (aa 1 rfl) (by walk_at"mul")) (aa 1 rfl) (by walk_at"mul")) (aZ ag (aa 1 rfl) (by walk_at"mul"))) ag) ?_)
  exact vIO (by unfold cel;rw[if_neg hk])
def yU:List U->Out->Prop:=λus o=>∃a b:Int,us=[.int a,.int b]/\o=.val (.int (HF a b))
theorem xE(a:Int):(if a<0 then -a else a)=(a.natAbs:Int):=by split <;>lia
theorem jh(T:Txt w K mg):ba P w K mg base (CXF P w) 1 T.aao.a T.aao.d ["one","other"] (spU K (yU)):=by
 refine aV T.aao.F cI (λus o h=>?_) (λPp A outer s H E O us o hr h=>?_)
 ·obtain⟨a,b,rfl,rfl⟩:=h;rfl
 obtain⟨a,b,rfl,rfl⟩:=h;refine Ws.nox ?_;refine af (aI (i:=0) cI.nd rfl (Or.inl rfl) (aq l9 rfl T.aa5 PyProof.Rows.boot_abs (ac (aa 0 rfl) aj ai)) ?_);refine af (aI (i:=1) cI.nd rfl (Or.inl rfl) (aq l9 rfl T.aa5 PyProof.Rows.boot_abs (ac (aa 1 rfl) aj ai)) ?_);rw[xE,xE];refine af (gh (λq:Nat×Nat=>[some (.val (.int (q.1:Int))),some (.val (.int (q.2:Int)))]) (λm q=>m=q.2/\Nat.gcd q.1 q.2=HF a b) PassesOwn.never ?h0 ?hs)
 case h0=>exact⟨_,(a.natAbs,b.natAbs),⟨rfl,rfl⟩,rfl,rfl,trivial⟩
 case hs=>
  rintro m ⟨x,y⟩ ⟨hm,hg⟩;dsimp only at hm hg |-;refine⟨decide ((0:Int)<(y:Int)),(aA fE (aa 1 rfl) ag),λh=>?_,λh ps PU=>?_⟩
  ·have hy:=dTb h;refine af (AZ (i:=0) (j:=1) rfl cI.nd rfl rfl (by decide) rfl rfl (ac (aa 1 rfl) (ac (cP (aa 0 rfl) (aa 1 rfl) (by walk_at"mod")) aj bp) ai) rfl (aB ?_))
   refine⟨x%y,(y,x%y),by rw[hm];exact Hn _ (by lia),⟨rfl,?_⟩,?_,?_,trivial⟩
   ·rw[<-hg,OY y,<-Nat.gcd_rec,OY]
   ·rfl
   ·exact congrArg (λz=>some (Sl.val (.int z))) (by simp)
  ·have hy:y=0:=by have:=dFb h;lia
   refine c7 ?_ PU;refine af (a_ (aa 0 rfl) ?_);subst hy;exact vIO (by rw[<-hg];simp)
def uO:List U->Out->Prop:=λus o=>∃P Q R:P2,us=[pu P,pu Q,pu R]/\Szp 5000 P/\Szp 5000 Q/\Szp 5000 R/\o=.val (.int (ae P Q R))
theorem dW(T:Txt w K mg):ba P w K mg base (CXF P w) 1 T.aab.a T.aab.d ["a","b","p"] (spU K (uO)):=by
 refine aV T.aab.F mL (λus o h=>?_) (λPp A outer s H E O us o hr h=>?_)
 ·obtain⟨P,Q,R,rfl,⟨p1,p2⟩,⟨q1,q2⟩,⟨r1,r2⟩,rfl⟩:=h;rfl
 obtain⟨P,Q,R,rfl,⟨p1,p2⟩,⟨q1,q2⟩,⟨r1,r2⟩,rfl⟩:=h;refine Ws.nox ?_;refine af (a_ (bw (aZ (bw (aw (aa 1 rfl) ag rfl rfl) (aw (aa 0 rfl) ag rfl rfl)) (bw (aw (aa 2 rfl) ag rfl rfl) (aw (aa 0 rfl) ag rfl rfl)) (by walk_at"mul")) (aZ (bw (aw (aa 1 rfl) ag rfl rfl) (aw (aa 0 rfl) ag rfl rfl)) (bw (aw (aa 2 rfl) ag rfl rfl) (aw (aa 0 rfl) ag rfl rfl)) (by walk_at"mul"))) ?_)
 exact rfl
theorem iy(T:Txt w K mg):ba P w K mg base (CXF P w) 2 T.aak.a T.aak.d ["points"] (spU K (kE)):=by
 refine aV T.aak.F fO (λus o h=>?_) (λPp A outer s H E O us o hr h=>?_)
 ·obtain⟨row,rfl,sz,hl,rfl⟩:=h;rfl
 obtain⟨row,rfl,sz,hl,rfl⟩:=h;refine Ws.nox ?_;refine af (eQ (i:=1) fO.nd rfl (Or.inl rfl) (dg bg) ?_);refine af (dJ (λst:List P2=>[some (.val (lp row)),some (.own (st.reverse.map pu)),none]) (λi st=>st=am (row.take i)) rfl PassesOwn.never (bQ (aa 0 rfl) (.inl rfl)) ?h0 ?hs ?hd)
 case h0=>exact⟨[],rfl,rfl,rfl,trivial⟩
 case hs=>
  rintro H0 i x _ hx rfl;obtain⟨P,hP,mP,rfl⟩:=kJ hx;have hi:i<row.length:=aF hP;have sP:=sz P mP;refine⟨_,(eu (i:=2) fO.nd rfl (Or.inl rfl)),?_⟩;have len0:=gu row i;refine iP (λps=>SubP [some (.val (lp row)),some (.own ((aW P (am (row.take i))).reverse.map pu)),some (.val (pu P))] ps) (gh (λs2:List P2=>[some (.val (lp row)),some (.own (s2.reverse.map pu)),some (.val (pu P))]) (λm s2=>m=s2.length/\aW P s2=aW P (am (row.take i))/\(∀p∈s2,p∈row)/\s2.length<=i) PassesOwn.never ?h0 ?hs) ?hj
  case h0=>exact⟨_,_,⟨rfl,rfl,λq hq=>fq row i q hq,len0⟩,rfl,rfl,rfl,trivial⟩
  case hs=>
   rintro m s2 ⟨rfl,e2,sub,QK⟩
   match s2,e2,sub,QK with
   |[],e2,sub,QK=>
    refine⟨false,?_,λh=>(nomatch h),λh ps PU=>e2 ▸ PU⟩
    exact (Tw.t (iI (aA fE (cq 1 rfl rfl T.aac) ag) rfl))
   |[b],e2,sub,QK=>
    refine⟨false,?_,λh=>(nomatch h),λh ps PU=>e2 ▸ PU⟩
    exact (Tw.t (iI (aA fE (cq 1 rfl rfl T.aac) ag) rfl))
   |b::a::r,e2,sub,QK=>
    have sa:=sz a (sub a (by simp))
    have sb:=sz b (sub b (by simp))
    have e1:decide ((1:Int)<((((b::a::r).reverse.map pu).length:Nat):Int))=true:=decide_eq_true (by simp;lia)
    refine⟨decide ((1:Int)<((((b::a::r).reverse.map pu).length:Nat):Int)) && decide (ae a b P<=0),?_,λh=>?_,λh ps PU=>?_⟩
    ·exact (Tw.t (rX (aA fE (cq 1 rfl rfl T.aac) ag) (λhz=>(qP (aA Ej (ax ((dW T).mono (by decide)) hr rfl T.aab.m T.aab.F.kp T.aab.b au (ac (eV 1 rfl (bO ag) (sD b a r)) (ac (eV 1 rfl (bO ag) (rO b (a::r))) (ac (aa 2 rfl) aj ai) aH) aH) ⟨a,b,P,rfl,sa,sb,sP,rfl⟩) ag)))))
    ·rw[e1,IG]at h;have hd:=dTb h;refine af (v9 1 rfl (by simp) (aB ?_))
     refine⟨_,a::r,?_,⟨rfl,?_,λq hq=>sub q (EJ _ hq),?_⟩,rfl,?_,rfl,trivial⟩
     ·simp
     ·rw[←e2];conv=>rhs;unfold aW
      rw[if_pos hd]
     ·simp only[FN]at *;lia
     ·exact congrArg (λl=>some (Sl.own l)) (by simp)
    ·rw[e1,IG]at h;have hd:=dFb h
     have e3:aW P (b::a::r)=b::a::r:=by conv=>lhs;unfold aW
                                        rw[if_neg hd]
     rw[<-e2,e3];exact PU
  case hj=>
   intro ps PU;refine c7 ?_ PU;have e4:=fH hP;have R0:=jw P (am (row.take i));refine af (ck 1 rfl (aa 2 rfl) (by rw[EH,FQ];exact ay (by lia)) (aB ?_))
   refine⟨_,rfl,rfl,?_,trivial⟩;exact congrArg (λl=>some (Sl.own l)) (by rw[e4];simp)
 case hd=>
  rintro st ps Qs PU;refine c7 ?_ PU;refine af (eX 1 rfl ?_);rw[Qs];simp
def nJ:List U->Out->Prop:=λus o=>∃pts:List P2,us=[lp pts]/\(∀p∈pts,Szp 5000 p)/\pts.length<64/\o=.new ((ao pts).map pu)
theorem jT{pts:List P2}(h:(ST.srt pts).length=2):ao pts=ST.srt pts:=by
 match e:ST.srt pts,h with
 |[a,b],_=>
  unfold ao;rw[e];simp[am,aW]
theorem fV(T:Txt w K mg):ba P w K mg base (CXF P w) 3 T.aae.a T.aae.d ["points"] (spU K (nJ)):=by
 refine aV T.aae.F dM (λus o h=>?_) (λPp A outer s H E O us o hr h=>?_)
 ·obtain⟨pts,rfl,sz,hl,rfl⟩:=h;rfl
 obtain⟨pts,rfl,sz,hl,rfl⟩:=h;refine Ws.nox ?_;have sl:=ST.srt_len pts;have hms:(((ST.srt pts).map pu).length:Int)=((ST.srt pts).length:Int):=by rw[EH]
 have szs:=x_ sz;by_cases h1:(ST.srt pts).length<3
 ·refine af (eQ (i:=1) dM.nd rfl (Or.inl rfl) (gB rfl (eK hr) rfl T.aaS rfl T.aa_ (aa 0 rfl) hl ai) ?_);refine af (df (aA e_ (cq 1 rfl rfl T.aac) ag) (by rw[hms];exact decide_eq_true (by lia)) ?_)
  refine af (eX 1 rfl ?_)
  have ec:ao pts=ST.srt pts:=by
   by_cases h2:(ST.srt pts).length=2
   ·exact jT h2
   ·exact b6 (by lia)
  rw[ec]
 ·refine af (aI (i:=1) dM.nd rfl (Or.inl rfl) (EvN.ev (gB rfl (eK hr) rfl T.aaS rfl T.aa_ (aa 0 rfl) hl ai)) ?_);refine af (bv (aA e_ (aq (bn rfl) rfl T.aac E8 (ac (aa 1 rfl) aj ai)) ag) (by rw[hms];exact decide_eq_false (by lia)) (aB ?_))
  have b1:=iD (ST.srt pts);have b2:=iD (ST.srt pts).reverse;rw[FQ]at b2;refine af (cX (pB (EvN.ev (dU (EvN.ev (bj ((iy T).mono (by decide)) hr rfl T.aak.m T.aak.F.kp T.aak.b au (ac (aa 1 rfl) aj ai) ⟨ST.srt pts,rfl,szs,by lia,rfl⟩)) fK (fM (bO ag)) (.inl rfl))) (EvN.ev (dU (EvN.ev (bj ((iy T).mono (by decide)) hr rfl T.aak.m T.aak.F.kp T.aak.b au (ac (EvN.ev (uA rfl rfl T.aaG rfl T.aa6 (aa 1 rfl) ai)) aj aX) ⟨(ST.srt pts).reverse,by rw[lp,G7],λp hp=>szs p (E9.mp hp),by rw[FQ];lia,rfl⟩)) fK (fM (bO ag)) (.inl rfl))) (by rw[fZ,fZ,EH,EH,G3,G3,FQ,FQ];exact FB (ay (by lia)))) ?_)
  show Out.new _=Out.new _;unfold ao;rw[if_neg (by lia),fZ,fZ,<-FC]
theorem BS{l:List P2}{j:Nat}(h:j<l.length):atI (l.map pu) ((0+(j:Int)+1)%((l.map pu).length:Int))=some (pu (nxt l j)):=by
 have e:(0+(j:Int)+1)%((l.map pu).length:Int)=(((j+1)%l.length:Nat):Int):=by
  rw[EH,Int.zero_add];simp
 rw[e];exact fU rfl (Hn _ (by lia))
theorem xh{l:List P2}{i:Nat}(h:i<l.length):(sdl l).take (i+1)=(sdl l).take i++[(gp l i,nxt l i)]:=by
 rw[He];congr 1;unfold sdl;rw[ES,Gx h];rfl
def z9:List U->Out->Prop:=λus o=>∃(l:List P2) (p:P2),us=[lp l,pu p]/\l≠[]/\l.length<=900/\(∀q∈l,Szp 5000 q)/\Szp 5000 p/\o=.val (.bl (bZ l p))
theorem rE(T:Txt w K mg):ba P w K mg base (CXF P w) 2 T.aaQ.a T.aaQ.d ["land","p"] (spU K (z9)):=by
 refine aV T.aaQ.F j_ (λus o h=>?_) (λPp A outer s H E O us o hr h=>?_)
 ·obtain⟨l,p,rfl,Pn,hl,sz,sp,rfl⟩:=h;rfl
 obtain⟨l,p,rfl,Pn,hl,sz,sp,rfl⟩:=h;refine Ws.nox ?_;have hm:((l.map pu).length:Int)=(l.length:Int):=by rw[EH]
 have h0:0<l.length:=FH.mpr Pn;by_cases h1:l.length=1
 ·refine af (df (aA bG (aq (bn rfl) rfl T.aac E8 (ac (aa 0 rfl) aj ai)) ag) (by rw[hm];exact decide_eq_true (by lia)) ?_)
  refine af (a_ (eM (zh (eK hr) rfl rfl) (aa 1 rfl) (aw (aa 0 rfl) ag rfl (fU (i:=0) rfl h0))) ?_);exact vB (by rw[BQ];unfold bZ;rw[if_pos h1])
 ·refine af (bv (aA bG (aq (bn rfl) rfl T.aac E8 (ac (aa 0 rfl) aj ai)) ag) (by rw[hm];exact decide_eq_false (by lia)) (aB ?_))
  by_cases h2:l.length=2
  ·refine af (df (aA bG (aq (bn rfl) rfl T.aac E8 (ac (aa 0 rfl) aj ai)) ag) (by rw[hm];exact decide_eq_true (by lia)) ?_)
   have h1':1<l.length:=by lia
   refine af (a_ (j0 (eM bG (ax ((dW T).mono (by decide)) hr rfl T.aab.m T.aab.F.kp T.aab.b au (ac (aw (aa 0 rfl) ag rfl (fU (i:=0) rfl h0)) (ac (aw (aa 0 rfl) ag rfl (fU (i:=1) rfl h1')) (ac (aa 1 rfl) aj ai) aH) aH) ⟨_,_,_,rfl,sz _ (ce h0),sz _ (ce h1'),sp,rfl⟩) ag) (λhz=>(j0 (eM (oS (eK hr)) (aw (aa 0 rfl) ag rfl (fU (i:=0) rfl h0)) (aa 1 rfl)) (λhz=>(lG (eM (oS (eK hr)) (aa 1 rfl) (aw (aa 0 rfl) ag rfl (fU (i:=1) rfl h1')))))))) ?_)
   exact vB (by unfold bZ;rw[if_neg h1,if_pos h2])
  ·refine af (bv (aA bG (aq (bn rfl) rfl T.aac E8 (ac (aa 0 rfl) aj ai)) ag) (by rw[hm];exact decide_eq_false (by lia)) (aB ?_))
   have ew:bZ l p=(sdl l).all λs=>decide (0<=ae s.1 s.2 p):=by unfold bZ;rw[if_neg h1,if_neg h2]
   refine af (dJ (λ_:Unit=>[some (.val (lp l)),some (.val (pu p)),none]) (λi _=>∀s∈(sdl l).take i,0<=ae s.1 s.2 p) rfl PassesOwn.never (kR rfl T.aaX (ac (aq (bn rfl) rfl T.aac E8 (ac (aa 0 rfl) aj ai)) aj aX) (by rw[hm];lia) (by rw[hm];lia)) ?h0 ?hs ?hd)
   case h0=>exact⟨(),by simp,rfl,rfl,trivial⟩
   case hs=>
    rintro H0 i x _ hx P7;obtain⟨hi,rfl⟩:=dt hx;have Pu:i<l.length:=by lia
    have hz:(i+1)%l.length<l.length:=Hn _ (by lia)
    refine⟨_,(eu (i:=2) j_.nd rfl (Or.inl rfl)),?_⟩;refine af (jJ (aA e_ (ax ((dW T).mono (by decide)) hr rfl T.aab.m T.aab.F.kp T.aab.b au (ac (aw (aa 0 rfl) (aa 2 rfl) rfl (fU (i:=i) (by lia) Pu)) (ac (aw (aa 0 rfl) (cP (cA (aa 2 rfl) ag) (aq (bn rfl) rfl T.aac E8 (ac (aa 0 rfl) aj ai)) (by rw[hm];lia)) rfl (BS Pu)) (ac (aa 1 rfl) aj ai) aH) aH) ⟨_,_,_,rfl,sz _ (ce Pu),sz _ (ce hz),sp,rfl⟩) ag) (λhT=>?_) (λhF=>(aB (aB ?_))))
    ·refine af (a_ z_ ?_);refine vB ?_;rw[ew];refine (Bool.eq_false_iff.mpr λk=>?_).symm
     have:=of_decide_eq_true (Ij.mp k (gp l i,nxt l i) (ER.mpr ⟨i,Fk.mpr Pu,rfl⟩));have h:=dTb hT;dsimp only at this;lia
    ·refine⟨(),λs hs=>?_,rfl,rfl,trivial⟩
     rw[xh Pu]at hs;rcases Fx.mp hs with k |k
     ·exact P7 s k
     ·rw[EV.mp k];have h:=dFb hF;show 0<=ae (gp l i) (nxt l i) p;lia
   case hd=>
    rintro _ ps P7 PU;refine c7 ?_ PU;refine af (a_ z_ ?_);refine vB ?_;rw[ew];refine (Ij.mpr λs hs=>decide_eq_true (P7 s ?_)).symm
    rw[cx,LA]
    ·exact hs
    ·rw[gv];lia
def Ad:List U->Out->Prop:=λus o=>∃n:Int,us=[.int n]/\o=.val (.bl true)
theorem e8(T:Txt w K mg):ba P w K mg base (CXF P w) 1 T.aad.a T.aad.d ["thing"] (spU K (Ad)):=by
 refine aV T.aad.F k9 (λus o h=>?_) (λPp A outer s H E O us o hr h=>?_)
 ·obtain⟨n,rfl,rfl⟩:=h;rfl
 obtain⟨n,rfl,rfl⟩:=h;refine Ws.nox ?_;refine af (a_ (j0 (aq (cW (by intro _ h;cases h) (by walk_at"kit")) rfl T.aai Hk (ac (aa 0 rfl) (ac (nY rfl T.abc boot_int) aj ai) ai)) (λhz=>(lG (A_ (aq (cW (by intro _ h;cases h) (by walk_at"kit")) rfl T.aai Hk (ac (aa 0 rfl) (ac (nY rfl T.aba boot_bool) aj ai) ai)))))) ?_)
 exact rfl
def eN(ns:List Int):Nat:=max 10 (min ns.length 60)
theorem Eg(ns:List Int):(if (if (60:Int)<((ns.map U.int).length:Int) then (60:Int) else ((ns.map U.int).length:Int)) >10 then (if (60:Int)<((ns.map U.int).length:Int) then (60:Int) else ((ns.map U.int).length:Int)) else 10)=(eN ns:Int):=by
 unfold eN;rw[EH];split <;>split <;>lia
def qz:List U->Out->Prop:=λus o=>∃ns:List Int,us=[.scr (ns.map U.int)]/\o=.val (.int (eN ns))
theorem iq(T:Txt w K mg):ba P w K mg base (CXF P w) 1 T.aal.a T.aal.d ["script"] (spU K (qz)):=by
 refine aV T.aal.F nD (λus o h=>?_) (λPp A outer s H E O us o hr h=>?_)
 ·obtain⟨ns,rfl,rfl⟩:=h;rfl
 obtain⟨ns,rfl,rfl⟩:=h;refine Ws.nox ?_;refine af (a_ (aq (Dd rfl) rfl T.aa8 OH (ac ag (ac (aq (DL rfl) rfl T.aa9 OG (ac (aq (bn rfl) rfl T.aac E8 (ac (aa 0 rfl) aj ai)) (ac ag aj bC) aX)) aj aX) bC)) ?_);exact vIO (Eg ns)
def lI(c x:Int):P2:=if c/5%5=0 then (x,2) else if c/5%5=1 then (3,x) else if c/5%5=2 then (x,x) else if c/5%5=3 then (x,5-x) else (1,4)
def gT(c x y:Int):P2:=if c%5=1 then lI c x else (x,y)
theorem yX(c x:Int):atI ([pu (x,2),pu (3,x),pu (x,x),pu (x,5-x),pu (1,4)]:List U) (c/5%5)=some (pu (lI c x)):=by
 have h:c/5%5=0\/c/5%5=1\/c/5%5=2\/c/5%5=3\/c/5%5=4:=by lia
 unfold lI;rcases h with h |h |h |h |h <;>rw[h] <;>rfl
theorem lL{c x y:Int}(h1:0<=x/\x<=5)(h2:0<=y/\y<=5):(0<=(gT c x y).1/\(gT c x y).1<=5)/\0<=(gT c x y).2/\(gT c x y).2<=5:=by
 unfold gT lI
 (repeat' split) <;>dsimp only <;>lia
def vg:List U->Out->Prop:=λus o=>∃c x y:Int,us=[.int c,.int x,.int y]/\Sz 1048576 c/\Sz 8 x/\o=.val (pu (gT c x y))
theorem my(T:Txt w K mg):ba P w K mg base (CXF P w) 1 T.aaB.a T.aaB.d ["cell","x","y"] (spU K (vg)):=by
 refine aV T.aaB.F nC (λus o h=>?_) (λPp A outer s H E O us o hr h=>?_)
 ·obtain⟨c,x,y,rfl,sc,sx,rfl⟩:=h;rfl
 obtain⟨c,x,y,rfl,sc,sx,rfl⟩:=h;refine Ws.nox ?_;by_cases h:c%5=1
 ·refine af (bv (aA kw (cP (aa 0 rfl) ag (by walk_at"mod")) ag) (by rw[decide_eq_true h];rfl) (aB ?_))
  have el:gT c x y=lI c x:=by unfold gT;rw[if_pos h]
  rw[el];refine af ?_;refine a_ (u:=pu (lI c x)) ?dd ?_
  case dd=>
   generalize hE:(Expr.List _ _)=E0;refine aw (xs:=[pu (x,2),pu (3,x),pu (x,x),pu (x,5-x),pu (1,4)]) (x:=.lst [pu (x,2),pu (3,x),pu (x,x),pu (x,5-x),pu (1,4)]) ?d (cP (fA (aa 0 rfl) ag (by walk_at"div")) ag (by walk_at"mod")) rfl (yX c x)
   subst hE;refine EvD.ev ?_;refine dsp (us:=[pu (x,2),pu (3,x),pu (x,x),pu (x,5-x),pu (1,4)]) ?_ (FB (ay (by simp)))
   refine ar (bo (ar (aa 1 rfl) (ar ag bg bC) ai)) ?_ dL;refine ar (bo (ar ag (ar (aa 1 rfl) bg ai) bC)) ?_ dL;refine ar (bo (ar (aa 1 rfl) (ar (aa 1 rfl) bg ai) ai)) ?_ dL;refine ar (bo (ar (aa 1 rfl) (ar (bw ag (aa 1 rfl)) bg bp) ai)) ?_ dL;refine ar (bo (ar ag (ar ag bg bC) bC)) ?_ dL;exact bg
  exact rfl
 ·refine af (df (aA kw (cP (aa 0 rfl) ag (by walk_at"mod")) ag) (by rw[decide_eq_false h];rfl) ?_)
  refine af (a_ (bo (ar (aa 1 rfl) (ar (aa 2 rfl) bg ai) ai)) ?_);unfold gT;rw[if_neg h]
def nS(ns:List Int):Nat:=(eN ns-5)/2
def pS(ns:List Int)(i:Nat):P2:=gT (cel ns 5) (cel ns (6+(i:Int) *2)%6) (cel ns (6+(i:Int) *2)/6%6)
def spL(ns:List Int):List P2:=(Fz (nS ns)).map (pS ns)
theorem tY(ns:List Int):10<=eN ns/\eN ns<=60:=by unfold eN;lia
theorem vP(ns:List Int):2<=nS ns/\nS ns<=27:=by have:=tY ns;unfold nS;lia
def qa:List U->Out->Prop:=λus o=>∃ns:List Int,us=[.scr (ns.map U.int)]/\ns.length<=63/\(∀m∈ns,Sz 1048576 m)/\o=.new ((spL ns).map pu)
theorem k7(T:Txt w K mg):ba P w K mg base (CXF P w) 2 T.aaw.a T.aaw.d ["script"] (spU K (qa)):=by
 refine aV T.aaw.F ff (λus o h=>?_) (λPp A outer s H E O us o hr h=>?_)
 ·obtain⟨ns,rfl,hl,hB,rfl⟩:=h;rfl
 obtain⟨ns,rfl,hl,hB,rfl⟩:=h;refine Ws.nox ?_;have hN:=vP ns;have hE:=tY ns
 have hmm:e9 6 (eN ns:Int) 2=nS ns:=by
  unfold e9 nS;rw[if_pos (by lia)]
  lia
 have c5:=f8 hB (k:=5) (by decide) (by decide)
 refine af (eQ (i:=1) ff.nd rfl (Or.inl rfl) (dg bg) ?_);refine af (dJ (λi:Nat=>[some (.val (.scr (ns.map U.int))),some (.own (((Fz i).map (pS ns)).map pu)),none]) (λi j=>i=j) rfl PassesOwn.never (p6 rfl T.aaX (ac ag (ac (ax ((iq T).mono (by decide)) hr rfl T.aal.m T.aal.F.kp T.aal.b au (ac (aa 0 rfl) aj ai) ⟨ns,rfl,rfl⟩) (ac ag aj bC) aX) bC) (by lia)) ?h0 ?hs ?hd)
 case h0=>exact⟨0,rfl,rfl,rfl,trivial⟩
 case hs=>
  rintro H0 i x _ hx rfl;rw[hmm]at hx;obtain⟨hi,rfl⟩:=iZ hx;have Pu:i<27:=by lia
  refine⟨_,(eu (i:=2) ff.nd rfl (Or.inl rfl)),?_⟩;have cz:=f8 hB (k:=6+(i:Int) *2) (by lia) (by lia)
  have PF:((Fz i).map (pS ns)).map pu++[pu (pS ns i)]=((Fz (i+1)).map (pS ns)).map pu:=by
   rw[IB,FC,FC];rfl
  refine af (ck 1 rfl (ax ((my T).mono (by decide)) hr rfl T.aaB.m T.aaB.F.kp T.aaB.b au (ac (ax ((bI T).mono (by decide)) hr rfl T.aaa.m T.aaa.F.kp T.aaa.b au (ac (aa 0 rfl) (ac ag aj bC) ai) ⟨ns,_,rfl,hl,by decide,by decide,rfl⟩) (ac (cP (ax ((bI T).mono (by decide)) hr rfl T.aaa.m T.aaa.F.kp T.aaa.b au (ac (aa 0 rfl) (ac (aa 2 rfl) aj ai) ai) ⟨ns,_,rfl,hl,by lia,by lia,rfl⟩) ag (by walk_at"mod")) (ac (cP (fA (ax ((bI T).mono (by decide)) hr rfl T.aaa.m T.aaa.F.kp T.aaa.b au (ac (aa 0 rfl) (ac (aa 2 rfl) aj ai) ai) ⟨ns,_,rfl,hl,by lia,by lia,rfl⟩) ag (by walk_at"div")) ag (by walk_at"mod")) aj bp) bp) aX) ⟨_,_,_,rfl,c5,by unfold Sz;lia,rfl⟩) (by rw[EH,EH,JG];exact ay (by lia)) (aB ?_))
  refine⟨i+1,rfl,rfl,?_,trivial⟩;exact congrArg (λl=>some (Sl.own l)) PF
 case hd=>
  rintro q ps hq PU;refine c7 ?_ PU;rw[eS,hmm]at hq;subst hq;refine af (eX 1 rfl ?_);exact rfl
def mvA(ns:List Int)(many:Int):Int:=if many >16 then 0 else cel ns 0*48271%2000003-1000001
def mvB(ns:List Int)(many:Int):Int:=if many >16 then 0 else cel ns 1*16807%2000029-1000014
def mvE(ns:List Int):Int:=cel ns 3*69621%10 ^ (40:Int).toNat
def mvF(ns:List Int):Int:=cel ns 4*982451653%10 ^ (40:Int).toNat
def flp(ns:List Int)(p:P2):P2:=if cel ns 2%2=1 then (p.2,p.1) else p
def mvS(ns:List Int)(many:Int)(p:P2):P2:=((flp ns p).1+mvA ns many*(flp ns p).2+mvE ns,(flp ns p).2+mvB ns many*((flp ns p).1+mvA ns many*(flp ns p).2)-mvF ns)
theorem A0(ns:List Int)(many:Int):Sz 22 (mvA ns many)/\Sz 22 (mvB ns many)/\Sz 140 (mvE ns)/\Sz 140 (mvF ns):=by
 have e:(10:Int) ^ (40:Int).toNat=10 ^ 40:=rfl;have l:(10:Int) ^ 40<2 ^ 139:=by decide+kernel
 refine⟨?_,?_,?_,?_⟩
 ·unfold mvA Sz;generalize cel ns 0*48271=z;split <;>lia
 ·unfold mvB Sz;generalize cel ns 1*16807=z;split <;>lia
 ·unfold mvE Sz;rw[e];have h1:=Hg (cel ns 3*69621) (show (10:Int) ^ 40≠0 by decide)
  have h2:=GG (cel ns 3*69621) (show (0:Int)<10 ^ 40 by decide)
  have h3:cel ns 3*69621%10 ^ 40<2 ^ 139:=OZ h2 l;lia
 ·unfold mvF Sz;rw[e];have h1:=Hg (cel ns 4*982451653) (show (10:Int) ^ 40≠0 by decide)
  have h2:=GG (cel ns 4*982451653) (show (0:Int)<10 ^ 40 by decide)
  have h3:cel ns 4*982451653%10 ^ 40<2 ^ 139:=OZ h2 l;lia
def oM:List U->Out->Prop:=λus o=>∃(ns:List Int) (many:Int) (p:P2),us=[.scr (ns.map U.int),.int many,pu p]/\ns.length<=63/\(∀m∈ns,Sz 1048576 m)/\Szp 100 p/\o=.val (pu (mvS ns many p))
theorem gJ(T:Txt w K mg):ba P w K mg base (CXF P w) 2 T.aah.a T.aah.d ["script","many","p"] (spU K (oM)):=by
 refine aV T.aah.F bq (λus o h=>?_) (λPp A outer s H E O us o hr h=>?_)
 ·obtain⟨ns,many,p,rfl,hl,hB,sp,rfl⟩:=h;rfl
 obtain⟨ns,many,p,rfl,hl,hB,sp,rfl⟩:=h;refine Ws.nox ?_;have c0:=f8 hB (k:=0) (by decide) (by decide)
 have c1:=f8 hB (k:=1) (by decide) (by decide)
 have c2:=f8 hB (k:=2) (by decide) (by decide)
 have c3:=f8 hB (k:=3) (by decide) (by decide)
 have c4:=f8 hB (k:=4) (by decide) (by decide)
 obtain⟨sA,sB,sE,sF⟩:=A0 ns many;refine af (aI (i:=3) bq.nd rfl (Or.inl rfl) (bw (cP (aZ (ax ((bI T).mono (by decide)) hr rfl T.aaa.m T.aaa.F.kp T.aaa.b au (ac (aa 0 rfl) (ac ag aj bC) ai) ⟨ns,_,rfl,hl,by decide,by decide,rfl⟩) ag (by walk_at"mul")) ag (by decide+kernel)) ag) ?_)
 refine af (aI (i:=4) bq.nd rfl (Or.inl rfl) (bw (cP (aZ (ax ((bI T).mono (by decide)) hr rfl T.aaa.m T.aaa.F.kp T.aaa.b au (ac (aa 0 rfl) (ac ag aj bC) ai) ⟨ns,_,rfl,hl,by decide,by decide,rfl⟩) ag (by walk_at"mul")) ag (by decide+kernel)) ag) ?_)
 refine iP (λps=>SubP [some (.val (.scr (ns.map U.int))),some (.val (.int many)),some (.val (pu p)),some (.val (.int (mvA ns many))),some (.val (.int (mvB ns many))),none,none] ps) (jJ (aA fE (aa 1 rfl) ag) (λhT=>?_) (λhF=>(aB ?_))) ?hj
 ·refine af (aI (i:=3) bq.nd rfl (Or.inl rfl) ag ?_);refine af (aI (i:=4) bq.nd rfl (Or.inl rfl) ag (aB ?_));refine⟨rfl,rfl,rfl,?_,?_,trivial⟩
  ·exact congrArg (λz=>some (Sl.val (.int z))) (by unfold mvA;rw[if_pos (dTb hT)])
  ·exact congrArg (λz=>some (Sl.val (.int z))) (by unfold mvB;rw[if_pos (dTb hT)])
 ·refine⟨rfl,rfl,rfl,?_,?_,trivial⟩
  ·exact congrArg (λz=>some (Sl.val (.int z))) (by unfold mvA;rw[if_neg (dFb hF)])
  ·exact congrArg (λz=>some (Sl.val (.int z))) (by unfold mvB;rw[if_neg (dFb hF)])
 case hj=>
  intro ps PU;refine c7 ?_ PU;refine af (AV (aa 2 rfl) (wV [5,6] rfl (bS (aQ (i:=5) bq.nd rfl (Or.inl rfl)) (bS (aQ (i:=6) bq.nd rfl (Or.inl rfl)) fI)) rfl) ?_);refine iP (λps=>SubP [some (.val (.scr (ns.map U.int))),some (.val (.int many)),some (.val (pu p)),some (.val (.int (mvA ns many))),some (.val (.int (mvB ns many))),some (.val (.int (flp ns p).1)),some (.val (.int (flp ns p).2))] ps) (jJ (aA bG (cP (ax ((bI T).mono (by decide)) hr rfl T.aaa.m T.aaa.F.kp T.aaa.b au (ac (aa 0 rfl) (ac ag aj bC) ai) ⟨ns,_,rfl,hl,by decide,by decide,rfl⟩) ag (by walk_at"mod")) ag) (λhT=>?_) (λhF=>(aB ?_))) ?hj2
  ·refine af (AZ (i:=5) (j:=6) rfl bq.nd rfl rfl (by decide) rfl rfl (ac (aa 6 rfl) (ac (aa 5 rfl) aj ai) ai) rfl (aB ?_))
   refine⟨rfl,rfl,rfl,rfl,rfl,?_,?_,trivial⟩
   ·exact congrArg (λz=>some (Sl.val (.int z))) (by unfold flp;rw[if_pos (dTb hT)])
   ·exact congrArg (λz=>some (Sl.val (.int z))) (by unfold flp;rw[if_pos (dTb hT)])
  ·refine⟨rfl,rfl,rfl,rfl,rfl,?_,?_,trivial⟩
   ·exact congrArg (λz=>some (Sl.val (.int z))) (by unfold flp;rw[if_neg (dFb hF)])
   ·exact congrArg (λz=>some (Sl.val (.int z))) (by unfold flp;rw[if_neg (dFb hF)])
  case hj2=>
   intro ps PU;refine c7 ?_ PU;have sf:Szp 100 (flp ns p):=by unfold flp;split;exact⟨sp.2,sp.1⟩;exact sp
   have s1:=sf.1;have s2:=sf.2;have er:mvS ns many p=((flp ns p).1+mvA ns many*(flp ns p).2+mvE ns,(flp ns p).2+mvB ns many*((flp ns p).1+mvA ns many*(flp ns p).2)-mvF ns):=rfl;rw[er];generalize flp ns p=q at *;generalize mvA ns many=a at *;generalize mvB ns many=b at *;refine af (aI (i:=5) bq.nd rfl (Or.inl rfl) (cA (aa 5 rfl) (aZ (aa 3 rfl) (aa 6 rfl) (by walk_at"mul"))) ?_)
   refine af (aI (i:=6) bq.nd rfl (Or.inl rfl) (cA (aa 6 rfl) (aZ (aa 4 rfl) (aa 5 rfl) (by walk_at"mul"))) ?_)
   refine af (a_ (bo (ar (cA (aa 5 rfl) (cP (aZ (ax ((bI T).mono (by decide)) hr rfl T.aaa.m T.aaa.F.kp T.aaa.b au (ac (aa 0 rfl) (ac ag aj bC) ai) ⟨ns,_,rfl,hl,by decide,by decide,rfl⟩) ag (by walk_at"mul")) (v8 ag ag ⟨by decide,by decide,by decide⟩) (by decide+kernel))) (ar (bw (aa 6 rfl) (cP (aZ (ax ((bI T).mono (by decide)) hr rfl T.aaa.m T.aaa.F.kp T.aaa.b au (ac (aa 0 rfl) (ac ag aj bC) ai) ⟨ns,_,rfl,hl,by decide,by decide,rfl⟩) ag (by walk_at"mul")) (v8 ag ag ⟨by decide,by decide,by decide⟩) (by decide+kernel))) bg bp) bp)) ?_)
   exact rfl
def sN(z:List ST3.PQ):Int:=(z.map (·.2)).sum
def sX(z:List ST3.PQ):Int:=(z.map λe=>e.1.1*e.2).sum
def sY(z:List ST3.PQ):Int:=(z.map λe=>e.1.2*e.2).sum
structure C1(z:List ST3.PQ):Prop where
 len:z.length<=60
 sz:∀e∈z,Szp 300 e.1/\Sz 300 e.2
def xH:List U->Out->Prop:=λus o=>∃z:List ST3.PQ,us=[.lst (z.map qU)]/\C1 z/\o=.val (.tup [.int (sN z),pu (sX z,sY z)])
theorem i6(T:Txt w K mg):ba P w K mg base (CXF P w) 1 T.aat.a T.aat.d ["pairs"] (spU K (xH)):=by
 refine aV T.aat.F cN (λus o h=>?_) (λPp A outer s H E O us o hr h=>?_)
 ·obtain⟨z,rfl,⟨hl,hs⟩,rfl⟩:=h;rfl
 obtain⟨z,rfl,⟨hl,hs⟩,rfl⟩:=h;refine Ws.nox ?_;refine af (aI (i:=1) cN.nd rfl (Or.inl rfl) (aq (jF rfl (ns:=z.map λe=>e.2)) rfl T.aa7 Nn (ac (EvN.ev (dj (ys:=((z.map λe=>e.2).map U.int)) rfl (blk (ak eo) ["pairs","many","pair","x"] [2] rfl rfl rfl rfl (by decide+kernel)) (bQ (aa 0 rfl) (.inl rfl)) (λ_ _ _ _=>aQ (i:=2) cN.nd rfl (Or.inl rfl)) (bM (by decide)) ?clen ?csz (λ_ _=>trivial) ?celt)) aj ci)) ?_)
 case clen=>simp
 case csz=>rw[EH];exact FB (ay (by lia))
 case celt=>
  intro C s' H' fp j x y hx hy;rw[Fh]at hy;obtain⟨e,he,me,rfl,rfl⟩:=cH hx hy;exact (aw (aa 2 rfl) ag rfl rfl)
 refine af (aI (i:=3) cN.nd rfl (Or.inl rfl) (aq (jF rfl (ns:=z.map λe=>e.1.1*e.2)) rfl T.aa7 Nn (ac (EvN.ev (dj (ys:=((z.map λe=>e.1.1*e.2).map U.int)) rfl (blk (ak eo) ["pairs","many","pair","x"] [2] rfl rfl rfl rfl (by decide+kernel)) (bQ (aa 0 rfl) (.inl rfl)) (λ_ _ _ _=>aQ (i:=2) cN.nd rfl (Or.inl rfl)) (bM (by decide)) ?clen ?csz (λ_ _=>trivial) ?celt)) aj ci)) ?_)
 case clen=>simp
 case csz=>rw[EH];exact FB (ay (by lia))
 case celt=>
  intro C s' H' fp j x y hx hy;rw[Fh]at hy;obtain⟨e,he,me,rfl,rfl⟩:=cH hx hy;have h1:=(hs e me).1.1;have h2:=(hs e me).2;exact (aZ (aw (aw (aa 2 rfl) ag rfl rfl) ag rfl rfl) (aw (aa 2 rfl) ag rfl rfl) (by walk_at"mul"))
 refine af (a_ (bo (ar (aa 1 rfl) (ar (bo (ar (aa 3 rfl) (ar (aq (jF rfl (ns:=z.map λe=>e.1.2*e.2)) rfl T.aa7 Nn (ac (EvN.ev (dj (ys:=((z.map λe=>e.1.2*e.2).map U.int)) rfl (blk (ak eo) ["pairs","many","pair","x"] [2] rfl rfl rfl rfl (by decide+kernel)) (bQ (aa 0 rfl) (.inl rfl)) (λ_ _ _ _=>aQ (i:=2) cN.nd rfl (Or.inl rfl)) (bM (by decide)) ?clen ?csz (λ_ _=>trivial) ?celt)) aj ci)) bg aX) ai)) bg dL) ai)) ?_)
 case clen=>simp
 case csz=>rw[EH];exact FB (ay (by lia))
 case celt=>
  intro C s' H' fp j x y hx hy;rw[Fh]at hy;obtain⟨e,he,me,rfl,rfl⟩:=cH hx hy;have h1:=(hs e me).1.2;have h2:=(hs e me).2;exact (aZ (aw (aw (aa 2 rfl) ag rfl rfl) ag rfl rfl) (aw (aa 2 rfl) ag rfl rfl) (by walk_at"mul"))
 exact rfl
def ri:List U->Out->Prop:=λus o=>∃z:List ST3.PQ,us=[.lst (z.map qU)]/\z.length<=3/\(∀e∈z,1<=e.2)/\o=.val (.bl true)
theorem lf(T:Txt w K mg):ba P w K mg base (CXF P w) 2 T.aav.a T.aav.d ["found"] (spU K (ri)):=by
 refine aV T.aav.F gP (λus o h=>?_) (λPp A outer s H E O us o hr h=>?_)
 ·obtain⟨z,rfl,hl,h1,rfl⟩:=h;rfl
 obtain⟨z,rfl,hl,h1,rfl⟩:=h;refine Ws.nox ?_;have hm:((z.map qU).length:Int)=(z.length:Int):=by rw[EH]
 refine af (bv (Tw.t (jL (fo (eI (aq (cW (by intro _ h;cases h) (L2.kit_list_list _)) rfl T.aai Hk (ac (aa 0 rfl) (ac (nY rfl T.aaG HQ) aj ai) ai)))) (λhz=>(ja (aA fE (aq (bn rfl) rfl T.aac E8 (ac (aa 0 rfl) aj ai)) ag))))) (show (!true ||decide (((z.map qU).length:Int) >3))=false by rw[hm,decide_eq_false (by lia)];rfl) (aB ?_))
 refine af (dJ (λ_:Unit=>[some (.val (.lst (z.map qU))),none]) (λ_ _=>True) rfl PassesOwn.never (bQ (aa 0 rfl) (.inl rfl)) ?h0 ?hs ?hd)
 case h0=>exact⟨(),trivial,rfl,trivial⟩
 case hs=>
  rintro H0 i y _ hy _;rw[ES]at hy;obtain⟨e,he,rfl⟩:=HH.mp hy;have e1:=h1 e (E5 he);refine⟨_,(eu (i:=1) gP.nd rfl (Or.inl rfl)),?_⟩;refine af (bv (Tw.t (jL (fo (eI (aq (cW (by intro _ h;cases h) (by walk_at"kit")) rfl T.aai Hk (ac (aa 1 rfl) (ac (nY rfl T.aa2 MZ) aj ai) ai)))) (λhz=>(jL (aA kw (aq (bn rfl) rfl T.aac E8 (ac (aa 1 rfl) aj ai)) ag) (λhz=>(jL (fo (eI (ax ((e8 T).mono (by decide)) hr rfl T.aad.m T.aad.F.kp T.aad.b au (ac (aw (aa 1 rfl) ag rfl rfl) aj aH) ⟨_,rfl,rfl⟩))) (λhz=>(ja (aA e_ (aw (aa 1 rfl) ag rfl rfl) ag))))))))) (show (!true || (!decide ((2:Int)=2) || (!true ||decide (e.2<1))))=false by rw[decide_eq_false (show ¬ e.2<1 by lia)];rfl) (aB ?_))
  refine af (bv (Tw.t (jL (fo (eI (aq (cW (by intro _ h;cases h) (by walk_at"kit")) rfl T.aai Hk (ac (aw (aa 1 rfl) ag rfl rfl) (ac (nY rfl T.aa2 MZ) aj ai) aH)))) (λhz=>(ja (aA kw (aq (bn rfl) rfl T.aac E8 (ac (aw (aa 1 rfl) ag rfl rfl) aj aH)) ag))))) (show (!true || !decide ((2:Int)=2))=false by rfl) (aB ?_))
  refine af (bv (Tw.t (jL (fo (eI (ax ((e8 T).mono (by decide)) hr rfl T.aad.m T.aad.F.kp T.aad.b au (ac (aw (aw (aa 1 rfl) ag rfl rfl) ag rfl rfl) aj aH) ⟨_,rfl,rfl⟩))) (λhz=>(ja (fo (eI (ax ((e8 T).mono (by decide)) hr rfl T.aad.m T.aad.F.kp T.aad.b au (ac (aw (aw (aa 1 rfl) ag rfl rfl) ag rfl rfl) aj aH) ⟨_,rfl,rfl⟩))))))) rfl (aB (aB ?_)))
  exact⟨(),trivial,rfl,trivial⟩
 case hd=>
  rintro _ ps _ PU;refine c7 ?_ PU;refine af (a_ z_ ?_);exact rfl
def qN:List U->Out->Prop:=λus o=>∃(l:List P2) (ps:List (List P2)),us=[lp l,.lst (ps.map plU)]/\l.length<=60/\(∃q∈ps,∀p∈l,p∈q)/\o=.val (.bl true)
def inQ(l q:List P2):List (Option U):=l.map λp=>if p∈q then some (pu p) else none
theorem tw{l q:List P2}(h:∀p∈l,p∈q):((inQ l q).filterMap id).length=l.length:=by
 unfold inQ
 induction l with
 |nil=>rfl
 |cons a l ih=>
  rw[E2,if_pos (h a ET)];show _+1=_;rw[ih λp hp=>h p (EJ _ hp)];rfl
theorem kU(T:Txt w K mg):ba P w K mg base (CXF P w) 1 T.aas.a T.aas.d ["spots","some"] (spU K (qN)):=by
 refine aV T.aas.F eE (λus o h=>?_) (λPp A outer s H E O us o hr h=>?_)
 ·obtain⟨l,qs,rfl,hl,⟨q,mq,hq⟩,rfl⟩:=h;rfl
 obtain⟨l,qs,rfl,hl,⟨q,mq,hq⟩,rfl⟩:=h;refine Ws.nox ?_;have hm:((l.map pu).length:Int)=(l.length:Int):=by rw[EH]
 obtain⟨n,hn⟩:=FK.mp mq;refine af (dJ (λ_:Unit=>[some (.val (lp l)),some (.val (.lst (qs.map plU))),none,none]) (λi _=>i<=n) rfl PassesOwn.never (bQ (aa 1 rfl) (.inl rfl)) ?h0 ?hs ?hd)
 case h0=>exact⟨(),FU _,rfl,rfl,trivial⟩
 case hs=>
  rintro H0 i y _ hy hi;rw[ES]at hy;obtain⟨r,Rm,rfl⟩:=HH.mp hy;refine⟨_,(eu (i:=2) eE.nd rfl (Or.inr rfl)),?_⟩;refine af (jJ (aA bG (aq (bn rfl) rfl T.aac E8 (ac (EvN.ev (jt (inQ l r) rfl (blk (ak eZ) ["spots","some","piece","spot"] [3] rfl rfl rfl rfl (by decide+kernel)) (bQ (aa 0 rfl) (.inl rfl)) (λ_ _ _ _=>aQ (i:=3) eE.nd rfl (Or.inl rfl)) (bM (by decide)) ?clen ?csz (λ_ _=>trivial) ?ctest ?celt)) aj ci)) (aq (bn rfl) rfl T.aac E8 (ac (aa 0 rfl) aj ai))) (λhT=>?_) (λhF=>(aB (aB ?_))))
  case clen=>unfold inQ;simp
  case csz=>rw[EH];exact FB (ay (by lia))
  case ctest=>
   intro C s' H' fp j z o hz ho;obtain⟨p,hp,mp,rfl⟩:=kJ hz;unfold inQ at ho;rw[ES,hp]at ho;cases ho
   have key:(if p∈r then some (pu p) else none).isSome=decide (p∈r):=by
    by_cases h:p∈r
    ·rw[if_pos h,decide_eq_true h];rfl
    ·rw[if_neg h,decide_eq_false h];rfl
   rw[key];exact (aA (CO (eK hr)) (aa 3 rfl) (aa 2 rfl))
  case celt=>
   intro C s' H' fp j z y hz hy;obtain⟨p,hp,mp,rfl⟩:=kJ hz;unfold inQ at hy;rw[ES,hp]at hy;by_cases h:p∈r
   ·rw[HG,if_pos h]at hy;cases hy;exact (aa 3 rfl)
   ·rw[HG,if_neg h]at hy;cases hy
  ·refine af (a_ z_ ?_);exact rfl
  ·refine⟨(),?_,rfl,rfl,trivial⟩;rcases GH i n with z |z
   ·exact z
   ·exfalso
    have e:i=n:=by lia
    subst e;rw[hn]at Rm;cases Rm;have:=dFb hF;rw[hm,tw hq]at this;exact this rfl
 case hd=>
  rintro _ ps RM PU
  exfalso
  rw[EH]at RM;have:=aF hn;lia
structure C7(l:List P2):Prop where
 len:l.length<=3
 asc:l.Pairwise plt
 two:∀a b,l=[a,b]->HF (b.1-a.1) (b.2-a.2)=1
 three:∀a b c,l=[a,b,c]->ae a b c=1\/ae a b c=-1
theorem Da{a b:P2}(h:plt a b):ST.leP b a=false:=by
 unfold plt at h;unfold ST.leP;simp;lia
def uG:List U->Out->Prop:=λus o=>∃l:List P2,us=[lp l]/\C7 l/\(∀p∈l,Szp 2500 p)/\o=.val (.bl true)
theorem ov(T:Txt w K mg):ba P w K mg base (CXF P w) 2 T.aaA.a T.aaA.d ["spots"] (spU K (uG)):=by
 refine aV T.aaA.F ii (λus o h=>?_) (λPp A outer s H E O us o hr h=>?_)
 ·obtain⟨l,rfl,⟨h3,asc,g2,g3⟩,sz,rfl⟩:=h;rfl
 obtain⟨l,rfl,⟨h3,asc,g2,g3⟩,sz,rfl⟩:=h;refine Ws.nox ?_;have hm:((l.map pu).length:Int)=(l.length:Int):=by rw[EH]
 refine af (dJ (λ_:Unit=>[some (.val (lp l)),none]) (λ_ _=>True) rfl PassesOwn.never (kR rfl T.aaX (ac (bw (aq (bn rfl) rfl T.aac E8 (ac (aa 0 rfl) aj ai)) ag) aj bp) (by rw[hm];lia) (by rw[hm];lia)) ?h0 ?hs ?hd)
 case h0=>exact⟨(),trivial,rfl,trivial⟩
 case hs=>
  rintro H0 i x _ hx _;obtain⟨hi,rfl⟩:=dt hx;have Pu:i+1<l.length:=by rw[hm]at hi;lia
  refine⟨_,(eu (i:=1) ii.nd rfl (Or.inl rfl)),?_⟩
  have lt:plt (gp l i) (gp l (i+1)):=by
   have:=FG.mp asc i (i+1) (by lia) Pu (by lia)
   simpa [gp,Pu,show i<l.length by lia] using this
  refine af (bv (aA (oS (eK hr)) (aw (aa 0 rfl) (cA (aa 1 rfl) ag) rfl (fU (i:=i+1) (by lia) Pu)) (aw (aa 0 rfl) (aa 1 rfl) rfl (fU (i:=i) (by lia) (by lia)))) (Da lt) (aB (aB ?_)))
  exact⟨(),trivial,rfl,trivial⟩
 case hd=>
  rintro _ ps _ PU;refine c7 ?_ PU
  match l,h3,g2,g3,sz,hm with
  |[],_,_,_,_,_=>
   refine af (bv (aA bG (aq (bn rfl) rfl T.aac E8 (ac (aa 0 rfl) aj ai)) ag) rfl (aB ?_));refine af (a_ (AW (eM e_ (aq (bn rfl) rfl T.aac E8 (ac (aa 0 rfl) aj ai)) ag) rfl) ?_);exact rfl
  |[a],_,_,_,_,_=>
   refine af (bv (aA bG (aq (bn rfl) rfl T.aac E8 (ac (aa 0 rfl) aj ai)) ag) rfl (aB ?_));refine af (a_ (AW (eM e_ (aq (bn rfl) rfl T.aac E8 (ac (aa 0 rfl) aj ai)) ag) rfl) ?_);exact rfl
  |[a,b],_,g2,_,sz,_=>
   have za:=sz a (by simp)
   have zb:=sz b (by simp)
   refine af (df (aA bG (aq (bn rfl) rfl T.aac E8 (ac (aa 0 rfl) aj ai)) ag) rfl ?_);refine af (a_ (eM bG (ax ((jh T).mono (by decide)) hr rfl T.aao.m T.aao.F.kp T.aao.b au (ac (bw (aw (aw (aa 0 rfl) ag rfl rfl) ag rfl rfl) (aw (aw (aa 0 rfl) ag rfl rfl) ag rfl rfl)) (ac (bw (aw (aw (aa 0 rfl) ag rfl rfl) ag rfl rfl) (aw (aw (aa 0 rfl) ag rfl rfl) ag rfl rfl)) aj bp) bp) ⟨b.1-a.1,b.2-a.2,rfl,rfl⟩) ag) ?_)
   exact vB (by rw[g2 a b rfl];rfl)
  |[a,b,c],_,_,g3,sz,_=>
   have za:=sz a (by simp)
   have zb:=sz b (by simp)
   have zc:=sz c (by simp)
   refine af (bv (aA bG (aq (bn rfl) rfl T.aac E8 (ac (aa 0 rfl) aj ai)) ag) rfl (aB ?_));refine af (a_ (DP (eM e_ (aq (bn rfl) rfl T.aac E8 (ac (aa 0 rfl) aj ai)) ag) (λhz=>(lG (eM bG (aq l9 rfl T.aa5 PyProof.Rows.boot_abs (ac (ax ((dW T).mono (by decide)) hr rfl T.aab.m T.aab.F.kp T.aab.b au (ac (aw (aa 0 rfl) ag rfl rfl) (ac (aw (aa 0 rfl) ag rfl rfl) (ac (aw (aa 0 rfl) ag rfl rfl) aj aH) aH) aH) ⟨a,b,c,rfl,za.mono (by decide),zb.mono (by decide),zc.mono (by decide),rfl⟩) aj aX)) ag)))) ?_)
   refine vB ?_;rcases g3 a b c rfl with e |e <;>rw[e] <;>rfl
  |a::b::c::d::r,h3,_,_,_,_=>simp at h3
def nT(ns:List Int):Nat:=(eN ns-6)/2
def tT(c:Int):Int:=if c%7=1 then 1+c*48271%10 ^ (20:Int).toNat else 1+c/49%3
theorem Bg(c:Int):1<=tT c/\Sz 100 (tT c):=by
 have e:(10:Int) ^ (20:Int).toNat=100000000000000000000:=by decide+kernel
 unfold tT Sz;rw[e];generalize c*48271=z;split <;>lia
def tkE(ns:List Int)(sp:List P2)(i:Nat):ST3.PQ:=(gp sp (cel ns (7+(i:Int) *2)/7%(sp.length:Int)).toNat,tT (cel ns (7+(i:Int) *2)))
def tkL(ns:List Int)(sp:List P2):List ST3.PQ:=(Fz (nT ns)).map (tkE ns sp)
def qH:List U->Out->Prop:=λus o=>∃(ns:List Int) (sp:List P2),us=[.scr (ns.map U.int),lp sp]/\ns.length<=63/\(∀m∈ns,Sz 1048576 m)/\sp≠[]/\sp.length<=60/\o=.new ((tkL ns sp).map qU)
theorem lg(T:Txt w K mg):ba P w K mg base (CXF P w) 2 T.aax.a T.aax.d ["script","spots"] (spU K (qH)):=by
 refine aV T.aax.F b_ (λus o h=>?_) (λPp A outer s H E O us o hr h=>?_)
 ·obtain⟨ns,sp,rfl,hl,hB,Pn,Rl,rfl⟩:=h;rfl
 obtain⟨ns,sp,rfl,hl,hB,Pn,Rl,rfl⟩:=h;refine Ws.nox ?_;have hE:=tY ns;have h0:0<sp.length:=FH.mpr Pn;have hm:((sp.map pu).length:Int)=(sp.length:Int):=by rw[EH]
 have hmm:e9 7 (eN ns:Int) 2=nT ns:=by
  unfold e9 nT;rw[if_pos (by lia)]
  lia
 have hN:nT ns<=27:=by unfold nT;lia
 refine af (eQ (i:=2) b_.nd rfl (Or.inl rfl) (dg bg) ?_);refine af (dJ (λi:Nat=>[some (.val (.scr (ns.map U.int))),some (.val (lp sp)),some (.own (((Fz i).map (tkE ns sp)).map qU)),none,none,none]) (λi j=>i=j) rfl PassesOwn.never (p6 rfl T.aaX (ac ag (ac (ax ((iq T).mono (by decide)) hr rfl T.aal.m T.aal.F.kp T.aal.b au (ac (aa 0 rfl) aj ai) ⟨ns,rfl,rfl⟩) (ac ag aj bC) aX) bC) (by lia)) ?h0 ?hs ?hd)
 case h0=>exact⟨0,rfl,rfl,rfl,rfl,trivial⟩
 case hs=>
  rintro H0 i x _ hx rfl;rw[hmm]at hx;obtain⟨hi,rfl⟩:=iZ hx;have Pu:i<27:=by lia
  refine⟨_,(eu (i:=3) b_.nd rfl (Or.inl rfl)),?_⟩;have cz:=f8 hB (k:=7+(i:Int) *2) (by lia) (by lia)
  have PF:((Fz i).map (tkE ns sp)).map qU++[qU (tkE ns sp i)]=((Fz (i+1)).map (tkE ns sp)).map qU:=by
   rw[IB,FC,FC];rfl
  have ll:(((Fz i).map (tkE ns sp)).map qU).length=i:=by simp
  have ek:tkE ns sp i=(gp sp (cel ns (7+(i:Int) *2)/7%(sp.length:Int)).toNat,tT (cel ns (7+(i:Int) *2))):=rfl;refine af (aI (i:=4) b_.nd rfl (Or.inl rfl) (ax ((bI T).mono (by decide)) hr rfl T.aaa.m T.aaa.F.kp T.aaa.b au (ac (aa 0 rfl) (ac (aa 3 rfl) aj ai) ai) ⟨ns,_,rfl,hl,by lia,by lia,rfl⟩) ?_)
  rw[ek]at PF;generalize cel ns (7+(i:Int) *2)=c at *;generalize ((Fz i).map (tkE ns sp)).map qU=W at *;refine af (aI (i:=5) b_.nd rfl (Or.inl rfl) (cA ag (cP (fA (aa 4 rfl) ag (by walk_at"div")) ag (by walk_at"mod"))) ?_)
  refine iP (λps=>SubP [some (.val (.scr (ns.map U.int))),some (.val (lp sp)),some (.own W),some (.val (.int (7+(i:Int) *2))),some (.val (.int c)),some (.val (.int (tT c)))] ps) (jJ (aA bG (cP (aa 4 rfl) ag (by walk_at"mod")) ag) (λhT=>?_) (λhF=>(aB ?_))) ?hj
  ·refine af (aI (i:=5) b_.nd rfl (Or.inl rfl) (cA ag (cP (aZ (aa 4 rfl) ag (by walk_at"mul")) (v8 ag ag ⟨by decide,by decide,by decide⟩) (by decide+kernel))) (aB ?_))
   refine⟨rfl,rfl,rfl,rfl,rfl,?_,trivial⟩;exact congrArg (λz=>some (Sl.val (.int z))) (by unfold tT;rw[if_pos (dTb hT)])
  ·refine⟨rfl,rfl,rfl,rfl,rfl,?_,trivial⟩;exact congrArg (λz=>some (Sl.val (.int z))) (by unfold tT;rw[if_neg (dFb hF)])
  case hj=>
   intro ps PU;refine c7 ?_ PU;have m1:=Hg (c/7) (show (sp.length:Int)≠0 by lia)
   have m2:=GG (c/7) (show (0:Int)<sp.length by lia)
   refine af (ck 2 rfl (bo (ar (aw (aa 1 rfl) (cP (fA (aa 4 rfl) ag (by walk_at"div")) (aq (bn rfl) rfl T.aac E8 (ac (aa 1 rfl) aj ai)) (by rw[hm];lia)) rfl (fU (i:=(c/7%(sp.length:Int)).toNat) (by rw[hm];lia) (by lia))) (ar (aa 5 rfl) bg ai) aH)) (by rw[ll];exact ay (by lia)) (aB ?_))
   refine⟨i+1,rfl,rfl,rfl,?_,trivial⟩;exact congrArg (λl=>some (Sl.own l)) PF
 case hd=>
  rintro q ps hq PU;refine c7 ?_ PU;rw[eS,hmm]at hq;subst hq;refine af (eX 2 rfl ?_);exact rfl
theorem u7{l m:List Int}(h:l.Perm m):l.sum=m.sum:=by
 induction h with
 |nil=>rfl
 |cons x _ ih=>rw[FW,FW,ih]
 |swap x y l=>simp only[FW];lia
 |trans _ _ h1 h2=>exact h1.trans h2
theorem xo{l:List ST3.PQ}(h:l.Nodup):(SG.srt ST3.KQ l).Perm l:=by
 refine (Gj ?_ h).mpr λz=>SG.srt_mem _ z l
 exact (SG.srt_asc ST3.KQ l).imp λ{a b} h e=>by subst e;rw[SG.irr]at h;cases h
theorem wb(k:Int)(a b d x:P2):dk k b d x+dk k d a x+dk k a b x=k*ae a b d:=by unfold dk ae;grind
theorem CZ(k:Int)(a b d x:P2):a.1*dk k b d x+b.1*dk k d a x+d.1*dk k a b x=x.1*ae a b d/\a.2*dk k b d x+b.2*dk k d a x+d.2*dk k a b x=x.2*ae a b d:=by
 unfold dk ae;constructor <;>grind
theorem ua{α:Type}(f:α->Int)(g:α->Int)(h:∀e,g e=0->f e=0):∀l:List α,(∀e∈l,0<=g e)->((l.filter λe=>decide (0<g e)).map f).sum=(l.map f).sum
 |[],_=>rfl
 |e::l,hl=>by
  have ih:=ua f g h l λz hz=>hl z (EJ _ hz)
  have h0:=hl e ET;rw[JZ,E2,FW];by_cases k:0<g e
  ·rw[if_pos (by simpa using k),E2,FW,ih]
  ·rw[if_neg (by simpa using k),ih,h e (by lia)];lia
theorem zg{u1 u2 v1 v2:Int}(h:u1*v2-u2*v1=1\/u1*v2-u2*v1=-1):HF u1 u2=1:=by
 have d1:((HF u1 u2:Nat):Int) ∣ u1:=I0 ..;have d2:((HF u1 u2:Nat):Int) ∣ u2:=II ..
 have:((HF u1 u2:Nat):Int) ∣ 1:=by
  have e:=Kc (Li (c:=v2) d1) (Li (c:=v1) d2);rcases h with h |h
  ·rwa [h]at e
  ·rw[h]at e;exact (Ld).mp e
 have:=Int.eq_one_of_dvd_one (by lia) this
 lia
theorem ph{a b d p q r:P2}(hd:ae a b d=1)(hn:[p,q,r].Nodup)(hs:∀z∈[p,q,r],z∈[a,b,d]):ae p q r=1\/ae p q r=-1:=by
 have e1:ae a d b=-1:=by have:ae a d b=-ae a b d:=by unfold ae;grind
                         lia
 have e2:ae b a d=-1:=by have:ae b a d=-ae a b d:=by unfold ae;grind
                         lia
 have e3:ae d b a=-1:=by have:ae d b a=-ae a b d:=by unfold ae;grind
                         lia
 have e4:ae b d a=1:=by have:ae b d a=ae a b d:=by unfold ae;grind
                        lia
 have e5:ae d a b=1:=by have:ae d a b=ae a b d:=by unfold ae;grind
                        lia
 have hp:=hs p (by simp)
 have hq:=hs q (by simp)
 have hr:=hs r (by simp)
 simp only[EO,Fo,or_false]at hp hq hr;simp only[Gw,EO,Fo,or_false,not_or,Mn,and_true,not_false_iff]at hn;obtain⟨⟨n1,n2⟩,n3⟩:=hn;rcases hp with rfl |rfl |rfl <;>rcases hq with rfl |rfl |rfl <;>rcases hr with rfl |rfl |rfl <;>first |exact absurd rfl n1 |exact absurd rfl n2 |exact absurd rfl n3 |lia
theorem wn{a b d p q:P2}(hd:ae a b d=1)(hn:p≠q)(hp:p∈[a,b,d])(hq:q∈[a,b,d]):HF (q.1-p.1) (q.2-p.2)=1:=by
 simp only[EO,Fo,or_false]at hp hq;have key:∀r:P2,(ae p q r=1\/ae p q r=-1)->HF (q.1-p.1) (q.2-p.2)=1:=λr h=>zg (v1:=r.1-p.1) (v2:=r.2-p.2) (by unfold ae at h;exact h)
 have nd:[a,b,d].Nodup:=by
  have z1:a≠b:=fun e=>by subst e;have:ae a a d=0:=by unfold ae;grind
                         lia
  have z2:a≠d:=fun e=>by subst e;have:ae a b a=0:=by unfold ae;grind
                         lia
  have z3:b≠d:=fun e=>by subst e;have:ae a b b=0:=by unfold ae;grind
                         lia
  simp[z1,z2,z3]
 have third:∃r∈[a,b,d],r≠p/\r≠q:=by
  simp only[Gw,EO,Fo,or_false,not_or]at nd;obtain⟨⟨n1,n2⟩,n3,_⟩:=nd;rcases hp with rfl |rfl |rfl <;>rcases hq with rfl |rfl |rfl
  ·exact absurd rfl hn
  ·exact⟨d,by simp,Ne.symm n2,Ne.symm n3⟩
  ·exact⟨b,by simp,Ne.symm n1,n3⟩
  ·exact⟨d,by simp,Ne.symm n3,Ne.symm n2⟩
  ·exact absurd rfl hn
  ·exact⟨a,by simp,n1,n2⟩
  ·exact⟨b,by simp,n3,Ne.symm n1⟩
  ·exact⟨a,by simp,n2,n1⟩
  ·exact absurd rfl hn
 obtain⟨r,mr,r1,r2⟩:=third;refine key r (ph hd (p:=p) (q:=q) (r:=r) (by simp[hn,Ne.symm r1,Ne.symm r2]) λz hz=>?_)
 simp only[EO,Fo,or_false]at hz |-;rcases hz with rfl |rfl |rfl
 ·exact hp
 ·exact hq
 ·simpa using mr
structure C4(c:List P2)(k:Int)(x:P2)(z:List ST3.PQ):Prop where
 n:sN z=k
 x1:sX z=x.1
 y1:sY z=x.2
 len:z.length<=3
 pos:∀e∈z,1<=e.2
 mem:∀e,e∈z↔e∈wts c k x/\0<e.2
 near:C7 (z.map (·.1))
theorem iG{a b d x:P2}{k:Int}(hd:ae a b d=1)(w1:0<=dk k b d x)(w2:0<=dk k d a x)(w3:0<=dk k a b x):C4 [a,b,d] k x (dr [a,b,d] k x):=by
 have z1:a≠b:=fun e=>by subst e;have:ae a a d=0:=by unfold ae;grind
                        lia
 have z2:a≠d:=fun e=>by subst e;have:ae a b a=0:=by unfold ae;grind
                        lia
 have z3:b≠d:=fun e=>by subst e;have:ae a b b=0:=by unfold ae;grind
                        lia
 have hw:wts [a,b,d] k x=[(a,dk k b d x),(b,dk k d a x),(d,dk k a b x)]:=rfl;have ndw:(wts [a,b,d] k x).Nodup:=by rw[hw];simp[z1,z2,z3]
 have nn:∀e∈wts [a,b,d] k x,0<=e.2:=λe he=>by
  rw[hw]at he;simp only[EO,Fo,or_false]at he;rcases he with rfl |rfl |rfl
  ·exact w1
  ·exact w2
  ·exact w3
 have ndf:=ndw.sublist (Ke (p:=λz:P2×Int=>decide (0<z.2)))
 have pm:=xo ndf
 have mem:∀e,e∈dr [a,b,d] k x↔e∈wts [a,b,d] k x/\0<e.2:=λe=>by
  unfold dr;rw[pm.mem_iff,F4];simp
 have sm:∀f:P2×Int->Int,(∀e,e.2=0->f e=0)->((dr [a,b,d] k x).map f).sum=f (a,dk k b d x)+f (b,dk k d a x)+f (d,dk k a b x):=λf hf=>by
  unfold dr;rw[u7 (pm.map f)];have:=ua f (λe=>e.2) hf (wts [a,b,d] k x) nn
  rw[this,hw];simp;lia
 have s0:=wb k a b d x;obtain⟨s1,s2⟩:=CZ k a b d x;rw[hd]at s0 s1 s2;have asc:=SG.srt_asc ST3.KQ ((wts [a,b,d] k x).filter λz=>decide (0<z.2))
 have sub:∀p∈(dr [a,b,d] k x).map (·.1),p∈[a,b,d]:=λp hp=>by
  obtain⟨e,he,rfl⟩:=ER.mp hp;have:=((mem e).mp he).1;rw[hw]at this;simp only[EO,Fo,or_false]at this |-;rcases this with rfl |rfl |rfl <;>simp
 have one:∀e∈wts [a,b,d] k x,∀e'∈wts [a,b,d] k x,e.1=e'.1->e=e':=λe he e' he' h=>by
  rw[hw]at he he';simp only[EO,Fo,or_false]at he he';rcases he with rfl |rfl |rfl <;>rcases he' with rfl |rfl |rfl <;>first |rfl |exact absurd h z1 |exact absurd h z2 |exact absurd h z3 |exact absurd h (Ne.symm z1) |exact absurd h (Ne.symm z2) |exact absurd h (Ne.symm z3)
 have pl:((dr [a,b,d] k x).map (·.1)).Pairwise plt:=by
  refine FF.mpr (Je (λ{e e'} he he' h=>?_) asc)
  have m1:=((mem e).mp he).1;have m2:=((mem e').mp he').1;have h':ST3.ltQ e e'=true:=h;unfold ST3.ltQ at h';by_cases q:e.1=e'.1
  ·have:=one e m1 e' m2 q;subst this;rw[if_pos rfl]at h';simp at h'
  ·rw[if_neg q]at h';exact (eF _ _).mpr h'
 have len:(dr [a,b,d] k x).length<=3:=by
  unfold dr;rw[pm.length_eq];exact Gs (Hm _ _) (by rw[hw];simp)
 refine⟨?_,?_,?_,len,λe he=>by have:=((mem e).mp he).2;lia,mem,⟨by rw[EH];exact len,pl,λp q e=>?_,λp q r e=>?_⟩⟩
 ·unfold sN;rw[sm (λe=>e.2) λe h=>h]
  dsimp only;lia
 ·unfold sX;rw[sm (λe=>e.1.1*e.2) λe h=>by rw[h];simp]
  dsimp only;lia
 ·unfold sY;rw[sm (λe=>e.1.2*e.2) λe h=>by rw[h];simp]
  dsimp only;lia
 ·rw[e]at pl sub;have ne:p≠q:=λz=>by subst z;exact aG p ((Fi.mp pl).1 p (by simp))
  exact wn hd ne (sub p (by simp)) (sub q (by simp))
 ·rw[e]at pl sub;refine ph hd ?_ sub;exact pl.imp λ{a b} h e=>by subst e;exact aG a h
def CX(s k:Int)(x:P2):List P2->Prop
 |b::a::r=>s*dk k a b x<=0/\CX s k x (a::r)
 |_=>True
def Beh(l:List P2)(P x:P2)(k:Int)(u v:P2):Prop:=u∈l/\v∈l/\plt u v/\∃D α β γ:Int,0<D/\0<=α/\0<=β/\γ<0/\∀c d:P2,D*dk k c d x=γ*ae c d P+α*ae c d u+β*ae c d v
theorem fan{s:Int}(hs:s=1\/s=-1){l:List P2}{P x:P2}{k:Int}(hP:∀q∈l,plt q P):∀st:List P2,DW s l st P->∀b r,st=b::r->0<=s*dk k b P x->CX s k x (P::bL s P st)->
  (∃t∈cT s P st,0<=s*dk k t.1 t.2.1 x/\0<=s*dk k t.2.1 t.2.2 x/\0<=s*dk k t.2.2 t.1 x)\/(∃u v,Beh l P x k u v/\0<s*ae u v P)\/(bL s P st=st/\s*dk k b P x<=0)
 |[],D,b,r,e,_,_=>by cases e
 |[c],D,b,r,e,h,hc=>by
  cases e;exact .inr (.inr ⟨rfl,hc.1⟩)
 |b::a::r',D,c,r,e,h,hc=>by
  cases e;by_cases h0:0<s*ae a b P
  ·have nx:=oy hs hP D h0;have key:∀c d:P2,s*ae a b P*dk k c d x=s*dk k a b x*ae c d P+s*dk k b P x*ae c d a+s*dk k P a x*ae c d b:=λc d=>by unfold dk ae;grind
   have eP:s*dk k P a x=-(s*dk k a P x):=by unfold dk;grind
   rw[bL,if_pos h0]at hc;rw[bL,cT,if_pos h0,if_pos h0];by_cases h1:s*dk k a P x<=0
   ·by_cases h2:0<=s*dk k a b x
    ·exact .inl ⟨(a,b,P),by simp,h2,h,by dsimp only;lia⟩
    ·exact .inr (.inl ⟨a,b,⟨D.sub a (by simp),D.sub b (by simp),D.desc.1,_,_,_,_,h0,h,(show 0<=s*dk k P a x by lia),(show s*dk k a b x<0 by lia),key⟩,h0⟩)
   ·rcases fan hs hP (a::r') nx a r' rfl (by lia) hc with ⟨t,ht,z⟩ |z |⟨_,z⟩
    ·exact .inl ⟨t,EJ _ ht,z⟩
    ·exact .inr (.inl z)
    ·lia
  ·rw[bL,if_neg h0]at hc |-;exact .inr (.inr ⟨rfl,hc.1⟩)
theorem tZ{s:Int}{l:List P2}{P x u v:P2}{k:Int}(B:Beh l P x k u v):∀st:List P2,u_ s l st->CX s k x (bL s P st)->CX s k x st
 |[],_,_=>trivial
 |[_],_,_=>trivial
 |b::a::r,C,h=>by
  by_cases h0:0<s*ae a b P
  ·rw[bL,if_pos h0]at h;refine⟨?_,tZ B (a::r) C.2 h⟩;obtain⟨mu,mv,_,D,α,β,γ,hD,ha,hb,hg,key⟩:=B;have c1:=(C.1 u mu).1;have c2:=(C.1 v mv).1
   have e:D*(s*dk k a b x)=γ*(s*ae a b P)+α*(s*ae a b u)+β*(s*ae a b v):=by
    have:=congrArg (λz=>s*z) (key a b)
    grind
   have n1:=FM ha c1;have n2:=FM hb c2;have n3:=GN hg h0;rcases FO 0 (s*dk k a b x) with z |z
   ·have:=FD hD z;lia
   ·exact z
  ·rw[bL,if_neg h0]at h;exact h
theorem nK{a b a' b':P2}(h:plt a b)(h':plt a' b')(e1:ae a b a'=0)(e2:ae a b b'=0):∃p q:Int,0<p/\0<q/\∀(k:Int) (x:P2),p*dk k a' b' x=q*dk k a b x:=by
 have l1:=aD h;have l2:=aD h';have f1:(b.1-a.1) *(b'.2-a'.2)=(b.2-a.2) *(b'.1-a'.1):=by unfold ae at e1 e2;grind
 have f2:(b.1-a.1) *(a'.2-a.2)=(b.2-a.2) *(a'.1-a.1):=by unfold ae at e1;grind
 unfold bU at l1 l2;rcases l1 with z |⟨z,z2⟩
 ·have w:0<b'.1-a'.1:=by
   rcases l2 with y |⟨y,y2⟩
   ·exact y
   ·rw[y,G6]at f1;have:=FD z y2;lia
  refine⟨b.1-a.1,b'.1-a'.1,z,w,λk x=>?_⟩
  unfold dk;grind
 ·have y:b'.1-a'.1=0:=by
   rw[z,Hj]at f1;rcases Fp.mp f1.symm with y |y
   ·lia
   ·exact y
  have w:0<b'.2-a'.2:=by lia
  refine⟨b.2-a.2,b'.2-a'.2,z2,w,λk x=>?_⟩
  unfold dk;grind
theorem de(a b q:P2):dk 1 a b q=ae a b q:=by unfold dk ae;grind
theorem zu{k:Int}{x:P2}:∀row:List P2,row.Pairwise plt->(∀s,s=1\/s=-1->CX s k x (aR s row).1)->
  (∃s t,(s=1\/s=-1)/\t∈(aR s row).2/\0<=s*dk k t.1 t.2.1 x/\0<=s*dk k t.2.1 t.2.2 x/\0<=s*dk k t.2.2 t.1 x)\/∃b P,plt b P/\(∀q∈row,ae b P q=0):=by
 refine fh (λ_ _=>.inr ⟨(0,0),(1,0),by unfold plt;simp,λq hq=>by cases hq⟩) λl P ih hr hx=>?_
 obtain⟨h1,hP⟩:=d9 hr;by_cases hl:l=[]
 ·subst hl;refine .inr ⟨P,(P.1+1,P.2),.inl (by dsimp only;lia),λq hq=>?_⟩
  have:q=P:=by simpa using hq
  subst this;unfold ae;grind
 have e2:l=l.dropLast++[l.getLast hl]:=(Gv hl).symm;have mb:l.getLast hl∈l:=Nl hl;have SA:=hP _ mb;generalize l.getLast hl=b0 at *
 have hd:∀s,(aR s l).1.head?=some b0:=λs=>by
  have:=iC s l.dropLast b0
  rwa [<-e2]at this
 have top:∀q∈l,¬ plt b0 q:=λq hq=>by
  rw[e2]at h1 hq;rcases Fx.mp hq with z |z
  ·have:=(d9 h1).2 q z;unfold plt at *;lia
  ·rw[EV.mp z];unfold plt;lia
 have KS:∀s,s=1\/s=-1->KW s l (aR s l).1:=λs hs=>l5 hs l h1 hl
 have DS:∀s,s=1\/s=-1->DW s l (aR s l).1 P:=λs hs=>⟨KS s hs,λh r e q hq Pq=>by
  have:=hd s;rw[e]at this;cases this;exact absurd Pq (top q hq)⟩
 have cxs:∀s,s=1\/s=-1->CX s k x (P::bL s P (aR s l).1):=λs hs=>by
  have:=hx s hs;rw[ca]at this;exact this
 have fanS:∀s,s=1\/s=-1->0<=s*dk k b0 P x->(∃t∈cT s P (aR s l).1,0<=s*dk k t.1 t.2.1 x/\0<=s*dk k t.2.1 t.2.2 x/\0<=s*dk k t.2.2 t.1 x)\/(∃u v,Beh l P x k u v/\0<s*ae u v P)\/(bL s P (aR s l).1=(aR s l).1/\s*dk k b0 P x<=0):=λs hs h=>by
  have h0:=hd s;cases e:(aR s l).1 with
  |nil=>rw[e]at h0;cases h0
  |cons c r=>
   rw[e]at h0;cases h0;have D:=DS s hs;have c:=cxs s hs;rw[e]at D c;exact fan hs hP (b0::r) D b0 r rfl h c
 have found:∀s,s=1\/s=-1->(∃t∈cT s P (aR s l).1,0<=s*dk k t.1 t.2.1 x/\0<=s*dk k t.2.1 t.2.2 x/\0<=s*dk k t.2.2 t.1 x)->∃s t,(s=1\/s=-1)/\t∈(aR s (l++[P])).2/\0<=s*dk k t.1 t.2.1 x/\0<=s*dk k t.2.1 t.2.2 x/\0<=s*dk k t.2.2 t.1 x:=λs hs ⟨t,ht,z⟩=>⟨s,t,hs,by
  rw[ca];exact E_ _ ht,z⟩
 have behind:∀s,s=1\/s=-1->(∃u v,Beh l P x k u v/\0<s*ae u v P)->∃s t,(s=1\/s=-1)/\t∈(aR s (l++[P])).2/\0<=s*dk k t.1 t.2.1 x/\0<=s*dk k t.2.1 t.2.2 x/\0<=s*dk k t.2.2 t.1 x:=λs hs ⟨u,v,B,hD⟩=>by
  have old:∀s,s=1\/s=-1->CX s k x (aR s l).1:=λs hs=>tZ B _ (KS s hs).cov (by
   have:=cxs s hs;cases e:bL s P (aR s l).1 with
   |nil=>trivial
   |cons c r=>rw[e]at this;exact this.2)
  rcases ih h1 old with ⟨s',t,Q8,ht,z⟩ |⟨b,c,hbc,R7⟩
  ·exact⟨s',t,Q8,by rw[ca];exact Fv _ ht,z⟩
  ·exfalso
   obtain⟨mu,mv,huv,D,α,β,γ,hD0,ha,hb,hg,key⟩:=B;have Qy:-s=1\/-s=-1:=by lia
   have K2:=KS (-s) Qy;have o2:=old (-s) Qy;have h02:=hd (-s)
   match e:(aR (-s) l).1,h02,K2,o2 with
   |[],h02,_,_=>cases h02
   |[z],h02,K2,_=>
    cases h02;have b1:=K2.bot b0 rfl u mu;have b2:=top v mv;have t1:=dw u b0;have t2:=dw v b0;unfold plt at *;rcases t1 with z |z |z <;>rcases t2 with y |y |y <;>first |lia | (subst z;lia) | (subst y;lia)
   |z::a'::r,h02,K2,o2=>
    cases h02;have ma':=K2.sub a' (by simp)
    obtain⟨p1,q1,hp1,Rf,L1⟩:=nK hbc huv (R7 u mu) (R7 v mv);obtain⟨p2,q2,hp2,PY,L2⟩:=nK hbc K2.desc.1 (R7 a' ma') (R7 b0 mb);have c2:=o2.1;have e0:=key u v;rw[(jC u v P).1,(jC u v P).2.1]at e0
    have e1:D*(s*dk k u v x)=γ*(s*ae u v P):=by
     have:=congrArg (λz=>s*z) e0
     grind
    have n1:=GN hg hD
    have n2:s*dk k u v x<0:=by
     rcases FO (s*dk k u v x) 0 with z |z
     ·exact z
     ·have:=Fc (show 0<=D by lia) z
      lia
    have f1:q1*(s*dk k b c x)=p1*(s*dk k u v x):=by have:=congrArg (λz=>s*z) (L1 k x);grind
    have f2:q2*(s*dk k b c x)=-(p2*(-s*dk k a' b0 x)):=by have:=congrArg (λz=>s*z) (L2 k x);grind
    have m1:s*dk k b c x<0:=by
     rcases FO (s*dk k b c x) 0 with z |z
     ·exact z
     ·have g1:=Fc (show 0<=q1 by lia) z
      have g2:=HX hp1 n2;lia
    have g1:=HX PY m1;have g2:=FM (show 0<=p2 by lia) c2
    lia
 have R3:bL 1 P (aR 1 l).1=(aR 1 l).1->bL (-1) P (aR (-1) l).1=(aR (-1) l).1->∃b c,plt b c/\∀q∈l++[P],ae b c q=0:=λf1 f2=>by
  refine⟨b0,P,SA,λq hq=>?_⟩
  have le:∀s,s=1\/s=-1->bL s P (aR s l).1=(aR s l).1->s*ae b0 P q<=0:=λs hs f=>by
   have K:=l5 hs (l++[P]) hr (by simp)
   rw[ca]at K;have K':KW s (l++[P]) (P::bL s P (aR s l).1):=K;rw[f]at K';have h0:=hd s;cases e:(aR s l).1 with
   |nil=>rw[e]at h0;cases h0
   |cons c r=>
    rw[e]at h0 K';cases h0;exact (K'.cov.1 q hq).1
  have a1:=le 1 (.inl rfl) f1;have a2:=le (-1) (.inr rfl) f2;lia
 have go:∀s,s=1\/s=-1->0<=s*dk k b0 P x->(∃s t,(s=1\/s=-1)/\t∈(aR s (l++[P])).2/\0<=s*dk k t.1 t.2.1 x/\0<=s*dk k t.2.1 t.2.2 x/\0<=s*dk k t.2.2 t.1 x)\/(bL s P (aR s l).1=(aR s l).1/\s*dk k b0 P x<=0):=λs hs h=>by
  rcases fanS s hs h with z |z |z
  ·exact .inl (found s hs z)
  ·exact .inl (behind s hs z)
  ·exact .inr z
 rcases FO (dk k b0 P x) 0 with z |z
 ·rcases go (-1) (.inr rfl) (by lia) with y |⟨_,y⟩
  ·exact .inl y
  ·lia
 ·rcases go 1 (.inl rfl) (by lia) with y |⟨y1,y⟩
  ·exact .inl y
  ·rcases go (-1) (.inr rfl) (by lia) with w |⟨w1,_⟩
   ·exact .inl w
   ·exact .inr (R3 y1 w1)
theorem kA{α:Type}{p:α->Bool}:∀{L:List α},(∃x∈L,p x=true)->∃u q v,L=u++q::v/\(∀r∈u,p r=false)/\p q=true
 |[],⟨x,hx,_⟩=>by cases hx
 |a::L,⟨x,hx,h⟩=>by
  cases ha:p a with
  |true=>exact⟨[],a,L,rfl,(λr hr=>by cases hr),ha⟩
  |false=>
   have QY:x∈L:=by
    rcases EO.mp hx with e |e
    ·subst e;rw[ha]at h;cases h
    ·exact e
   obtain⟨u,q,v,e,h1,h2⟩:=kA (p:=p) ⟨x,QY,h⟩;refine⟨a::u,q,v,by rw[e];rfl,λr hr=>?_,h2⟩
   rcases EO.mp hr with e |e
   ·rw[e];exact ha
   ·exact h1 r e
theorem nM(a b:P2):∀z:List ST3.PQ,dk (sN z) a b (sX z,sY z)=(z.map λe=>e.2*ae a b e.1).sum
 |[]=>by unfold dk sN sX sY;simp
 |e::z=>by
  have ih:=nM a b z;have e1:sN (e::z)=e.2+sN z:=by unfold sN;simp
  have e2:sX (e::z)=e.1.1*e.2+sX z:=by unfold sX;simp
  have e3:sY (e::z)=e.1.2*e.2+sY z:=by unfold sY;simp
  rw[E2,FW,<-ih,e1,e2,e3];unfold dk ae;grind
theorem wj{α:Type}{f:α->Int}:∀{l:List α},(∀e∈l,f e<=0)->(l.map f).sum<=0
 |[],_=>by simp
 |e::l,h=>by
  have ih:=wj λz hz=>h z (EJ _ hz)
  have:=h e ET;rw[E2,FW];lia
theorem r8{s:Int}{row:List P2}{z:List ST3.PQ}(hz:∀e∈z,e.1∈row/\0<=e.2):∀st:List P2,u_ s row st->CX s (sN z) (sX z,sY z) st
 |[],_=>trivial
 |[_],_=>trivial
 |b::a::r,C=>by
  refine⟨?_,r8 hz (a::r) C.2⟩;rw[nM]
  have e:s*(z.map λe=>e.2*ae a b e.1).sum=(z.map λe=>e.2*(s*ae a b e.1)).sum:=by
   clear hz C
   induction z with
   |nil=>simp
   |cons e z ih=>simp only[E2,FW];rw[Int.mul_add,ih];grind
  rw[e];refine wj λe he=>?_
  exact FM (hz e he).2 (C.1 e.1 (hz e he).1).1
theorem Ae{b c p q r:P2}(h:plt b c)(hp:ae b c p=0)(hq:ae b c q=0)(hr:ae b c r=0):ae p q r=0:=by
 have l:=aD h;unfold bU at l
 have f:(c.1-b.1) *ae p q r=0/\(c.2-b.2) *ae p q r=0:=by
  unfold ae at *;constructor <;>grind
 rcases l with z |⟨z,z2⟩
 ·exact (Fp.mp f.1).resolve_left (by lia)
 ·exact (Fp.mp f.2).resolve_left (by lia)
structure B0(l:List P2)(t:ST3.TR):Prop where
 d:ae t.1 t.2.1 t.2.2=1
 c:ao [t.1,t.2.1,t.2.2]=[t.1,t.2.1,t.2.2]
 m1:t.1∈aJ l
 m2:t.2.1∈aJ l
 m3:t.2.2∈aJ l
theorem wD{l:List P2}(F:Fld l)(h3:3<=l.length){s:Int}(hs:s=1\/s=-1){t:Tri}(ht:t∈(aR s (aJ l)).2):TOk s (aJ l) t/\s*gG t=1/\bX t∈pcs l/\B0 l (bX t)/\
  ∀(k:Int) (x:P2),(0<=s*dk k t.1 t.2.1 x/\0<=s*dk k t.2.1 t.2.2 x/\0<=s*dk k t.2.2 t.1 x)↔(0<=dk k (bX t).1 (bX t).2.1 x/\0<=dk k (bX t).2.1 (bX t).2.2 x/\0<=dk k (bX t).2.2 (bX t).1 x):=by
 have hp:=b9 l;have T:=eU hs _ hp t ht;have d1:=mR hs hp (l4 F h3) t ht;have hd:s*gG t=1:=by rcases hs with rfl |rfl <;>lia
 have mp:bX t∈pcs l:=by
  refine ER.mpr ⟨t,?_,rfl⟩;unfold nW;rcases hs with rfl |rfl
  ·exact Fv _ ht
  ·exact E_ _ ht
 obtain⟨k1,k2,k3⟩:=ye mp;have ct:=pZ T.ab T.bP (λz=>by unfold gG at hd;rw[z]at hd;simp at hd)
 have cc:ao [(bX t).1,(bX t).2.1,(bX t).2.2]=[(bX t).1,(bX t).2.1,(bX t).2.2]:=by
  have:=gC [t.1,t.2.1,t.2.2];rw[ct]at this;exact this
 have sw:∀(k:Int) (a b x:P2),dk k a b x=-dk k b a x:=λk a b x=>by unfold dk;grind
 refine⟨T,hd,mp,⟨?_,cc,k1,k2,k3⟩,λk x=>?_⟩
 ·unfold bX;unfold gG at hd;split
  ·rename_i h
   dsimp only;rcases hs with rfl |rfl <;>lia
  ·rename_i h
   have:ae t.1 t.2.2 t.2.1=-ae t.1 t.2.1 t.2.2:=by unfold ae;grind
   rcases hs with rfl |rfl <;>dsimp only <;>lia
 ·unfold bX;unfold gG at hd;have e1:=sw k t.1 t.2.1 x;have e2:=sw k t.2.1 t.2.2 x;have e3:=sw k t.2.2 t.1 x;split
  ·rename_i h
   have:s=1:=by rcases hs with rfl |rfl <;>lia
   subst this;dsimp only;constructor <;>intro ⟨a,b,c⟩ <;>refine⟨?_,?_,?_⟩ <;>lia
  ·rename_i h
   have:s=-1:=by rcases hs with rfl |rfl <;>lia
   subst this;dsimp only;constructor <;>intro ⟨a,b,c⟩ <;>refine⟨?_,?_,?_⟩ <;>lia
theorem Be{l:List P2}(F:Fld l)(h3:3<=l.length){T:ST3.TR}(h:T∈pcs l):B0 l T/\∀p∈aJ l,0<=ae T.1 T.2.1 p->0<=ae T.2.1 T.2.2 p->0<=ae T.2.2 T.1 p->p=T.1\/p=T.2.1\/p=T.2.2:=by
 obtain⟨t,ht,rfl⟩:=ER.mp h
 have key:∀s,s=1\/s=-1->t∈(aR s (aJ l)).2->B0 l (bX t)/\∀p∈aJ l,0<=ae (bX t).1 (bX t).2.1 p->0<=ae (bX t).2.1 (bX t).2.2 p->0<=ae (bX t).2.2 (bX t).1 p->p=(bX t).1\/p=(bX t).2.1\/p=(bX t).2.2:=λs hs ht=>by
  obtain⟨T,hd,_,R,eq⟩:=wD F h3 hs ht;refine⟨R,λp hp i1 i2 i3=>?_⟩
  have:=(eq 1 p).mpr (by rw[de,de,de];exact⟨i1,i2,i3⟩)
  rw[de,de,de]at this;have v:=iO hs T hp this.1 this.2.1 this.2.2;unfold bX;split <;>dsimp only <;>grind
 rcases Fx.mp ht with z |z
 ·exact key 1 (.inl rfl) z
 ·exact key (-1) (.inr rfl) z
theorem oa{T:ST3.TR}{k:Int}{x:P2}(hk:0<k)(hc:ao [T.1,T.2.1,T.2.2]=[T.1,T.2.1,T.2.2]):inK k [T.1,T.2.1,T.2.2] x=true↔0<=dk k T.1 T.2.1 x/\0<=dk k T.2.1 T.2.2 x/\0<=dk k T.2.2 T.1 x:=by
 have e:ao ([T.1,T.2.1,T.2.2].map (scl k))=[scl k T.1,scl k T.2.1,scl k T.2.2]:=by rw[oV (tf hk) (AE hk),hc];rfl
 have dd:∀a b:P2,ae (scl k a) (scl k b) x=k*dk k a b x:=λa b=>by unfold scl ae dk;grind
 have ds:mF [scl k T.1,scl k T.2.1,scl k T.2.2] x=[k*dk k T.1 T.2.1 x,k*dk k T.2.1 T.2.2 x,k*dk k T.2.2 T.1 x]:=by
  unfold mF sdl nxt;simp[IB,gp,dd]
 unfold inK;rw[e];unfold whr;rw[if_neg (by simp),ds,decide_eq_true_iff]
 have ok:=bW (l:=[k*dk k T.1 T.2.1 x,k*dk k T.2.1 T.2.2 x,k*dk k T.2.2 T.1 x]) (by simp)
 have sg:∀n:Int,-1<sgn n↔0<=n:=λn=>by unfold sgn;split <;>(try split) <;>lia
 rw[sg]
 have pos:∀{y:Int},0<=k*y↔0<=y:=λ{y}=>⟨λh=>by
  rcases FO y 0 with z |z
  ·have:=HX hk z;lia
  ·exact z,λh=>Fc (by lia) h⟩
 constructor
 ·intro h;refine⟨pos.mp (IC h (ok.2 _ (by simp))),pos.mp (IC h (ok.2 _ (by simp))),pos.mp (IC h (ok.2 _ (by simp)))⟩
 ·rintro ⟨h1,h2,h3⟩;have m:=ok.1;generalize kQ [k*dk k T.1 T.2.1 x,k*dk k T.2.1 T.2.2 x,k*dk k T.2.2 T.1 x]=w at *;simp only[EO,Fo,or_false]at m;rcases m with rfl |rfl |rfl
  ·exact pos.mpr h1
  ·exact pos.mpr h2
  ·exact pos.mpr h3
theorem Em{l:List P2}(F:Fld l)(h3:3<=l.length){z:List ST3.PQ}(hz:∀e∈z,e.1∈aJ l/\0<=e.2)(hk:0<sN z):∃T∈pcs l,inK (sN z) [T.1,T.2.1,T.2.2] (sX z,sY z)=true:=by
 have hp:=b9 l;have hc:=F.cr;obtain⟨Z,P,B,hZ,hB,pos,_⟩:=nv (l:=l) (by rw[hc];exact h3) 0 1
 have mZ:=cg hZ;have mB:=cg hB;rw[hc]at mZ mB;have sub:∀p∈l,p∈aJ l:=λp hp=>(br F p).mpr (by rw[fC h3];intro s hs;exact ((fQ (by rw[hc];exact h3)).mp (by rw[hc];exact hs)).2.2.2 p (by rw[hc];exact hp))
 have ne:aJ l≠[]:=λe=>by have:=sub Z mZ.1;rw[e]at this;cases this
 rcases zu (k:=sN z) (x:=(sX z,sY z)) (aJ l) hp λs hs=>r8 hz _ (l5 hs _ hp ne).cov with ⟨s,t,hs,ht,w⟩ |⟨b,c,hbc,hl⟩
 ·obtain⟨_,_,mp,R,eq⟩:=wD F h3 hs ht;exact⟨_,mp,(oa hk R.c).mpr ((eq _ _).mp w)⟩
 ·have:=Ae hbc (hl Z (sub Z mZ.1)) (hl P (sub P mZ.2)) (hl B (sub B mB.2));lia
structure o_(q:List P2)(k:Int)(x:P2)(c:List P2):Prop where
 W:Wd q c
 sz:∀p∈c,Szp 5000 p
 nd:c.Nodup
 T:C4 c k x (dr c k x)
 mem:∀e∈dr c k x,e.1∈q
theorem mI{a b d:P2}(h:ae a b d=1):[a,b,d].Nodup:=by
 have z1:a≠b:=fun e=>by subst e;have:ae a a d=0:=by unfold ae;grind
                        lia
 have z2:a≠d:=fun e=>by subst e;have:ae a b a=0:=by unfold ae;grind
                        lia
 have z3:b≠d:=fun e=>by subst e;have:ae a b b=0:=by unfold ae;grind
                        lia
 simp[z1,z2,z3]
theorem Bc{l:List P2}(O:gX l)(h3:3<=l.length){k:Int}{x:P2}(hk:0<k){q:List P2}(hq:q∈dC l)(hi:inK k q x=true):o_ q k x q:=by
 have e:dC l=(SG.srt ST3.KT (pcs l)).map λt=>[t.1,t.2.1,t.2.2]:=by unfold dC;rw[if_neg (by lia),if_neg (by lia)]
 rw[e]at hq;obtain⟨T,hT,rfl⟩:=ER.mp hq;obtain⟨R,_⟩:=Be O.F h3 ((SG.srt_mem _ _ _).mp hT);obtain⟨w1,w2,w3⟩:=(oa hk R.c).mp hi;have fz:=O.fz;refine⟨.three _ _ _,λp hp=>?_,mI R.d,iG R.d w2 w3 w1,λe he=>?_⟩
 ·simp only[EO,Fo,or_false]at hp;rcases hp with rfl |rfl |rfl
  ·exact (fz _ R.m1).mono (by decide)
  ·exact (fz _ R.m2).mono (by decide)
  ·exact (fz _ R.m3).mono (by decide)
 ·have:=(((iG R.d w2 w3 w1).mem e).mp he).1;simp only[wts,EO,Fo,or_false]at this |-;rcases this with rfl |rfl |rfl <;>simp
theorem gX.f150{l:List P2}(O:gX l):∀p∈aJ l,Szp 150 p:=λp hp=>by
 have q:=(du O.F.ne).mp (O.F.in_box ((br O.F p).mp hp));obtain⟨_,_,w1,w2,w3,w4⟩:=mS O.F.ne O.sz;exact⟨iL w1 w2 q.1.1 q.1.2,iL w3 w4 q.2.1 q.2.2⟩
theorem x5{A:P2}:∀{z:List ST3.PQ},(∀e∈z,e.1=A)->sX z=A.1*sN z/\sY z=A.2*sN z
 |[],_=>by unfold sX sY sN;simp
 |e::z,h=>by
  obtain⟨h1,h2⟩:=x5 λy hy=>h y (EJ _ hy)
  have he:=h e ET;have e1:sN (e::z)=e.2+sN z:=by unfold sN;simp
  have e2:sX (e::z)=e.1.1*e.2+sX z:=by unfold sX;simp
  have e3:sY (e::z)=e.1.2*e.2+sY z:=by unfold sY;simp
  rw[e1,e2,e3,h1,h2,he];constructor <;>grind
theorem B2(A:P2):ao [A]=[A]:=by
 rw[b6 (by have:=ST.srt_len [A];simp at this;lia)]
 exact ST.asc_srt (Jr _ _)
theorem tz{A x:P2}{k:Int}:inK k [A] x=true↔x=scl k A:=by
 unfold inK;rw[E2,Ig,B2];unfold whr;rw[if_pos (by simp),decide_eq_true_iff]
 show -1<(if btw (scl k A) (scl k A) x=true then 0 else -1)↔_
 unfold btw;rw[show ae (scl k A) (scl k A) x=0 by unfold ae;grind]
 by_cases h:x=scl k A
 ·subst h;rw[if_pos (by unfold ST.leP;simp)]
  simp
 ·rw[if_neg]
  ·simp[h]
  ·intro z;simp at z;rw[bH,bH]at z;exact h (F8 (by lia) (by lia))
theorem CP(A:P2):di (A.1+1-A.1) (A.2-A.2) 1 1 0:=by
 have e1:A.1+1-A.1=1:=by lia
 have e2:A.2-A.2=0:=by lia
 rw[e1,e2];exact⟨by decide,by decide,by decide,by decide,λ_=>⟨rfl,by decide,by decide⟩,λh=>absurd rfl h⟩
theorem Du{A:P2}(O:gX [A]){k:Int}{x:P2}(hk:0<k)(hi:inK k [A] x=true):o_ [A] k x [A,(A.1+1,A.2),(A.1-0,A.2+1)]/\dr [A,(A.1+1,A.2),(A.1-0,A.2+1)] k x=[(A,k)]:=by
 have hx:=tz.mp hi;have hd:ae A (A.1+1,A.2) (A.1-0,A.2+1)=1:=by unfold ae;dsimp only;grind
 have w1:dk k (A.1+1,A.2) (A.1-0,A.2+1) x=k:=by rw[hx];unfold dk scl;dsimp only;grind
 have w2:dk k (A.1-0,A.2+1) A x=0:=by rw[hx];unfold dk scl;dsimp only;grind
 have w3:dk k A (A.1+1,A.2) x=0:=by rw[hx];unfold dk scl;dsimp only;grind
 have T:=iG (k:=k) (x:=x) hd (by lia) (by lia) (by lia)
 have sA:=O.sz A (by simp)
 have o:Sz 150 (1:Int):=Sz.mono (m:=8) (by decide) (by decide)
 have m:∀e:P2×Int,e∈dr [A,(A.1+1,A.2),(A.1-0,A.2+1)] k x↔e=(A,k):=λe=>by
  rw[T.mem];simp only[wts,EO,Fo,or_false];rw[w1,w2,w3];obtain⟨a,n⟩:=e;simp only[K_];constructor
  ·rintro ⟨⟨rfl,rfl⟩ |⟨_,rfl⟩ |⟨_,rfl⟩,h⟩
   ·exact⟨rfl,rfl⟩
   ·lia
   ·lia
  ·rintro ⟨rfl,rfl⟩;exact⟨.inl ⟨rfl,rfl⟩,hk⟩
 refine⟨⟨.one A 1 0 (CP A),λp hp=>?_,mI hd,T,λe he=>?_⟩,?_⟩
 ·simp only[EO,Fo,or_false]at hp;rcases hp with rfl |rfl |rfl
  ·exact sA.mono (by decide)
  ·exact⟨(L2.Sz.add' sA.1 o).mono (by decide),sA.2.mono (by decide)⟩
  ·exact⟨by rw[Ks];exact sA.1.mono (by decide),(L2.Sz.add' sA.2 o).mono (by decide)⟩
 ·rw[(m e).mp he];simp
 ·exact SG.asc_one ST3.KQ (SG.srt_asc ST3.KQ _) (Jr _ _) λz=>by rw[EV];exact m z
theorem gy:∀{r:List P2}{q:List P2},r.Pairwise plt->q∈dl r->∃a b,q=[a,b]/\a∈r/\b∈r/\plt a b/\∀c∈r,plt a c->plt c b->False
 |[],q,_,h=>by cases h
 |[_],q,_,h=>by cases h
 |a::b::r,q,hs,h=>by
  obtain⟨h1,h2⟩:=Fi.mp hs;rcases EO.mp h with e |e
  ·refine⟨a,b,e,by simp,by simp,h1 b (by simp),λc hc l1 l2=>?_⟩
   rcases EO.mp hc with e |e
   ·subst e;exact aG _ l1
   ·rcases EO.mp e with e |e
    ·subst e;exact aG _ l2
    ·exact aG _ (bu l2 ((Fi.mp h2).1 c e))
  ·obtain⟨c,d,e1,e2,e3,e4,e5⟩:=gy h2 e;refine⟨c,d,e1,EJ _ e2,EJ _ e3,e4,λy hy l1 l2=>?_⟩
   rcases EO.mp hy with z |z
   ·subst z;exact aG _ (bu l1 (h1 c e2))
   ·exact e5 y z l1 l2
theorem Ch{a b:P2}(h:plt a b):ao [a,b]=[a,b]:=by
 have e:ST.srt [a,b]=[a,b]:=ST.asc_srt (by simp[(eF a b).mp h])
 rw[jT (by rw[e];rfl),e]
theorem mT{a b x:P2}{k:Int}(hk:0<k)(h:plt a b):inK k [a,b] x=true↔dk k a b x=0/\ST.leP (scl k a) x=true/\ST.leP x (scl k b)=true:=by
 unfold inK;rw[E2,E2,Ig,Ch (tf hk _ _ h)];unfold whr;rw[if_pos (by simp),decide_eq_true_iff]
 show -1<(if btw (scl k a) (scl k b) x=true then 0 else -1)↔_
 have dd:ae (scl k a) (scl k b) x=k*dk k a b x:=by unfold scl ae dk;grind
 have z:decide (ae (scl k a) (scl k b) x=0)=decide (dk k a b x=0):=decide_eq_decide.mpr (by
  rw[dd];exact⟨λe=>(Fp.mp e).resolve_left (by lia),λe=>by rw[e];simp⟩)
 unfold btw;rw[z];by_cases h1:dk k a b x=0/\ST.leP (scl k a) x=true/\ST.leP x (scl k b)=true
 ·rw[if_pos (by simp[h1.1,h1.2.1,h1.2.2])]
  simp[h1]
 ·rw[if_neg (by simpa using h1)]
  simp only[h1];simp
theorem xP{A B a b:P2}(F:Fld [A,B])(ma:a∈aJ [A,B])(mb:b∈aJ [A,B])(QG:plt a b)(no:∀c∈aJ [A,B],plt a c->plt c b->False):∃s t,di (b.1-a.1) (b.2-a.2) 1 s t:=by
 obtain⟨g,s,t,G⟩:=iF (b.1-a.1) (b.2-a.2);have l:=aD QG;have g0:=G.g0;obtain⟨u,hu⟩:=G.da;obtain⟨v,hv⟩:=G.db
 have gp:0<g:=by
  rcases FO 0 g with z |z
  ·exact z
  ·have:g=0:=by lia
   subst this;unfold bU at l;simp at hu hv;lia
 have luv:bU u v:=by
  unfold bU at l |-;rw[hu,hv]at l;rcases l with z |⟨z,z2⟩
  ·left
   rcases FO 0 u with y |y
   ·exact y
   ·have:=FM g0 y;lia
  ·right
   refine⟨(Fp.mp z).resolve_left (by lia),?_⟩
   rcases FO 0 v with y |y
   ·exact y
   ·have:=FM g0 y;lia
 by_cases h1:g=1
 ·subst h1;exact⟨s,t,G⟩
 ·exfalso
  have ia:=(fJ A B a).mp ((br F a).mp ma);have ib:=(fJ A B b).mp ((br F b).mp mb);have p1:plt a (a.1+u,a.2+v):=by unfold bU at luv;unfold plt;dsimp only;lia
  have p2:plt (a.1+u,a.2+v) b:=by
   have m:bU ((g-1) *u) ((g-1) *v):=by
    unfold bU at luv |-;rcases luv with z |⟨z,z2⟩
    ·left;exact FD (by lia) z
    ·right;rw[z];exact⟨by simp,FD (by lia) z2⟩
   unfold bU at m;unfold plt;dsimp only;have e1:(g-1) *u=b.1-a.1-u:=by rw[hu];grind
   have e2:(g-1) *v=b.2-a.2-v:=by rw[hv];grind
   lia
  refine no (a.1+u,a.2+v) ((br F _).mpr ((fJ A B _).mpr ⟨?_,?_,?_⟩)) p1 p2
  ·have e:g*ae A B (a.1+u,a.2+v)=ae A B b+(g-1) *ae A B a:=by unfold ae;dsimp only;grind
   have e':g*ae A B (a.1+u,a.2+v)=0:=by rw[e,ia.1,ib.1];simp
   exact (Fp.mp e').resolve_left (by lia)
  ·have c1:=bH.mp ia.2.1;rw[bH];unfold plt at p1;dsimp only at *;lia
  ·have c1:=bH.mp ib.2.2;rw[bH];unfold plt at p2;dsimp only at *;lia
theorem C8{A B:P2}(O:gX [A,B]){k:Int}{x:P2}(hk:0<k){q:List P2}(hq:q∈dl (aJ [A,B]))(hi:inK k q x=true):∃c,o_ q k x c:=by
 obtain⟨a,b,rfl,ma,mb,QG,no⟩:=gy (b9 _) hq;obtain⟨s,t,G⟩:=xP O.F ma mb QG no;obtain⟨d0,l1,l2⟩:=(mT hk QG).mp hi;have eq:=G.eq;have hd:ae a b (a.1-t,a.2+s)=1:=by unfold ae;dsimp only;grind
 have s0:=wb k a b (a.1-t,a.2+s) x;obtain⟨s1,s2⟩:=CZ k a b (a.1-t,a.2+s) x;rw[hd,d0]at s0 s1 s2;have l:=aD QG
 have w2:0<=dk k (a.1-t,a.2+s) a x:=by
  rw[bH]at l1;unfold scl at l1;dsimp only at l1;generalize dk k (a.1-t,a.2+s) a x=β at *;generalize dk k b (a.1-t,a.2+s) x=α at *;have f1:x.1-k*a.1=β*(b.1-a.1):=by grind
  have f2:x.2-k*a.2=β*(b.2-a.2):=by grind
  rcases FO β 0 with z |z
  ·exfalso
   unfold bU at l;rcases l with y |⟨y,y2⟩
   ·have:=GN z y;lia
   ·rw[y,G6]at f1;have:=GN z y2;lia
  ·exact z
 have w1:0<=dk k b (a.1-t,a.2+s) x:=by
  rw[bH]at l2;unfold scl at l2;dsimp only at l2;generalize dk k (a.1-t,a.2+s) a x=β at *;generalize dk k b (a.1-t,a.2+s) x=α at *;have f1:k*b.1-x.1=α*(b.1-a.1):=by grind
  have f2:k*b.2-x.2=α*(b.2-a.2):=by grind
  rcases FO α 0 with z |z
  ·exfalso
   unfold bU at l;rcases l with y |⟨y,y2⟩
   ·have:=GN z y;lia
   ·rw[y,G6]at f1;have:=GN z y2;lia
  ·exact z
 have T:=iG hd w1 w2 (by lia)
 have sa:=O.f150 a ma;have sb:=O.f150 b mb;obtain⟨_,ss,st⟩:=hJ G (L2.Sz.sub' sb.1 sa.1) (L2.Sz.sub' sb.2 sa.2);refine⟨_,.two a b s t G,λp hp=>?_,mI hd,T,λe he=>?_⟩
 ·simp only[EO,Fo,or_false]at hp;rcases hp with rfl |rfl |rfl
  ·exact sa.mono (by decide)
  ·exact sb.mono (by decide)
  ·exact⟨(L2.Sz.sub' (sa.1.mono (n:=400) (by decide)) (st.mono (n:=400) (by decide))).mono (by decide),(L2.Sz.add' (sa.2.mono (n:=400) (by decide)) (ss.mono (n:=400) (by decide))).mono (by decide)⟩
 ·obtain⟨m1,m2⟩:=(T.mem e).mp he;simp only[wts,EO,Fo,or_false]at m1 |-;rcases m1 with rfl |rfl |rfl
  ·simp
  ·simp
  ·dsimp only at m2;lia
theorem wO{a b d x:P2}(hd:ae a b d=1)(v:x=a\/x=b\/x=d):dr [a,b,d] 1 x=[(x,1)]:=by
 obtain⟨p1,p2,p3,p4⟩:=jC a b d;obtain⟨q1,q2,_,_⟩:=jC b d a;obtain⟨r1,r2,_,_⟩:=jC d a b
 have ww:0<=ae b d x/\0<=ae d a x/\0<=ae a b x:=by
  rcases v with rfl |rfl |rfl
  ·rw[p3,r2,p1];lia
  ·rw[q1,p4,p2];lia
  ·rw[q2,r1];lia
 have T:=iG (k:=1) (x:=x) hd (by rw[de];exact ww.1) (by rw[de];exact ww.2.1) (by rw[de];exact ww.2.2)
 have hw:wts [a,b,d] 1 x=[(a,ae b d x),(b,ae d a x),(d,ae a b x)]:=by
  show [(a,dk 1 b d x),(b,dk 1 d a x),(d,dk 1 a b x)]=_;rw[de,de,de]
 have m:∀e:P2×Int,e∈dr [a,b,d] 1 x↔e=(x,1):=λe=>by
  rw[T.mem,hw];simp only[EO,Fo,or_false];obtain⟨y,n⟩:=e;have nd:=mI hd;simp only[Gw,EO,Fo,or_false,not_or]at nd;obtain⟨⟨n1,n2⟩,n3,_⟩:=nd;rcases v with rfl |rfl |rfl
  ·rw[p3,p1,r2,hd];grind
  ·rw[q1,p4,p2,hd];grind
  ·rw[q2,r1,hd];grind
 exact SG.asc_one ST3.KQ (SG.srt_asc ST3.KQ _) (Jr _ _) λz=>by rw[EV];exact m z
theorem Ew{l:List P2}(O:gX l)(h3:3<=l.length){x:P2}(hx:x∈aJ l){q:List P2}(hq:q∈dC l)(hi:inK 1 q x=true):dr q 1 x=[(x,1)]:=by
 have e:dC l=(SG.srt ST3.KT (pcs l)).map λt=>[t.1,t.2.1,t.2.2]:=by unfold dC;rw[if_neg (by lia),if_neg (by lia)]
 rw[e]at hq;obtain⟨T,hT,rfl⟩:=ER.mp hq;obtain⟨R,em⟩:=Be O.F h3 ((SG.srt_mem _ _ _).mp hT);obtain⟨w1,w2,w3⟩:=(oa (by decide) R.c).mp hi
 rw[de]at w1 w2 w3;exact wO R.d (em x hx w1 w2 w3)
theorem we{A B:P2}(F:Fld [A,B]):plt A B:=by
 have hc:=F.cr;have asc:=ST.srt_asc [A,B]
 have e:ST.srt [A,B]=[A,B]:=by
  by_cases h:(ST.srt [A,B]).length=2
  ·rw[<-jT h];exact hc
  ·have l:=ST.srt_len [A,B];simp at l;rw[b6 (by lia)]at hc
   exact hc
 rw[e]at asc;exact (eF A B).mpr ((Fi.mp asc).1 B (by simp))
def wf(A B:P2)(p:P2):Int:=if A.1<B.1 then p.1 else p.2
theorem lU{A B p x:P2}{k:Int}(h:plt A B)(hp:ae A B p=0)(hx:dk k A B x=0):(ST.leP (scl k p) x=true↔k*wf A B p<=wf A B x)/\(ST.leP x (scl k p)=true↔wf A B x<=k*wf A B p):=by
 rw[bH,bH];unfold wf scl;dsimp only;by_cases z:A.1<B.1
 ·rw[if_pos z,if_pos z];have e:(B.1-A.1) *(x.2-k*p.2)=(B.2-A.2) *(x.1-k*p.1):=by unfold ae at hp;unfold dk at hx;grind
  have s:x.1=k*p.1->x.2=k*p.2:=λq=>by
   rw[q,OW,G6]at e;have:=(Fp.mp e).resolve_left (by lia)
   lia
  refine⟨⟨λh=>by lia,λh=>?_⟩,⟨λh=>by lia,λh=>?_⟩⟩
  ·rcases GJ h with y |y
   ·exact .inl y
   ·exact .inr ⟨y,by have:=s y.symm;lia⟩
  ·rcases GJ h with y |y
   ·exact .inl y
   ·exact .inr ⟨y,by have:=s y;lia⟩
 ·rw[if_neg z,if_neg z];unfold plt at h;have e1:A.1=B.1:=by lia
  have e2:A.2<B.2:=by lia
  have f1:p.1=A.1:=by
   have:(B.2-A.2) *(p.1-A.1)=0:=by unfold ae at hp;grind
   have:=(Fp.mp this).resolve_left (by lia)
   lia
  have f2:x.1=k*A.1:=by
   have:(B.2-A.2) *(x.1-k*A.1)=0:=by unfold dk at hx;grind
   have:=(Fp.mp this).resolve_left (by lia)
   lia
  rw[f1,f2];refine⟨⟨λh=>?_,λh=>.inr ⟨rfl,h⟩⟩,⟨λh=>?_,λh=>.inr ⟨rfl,h⟩⟩⟩ <;>lia
theorem yh(A B:P2):∀z:List ST3.PQ,wf A B (sX z,sY z)=(z.map λe=>e.2*wf A B e.1).sum
 |[]=>by unfold wf sX sY;simp
 |e::z=>by
  have ih:=yh A B z;have e2:sX (e::z)=e.1.1*e.2+sX z:=by unfold sX;simp
  have e3:sY (e::z)=e.1.2*e.2+sY z:=by unfold sY;simp
  rw[E2,FW,<-ih,e2,e3];unfold wf;split <;>dsimp only <;>rw[Jg]
theorem rS{α:Type}{n f:α->Int}{lo hi:Int}:∀{l:List α},(∀e∈l,0<=n e/\lo<=f e/\f e<=hi)->(l.map n).sum*lo<=(l.map λe=>n e*f e).sum/\(l.map λe=>n e*f e).sum<=(l.map n).sum*hi
 |[],_=>by simp
 |e::l,h=>by
  obtain⟨i1,i2⟩:=rS λy hy=>h y (EJ _ hy)
  obtain⟨a,b,c⟩:=h e ET;simp only[E2,FW];have h1:=Hr b a;have h2:=Hr c a;rw[Pa,Pa];lia
theorem lQ{f:P2->Int}{k y:Int}(hk:0<k):∀{r:List P2}{a:P2},(a::r).Pairwise (λp q=>f p<f q)->r≠[]->k*f a<=y->(∃c∈a::r,y<=k*f c)->∃p q,[p,q]∈dl (a::r)/\k*f p<=y/\y<=k*f q
 |[],a,_,h,_,_=>absurd rfl h
 |b::r,a,hs,_,h1,⟨c,hc,h2⟩=>by
  obtain⟨s1,s2⟩:=Fi.mp hs;by_cases hb:y<=k*f b
  ·exact⟨a,b,by simp[dl],h1,hb⟩
  ·have ab:=s1 b (by simp)
   have kab:=IM ab hk
   have QN:c∈b::r:=by
    rcases EO.mp hc with e |e
    ·subst e;lia
    ·exact e
   have rn:r≠[]:=λe=>by
    subst e;have:=EV.mp QN;subst this;exact hb h2
   obtain⟨p,q,m,i1,i2⟩:=lQ hk (r:=r) (a:=b) s2 rn (by lia) ⟨c,QN,h2⟩
   exact⟨p,q,by simp only[dl];exact EJ _ m,i1,i2⟩
theorem yz{A B:P2}(F:Fld [A,B]):(∀p∈aJ [A,B],ae A B p=0/\wf A B A<=wf A B p/\wf A B p<=wf A B B)/\A∈aJ [A,B]/\B∈aJ [A,B]/\(aJ [A,B]).Pairwise (λp q=>wf A B p<wf A B q):=by
 have h:=we F;have dA:ae A B A=0:=by unfold ae;grind
 have dB:ae A B B=0:=by unfold ae;grind
 have one:∀p:P2,scl 1 p=p:=m9;have dk1:∀p:P2,ae A B p=0->dk 1 A B p=0:=λp hp=>by rw[de];exact hp
 have mA:A∈aJ [A,B]:=(br F A).mpr ((fJ A B A).mpr ⟨dA,by rw[bH];lia,by rw[bH];unfold plt at h;lia⟩)
 have mB:B∈aJ [A,B]:=(br F B).mpr ((fJ A B B).mpr ⟨dB,by rw[bH];unfold plt at h;lia,by rw[bH];lia⟩)
 have all:∀p∈aJ [A,B],ae A B p=0/\ST.leP A p=true/\ST.leP p B=true:=λp hp=>(fJ A B p).mp ((br F p).mp hp)
 refine⟨λp hp=>?_,mA,mB,(b9 [A,B]).imp_of_mem λ{p q} hp hq l=>?_⟩
 ·obtain⟨e,l1,l2⟩:=all p hp;have w1:=(lU h dA (dk1 p e)).1;have w2:=(lU h dB (dk1 p e)).2;rw[one,IA]at w1 w2;exact⟨e,w1.mp l1,w2.mp l2⟩
 ·obtain⟨e1,_,_⟩:=all p hp;obtain⟨e2,_,_⟩:=all q hq;have w1:=(lU h e1 (dk1 q e2)).1;have w2:=(lU h e1 (dk1 q e2)).2;rw[one,IA]at w1 w2
  have n2:¬ wf A B q<=wf A B p:=λz=>by
   have:=w2.mpr z;rw[bH]at this;unfold plt at l;lia
  lia
theorem D_{A B:P2}(F:Fld [A,B]){z:List ST3.PQ}(hz:∀e∈z,e.1∈aJ [A,B]/\0<=e.2)(hk:0<sN z):∃q∈dl (aJ [A,B]),inK (sN z) q (sX z,sY z)=true:=by
 obtain⟨al,mA,mB,up⟩:=yz F;have h:=we F
 have d0:dk (sN z) A B (sX z,sY z)=0:=by
  rw[nM]
  have:∀l:List ST3.PQ,(∀e∈l,ae A B e.1=0)->(l.map λe=>e.2*ae A B e.1).sum=0:=λl=>by
   induction l with
   |nil=>intro _;rfl
   |cons e l ih=>
    intro h;rw[E2,FW,ih λy hy=>h y (EJ _ hy),h e ET];simp
  exact this z λe he=>(al e.1 (hz e he).1).1
 obtain⟨b1,b2⟩:=rS (l:=z) (n:=λe=>e.2) (f:=λe=>wf A B e.1) (lo:=wf A B A) (hi:=wf A B B) λe he=>⟨(hz e he).2,(al e.1 (hz e he).1).2⟩
 rw[<-yh]at b1 b2;have hp:=b9 [A,B];generalize hr:aJ [A,B]=r at *
 match r,al,mA,mB,up,hp with
 |[],_,mA,_,_,_=>cases mA
 |[a],_,mA,mB,_,_=>
  rw[EV.mp mA,EV.mp mB]at h;exact absurd h (aG _)
 |a::b::r,al,mA,mB,up,hp=>
  have ea:wf A B a<=wf A B A:=by
   rcases EO.mp mA with e |e
   ·rw[e];exact Kd _
   ·exact M9 ((Fi.mp up).1 A e)
  have ka:=Hr ea (show 0<=sN z by lia)
  obtain⟨p,q,m,i1,i2⟩:=lQ hk up (by simp) (IC ka b1) ⟨B,mB,b2⟩
  obtain⟨p',q',e,mp,mq,lt,_⟩:=gy hp m;injection e with e1 e2
  injection e2 with e2 _
  subst e1;subst e2;have dp:=(al p mp).1;have dq:=(al q mq).1;refine⟨[p,q],m,(mT hk lt).mpr ⟨?_,((lU h dp d0).1).mpr i1,((lU h dq d0).2).mpr i2⟩⟩;obtain⟨u,w,hu,hw,L⟩:=nK h lt dp dq;have:=L (sN z) (sX z,sY z);rw[d0,G6]at this;exact (Fp.mp this).resolve_left (by lia)
theorem D5{A B:P2}(O:gX [A,B]){x:P2}(hx:x∈aJ [A,B]){q c:List P2}(hq:q∈dl (aJ [A,B]))(hi:inK 1 q x=true)(D:o_ q 1 x c):dr c 1 x=[(x,1)]:=by
 obtain⟨a,b,rfl,ma,mb,QG,no⟩:=gy (b9 _) hq;obtain⟨_,l1,l2⟩:=(mT (by decide) QG).mp hi
 rw[m9]at l1 l2;have W:=D.W;have dn:=D.nd;cases W with
 |two _ _ s t G=>
  have eq:=G.eq;have hd:ae a b (a.1-t,a.2+s)=1:=by unfold ae;dsimp only;grind
  refine wO hd ?_;rw[bH]at l1 l2;by_cases e1:x=a
  ·exact .inl e1
  ·by_cases e2:x=b
   ·exact .inr (.inl e2)
   ·exfalso
    have n1:¬ (x.1=a.1/\x.2=a.2):=λz=>e1 (F8 z.1 z.2)
    have n2:¬ (x.1=b.1/\x.2=b.2):=λz=>e2 (F8 z.1 z.2)
    exact no x hx (by unfold plt;lia) (by unfold plt;lia)
def InB(c p:P2):Prop:=(c.1<=p.1/\p.1<=c.1+5)/\c.2<=p.2/\p.2<=c.2+5
def chG(g:P2×P2->Int):List P2->Int
 |a::b::r=>g (a,b)+chG g (b::r)
 |_=>0
theorem ym(g:P2×P2->Int)(m:P2):∀u v:List P2,chG g (u++m::v)=chG g (u++[m])+chG g (m::v)
 |[],v=>by simp[chG]
 |[a],v=>by simp[chG]
 |a::b::u,v=>by
  have ih:=ym g m (b::u) v;show g (a,b)+chG g (b::u++m::v)=g (a,b)+chG g (b::u++[m])+chG g (m::v);rw[ih];exact (Int.add_assoc ..).symm
theorem oQ(g:P2×P2->Int)(a:P2):∀(x:P2) (r:List P2),((Np (x::r) (r++[a])).map g).sum=chG g (x::r++[a])
 |x,[]=>by simp[chG]
 |x,y::r=>by
  have ih:=oQ g a y r;rw[Lr,GI,E2,FW,ih];rfl
theorem wJ(a:P2)(r:List P2):sdl (a::r)=Np (a::r) (r++[a]):=by
 have key:∀l:List (P2×P2),l=Np (l.map (·.1)) (l.map (·.2)):=λl=>by
  induction l with
  |nil=>rfl
  |cons x l ih=>rw[E2,E2,GI,<-ih]
 rw[key (sdl (a::r)),jk,nN];rfl
theorem kz{g:P2×P2->Int}{f:P2->Int}{R:P2->P2->Prop}{Q:P2->Prop}(hg:∀a b,Q a->Q b->R a b->g (a,b)<=f b-f a):∀(L:List P2) (x y:P2),L.Pairwise R->(∀p∈L,Q p)->L.head?=some x->L.getLast?=some y->chG g L<=f y-f x
 |[],_,_,_,_,h,_=>by cases h
 |[a],x,y,_,_,h1,h2=>by
  cases h1;have:a=y:=by simpa using h2
  rw[this];show (0:Int)<=_;lia
 |a::b::r,x,y,hp,hq,h1,h2=>by
  cases h1;have ih:=kz hg (b::r) b y (Fi.mp hp).2 (λp h=>hq p (EJ _ h)) rfl (by rw[Gk]at h2;exact h2)
  have:=hg a b (hq a (by simp)) (hq b (by simp)) ((Fi.mp hp).1 b (by simp))
  show g (a,b)+chG g (b::r)<=_;lia
structure EC(g:P2×P2->Int)(pts T B:List P2)(mn mx:P2):Prop where
 t:T.Pairwise plt
 b:B.Pairwise λx y=>plt y x
 tm:∀p∈T,p∈pts
 bm:∀p∈B,p∈pts
 t0:T.head?=some mn
 t1:T.getLast?=some mx
 b0:B.head?=some mx
 b1:B.getLast?=some mn
 s:((sdl (ao pts)).map g).sum=chG g T+chG g B
theorem pU(g:P2×P2->Int){pts:List P2}(h2:2<=(ST.srt pts).length):∃T B mn mx,EC g pts T B mn mx:=by
 have asc:(ST.srt pts).Pairwise plt:=(ST.srt_asc pts).imp λ{a b} h=>by
  unfold ST.ltP at h;unfold plt;simpa using h
 have ec:ao pts=(am (ST.srt pts)).reverse.dropLast++(am (ST.srt pts).reverse).reverse.dropLast:=by unfold ao;rw[if_neg (by lia)]
 have hm:∀p,p∈ST.srt pts->p∈pts:=λp h=>(ST.srt_mem p pts).mp h
 generalize ST.srt pts=row at *;obtain⟨mn,mx,Wy⟩:=BV asc h2;have ts:=kc row;have bs:=kc row.reverse;generalize (am row).reverse=T at *;generalize (am row.reverse).reverse=B at *;have l1:=Wy.lt;have l2:=Wy.lb;have tne:T≠[]:=λe=>by rw[e]at l1;simp at l1
 have bne:B≠[]:=λe=>by rw[e]at l2;simp at l2
 have tl:T.getLast?=some mx:=by rw[Ga];exact Wy.t1
 have bl:B.getLast?=some mn:=by rw[Ga];exact Wy.b1
 have th:T.head?=some mn:=by rw[G8];exact Wy.t0
 have bh:B.head?=some mx:=by rw[G8];exact Wy.b0
 refine⟨T,B,mn,mx,asc.sublist ts,O1 bs (Iz.mpr asc),λp hp=>hm p (ts.subset hp),λp hp=>hm p (E9.mp (bs.subset hp)),th,tl,bh,bl,?_⟩
 have key:∀{L:List P2}{x y:P2},2<=L.length->L.head?=some x->L.getLast?=some y->∃t,L=x::t++[y]/\L.dropLast=x::t:=λ{L x y} hl hh hy=>by
  have ln:L≠[]:=λe=>by rw[e]at hl;simp at hl
  have e:L=L.dropLast++[y]:=by
   have h:L.getLast ln=y:=by rw[Jh ln]at hy;exact FY hy
   rw[<-h];exact (Gv ln).symm
  match L,hl,hh,e with
  |a::b::r,_,hh,e=>cases hh;exact⟨(b::r).dropLast,e,rfl⟩
 obtain⟨t,e1,d1⟩:=key l1 th tl;obtain⟨v,e2,d2⟩:=key l2 bh bl;rw[ec,d1,d2,Lr,wJ,oQ,e1,e2];rw[show mn::(t++mx::v)++[mn]=(mn::t)++mx::(v++[mn]) by simp,ym]
 rfl
theorem tL{l:List P2}(h:2<=(ao l).length):2<=(ST.srt l).length:=FP λz=>by
 rw[b6 z]at h;exact z h
theorem yS{x a b:Int}(hx:0<=x)(h:a<=b):x*a<=x*b:=Hr h hx
theorem By{a b:P2}(h:plt a b):a.1<=b.1:=by unfold plt at h;lia
theorem n_{c a b:P2}(ha:InB c a)(hb:InB c b)(h:plt a b):(b.1*b.2-(2*c.2+10) *b.1)-(a.1*a.2-(2*c.2+10) *a.1)<=crs (a,b)/\crs (a,b)<=(b.1*b.2-2*c.2*b.1)-(a.1*a.2-2*c.2*a.1):=by
 have e:crs (a,b)=b.1*b.2-a.1*a.2-(b.1-a.1) *(a.2+b.2):=by unfold crs;grind
 have h0:0<=b.1-a.1:=by have:=By h;lia
 have u1:=yS h0 (show 2*c.2<=a.2+b.2 by unfold InB at ha hb;lia)
 have u2:=yS h0 (show a.2+b.2<=2*c.2+10 by unfold InB at ha hb;lia)
 have e1:(b.1-a.1) *(2*c.2)=2*c.2*b.1-2*c.2*a.1:=by grind
 have e2:(b.1-a.1) *(2*c.2+10)=(2*c.2+10) *b.1-(2*c.2+10) *a.1:=by grind
 rw[e1]at u1;rw[e2]at u2;rw[e];lia
theorem mV{c a b:P2}(ha:InB c a)(hb:InB c b)(h:plt a b):gst (a,b)<=(6*b.1+b.2)-(6*a.1+a.2):=by
 unfold gst HF;dsimp only;unfold InB at ha hb;unfold plt at h;by_cases k:a.1<b.1
 ·have:=Nat.gcd_le_left (b.2-a.2).natAbs (show 0<(b.1-a.1).natAbs by lia)
  lia
 ·have e:b.1-a.1=0:=by lia
  rw[e,Int.natAbs_zero,Nat.gcd_zero_left];lia
theorem xm{c:P2}{l:List P2}(h:∀p∈l,InB c p)(h2:2<=(ao l).length):area (ao l)<=50:=by
 obtain⟨T,B,mn,mx,W⟩:=pU crs (tL h2);have q1:=kz (g:=crs) (f:=λp=>p.1*p.2-2*c.2*p.1) (R:=plt) (Q:=InB c) (λa b ha hb hr=>(n_ ha hb hr).2) T mn mx W.t (λp hp=>h p (W.tm p hp)) W.t0 W.t1
 have q2:=kz (g:=crs) (f:=λp=>p.1*p.2-(2*c.2+10) *p.1) (R:=λx y=>plt y x) (Q:=InB c) (λa b ha hb hr=>by
  have:=(n_ hb ha hr).1;have e:crs (a,b)=-crs (b,a):=by unfold crs;grind
  rw[e];lia) B mx mn W.b (λp hp=>h p (W.bm p hp)) W.b0 W.b1
 have hn:=h mn (W.tm _ (IJ W.t0));have hx:=h mx (W.bm _ (IJ W.b0));have s:=W.s;unfold area;have e:(mx.1*mx.2-2*c.2*mx.1-(mn.1*mn.2-2*c.2*mn.1))+(mn.1*mn.2-(2*c.2+10) *mn.1-(mx.1*mx.2-(2*c.2+10) *mx.1))=10*(mx.1-mn.1):=by grind
 unfold InB at hn hx;lia
theorem Ax{c:P2}{l:List P2}(h:∀p∈l,InB c p)(h2:2<=(ao l).length):kL (ao l)<=70:=by
 obtain⟨T,B,mn,mx,W⟩:=pU gst (tL h2);have q1:=kz (g:=gst) (f:=λp=>6*p.1+p.2) (R:=plt) (Q:=InB c) (λa b ha hb hr=>mV ha hb hr) T mn mx W.t (λp hp=>h p (W.tm p hp)) W.t0 W.t1
 have q2:=kz (g:=gst) (f:=λp=>-(6*p.1+p.2)) (R:=λx y=>plt y x) (Q:=InB c) (λa b ha hb hr=>by
  have:=mV hb ha hr;rw[eB];lia) B mx mn W.b (λp hp=>h p (W.bm p hp)) W.b0 W.b1
 have hn:=h mn (W.tm _ (IJ W.t0));have hx:=h mx (W.bm _ (IJ W.b0));have s:=W.s;unfold kL;unfold InB at hn hx;lia
theorem Az{c:P2}{l:List P2}(F:Fld l)(h:∀p∈l,InB c p):iQ l<=100:=by
 have hc:=F.cr;have l0:0<l.length:=FH.mpr F.ne;unfold iQ nX pin;by_cases h3:l.length<3
 ·rw[if_pos h3,if_pos h3];have a:=h _ (ce l0);have b:=h _ (ce (l:=l) (i:=l.length-1) (by lia))
  have:gst (gp l 0,gp l (l.length-1))<=40:=by
   rcases dw (gp l 0) (gp l (l.length-1)) with k |k |k
   ·have:=mV a b k;unfold InB at a b;lia
   ·rw[k];unfold gst;simp
   ·have:=mV b a k;rw[eB];unfold InB at a b;lia
  lia
 ·rw[if_neg h3,if_neg h3];have a:=xm h (by rw[hc];lia)
  have r:=Ax h (by rw[hc];lia)
  rw[hc]at a r;lia
theorem m8{f h:P2->Int}{Q:P2->Prop}(hg:∀a b,Q a->Q b->plt a b->f b-f a<=crs (a,b)/\crs (a,b)<=h b-h a):∀(K:List P2) (x y:P2),h9 K->(∀p∈K,Q p)->K.head?=some y->K.getLast?=some x->f y-f x<=chS K/\chS K<=h y-h x
 |[],_,_,_,_,e,_=>by cases e
 |[b],x,y,_,_,e1,e2=>by
  cases e1;have:b=x:=by simpa using e2
  rw[this];show _<=(0:Int)/\(0:Int)<=_;lia
 |b::a::r,x,y,hd,hq,e1,e2=>by
  cases e1;have ih:=m8 hg (a::r) x a hd.2 (λp hp=>hq p (EJ _ hp)) rfl (by rw[Gk]at e2;exact e2)
  have:=hg a b (hq a (by simp)) (hq b (by simp)) hd.1
  show _<=crs (a,b)+chS (a::r)/\crs (a,b)+chS (a::r)<=_;lia
theorem v5 {c:P2}{row:List P2} (asc:row.Pairwise plt) (Pn:row≠[]) (h:∀p∈row,InB c p) (conv:∀a b c p:P2,a∈row→b∈row→c∈row→0<ae a b c→0≤ae a b p→0≤ae b c p→0≤ae c a p→p∈row):(aR 1 row).2.length+(aR (-1) row).2.length≤50:=by
 have key:∀s,s=1\/s=-1->∀K,(aR s row).1=K->KW s row K/\K.head?=some (row.getLast Pn)/\∃z,K.getLast?=some z:=λs hs K e=>by
  have W:=l5 hs row asc Pn;have e2:row=row.dropLast++[row.getLast Pn]:=(Gv Pn).symm;have hd:=iC s row.dropLast (row.getLast Pn);rw[<-e2]at hd;subst e;exact⟨W,hd,_,Jh W.ne⟩
 have c1:=rN 1 row;have c2:=rN (-1) row
 rw[iR (mR (.inl rfl) asc conv)]at c1
 rw[iR (mR (.inr rfl) asc conv)]at c2
 obtain⟨W1,h1,z1,l1⟩:=key 1 (.inl rfl) _ rfl;obtain⟨W2,h2,z2,l2⟩:=key (-1) (.inr rfl) _ rfl;have m1:=W1.sub z1 (G4 l1);have m2:=W2.sub z2 (G4 l2)
 have ez:z1=z2:=by
  have b1:=W1.bot z1 l1 z2 m2;have b2:=W2.bot z2 l2 z1 m1;rcases dw z1 z2 with k |k |k
  ·exact absurd k b2
  ·exact k
  ·exact absurd k b1
 subst ez;have b1:=m8 (f:=λp=>p.1*p.2-(2*c.2+10) *p.1) (h:=λp=>p.1*p.2-2*c.2*p.1) (Q:=InB c) (λa b ha hb hr=>n_ ha hb hr) _ _ _ W1.desc (λp hp=>h p (W1.sub p hp)) h1 l1
 have b2:=m8 (f:=λp=>p.1*p.2-(2*c.2+10) *p.1) (h:=λp=>p.1*p.2-2*c.2*p.1) (Q:=InB c) (λa b ha hb hr=>n_ ha hb hr) _ _ _ W2.desc (λp hp=>h p (W2.sub p hp)) h2 l2
 have hn:=h z1 m1;have hx:=h _ (Nl Pn);generalize row.getLast Pn=y at *;have e:(y.1*y.2-2*c.2*y.1-(z1.1*z1.2-2*c.2*z1.1))-(y.1*y.2-(2*c.2+10) *y.1-(z1.1*z1.2-(2*c.2+10) *z1.1))=10*(y.1-z1.1):=by grind
 have b1':=b1.1;have b2':=b2.2;unfold InB at hn hx;lia
theorem o7{l:List P2}(O:gX l){z:List ST3.PQ}(hz:∀e∈z,e.1∈aJ l/\0<=e.2)(hk:0<sN z):∃u q v c,dC l=u++q::v/\(∀r∈u,inK (sN z) r (sX z,sY z)=false)/\inK (sN z) q (sX z,sY z)=true/\o_ q (sN z) (sX z,sY z) c:=by
 have PF:(∃q∈dC l,inK (sN z) q (sX z,sY z)=true)->(∀q∈dC l,inK (sN z) q (sX z,sY z)=true->∃c,o_ q (sN z) (sX z,sY z) c)->∃u q v c,dC l=u++q::v/\(∀r∈u,inK (sN z) r (sX z,sY z)=false)/\inK (sN z) q (sX z,sY z)=true/\o_ q (sN z) (sX z,sY z) c:=λh1 h2=>by
  obtain⟨u,q,v,e,n,y⟩:=kA h1;obtain⟨c,D⟩:=h2 q (by rw[e];simp) y
  exact⟨u,q,v,c,e,n,y,D⟩
 match l,O,hz with
 |[],O,_=>exact absurd rfl O.F.ne
 |[A],O,hz=>
  have e:dC [A]=[[A]]:=rfl;rw[e]at PF |-
  have hA:∀y∈z,y.1=A:=λy hy=>by
   have:=(hz y hy).1;rw[iu O.F]at this;exact EV.mp this
  obtain⟨s1,s2⟩:=x5 hA;have hi:inK (sN z) [A] (sX z,sY z)=true:=tz.mpr (by unfold scl;rw[s1,s2];exact F8 (Jg _ _) (Jg _ _))
  refine PF ⟨[A],by simp,hi⟩ λq hq hi=>?_
  rw[EV.mp hq]at hi |-;exact⟨_,(Du O hk hi).1⟩
 |[A,B],O,hz=>
  have e:dC [A,B]=dl (aJ [A,B]):=rfl;rw[e]at PF |-;exact PF (D_ O.F hz hk) λq hq hi=>C8 O hk hq hi
 |A::B::C::r,O,hz=>
  have h3:3<=(A::B::C::r).length:=by simp
  refine PF ?_ λq hq hi=>⟨q,Bc O h3 hk hq hi⟩
  obtain⟨T,hT,hi⟩:=Em O.F h3 hz hk;refine⟨_,?_,hi⟩;unfold dC;rw[if_neg (by simp),if_neg (by simp)]
  exact ER.mpr ⟨T,(SG.srt_mem _ _ _).mpr hT,rfl⟩
theorem xz{l:List P2}(O:gX l){x:P2}(hx:x∈aJ l):∃u q v c,dC l=u++q::v/\(∀r∈u,inK 1 r x=false)/\inK 1 q x=true/\o_ q 1 x c/\dr c 1 x=[(x,1)]:=by
 have e1:sN [(x,1)]=1:=by unfold sN;simp
 have e2:sX [(x,1)]=x.1:=by unfold sX;simp
 have e3:sY [(x,1)]=x.2:=by unfold sY;simp
 obtain⟨u,q,v,c,h1,h2,h3,D⟩:=o7 O (z:=[(x,1)]) (by intro e he;rw[EV.mp he];exact⟨hx,(by show (0:Int)<=1;decide)⟩) (by rw[e1];decide)
 rw[e1,e2,e3]at h2 h3 D;have hq:q∈dC l:=by rw[h1];simp
 refine⟨u,q,v,c,h1,h2,h3,D,?_⟩
 match l,O,hx,hq with
 |[],O,_,_=>exact absurd rfl O.F.ne
 |[A],O,hx,hq=>
  rw[EV.mp (show q∈[[A]] from hq)]at h3 D
  have W:=D.W
  have hxA:x=A:=by
   rw[iu O.F]at hx;exact EV.mp hx
  cases W with
  |one _ s t G=>
   have eq:=G.eq;refine wO ?_ (.inl hxA);unfold ae;dsimp only;grind
 |[A,B],O,hx,hq=>exact D5 O hx hq h3 D
 |A::B::C::r,O,hx,hq=>
  have hl:3<=(A::B::C::r).length:=by simp
  have W:=D.W;have D3:=Bc O hl (by decide) hq h3
  have e:dC (A::B::C::r)=(SG.srt ST3.KT (pcs (A::B::C::r))).map λt=>[t.1,t.2.1,t.2.2]:=by unfold dC;rw[if_neg (by simp),if_neg (by simp)]
  have PN:=hq;rw[e]at PN;obtain⟨T,_,rfl⟩:=ER.mp PN;cases W;exact Ew O hl hx hq h3
def W36:List P2:=(Fz 36).map λk=>(((k%6:Nat):Int),((k/6:Nat):Int))
theorem Br:W36.Nodup:=by decide+kernel
theorem t9{p:P2}(h:(0<=p.1/\p.1<=5)/\0<=p.2/\p.2<=5):p∈W36:=by
 unfold W36;refine ER.mpr ⟨(p.1+6*p.2).toNat,Fk.mpr (by lia),F8 (by dsimp only;lia) (by dsimp only;lia)⟩
def Win(p:P2):Prop:=(0<=p.1/\p.1<=5)/\0<=p.2/\p.2<=5
theorem qg{l:List P2}(F:Fld l)(hw:∀p∈l,Win p){p:P2}(h:bZ l p=true):Win p:=by
 have b:=(du F.ne).mp (F.in_box h);have hx:l.map (·.1)≠[]:=by simpa using F.ne
 have hy:l.map (·.2)≠[]:=by simpa using F.ne
 obtain⟨q1,m1,e1⟩:=ER.mp (bW hx).1;obtain⟨q2,m2,e2⟩:=ER.mp (cM hx).1;obtain⟨q3,m3,e3⟩:=ER.mp (bW hy).1;obtain⟨q4,m4,e4⟩:=ER.mp (cM hy).1;have w1:=hw q1 m1;have w2:=hw q2 m2;have w3:=hw q3 m3;have w4:=hw q4 m4;unfold loX hiX loY hiY at b;unfold Win at *;lia
theorem Aa{c:P2}{l:List P2}(F:Fld l)(h3:3<=l.length)(h:∀p∈aJ l,InB c p):(pcs l).length<64:=by
 have Pn:aJ l≠[]:=λe=>by
  have:=vI F h3;rw[e]at this;rw[<-this]at h3;simp[ao,ST.srt,am]at h3
 have:=v5 (b9 l) Pn h (l4 F h3);unfold pcs nW;rw[EH,FJ];lia
theorem uz{l:List P2}(h:(aJ l).length<=31):(pcs l).length<64:=by
 have:=t7 l;unfold pcs;rw[EH];lia
theorem oe{α:Type}(f g:α->Int)(k:Int):∀l:List α,(l.map λs=>k*(f s-g s)).sum=k*((l.map f).sum-(l.map g).sum)
 |[]=>by simp
 |a::l=>by
  simp only[E2,FW,oe f g k l];grind
theorem lM(w:P2->Int)(l:List P2):((sdl l).map λs=>w s.2).sum=((sdl l).map λs=>w s.1).sum:=by
 have e1:((sdl l).map λs=>w s.2)=(l.drop 1++l.take 1).map w:=by rw[<-nN,Fh];rfl
 have e2:((sdl l).map fun s=>w s.1)=(l.take 1++l.drop 1).map w:=by rw[JR];conv=>rhs;rw[←jk l]
                                                                   rw[Fh];rfl
 rw[e1,e2,FC,FC,L8,L8];lia
theorem xl(e f:Int)(l:List P2):area (l.map (shf 0 e f))=area l:=by
 unfold area;rw[ot,Fh]
 have h:∀s:P2×P2,(crs ∘ λs:P2×P2=>(shf 0 e f s.1,shf 0 e f s.2)) s=(crs s+e*(s.2.2-s.1.2))-f*(s.2.1-s.1.1):=λs=>by
  simp only[Function.comp,crs,shf];grind
 rw[GR (λs _=>h s),oP,o4,oe (λs:P2×P2=>s.2.2) (λs:P2×P2=>s.1.2),oe (λs:P2×P2=>s.2.1) (λs:P2×P2=>s.1.1),lM (λp=>p.2),lM (λp=>p.1)]
 simp
theorem oz(e f:Int)(a b:P2):gst (shf 0 e f a,shf 0 e f b)=gst (a,b):=by
 unfold gst shf;dsimp only;congr 2 <;>lia
theorem zZ(e f:Int)(l:List P2):kL (l.map (shf 0 e f))=kL l:=by
 unfold kL;rw[ot,Fh];exact congrArg Pe (GR λs _=>oz e f s.1 s.2)
theorem BY{a b c d:Int}(e f:Int)(h:a*d-b*c=1\/a*d-b*c=-1){l:List P2}(F:Fld l):iQ (ao (l.map (ap a b c d e f)))=iQ l:=by
 have hL:=nF h;rw[kM,ke];rcases F.cases with ⟨A,rfl⟩ |⟨A,B,rfl,lt⟩ |h3
 ·have:∀x:P2,ao [x]=[x]:=λx=>by simp[ao,ST.srt,ST.ins]
  simp only[E2,Ig,this];simp[iQ,pin,nX,gp,gst]
 ·have hn:A≠B:=λz=>by subst z;rw[ST.asc_irr]at lt;cases lt
  have e2:∀x y:P2,iQ [x,y]=gst (x,y)+1:=λx y=>by simp[iQ,pin,nX,gp]
  have e3:=og hL A B;simp only[E2,Ig]at e3 |-;rcases g9 (A:=(a*A.1+b*A.2,c*A.1+d*A.2)) (B:=(a*B.1+b*B.2,c*B.1+d*B.2)) (λz=>hn (hL.inj z)) with ⟨_,z⟩ |⟨_,z⟩
  ·rw[z];simp only[E2,Ig];rw[e2,e2,oz,e3]
  ·rw[z];simp only[E2,Ig];rw[e2,e2,oz,eB,e3]
 ·have l1:=fu hL h3;have hc:=F.cr;have a1:=xM hL h3;have r1:=Aj hL h3;rw[hc]at h3 a1 r1;unfold iQ pin nX;rw[EH,if_neg (by lia),if_neg (by lia),if_neg (by lia),if_neg (by lia),xl,zZ,a1,r1]
theorem tN{l:List P2}(F:Fld l){p:P2}(hp:p∈l):bZ l p=true:=by
 have hc:=F.cr
 match l,F,hc,hp with
 |[],_,_,hp=>cases hp
 |[A],_,_,hp=>rw[iH];exact EV.mp hp
 |[A,B],F,_,hp=>
  obtain⟨_,mA,mB,_⟩:=yz F;simp only[EO,Fo,or_false]at hp;rcases hp with rfl |rfl
  ·exact (br F _).mp mA
  ·exact (br F _).mp mB
 |A::B::C::r,F,hc,hp=>
  have h3:3<=(A::B::C::r).length:=by simp
  rw[fC h3];intro s hs;exact ((fQ (by rw[hc];exact h3)).mp (by rw[hc];exact hs)).2.2.2 p (by rw[hc];exact hp)
theorem Do(ns:List Int)(n:Int):∃a b c d:Int,(a*d-b*c=1\/a*d-b*c=-1)/\∀p,mvS ns n p=ap a b c d (mvE ns) (-mvF ns) p:=by
 by_cases h:cel ns 2%2=1
 ·refine⟨mvA ns n,1,1+mvB ns n*mvA ns n,mvB ns n,.inr (by grind),λp=>?_⟩
  unfold mvS flp ap;rw[if_pos h];exact F8 (by dsimp only;grind) (by dsimp only;grind)
 ·refine⟨1,mvA ns n,mvB ns n,1+mvB ns n*mvA ns n,.inl (by grind),λp=>?_⟩
  unfold mvS flp ap;rw[if_neg h];exact F8 (by dsimp only;grind) (by dsimp only;grind)
abbrev pj(j:Nat):P2:=((0+(j:Int))%6,(0+(j:Int))/6)
theorem Cj:W36=(Fz 36).map pj:=by decide+kernel
def bJ(l:List P2):List P2:=W36.filter λp=>bZ l p
def wkF(l:List P2):List (Option U):=(Fz 36).map λj=>if bZ l (pj j)=true then some (pu (pj j)) else none
theorem CM(l:List P2):(wkF l).filterMap id=(bJ l).map pu:=by
 unfold wkF bJ;rw[Cj];generalize Fz 36=L
 induction L with
 |nil=>rfl
 |cons a L ih=>
  rw[E2,E2,JZ];by_cases h:bZ l (pj a)=true
  ·rw[if_pos h,if_pos h,E2,<-ih];rfl
  ·rw[if_neg h,if_neg h];exact ih
theorem CC{m:Nat}:∀{L:List Int},(∀n∈L,Sz m n)->L.length<=60->Sz (m+6) L.sum:=λ{L} h hl=>by
 have key:∀L:List Int,(∀n∈L,Sz m n)->L.sum.natAbs<=L.length*2 ^ m:=λL=>by
  induction L with
  |nil=>intro _;simp
  |cons a L ih=>
   intro h;have h1:=ih λn hn=>h n (EJ _ hn)
   have h2:=h a ET;unfold Sz at h2;rw[FW,FN,Nat.add_mul,Nat.one_mul];lia
 have k:=key L h;unfold Sz;have:L.length*2 ^ m<=60*2 ^ m:=J2 _ hl;have e:2 ^ (m+6)=64*2 ^ m:=by rw[O8];lia
 have p:0<2 ^ m:=Nat.pos_of_ne_zero (by simp)
 lia
theorem yN:∀{z:List ST3.PQ},(∀e∈z,1<=e.2)->∀e∈z,e.2<=sN z
 |[],_,e,he=>by cases he
 |y::z,h,e,he=>by
  have hy:=h y ET
  have nn:∀L:List ST3.PQ,(∀e∈L,1<=e.2)->0<=sN L:=λL=>by
   induction L with
   |nil=>intro _;unfold sN;simp
   |cons a L ih=>
    intro h;have h1:=ih λy hy=>h y (EJ _ hy)
    have h2:=h a ET;unfold sN at *;rw[E2,FW];lia
  have hz:=nn z λe he=>h e (EJ _ he)
  have e1:sN (y::z)=y.2+sN z:=by unfold sN;simp
  rw[e1];rcases EO.mp he with rfl |k
  ·lia
  ·have:=yN (λe he=>h e (EJ _ he)) e k
   lia
structure K35(ns:List Int)(l0 l S:List P2)(z:List ST3.PQ):Prop where
 F0:Fld l0
 len0:l0.length<=27
 win:∀p∈l0,Win p
 O:gX l
 hS:∀p,p∈S↔p∈aJ l
 sl:S.length<=36
 sne:S≠[]
 hz:∀e∈z,e.1∈aJ l/\1<=e.2
 zl:z.length<=27
 kp:0<sN z
 pr:C1 z
 sk:Sz 300 (sN z)
 sx:Szp 5000 (sX z,sY z)
theorem Cq{ns:List Int}(hB:∀m∈ns,Sz 1048576 m):K35 ns (ao (spL ns)) (ao ((ao (spL ns)).map (mvS ns ((bJ (ao (spL ns))).length:Int)))) ((bJ (ao (spL ns))).map (mvS ns ((bJ (ao (spL ns))).length:Int))) (tkL ns ((bJ (ao (spL ns))).map (mvS ns ((bJ (ao (spL ns))).length:Int)))):=by
 have hN:=vP ns;have spl:(spL ns).length=nS ns:=by unfold spL;simp
 have spw:∀p∈spL ns,Win p:=λp hp=>by
  obtain⟨i,_,rfl⟩:=ER.mp hp;exact lL (by lia) (by lia)
 have sne:spL ns≠[]:=λe=>by rw[e]at spl;simp at spl;lia
 have F0:Fld (ao (spL ns)):=⟨hW sne,gC _⟩;have win:∀p∈ao (spL ns),Win p:=λp hp=>spw p (bA _ p hp)
 have cl:=hX (spL ns);generalize ao (spL ns)=l0 at *;generalize hn:((bJ l0).length:Int)=n at *;obtain⟨a,b,c,d,hd,hap⟩:=Do ns n;have emap:∀L:List P2,L.map (mvS ns n)=L.map (ap a b c d (mvE ns) (-mvF ns)):=λL=>GR λp _=>hap p
 rw[emap,emap]
 have wk:∀p,p∈bJ l0↔bZ l0 p=true:=λp=>by
  unfold bJ;rw[F4];exact⟨λh=>h.2,λh=>⟨t9 (qg F0 win h),h⟩⟩
 have wnd:(bJ l0).Nodup:=Br.sublist Ke;have wl:(bJ l0).length<=36:=Gs (Hm _ _) (by decide)
 have F:=wK (a:=a) (b:=b) (c:=c) (d:=d) (mvE ns) (-mvF ns) F0
 have hS:∀p,p∈(bJ l0).map (ap a b c d (mvE ns) (-mvF ns))↔p∈aJ (ao (l0.map (ap a b c d (mvE ns) (-mvF ns)))):=λp=>by
  rw[br F];obtain⟨q,rfl⟩:=BH (e:=mvE ns) (f:=-mvF ns) hd p;rw[yd _ _ hd F0];constructor
  ·intro h;obtain⟨r,hr,e⟩:=ER.mp h;rw[<-xg hd e];exact (wk r).mp hr
  ·intro h;exact ER.mpr ⟨q,(wk q).mpr h,rfl⟩
 have snd:((bJ l0).map (ap a b c d (mvE ns) (-mvF ns))).Nodup:=FF.mpr (wnd.imp λ{x y} h e=>h (xg hd e))
 have fnd:(aJ (ao (l0.map (ap a b c d (mvE ns) (-mvF ns))))).Nodup:=(b9 _).imp λ{x y} h e=>by subst e;exact aG _ h
 have fl:(aJ (ao (l0.map (ap a b c d (mvE ns) (-mvF ns))))).length<=36:=by
  have:=((Gj snd fnd).mpr hS).length_eq;rw[EH]at this;lia
 have szm:∀p,Win p->Szp 150 (ap a b c d (mvE ns) (-mvF ns) p):=λp hp=>by
  rw[<-hap p];obtain⟨sA,sB,sE,sF⟩:=A0 ns n
  have w8:Szp 8 (flp ns p):=by
   unfold Win at hp;unfold flp;split <;>(unfold Szp Sz;(try dsimp only);lia)
  have x1:=L2.Sz.add' (w8.1.mono (n:=30) (by decide)) ((L2.Sz.mul sA w8.2).mono (n:=30) (by decide))
  have x2:=L2.Sz.add' (w8.2.mono (n:=60) (by decide)) ((L2.Sz.mul sB x1).mono (n:=60) (by decide))
  exact⟨(L2.Sz.add' (x1.mono (n:=140) (by decide)) sE).mono (by decide),(L2.Sz.sub' (x2.mono (n:=140) (by decide)) sF).mono (by decide)⟩
 have O:gX (ao (l0.map (ap a b c d (mvE ns) (-mvF ns)))):=by
  refine⟨F,?_,λp hp=>?_,?_,by lia,λh3=>?_⟩
  ·have:=hX (l0.map (ap a b c d (mvE ns) (-mvF ns)));rw[EH]at this;lia
  ·obtain⟨q,hq,rfl⟩:=ER.mp (bA _ p hp);exact szm q (win q hq)
  ·rw[BY _ _ hd F0];exact Az (c:=(0,0)) F0 λp hp=>by have:=win p hp;unfold Win at this;unfold InB;dsimp only;lia
  ·by_cases k:n >16
   ·refine Aa (c:=(mvE ns,-mvF ns)) F h3 λp hp=>?_
    obtain⟨q,hq,rfl⟩:=ER.mp ((hS p).mpr hp);have wq:=qg F0 win ((wk q).mp hq);rw[<-hap q];unfold mvS mvA mvB;rw[if_pos k,if_pos k];unfold Win at wq;unfold InB flp;dsimp only;split <;>lia
   ·refine uz ?_;have:=((Gj snd fnd).mpr hS).length_eq;rw[EH]at this;lia
 have sne':(bJ l0).map (ap a b c d (mvE ns) (-mvF ns))≠[]:=λe=>by
  obtain⟨p,hp⟩:=KA _ F.ne
  have:p∈aJ (ao (l0.map (ap a b c d (mvE ns) (-mvF ns)))):=(br F p).mpr (by
   obtain⟨q,hq,rfl⟩:=ER.mp (bA _ p hp);rw[yd _ _ hd F0];exact tN F0 hq)
  have:=(hS p).mpr this;rw[e]at this;cases this
 generalize hSS:(bJ l0).map (ap a b c d (mvE ns) (-mvF ns))=S at *;have sl:S.length<=36:=by rw[<-hSS,EH];exact wl
 have hE:=tY ns;have zl:(tkL ns S).length=nT ns:=by unfold tkL;simp
 have hz:∀e∈tkL ns S,e.1∈S/\1<=e.2/\Sz 100 e.2:=λe he=>by
  obtain⟨i,_,rfl⟩:=ER.mp he;have s0:0<S.length:=FH.mpr sne';refine⟨ce ?_,(Bg _).1,(Bg _).2⟩;have m2:=GG (cel ns (7+(i:Int) *2)/7) (show (0:Int)<S.length by lia)
  have m1:=Hg (cel ns (7+(i:Int) *2)/7) (show (S.length:Int)≠0 by lia)
  lia
 have zn:2<=nT ns/\nT ns<=27:=by unfold nT;lia
 have f150:=O.f150
 have kp:0<sN (tkL ns S):=by
  have key:∀L:List ST3.PQ,(∀e∈L,1<=e.2)->(L.length:Int)<=sN L:=λL=>by
   induction L with
   |nil=>intro _;unfold sN;simp
   |cons e L ih=>
    intro h;have h1:=ih λy hy=>h y (EJ _ hy)
    have h2:=h e ET;unfold sN at *;rw[FN,E2,FW];lia
  have:=key _ λe he=>(hz e he).2.1
  lia
 have sm:∀f:ST3.PQ->Int,(∀e∈tkL ns S,Sz 260 (f e))->Sz 266 ((tkL ns S).map f).sum:=λf hf=>CC (λn hn=>by obtain⟨e,he,rfl⟩:=ER.mp hn;exact hf e he) (by rw[EH];lia)
 refine⟨F0,by lia,win,O,hS,sl,sne',λe he=>⟨(hS _).mp (hz e he).1,(hz e he).2.1⟩,by lia,kp,⟨by lia,λe he=>⟨(f150 _ ((hS _).mp (hz e he).1)).mono (by decide),(hz e he).2.2.mono (by decide)⟩⟩,?_,?_,?_⟩
 ·exact (sm (λe=>e.2) λe he=>(hz e he).2.2.mono (by decide)).mono (by decide)
 ·exact (sm (λe=>e.1.1*e.2) λe he=>(L2.Sz.mul (f150 _ ((hS _).mp (hz e he).1)).1 (hz e he).2.2).mono (by decide)).mono (by decide)
 ·exact (sm (λe=>e.1.2*e.2) λe he=>(L2.Sz.mul (f150 _ ((hS _).mp (hz e he).1)).2 (hz e he).2.2).mono (by decide)).mono (by decide)
theorem BF(T:Txt w K mg):ba P w K mg base (CXF P w) 11 T.aa4.a T.aa4.d ["script"] (spU K (ic)):=by
 refine aV T.aa4.F cf (λus o h=>?_) (λPp A outer s H E O us o hr h=>?_)
 ·obtain⟨ns,rfl,h63,hB,rfl⟩:=h;rfl
 obtain⟨ns,rfl,h63,hB,rfl⟩:=h;refine Ws.nox ?_;have K:=Cq hB;have hN:=vP ns;have spl:(spL ns).length=nS ns:=by unfold spL;simp
 have sps:∀p∈spL ns,Szp 5000 p:=λp hp=>by
  obtain⟨i,_,rfl⟩:=ER.mp hp;have:=lL (c:=cel ns 5) (x:=cel ns (6+(i:Int) *2)%6) (y:=cel ns (6+(i:Int) *2)/6%6) (by lia) (by lia)
  refine⟨Sz.mono (m:=8) ?_ (by decide),Sz.mono (m:=8) ?_ (by decide)⟩ <;>(unfold Sz pS;lia)
 refine af (aI (i:=1) cf.nd rfl (Or.inr rfl) (EvN.ev (bj ((fV T).mono (by decide)) hr rfl T.aae.m T.aae.F.kp T.aae.b au (ac (EvN.ev (bj ((k7 T).mono (by decide)) hr rfl T.aaw.m T.aaw.F.kp T.aaw.b au (ac (aa 0 rfl) aj ai) ⟨ns,rfl,h63,hB,rfl⟩)) aj aX) ⟨spL ns,rfl,sps,by lia,rfl⟩)) ?_)
 generalize ao (spL ns)=l0 at *;have z8:∀p,Win p->Szp 100 p:=λp hp=>by unfold Win at hp;refine⟨Sz.mono (m:=8) ?_ (by decide),Sz.mono (m:=8) ?_ (by decide)⟩ <;>(unfold Sz;lia)
 refine af (aI (i:=2) cf.nd rfl (Or.inr rfl) (EvN.ev (jt (wkF l0) rfl (blk (ak kC) ["script","near","walked","k","land","p","spots","point","handed","found","posts","pair","spot","some","kept","other"] [3] rfl rfl rfl rfl (by decide+kernel)) (kR rfl T.aaX (ac ag aj bC) (by decide) (by decide)) (λ_ _ _ _=>aQ (i:=3) cf.nd rfl (Or.inl rfl)) (bM (by decide)) ?clen ?csz (λ_ _=>trivial) ?ctest ?celt)) ?_)
 case clen=>unfold wkF;rw[EH,JG,cx];decide
 case csz=>rw[cx];exact FB (ay (by decide))
 case ctest=>
  intro C s' H' fp j x o hx ho;obtain⟨hj,rfl⟩:=dt hx;have RB:j<36:=by lia
  unfold wkF at ho;rw[ES,Gx RB]at ho;cases ho
  have key:(if bZ l0 (pj j)=true then some (pu (pj j)) else none).isSome=bZ l0 (pj j):=by
   cases h:bZ l0 (pj j) with
   |true=>rfl
   |false=>rfl
  rw[key];have sj:Szp 5000 (pj j):=⟨Sz.mono (m:=8) (by show Sz 8 ((0+(j:Int))%6);unfold Sz;lia) (by decide),Sz.mono (m:=8) (by show Sz 8 ((0+(j:Int))/6);unfold Sz;lia) (by decide)⟩
  exact (eI (ax ((rE T).mono (by decide)) hr rfl T.aaQ.m T.aaQ.F.kp T.aaQ.b au (ac (aa 1 rfl) (ac (bo (ar (cP (aa 3 rfl) ag (by walk_at"mod")) (ar (fA (aa 3 rfl) ag (by walk_at"div")) bg bp) bp)) aj dL) ai) ⟨l0,pj j,rfl,K.F0.ne,by have:=K.len0;lia,λp hp=>(z8 p (K.win p hp)).mono (by decide),sj,rfl⟩))
 case celt=>
  intro C s' H' fp j x y hx hy;obtain⟨hj,rfl⟩:=dt hx;have RB:j<36:=by lia
  unfold wkF at hy;rw[ES,Gx RB]at hy;by_cases h:bZ l0 (pj j)=true
  ·rw[HG,if_pos h]at hy;cases hy;exact (bo (ar (cP (aa 3 rfl) ag (by walk_at"mod")) (ar (fA (aa 3 rfl) ag (by walk_at"div")) bg bp) bp))
  ·rw[HG,if_neg h]at hy;cases hy
 rw[CM];have hm:(((bJ l0).map pu).length:Int)=((bJ l0).length:Int):=by rw[EH]
 have ww:∀p∈bJ l0,Win p:=λp hp=>qg K.F0 K.win (F4.mp hp).2
 have wl:(bJ l0).length<=36:=Gs (Hm _ _) (by decide)
 have len0:=K.len0;have win:=K.win;have O:=K.O;have ol:=O.l64
 have msz:∀p∈l0.map (mvS ns ((bJ l0).length:Int)),Szp 5000 p:=λp hp=>by
  obtain⟨q,hq,rfl⟩:=ER.mp hp;have hf:=(br O.F _).mp ((K.hS _).mp (ER.mpr ⟨q,F4.mpr ⟨t9 (win q hq),tN K.F0 hq⟩,rfl⟩));exact (O.f150 _ ((br O.F _).mpr hf)).mono (by decide)
 show Ws _ _ _ _ _ _ [some (.val (.scr (ns.map U.int))),some (.val (lp l0)),some (.val (lp (bJ l0))),none,none,none,none,none,none,none,none,none,none,none,none,none];refine af (aI (i:=4) cf.nd rfl (Or.inl rfl) (EvN.ev (bj ((fV T).mono (by decide)) hr rfl T.aae.m T.aae.F.kp T.aae.b au (ac (EvN.ev (dj (ys:=((l0.map (mvS ns ((bJ l0).length:Int))).map pu)) rfl (blk (ak kC) ["script","near","walked","k","land","p","spots","point","handed","found","posts","pair","spot","some","kept","other"] [5] rfl rfl rfl rfl (by decide+kernel)) (bQ (aa 1 rfl) (.inl rfl)) (λ_ _ _ _=>aQ (i:=5) cf.nd rfl (Or.inl rfl)) (bM (by decide)) ?clen ?csz (λ_ _=>trivial) ?celt)) aj ci) ⟨l0.map (mvS ns ((bJ l0).length:Int)),rfl,msz,by rw[EH];lia,rfl⟩)) ?_)
 case clen=>simp
 case csz=>rw[EH];exact FB (ay (by lia))
 case celt=>
  intro C s' H' fp j x y hx hy;rw[Fh]at hy;obtain⟨p,hp,mp,rfl,rfl⟩:=cH hx hy;show Ev _ _ _ _ _ (pu (mvS ns ((bJ l0).length:Int) p));rw[<-hm];exact (ax ((gJ T).mono (by decide)) hr rfl T.aah.m T.aah.F.kp T.aah.b au (ac (aa 0 rfl) (ac (aq (bn rfl) rfl T.aac E8 (ac (aa 2 rfl) aj ai)) (ac (aa 5 rfl) aj ai) aX) ai) ⟨ns,_,p,rfl,h63,hB,z8 p (win p mp),rfl⟩)
 refine af (aI (i:=6) cf.nd rfl (Or.inr rfl) (EvN.ev (dj (ys:=(((bJ l0).map (mvS ns ((bJ l0).length:Int))).map pu)) rfl (blk (ak kC) ["script","near","walked","k","land","p","spots","point","handed","found","posts","pair","spot","some","kept","other"] [5] rfl rfl rfl rfl (by decide+kernel)) (bQ (aa 2 rfl) (.inl rfl)) (λ_ _ _ _=>aQ (i:=5) cf.nd rfl (Or.inl rfl)) (bM (by decide)) ?clen ?csz (λ_ _=>trivial) ?celt)) ?_)
 case clen=>simp
 case csz=>rw[EH];exact FB (ay (by lia))
 case celt=>
  intro C s' H' fp j x y hx hy;rw[Fh]at hy;obtain⟨p,hp,mp,rfl,rfl⟩:=cH hx hy;show Ev _ _ _ _ _ (pu (mvS ns ((bJ l0).length:Int) p));rw[<-hm];exact (ax ((gJ T).mono (by decide)) hr rfl T.aah.m T.aah.F.kp T.aah.b au (ac (aa 0 rfl) (ac (aq (bn rfl) rfl T.aac E8 (ac (aa 2 rfl) aj ai)) (ac (aa 5 rfl) aj ai) aX) ai) ⟨ns,_,p,rfl,h63,hB,z8 p (ww p mp),rfl⟩)
 generalize ao (l0.map (mvS ns ((bJ l0).length:Int)))=l at *;generalize (bJ l0).map (mvS ns ((bJ l0).length:Int))=S at *;show Ws _ _ _ _ _ _ [some (.val (.scr (ns.map U.int))),some (.val (lp l0)),some (.val (lp (bJ l0))),none,some (.val (lp l)),none,some (.val (lp S)),none,none,none,none,none,none,none,none,none];have sl:=K.sl;have s0:0<S.length:=FH.mpr K.sne;refine af (AV (ax ((i6 T).mono (by decide)) hr rfl T.aat.m T.aat.F.kp T.aat.b au (ac (EvN.ev (bj ((lg T).mono (by decide)) hr rfl T.aax.m T.aax.F.kp T.aax.b au (ac (aa 0 rfl) (ac (aa 6 rfl) aj ai) ai) ⟨ns,S,rfl,h63,hB,K.sne,by lia,rfl⟩)) aj aX) ⟨tkL ns S,rfl,K.pr,rfl⟩) (wV [3,7] rfl (bS (aQ (i:=3) cf.nd rfl (Or.inl rfl)) (bS (aQ (i:=7) cf.nd rfl (Or.inl rfl)) fI)) rfl) ?_)
 obtain⟨u,q,v,c,h1,h2,h3,D⟩:=o7 O (λe he=>⟨(K.hz e he).1,by have:=(K.hz e he).2;lia⟩) K.kp
 have kp:=K.kp;have sk:=K.sk;have sx:=K.sx;obtain⟨u',q',v',c',g1,g2,g3,D',own⟩:=xz O ((K.hS _).mp (ce (l:=S) (i:=S.length-1) (by lia)))
 have szS:∀p∈S,Szp 150 p:=λp hp=>O.f150 p ((K.hS p).mp hp)
 generalize sN (tkL ns S)=k at *;generalize sX (tkL ns S)=x1 at *;generalize sY (tkL ns S)=x2 at *;have TL:=D.T;have qin:=t5 O.F (show q∈dC l by rw[h1];simp)
 have tin:∀e∈dr c k (x1,x2),e.1∈aJ l:=λe he=>qin.2.2 _ (D.mem e he)
 have tS:∀e∈dr c k (x1,x2),e.1∈S:=λe he=>(K.hS _).mpr (tin e he)
 have pos:=TL.pos
 have tsz:∀e∈dr c k (x1,x2),Sz 300 e.2:=λe he=>by
  have h1:=yN pos e he;have h2:=pos e he;rw[TL.n]at h1;unfold Sz at sk |-;lia
 have QI:iJ [lp l,.int k,pu (x1,x2)] (.new ((dr c k (x1,x2)).map qU)):=⟨l,k,(x1,x2),u,q,v,c,rfl,O,by lia,sk.mono (by decide),sx,h1,h2,h3,D.W,D.sz,D.nd,rfl⟩
 have RG:iJ [lp l,.int 1,pu (gp S (S.length-1))] (.new ([(gp S (S.length-1),(1:Int))].map qU)):=by
  rw[<-own];exact⟨l,1,_,u',q',v',c',rfl,O,by decide,Sz.mono (m:=8) (by decide) (by decide),(szS _ (ce (by lia))).mono (by decide),g1,g2,g3,D'.W,D'.sz,D'.nd,rfl⟩
 have hq:∀p∈(dr c k (x1,x2)).map (·.1),p∈q:=λp hp=>by
  obtain⟨e,he,rfl⟩:=ER.mp hp;exact D.mem e he
 have mq:q∈dC l:=by rw[h1];simp
 refine af (aI (i:=8) cf.nd rfl (Or.inl rfl) (EvN.ev (cU (eC rfl) rfl T.aaG HQ (ac (aa 4 rfl) aj ai))) ?_);refine af (aI (i:=9) cf.nd rfl (Or.inl rfl) (EvN.ev (bj ((nR T).mono (by decide)) hr rfl T.aaU.m T.aaU.F.kp T.aaU.b au (ac (aa 8 rfl) (ac (aa 3 rfl) (ac (aa 7 rfl) aj ai) ai) ai) QI)) ?_)
 generalize dr c k (x1,x2)=tl at *;have tlen:=TL.len;have okt:okU 9 (.lst (tl.map qU))=true:=oI λ_=>rfl
 refine af (bv (Tw.t (jL (aA (DD (eK hr) (xO _) (xO _)) (aa 8 rfl) (aa 4 rfl)) (λhz=>(jL (fo (eI (ax ((lf T).mono (by decide)) hr rfl T.aav.m T.aav.F.kp T.aav.b au (ac (aa 9 rfl) aj ai) ⟨tl,rfl,tlen,pos,rfl⟩))) (λhz=>(ja (aA (DD (eK hr) rfl rfl) (ax ((i6 T).mono (by decide)) hr rfl T.aat.m T.aat.F.kp T.aat.b au (ac (aa 9 rfl) aj ai) ⟨tl,rfl,⟨by lia,λe he=>⟨(szS _ (tS e he)).mono (by decide),tsz e he⟩⟩,rfl⟩) (bo (ar (aa 3 rfl) (ar (aa 7 rfl) bg ai) ai))))))))) (by rw[TL.n,TL.x1,TL.y1,gj 9 _ (xO l),gj 9 _ rfl];rfl) (aB ?_))
 refine af (ve (ys:=((tl.map (·.1)).map pu)) (j:=10) false rfl cf.nd rfl (Or.inl rfl) (blk (ak kC) ["script","near","walked","k","land","p","spots","point","handed","found","posts","pair","spot","some","kept","other"] [11] rfl rfl rfl rfl (by decide+kernel)) (bQ (aa 9 rfl) (.inl rfl)) (λ_ _ _ _=>aQ (i:=11) cf.nd rfl (Or.inl rfl)) (bM (by decide)) ?clen ?csz (λ_ _=>trivial) ?celt ?_)
 case clen=>simp
 case csz=>rw[EH];exact FB (ay (by lia))
 case celt=>
  intro C s' H' fp j x y hx hy;rw[Fh]at hy;obtain⟨e,he,me,rfl,rfl⟩:=cH hx hy;exact (aw (aa 11 rfl) ag rfl rfl)
 have hP:∀p∈tl.map (·.1),p∈S:=λp hp=>by
  obtain⟨e,he,rfl⟩:=ER.mp hp;exact tS e he
 have near:=TL.near;have pl:(tl.map (·.1)).length<=3:=by rw[EH];exact tlen
 generalize tl.map (·.1)=P at *;refine af (bv (Tw.t (jL (aA kw (aq (bn rfl) rfl T.aac E8 (ac (EvN.ev (jt (inQ P S) rfl (blk (ak kC) ["script","near","walked","k","land","p","spots","point","handed","found","posts","pair","spot","some","kept","other"] [12] rfl rfl rfl rfl (by decide+kernel)) (bQ (aa 10 rfl) (.inl rfl)) (λ_ _ _ _=>aQ (i:=12) cf.nd rfl (Or.inl rfl)) (bM (by decide)) ?clen ?csz (λ_ _=>trivial) ?ctest ?celt)) aj ci)) (aq (bn rfl) rfl T.aac E8 (ac (aa 10 rfl) aj ai))) (λhz=>(ja (fo (eI (ax ((ov T).mono (by decide)) hr rfl T.aaA.m T.aaA.F.kp T.aaA.b au (ac (aa 10 rfl) aj ai) ⟨P,rfl,near,λp hp=>(szS p (hP p hp)).mono (by decide),rfl⟩))))))) (show (!decide ((((inQ P S).filterMap id).length:Int)=((P.map pu).length:Int)) || !true)=false by rw[tw hP,EH];simp) (aB ?_))
 case clen=>unfold inQ;simp
 case csz=>rw[EH];exact FB (ay (by lia))
 case ctest=>
  intro C s' H' fp j z o hz ho;obtain⟨p,hp,mp,rfl⟩:=kJ hz;unfold inQ at ho;rw[ES,hp]at ho;cases ho
  have key:(if p∈S then some (pu p) else none).isSome=decide (p∈S):=by
   by_cases h:p∈S
   ·rw[if_pos h,decide_eq_true h];rfl
   ·rw[if_neg h,decide_eq_false h];rfl
  rw[key];exact (aA (Di (eK hr)) (aa 12 rfl) (aa 6 rfl))
 case celt=>
  intro C s' H' fp j z y hz hy;obtain⟨p,hp,mp,rfl⟩:=kJ hz;unfold inQ at hy;rw[ES,hp]at hy;by_cases h:p∈S
  ·rw[HG,if_pos h]at hy;cases hy;exact (aa 12 rfl)
  ·rw[HG,if_neg h]at hy;cases hy
 refine af (aI (i:=13) cf.nd rfl (Or.inl rfl) (EvN.ev (bj ((l6 T).mono (by decide)) hr rfl T.aaI.m T.aaI.F.kp T.aaI.b au (ac (EvN.ev (cU (eC rfl) rfl T.aaG HQ (ac (aa 4 rfl) aj ai))) aj aX) ⟨l,rfl,O,rfl⟩)) ?_)
 refine af (bv (Tw.t (jL (fo (eI (aq (cW (by intro _ h;cases h) (L2.kit_list_list _)) rfl T.aai Hk (ac (aa 13 rfl) (ac (nY rfl T.aaG HQ) aj ai) ai)))) (λhz=>(ja (fo (eI (ax ((kU T).mono (by decide)) hr rfl T.aas.m T.aas.F.kp T.aas.b au (ac (aa 10 rfl) (ac (aa 13 rfl) aj ai) ai) ⟨P,dC l,rfl,by lia,⟨q,mq,hq⟩,rfl⟩))))))) rfl (aB ?_))
 refine af (aI (i:=14) cf.nd rfl (Or.inl rfl) (EvN.ev (cU (eC rfl) rfl T.aaG HQ (ac (aa 9 rfl) aj ai))) ?_);refine af (aI (i:=15) cf.nd rfl (Or.inl rfl) (EvN.ev (bj ((nR T).mono (by decide)) hr rfl T.aaU.m T.aaU.F.kp T.aaU.b au (ac (EvN.ev (cU (eC rfl) rfl T.aaG HQ (ac (aa 4 rfl) aj ai))) (ac ag (ac (aw (aa 6 rfl) (bO ag) rfl (jx s0)) aj aH) bC) aX) RG)) ?_)
 refine af (a_ (j0 (eM (zh (eK hr) (by walk_at"ok") (by walk_at"ok")) (aa 15 rfl) (EvN.ev (dg (ar (bo (ar (aw (aa 6 rfl) (bO ag) rfl (jx s0)) (ar ag bg bC) aH)) bg dL)))) (λhz=>(j0 (eM (zh (eK hr) okt okt) (aa 9 rfl) (aa 14 rfl)) (λhz=>(lG (eM (zh (eK hr) okt okt) (EvN.ev (bj ((nR T).mono (by decide)) hr rfl T.aaU.m T.aaU.F.kp T.aaU.b au (ac (EvN.ev (cU (eC rfl) rfl T.aaG HQ (ac (aa 4 rfl) aj ai))) (ac (aa 3 rfl) (ac (aa 7 rfl) aj ai) ai) aX) QI)) (aa 14 rfl))))))) ?_)
 refine vB ?_;rw[gj 9 (.lst (tl.map qU)) okt];show (eqW (.lst [qU (gp S (S.length-1),1)]) (.lst [qU (gp S (S.length-1),1)]) && (true && true))=true;rw[gj 9 _ rfl];rfl
end
theorem ar1{fd:F5}{ps:List Str}{us:List EN}(h:us.length=1)(q:∀a0,JL fd ⟨[a0],[]⟩=pure (ps.zip [a0])):JL fd ⟨us,[]⟩=pure (ps.zip us):=match us,h with |[a0],_=>q a0
theorem ar2{fd:F5}{ps:List Str}{us:List EN}(h:us.length=2)(q:∀a0 a1,JL fd ⟨[a0,a1],[]⟩=pure (ps.zip [a0,a1])):JL fd ⟨us,[]⟩=pure (ps.zip us):=match us,h with |[a0,a1],_=>q a0 a1
theorem ar3{fd:F5}{ps:List Str}{us:List EN}(h:us.length=3)(q:∀a0 a1 a2,JL fd ⟨[a0,a1,a2],[]⟩=pure (ps.zip [a0,a1,a2])):JL fd ⟨us,[]⟩=pure (ps.zip us):=match us,h with |[a0,a1,a2],_=>q a0 a1 a2
theorem ar4{fd:F5}{ps:List Str}{us:List EN}(h:us.length=4)(q:∀a0 a1 a2 a3,JL fd ⟨[a0,a1,a2,a3],[]⟩=pure (ps.zip [a0,a1,a2,a3])):JL fd ⟨us,[]⟩=pure (ps.zip us):=match us,h with |[a0,a1,a2,a3],_=>q a0 a1 a2 a3
theorem bd_count{K:EI}{D:EX}{x1 x2 x3 t:_}(q:K.lookup D=some ⟨.type "tuple",x1,.seq #[.int 1 t] x2,x3⟩)(kV dc pm:EN)(an:Option EX)(cd ct:EN):dF K (Hv "count" "count" (cj eR) (bN eR) (ak eR) (.ref D) kV dc pm an cd ct) ["land","k"] []∧∃t,dF K (Hv "count" "count" (cj eR) (bN eR) (ak eR) (.ref D) kV dc pm an cd ct) ["land","k"] [.int 1 t]:=
 ⟨λs us X hl=>match us,hl with |[_,_],_=>BindsTo.of_defaults rfl (X _ _ q) rfl rfl rfl,t,λs us X hl=>match us,(show us.length=1 by simpa using hl) with |[_],_=>BindsTo.of_defaults rfl (X _ _ q) rfl rfl rfl⟩
abbrev spLaw(K:EI):Sp:=spU K ic
theorem law_start(K:EI)(H:Hp)(a:EX)(ns:List Int)(h1:ns.length<=63)(h2:∀m∈ns,Sz 1048576 m)(_:zI H)(h3:SqL K H a (ns.map V.int)):spLaw K [.ref a] H (λv _=>v=.bl true) λ_ _ _=>False:=vG h1 h2 h3
theorem law_ok{P:EW}{w:Fl}{K:EI}{mg:Str→Option EN}{fa:EX}(hfa:mg "law"=some (.ref fa))(T:Txt w K mg):
  ∃fd:F5,(∀(s:EL) (u:EN),MP s fd ⟨[u],[]⟩ [("script",u)])∧∀base:GD,K.In base→base.Ns GP mg→ba P w K mg base CX0 11 fa fd ["script"] (spLaw K):=by
 cases hfa.symm.trans T.aa4.m;obtain⟨_,_,_,_,_,_,_,_,_,hd,_⟩:=T.aa4.F.ex;exact⟨T.aa4.d,λs v=>by rw[hd];exact .of_eq rfl,λbase _ _=>(BF T).calm xC⟩
end My
namespace PySem.W.Fast
theorem tw2755315728333568859:True:=trivial
theorem tw10045049605076401897:True:=trivial
theorem tw11088653275446781720:True:=trivial
theorem tw14406774542872463391:True:=trivial
theorem tw7386796314676488018:True:=trivial
theorem tw16535525401945839172:True:=trivial
theorem tw1751537925621186157:True:=trivial
theorem tw7419390558158046517:True:=trivial
theorem tw5771929477124233296:True:=trivial
theorem tw6382192799737227445:True:=trivial
theorem tw10669431668691713441:True:=trivial
theorem tw15188158311052737934:True:=trivial
theorem tw15741798146703236812:True:=trivial
theorem tw6766210077469938022:True:=trivial
theorem tw15874834555836895221:True:=trivial
theorem tw12417202659497079745:True:=trivial
theorem tw18305232183022669357:True:=trivial
theorem tw4700715069576630234:True:=trivial
theorem tw3230818182359889069:True:=trivial
theorem tw6527859207840311571:True:=trivial
theorem tw14759023368898920295:True:=trivial
theorem tw15608081013669901665:True:=trivial
theorem tw7758059890070819854:True:=trivial
theorem tw9041982382251436939:True:=trivial
theorem tw11450500056918403668:True:=trivial
theorem tw6020067717143824953:True:=trivial
theorem tw4707865534492341402:True:=trivial
theorem tw10028845945624659694:True:=trivial
theorem tw13560705434302944570:True:=trivial
theorem tw14763368359078810796:True:=trivial
theorem tw10215775436691554145:True:=trivial
theorem tw888101331185761960:True:=trivial
theorem tw17434024073016988788:True:=trivial
theorem tw3746859979632988551:True:=trivial
theorem tw2838215147154248724:True:=trivial
theorem tw9679896824214126705:True:=trivial
theorem tw17417597860859652172:True:=trivial
theorem tw1031770747904603877:True:=trivial
theorem tw13379264681943897286:True:=trivial
theorem tw2863276425163096734:True:=trivial
theorem tw661928815202467589:True:=trivial
theorem tw15709640153277437311:True:=trivial
theorem tw16448548321125148222:True:=trivial
theorem tw17160110323907837428:True:=trivial
theorem tw6266973933788812864:True:=trivial
theorem tw12570962790940187675:True:=trivial
theorem tw11566484061212416713:True:=trivial
theorem tw6153849999358236123:True:=trivial
theorem tw10238663962235487559:True:=trivial
theorem tw1149403605604934390:True:=trivial
theorem tw3974294365644004395:True:=trivial
theorem tw15906632450472863564:True:=trivial
theorem tw2739943395184249279:True:=trivial
theorem tw6915177411021179050:True:=trivial
theorem tw8127129364274348188:True:=trivial
theorem tw6985540007253801040:True:=trivial
theorem tw14762082692828918004:True:=trivial
theorem tw8041971973632411222:True:=trivial
theorem tw1859797988484919908:True:=trivial
theorem tw2680725101579808994:True:=trivial
theorem tw13343886012526954029:True:=trivial
theorem tw1838273173834257993:True:=trivial
theorem tw16030541203919350313:True:=trivial
theorem tw2201142236657165763:True:=trivial
theorem tw8380983641733022582:True:=trivial
theorem tw1335179533258442790:True:=trivial
theorem tw5819252350507259860:True:=trivial
theorem tw15278836571447532905:True:=trivial
theorem tw17023339318566434952:True:=trivial
theorem tw9051712451504724585:True:=trivial
theorem tw12613173725943685056:True:=trivial
theorem tw149257029153779376:True:=trivial
theorem tw14673082996438878329:True:=trivial
theorem tw7205257382419942970:True:=trivial
theorem tw15318204786537067445:True:=trivial
theorem tw6208412147195138940:True:=trivial
theorem tw8341128553890295673:True:=trivial
theorem tw11650677293172606250:True:=trivial
theorem tw13931114222907354975:True:=trivial
theorem tw12346742313358662227:True:=trivial
theorem tw3708921610147224959:True:=trivial
theorem tw8984495156301676218:True:=trivial
theorem tw14577994428966382222:True:=trivial
theorem tw1069183766948392370:True:=trivial
theorem tw3424014281352976023:True:=trivial
theorem tw5093328565462712669:True:=trivial
theorem tw6489640648399048570:True:=trivial
theorem tw17727497980844488447:True:=trivial
theorem tw16544652988998836767:True:=trivial
theorem tw471432559287448357:True:=trivial
theorem tw17313770691537868862:True:=trivial
theorem tw7790516939558247360:True:=trivial
theorem tw3644213097677826917:True:=trivial
theorem tw15468399878465561861:True:=trivial
theorem tw3389153634328973750:True:=trivial
theorem tw11194838254345123947:True:=trivial
theorem tw13237573705680116361:True:=trivial
theorem tw14949421511348602204:True:=trivial
theorem tw17101736235073948094:True:=trivial
theorem tw9812594509312585253:True:=trivial
theorem tw13981428272357585590:True:=trivial
theorem tw16268553350119323479:True:=trivial
theorem tw17534636638794886190:True:=trivial
theorem tw12693197630676259818:True:=trivial
theorem tw7138906401377275785:True:=trivial
theorem tw18442582605593921720:True:=trivial
theorem tw14120492620382231847:True:=trivial
theorem tw9102843833313299110:True:=trivial
theorem tw14205678108799588671:True:=trivial
theorem tw12613115221957114201:True:=trivial
theorem tw9411968576269312076:True:=trivial
theorem tw5902638640480530994:True:=trivial
theorem tw13095337322087483157:True:=trivial
theorem tw756405108358528320:True:=trivial
theorem tw14278533679653407828:True:=trivial
theorem tw359697200833973577:True:=trivial
theorem tw5107363105024876564:True:=trivial
theorem tw7748743151472354404:True:=trivial
theorem tw4781500233488467508:True:=trivial
theorem tw170712101573270635:True:=trivial
theorem tw1444399649413286167:True:=trivial
theorem tw2319223337885577997:True:=trivial
theorem tw3100626307966412973:True:=trivial
theorem tw12710514773217129865:True:=trivial
theorem tw15497226481150472165:True:=trivial
theorem tw14978471515064555330:True:=trivial
theorem tw17187662522098156461:True:=trivial
theorem tw9798780981948418308:True:=trivial
theorem tw6774145074316505109:True:=trivial
theorem tw13622913699881485815:True:=trivial
theorem tw7207476408544749977:True:=trivial
theorem tw12149102239201939245:True:=trivial
theorem tw15807374442092500999:True:=trivial
theorem tw11765640020587847274:True:=trivial
theorem tw1085584543484539716:True:=trivial
theorem tw10136402467833418493:True:=trivial
theorem tw14159451107557174608:True:=trivial
theorem tw268289500337521081:True:=trivial
theorem tw18399950223204064756:True:=trivial
theorem tw8058595472962871848:True:=trivial
theorem tw16957565199545232977:True:=trivial
theorem tw16718543577352708889:True:=trivial
theorem tw14609592182787370170:True:=trivial
theorem tw5579557297362627169:True:=trivial
theorem tw17403621795297208737:True:=trivial
theorem tw10461159712764260028:True:=trivial
theorem tw12480984231453959813:True:=trivial
theorem tw7762642908231086975:True:=trivial
theorem tw8364860546428756760:True:=trivial
theorem tw11421665117426731261:True:=trivial
theorem tw13427076875504637440:True:=trivial
theorem tw3280830758417692383:True:=trivial
theorem tw14139187766887168445:True:=trivial
theorem tw17361886216652788474:True:=trivial
theorem tw12150494456224814047:True:=trivial
theorem tw2755789006009823162:True:=trivial
theorem tw6670028969920723768:True:=trivial
theorem tw16613202587790900330:True:=trivial
theorem tw4505160105870951897:True:=trivial
theorem tw16059232084091838116:True:=trivial
theorem tw14197327749321875247:True:=trivial
theorem tw7983764285674758364:True:=trivial
theorem tw6710025220576443157:True:=trivial
theorem tw7359253480546120395:True:=trivial
theorem tw10981593604050742924:True:=trivial
theorem tw17290302239827445654:True:=trivial
theorem tw16008333877868260986:True:=trivial
theorem tw11414005405692347749:True:=trivial
theorem tw7401890512446031700:True:=trivial
theorem tw5023503083399168566:True:=trivial
end PySem.W.Fast
open PySem PySem.W PyProof.Rows L2
set_option maxRecDepth 100000 in
set_option maxHeartbeats 0 in
set_option maxHeartbeats 0 in
theorem PySem.Challenge.cw_stakefield_k35_told_sums_holds : PySem.Challenge.rw_stakefield_k35_told_sums.Holds := by
 w_on;o_law;k_head;(case hw=>w_witness2)
 k_fill
 refine L2.walk_ofB (l:=PySem.Challenge.rw_stakefield_k35_told_sums) (n:=63) (k:=11) (x:="script") (CX:=CX0) (sp:=My.spLaw) rfl (by decide) rfl ⟨rfl,by decide,by decide⟩ (λw h Y=>by first |exact NW Y |exact PySem.W.km_in_of Y) ?F My.law_start (λ_ _ _ _ z=>z)
 case F=>
  intro w mg fa h KX G hmg
  refine' My.law_ok hmg ⟨L2.dfn KX G (by walk_at"b1") ?_ ?_ ?_ ?_,L2.dfn KX G (by walk_at"b1") ?_ ?_ ?_ ?_,L2.dfn KX G (by walk_at"b2") ?_ ?_ ?_ ?_,L2.dfn KX G (by walk_at"b1") ?_ ?_ ?_ ?_,L2.dfn KX G (by walk_at"b1") ?_ ?_ ?_ ?_,L2.dfn KX G (by walk_at"b1") ?_ ?_ ?_ ?_,L2.dfn KX G (by walk_at"b2") ?_ ?_ ?_ ?_,L2.dfn KX G (by walk_at"b2") ?_ ?_ ?_ ?_,L2.dfn KX G (by walk_at"b1") ?_ ?_ ?_ ?_,L2.dfn KX G (by walk_at"b2") ?_ ?_ ?_ ?_,L2.dfn KX G (by walk_at"b2") ?_ ?_ ?_ ?_,L2.dfn KX G (by walk_at"b3") ?_ ?_ ?_ ?_,L2.dfn KX G (by walk_at"b1") ?_ ?_ ?_ ?_,L2.dfn KX G (by walk_at"b1") ?_ ?_ ?_ ?_,L2.dfn KX G (by walk_at"b1") ?_ ?_ ?_ ?_,L2.dfn KX G (by walk_at"b3") ?_ ?_ ?_ ?_,L2.dfn KX G (by walk_at"b2") ?_ ?_ ?_ ?_,L2.dfn KX G (by walk_at"b1") ?_ ?_ ?_ ?_,L2.dfn KX G (by walk_at"b1") ?_ ?_ ?_ ?_,L2.dfn KX G (by walk_at"b2") ?_ ?_ ?_ ?_,L2.dfn KX G (by walk_at"b2") ?_ ?_ ?_ ?_,L2.dfn KX G (by walk_at"b2") ?_ ?_ ?_ ?_,L2.dfn KX G (by walk_at"b1") ?_ ?_ ?_ ?_,L2.dfD KX G My.bd_count ?_ ?_ ?_ ?_ ?_,L2.dfn KX G (by walk_at"b2") ?_ ?_ ?_ ?_,L2.dfn KX G (by walk_at"b1") ?_ ?_ ?_ ?_,L2.dfn KX G (by walk_at"b1") ?_ ?_ ?_ ?_,L2.dfn KX G (by walk_at"b2") ?_ ?_ ?_ ?_,L2.dfn KX G (by walk_at"b1") ?_ ?_ ?_ ?_,L2.dfn KX G (by walk_at"b1") ?_ ?_ ?_ ?_,L2.dfn KX G (λ_ _ _ _ _ _ _ h=>My.ar4 h λ_ _ _ _=>rfl) ?_ ?_ ?_ ?_,L2.dfn KX G (by walk_at"b3") ?_ ?_ ?_ ?_,L2.dfn KX G (by walk_at"b3") ?_ ?_ ?_ ?_,L2.dfn KX G (by walk_at"b2") ?_ ?_ ?_ ?_,L2.dfn KX G (by walk_at"b2") ?_ ?_ ?_ ?_,L2.dfn KX G (by walk_at"b3") ?_ ?_ ?_ ?_,L2.dfn KX G (by walk_at"b1") ?_ ?_ ?_ ?_,L2.dfn KX G (by walk_at"b1") ?_ ?_ ?_ ?_,L2.dfn KX G (by walk_at"b2") ?_ ?_ ?_ ?_,L2.dfn KX G (by walk_at"b3") ?_ ?_ ?_ ?_,L2.dfn KX G (by walk_at"b1") ?_ ?_ ?_ ?_,L2.dfn KX G (by walk_at"b1") ?_ ?_ ?_ ?_,L2.dfn KX G (by walk_at"b1") ?_ ?_ ?_ ?_,L2.dfn KX G (by walk_at"b2") ?_ ?_ ?_ ?_,L2.dfn KX G (by walk_at"b1") ?_ ?_ ?_ ?_,L2.dfn KX G (by walk_at"b1") ?_ ?_ ?_ ?_,L2.dfn KX G (by walk_at"b3") ?_ ?_ ?_ ?_,L2.dfn KX G (by walk_at"b1") ?_ ?_ ?_ ?_,L2.dfn KX G (by walk_at"b2") ?_ ?_ ?_ ?_,L2.dfn KX G (by walk_at"b1") ?_ ?_ ?_ ?_,FR KX G ?_,FR KX G ?_,FR KX G ?_,FR KX G ?_,FR KX G ?_,FR KX G ?_,FR KX G ?_,FR KX G ?_,FR KX G ?_,FR KX G ?_,FR KX G ?_,FR KX G ?_,FR KX G ?_,FR KX G ?_,FR KX G ?_,FR KX G ?_,L2.g_i KX G ?_⟩
  all_goals try first |k_is | (dsimp only[L2.exn];first |k_is |k_exc |kit_is)
