import PyProof.Rows.All
import Wide.All
import OpenK.AllK
import Wide.FinOn
import Lean
import PyProof.EqAt
import PyProof.EqKinds
import PyProof.NeKinds
import PyProof.TupleCall
import KE.KDictSum
import KE.KSortTup
import KE.KRevIter
import KE.KRevSl
import PySem.Challenge.RW_stakefield_k85_whole_twelve_by_text
open PySem renaming wpAny_bind->Gk,Value->Gr,Shared->Gs,starEach->Gv,wpAny_pure->Gw,Addr->GE,Program->GF,boot_len->GL,wpAny->GQ,model->G1,World->G5,Around->Ha,foldedSetIterable->Hg,compareOp->Hh,wpAny_Call_Name_kw->Hj,wpAny_holding->Hs,FuncData->Hw,backTo->Hx,mainGlobals->HB,wpAny_mono->HC,attributeBase->HR,eval->HY,keywordEach->HZ,Heap->H_,sizeLine_eq->Ij,swapsWith->Ip,Stmt->Iy,wpAny_call_entry->IB,mem_of_lookup->ID,bootBuiltins->IF,wpAny_truthy_bool->IG,wpAny_pyIter_list->I_,wpAny_setState_of->Jb,wpAny_field->Jd,behindInMarks->Je,builtinLookup_eq_fast->Jh,wpAny_callSpecial?_slot->Jl,intKind_is->Js,wpAny_specialOf->Jw,backToKw->JA,assignEach->JC,sysModules->JN,wpAny_passesOwn->JO,Keyword->JP,wpAny_newObj_type->JQ,codeAny_builtin->JR,wpAny_ite_split->JS,wpAny_updateSeq->JT,codeAny_mono->JV,wpAny_isInstance->J4,wpAny_seqItems->J6,codeAny->J7,Scope->Ke,typeLookup_type->Kj,GenState->Kl,wpAny_standAt->Km,wpAny_attempt->Kn,plainId_quiet->Kp,cLine->Ku,getMethod->KB,wpAny_execs_cons->KH,binaryOp->KI,wpAny_askSetting->KJ,ZipApart->KL,wpAny_comprehension_free->KO,wpAny_execs_nil->K0,comprehension->K6,rawInt->Ld,wpAny_Call_method_late->Le,codeAny_compStart_list->Lg,IsPair->Lh,wpAny_nextOf_list_item->Li,holding->Ln,wpAny_assign_Name->Lo,sliceBounds->Lq,call_meets->Lr,ofAClassStatement->Lu,valueAt->Lx,compEnvC->LA,isSubtype_type->LB,wpAny_setField->LC,exec_Assign_Name_used->LF,pyNext->LR,wpAny_newFunctionEnv->LU,codeAny_call_builtin->LV,NameKind->LW,wpAny_call->LY,wpAny_setEntries_of->Ma,strIterType->Mb,wpAny_newFunctionEnv_cells->Mh,bindArgs->Ml,callWith->Mm,tupleKind_room_in1->Mp,standAt->Mt,wpAny_Name->MD,wpAny_getItem_list_slice->MG,wpAny_pyIter_slot->MN,updateSeq->MP,setSearchFrom->MW,assign->M0,checkBuiltinCall->M4,wpAny_forIn_list->M5,wpAny_pyNext_list_item->M7,spliced->M_,wpAny_isTrue_Compare1->Na,PassesOwn->Nb,letOwnedTupleGo->Nc,wpAny_pyNext_list_end->Nd,codeAny_call_function->Nh,noteFrame->Nj,theTreesLotGoes->Nk,wpAny_typeOf->Nq,wpAny_eqIsQuiet_tuple->Nr,wpAny_nextOf_list_end->Nw,wpAny_pyNext_zip_item->Nx,strValues->NC,typeLookup->NJ,typeIs_int->NK,compPost->NL,Model->NO,wpAny_loadName_local->NP,codeAny_extend_loopS->NR,wpAny_pyNext_zip_end->NS,wpAny_loadPart->NW,isSubtype_stop->NZ,intText?->N0,intKind->N1,wpAny_loadName_cell->N2,wpAny_loadName_free->N3,subscripted->N4,hashByValue->N5,tupleKind->N8,Result->N9,cellsFrom->Oa,evalPart_none->Oc,pickOrder->Oj,wpAny_tupleItemsOf->Oq,CmpOp->Ox,wpAny_Return_some->Oy,wpAny_Assign_Name->Oz,getItem->OC,callerA->OE,isInstance->OG,searchCouldBeSeen->OH,wpAny_storeSet_of->OJ,wpAny_rule->OO,Within->OS,pyIter->OU,codeAny_loop->OY,wpAny_getItem_of->Pc,wpAny_pyIter_zip->Pd,lastMarks->Ph,BindsTo->Pj,leaving->Pk,relabel->Pp,newList->Pq,wpAny_noted->Pr,getAttrByItsOwn->Pv,putSet_of->Px,codeAny_of_tree->Py,wpAny_throw->Pz,Fin->PF,wpAny_looks_onW->PL,wpAny_Expr_any->PV,recursionLimit->P_,compTurn_list1->Qb,boundAndCalled->Qc,entryFor_alias->Qf,wpAny_fieldsOf->Qh,firstArgMember->Qi,wpAny_newTuple->Qj,callType_codes->Qk,numbered_texts->Qm,wpAny_notIn_of->Qn,intText_digits->Qo,builtinsNs->Qq,typeIs_str->QD,PlainAttrs->QE,closureFor->QG,setsByText->QH,Operator->QJ,Arguments->QU,typeOf->QV,atKey->Q5,Ctx->Q6,bindL->Rh,bindC->Ri,argBest->Rm,revObj->Rv,call->Ry
open List renaming getElem?_eq_getElem->Gm,length_map->Gp,mem_cons_of_mem->Gq,mem_cons->Gx,mem_cons_self->Gy,getElem?_map->Gz,getElem?_eq_some_iff->GB,mem_map->GC,getElem?_append_left->GG,length_cons->GI,mem_of_getElem?->GJ,getElem?_append_right->GK,mem_append_right->GM,size_toArray->GN,mem_reverse->GP,map_cons->GW,getElem?_set_ne->GX,getD_eq_getElem?_getD->G0,map_map->G3,replicate->G6,mem_iff_getElem?->G7,mem_range->G8,mem_singleton->G9,length_append->Hb,length_reverse->Hl,pairwise_iff_getElem->Hn,getElem?_eq_none->Hr,append_nil->HE,getElem?_replicate->HG,getElem?_cons_succ->HH,range->HJ,not_mem_nil->HK,length_replicate->HN,mem_map_of_mem->HS,mem_append->HU,pairwise_map->HV,mem_append_left->HX,replicate_succ->Ia,foldl_cons->Ib,getElem?_reverse->Ie,all_eq_true->Ig,length_eq_zero_iff->Ih,pairwise_cons->Il,mem_filter->Io,map_append->Iu,getLast?_eq_getElem?->Iw,lookup_cons->IA,filterMap_cons->IC,getElem?_take_of_lt->IJ,take_succ->IR,length_dropLast->IU,take_length->IX,map_reverse->IY,length_pos_of_mem->IZ,map_congr_left->Jc,nodup_cons->Jg,find?_cons->Ji,getElem?_zipWith_eq_some->Jk,flatten_cons->Jp,length_pos_iff->Jx,getElem?_range->Jy,take_of_length_le->JB,getElem?_drop->JI,drop_eq_getElem_cons->JK,tail_cons->JL,any_cons->JW,getLast?_cons_cons->J0,sum_cons->J3,getElem?_dropLast->J_,head?_eq_getElem?->Kc,length_nil->Kg,getElem?_toArray->Kh,ext_getElem?->Kr,perm_ext_iff_of_nodup->Kt,mem_of_getLast?->KA,take_zero->KD,mem_take_iff_getElem->KG,lookup->KM,mem_filterMap->K2,forIn_cons->K7,length_set->K8,getElem?_set_self->Lc,drop_eq_nil_of_le->Lk,length->Lp,nodup_append->Lw,getLast?_map->Ly,getElem?_inj->Lz,Perm->LI,pairwise_reverse->LJ,getLast?_reverse->LK,length_take->LM,getElem_mem->LO,all_cons->LX,of_mem_zip->L7,take_succ_cons->L8,getElem_of_mem->L9,nodup_iff_pairwise_ne->Mj,forIn_nil->Mx,head?_map->MB,append_assoc->MH,getElem?_set->MJ,length_erase_of_mem->MR,map_dropLast->MS,getElem_inj->MZ,pairwise_lt_range->M9,length_singleton->Ni,filterMap_append->Nl,take_append_drop->Nt,zipWith->Nz,mem_erase_of_ne->NT,mem_iff_getElem->NU,dropLast_subset->NV,drop_zero->NX,zip_cons_cons->Oo,head?_reverse->Ot,length_range->OK,reverse_cons->OP,nodup_range->O7,perm_middle->O8,head?_cons->PM,map_id->PN,nodup_nil->Ql,foldl->QF,map_nil->QX,all_map->QY,toArray->Q3,map->Ru
open PySem.W renaming Frag->Gn,mg_none_of->Hk,keepIn->HA,kia_one->HL,emptyDict->IH,findIn->IQ,fnOf->IV,instObj->Ju,callWith_K->JG,kitOne->J5,cellsFrom_some->J8,codeIn->KC,methodCall_KW->LD,plainGet->LL,plainGet_of->LZ,lookIn->Mu,methodObj->MC,hasDictIn->ME,kitx_list->MF,mroIn->MU,takerIn->Nf,kitx_tuple->N_,codeRec_of->Ob,excIn->Of,plainOver->OA,kitx_dict->OB,isFn->OV,handedIn->O5,makesIn->Pi,OpenLaw->Po,typeIn->P9,kIn_of->Qa,mg_of->QK,WalkO->QL
open PySem.Heap renaming get?_push_of_some->Gu,lt_size->GD,get?_push_size->GH,get?_update_other->Hd,get?_update_self->Hz,size_push->Iq,SameBut->JF,get?_none_of_le->LQ,FlyingW->OZ,ExtBut->Rk
open Nat renaming le_refl->GA,ne_of_lt->GS,le_of_lt->GT,lt_of_lt_of_le->GV,lt_or_eq_of_le->G4,lt_irrefl->Hc,zero_le->Hf,mod_eq_of_lt->Hv,le_trans->HD,lt_succ_self->Iz,lt_succ_of_lt->IK,le_of_lt_succ->IL,pow_succ->IW,mod_lt->Ja,lt_trans->Jm,lt_trichotomy->Jq,div_div_eq_div_mul->Ka,ne_of_gt->Kf,lt_or_ge->Ki,pow_le_pow_right->Kw,mul_le_mul_right->Kx,lt_of_le_of_lt->K5,le_of_not_lt->LN,mod_eq_sub_mod->Mn,eq_zero_or_pos->Mo,le_of_eq->Ng,not_lt_zero->Nn,mod_add_mod->Np,min_eq_left->NB,mod_self->NG,toDigits->NH,add_le_add_left->N7,mod_mod_of_dvd->Oh,add_sub_cancel->Os,add_mod_right->OR,mul_comm->OX,le_max_right->O6,min_le_right->Pa,min_eq_right->Pb,le_max_left->Pm,log2_lt->Pn,strongRecOn->Pw,one_mul->PU,digitChar->QS,add_comm->QW,min_self->QZ,add_zero->Q1,sub_self->Q4,le_succ->Rg,add_mod->Rl,add_mul->Ro
open Bool renaming false_eq_true->GO,false_ne_true->GZ,and_eq_true->Hu,eq_iff_iff->Jv,not_true->JX,true_and->Ko,beq_eq_decide_eq->LG,not_false->Mw,eq_false_iff->ML,and_eq_true_iff->NQ,and_false->NY,or_false->Oe,not_eq_true'->OF,or_eq_true->Pu,false_or->QM,and_true->QN
open PySem.Value renaming ref->GR,none->GU,int->He,bool->Hi,str->Ho,type->HP,isInt_shape->Lm,isStrOf->MT,float->Pg,isInt->Rc,bytes->Re
open Array renaming length_toList->GY,getElem?_toList->Hy,getElem?_eq_getElem->HI,getElem?_eq_some_iff->HQ,getD_eq_getD_getElem?->Ic,getD->Jr,forIn_toList->Kd,getElem?_replicate->KS,append_assoc->KY,mem_toList_iff->LS,toList_inj->M6,foldl_toList->Oi,toList->OT,toList_map->O9,size_map->Qe
open Int renaming dvd_trans->G_,dvd_mul_left->Hm,mul_nonneg->Ht,toNat_natCast->Ii,mul_pos->IE,dvd_mul_right->IP,eq_of_mul_eq_mul_left->Jf,mul_ediv_cancel_left->Jj,lt_or_le->Jn,gcd_dvd_right->Jt,mul_eq_zero->Jz,gcd_dvd_left->JE,emod_add_mul_ediv->JJ,dvd_add->Kk,natAbs_of_nonneg->Kz,one_mul->KN,pos_of_mul_pos_right->KW,emod_lt_of_pos->K_,emod_two_eq->Lb,gcd->LP,emod_nonneg->L_,dvd_neg->Mc,dvd_sub->Md,dvd_coe_gcd->Me,le_refl->Mf,zero_mul->Mq,dvd_refl->Mr,natAbs_mul->Mv,natAbs_dvd_natAbs->ND,le_total->NF,lt_or_eq_of_le->Ou,dvd_antisymm->Pe,natCast_emod->Pf,le_of_dvd->QP,mul_assoc->QQ,ofNat_dvd->QR,mul_comm->Q7,dvd_zero->Q8,sub_emod->Q9,mul_emod->Q_,neg_sub->Rn
open Option.some renaming inj->Hq
open PySem.Obj renaming mapSeq->HM,data_mapFields->IT,putSet->Lv,isFreed_of_fields->LH,mapFields->Ol,cls_mapFields->ON
open PySem.F renaming plain_extend_loop->HW,slot_str_split->Im,slot_zip_next->IM,called_set->IS,plainAttrs_str->I0,entry_str_split->JZ,args_str_split_2->KU,plainAttrs_list->K9,args_zip_next_1->La,entry_zip_next->Lj,type_str_split->Ll,excBase_ValueError->Mi,entry_extend_loop->Mz,slot_dict_getitem->MA,args_list_init_2->MQ,typeCall_list_1->MX,entry_list_init->MY,plain_set_new->Nu,slot_set_iter->Nv,slot_zip_iter->Ny,slot_tuple_le->NA,called_list->N6
open PySem.Calls renaming spliced_cons->Ik,spliced_nil->Jo,callWith_builtin->J9,evalArgs_plain->Kv,Constant_str->KZ,Name_function_global->Mg
open Classical renaming byContradiction->Ir
open Option renaming isSome_iff_exists->II,getD_some->JD,map_eq_some_iff->Kb,getD_none->M3,toList_some->Og,map->OM,isSome_map->OQ,none->Rj
open PyProof.Rows renaming envOfC->JH,boot_isinstance->JU,AllBare->Ms,subscriptTail->MV,subscriptTail_builtinR->M8,boot_str->NM,SortKind->Om,listUpdate_at->On,Subscript_->OD,Keyed->O_,IntsAre->Pl,seqEpoch_at->PH,digits10_le->PR,signs_ofString->Qp,seqObj->QI,tuples'->QO,boot_int->QT,bubble->Q2,IsTup->Rw
open PySem.Around renaming under_plainId->JM,under->OW
open PySem.Heap.SameBut renaming update->JY,refl->MK
open Prod renaming ext->Kq,fst->Ov,snd->Ow
open List.Pairwise renaming map->Ks,nil->Ls,imp_of_mem->MM
open ToString renaming toString->NI
open PySem.Heap.IsSliceOf renaming new->Od
open List.Nodup renaming length_le_of_subset->O4
open List.cons renaming injEq->PJ
open PySem.EqNone renaming eq_none_none->PX,eq_none_bool->PY,eq_bool_none->PZ,ne_none_none->P4,ne_none_bool->P5,ne_bool_none->P6,eq_none_int->Qr,eq_none_str->Qs,eq_int_none->Qt,eq_str_none->Qv,ne_none_int->Qx,ne_none_str->Qy,ne_int_none->Qz,ne_str_none->QB
open PySem.EqMixed renaming eq_bool_str->P1,eq_str_bool->P3,ne_bool_str->P7,ne_str_bool->P8,eq_int_str->Qu,eq_str_int->Qw,ne_int_str->QA,ne_str_int->QC
open PySem.Value.type renaming inj->Qd
open List.Perm renaming refl->Qg
open PySem.W.KIN renaming signs_num->Ra,val_back->Rb
open PySem.W.Looks renaming here->Rq
open PySem.W.Dflts renaming none->Rr,noKw->Rt
open PySem.Within renaming cons->Rx
open PySem.Heap.DictOf renaming new->Rz
open List.range renaming loop->RA
set_option hygiene false
set_option hygiene true
set_option hygiene false
local macro_rules|`(tactic|walk_at"sC")=>`(tactic|exact⟨rfl,rfl,rfl,by decide+kernel,rfl,by decide+kernel,by decide+kernel⟩)
local macro_rules|`(tactic|walk_at"b1")=>`(tactic|exact λ_ _ _ _ _ _ _ h=>My.ar1 h λ_=>rfl)
local macro_rules|`(tactic|walk_at"b2")=>`(tactic|exact λ_ _ _ _ _ _ _ h=>My.ar2 h λ_ _=>rfl)
local macro_rules|`(tactic|walk_at"b3")=>`(tactic|exact λ_ _ _ _ _ _ _ h=>My.ar3 h λ_ _ _=>rfl)
set_option hygiene true
set_option maxHeartbeats 8000000
set_option Elab.async false
set_option linter.all false
set_option maxRecDepth 100000
namespace L2
open PySem PySem.Spec PyProof.Rows
abbrev Key:=Sum Int Str
def mB:Key->Gr->Bool
 | .inl k,v=>Rc k v
 | .inr x,v=>MT x v
def Gg(w:G5):Key->Int
 | .inl k=>hashInt k
 | .inr x=>hashStr w x
theorem bM:∀{k:Key}{v:Gr},mB k v=true->(∃i t,k=Sum.inl i/\v=He i t)\/(∃x t,k=Sum.inr x/\v=Ho x t)
 | .inl i,v,h=>by
  obtain⟨t,e⟩:=Lm (k:=i) (v:=v) h;exact .inl ⟨i,t,rfl,e⟩
 | .inr x,v,h=>by
  obtain⟨t,e⟩:=Value.isStrOf_shape (x:=x) (v:=v) h;exact .inr ⟨x,t,rfl,e⟩
theorem wJ(i:Int)(t:Tok):mB (.inl i) (.int i t)=true:=by simp[mB,Rc]
theorem wW(x:Str)(t:Tok):mB (.inr x) (.str x t)=true:=by simp[mB,MT]
theorem C4(a b:Int):decide ((Sum.inl a:Key)=Sum.inl b)=(a==b):=by
 by_cases e:a=b
 ·subst e;simp
 ·have h:¬ (Sum.inl a:Key)=Sum.inl b:=λq=>e (Sum.inl.inj q)
  rw[decide_eq_false h];exact (beq_eq_false_iff_ne.mpr e).symm
theorem DH(a b:Str):decide ((Sum.inr a:Key)=Sum.inr b)=decide (a=b):=by
 by_cases e:a=b
 ·subst e;simp
 ·have h:¬ (Sum.inr a:Key)=Sum.inr b:=λq=>e (Sum.inr.inj q)
  rw[decide_eq_false h,decide_eq_false e]
theorem DF(a:Int)(b:Str):decide ((Sum.inl a:Key)=Sum.inr b)=false:=decide_eq_false (λq=>nomatch q)
theorem En(a:Str)(b:Int):decide ((Sum.inr a:Key)=Sum.inl b)=false:=decide_eq_false (λq=>nomatch q)
def ck(prog:GF)(w:G5):PySem.KeyKind prog w Key where
 is:=mB
 hash:=Gg w
 inj:=λv a b ha hb=>by
  rcases bM ha with ⟨i,t,rfl,rfl⟩ |⟨x,t,rfl,rfl⟩
  ·rcases bM hb with ⟨j,u,rfl,e⟩ |⟨y,u,rfl,e⟩
   ·injection e with e1 _;rw[e1]
   ·exact nomatch e
  ·rcases bM hb with ⟨j,u,rfl,e⟩ |⟨y,u,rfl,e⟩
   ·exact nomatch e
   ·injection e with e1 _;rw[e1]
 byValue:=λk v h=>by
  rcases bM h with ⟨i,t,rfl,rfl⟩ |⟨x,t,rfl,rfl⟩ <;>rfl
 pyHash:=λhv h=>by
  rcases bM hv with ⟨i,t,rfl,rfl⟩ |⟨x,t,rfl,rfl⟩
  ·exact wpAny_pyHash_int h
  ·exact wpAny_pyHash_str h
 eqBool:=λhu hv h=>by
  rcases bM hu with ⟨i,t,rfl,rfl⟩ |⟨x,t,rfl,rfl⟩
  ·rcases bM hv with ⟨j,u,rfl,rfl⟩ |⟨y,u,rfl,rfl⟩
   ·rw[C4]at h;exact wpAny_eqBool_int h
   ·rw[DF]at h;exact SeqAt.EqAt.int_str i t y u _ _ _ _ h
  ·rcases bM hv with ⟨j,u,rfl,rfl⟩ |⟨y,u,rfl,rfl⟩
   ·rw[En]at h;exact SeqAt.EqAt.str_int x t j u _ _ _ _ h
   ·rw[DH]at h;exact wpAny_eqBool_str h
 «strs»:=λk x t v h=>by
  rcases bM h with ⟨i,u,rfl,e⟩ |⟨y,u,rfl,e⟩
  ·exact nomatch e
  ·injection e with e1 _
   subst e1;cases v <;>rfl
theorem o4(prog:GF)(w:G5)(i:Int)(t:Tok):(ck prog w).is (.inl i) (.int i t)=true:=wJ i t
theorem qv(prog:GF)(w:G5)(x:Str)(t:Tok):(ck prog w).is (.inr x) (.str x t)=true:=wW x t
inductive V where
 |non |bl (b:Bool) |int (i:Int) |str (x:Str) |byt (b:Array UInt8) |flt (b:UInt64) |ref (a:GE) |ty (n:String)
 deriving DecidableEq
def aU:V->Gr->Prop
 | .non,u=>u=GU
 | .bl b,u=>u=Hi b
 | .int i,u=>∃t,u=He i t
 | .str x,u=>∃t,u=Ho x t
 | .byt b,u=>∃t,u=Re b t
 | .flt b,u=>∃t,u=Pg b t
 | .ref a,u=>u=GR a
 | .ty n,u=>u=HP n
abbrev aK:List V->List Gr->Prop:=Paired aU
theorem aK.length{xs:List V}{us:List Gr}(r:aK xs us):xs.length=us.length:=Paired.length r
theorem aK.get:∀{xs:List V}{us:List Gr}{i:Nat}{x:V},aK xs us->xs[i]?=some x->∃u,us[i]?=some u/\aU x u
 |_,_,_,_,.nil,e=>by simp at e
 |_,_,0,_,.cons r _,e=>by simp at e;subst e;exact⟨_,rfl,r⟩
 |_,_,i+1,x,.cons _ t,e=>by
  obtain⟨u,h1,h2⟩:=aK.get (i:=i) (x:=x) t (by simpa using e)
  exact⟨u,by simpa using h1,h2⟩
theorem aK.append:∀{xs ys:List V}{us ws:List Gr},aK xs us->aK ys ws->aK (xs++ys) (us++ws)
 |_,_,_,_,.nil,s=>s
 |_,_,_,_,.cons r t,s=>.cons r (aK.append t s)
theorem aK.take:∀{xs:List V}{us:List Gr} (n:Nat),aK xs us->aK (xs.take n) (us.take n)
 |_,_,0,_=>.nil
 |_,_,_+1,.nil=>.nil
 |_,_,n+1,.cons r t=>.cons r (aK.take n t)
theorem aK.drop:∀{xs:List V}{us:List Gr} (n:Nat),aK xs us->aK (xs.drop n) (us.drop n)
 |_,_,0,r=>r
 |_,_,_+1,.nil=>.nil
 |_,_,n+1,.cons _ t=>aK.drop n t
def gR:Option V->Option Gr->Prop
 |some v,some u=>aU v u
 |none,none=>True
 |_,_=>False
def KV{κ:Type}:List (κ×V)->List (κ×Gr)->Prop:=Paired λ(p:κ×V) (q:κ×Gr)=>p.1=q.1/\aU p.2 q.2
def kV:Key->V
 | .inl i=>.int i
 | .inr x=>.str x
inductive HO where
 /-- a list -/
 |lst (xs:List V)
 /-- a tuple (never changes) -/
 |tup (xs:List V)
 /-- a dict whose keys are ints and texts;one whose keys are tuples of ints and texts (the empty one is both) -/
 |dK (kvs:List (Key×V)) |dT (kvs:List (List Key×V))
 /-- a set of ints:RB members,RB size -/
 |set (S:Int->Bool) (n:Nat)
 /-- an instance of the class at C,RB dict at dx,RB attributes -/
 |ins (C dx:GE) (fs:List (Str×V))
 /-- the dict of the instance at x -/
 |own (x:GE)
 /-- the dict of an exception -/
 |xd (fs:List (Str×V))
 /-- a bound method,f of x -/
 |met (f x:GE)
 /-- a range object lo,lo+1,.. below hi -/
 |rng (lo hi:Int)
 /-- a thing that is known to the object (the script;a dict while a loop walks it):read,never written while it is so -/
 |frz (o:Obj) (u:HO)
 /-- a code object's table -/
 |tbl (ps:Array Gr)
 /-- any other thing,by what is true of RB one object (a def of one's own:SetO a S n:=HO.ext λh=>..) -/
 |ext (φ:H_->Prop)
abbrev Hp:=GE->Option HO
def upd(H:Hp)(a:GE)(o:HO):Hp:=λb=>if b=a then some o else H b
theorem aF{H:Hp}{a:GE}{o:HO}:upd H a o a=some o:=by unfold upd;rw[if_pos rfl]
theorem aE{H:Hp}{a b:GE}{o:HO}(h:b≠a):upd H a o b=H b:=by unfold upd;rw[if_neg h]
theorem EN{H:Hp}{a b:GE}{o u:HO}(h:H a=some o)(h':H b=some u)(d:o≠u):a≠b:=by
 intro e;subst e;rw[h]at h';exact d (Hq h')
theorem bE{H:Hp}{a b:GE}{o:HO}(h:H a=some o)(h':H b=none):a≠b:=by
 intro e;subst e;rw[h]at h';cases h'
section
variable (P:GF) (w:G5)
def bG(H:Hp)(h:H_)(a:GE):HO->Prop
 | .lst xs=>xs.length≤sizeLine∧∃(RB:List Gr) (n:Nat),aK xs RB∧h.get? a=some {cls:=.type "list",data:=.seq RB.toArray n }
 | .tup xs=>xs.length<=sizeLine/\∃RB:List Gr,aK xs RB/\Rw h a RB.toArray
 | .dK kvs=>kvs.length<=sizeLine/\(a==JN)=false/\∃vs,KV kvs vs/\h.DictOf (ck P w) a vs
 | .dT kvs=>kvs.length<=sizeLine/\(a==JN)=false/\∃xs:List (List Key×GE×Gr),
   Paired (λ(p:List Key×V) (q:List Key×GE×Gr)=>p.1=q.1/\H q.2.1=some (.tup (p.1.map kV))/\aU p.2 q.2.2) kvs xs/\
   ∃o es ep,h.get? a=some o/\o.ExactDict/\o.data=.dict es ep/\es.toList=xs.map (entryOfKey (N8 (ck P w)))/\(xs.map (·.1)).Nodup
 | .set S n=>h.SetOf (N1 P w) a S n
 | .ins C dx fs=>H dx=some (.own a)/\fs.length<=1000/\dx≠a/\h.get? a=some (Ju C dx)/\
   ∃mA,h.Ns1 dx mA/\(∀f,gR (fs.lookup f) (mA f))/\OS mA (fs.map (·.1))
 | .own _=>∃o,h.get? a=some o
 | .xd fs=>∃mA,h.Ns1 a mA/\∀f,gR (fs.lookup f) (mA f)
 | .rng lo hi=>∃t u v,h.get? a=some {cls:=.type "range",data:=.fields #[.int lo t,.int hi u,.int 1 v] }
 | .frz o u=>h.get? a=some o/\bG H h a u
 | .tbl ps=>h.get? a=some {cls:=.none,data:=.fields ps }
 | .met f x=>h.get? a=some (MC (.ref f) (.ref x))
 | .ext φ=>φ h/\(∃o,h.get? a=some o)/\∀h1 h2:H_,φ h1->(∀o,h1.get? a=some o->h2.get? a=some o)->φ h2
def HOk(H:Hp)(h:H_):Prop:=∀a o,H a=some o->bG P w H h a o
end
variable {H:Hp}{H':Hp}{h':H_}
section
variable {P:GF}{w:G5}{h:H_}{a:GE}{o:HO}
theorem bG.lt(x:bG P w H h a o):a<h.objs.size:=by
 cases o with
 |lst xs=>obtain⟨_,_,_,_,e⟩:=x;exact GD e
 |tup xs=>obtain⟨_,_,_,p⟩:=x;exact p.lt
 |dK kvs=>obtain⟨_,_,_,_,o,_,_,e,_⟩:=x;exact GD e
 |dT kvs=>obtain⟨_,_,_,_,o,_,_,e,_⟩:=x;exact GD e
 |set S n=>obtain⟨o,_,_,_,e,_⟩:=x;exact GD e
 |ins C dx fs=>obtain⟨_,_,_,e,_⟩:=x;exact GD e
 |own y=>obtain⟨_,e⟩:=x;exact GD e
 |xd fs=>obtain⟨_,⟨_,_,_,e,_⟩,_⟩:=x;exact GD e
 |rng lo hi=>obtain⟨_,_,_,e⟩:=x;exact GD e
 |frz ob u=>obtain⟨e,_⟩:=x;exact GD e
 |tbl ps=>exact GD (show h.get? a=some _ from x)
 |met f y=>exact GD (show h.get? a=some _ from x)
 |ext φ=>obtain⟨_,⟨_,e⟩,_⟩:=x;exact GD e
theorem Paired.mapP{α β:Type}{F G:α->β->Prop}:∀{l₁:List α}{l₂:List β},Paired F l₁ l₂->(∀a b,F a b->G a b)->Paired G l₁ l₂
 |_,_,.nil,_=>.nil
 |_,_,.cons r t,f=>.cons (f _ _ r) (Paired.mapP t f)
theorem bG.stay(x:bG P w H h a o)(k:∀b u,(b=a\/H b=some (.own a))->h.get? b=some u->h'.get? b=some u)
  (ho:∀b,H b=some (.own a)->H' b=some (.own a)) (ht:∀b xs,H b=some (.tup xs)->H' b=some (.tup xs)):bG P w H' h' a o:=by
 induction o with
 |lst xs=>obtain⟨z,RB,n,r,e⟩:=x;exact⟨z,RB,n,r,k _ _ (.inl rfl) e⟩
 |tup xs=>obtain⟨z,RB,r,ob,e,c⟩:=x;exact⟨z,RB,r,ob,k _ _ (.inl rfl) e,c⟩
 |dK kvs=>obtain⟨z,y,vs,r,ob,es,ep,e,c⟩:=x;exact⟨z,y,vs,r,ob,es,ep,k _ _ (.inl rfl) e,c⟩
 |dT kvs=>
  obtain⟨z,y,xs,r,ob,es,ep,e,c⟩:=x;exact⟨z,y,xs,Paired.mapP r λp q z=>⟨z.1,ht _ _ z.2.1,z.2.2⟩,ob,es,ep,k _ _ (.inl rfl) e,c⟩
 |set S n=>obtain⟨ob,es,ep,t,e,c⟩:=x;exact⟨ob,es,ep,t,k _ _ (.inl rfl) e,c⟩
 |ins C dx fs=>
  obtain⟨d,z,ne,e,mA,⟨od,es,ep,e2,c⟩,r⟩:=x;exact⟨ho _ d,z,ne,k _ _ (.inl rfl) e,mA,⟨od,es,ep,k _ _ (.inr d) e2,c⟩,r⟩
 |own y=>obtain⟨ob,e⟩:=x;exact⟨ob,k _ _ (.inl rfl) e⟩
 |xd fs=>obtain⟨mA,⟨od,es,ep,e,c⟩,r⟩:=x;exact⟨mA,⟨od,es,ep,k _ _ (.inl rfl) e,c⟩,r⟩
 |rng lo hi=>obtain⟨t,u,v,e⟩:=x;exact⟨t,u,v,k _ _ (.inl rfl) e⟩
 |frz ob u ih=>obtain⟨e,q⟩:=x;exact⟨k _ _ (.inl rfl) e,ih q⟩
 |tbl ps=>
  have e:h.get? a=some {cls:=.none,data:=.fields ps }:=x;show h'.get? a=some {cls:=.none,data:=.fields ps };exact k a _ (.inl rfl) e
 |met f y=>
  have e:h.get? a=some (MC (.ref f) (.ref y)):=x;show h'.get? a=some (MC (.ref f) (.ref y));exact k a _ (.inl rfl) e
 |ext φ=>obtain⟨p,⟨o,e⟩,st⟩:=x;exact⟨st _ _ p λo q=>k _ _ (.inl rfl) q,⟨o,k _ _ (.inl rfl) e⟩,st⟩
theorem HOk.lt(x:HOk P w H h)(e:H a=some o):a<h.objs.size:=(x a o e).lt
theorem HOk.fresh(x:HOk P w H h)(e:h.objs.size<=a):H a=none:=by
 cases q:H a with
 |none=>rfl
 |some u=>exact absurd (GV (x.lt q) e) (Hc _)
theorem HOk.kept(x:HOk P w H h)(k:∀b u,h.get? b=some u->h'.get? b=some u):HOk P w H h':=λa o e=>
 (x a o e).stay (λb u _ q=>k b u q) (λ_ q=>q) λ_ _ q=>q
theorem HOk.laid(x:HOk P w H h)(k:∀b u,h.get? b=some u->h'.get? b=some u)(hp:h.objs.size<=a)(new:bG P w (upd H a o) h' a o):HOk P w (upd H a o) h':=λb u e=>by
 have hn:=x.fresh hp;by_cases hb:b=a
 ·subst hb;rw[aF]at e;cases e;exact new
 ·rw[aE hb]at e;exact (x b u e).stay (λc v _ q=>k c v q) (λc q=>by rw[aE (bE q hn)];exact q) λc xs q=>by rw[aE (bE q hn)];exact q
end
def Rd(H:Hp)(a:GE)(u:HO):Prop:=H a=some u\/∃o,H a=some (.frz o u)
theorem Rd.ok{P:GF}{w:G5}{H:Hp}{h:H_}{a:GE}{u:HO}(r:Rd H a u)(x:HOk P w H h):bG P w H h a u:=by
 rcases r with r |⟨o,r⟩
 ·exact x a u r
 ·obtain⟨_,q⟩:=x a _ r;exact q
def Mut:Option HO->Prop
 |some (.lst _)=>True
 |some (.dK _)=>True
 |some (.dT _)=>True
 |some (.set _ _)=>True
 |some (.ins _ _ _)=>True
 |some (.ext _)=>True
 |_=>False
section
variable {P:GF}{w:G5}{h:H_}{x e:GE}{o':HO}
theorem HOk.write(ok:HOk P w H h)(mu:Mut (H x))(he:e=x\/H e=some (.own x))(k:∀b u,b≠e->h.get? b=some u->h'.get? b=some u)(heo:∃u,h'.get? e=some u)
  (new:bG P w (upd H x o') h' x o'):HOk P w (upd H x o') h':=λb u q=>by
 have nown:∀c y,H c=some (.own y)->c≠x:=λc y r z=>by subst z;rw[r]at mu;exact mu
 have ntup:∀c xs,H c=some (.tup xs)->c≠x:=λc xs r z=>by subst z;rw[r]at mu;exact mu
 by_cases hb:b=x
 ·subst hb;rw[aF]at q;cases q;exact new
 ·rw[aE hb]at q;by_cases hbe:b=e
  ·have q':H b=some (.own x):=by
    rcases he with z |z
    ·exact absurd (hbe.trans z) hb
    ·rw[hbe];exact z
   rw[q]at q';cases q';obtain⟨v,hv⟩:=heo;exact⟨v,by rw[hbe];exact hv⟩
  ·refine (ok b u q).stay (λc v hc r=>k c v ?_ r) (λc r=>by rw[aE (nown c b r)];exact r) λc xs r=>by rw[aE (ntup c xs r)];exact r
   rcases hc with rfl |hc
   ·exact hbe
   ·rintro rfl;rcases he with z |z
    ·exact nown c b hc z
    ·rw[hc]at z;cases z;exact hb rfl
end
structure Un(fs ex:List GE)(H H':Hp)(h h':H_):Prop where
 keep:∀b o,h.get? b=some o->H b=none->b ∉ fs->b ∉ ex->h'.get? b=some o
 slot:∀b o,h.get? b=some o->H b=none->b∈fs->b ∉ ex->∃sl,h'.get? b=some {o with slots:=sl }
 free:∀b o,h.get? b=some o->H b=none->b ∉ ex->H' b=none
 there:∀b o,h.get? b=some o->b ∉ ex->∃o',h'.get? b=some o'
 tups:∀b xs,H b=some (.tup xs)->H' b=some (.tup xs)
 frzs:∀b o u,H b=some (.frz o u)->H' b=some (.frz o u)
 tbls:∀b ps,H b=some (.tbl ps)->∃more,H' b=some (.tbl (ps++more))
section
variable {fs fs' ex ex':List GE}{H1 H2:Hp}{h h1 h2:H_}{a x e:GE}{o:HO}
theorem Un.any(u:Un fs ex H H1 h h1){b:GE}{ob:Obj}(q:h.get? b=some ob)(n:H b=none)(hx:b ∉ ex):∃sl,h1.get? b=some {ob with slots:=sl }:=by
 by_cases hb:b∈fs
 ·exact u.slot b ob q n hb hx
 ·exact⟨ob.slots,u.keep b ob q n hb hx⟩
theorem Un.kept(k:∀b u,h.get? b=some u->h'.get? b=some u):Un fs ex H H h h':=
 ⟨λb ob q _ _ _=>k b ob q,λb ob q _ _ _=>⟨ob.slots,k b ob q⟩,λ_ _ _ n _=>n,λb ob q _=>⟨ob,k b ob q⟩,λ_ _ q=>q,λ_ _ _ q=>q,λ_ ps q=>⟨#[],by rw[q];simp⟩⟩
theorem Un.refl:Un fs ex H H h h:=Un.kept λ_ _ q=>q
theorem Un.laid(k:∀b u,h.get? b=some u->h'.get? b=some u)(hp:h.objs.size<=a)(hn:H a=none):Un fs ex H (upd H a o) h h' where
 keep:=λb u q _ _ _=>k b u q
 slot:=λb u q _ _ _=>⟨u.slots,k b u q⟩
 free:=λb u q n _=>by rw[aE (GS (GV (GD q) hp))];exact n
 there:=λb u q _=>⟨u,k b u q⟩
 tups:=λb xs q=>by rw[aE (bE q hn)];exact q
 frzs:=λb u xs q=>by rw[aE (bE q hn)];exact q
 tbls:=λb ps q=>⟨#[],by rw[aE (bE q hn),q];simp⟩
theorem Un.write(mu:Mut (H x))(he:e=x\/H e=some (.own x))(k:∀b u,b≠e->h.get? b=some u->h'.get? b=some u)(heo:∃u,h'.get? e=some u):Un fs ex H (upd H x o) h h':=by
 have hx:∀b,H b=none->b≠x:=λb n z=>by subst z;rw[n]at mu;exact mu
 have hb:∀b,H b=none->b≠e:=λb n z=>by
  subst z;rcases he with r |r
  ·exact hx b n r
  ·rw[n]at r;cases r
 have hm:∀b u,H b=some u->¬ Mut (some u)->b≠x:=λb u q nm z=>by subst z;rw[q]at mu;exact nm mu
 refine⟨λb u q n _ _=>k b u (hb b n) q,λb u q n _ _=>⟨u.slots,k b u (hb b n) q⟩,λb u q n _=>by rw[aE (hx b n)];exact n,λb u q _=>?_,
  λb xs q=>by rw[aE (hm b _ q λz=>z)];exact q,λb u xs q=>by rw[aE (hm b _ q λz=>z)];exact q,λb ps q=>⟨#[],by rw[aE (hm b _ q λz=>z),q];simp⟩⟩
 by_cases hbe:b=e
 ·subst hbe;exact heo
 ·exact⟨u,k b u hbe q⟩
end
def trk(h:H_)(H:Hp):List GE:=(HJ h.objs.size).filter λa=>(H a).isSome
def nP(h:H_)(H:Hp):H_:=PySem.W.hideAll h (trk h H)
theorem wT(h:H_)(H:Hp):(nP h H).objs.size=h.objs.size:=PySem.W.hideAll_size _ _
theorem yk{h:H_}{H:Hp}{b:GE}{o:Obj}(e:h.get? b=some o)(n:H b=none):(nP h H).get? b=some o:=
 PySem.W.hideAll_get _ e λhm=>by
  have q:(H b).isSome=true:=(Io.mp hm).2;rw[n]at q;simp at q
theorem AR{h:H_}{H:Hp}{b:GE}{o:Obj}(e:(nP h H).get? b=some o):h.get? b=some o/\H b=none:=by
 have e':h.get? b=some o:=PySem.W.of_hideAll (trk h H) e;refine⟨e',?_⟩;cases q:H b with
 |none=>rfl
 |some x=>
  have hm:b∈trk h H:=Io.mpr ⟨G8.mpr (GD e'),by simp[q]⟩
  have z:(nP h H).get? b=none:=PySem.W.hideAll_none (trk h H) hm;rw[z]at e;cases e
def AJ(g h:H_)(L:GE):List (GE×Obj):=(HJ h.objs.size).filterMap λa=>if a=L\/(g.get? a).isSome=true then none else (h.get? a).map λo=>(a,o)
def rest(g h:H_)(L d:GE):List (GE×Obj):=(AJ g h L).filter λp=>decide (p.1≠d)
structure Mod(K:Gn)(mg:Str->Option Gr)(base:H_):Prop where
 kin:K.In base
 glob:base.Ns HB mg
 blt:∃mb,base.Ns Qq mb∧∀x:Str,x≠"__name__"→mb x=IF x
 nolimit:base.NoLimit
structure Cx where
 prog:GF
 w:G5
 K:Gn
 mg:Str->Option Gr
 base:H_
 A:Ha
 N:List Str
 s₀:Gs
 H₀:Hp
 env:Env
 outer:List Env
 stack:List Env
 ex:List GE
 fn:Str->Bool
 calm:Bool
 pn:List (GE×Obj)
 xe:Gr->Gs->Prop
def frs(l:List Env):List GE:=l.filterMap (·.frame)
abbrev Cx.fs(X:Cx):List GE:=frs X.outer
def Vis(sc:Ke)(x:Str):Prop:=sc.names.lookup x=some .local\/sc.names.lookup x=some .cell\/sc.names.lookup x=some .free
def Loc(sc:Ke)(x:Str):Prop:=sc.names.lookup x=some .local\/sc.names.lookup x=some .cell
def Gf(env:Env)(h:H_)(m:Str->Option Gr)(x:Str)(u:Gr):Prop:=
 (env.kindOf x=some .local/\m x=some u)\/((env.kindOf x=some .cell\/env.kindOf x=some .free)/\∃c,env.cells.lookup x=some c/\h.IsCell c (some u))
structure Cx.Ok(X:Cx):Prop where
 mod:Mod X.K X.mg X.base
 kind:X.env.scope.kind=.function
 glob:X.env.globals=HB
 blt:X.env.builtins=Qq
 above:X.s₀.heap.objs.size<=X.env.locals
 inj:∀x y c,X.env.cells.lookup x=some c->X.env.cells.lookup y=some c->x=y
 has:∀x,(X.env.kindOf x=some .cell\/X.env.kindOf x=some .free)->∃c,X.env.cells.lookup x=some c
 cab:∀x c,X.fn x=true->X.env.cells.lookup x=some c->X.s₀.heap.objs.size<=c
 hd:X.calm=true->X.A.handled=none
 frames:X.A.frames=some X.stack
 stk:X.stack=X.outer\/(X.stack=X.env::X.outer/\X.env.frame=some X.env.locals)
 exf:∀b∈X.ex,b≠X.env.locals/\∀x c,X.env.cells.lookup x=some c->c≠b
 bs:∀b o,X.base.get? b=some o->X.s₀.heap.get? b=some o/\X.H₀ b=none
 bsz:X.base.objs.size<=X.s₀.heap.objs.size
 noex:∀b o,X.base.get? b=some o->b ∉ X.ex
 exfs:∀b∈X.ex,b ∉ X.fs
 funs:X.s₀.heap.FunFrames X.base X.outer
 frf:∀b∈X.fs,X.H₀ b=none
structure Inv(X:Cx)(pins:List (GE×Obj))(σ:List (Option V))(H:Hp)(s:Gs):Prop where
 ok:X.Ok
 os:s.os=X.s₀.os
 bare:Ms s.gens
 base:Un X.fs X.ex X.H₀ H X.s₀.heap s.heap
 loc:∃m,s.heap.Ns X.env.locals m/\∀(i:Nat) (x:Str) (v:V),X.N[i]?=some x->σ[i]?=some (some v)->Vis X.env.scope x->∃u,aU v u/\Gf X.env s.heap m x u
 cell:∀x c,X.env.cells.lookup x=some c->∃v,s.heap.IsCell c v
 free:H X.env.locals=none
 freeC:∀x c,X.env.cells.lookup x=some c->H c=none
 pin:∀p∈X.pn++pins,s.heap.get? p.1=some p.2/\H p.1=none/\p.1≠X.env.locals/\p.1 ∉ X.fs/\∀v,p.2.data≠.cell v
 hok:HOk X.prog X.w H s.heap
 len:σ.length=X.N.length
variable {X:Cx}{pins:List (GE×Obj)}{s:Gs}
section
variable {σ:List (Option V)}
theorem Cx.Ok.nofr(ok:X.Ok){b:GE}{o:Obj}(e:X.base.get? b=some o):b ∉ X.fs:=λhb=>by
 have:=(ok.funs.mem hb).1;rw[e]at this;cases this
theorem Inv.bs(I:Inv X pins σ H s):∀b o,X.base.get? b=some o->s.heap.get? b=some o/\H b=none:=λb o e=>
 ⟨I.base.keep b o (I.ok.bs b o e).1 (I.ok.bs b o e).2 (I.ok.nofr e) (I.ok.noex b o e),I.base.free b o (I.ok.bs b o e).1 (I.ok.bs b o e).2 (I.ok.noex b o e)⟩
theorem Inv.bk(I:Inv X pins σ H s):∀b o,X.base.get? b=some o->s.heap.get? b=some o:=λb o e=>(I.bs b o e).1
theorem Inv.mod(I:Inv X pins σ H s):Mod X.K X.mg X.base:=I.ok.mod
theorem Inv.kIn(I:Inv X pins σ H s):X.K.In s.heap:=I.ok.mod.kin.keeps I.bk
theorem Inv.lt(I:Inv X pins σ H s):X.env.locals<s.heap.objs.size:=let ⟨_,hn,_⟩:=I.loc;hn.lt
theorem Inv.sz(I:Inv X pins σ H s):X.s₀.heap.objs.size<=s.heap.objs.size:=HD I.ok.above (GT I.lt)
theorem Inv.nofs(I:Inv X pins σ H s){a:GE}(h:s.heap.objs.size<=a):a ∉ X.fs:=λhb=>by
 obtain⟨_,o,ho,_⟩:=I.ok.funs.mem hb;exact absurd (GV (GD ho) (HD I.sz h)) (Hc _)
theorem Inv.cne(I:Inv X pins σ H s):∀x c,X.env.cells.lookup x=some c->c≠X.env.locals:=λx c e z=>by
 obtain⟨v,o,ho,hd⟩:=I.cell x c e;obtain⟨m,⟨o',es,ep,S9,T6,_⟩,_⟩:=I.loc;rw[z,S9]at ho;cases ho;rw[T6]at hd;cases hd
theorem Inv.funs(I:Inv X pins σ H s):s.heap.FunFrames X.base X.outer:=by
 have all:∀(l:List Env),(∀b∈frs l,b∈X.fs)->X.s₀.heap.FunFrames X.base l->s.heap.FunFrames X.base l:=by
  intro l
  induction l with
  |nil=>intro _ _;trivial
  |cons env r ih=>
   intro hs hl;obtain⟨hk,⟨L,o,hf,hn,ho,hd⟩,hr⟩:=hl;have hL:L∈X.fs:=hs L (by unfold frs;rw[IC,hf];exact Gy)
   obtain⟨sl,e⟩:=I.base.slot L o ho (I.ok.frf L hL) hL λz=>I.ok.exfs L z hL
   exact⟨hk,⟨L,_,hf,hn,e,hd⟩,ih (λb hb=>hs b (by unfold frs;rw[IC,hf];exact Gq _ hb)) hr⟩
 exact all X.outer (λ_ hb=>hb) I.ok.funs
theorem Inv.stack(I:Inv X pins σ H s):s.heap.FunFrames X.base X.stack:=by
 rcases I.ok.stk with e |⟨e,hf⟩
 ·rw[e];exact I.funs
 ·rw[e];obtain⟨m,hn,_⟩:=I.loc;refine .cons (by rw[I.ok.kind];decide) hf hn ?_ I.funs
  exact LQ (HD I.ok.bsz I.ok.above)
theorem Inv.stkSub(I:Inv X pins σ H s):∀b∈frs X.stack,b∈X.env.locals::X.fs:=λb hb=>by
 rcases I.ok.stk with e |⟨e,hf⟩
 ·rw[e]at hb;exact Gq _ hb
 ·rw[e]at hb;unfold frs at hb;rw[IC,hf]at hb;exact hb
theorem Inv.stkFree(I:Inv X pins σ H s):∀b∈frs X.stack,H b=none:=λb hb=>by
 rcases Gx.mp (I.stkSub b hb) with e |hb
 ·rw[e];exact I.free
 ·obtain⟨_,o,ho,_⟩:=I.ok.funs.mem hb;exact I.base.free b o ho (I.ok.frf b hb) λz=>I.ok.exfs b z hb
theorem Inv.step{g':Array Kl}{t':Nat}{d':Drawn}{ch:List GE}(I:Inv X pins σ H s)
  (T7:∀b∈ch,(b∈X.ex\/X.s₀.heap.objs.size<=b)/\b≠X.env.locals/\(∀x c,X.env.cells.lookup x=some c->c≠b)/\∀p∈X.pn++pins,p.1≠b)
  (keep:∀b o,b≠X.env.locals->b ∉ X.fs->b ∉ ch->s.heap.get? b=some o->H b=none->h'.get? b=some o)
  (slot:∀b o,b≠X.env.locals->b∈X.fs->b ∉ ch->s.heap.get? b=some o->H b=none->∃sl,h'.get? b=some {o with slots:=sl }) (free:∀b o,b ∉ ch->s.heap.get? b=some o->H b=none->H' b=none)
  (there:∀b o,b ∉ ch->s.heap.get? b=some o->∃o',h'.get? b=some o')
  (tups:∀b xs,H b=some (.tup xs)->H' b=some (.tup xs)) (frzs:∀b o u,H b=some (.frz o u)->H' b=some (.frz o u)) (tbls:∀b ps,H b=some (.tbl ps)->∃more,H' b=some (.tbl (ps++more)))
  (ns:∀m,s.heap.Ns X.env.locals m->h'.Ns X.env.locals m) (hok:HOk X.prog X.w H' h') (hg:Ms g'):
  Inv X pins σ H' {s with heap:=h',gens:=g',drawn:=d',toks:=t' }:=by
 have neL:∀b o,X.s₀.heap.get? b=some o->b≠X.env.locals:=λb o e=>GS (GV (GD e) I.ok.above)
 have neC:∀b o,X.s₀.heap.get? b=some o->b ∉ X.ex->b ∉ ch:=λb o e hx hb=>by
  rcases (T7 b hb).1 with z |z
  ·exact hx z
  ·exact absurd (GV (GD e) z) (Hc _)
 have Vi:∀x c,X.env.cells.lookup x=some c->∀v,s.heap.IsCell c v->h'.IsCell c v:=λx c e v ⟨o,ho,hd⟩=>by
  have nch:c ∉ ch:=λz=>(T7 c z).2.2.1 x c e rfl
  by_cases hc:c∈X.fs
  ·obtain⟨sl,q⟩:=slot c o (I.cne x c e) hc nch ho (I.freeC x c e);exact⟨_,q,hd⟩
  ·exact⟨o,keep c o (I.cne x c e) hc nch ho (I.freeC x c e),hd⟩
 refine⟨I.ok,I.os,hg,⟨λb o e n hb hx=>?_,λb o e n hb hx=>?_,λb o e n hx=>?_,λb o e hx=>?_,λb xs e=>tups b xs (I.base.tups b xs e),λb o xs e=>frzs b o xs (I.base.frzs b o xs e),λb ps e=>?_⟩,?_,λx c e=>?_,?_,λx c e=>?_,λp hp=>?_,hok,I.len⟩
 ·exact keep b o (neL b o e) hb (neC b o e hx) (I.base.keep b o e n hb hx) (I.base.free b o e n hx)
 ·obtain⟨sl,e1⟩:=I.base.slot b o e n hb hx;obtain⟨sl',e2⟩:=slot b _ (neL b o e) hb (neC b o e hx) e1 (I.base.free b o e n hx);exact⟨sl',e2⟩
 ·obtain⟨o',e1⟩:=I.base.there b o e hx;exact free b o' (neC b o e hx) e1 (I.base.free b o e n hx)
 ·obtain⟨o',e1⟩:=I.base.there b o e hx;exact there b o' (neC b o e hx) e1
 ·obtain⟨m1,e1⟩:=I.base.tbls b ps e;obtain⟨m2,e2⟩:=tbls b _ e1;exact⟨m1++m2,by rw[e2,KY]⟩
 ·obtain⟨m,hn,hl⟩:=I.loc;refine⟨m,ns m hn,λi x v e1 e2 e3=>?_⟩
  obtain⟨u,r,l⟩:=hl i x v e1 e2 e3;refine⟨u,r,?_⟩;rcases l with l |⟨k,c,e,z⟩
  ·exact .inl l
  ·exact .inr ⟨k,c,e,Vi x c e _ z⟩
 ·obtain⟨v,z⟩:=I.cell x c e;exact⟨v,Vi x c e v z⟩
 ·obtain⟨m,⟨o,_,_,ho,_⟩,_⟩:=I.loc;exact free _ o (λz=>(T7 _ z).2.1 rfl) ho I.free
 ·obtain⟨v,o,ho,hd⟩:=I.cell x c e;exact free c o (λz=>(T7 c z).2.2.1 x c e rfl) ho (I.freeC x c e)
 ·obtain⟨e,n,ne,nf,d⟩:=I.pin p hp;have nch:p.1 ∉ ch:=λz=>(T7 p.1 z).2.2.2 p hp rfl
  exact⟨keep p.1 p.2 ne nf nch e n,free p.1 p.2 nch e n,ne,nf,d⟩
theorem Inv.un{t':Nat}(I:Inv X pins σ H s)(u:Un X.fs [] H H' s.heap h')(hok:HOk X.prog X.w H' h'):Inv X pins σ H' {s with heap:=h',toks:=t' }:=by
 obtain⟨m,⟨o,es,ep,ho,r⟩,_⟩:=id I.loc;obtain⟨sl,hL⟩:=u.any ho I.free (by simp)
 exact I.step (g':=s.gens) (d':=s.drawn) (ch:=[]) (λ_ z=>nomatch z) (λb o _ hb _ e n=>u.keep b o e n hb (by simp)) (λb o _ hb _ e n=>u.slot b o e n hb (by simp)) (λb o _ e n=>u.free b o e n (by simp)) (λb o _ e=>u.there b o e (by simp)) u.tups u.frzs u.tbls (λm' hm=>by
  obtain⟨o',es',ep',S9,r'⟩:=hm;rw[ho]at S9;cases S9;exact⟨_,es',ep',hL,r'⟩) hok I.bare
theorem Inv.call{g':Array Kl}{t':Nat}{d':Drawn}{ch:List GE}(I:Inv X pins σ H s)(u:Un (frs X.stack) ch H H' s.heap h')(hok:HOk X.prog X.w H' h')(hg:Ms g')
  (T7:∀b∈ch,(b∈X.ex\/X.s₀.heap.objs.size<=b)/\b≠X.env.locals/\(∀x c,X.env.cells.lookup x=some c->c≠b)/\∀p∈X.pn++pins,p.1≠b):
  Inv X pins σ H' {s with heap:=h',gens:=g',drawn:=d',toks:=t' }:=by
 obtain⟨m,⟨o,es,ep,ho,r⟩,_⟩:=id I.loc;obtain⟨sl,hL⟩:=u.any ho I.free λz=>(T7 _ z).2.1 rfl
 exact I.step (ch:=ch) T7 (λb o hL hb hc e n=>u.keep b o e n (λz=>(Gx.mp (I.stkSub b z)).elim hL hb) hc) (λb o _ _ hc e n=>u.any e n hc) (λb o hc e n=>u.free b o e n hc) (λb o hc e=>u.there b o e hc) u.tups u.frzs u.tbls (λm' hm=>by
  obtain⟨o',es',ep',S9,r'⟩:=hm;rw[ho]at S9;cases S9;exact⟨_,es',ep',hL,r'⟩) hok hg
theorem Inv.turned{t':Nat}{it:GE}(I:Inv X pins σ H s)(k:∀b o,b≠it->s.heap.get? b=some o->h'.get? b=some o)(hn:H it=none)(hL:it≠X.env.locals)
  (h1:it∈X.ex\/X.s₀.heap.objs.size<=it) (h2:∀x c,X.env.cells.lookup x=some c->c≠it) (h3:∀p∈X.pn++pins,p.1≠it):Inv X pins σ H {s with heap:=h',toks:=t' }:=by
 have nit:∀b u,H b=some u->b≠it:=λb u e z=>by rw[z,hn]at e;cases e
 refine I.step (g':=s.gens) (d':=s.drawn) (ch:=[it]) (λb hb=>?_) (λb o _ _ hc e _=>k b o (λz=>hc (by simp[z])) e) (λb o _ _ hc e _=>⟨o.slots,k b o (λz=>hc (by simp[z])) e⟩) (λ_ _ _ _ n=>n)
  (λb o hc e=>⟨o,k b o (λz=>hc (by simp[z])) e⟩) (λ_ _ e=>e) (λ_ _ _ e=>e) (λb ps e=>⟨#[],by rw[e];simp⟩) (λm hm=>?_) (λb u e=>?_) I.bare
 ·have e:b=it:=by simpa using hb
  subst e;exact⟨h1,hL,h2,h3⟩
 ·obtain⟨o,es,ep,ho,r⟩:=hm;exact⟨o,es,ep,k _ o (Ne.symm hL) ho,r⟩
 ·refine (I.hok b u e).stay (λc v hc q=>k c v ?_ q) (λ_ q=>q) λ_ _ q=>q
  rcases hc with z |z
  ·rw[z];exact nit b u e
  ·exact nit c _ z
theorem Inv.tok(I:Inv X pins σ H s)(t:Nat):Inv X pins σ H {s with toks:=t }:=I.un (h':=s.heap) (t':=t) Un.refl I.hok
theorem Inv.kept{t':Nat}(I:Inv X pins σ H s)(k:∀b u,s.heap.get? b=some u->h'.get? b=some u):Inv X pins σ H {s with heap:=h',toks:=t' }:=I.un (Un.kept k) (I.hok.kept k)
theorem Inv.laid{a:GE}{o:HO}{t':Nat}(I:Inv X pins σ H s)(k:∀b u,s.heap.get? b=some u->h'.get? b=some u)(hp:s.heap.objs.size<=a)(new:bG X.prog X.w (upd H a o) h' a o):
  Inv X pins σ (upd H a o) {s with heap:=h',toks:=t' }:=I.un (Un.laid k hp (I.hok.fresh hp)) (I.hok.laid k hp new)
theorem Inv.write{x e:GE}{o:HO}{t':Nat}(I:Inv X pins σ H s)(mu:Mut (H x))(he:e=x\/H e=some (.own x))(k:∀b u,b≠e->s.heap.get? b=some u->h'.get? b=some u)(heo:∃u,h'.get? e=some u)
  (new:bG X.prog X.w (upd H x o) h' x o):Inv X pins σ (upd H x o) {s with heap:=h',toks:=t' }:=I.un (Un.write mu he k heo) (I.hok.write mu he k heo new)
theorem Inv.weak{RK:List (Option V)}(I:Inv X pins σ H s)(hl:RK.length=σ.length)(w:∀(i:Nat) v,RK[i]?=some (some v)->σ[i]?=some (some v)):Inv X pins RK H s:=
 ⟨I.ok,I.os,I.bare,I.base,let ⟨m,hn,RZ⟩:=I.loc;⟨m,hn,λi x v e1 e2 e3=>RZ i x v e1 (w i v e2) e3⟩,I.cell,I.free,I.freeC,I.pin,I.hok,hl.trans I.len⟩
theorem Inv.pins_of{Vj:List (GE×Obj)}(I:Inv X pins σ H s)(h:∀p∈Vj,s.heap.get? p.1=some p.2/\H p.1=none/\p.1≠X.env.locals/\p.1 ∉ X.fs/\∀v,p.2.data≠.cell v):Inv X Vj σ H s:=
 ⟨I.ok,I.os,I.bare,I.base,I.loc,I.cell,I.free,I.freeC,λp hp=>(HU.mp hp).elim (λz=>I.pin p (HX _ z)) (h p),I.hok,I.len⟩
theorem kt{N:List Str}(hN:N.Nodup){i j:Nat}{x:Str}(a:N[i]?=some x)(b:N[j]?=some x):i=j:=by
 obtain⟨h1,e1⟩:=GB.mp a;obtain⟨h2,e2⟩:=GB.mp b;exact (MZ hN).mp (e1.trans e2.symm)
theorem eY{M:NO}{A:Ha}{E:Gr->Gs->Prop}{i:Nat}{x:Str}{v:V}{u:Gr}{Q:Unit->Gs->Prop}(I:Inv X pins σ H s)(hN:X.N.Nodup)(hi:X.N[i]?=some x)(hx:Loc X.env.scope x)(r:aU v u)
  (h:∀s',Inv X pins (σ.set i (some v)) H s'->(∃a,JF a s.heap s'.heap/\(a=X.env.locals\/X.env.cells.lookup x=some a))->Q () s') (hf:X.fn x=true\/X.env.scope.names.lookup x=some .local:=by first |exact .inl rfl |exact .inr rfl |assumption):GQ M A (storeName X.env x u) Q E s:=by
 obtain⟨m,hn,hl⟩:=id I.loc;have hcls:(X.env.scope.kind==.class || (X.env.scope.kind==.module && X.env.locals !=X.env.globals))=false:=by rw[I.ok.kind];rfl
 have U6:i<σ.length:=by rw[I.len];exact (GB.mp hi).1
 have cne:=I.cne
 have S0:∀{a:GE}{h':H_},(∃o,s.heap.get? a=some o/\H a=none)->JF a s.heap h'->HOk X.prog X.w H h':=λ{a h'} ha hs b ob e=>by
  obtain⟨_,_,T8⟩:=ha;refine (I.hok b ob e).stay (λc w' hc q=>(hs.2 c ?_).trans q) (λ_ q=>q) λ_ _ q=>q
  rintro rfl;rcases hc with rfl |hc
  ·rw[T8]at e;cases e
  ·rw[T8]at hc;cases hc
 rcases hx with hk |hk
 ·refine wpAny_storeName_local hk hn (λh' UB hs=>?_) hcls
  obtain⟨oL,_,_,hoL,_⟩:=id hn;refine h _ ⟨I.ok,I.os,I.bare,⟨λb o e n hb hx=>?_,λb o e n hb hx=>?_,I.base.free,λb o e hx=>?_,I.base.tups,I.base.frzs,I.base.tbls⟩,⟨_,UB,λj y v' e1 e2 e3=>?_⟩,λy c e=>?_,I.free,I.freeC,λp hp=>?_,S0 ⟨oL,hoL,I.free⟩ hs,by simpa using I.len⟩ ⟨_,hs,.inl rfl⟩
  ·exact (hs.2 b (GS (GV (GD e) I.ok.above))).trans (I.base.keep b o e n hb hx)
  ·obtain⟨sl,e1⟩:=I.base.slot b o e n hb hx;exact⟨sl,(hs.2 b (GS (GV (GD e) I.ok.above))).trans e1⟩
  ·obtain⟨o',e1⟩:=I.base.there b o e hx;exact⟨o',(hs.2 b (GS (GV (GD e) I.ok.above))).trans e1⟩
  ·by_cases hj:j=i
   ·subst hj;rw[hi]at e1;cases e1;rw[Lc U6]at e2;cases e2;exact⟨u,r,.inl ⟨hk,by simp⟩⟩
   ·rw[GX (Ne.symm hj)]at e2;obtain⟨u',r',q⟩:=hl j y v' e1 e2 e3;refine⟨u',r',?_⟩;rcases q with ⟨k,e⟩ |⟨k,c,e,z⟩
    ·refine .inl ⟨k,?_⟩;have:y≠x:=λe=>hj (kt hN e1 (e ▸ hi))
     simp[this,e]
    ·exact .inr ⟨k,c,e,z.sameBut hs (cne y c e)⟩
  ·obtain⟨w',z⟩:=I.cell y c e;exact⟨w',z.sameBut hs (cne y c e)⟩
  ·obtain⟨e,n,ne,nf,d⟩:=I.pin p hp;exact⟨(hs.2 p.1 ne).trans e,n,ne,nf,d⟩
 ·have hfn:X.fn x=true:=by
   rcases hf with z |z
   ·exact z
   ·rw[z]at hk;cases hk
  obtain⟨c,hc⟩:=I.ok.has x (.inl hk);obtain⟨w',z⟩:=I.cell x c hc;refine wpAny_storeName_cell I.ok.kind hk hc z (λh' TN hs=>?_)
  obtain⟨oc,Vk,hocd⟩:=id z;refine h {s with heap:=h' } ⟨I.ok,I.os,I.bare,⟨λb o e n hb hx=>?_,λb o e n hb hx=>?_,I.base.free,λb o e hx=>?_,I.base.tups,I.base.frzs,I.base.tbls⟩,⟨m,hn.sameBut hs (Ne.symm (cne x c hc)),λj y v' e1 e2 e3=>?_⟩,λy c' e=>?_,I.free,I.freeC,λp hp=>?_,S0 ⟨oc,Vk,I.freeC x c hc⟩ hs,by simpa using I.len⟩ ⟨c,hs,.inr hc⟩
  ·exact (hs.2 b (GS (GV (GD e) (I.ok.cab x c hfn hc)))).trans (I.base.keep b o e n hb hx)
  ·obtain⟨sl,e1⟩:=I.base.slot b o e n hb hx;exact⟨sl,(hs.2 b (GS (GV (GD e) (I.ok.cab x c hfn hc)))).trans e1⟩
  ·obtain⟨o',e1⟩:=I.base.there b o e hx;exact⟨o',(hs.2 b (GS (GV (GD e) (I.ok.cab x c hfn hc)))).trans e1⟩
  ·by_cases hj:j=i
   ·subst hj;rw[hi]at e1;cases e1;rw[Lc U6]at e2;cases e2;exact⟨u,r,.inr ⟨.inl hk,c,hc,TN⟩⟩
   ·rw[GX (Ne.symm hj)]at e2;obtain⟨u',r',q⟩:=hl j y v' e1 e2 e3;refine⟨u',r',?_⟩;rcases q with q |⟨k,c',e,z'⟩
    ·exact .inl q
    ·refine .inr ⟨k,c',e,z'.sameBut hs ?_⟩;rintro rfl;exact hj (kt hN e1 (I.ok.inj _ _ _ e hc ▸ hi))
  ·by_cases hcc:c'=c
   ·subst hcc;exact⟨_,TN⟩
   ·obtain⟨w2,z2⟩:=I.cell y c' e;exact⟨w2,z2.sameBut hs hcc⟩
  ·obtain⟨e,n,ne,nf,d⟩:=I.pin p hp;refine⟨(hs.2 p.1 ?_).trans e,n,ne,nf,d⟩;intro q;rw[q,Vk]at e;have q':oc=p.2:=Hq e;exact d w' (by rw[<-q'];exact hocd)
theorem kJ{M:NO}{A:Ha}{E:Gr->Gs->Prop}{i:Nat}{x:Str}{v:V}{u:Gr}{Q:Unit->Gs->Prop}(I:Inv X pins σ H s)(hN:X.N.Nodup)(hi:X.N[i]?=some x)(hx:Loc X.env.scope x)(r:aU v u)
  (h:∀s',Inv X pins (σ.set i (some v)) H s'->Q () s') (hf:X.fn x=true\/X.env.scope.names.lookup x=some .local:=by first |exact .inl rfl |exact .inr rfl |assumption):GQ M A (storeName X.env x u) Q E s:=
 eY I hN hi hx r (λs' I' _=>h s' I') hf
theorem Inv.call'{s':Gs}{ch:List GE}(I:Inv X pins σ H s)(ho:s'.os=s.os)(u:Un (frs X.stack) ch H H' s.heap s'.heap)(hok:HOk X.prog X.w H' s'.heap)(hg:Ms s'.gens)
  (T7:∀b∈ch,(b∈X.ex\/X.s₀.heap.objs.size<=b)/\b≠X.env.locals/\(∀x c,X.env.cells.lookup x=some c->c≠b)/\∀p∈X.pn++pins,p.1≠b):Inv X pins σ H' s':=by
 obtain⟨h',g',d',t',o'⟩:=s';have e:o'=s.os:=ho;subst e;exact I.call (g':=g') (t':=t') (d':=d') u hok hg T7
end
abbrev XK:=Gr->Option GE->Hp->Prop
abbrev St:=List (Option V)
abbrev VK:=V->Hp->Prop
abbrev TE:=St->Hp->VK->Prop
abbrev TT:=St->Hp->(Bool->Hp->Prop)->Prop
abbrev TA:=St->Hp->(List V->Hp->Prop)->Prop
structure ja where
 nx:St->Hp->Prop
 rt:VK
 bk:St->Hp->Prop:=λ_ _=>False
 ct:St->Hp->Prop:=λ_ _=>False
abbrev TS:=ja->St->Hp->Prop
def EP(X:Cx)(pins:List (GE×Obj))(σ:St)(Q:VK)(u:Gr)(s':Gs):Prop:=∃v H',Inv X pins σ H' s'/\aU v u/\Q v H'
def TP(X:Cx)(pins:List (GE×Obj))(σ:St)(Q:Bool->Hp->Prop)(b:Bool)(s':Gs):Prop:=∃H',Inv X pins σ H' s'/\Q b H'
def AP(X:Cx)(pins:List (GE×Obj))(σ:St)(Q:List V->Hp->Prop)(us:List Gr)(s':Gs):Prop:=∃vs H',Inv X pins σ H' s'/\aK vs us/\Q vs H'
def SP(X:Cx)(pins:List (GE×Obj))(D:ja)(f:Flow)(s':Gs):Prop:=
 match f with
 | .next=>∃RK H',Inv X pins RK H' s'/\D.nx RK H'
 | .brk=>∃RK H',Inv X pins RK H' s'/\D.bk RK H'
 | .cont=>∃RK H',Inv X pins RK H' s'/\D.ct RK H'
 | .ret u=>∃v RK H',Inv X pins RK H' s'/\aU v u/\D.rt v H'
def PE(X:Cx)(e:Expr)(t:TE):Prop:=
 ∀(pins:List (GE×Obj)) (s:Gs) (σ:St) (H:Hp) (Q:VK),Inv X pins σ H s->t σ H Q->GQ (G1 X.prog X.w) X.A (HY e X.env) (EP X pins σ Q) X.xe s
def PT(X:Cx)(e:Expr)(t:TT):Prop:=
 ∀(pins:List (GE×Obj)) (s:Gs) (σ:St) (H:Hp) (Q:Bool->Hp->Prop),Inv X pins σ H s->t σ H Q->GQ (G1 X.prog X.w) X.A (isTrue e X.env (HY e X.env)) (TP X pins σ Q) X.xe s
def PW(X:Cx)(e:Expr)(t:TT):Prop:=
 ∀(S3:Sem Gr) (pins:List (GE×Obj)) (s:Gs) (σ:St) (H:Hp) (Q:Bool->Hp->Prop),Inv X pins σ H s->t σ H Q->GQ (G1 X.prog X.w) X.A (isTrue e X.env S3) (TP X pins σ Q) X.xe s
theorem PW.pt{X:Cx}{e:Expr}{t:TT}(h:PW X e t):PT X e t:=h _
def PA(X:Cx)(es:List Expr)(t:TA):Prop:=
 ∀(pos:Pos) (pins:List (GE×Obj)) (s:Gs) (σ:St) (H:Hp) (Q:List V->Hp->Prop),Inv X pins σ H s->t σ H Q->GQ (G1 X.prog X.w) X.A (M_ (Hx pos (Gv es X.env))) (AP X pins σ Q) X.xe s
def PS(X:Cx)(st:Iy)(t:TS):Prop:=
 ∀(pins:List (GE×Obj)) (s:Gs) (σ:St) (H:Hp) (D:ja),Inv X pins σ H s->t D σ H->GQ (G1 X.prog X.w) X.A (exec st X.env) (SP X pins D) X.xe s
def PSs(X:Cx)(st:List Iy)(t:TS):Prop:=
 ∀(pins:List (GE×Obj)) (s:Gs) (σ:St) (H:Hp) (D:ja),Inv X pins σ H s->t D σ H->GQ (G1 X.prog X.w) X.A (execs st X.env) (SP X pins D) X.xe s
theorem thn{α:Type}{t:Sem α}{Q Q':α->Gs->Prop}{M:NO}{A:Ha}{E:Gr->Gs->Prop}{s:Gs}(h:GQ M A t Q E s)(hQ:∀a s,Q a s->Q' a s):GQ M A t Q' E s:=HC h hQ λ_ _ x=>x
variable {ta:TE}{tb:TE}{pos:Pos}
section
def Gb(i:Nat):TE:=λσ H Q=>∃v,σ[i]?=some (some v)/\Q v H
def tC(v:V):TE:=λ_ H Q=>Q v H
theorem cy{i:Nat}{x:Str}{pos:Pos}(hN:X.N[i]?=some x)(hv:Vis X.env.scope x)(hd:(x==("__debug__":Str))=false:=by decide)(R8:(x==("__classdict__":Str))=false:=by decide):PE X (.Name x pos) (Gb i):=by
 intro pins s σ H Q I h;obtain⟨v,e,h⟩:=h;obtain⟨m,hn,hl⟩:=I.loc;obtain⟨u,r,l⟩:=hl i x v hN e hv;have RR:EP X pins σ Q u s:=⟨v,H,I,r,h⟩;rcases l with ⟨hk,hm⟩ |⟨hk,c,hc,Tp⟩
 ·exact MD (NP I.ok.kind hk hn hm RR) hd
 ·rcases hk with hk |hk
  ·exact MD (N2 I.ok.kind hk hc Tp RR) hd
  ·exact MD (N3 I.ok.kind hk hc Tp RR R8) hd
theorem Df{i j pos}:PE X (.Constant (.int i) j pos) (tC (.int i)):=λ_ _ _ H _ I h=>wpAny_Constant_int ⟨.int i,H,I.tok _,⟨_,rfl⟩,h⟩
theorem Fd{b j pos}:PE X (.Constant (.bool b) j pos) (tC (.bl b)):=λ_ _ _ H _ I h=>Constant_bool ⟨.bl b,H,I,rfl,h⟩
theorem DG{j pos}:PE X (.Constant .none j pos) (tC .non):=λ_ _ _ H _ I h=>Constant_none ⟨.non,H,I,rfl,h⟩
theorem DX{x j pos}:PE X (.Constant (.str x) j pos) (tC (.str x)):=λ_ _ _ H _ I h=>KZ ⟨.str x,H,I.tok _,⟨_,rfl⟩,h⟩
def Gl(X:Cx)(x:Str):Prop:=X.env.kindOf x=some .globalImplicit
theorem dF{E:Gr->Gs->Prop}{pins:List (GE×Obj)}{s:Gs}{σ:St}{H:Hp}{x:Str}{u:Gr}{pos:Pos}{Q:Gr->Gs->Prop}(I:Inv X pins σ H s)(hg:Gl X x)(hm:X.mg x=some u)(h:Q u s)
  (hd:(x==("__debug__":Str))=false:=by decide):GQ (G1 X.prog X.w) X.A (HY (.Name x pos) X.env) Q E s:=
 Mg I.ok.kind hg (Calls.loadGlobal_global (by rw[I.ok.glob];exact I.mod.glob.keeps I.bk) hm h) hd
theorem c5{E:Gr->Gs->Prop}{pins:List (GE×Obj)}{s:Gs}{σ:St}{H:Hp}{x:Str}{u:Gr}{pos:Pos}{Q:Gr->Gs->Prop}(I:Inv X pins σ H s)(hg:Gl X x)(hm:X.mg x=none)(hv:IF x=some u)(h:Q u s)
  (hn:x≠"__name__":=by decide) (hd:(x==("__debug__":Str))=false:=by decide):GQ (G1 X.prog X.w) X.A (HY (.Name x pos) X.env) Q E s:=by
 obtain⟨mb,h1,h2⟩:=I.mod.blt;exact Mg I.ok.kind hg (Calls.loadGlobal_builtin (by rw[I.ok.glob];exact I.mod.glob.keeps I.bk) hm (by rw[I.ok.blt];exact h1.keeps I.bk) ((h2 x hn).trans hv) h) hd
theorem nR{x:Str}{v:V}{u:Gr}{pos:Pos}(hg:Gl X x)(hm:X.mg x=some u)(r:aU v u)(hd:(x==("__debug__":Str))=false:=by decide):PE X (.Name x pos) (tC v):=
 λ_ _ _ H _ I h=>dF I hg hm ⟨v,H,I,r,h⟩ hd
theorem A6{x:Str}{v:V}{u:Gr}{pos:Pos}(hg:Gl X x)(hm:X.mg x=none)(hv:IF x=some u)(r:aU v u)(hn:x≠"__name__":=by decide)(hd:(x==("__debug__":Str))=false:=by decide):PE X (.Name x pos) (tC v):=
 λ_ _ _ H _ I h=>c5 I hg hm hv ⟨v,H,I,r,h⟩ hn hd
variable {a b:Expr}
def PC(X:Cx)(op:Ox)(a b:Expr)(t:TE):Prop:=
 ∀(pins:List (GE×Obj)) (s:Gs) (σ:St) (H:Hp) (Q:VK),Inv X pins σ H s->t σ H Q->
  GQ (G1 X.prog X.w) X.A (HY a X.env) (λv RJ=>GQ (G1 X.prog X.w) X.A (HY b X.env) (λu S4=>GQ (G1 X.prog X.w) X.A (Hh op v u) (EP X pins σ Q) X.xe S4) X.xe RJ) X.xe s
def tB(t:TE):TT:=λσ H Q=>t σ H λx H1=>∃c,x=.bl c/\Q c H1
theorem Ab{op:Ox}{t:TE}(h:PC X op a b t)(h1:Je op b=false:=by first |exact nobehind _ (by decide) (by decide) |rfl):PT X (.Compare a [op] [b] pos) (tB t):=by
 intro pins s σ H Q I hw;refine Na (thn (h pins s σ H _ I hw) λv s1 h1=>thn h1 λu s2 h2=>thn h2 λc s3 ⟨x,H1,I1,r1,q1⟩=>?_) h1
 obtain⟨d,rfl,q⟩:=q1;cases r1;exact IG ⟨H1,I1,q⟩
theorem Dt{e:Expr}{t:TE}(h:PE X e t)(he:∀S3,isTrue e X.env S3=(do let v <-S3;Mt e.pos;Ln [v] (truthy v)):=by intro _;rfl):PT X e (tB t):=by
 intro pins s σ H Q I hw;refine isTrue_plain (thn (h pins s σ H _ I hw) λv s1 ⟨x,H1,I1,r1,q1⟩=>?_) (he _)
 obtain⟨d,rfl,q⟩:=q1;cases r1;exact IG ⟨H1,I1,q⟩
variable {tA tB':TT}{rest:List Expr}
def FM(t u:TT):TT:=λσ H Q=>t σ H λc H1=>if c=true then u σ H1 Q else Q false H1
def tOr(t u:TT):TT:=λσ H Q=>t σ H λc H1=>if c=true then Q true H1 else u σ H1 Q
def FQ(t:TT):TT:=λσ H Q=>t σ H λc H1=>Q (!c) H1
theorem BE(ha:PT X a tA):PW X (.BoolOp .And [a] pos) tA:=by
 intro wh pins s σ H Q I h;refine isTrue_and (thn (ha pins s σ H Q I h) λc s1 e=>?_)
 cases c with
 |true=>exact isTrue_and_nil e
 |false=>exact e
theorem xC(ha:PT X a tA):PW X (.BoolOp .Or [a] pos) tA:=by
 intro wh pins s σ H Q I h;refine isTrue_or (thn (ha pins s σ H Q I h) λc s1 e=>?_)
 cases c with
 |false=>exact isTrue_or_nil e
 |true=>exact e
theorem zp(ha:PT X a tA)(hb:PW X (.BoolOp .And (b::rest) pos) tB'):PW X (.BoolOp .And (a::b::rest) pos) (FM tA tB'):=by
 intro wh pins s σ H Q I h;refine isTrue_and (thn (ha pins s σ H _ I h) λc s1 ⟨H1,I1,q1⟩=>?_)
 cases c with
 |true=>exact hb wh pins s1 σ H1 Q I1 q1
 |false=>exact⟨H1,I1,q1⟩
theorem yR(ha:PT X a tA)(hb:PW X (.BoolOp .Or (b::rest) pos) tB'):PW X (.BoolOp .Or (a::b::rest) pos) (tOr tA tB'):=by
 intro wh pins s σ H Q I h;refine isTrue_or (thn (ha pins s σ H _ I h) λc s1 ⟨H1,I1,q1⟩=>?_)
 cases c with
 |true=>exact⟨H1,I1,q1⟩
 |false=>exact hb wh pins s1 σ H1 Q I1 q1
theorem D9(ha:PT X a tA):PT X (.UnaryOp .Not a pos) (FQ tA):=by
 intro pins s σ H Q I h;exact isTrue_not (ha pins s σ H (λc H1=>Q (!c) H1) I h)
def Fy(ta tb:TE):TE:=λσ H Q=>ta σ H λx H1=>∃c,x=.bl c/\if c=true then tb σ H1 Q else Q (.bl false) H1
def F1(ta tb:TE):TE:=λσ H Q=>ta σ H λx H1=>∃c,x=.bl c/\if c=true then Q (.bl true) H1 else tb σ H1 Q
theorem C7{op}{t:TE}(h:PE X a t):PE X (.BoolOp op [a] pos) t:=λpins s σ H Q I hw=>BoolOp_one (h pins s σ H Q I hw)
theorem Ah(ha:PE X a ta)(hb:PE X (.BoolOp .And (b::rest) pos) tb):PE X (.BoolOp .And (a::b::rest) pos) (Fy ta tb):=by
 intro pins s σ H Q I h;refine BoolOp_and (thn (ha pins s σ H _ I h) λv s1 ⟨x,H1,I1,r1,q1⟩=>?_)
 obtain⟨c,rfl,q1⟩:=q1;cases r1;refine IG ?_;cases c with
 |true=>exact hb pins s1 σ H1 Q I1 q1
 |false=>exact⟨.bl false,H1,I1,rfl,q1⟩
theorem CD(ha:PE X a ta)(hb:PE X (.BoolOp .Or (b::rest) pos) tb):PE X (.BoolOp .Or (a::b::rest) pos) (F1 ta tb):=by
 intro pins s σ H Q I h;refine BoolOp_or (thn (ha pins s σ H _ I h) λv s1 ⟨x,H1,I1,r1,q1⟩=>?_)
 obtain⟨c,rfl,q1⟩:=q1;cases r1;refine IG ?_;cases c with
 |false=>exact hb pins s1 σ H1 Q I1 q1
 |true=>exact⟨.bl true,H1,I1,rfl,q1⟩
def tIf(t:TT)(ta tb:TE):TE:=λσ H Q=>t σ H λc H1=>if c=true then ta σ H1 Q else tb σ H1 Q
theorem qh{c:Expr}(hc:PT X c tA)(ha:PE X a ta)(hb:PE X b tb):PE X (.IfExp c a b pos) (tIf tA ta tb):=by
 intro pins s σ H Q I h;refine wpAny_IfExp (thn (hc pins s σ H _ I h) λd s1 ⟨H1,I1,q1⟩=>?_)
 cases d with
 |true=>exact ha pins s1 σ H1 Q I1 q1
 |false=>exact hb pins s1 σ H1 Q I1 q1
end
def SqL(K:Gn)(H:Hp)(a:GE)(xs:List V):Prop:=
 Rd H a (.lst xs)\/
  ∃(o:Obj) (RB:Array Gr) (n:Nat),K.lookup a=some o∧o.cls=.type "list"∧o.dict=none∧o.data=.seq RB n∧RB.size≤sizeLine∧aK xs RB.toList
def SqT(K:Gn)(H:Hp)(a:GE)(xs:List V):Prop:=
 Rd H a (.tup xs)\/
  ∃(o:Obj) (RB:Array Gr) (n:Nat),K.lookup a=some o∧o.cls=.type "tuple"∧o.data=.seq RB n∧RB.size≤sizeLine∧aK xs RB.toList
def FR:Gr->Option V
 | .none=>some .non
 | .bool b=>some (.bl b)
 | .int i _=>some (.int i)
 | .str x _=>some (.str x)
 | .bytes b _=>some (.byt b)
 | .float b _=>some (.flt b)
 | .ref a=>some (.ref a)
 | .type n=>some (.ty n)
 |_=>none
theorem aU.abs{x:V}{u:Gr}(r:aU x u):FR u=some x:=by
 cases x with
 |non=>cases r;rfl
 |bl _=>cases r;rfl
 |int _=>obtain⟨t,rfl⟩:=r;rfl
 |str _=>obtain⟨t,rfl⟩:=r;rfl
 |byt _=>obtain⟨t,rfl⟩:=r;rfl
 |flt _=>obtain⟨t,rfl⟩:=r;rfl
 |ref _=>cases r;rfl
 |ty _=>cases r;rfl
theorem aU.inj{x y:V}{u:Gr}(r:aU x u)(q:aU y u):x=y:=Hq (r.abs.symm.trans q.abs)
theorem aK.inj:∀{xs ys:List V}{us:List Gr},aK xs us->aK ys us->xs=ys
 |_,_,_,.nil,.nil=>rfl
 |_,_,_,.cons r t,.cons r' t'=>by rw[r.inj r',aK.inj t t']
variable {σ:St}
section
variable {a:GE}{xs ys:List V}
theorem SqL.of{K:Gn}(h:H a=some (.lst xs)):SqL K H a xs:=.inl (.inl h)
theorem SqT.of{K:Gn}(h:H a=some (.tup xs)):SqT K H a xs:=.inl (.inl h)
theorem Inv.list(I:Inv X pins σ H s)(h:SqL X.K H a xs):∃RB:List Gr,aK xs RB/\PlainL s.heap a RB.toArray/\xs.length<=sizeLine:=by
 rcases h with h |⟨o,RB,n,hk,hc,hd,hs,hz,r⟩
 ·obtain⟨z,RB,n,r,e⟩:=h.ok I.hok;exact⟨RB,r,⟨_,n,e,rfl,rfl,rfl⟩,z⟩
 ·refine⟨RB.toList,r,⟨o,n,I.kIn a o hk,hc,hd,by simpa using hs⟩,?_⟩
  have e:=r.length;simp only[GY]at e;lia
theorem Inv.tuple(I:Inv X pins σ H s)(h:SqT X.K H a xs):∃RB:List Gr,aK xs RB/\Rw s.heap a RB.toArray/\xs.length<=sizeLine:=by
 rcases h with h |⟨o,RB,n,hk,hc,hs,hz,r⟩
 ·obtain⟨z,RB,r,p⟩:=h.ok I.hok;exact⟨RB,r,p,z⟩
 ·refine⟨RB.toList,r,⟨o,I.kIn a o hk,hc,n,by simpa using hs⟩,?_⟩
  have e:=r.length;simp only[GY]at e;lia
theorem Inv.list_inj(I:Inv X pins σ H s)(h:SqL X.K H a xs)(h':SqL X.K H a ys):xs=ys:=by
 obtain⟨RB,r,⟨o,n,e,_,_,d⟩,_⟩:=I.list h;obtain⟨its',r',⟨o',n',e',_,_,d'⟩,_⟩:=I.list h';rw[e]at e';cases e';rw[d]at d';injection d' with d1 _
 have:RB=its':=by simpa using congrArg OT d1
 subst this;exact r.inj r'
theorem Inv.tuple_inj(I:Inv X pins σ H s)(h:SqT X.K H a xs)(h':SqT X.K H a ys):xs=ys:=by
 obtain⟨RB,r,⟨o,e,_,n,d⟩,_⟩:=I.tuple h;obtain⟨its',r',⟨o',e',_,n',d'⟩,_⟩:=I.tuple h';rw[e]at e';cases e';rw[d]at d';injection d' with d1 _
 have:RB=its':=by simpa using congrArg OT d1
 subst this;exact r.inj r'
end
abbrev Cx.wish(X:Cx)(E:Gr->Gs->Prop):Cx:={X with xe:=E }
abbrev Cx.nox(X:Cx):Cx:=X.wish λ_ _=>False
theorem Cx.Ok.wish{X:Cx}(ok:X.Ok)(E:Gr->Gs->Prop):(X.wish E).Ok:=
 ⟨ok.mod,ok.kind,ok.glob,ok.blt,ok.above,ok.inj,ok.has,ok.cab,ok.hd,ok.frames,ok.stk,ok.exf,ok.bs,ok.bsz,ok.noex,ok.exfs,ok.funs,ok.frf⟩
theorem Cx.Ok.unwish{X:Cx}{E:Gr->Gs->Prop}(ok:(X.wish E).Ok):X.Ok:=
 ⟨ok.mod,ok.kind,ok.glob,ok.blt,ok.above,ok.inj,ok.has,ok.cab,ok.hd,ok.frames,ok.stk,ok.exf,ok.bs,ok.bsz,ok.noex,ok.exfs,ok.funs,ok.frf⟩
variable {E:Gr→Gs→Prop}
section
theorem Inv.wish(I:Inv X pins σ H s)(E:Gr->Gs->Prop):Inv (X.wish E) pins σ H s:=⟨I.ok.wish E,I.os,I.bare,I.base,I.loc,I.cell,I.free,I.freeC,I.pin,I.hok,I.len⟩
theorem Inv.unwish(I:Inv (X.wish E) pins σ H s):Inv X pins σ H s:=⟨I.ok.unwish,I.os,I.bare,I.base,I.loc,I.cell,I.free,I.freeC,I.pin,I.hok,I.len⟩
theorem SP.unwish{D:ja}{f:Flow}{s':Gs}(h:SP (X.wish E) pins D f s'):SP X pins D f s':=by
 cases f with
 |next=>obtain⟨RK,H',I,q⟩:=h;exact⟨RK,H',I.unwish,q⟩
 |brk=>obtain⟨RK,H',I,q⟩:=h;exact⟨RK,H',I.unwish,q⟩
 |cont=>obtain⟨RK,H',I,q⟩:=h;exact⟨RK,H',I.unwish,q⟩
 |ret u=>obtain⟨v,RK,H',I,r,q⟩:=h;exact⟨v,RK,H',I.unwish,r,q⟩
theorem PSs.nox{st:List Iy}{t:TS}(h:PSs X.nox st t):PSs X st t:=λpins s σ H D I hw=>
 HC (h pins s σ H D (I.wish _) hw) (λ_ _ q=>q.unwish) λ_ _ z=>False.elim z
variable {st:Iy}{rest:List Iy}{t u:TS}{e:Expr}{te:TE}
def Fc:TS:=λD σ H=>D.nx σ H
def Dn(t u:TS):TS:=λD σ H=>t {D with nx:=u D } σ H
theorem AQ:PSs X [] Fc:=λ_ _ σ H _ I h=>K0 ⟨σ,H,I,h⟩
theorem ye(h1:PS X st t)(h2:PSs X rest u):PSs X (st::rest) (Dn t u):=by
 intro pins s σ H D I h;refine KH (thn (h1 pins s σ H {D with nx:=u D } I h) λf s1 q=>?_)
 cases f with
 |next=>
  obtain⟨RK,H',I',q⟩:=q;exact h2 pins s1 RK H' D I' q
 |ret v=>exact q
 |brk=>exact q
 |cont=>exact q
theorem BY(h1:PS X st t):PSs X [st] t:=by
 intro pins s σ H D I h;refine KH (thn (h1 pins s σ H D I h) λf s1 q=>?_)
 cases f with
 |next=>exact K0 q
 |ret v=>exact q
 |brk=>exact q
 |cont=>exact q
theorem Inv.quiet{pins:List (GE×Obj)}{σ:St}{H:Hp}{s:Gs}(I:Inv X pins σ H s):interactive X.env=false:=by simp[interactive,I.ok.kind]
def Ey(te:TE):TS:=λD σ H=>te σ H λ_ H1=>D.nx σ H1
theorem nM(he:PE X e te)(hs:Ip e none pos.line X.env=pure false:=by rfl):PS X (.Expr e pos) (Ey te):=by
 intro pins s σ H D I h;exact PV (thn (he pins s σ H _ I h) λv s1 ⟨x,H1,I1,r1,q1⟩=>⟨σ,H1,I1,q1⟩) I.quiet hs
def E9(te:TE):TS:=λD σ H=>te σ H D.rt
theorem jc(he:PE X e te):PS X (.Return (some e) pos) (E9 te):=by
 intro pins s σ H D I h;exact Oy (thn (he pins s σ H _ I h) λv s1 ⟨x,H1,I1,r1,q1⟩=>⟨x,σ,H1,I1,r1,q1⟩)
def FO(c:TT)(t u:TS):TS:=λD σ H=>c σ H λb H1=>if b=true then t D σ H1 else u D σ H1
theorem xF{c:Expr}{a b:List Iy}{tc:TT}(hc:PT X c tc)(ha:PSs X a t)(hb:PSs X b u):PS X (.If c a b pos) (FO tc t u):=by
 intro pins s σ H D I h;refine wpAny_If (thn (hc pins s σ H _ I h) λd s1 ⟨H1,I1,q1⟩=>?_)
 cases d with
 |true=>exact ha pins s1 σ H1 D I1 q1
 |false=>exact hb pins s1 σ H1 D I1 q1
end
abbrev TG:=V->St->Hp->(St->Hp->Prop)->Prop
abbrev TGs:=List V->St->Hp->(St->Hp->Prop)->Prop
def PG(X:Cx)(target:Expr)(t:TG):Prop:=
 ∀(pins:List (GE×Obj)) (s:Gs) (σ:St) (H:Hp) (v:V) (u:Gr) (Q:St->Hp->Prop),Inv X pins σ H s->aU v u->t v σ H Q->
  GQ (G1 X.prog X.w) X.A (M0 target X.env u) (λ_ s'=>∃RK H',Inv X pins RK H' s'/\Q RK H') X.xe s
def PGs(X:Cx)(ts:List Expr)(t:TGs):Prop:=
 ∀(pins:List (GE×Obj)) (s:Gs) (σ:St) (H:Hp) (vs:List V) (us:List Gr) (Q:St->Hp->Prop),Inv X pins σ H s->aK vs us->t vs σ H Q->
  GQ (G1 X.prog X.w) X.A (assignInOrder ((JC ts X.env).map (·.2)) us) (λ_ s'=>∃RK H',Inv X pins RK H' s'/\Q RK H') X.xe s
section
def jE(i:Nat):TG:=λv σ H Q=>Q (σ.set i (some v)) H
theorem aJ{i:Nat}{x:Str}(hN:X.N.Nodup)(hi:X.N[i]?=some x)(hx:Loc X.env.scope x)(hf:X.fn x=true\/X.env.scope.names.lookup x=some .local:=by first |exact .inl rfl |exact .inr rfl |assumption):PG X (.Name x pos) (jE i):=by
 intro pins s σ H v u Q I r h;exact Lo (kJ I hN hi hx r (λs' I'=>⟨_,H,I',h⟩) hf)
def FC:TGs:=λvs σ H Q=>vs=[]/\Q σ H
def Ch(t:TG)(u:TGs):TGs:=λvs σ H Q=>∃v r,vs=v::r/\t v σ H λRK H'=>u r RK H' Q
theorem cn:PGs X [] FC:=by
 intro pins s σ H vs us Q I r h;obtain⟨e,h⟩:=h;subst e;cases r;exact assignInOrder_nil ⟨σ,H,I,h⟩
theorem aN{e:Expr}{es:List Expr}{t:TG}{u:TGs}(h1:PG X e t)(h2:PGs X es u)
  (hs:(JC (e::es) X.env).map (·.2)=M0 e X.env::(JC es X.env).map (·.2):=by rfl):PGs X (e::es) (Ch t u):=by
 intro pins s σ H vs us Q I r h;obtain⟨v,vr,e1,h⟩:=h;subst e1;cases r with
 |cons r rr=>
  rw[hs];refine assignInOrder_cons (thn (h1 pins s σ H _ _ _ I r h) λ_ s1 ⟨T9,H1,I1,q1⟩=>?_)
  exact h2 pins s1 T9 H1 _ _ Q I1 rr q1
def EV(K:Gn)(n:Nat)(t:TGs):TG:=λv σ H Q=>∃a xs,v=.ref a/\SqT K H a xs/\xs.length=n/\t xs σ H Q
theorem dE{es:List Expr}{k:Nat}{t:TGs}{n:Nat}(hc:X.calm=true)(h:PGs X es t)
  (hn:(JC es X.env).length=n:=by rfl) (R9:(JC es X.env).findIdx? (·.1)=none:=by rfl):PG X (.Tuple es k pos) (EV X.K n t):=by
 intro pins s σ H v u Q I r hw;obtain⟨a,xs,e1,hq,hl,hw⟩:=hw;subst e1;cases r;obtain⟨RB,rv,ht,hz⟩:=I.tuple hq;refine assign_Tuple_tuple (I.ok.hd hc) ht (by simp[hn,<-hl,rv.length]) R9 λh' hx=>?_
 have I1:Inv X pins σ H {s with heap:=h' }:=I.kept (t':=s.toks) λb o e=>hx b o (GS (GD e)) e
 exact h pins _ σ H xs _ Q I1 (by simpa using rv) hw
def vf(te:TE)(g:TG):TS:=λD σ H=>te σ H λx H1=>g x σ H1 D.nx
theorem DZ{tg e:Expr}{te:TE}{g:TG}(he:PE X e te)(hg:PG X tg g)(hs:swapsWithSole [tg] e pos.line X.env=pure false:=by rfl)(hw:swappedStores [tg] e X.env=pure none:=by rfl)
  (h1:(JC [tg] X.env).map (·.2)=[M0 tg X.env]:=by rfl):PS X (.Assign [tg] e pos) (vf te g):=by
 intro pins s σ H D I h;refine wpAny_Assign_stores (thn (he pins s σ H _ I h) λv s1 ⟨x,H1,I1,r1,q1⟩=>?_) hs hw
 rw[h1];exact thn (hg pins s1 σ H1 x v _ I1 r1 q1) λ_ s2 q=>q
theorem rS{i:Nat}{x:Str}{e:Expr}{te:TE}{RN:Pos}(hN:X.N.Nodup)(hi:X.N[i]?=some x)(hx:Loc X.env.scope x)(he:PE X e te)(hs:Ip e (some (.Name x RN)) pos.line X.env=pure false:=by rfl)(hf:X.fn x=true\/X.env.scope.names.lookup x=some .local:=by first |exact .inl rfl |exact .inr rfl |assumption):
  PS X (.Assign [.Name x RN] e pos) (vf te (jE i)):=by
 intro pins s σ H D I h;refine Oz (thn (he pins s σ H _ I h) λv s1 ⟨y,H1,I1,r1,q1⟩=>?_) hs
 exact kJ I1 hN hi hx r1 (λs2 I2=>⟨_,H1,I2,q1⟩) hf
def DQ(c:TT)(tb:TS):TS:=λD σ H=>∃W:Nat->St->Hp->Prop,(∃m,W m σ H)/\∀m σ H,W m σ H->
 c σ H λb H1=>if b=true then ∃N:St->Hp->Prop,(∀RK H',N RK H'->∃m',m'<m/\W m' RK H')/\tb {D with nx:=N,ct:=N,bk:=D.nx } σ H1 else D.nx σ H1
theorem xq{c:Expr}{RO:List Iy}{tc:TT}{tb:TS}(hp:Nb (G1 X.prog X.w) X.A X.env X.xe)(hc:PT X c tc)(hb:PSs X RO tb):PS X (.While c RO [] pos) (DQ tc tb):=by
 intro pins s σ H D I h;obtain⟨W,⟨m0,w0⟩,turn⟩:=h;refine wpAny_While (codeAny_whileLoop (λn s'=>∃RK H',Inv X pins RK H' s'/\W n RK H') ?_ m0 ⟨σ,H,I,w0⟩)
 rintro n s1 ⟨T9,H1,I1,w1⟩;refine JO hp (thn (hc pins s1 T9 H1 _ I1 (turn n T9 H1 w1)) λb s2 ⟨H2,I2,q2⟩=>?_)
 cases b with
 |true=>
  obtain⟨N,hN,q2⟩:=q2;rw[if_pos rfl];refine JO hp (thn (hb pins s2 T9 H2 _ I2 q2) λf s3 q3=>?_)
  cases f with
  |next=>
   obtain⟨UC,H3,I3,n3⟩:=q3;obtain⟨m',hm,w3⟩:=hN UC H3 n3;exact⟨m',hm,UC,H3,I3,w3⟩
  |cont=>
   obtain⟨UC,H3,I3,n3⟩:=q3;obtain⟨m',hm,w3⟩:=hN UC H3 n3;exact⟨m',hm,UC,H3,I3,w3⟩
  |brk=>exact q3
  |ret v=>exact q3
 |false=>
  rw[if_neg GZ];exact K0 ⟨T9,H2,I2,q2⟩
end
structure It where
 go:Nat->Hp->Prop
 yld:Nat->Hp->V->Hp->Prop
 stop:Nat->Hp->Prop
def ig(X:Cx)(pins:List (GE×Obj))(H:Hp)(b:GE):Prop:=
 H b=none/\b≠X.env.locals/\b ∉ X.fs/\(b∈X.ex\/X.s₀.heap.objs.size<=b)/\(∀x c,X.env.cells.lookup x=some c->c≠b)/\∀p∈X.pn++pins,p.1≠b
theorem Inv.fpOk{X:Cx}{pins:List (GE×Obj)}{σ:St}{H H':Hp}{s:Gs}{b:GE}(I:Inv X pins σ H s)(hb:s.heap.objs.size<=b)(hn:H' b=none):ig X pins H' b:=by
 refine⟨hn,Kf (GV I.lt hb),I.nofs hb,.inr (HD I.sz hb),λx c e z=>?_,λp hp z=>?_⟩
 ·obtain⟨v,q⟩:=I.cell x c e;exact absurd (GV q.lt (by rw[z];exact hb)) (Hc _)
 ·exact absurd (GV (GD (I.pin p hp).1) (by rw[z];exact hb)) (Hc _)
structure yF(P:GF)(w:G5)(K:Gn)(tg:Expr)(J:It)(fp:List GE)(it:GE)(tn:Nat->H_->Prop):Prop where
 mem:it∈fp
 obj:∀i h,tn i h->∀b∈fp,∃o,h.get? b=some o/\∀v,o.data≠.cell v
 keep:∀i h h',tn i h->(∀b∈fp,∀o,h.get? b=some o->h'.get? b=some o)->tn i h'
 item:∀(X:Cx),X.prog=P->X.w=w->X.K=K->X.calm=true->∀(i:Nat) (pins:List (GE×Obj)) (s:Gs) (σ:St) (H:Hp) (E:Gr->Gs->Prop),Inv X pins σ H s->(∀b∈fp,ig X pins H b)->tn i s.heap->J.go i H->
  GQ (G1 P w) X.A (LR (.ref it)) (λr s1=>∃u,r=some u/\
   GQ (G1 P w) X.A (Nc tg (.ref it) u) (λ_ s2=>∃x H',Inv X pins σ H' s2/\aU x u/\J.yld i H x H'/\tn (i+1) s2.heap/\∀b∈fp,H' b=none) E s1) E s
 done:∀(X:Cx),X.prog=P->X.w=w->X.K=K->X.calm=true->∀(i:Nat) (pins:List (GE×Obj)) (s:Gs) (σ:St) (H:Hp) (E:Gr->Gs->Prop),Inv X pins σ H s->(∀b∈fp,ig X pins H b)->tn i s.heap->J.stop i H->
  GQ (G1 P w) X.A (LR (.ref it)) (λr s1=>r=none/\Inv X pins σ H s1) E s
 self:∀(A:Ha) (i:Nat) (s:Gs) (Q:Gr->Gs->Prop) (E:Gr->Gs->Prop),tn i s.heap->Q (.ref it) s->GQ (G1 P w) A (OU (.ref it)) Q E s
abbrev TI:=St->Hp->(It->Hp->Prop)->Prop
def PIE(X:Cx)(pins:List (GE×Obj))(σ:St)(tg:Expr)(R:It->Hp->Prop)(itv:Gr)(s2:Gs):Prop:=
 ∃(it:GE) (fp:List GE) (tn:Nat->H_->Prop) (J:It) (H':Hp),itv=.ref it/\Inv X pins σ H' s2/\yF X.prog X.w X.K tg J fp it tn/\tn 0 s2.heap/\(∀b∈fp,ig X pins H' b)/\R J H'
def PI(X:Cx)(tg iter:Expr)(wi:TI):Prop:=
 ∀(pins:List (GE×Obj)) (s:Gs) (σ:St) (H:Hp) (R:It->Hp->Prop),Inv X pins σ H s->wi σ H R->
  GQ (G1 X.prog X.w) X.A (HY iter X.env) (λv s1=>GQ (G1 X.prog X.w) X.A (OU v) (PIE X pins σ tg R) X.xe s1) X.xe s
theorem yZ{M:NO}{A:Ha}{E:Gr->Gs->Prop}{s:Gs}{tg:Expr}{it:GE}{u:Gr}{o:Obj}{n:String}{vs:Array Gr}{Q:Unit->Gs->Prop}(ho:s.heap.get? it=some o)(hc:o.cls=.type n)(hd:o.data=.fields vs)
  (hn:["enumerate","zip","dict_itemiterator","dict_reverseitemiterator","odict_iterator","itertools.zip_longest","itertools.pairwise"].contains n=false) (hQ:Q () s):GQ M A (Nc tg (.ref it) u) Q E s:=by
 unfold Nc
 cases tg <;>first
  |exact Gw hQ
  | (cases u <;>first
    |exact Gw hQ
    | (refine Gk (wpAny_load ho ?_)
       rw[hc,hd];show GQ M A (if (["enumerate","zip","dict_itemiterator","dict_reverseitemiterator","odict_iterator","itertools.zip_longest","itertools.pairwise"].contains n && vs[0]?==some (Ld _))=true then _ else _) Q E s
       rw[if_neg (by intro h;rw[hn,Bool.false_and]at h;cases h)]
       exact Gw hQ))
def Itl(K:Gn)(a:GE):It:=
 ⟨λi H=>∃xs x,SqL K H a xs/\xs[i]?=some x,λi H x H'=>H'=H/\∀xs,SqL K H a xs->xs[i]?=some x,λi H=>∃xs,SqL K H a xs/\xs.length<=i⟩
def Itr(lo:Int)(n:Nat):It:=⟨λi _=>i<n,λi H x H'=>H'=H/\x=.int (lo+i),λi _=>n<=i⟩
theorem mU{P:GF}{w:G5}{K:Gn}{tg:Expr}(a it:GE):yF P w K tg (Itl K a) [it] it (λi h=>h.IsListIter it a i) where
 mem:=by simp
 obj:=λi h st b hb=>by
  have e:b=it:=by simpa using hb
  subst e;obtain⟨o,e,c,d⟩:=st;exact⟨o,e,λv z=>by rw[d]at z;cases z⟩
 keep:=λi h h' st k=>st.at λo e=>k it (by simp) o e
 item:=by
  intro X hP hw hK hc i pins s σ H E I hf st hg;subst hP hw hK;obtain⟨xs,x,hq,hx⟩:=hg;obtain⟨RB,rv,p,hz⟩:=I.list hq;obtain⟨u,hu,ru⟩:=rv.get hx;obtain⟨f0,f1,f2,f3,f4,f5⟩:=hf it (by simp)
  refine M7 st p.isList (x:=u) (by simpa using hu) λh' Uk sb=>?_
  have I1:Inv X pins σ H {s with heap:=h' }:=I.turned (t':=s.toks) (λb o hb e=>(sb.2 b hb).trans e) f0 f1 f3 f4 f5
  obtain⟨o,e,c,d⟩:=id Uk;exact⟨u,rfl,yZ (s:={s with heap:=h' }) e c d (by decide) ⟨x,H,I1,ru,⟨rfl,λys hy=>by rw[I.list_inj hy hq];exact hx⟩,Uk,λb hb=>(hf b hb).1⟩⟩
 done:=by
  intro X hP hw hK hc i pins s σ H E I hf st hg;subst hP hw hK;obtain⟨xs,hq,hx⟩:=hg;obtain⟨RB,rv,p,hz⟩:=I.list hq;obtain⟨f0,f1,f2,f3,f4,f5⟩:=hf it (by simp)
  have hl:=rv.length;exact Nd (I.ok.hd hc) st p.isList (by simp;lia) λh' eb=>⟨rfl,I.turned (t':=s.toks) (λb o hb e=>eb b o hb e) f0 f1 f3 f4 f5⟩
 self:=λ_ _ _ _ _ st h=>wpAny_pyIter_listiter st h
theorem sV{P:GF}{w:G5}{K:Gn}{tg:Expr}(it:GE)(lo:Int)(n:Nat):yF P w K tg (Itr lo n) [it] it (λi h=>IsRangeIter h it (lo+(i:Nat) *1) ((n:Int)-(i:Nat)) 1) where
 mem:=by simp
 obj:=λi h st b hb=>by
  have e:b=it:=by simpa using hb
  subst e
  exact⟨_,st,λv z=>by
   have z':Data.fields _=Data.cell v:=z;cases z'⟩
 keep:=λi h h' st k=>k it (by simp) _ st
 item:=by
  intro X hP hw hK hc i pins s σ H E I hf st hg;subst hP hw hK;obtain⟨f0,f1,f2,f3,f4,f5⟩:=hf it (by simp)
  have W:=Walks.range (prog:=X.prog) (w:=X.w) (I.ok.hd hc) it lo 1 n;refine W.item i s _ _ hg st λv h' tk hv Uk kk=>?_
  obtain⟨t,rfl⟩:=hv;have I1:Inv X pins σ H {s with heap:=h',toks:=tk }:=I.turned (λb o hb e=>kk b o (by simpa using hb) e) f0 f1 f3 f4 f5
  refine⟨_,rfl,yZ (s:={s with heap:=h',toks:=tk }) (n:="range_iterator") Uk rfl rfl (by decide) ⟨.int (lo+i),H,I1,⟨t,?_⟩,⟨rfl,rfl⟩,Uk,λb hb=>(hf b hb).1⟩⟩
  rw[Int.mul_one]
 done:=by
  intro X hP hw hK hc i pins s σ H E I hf st hg;subst hP hw hK;obtain⟨f0,f1,f2,f3,f4,f5⟩:=hf it (by simp)
  exact wpAny_pyNext_range_end (I.ok.hd hc) st (by have:n<=i:=hg;lia) λh' eb=>⟨rfl,I.turned (t':=s.toks) (λb o hb e=>eb b o hb e) f0 f1 f3 f4 f5⟩
 self:=λ_ _ _ _ _ st h=>wpAny_pyIter_rangeiter st h
section
variable {tg:Expr}
def Cl(K:Gn)(tl:TE):TI:=λσ H R=>tl σ H λx H1=>∃a,x=.ref a/\(∃xs,SqL K H1 a xs)/\R (Itl K a) H1
theorem Aw{l:Expr}{tl:TE}(hl:PE X l tl):PI X tg l (Cl X.K tl):=by
 intro pins s σ H R I h;refine thn (hl pins s σ H _ I h) λv s1 ⟨x,H1,I1,r1,q1⟩=>?_
 obtain⟨a,e,⟨xs,hq⟩,q⟩:=q1;subst e;cases r1;obtain⟨RB,rv,p,hz⟩:=I1.list hq;refine I_ p.isList ?_;refine⟨s1.heap.objs.size,[s1.heap.objs.size],_,_,H1,rfl,I1.kept (t':=s1.toks) λb o e=>Gu _ e,mU a _,⟨_,GH _ rfl,rfl,rfl⟩,λb hb=>?_,q⟩
 have e:b=s1.heap.objs.size:=by simpa using hb
 subst e;exact I1.fpOk (GA _) (I1.hok.fresh (GA _))
theorem qy{pins:List (GE×Obj)}{σ:St}{H:Hp}{s:Gs}{R:It->Hp->Prop}{E:Gr->Gs->Prop}{lo hi:Int}{t u v:Tok}{tk:Nat}(I:Inv X pins σ H s)(h1:-(2 ^ 62)<=lo)(h2:lo<2 ^ 62)(h3:-(2 ^ 62)<=hi)(h4:hi<2 ^ 62)
  (q:R (Itr lo (hi-lo).toNat) H):GQ (G1 X.prog X.w) X.A (OU (.ref s.heap.objs.size)) (PIE X pins σ tg R) E {s with heap:=s.heap.push {cls:=.type "range",data:=.fields #[.int lo t,.int hi u,.int 1 v] },toks:=tk }:=by
 refine wpAny_pyIter_range (IsRange.new ..) (small_one h1 h2 h3 h4) ?_;have I1:Inv X pins σ H {s with heap:=s.heap.push {cls:=.type "range",data:=.fields #[.int lo t,.int hi u,.int 1 v] },toks:=tk }:=I.kept λb o e=>Gu _ e
 refine⟨(s.heap.push {cls:=.type "range",data:=.fields #[.int lo t,.int hi u,.int 1 v] }).objs.size,[(s.heap.push {cls:=.type "range",data:=.fields #[.int lo t,.int hi u,.int 1 v] }).objs.size],_,_,H,rfl,
  I1.kept (t':=tk) λb o e=>Gu _ e,sV _ lo (hi-lo).toNat,?_,λb hb=>?_,q⟩
 ·have e1:lo+((0:Nat):Int) *1=lo:=by simp
  have e2:(((hi-lo).toNat:Nat):Int)-((0:Nat):Int)=Builtin.Range.rangeSize lo hi 1:=by rw[rangeSize_one];split <;>lia
  show IsRangeIter _ _ (lo+((0:Nat):Int) *1) ((((hi-lo).toNat:Nat):Int)-((0:Nat):Int)) 1;rw[e1,e2];exact GH _ rfl
 ·have e:b=(s.heap.push {cls:=.type "range",data:=.fields #[.int lo t,.int hi u,.int 1 v] }).objs.size:=by simpa using hb
  subst e;exact I1.fpOk (GA _) (I1.hok.fresh (GA _))
def Fx(ta:TA):TI:=λσ H R=>ta σ H λvs H1=>∃j:Int,vs=[.int j]/\-(2 ^ 62)<=j/\j<2 ^ 62/\R (Itr 0 j.toNat) H1
def FB(ta:TA):TI:=λσ H R=>ta σ H λvs H1=>∃i j:Int,vs=[.int i,.int j]/\(-(2 ^ 62)<=i/\i<2 ^ 62/\-(2 ^ 62)<=j/\j<2 ^ 62)/\R (Itr i (j-i).toNat) H1
theorem vT{a:Expr}{ta:TA}{p pos:Pos}(hg:Gl X "range")(hm:X.mg "range"=none)(ha:PA X [a] ta)(hs:Gv [a] X.env=[(false,HY a X.env)]:=by rfl):PI X tg (.Call (.Name "range" p) [a] [] pos) (Fx ta):=by
 intro pins s σ H R I h;refine Call_ (c5 I hg hm boot_range (PyProof.Rows.callWith_type1 (thn (ha pos pins s σ H _ I h) λus s1 ⟨vs,H1,I1,r1,q1⟩=>?_) hs rfl))
 obtain⟨j,e,q1,q2,q⟩:=q1;subst e;cases r1 with
 |cons r rr=>
  cases rr;obtain⟨t,rfl⟩:=r;exact call_range_1 (qy I1 (by lia) (by lia) q1 q2 (by simpa using q))
theorem vM{a b:Expr}{ta:TA}{p pos:Pos}(hg:Gl X "range")(hm:X.mg "range"=none)(ha:PA X [a,b] ta)(hs:Gv [a,b] X.env=[(false,HY a X.env),(false,HY b X.env)]:=by rfl)(Ul:Gv [b] X.env=[(false,HY b X.env)]:=by rfl):
  PI X tg (.Call (.Name "range" p) [a,b] [] pos) (FB ta):=by
 intro pins s σ H R I h;refine Call_ (c5 I hg hm boot_range (PyProof.Rows.callWith_type1 (thn (ha pos pins s σ H _ I h) λus s1 ⟨vs,H1,I1,r1,q1⟩=>?_) (by rw[hs,Ul]) (by rw[Ul];rfl)))
 obtain⟨i,j,e,⟨q1,q2,q3,q4⟩,q⟩:=q1;subst e;cases r1 with
 |cons r rr=>
  cases rr with
  |cons r' rr=>
   cases rr;obtain⟨t,rfl⟩:=r;obtain⟨t',rfl⟩:=r';exact call_range_2 (qy I1 q1 q2 q3 q4 q)
def Ga(wi:TI)(g:TG)(tb:TS):TS:=λD σ H=>wi σ H λJ H1=>∃W:Nat->Nat->St->Hp->Prop,(∃m,W 0 m σ H1)/\∀i m σ H,W i m σ H->
 (J.stop i H/\D.nx σ H)\/(J.go i H/\∃N:St->Hp->Prop,(∀RK H',N RK H'->∃m',m'<m/\W (i+1) m' RK H')/\∀x H',J.yld i H x H'->g x σ H' λσ2 H2=>tb {D with nx:=N,ct:=N,bk:=D.nx } σ2 H2)
def kZ(fp:List GE)(h:H_):List (GE×Obj):=fp.filterMap λb=>(h.get? b).map λo=>(b,o)
theorem ci{fp:List GE}{h:H_}{b:GE}{o:Obj}(hb:b∈fp)(e:h.get? b=some o):(b,o)∈kZ fp h:=K2.mpr ⟨b,hb,by rw[e];rfl⟩
theorem vp{fp:List GE}{h:H_}{p:GE×Obj}(hp:p∈kZ fp h):p.1∈fp/\h.get? p.1=some p.2:=by
 obtain⟨b,hb,e⟩:=K2.mp hp;cases q:h.get? b with
 |none=>rw[q]at e;cases e
 |some o=>
  rw[q]at e;have e':(b,o)=p:=Hq e;subst e';exact⟨hb,q⟩
theorem Inv.pinned{pins:List (GE×Obj)}{σ:St}{H:Hp}{s:Gs}{fp:List GE}(I:Inv X pins σ H s)(hf:∀b∈fp,ig X pins H b)(ho:∀b∈fp,∃o,s.heap.get? b=some o/\∀v,o.data≠.cell v):Inv X (pins++kZ fp s.heap) σ H s:=
 I.pins_of λp hp=>(HU.mp hp).elim (λz=>I.pin p (GM _ z)) λz=>by
  obtain⟨hb,e⟩:=vp z;obtain⟨f0,f1,f2,_⟩:=hf p.1 hb;obtain⟨o,e',d⟩:=ho p.1 hb;rw[e]at e';cases e';exact⟨e,f0,f1,f2,d⟩
theorem Inv.unpinned{pins pl:List (GE×Obj)}{σ:St}{H:Hp}{s:Gs}(I:Inv X (pins++pl) σ H s):Inv X pins σ H s:=I.pins_of λp hp=>I.pin p (GM _ (HX _ hp))
theorem DT{iter:Expr}{RO:List Iy}{wi:TI}{g:TG}{tb:TS}{pos:Pos}(hp:Nb (G1 X.prog X.w) X.A X.env X.xe)(hc:X.calm=true)(hi:PI X tg iter wi)(hg:PG X tg g)(hb:PSs X RO tb)
  (hs:∀x,Hg iter X.env x=pure x:=by intro _;rfl):PS X (.For tg iter RO [] pos) (Ga wi g tb):=by
 intro pins s σ H D I h;refine wpAny_For (thn (hi pins s σ H _ I h) λv s1 h1=>thn h1 λitv s2 h2=>?_) hs
 obtain⟨it,fp,tn,J,H2,e,I2,T,U1,f2,W,⟨m0,w0⟩,turn⟩:=h2;subst e;have stat:∀{H':Hp},(∀b∈fp,H' b=none)->∀b∈fp,ig X pins H' b:=λhn b hb=>⟨hn b hb,(f2 b hb).2⟩
 refine codeAny_forLoop_any (λn s'=>∃i RK H',Inv X pins RK H' s'/\tn i s'.heap/\(∀b∈fp,H' b=none)/\W i n RK H') ?_ m0 ⟨0,σ,H2,I2,U1,λb hb=>(f2 b hb).1,w0⟩
 rintro n s3 ⟨i,UC,H3,I3,st3,fr3,w3⟩;rcases turn i n UC H3 w3 with ⟨stop,qn⟩ |⟨go,N,hN,step⟩
 ·refine JO hp (thn (T.done X rfl rfl rfl hc i pins s3 UC H3 X.xe I3 (stat fr3) st3 stop) λr s4 ⟨hr,I4⟩=>?_)
  subst hr;exact K0 ⟨UC,H3,I4,qn⟩
 ·refine JO hp (thn (T.item X rfl rfl rfl hc i pins s3 UC H3 X.xe I3 (stat fr3) st3 go) λr s4 ⟨u,hr,h4⟩=>?_)
  subst hr;refine JO hp (thn h4 λ_ s5 ⟨x,H5,I5,r5,y5,Uu,U2⟩=>?_)
  have I5':=I5.pinned (stat U2) (T.obj _ _ Uu);refine JO hp (thn (hg _ s5 UC H5 x u _ I5' r5 (step x H5 y5)) λ_ s6 ⟨σ6,H6,I6,q6⟩=>?_)
  refine JO hp (thn (hb _ s6 σ6 H6 _ I6 q6) λf s7 q7=>?_)
  have again:∀{UD:St}{H7:Hp},Inv X (pins++kZ fp s5.heap) UD H7 s7->N UD H7->∃m,m<n/\∃i RK H',Inv X pins RK H' s7/\tn i s7.heap/\(∀b∈fp,H' b=none)/\W i m RK H':=λ{UD H7} I7 n7=>by
   obtain⟨m',hm,w7⟩:=hN UD H7 n7;refine⟨m',hm,i+1,UD,H7,I7.unpinned,T.keep _ _ _ Uu λb hb o e=>(I7.pin (b,o) (GM _ (GM _ (ci hb e)))).1,λb hb=>?_,w7⟩
   obtain⟨o,e,d⟩:=T.obj _ _ Uu b hb;exact (I7.pin (b,o) (GM _ (GM _ (ci hb e)))).2.1
  cases f with
  |next=>obtain⟨UD,H7,I7,n7⟩:=q7;exact again I7 n7
  |cont=>obtain⟨UD,H7,I7,n7⟩:=q7;exact again I7 n7
  |brk=>obtain⟨UD,H7,I7,q7⟩:=q7;exact⟨UD,H7,I7.unpinned,q7⟩
  |ret v=>obtain⟨x7,UD,H7,I7,r7,q7⟩:=q7;exact⟨x7,UD,H7,I7.unpinned,r7,q7⟩
end
abbrev R2:=V->V->Hp->VK->Prop
def OpR(X:Cx)(f:Gr->Gr->Sem Gr)(r:R2):Prop:=
 ∀(pins:List (GE×Obj)) (s:Gs) (σ:St) (H:Hp) (x y:V) (v u:Gr) (Q:VK),Inv X pins σ H s->aU x v->aU y u->r x y H Q->
  GQ (G1 X.prog X.w) X.A (f v u) (EP X pins σ Q) X.xe s
def UnR(X:Cx)(f:Gr->Sem Gr)(r:V->Hp->VK->Prop):Prop:=
 ∀(pins:List (GE×Obj)) (s:Gs) (σ:St) (H:Hp) (x:V) (v:Gr) (Q:VK),Inv X pins σ H s->aU x v->r x H Q->
  GQ (G1 X.prog X.w) X.A (f v) (EP X pins σ Q) X.xe s
def cu(X:Cx)(f:Gr)(r:List V->Hp->VK->Prop):Prop:=
 ∀(pins:List (GE×Obj)) (s:Gs) (σ:St) (H:Hp) (xs:List V) (us:List Gr) (Q:VK),Inv X pins σ H s->aK xs us->r xs H Q->
  GQ (G1 X.prog X.w) X.A (call f us) (EP X pins σ Q) X.xe s
def tOp(r:R2)(ta tb:TE):TE:=λσ H Q=>ta σ H λx H1=>tb σ H1 λy H2=>r x y H2 Q
def tUn(r:V->Hp->VK->Prop)(ta:TE):TE:=λσ H Q=>ta σ H λx H1=>r x H1 Q
def rI(C:Int->Int->Prop)(g:Int->Int->V):R2:=λx y H Q=>∃i j,x=.int i/\y=.int j/\C i j/\Q (g i j) H
def rI0(g:Int->Int->V):R2:=λx y H Q=>∃i j,x=.int i/\y=.int j/\Q (g i j) H
def rU(g:Int->V):V->Hp->VK->Prop:=λx H Q=>∃i,x=.int i/\Q (g i) H
section
variable {a b c:Expr}{tc:TE}
theorem DB(ha:PE X a ta)(hb:PE X b tb){pins:List (GE×Obj)}{s:Gs}{σ:St}{H:Hp}{R:V->V->Hp->Prop}(I:Inv X pins σ H s)
  (h:ta σ H λx H1=>tb σ H1 λy H2=>R x y H2) {Q:Gr->Gs->Prop}{f:Gr->Gr->Sem Gr}
  (hf:∀v u s2 x y H2,Inv X pins σ H2 s2->aU x v->aU y u->R x y H2->GQ (G1 X.prog X.w) X.A (f v u) Q X.xe s2):
  GQ (G1 X.prog X.w) X.A (HY a X.env) (λv RJ=>GQ (G1 X.prog X.w) X.A (HY b X.env) (λu S4=>GQ (G1 X.prog X.w) X.A (f v u) Q X.xe S4) X.xe RJ) X.xe s:=by
 refine thn (ha pins s σ H _ I h) λv s1 ⟨x,H1,I1,r1,q1⟩=>?_
 refine thn (hb pins s1 σ H1 _ I1 q1) λu s2 ⟨y,H2,I2,r2,q2⟩=>?_
 exact hf v u s2 x y H2 I2 r1 r2 q2
theorem pM{op:QJ}{r:R2}(ho:OpR X (KI op) r)(ha:PE X a ta)(hb:PE X b tb):PE X (.BinOp a op b pos) (tOp r ta tb):=by
 intro pins s σ H Q I h;exact wpAny_BinOp (DB ha hb I h λv u s2 x y H2 I2 rx ry q=>ho pins s2 σ H2 x y v u Q I2 rx ry q)
theorem FL{op:UnaryOp}{r:V->Hp->VK->Prop}(ho:UnR X (unaryOp op) r)(ha:PE X a ta):PE X (.UnaryOp op a pos) (tUn r ta):=by
 intro pins s σ H Q I h;exact UnaryOp_ (thn (ha pins s σ H _ I h) λv s1 ⟨x,H1,I1,r1,q1⟩=>ho pins s1 σ H1 x v Q I1 r1 q1)
theorem opI{f:Gr->Gr->Sem Gr}{C:Int->Int->Prop}{g:Int->Int->Int}
  (rule:∀(i j:Int) (t u:Tok) (s:Gs) (Q:Gr->Gs->Prop) (E:Gr->Gs->Prop),C i j->Q (.int (g i j) s.toks) {s with toks:=s.toks+1 }->GQ (G1 X.prog X.w) X.A (f (.int i t) (.int j u)) Q E s):
  OpR X f (rI C λi j=>.int (g i j)):=by
 intro pins s σ H x y v u Q I rx ry h;obtain⟨i,j,rfl,rfl,hc,q⟩:=h;obtain⟨t,rfl⟩:=rx;obtain⟨t',rfl⟩:=ry;exact rule i j t t' s _ _ hc ⟨.int (g i j),H,I.tok _,⟨_,rfl⟩,q⟩
theorem Fm{f:Gr->Gr->Sem Gr}{g:Int->Int->Int}
  (rule:∀(i j:Int) (t u:Tok) (s:Gs) (Q:Gr->Gs->Prop) (E:Gr->Gs->Prop),Q (.int (g i j) s.toks) {s with toks:=s.toks+1 }->GQ (G1 X.prog X.w) X.A (f (.int i t) (.int j u)) Q E s):
  OpR X f (rI0 λi j=>.int (g i j)):=by
 intro pins s σ H x y v u Q I rx ry h;obtain⟨i,j,rfl,rfl,q⟩:=h;obtain⟨t,rfl⟩:=rx;obtain⟨t',rfl⟩:=ry;exact rule i j t t' s _ _ ⟨.int (g i j),H,I.tok _,⟨_,rfl⟩,q⟩
theorem By{f:Gr->Gr->Sem Gr}{g:Int->Int->Bool}
  (rule:∀(i j:Int) (t u:Tok) (s:Gs) (Q:Gr->Gs->Prop) (E:Gr->Gs->Prop),Q (.bool (g i j)) s->GQ (G1 X.prog X.w) X.A (f (.int i t) (.int j u)) Q E s):
  OpR X f (rI0 λi j=>.bl (g i j)):=by
 intro pins s σ H x y v u Q I rx ry h;obtain⟨i,j,rfl,rfl,q⟩:=h;obtain⟨t,rfl⟩:=rx;obtain⟨t',rfl⟩:=ry;exact rule i j t t' s _ _ ⟨.bl (g i j),H,I,rfl,q⟩
def Fu(i j:Int):Prop:=0<=j/\j<=1000000/\i.natAbs<2 ^ 64
theorem Er:OpR X (KI .Add) (rI0 λi j=>.int (i+j)):=Fm λ_ _ _ _ _ _ _ q=>add_int q
theorem Dr:OpR X (KI .Sub) (rI0 λi j=>.int (i-j)):=Fm λ_ _ _ _ _ _ _ q=>sub_int q
theorem DM:OpR X (KI .Mod) (rI (λ_ j=>0<j) λi j=>.int (i%j)):=opI λi j _ _ _ _ _ hc q=>by
 have h1:(0:Int)<j:=hc;exact mod_int' (by lia) (by rw[Int.fmod_eq_emod_of_nonneg i (by lia)];exact q)
theorem Dz:OpR X (KI .Pow) (rI Fu λi j=>.int (i ^ j.toNat)):=opI λ_ _ _ _ _ _ _ hc q=>pow_int_small hc.1 hc.2.1 hc.2.2 q
theorem unI{f:Gr->Sem Gr}{g:Int->Int}
  (rule:∀(i:Int) (t:Tok) (s:Gs) (Q:Gr->Gs->Prop) (E:Gr->Gs->Prop),Q (.int (g i) s.toks) {s with toks:=s.toks+1 }->GQ (G1 X.prog X.w) X.A (f (.int i t)) Q E s):
  UnR X f (rU λi=>.int (g i)):=by
 intro pins s σ H x v Q I rx h;obtain⟨i,rfl,q⟩:=h;obtain⟨t,rfl⟩:=rx;exact rule i t s _ _ ⟨.int (g i),H,I.tok _,⟨_,rfl⟩,q⟩
theorem DV:UnR X (unaryOp .USub) (rU λi=>.int (-i)):=unI λ_ _ _ _ _ q=>neg_int q
end
def E2:V->V->Bool
 | .non,.non=>true | .non,.int _=>true | .int _,.non=>true | .non,.bl _=>true | .bl _,.non=>true | .non,.str _=>true | .str _,.non=>true
 | .int _,.int _=>true | .bl _,.bl _=>true | .str _,.str _=>true | .byt _,.byt _=>true
 | .int _,.str _=>true | .str _,.int _=>true | .bl _,.str _=>true | .str _,.bl _=>true
 |_,_=>false
def rEq:R2:=λx y H Q=>E2 x y=true/\Q (.bl (decide (x=y))) H
def rNe:R2:=λx y H Q=>E2 x y=true/\Q (.bl (!decide (x=y))) H
theorem j_{i j:Int}:decide (V.int i=V.int j)=(i==j):=by
 rw[Jv];simp
theorem z9{i j:Bool}:decide (V.bl i=V.bl j)=(i==j):=by
 rw[Jv];simp
theorem tq{i j:Str}:decide (V.str i=V.str j)=(i==j):=by
 rw[Jv];simp
theorem ue{i j:Array UInt8}:decide (V.byt i=V.byt j)=(i.toList==j.toList):=by
 rw[Jv];cases i;cases j;simp
section
variable {a b c:Expr}{tc:TE}
theorem aY{pins:List (GE×Obj)}{σ:St}{H:Hp}{s:Gs}{Q:VK}{k k':Bool}(I:Inv X pins σ H s)(q:Q (.bl k) H)(e:k=k'):EP X pins σ Q (.bool k') s:=by
 subst e;exact⟨.bl k,H,I,rfl,q⟩
theorem E4:OpR X (Hh .Eq) rEq:=by
 intro pins s σ H x y v u Q I rx ry h;obtain⟨hs,q⟩:=h;cases x with
 |non=>
  cases rx;cases y with
  |non=>cases ry;exact PX (aY I q (by simp))
  |bl j=>cases ry;exact PY (aY I q (by simp))
  |int j=>obtain⟨t',rfl⟩:=ry;exact Qr (aY I q (by simp))
  |str j=>obtain⟨t',rfl⟩:=ry;exact Qs (aY I q (by simp))
  |_=>exact absurd (show false=true from hs) GZ
 |bl i=>
  cases rx;cases y with
  |non=>cases ry;exact PZ (aY I q (by simp))
  |bl j=>cases ry;exact eq_bool (aY I q z9)
  |str j=>obtain⟨t',rfl⟩:=ry;exact P1 (aY I q (by simp))
  |_=>exact absurd (show false=true from hs) GZ
 |int i=>
  obtain⟨t,rfl⟩:=rx;cases y with
  |non=>cases ry;exact Qt (aY I q (by simp))
  |int j=>obtain⟨t',rfl⟩:=ry;exact eq_int (aY I q j_)
  |str j=>obtain⟨t',rfl⟩:=ry;exact Qu (aY I q (by simp))
  |_=>exact absurd (show false=true from hs) GZ
 |str i=>
  obtain⟨t,rfl⟩:=rx;cases y with
  |non=>cases ry;exact Qv (aY I q (by simp))
  |bl j=>cases ry;exact P3 (aY I q (by simp))
  |int j=>obtain⟨t',rfl⟩:=ry;exact Qw (aY I q (by simp))
  |str j=>obtain⟨t',rfl⟩:=ry;exact eq_str (aY I q tq)
  |_=>exact absurd (show false=true from hs) GZ
 |byt i=>
  obtain⟨t,rfl⟩:=rx;cases y with
  |byt j=>obtain⟨t',rfl⟩:=ry;exact PySem.W.eq_bytes (aY I q ue)
  |_=>exact absurd (show false=true from hs) GZ
 |_=>cases y <;>exact absurd (show false=true from hs) GZ
theorem Fe:OpR X (Hh .NotEq) rNe:=by
 intro pins s σ H x y v u Q I rx ry h;obtain⟨hs,q⟩:=h;cases x with
 |non=>
  cases rx;cases y with
  |non=>cases ry;exact P4 (aY I q (by simp))
  |bl j=>cases ry;exact P5 (aY I q (by simp))
  |int j=>obtain⟨t',rfl⟩:=ry;exact Qx (aY I q (by simp))
  |str j=>obtain⟨t',rfl⟩:=ry;exact Qy (aY I q (by simp))
  |_=>exact absurd (show false=true from hs) GZ
 |bl i=>
  cases rx;cases y with
  |non=>cases ry;exact P6 (aY I q (by simp))
  |bl j=>cases ry;exact ne_bool (aY I q (congrArg not z9))
  |str j=>obtain⟨t',rfl⟩:=ry;exact P7 (aY I q (by simp))
  |_=>exact absurd (show false=true from hs) GZ
 |int i=>
  obtain⟨t,rfl⟩:=rx;cases y with
  |non=>cases ry;exact Qz (aY I q (by simp))
  |int j=>obtain⟨t',rfl⟩:=ry;exact ne_int (aY I q (congrArg not j_))
  |str j=>obtain⟨t',rfl⟩:=ry;exact QA (aY I q (by simp))
  |_=>exact absurd (show false=true from hs) GZ
 |str i=>
  obtain⟨t,rfl⟩:=rx;cases y with
  |non=>cases ry;exact QB (aY I q (by simp))
  |bl j=>cases ry;exact P8 (aY I q (by simp))
  |int j=>obtain⟨t',rfl⟩:=ry;exact QC (aY I q (by simp))
  |str j=>obtain⟨t',rfl⟩:=ry;exact ne_str (aY I q (congrArg not tq))
  |_=>exact absurd (show false=true from hs) GZ
 |byt i=>
  obtain⟨t,rfl⟩:=rx;cases y with
  |byt j=>obtain⟨t',rfl⟩:=ry;exact PySem.W.ne_bytes (aY I q (congrArg not ue))
  |_=>exact absurd (show false=true from hs) GZ
 |_=>cases y <;>exact absurd (show false=true from hs) GZ
theorem Ex:OpR X (Hh .Lt) (rI0 λi j=>.bl (decide (i<j))):=By λ_ _ _ _ _ _ _ q=>lt_int q
theorem FI:OpR X (Hh .LtE) (rI0 λi j=>.bl (decide (i<=j))):=By λ_ _ _ _ _ _ _ q=>le_int q
theorem Ew:OpR X (Hh .Gt) (rI0 λi j=>.bl (decide (j<i))):=By λ_ _ _ _ _ _ _ q=>gt_int q
theorem EB:OpR X (Hh .GtE) (rI0 λi j=>.bl (decide (j<=i))):=By λ_ _ _ _ _ _ _ q=>ge_int q
theorem vt:OpR X (Hh .In) (λx y H Q=>∃i j,x=.str i/\y=.str j/\Q (.bl (!(Builtin.Str.occurrences j i 0 j.length 1).isEmpty)) H):=by
 intro pins s σ H x y v u Q I rx ry h;obtain⟨i,j,rfl,rfl,q⟩:=h;obtain⟨t,rfl⟩:=rx;obtain⟨t',rfl⟩:=ry;exact in_str (aY I q rfl)
theorem i_(b:Expr){op:Ox}(h:op≠.In:=by decide)(h2:op≠.NotIn:=by decide):Je op b=false:=by
 have e1:(op==CmpOp.In)=false:=by cases op <;>first |rfl |exact absurd rfl h
 have e2:(op==CmpOp.NotIn)=false:=by cases op <;>first |rfl |exact absurd rfl h2
 cases b <;>simp[Je,e1,e2]
theorem Bw{op:Ox}{r:R2}(ho:OpR X (Hh op) r)(ha:PE X a ta)(hb:PE X b tb)(hm:Je op b=false):PE X (.Compare a [op] [b] pos) (tOp r ta tb):=by
 intro pins s σ H Q I h;exact wpAny_Compare1 (DB ha hb I h λv u s2 x y H2 I2 rx ry q=>ho pins s2 σ H2 x y v u Q I2 rx ry q) hm
def Cn(t:TE):TT:=λσ H Q=>t σ H λx H'=>∃k,x=.bl k/\Q k H'
theorem tN{op:Ox}{r:R2}(ho:OpR X (Hh op) r)(ha:PE X a ta)(hb:PE X b tb)(hm:Je op b=false):PT X (.Compare a [op] [b] pos) (Cn (tOp r ta tb)):=by
 intro pins s σ H Q I h
 refine Na (thn (ha pins s σ H _ I h) λv s1 ⟨x,H1,I1,r1,q1⟩=>thn (hb pins s1 σ H1 _ I1 q1) λu s2 ⟨y,H2,I2,r2,q2⟩=>
  thn (ho pins s2 σ H2 x y v u _ I2 r1 r2 q2) λc s3 ⟨z,H3,I3,r3,k,e,q3⟩=>?_) hm
 subst e;cases r3;exact IG ⟨H3,I3,q3⟩
def zC(r r':R2)(ta tb tc:TE):TE:=λσ H Q=>ta σ H λx H1=>tb σ H1 λy H2=>r x y H2 λz H3=>∃k,z=.bl k/\
 (if k=true then tc σ H3 λw' H4=>r' y w' H4 Q else Q (.bl false) H3)
theorem yY{op TU:Ox}{r r':R2}(ho:OpR X (Hh op) r)(S9:OpR X (Hh TU) r')(ha:PE X a ta)(hb:PE X b tb)(hc:PE X c tc)
  (hm:Ph [op,TU] [b,c]=false:=by with_unfolding_all rfl):PE X (.Compare a [op,TU] [b,c] pos) (zC r r' ta tb tc):=by
 intro pins s σ H Q I h
 refine Compare_chain (thn (ha pins s σ H _ I h) λv s1 ⟨x,H1,I1,r1,q1⟩=>chain_link (thn (hb pins s1 σ H1 _ I1 q1) λu s2 ⟨y,H2,I2,r2,q2⟩=>
  thn (ho pins s2 σ H2 x y v u _ I2 r1 r2 q2) λd s3 ⟨z,H3,I3,r3,k,e,q3⟩=>?_)) hm
 subst e;cases r3;refine IG ?_;cases k with
 |false=>exact ite_ff ⟨.bl false,H3,I3,rfl,q3⟩
 |true=>exact ite_tt (chain_last (thn (hc pins s3 σ H3 _ I3 q3) λw' s4 ⟨z',H4,I4,r4,q4⟩=>S9 pins s4 σ H4 y z' u w' Q I4 r2 r4 q4))
theorem xt{op TU:Ox}{r r':R2}(ho:OpR X (Hh op) r)(S9:OpR X (Hh TU) r')(ha:PE X a ta)(hb:PE X b tb)(hc:PE X c tc)
  (hm:Ph [op,TU] [b,c]=false:=by with_unfolding_all rfl):PT X (.Compare a [op,TU] [b,c] pos) (Cn (zC r r' ta tb tc)):=by
 intro pins s σ H Q I h
 refine isTrue_chain (thn (ha pins s σ H _ I h) λv s1 ⟨x,H1,I1,r1,q1⟩=>test_link (thn (hb pins s1 σ H1 _ I1 q1) λu s2 ⟨y,H2,I2,r2,q2⟩=>
  thn (ho pins s2 σ H2 x y v u _ I2 r1 r2 q2) λd s3 ⟨z,H3,I3,r3,k,e,q3⟩=>?_)) hm
 subst e;cases r3;refine IG ?_;cases k with
 |false=>
  obtain⟨k',e',q'⟩:=q3;cases e';exact ite_ff ⟨H3,I3,q'⟩
 |true=>
  refine ite_tt (test_last (thn (hc pins s3 σ H3 _ I3 q3) λw' s4 ⟨z',H4,I4,r4,q4⟩=>thn (S9 pins s4 σ H4 y z' u w' _ I4 r2 r4 q4) λd' s5 ⟨z2,H5,I5,r5,k2,e2,q5⟩=>?_))
  subst e2;cases r5;exact IG ⟨H5,I5,q5⟩
theorem kE:(sizeLine:Nat)<2 ^ 63:=by rw[Ij];decide
theorem sJ:OpR X (KI .Add) (λx y H Q=>∃i j,x=.str i/\y=.str j/\i.length+j.length<=sizeLine/\Q (.str (i++j)) H):=by
 intro pins s σ H x y v u Q I rx ry h;obtain⟨i,j,rfl,rfl,hz,q⟩:=h;obtain⟨t,rfl⟩:=rx;obtain⟨t',rfl⟩:=ry;exact add_str (λt' tk=>⟨.str (i++j),H,I.tok _,⟨_,rfl⟩,q⟩) hz
theorem de{x:V}{us:List Gr}(r:aK [x] us):∃u,us=[u]/\aU x u:=by
 cases r with
 |cons r1 r2=>cases r2;exact⟨_,rfl,r1⟩
theorem iR{x y:V}{us:List Gr}(r:aK [x,y] us):∃u w',us=[u,w']/\aU x u/\aU y w':=by
 cases r with
 |cons r1 r2=>
  cases r2 with
  |cons r3 r4=>cases r4;exact⟨_,_,rfl,r1,r3⟩
theorem yd:cu X (.builtin "abs") (λxs H Q=>∃i,xs=[.int i]∧Q (.int (if i<0 then -i else i)) H):=by
 intro pins s σ H xs us Q I r h;obtain⟨i,rfl,q⟩:=h;obtain⟨u,rfl,t,rfl⟩:=de r;exact call_abs_int λu tk=>⟨.int (if i<0 then -i else i),H,I.tok _,⟨_,rfl⟩,q⟩
theorem vJ(hc:X.calm=true):cu X (.builtin "max") (λxs H Q=>∃i j,xs=[.int i,.int j]∧Q (.int (if j >i then j else i)) H):=by
 intro pins s σ H xs us Q I r h;obtain⟨i,j,rfl,q⟩:=h;obtain⟨u,w',rfl,⟨t,rfl⟩,⟨t',rfl⟩⟩:=iR r;refine max_two_ints (I.ok.hd hc) λh' tk k=>⟨_,H,I.kept k,?_,q⟩
 by_cases hj:j >i
 ·rw[if_pos hj,if_pos hj];exact⟨_,rfl⟩
 ·rw[if_neg hj,if_neg hj];exact⟨_,rfl⟩
theorem vI(hc:X.calm=true):cu X (.builtin "min") (λxs H Q=>∃i j,xs=[.int i,.int j]∧Q (.int (if j<i then j else i)) H):=by
 intro pins s σ H xs us Q I r h;obtain⟨i,j,rfl,q⟩:=h;obtain⟨u,w',rfl,⟨t,rfl⟩,⟨t',rfl⟩⟩:=iR r;refine min_two_ints (I.ok.hd hc) λh' tk k=>⟨_,H,I.kept k,?_,q⟩
 by_cases hj:j<i
 ·rw[if_pos hj,if_pos hj];exact⟨_,rfl⟩
 ·rw[if_neg hj,if_neg hj];exact⟨_,rfl⟩
theorem wx:cu X (.type "int") (λxs H Q=>(∃i,xs=[.int i]∧Q (.int i) H)∨∃k,xs=[.bl k]∧Q (.int (if k then 1 else 0)) H):=by
 intro pins s σ H xs us Q I r h;rcases h with ⟨i,rfl,q⟩ |⟨k,rfl,q⟩
 ·obtain⟨u,rfl,t,rfl⟩:=de r;exact call_int_int ⟨.int i,H,I,⟨_,rfl⟩,q⟩
 ·obtain⟨u,rfl,r1⟩:=de r;cases r1;exact call_int_bool ⟨.int (if k then 1 else 0),H,I.tok _,⟨_,rfl⟩,q⟩
theorem oo:cu X (.type "str") (λxs H Q=>∃i,xs=[.int i]∧i.natAbs.log2<1920∧Q (.str (NI i)) H):=by
 intro pins s σ H xs us Q I r h;obtain⟨i,rfl,hz,q⟩:=h;obtain⟨u,rfl,t,rfl⟩:=de r;exact PySem.P.str_of_int hz ⟨.str _,H,I.tok _,⟨_,rfl⟩,q⟩
end
structure qV(h:H_)(x dx C:GE)(mA:Str->Option Gr):Prop where
 obj:h.get? x=some (Ju C dx)
 ns:h.Ns1 dx mA
 ne:dx≠x
theorem wu{h:H_}{dx:GE}{mA:Str->Option Gr}(n:h.Ns1 dx mA):∃od,h.get? dx=some od/\∀name,Mu name od=some (mA name):=by
 obtain⟨o,es,ep,ho,hd,hk,_,hm⟩:=n;refine⟨o,ho,λname=>?_⟩
 have e:=hm name;unfold nsFind findBy at e;rw[<-Array.find?_toList]at e;unfold Mu;rw[hd];dsimp only;split
 ·rename_i y q
  rw[q]at e;exact congrArg some e
 ·rename_i q
  rw[q]at e
  have a:es.toList.any (·.refKey)=false:=by
   rw[List.any_eq_false];intro y hy;obtain⟨z,t,hkey⟩:=hk y (LS.mp hy);simp[DictEntry.refKey,hkey]
  have a':¬ es.toList.any (·.refKey)=true:=by rw[a];exact GZ
  rw[if_neg a'];exact congrArg some e
theorem qV.look{h:H_}{x dx C:GE}{mA:Str->Option Gr}(I:qV h x dx C mA):∃od,PySem.W.InstAt h x (Ju C dx) C (some od)/\∀name,Mu name od=some (mA name):=
 let ⟨od,ho,hl⟩:=wu I.ns
 ⟨od,⟨I.obj,rfl,rfl,ho⟩,hl⟩
variable {dx:GE}{C:GE}
section
variable {prog:GF}{w:G5}{A:Ha}{K:Gn}{x f:GE}{mA:Str→Option Gr}{name:Str}{v:Gr}
theorem Cb{expr:Bool}{Q:Gr->Gs->Prop}(X:K.In s.heap)(I:qV s.heap x dx C mA)(hg:LL K C name=true)(hh:ME K C=true)
  (ha:IQ K (.ref C) name=some none) (hv:mA name=some v) (Vl:O5 v=true) (h:Q v {s with toks:=s.toks+1 }):
  GQ (G1 prog w) A (getAttr (.ref x) name expr) Q E s:=by
 obtain⟨od,J,hl⟩:=I.look;exact PySem.W.get_value X J (LZ hg).1 (PySem.W.findObj_own hh ha rfl (by rw[hl,hv])) Vl h
theorem Ag{pl:Sem Bool}{Q:Gr×List Gr->Gs->Prop}(X:K.In s.heap)(I:qV s.heap x dx C mA)(hg:LL K C name=true)
  (hf:IQ K (.ref C) name=some (some (.ref f))) (ht:OV K (.ref f)=true) (hv:mA name=none) (h:Q (.ref f,[.ref x]) s):
  GQ (G1 prog w) A (KB (.ref x) name pl) Q E s:=by
 obtain⟨od,J,hl⟩:=I.look;exact PySem.W.method_fn X J (LZ hg).1 (LZ hg).2 hf (beq_iff_eq.mp ht) (by show (Mu name od).map (·.isSome)=some false;rw[hl,hv];rfl) h
theorem AY{ns:List Str}{Q:Unit->Gs->Prop}(X:K.In s.heap)(I:qV s.heap x dx C mA)
  (hs:IQ K (.ref C) "__setattr__"=some (some (.builtin "object.__setattr__"))) (hp:OA K C=true) (ht:Nf K C name=some none) (hh:ME K C=true)
  (hw:OS mA ns) (hsz:ns.length<=sizeLine)
  (h:∀h',qV h' x dx C (λy=>if y=name then some v else mA y)->JF dx s.heap h'->Q () {s with heap:=h',toks:=s.toks+2 }):
  GQ (G1 prog w) A (setAttr (.ref x) name v) Q E s:=by
 obtain⟨od,J,hl⟩:=I.look;refine PySem.W.set_plain X J hs (PySem.W.osa_open (s:={s with toks:=s.toks+1 }) (r:=none) X J hp ht λb=>?_)
 obtain⟨cd,hc,T6⟩:=PySem.W.any_some hh;have hx:s.heap.get? x=some ⟨.ref C,some dx,.plain,#[]⟩:=I.obj;refine Gk (Gw (Gk (Gk (NW hx (Gk (Rq (s:={s with toks:=s.toks+1 }) (PySem.W.looks_clsIn X hc) ?_))))))
 rw[T6];refine Gw (a:=some dx) (Gk (Gw (Gk ?_)));refine wpAny_nsSet1 (s:={s with toks:=s.toks+1 }) I.ns λh' hn2 Ul=>?_
 obtain⟨oD,esD,epD,hoD,hdD,Um⟩:=hn2.count (Rx name v hw);refine Gk (wpAny_lookBehind hoD (by rw[hdD];exact pastItsLine_dict (HD Um (by rw[GI];lia))) ?_)
 exact Gw (h _ ⟨(Ul.2 _ (Ne.symm I.ne)).trans I.obj,hn2,I.ne⟩ Ul)
theorem xr{R:N9->Gs->Prop}{vs:List Gr}{kw:List (Str×Gr)}(X:K.In s.heap)(hm:Pi K C=true)
  (hi:IQ K (.ref C) "__init__"=some (some (.ref f))) (hf:P9 K (.ref f)=some (.type "function"))
  (h:J7 (G1 prog w) (A.under (.builtin "type.__call__" ⟨.ref C::vs,kw⟩)) (.call (.ref f) ⟨.ref (s.heap.objs.size+1)::vs,kw⟩) (PySem.W.InitBack (s.heap.objs.size+1) R)
   {s with heap:=(s.heap.push IH).push (Ju C s.heap.objs.size) }):
  J7 (G1 prog w) A (.call (.ref C) ⟨vs,kw⟩) R s:=by
 obtain⟨hh,g,d,t,os⟩:=s;exact PySem.W.make_core (PySem.W.makes_of X hm) (PySem.W.looks_findIn X hi) (λself=>PySem.W.bind_fn X self hf) (.inl rfl) h
end
def gU(f:Str)(v:V):List (Str×V)->List (Str×V)
 |[]=>[(f,v)]
 | (g,x)::r=>if g=f then (g,v)::r else (g,x)::gU f v r
theorem jB(f g:Str)(v:V):∀fs:List (Str×V),(gU f v fs).lookup g=if g=f then some v else fs.lookup g
 |[]=>by
  show KM g [(f,v)]=_;by_cases h:g=f
  ·have hb:(g==f)=true:=beq_iff_eq.mpr h;simp only[KM,hb,if_pos h]
  ·have hb:(g==f)=false:=beq_eq_false_iff_ne.mpr h;simp only[KM,hb,if_neg h]
 | (k,x)::r=>by
  have ih:=jB f g v r;rw[show gU f v ((k,x)::r)=(if k=f then (k,v)::r else (k,x)::gU f v r) from rfl]
  by_cases hk:k=f
  ·rw[if_pos hk];by_cases h:g=k
   ·have hb:(g==k)=true:=beq_iff_eq.mpr h;simp only[KM,hb,if_pos (h.trans hk)]
   ·have hb:(g==k)=false:=beq_eq_false_iff_ne.mpr h;simp only[KM,hb,if_neg (λe:g=f=>h (e.trans hk.symm))]
  ·rw[if_neg hk];by_cases h:g=k
   ·have hb:(g==k)=true:=beq_iff_eq.mpr h;simp only[KM,hb,if_neg (λe:g=f=>hk (h.symm.trans e))]
   ·have hb:(g==k)=false:=beq_eq_false_iff_ne.mpr h;simp only[KM,hb];exact ih
theorem jb(f:Str)(v:V):∀fs:List (Str×V),f∈(gU f v fs).map (·.1)/\∀g,g∈fs.map (·.1)->g∈(gU f v fs).map (·.1)
 |[]=>⟨by simp[gU],λg h=>by simp at h⟩
 | (k,x)::r=>by
  obtain⟨i1,i2⟩:=jb f v r;rw[show gU f v ((k,x)::r)=(if k=f then (k,v)::r else (k,x)::gU f v r) from rfl]
  by_cases hk:k=f
  ·rw[if_pos hk];subst hk;exact⟨by simp,λg h=>by simpa using h⟩
  ·rw[if_neg hk];refine⟨?_,λg h=>?_⟩
   ·rw[GW];exact Gq _ i1
   ·rw[GW]at h |-;rcases Gx.mp h with e |e
    ·exact Gx.mpr (.inl e)
    ·exact Gq _ (i2 g e)
theorem jD(f:Str)(v:V):∀fs:List (Str×V),(gU f v fs).length<=fs.length+1
 |[]=>by simp[gU]
 | (k,x)::r=>by
  have ih:=jD f v r;rw[show gU f v ((k,x)::r)=(if k=f then (k,v)::r else (k,x)::gU f v r) from rfl]
  by_cases hk:k=f
  ·rw[if_pos hk,GI,GI];lia
  ·rw[if_neg hk,GI,GI];lia
theorem gR.some_of{v:V}{o:Option Gr}(r:gR (some v) o):∃u,o=some u/\aU v u:=by
 cases o with
 |none=>exact (show False from r).elim
 |some u=>exact⟨u,rfl,r⟩
theorem gR.none_of{o:Option Gr}(r:gR none o):o=none:=by
 cases o with
 |none=>rfl
 |some u=>exact (show False from r).elim
theorem wH{v:V}{u:Gr}(r:aU v u):O5 u=true:=by
 cases v with
 |non=>cases (show u=GU from r);rfl
 |bl b=>cases (show u=Hi b from r);rfl
 |int i=>obtain⟨t,e⟩:=(show ∃t,u=He i t from r);cases e;rfl
 |str x=>obtain⟨t,e⟩:=(show ∃t,u=Ho x t from r);cases e;rfl
 |byt b=>obtain⟨t,e⟩:=(show ∃t,u=Re b t from r);cases e;rfl
 |flt b=>obtain⟨t,e⟩:=(show ∃t,u=Pg b t from r);cases e;rfl
 |ref a=>cases (show u=GR a from r);rfl
 |ty n=>cases (show u=HP n from r);rfl
section
variable {P:GF}{w:G5}{h:H_}{a:GE}{fs fs':List (Str×V)}
theorem ki(hok:HOk P w H h)(e:H a=some (.ins C dx fs)):∃mA,qV h a dx C mA/\(∀f,gR (fs.lookup f) (mA f))/\OS mA (fs.map (·.1))/\fs.length<=1000/\H dx=some (.own a):=by
 obtain⟨d,z,ne,ob,mA,n,r,q⟩:=(show bG P w H h a (.ins C dx fs) from hok a _ e)
 exact⟨mA,⟨ob,n,ne⟩,r,q,z,d⟩
end
structure Cls(K:Gn)(C:GE):Prop where
 pg:LL K C Str.empty=true
 hd:ME K C=true
 po:OA K C=true
 sa:IQ K (.ref C) "__setattr__"=some (some (.builtin "object.__setattr__"))
theorem Cls.get{K:Gn}{C:GE}(c:Cls K C)(f:Str):LL K C f=true:=c.pg
def fD(K:Gn)(C:GE)(f:Str):Prop:=IQ K (.ref C) f=some none
theorem fD.taker{K:Gn}{C:GE}{f:Str}(n:fD K C f):Nf K C f=some none:=by
 unfold Nf;rw[show IQ K (.ref C) f=some none from n]
 rfl
structure kF(K:Gn)(C:GE)(m:Str)(f:GE):Prop where
 at_:IQ K (.ref C) m=some (some (.ref f))
 fn:OV K (.ref f)=true
 kp:HA K (.ref f)=true
section
variable {a:GE}{fs:List (Str×V)}{f:Str}{v:V}{A:Ha}
theorem rE{b:Bool}{Q:Gr->Gs->Prop}(I:Inv X pins σ H s)(e:H a=some (.ins C dx fs))(c:Cls X.K C)(n:fD X.K C f)(l:fs.lookup f=some v)
  (h:∀u s',Inv X pins σ H s'->aU v u->Q u s'):GQ (G1 X.prog X.w) A (getAttr (.ref a) f b) Q E s:=by
 obtain⟨mA,O,r,_,_,_⟩:=ki I.hok e;obtain⟨u,hu,ru⟩:=gR.some_of (v:=v) (o:=mA f) (by rw[<-l];exact r f)
 exact Cb I.kIn O (c.get f) c.hd n hu (wH ru) (h u _ (I.tok _) ru)
theorem il{m:Str}{g:GE}{pl:Sem Bool}{Q:Gr×List Gr->Gs->Prop}(I:Inv X pins σ H s)(e:H a=some (.ins C dx fs))(c:Cls X.K C)(k:kF X.K C m g)(l:fs.lookup m=none)
  (h:Q (.ref g,[.ref a]) s):GQ (G1 X.prog X.w) A (KB (.ref a) m pl) Q E s:=by
 obtain⟨mA,O,r,_,_,_⟩:=ki I.hok e;have hn:mA m=none:=gR.none_of (by rw[<-l];exact r m)
 exact Ag I.kIn O (c.get m) k.at_ k.fn hn h
theorem sR{y:V}{u:Gr}{Q:Unit->Gs->Prop}(I:Inv X pins σ H s)(e:H a=some (.ins C dx fs))(c:Cls X.K C)(n:fD X.K C f)(hl:fs.length<1000)(ry:aU y u)
  (h:∀s',Inv X pins σ (upd H a (.ins C dx (gU f y fs))) s'->Q () s'):GQ (G1 X.prog X.w) A (setAttr (.ref a) f u) Q E s:=by
 obtain⟨mA,O,r,wi,_,ho⟩:=ki I.hok e;have hz:(fs.map (·.1)).length<=sizeLine:=by rw[Gp,Ij];lia
 refine AY I.kIn O c.sa c.po n.taker c.hd wi hz λh' O' sb=>h _ ?_
 have hd:∃o,h'.get? dx=some o:=let ⟨o,_,_,e',_⟩:=O'.ns;⟨o,e'⟩;refine I.write (x:=a) (e:=dx) (by rw[e];exact True.intro) (.inr ho) (λb q hb z=>(sb.2 b hb).trans z) hd ?_
 refine⟨by rw[aE O.ne];exact ho,?_,O.ne,O'.obj,_,O'.ns,λg=>?_,λg hg=>?_⟩
 ·have:=jD f y fs;lia
 ·show gR ((gU f y fs).lookup g) (if g=f then some u else mA g)
  rw[jB];by_cases q:g=f
  ·rw[if_pos q,if_pos q];exact ry
  ·rw[if_neg q,if_neg q];exact r g
 ·by_cases q:g=f
  ·rw[q];exact (jb f y fs).1
  ·refine (jb f y fs).2 g (wi g λz=>hg ?_)
   show (if g=f then some u else mA g)=none
   rw[if_neg q];exact z
theorem Inv.made(I:Inv X pins σ H s):Inv X pins σ (upd (upd H s.heap.objs.size (.own (s.heap.objs.size+1))) (s.heap.objs.size+1) (.ins C s.heap.objs.size []))
  {s with heap:=(s.heap.push IH).push (Ju C s.heap.objs.size) }:=by
 have e1:(s.heap.push IH).get? s.heap.objs.size=some IH:=GH s.heap rfl
 have e2:((s.heap.push IH).push (Ju C s.heap.objs.size)).get? (s.heap.objs.size+1)=some (Ju C s.heap.objs.size):=by
  have:=GH (s.heap.push IH) (o:=Ju C s.heap.objs.size) rfl
  rwa [Iq]at this
 have e3:(s.heap.push IH).Ns s.heap.objs.size (λ_=>none):=⟨IH,#[],_,e1,rfl,(λe he=>absurd he (by simp)),λ_=>rfl⟩
 have I1:=I.laid (a:=s.heap.objs.size) (o:=.own (s.heap.objs.size+1)) (h':=s.heap.push IH) (t':=s.toks) (λb u q=>Gu _ q) (GA _) ⟨_,e1⟩
 refine I1.laid (a:=s.heap.objs.size+1) (o:=.ins C s.heap.objs.size []) (t':=s.toks) (λb u q=>Gu _ q) (Ng (Iq _ _)) ?_
 have ne:s.heap.objs.size≠s.heap.objs.size+1:=GS (Iz _);refine⟨by rw[aE ne,aF],Hf _,ne,e2,λ_=>none,(Heap.Ns1.of_empty e3).at λo q=>Gu _ q,λ_=>True.intro,λy hy=>absurd rfl hy⟩
theorem Bi{prog:GF}{w:G5}{env:Env}{e:Expr}{f:Str}{pos:Pos}{s:Gs}{Q:Gr->Gs->Prop}(hb:HR e f env (HY e env)=HY e env)
  (h:GQ (G1 prog w) A (HY e env) (λo RJ=>GQ (G1 prog w) A (getAttr o f true) Q E RJ) E s):GQ (G1 prog w) A (HY (.Attribute e f pos) env) Q E s:=
 Attribute_any_ h (by rw[arm_eval_Attribute,hb])
end
def F4(K:Gn)(ta:TE)(f:Str):TE:=λσ H Q=>ta σ H λx H1=>∃a C dx fs v,x=.ref a/\H1 a=some (.ins C dx fs)/\Cls K C/\fD K C f/\fs.lookup f=some v/\Q v H1
def FZ(K:Gn)(ta tv:TE)(f:Str):TS:=λD σ H=>tv σ H λy H1=>ta σ H1 λx H2=>∃a C dx fs,x=.ref a/\H2 a=some (.ins C dx fs)/\Cls K C/\fD K C f/\fs.length<1000/\
 D.nx σ (upd H2 a (.ins C dx (gU f y fs)))
section
variable {o e RX:Expr}{f:Str}{RN tpos:Pos}{tv:TE}
theorem Dq(he:PE X e ta)(hb:HR e f X.env (HY e X.env)=HY e X.env):PE X (.Attribute e f pos) (F4 X.K ta f):=by
 intro pins s σ H Q I h;refine Bi hb (thn (he pins s σ H _ I h) λu s1 ⟨x,H1,I1,rx,a,C,dx,fs,v,ex,ea,c,n,l,q⟩=>?_)
 subst ex;obtain rfl:u=GR a:=rx;exact rE I1 ea c n l λu' s2 I2 ru=>⟨v,H1,I2,ru,q⟩
theorem De(ha:PE X o ta)(hv:PE X RX tv)(hs:Ip RX (some (.Attribute o f RN)) pos.line X.env=pure false):PS X (.Assign [.Attribute o f RN] RX pos) (FZ X.K ta tv f):=by
 intro pins s σ H D I h;refine plainObj_wpAny_Assign_Attribute (thn (hv pins s σ H _ I h) λu s1 ⟨y,H1,I1,ry,q⟩=>thn (ha pins s1 σ H1 _ I1 q) λov s2 ⟨x,H2,I2,rx,a,C,dx,fs,ex,ea,c,n,l,q2⟩=>?_) hs
 subst ex;obtain rfl:ov=GR a:=rx;exact sR I2 ea c n l ry λs3 I3=>⟨σ,_,I3,q2⟩
end
section
variable {A:Ha}{Q:Gr→Gs→Prop}{c:Gr}{b:Bool}
inductive jW (K:Gn) (H:Hp):V->Gr->Prop where
 |non:jW K H .non (.type "NoneType")
 |bl (x:Bool):jW K H (.bl x) (.type "bool")
 |int (i:Int):jW K H (.int i) (.type "int")
 |str (x:Str):jW K H (.str x) (.type "str")
 |flt (x:UInt64):jW K H (.flt x) (.type "float")
 |lst {a:GE}{xs:List V} (e:H a=some (.lst xs)):jW K H (.ref a) (.type "list")
 |frz {a:GE}{o:Obj}{xs:List V} (e:H a=some (.frz o (.lst xs))):jW K H (.ref a) (.type "list")
 |tup {a:GE}{xs:List V} (e:H a=some (.tup xs)):jW K H (.ref a) (.type "tuple")
 |dK {a:GE}{kvs:List (Key×V)} (e:H a=some (.dK kvs)):jW K H (.ref a) (.type "dict")
 |dT {a:GE}{kvs:List (List Key×V)} (e:H a=some (.dT kvs)):jW K H (.ref a) (.type "dict")
 |ins {a C dx:GE}{fs:List (Str×V)} (e:H a=some (.ins C dx fs)) (cl:Cls K C) (ha:IQ K (.ref C) "__class__"=some (some (.builtin "object.__class__")))
   (hn:PySem.W.specialIn K (.builtin "object.__class__") "__get__"=some (some (.builtin "getset_descriptor.__get__"))) (Tq:PySem.W.takesIn K (.builtin "object.__class__")=some true)
   (hm:MU K C (.type "object")=some true):jW K H (.ref a) (.ref C)
theorem dI{x:V}{u t:Gr}(I:Inv X pins σ H s)(rx:aU x u)(ty:jW X.K H x t)(e:J5 X.K t c=some b)(h:∀tk,Q (.bool b) {s with toks:=tk }):
  GQ (G1 X.prog X.w) A (call (.builtin "isinstance") [u,c]) Q E s:=by
 cases ty with
 |non=>cases (show u=GU from rx);exact HL PySem.W.kitx_none I.kIn True.intro e (λz=>nomatch z) h
 |bl y=>cases (show u=Hi y from rx);exact HL PySem.W.kitx_bool I.kIn True.intro e (λz=>nomatch z) h
 |int i=>obtain⟨t,q⟩:=(show ∃t,u=He i t from rx);cases q;exact HL PySem.W.kitx_int I.kIn True.intro e (λz=>nomatch z) h
 |str y=>obtain⟨t,q⟩:=(show ∃t,u=Ho y t from rx);cases q;exact HL PySem.W.kitx_str I.kIn True.intro e (λz=>nomatch z) h
 |flt y=>obtain⟨t,q⟩:=(show ∃t,u=Pg y t from rx);cases q;exact HL PySem.W.kitx_float I.kIn True.intro e (λz=>nomatch z) h
 | @lst a xs ea=>
  cases (show u=GR a from rx)
  obtain⟨_,_,n,_,h1⟩:=(show bG X.prog X.w H s.heap a (.lst xs) from I.hok a _ ea)
  exact HL MF I.kIn ⟨_,h1,rfl⟩ e (λz=>nomatch z) h
 | @frz a ob xs ea=>
  cases (show u=GR a from rx)
  obtain⟨_,_,_,n,_,h1⟩:=(show bG X.prog X.w H s.heap a (.frz ob (.lst xs)) from I.hok a _ ea)
  exact HL MF I.kIn ⟨_,h1,rfl⟩ e (λz=>nomatch z) h
 | @tup a xs ea=>
  cases (show u=GR a from rx)
  obtain⟨_,_,_,p⟩:=(show bG X.prog X.w H s.heap a (.tup xs) from I.hok a _ ea)
  obtain⟨o,h1,h2,_⟩:=p;exact HL N_ I.kIn ⟨o,h1,h2⟩ e (λz=>nomatch z) h
 | @dK a kvs ea=>
  cases (show u=GR a from rx)
  obtain⟨_,_,vs,_,p⟩:=(show bG X.prog X.w H s.heap a (.dK kvs) from I.hok a _ ea)
  obtain⟨o,es,ep,h1,h2,_⟩:=p;exact HL OB I.kIn ⟨o,h1,h2.1⟩ e (λz=>nomatch z) h
 | @dT a kvs ea=>
  cases (show u=GR a from rx)
  obtain⟨_,_,xs,_,o,es,ep,h1,h2,_⟩:=(show bG X.prog X.w H s.heap a (.dT kvs) from I.hok a _ ea)
  exact HL OB I.kIn ⟨o,h1,h2.1⟩ e (λz=>nomatch z) h
 | @ins a C dx fs ea cl ha hn Tq hm=>
  cases (show u=GR a from rx)
  obtain⟨mA,O,_⟩:=ki I.hok ea;obtain⟨od,J,_⟩:=O.look;exact HL (PySem.W.kitx_own (cl.get _) cl.hd ha hn Tq hm) I.kIn J e (λz=>nomatch z) h
end
structure bB(k:Nat)(A:Ha):Prop where
 hd:A.handled=none
 dp:A.depth+3*k+5<P_
 un:A.units+16*k+200<Ku
theorem bB.mono{j k:Nat}{A:Ha}(r:bB k A)(h:j<=k):bB j A:=⟨r.hd,by have:=r.dp;lia,by have:=r.un;lia⟩
theorem bB.deeper{k:Nat}{A:Ha}(r:bB (k+1) A)(env:Env):bB k (A.deeper env):=
 ⟨r.hd,by have:=r.dp;show A.depth+1+3*k+5<_;lia,by have:=r.un;show A.units+3+16*k+200<_;lia⟩
theorem sj{A:Ha}{C:GE}{us:List Gr}{kw:List (Str×Gr)}:(A.under (.builtin "type.__call__" ⟨.ref C::us,kw⟩)).depth=A.depth+1:=by
 first |rfl |simp[OW,Code.weight,Code.isCreation,Code.isGuard,Code.isCaller,Code.frames,Code.isFrame,guardIds]
theorem rH{A:Ha}{C:GE}{us:List Gr}{kw:List (Str×Gr)}:(A.under (.builtin "type.__call__" ⟨.ref C::us,kw⟩)).units=A.units+1:=by
 first |rfl |simp[OW,Code.cUnits,Code.frames,Code.isFrame]
theorem bB.make{k:Nat}{A:Ha}(r:bB (k+1) A)(C:GE)(us:List Gr)(kw:List (Str×Gr)):bB k (A.under (.builtin "type.__call__" ⟨.ref C::us,kw⟩)):=
 ⟨r.hd,by have:=r.dp;rw[sj];lia,by have:=r.un;rw[rH];lia⟩
theorem bB.depth{k:Nat}{A:Ha}(r:bB k A):A.depth<P_:=by have:=r.dp;lia
def EG:TA:=λ_ H Q=>Q [] H
def Cv(ta:TE)(tr:TA):TA:=λσ H Q=>ta σ H λx H1=>tr σ H1 λxs H2=>Q (x::xs) H2
variable {es:List Expr}
section
variable {e:Expr}{te:TE}{t:TA}
theorem cY:PA X [] EG:=λ_ _ _ _ H Q I h=>Jo ⟨[],H,I,.nil,h⟩
theorem bu(ha:PE X e te)(hr:PA X es t)(hs:Gv (e::es) X.env=(false,HY e X.env)::Gv es X.env:=by rfl):PA X (e::es) (Cv te t):=by
 intro pos pins s σ H Q I h;rw[hs];show GQ _ _ (M_ ((false,HY e X.env)::Hx pos (Gv es X.env))) _ _ s;refine Ik (thn (ha pins s σ H _ I h) λu s1 ⟨x,H1,I1,r1,q1⟩=>?_)
 exact thn (hr pos pins s1 σ H1 _ I1 q1) λus s2 ⟨xs,H2,I2,r2,q2⟩=>⟨x::xs,H2,I2,.cons r1 r2,q2⟩
def FN(t:TA):TE:=λσ H Q=>t σ H λxs H1=>xs.length<=sizeLine/\∀p,H1 p=none->Q (.ref p) (upd H1 p (.tup xs))
def Gd(t:TA):TE:=λσ H Q=>t σ H λxs H1=>xs.length<=sizeLine/\∀p,H1 p=none->Q (.ref p) (upd H1 p (.lst xs))
theorem DO{x1}(h:PA X es t):PE X (.Tuple es x1 pos) (FN t):=by
 intro pins s σ H Q I hq;refine wpAny_Tuple_spliced (thn (h pos pins s σ H _ I hq) λus s1 ⟨xs,H1,I1,r,z,q⟩=>⟨by rw[<-r.length];exact z,?_⟩)
 have hf:H1 s1.heap.objs.size=none:=I1.hok.fresh (GA _);refine⟨.ref s1.heap.objs.size,upd H1 s1.heap.objs.size (.tup xs),I1.laid (t':=s1.toks) (λb u e=>Gu _ e) (GA _) ?_,rfl,q _ hf⟩
 exact⟨z,us,r,⟨_,GH _ rfl,rfl,_,rfl⟩⟩
theorem Dw(h:PA X es t):PE X (.List es pos) (Gd t):=by
 intro pins s σ H Q I hq;refine wpAny_List_spliced (thn (h pos pins s σ H _ I hq) λus s1 ⟨xs,H1,I1,r,z,q⟩=>⟨by rw[<-r.length];exact z,?_⟩)
 have hf:H1 s1.heap.objs.size=none:=I1.hok.fresh (GA _);refine⟨.ref s1.heap.objs.size,upd H1 s1.heap.objs.size (.lst xs),I1.laid (t':=s1.toks) (λb u e=>Gu _ e) (GA _) ?_,rfl,q _ hf⟩
 exact⟨z,us,0,r,GH _ rfl⟩
end
abbrev Sp:=List V->Hp->VK->XK->Prop
abbrev CXT:=List Env->Hp->Gs->XK->Gr->Gs->Prop
structure qa(P:GF)(w:G5)(K:Gn)(mg:Str->Option Gr)(base:H_)(A:Ha)(outer:List Env)(s:Gs)(H:Hp):Prop where
 frames:A.frames=some outer
 mod:Mod K mg base
 bs:∀b o,base.get? b=some o->s.heap.get? b=some o/\H b=none
 bsz:base.objs.size<=s.heap.objs.size
 funs:s.heap.FunFrames base outer
 frf:∀b∈frs outer,H b=none
 hok:HOk P w H s.heap
 bare:Ms s.gens
def CE(outer:List Env)(P:GF)(w:G5)(H:Hp)(s:Gs)(Q:VK)(u:Gr)(s':Gs):Prop:=
 ∃v H',s'.os=s.os/\Ms s'.gens/\Un (frs outer) [] H H' s.heap s'.heap/\HOk P w H' s'.heap/\aU v u/\Q v H'
def CR(CX:CXT)(outer:List Env)(P:GF)(w:G5)(H:Hp)(s:Gs)(Q:VK)(E:XK)(r:N9)(s':Gs):Prop:=
 match r with
 | .ok (.ret u)=>CE outer P w H s Q u s'
 | .ok _=>False
 | .error e=>CX outer H s E e s'
structure aL(P:GF)(w:G5)(K:Gn)(mg:Str->Option Gr)(base:H_)(CX:CXT)(k:Nat)(f:GE)(fd:Hw)(ps:List Str)(sp:Sp):Prop where
 len:∀vs H Q E,sp vs H Q E->vs.length=ps.length
 run:∀(A:Ha) (outer:List Env) (s:Gs) (H:Hp) (args:Args) (us:List Gr) (vs:List V) (Q:VK) (E:XK),bB k A->qa P w K mg base A outer s H->Pj s fd args (ps.zip us)->aK vs us->sp vs H Q E->
  J7 (G1 P w) A (.call (.ref f) args) (CR CX outer P w H s Q E) s
theorem aL.mono{P:GF}{w:G5}{K:Gn}{mg:Str->Option Gr}{base:H_}{CX:CXT}{j k:Nat}{f:GE}{fd:Hw}{ps:List Str}{sp:Sp}(F:aL P w K mg base CX j f fd ps sp)(h:j<=k):
  aL P w K mg base CX k f fd ps sp:=⟨F.len,λA outer s H args us vs Q E hr=>F.run A outer s H args us vs Q E (hr.mono h)⟩
theorem qa.make{P:GF}{w:G5}{K:Gn}{mg:Str->Option Gr}{base:H_}{A:Ha}{outer:List Env}{s:Gs}{H:Hp}(e:qa P w K mg base A outer s H)(C:GE)(us:List Gr)(kw:List (Str×Gr)):
  qa P w K mg base (A.under (.builtin "type.__call__" ⟨.ref C::us,kw⟩)) outer s H:=⟨by first |exact e.frames | (simpa [OW,Code.envs,Code.isFrame,pushEnvs] using e.frames),e.mod,e.bs,e.bsz,e.funs,e.frf,e.hok,e.bare⟩
section
variable {s':Gs}
theorem Inv.env0(I:Inv X pins σ H s):qa X.prog X.w X.K X.mg X.base X.A X.stack s H:=
 ⟨I.ok.frames,I.ok.mod,I.bs,HD I.ok.bsz I.sz,I.stack,I.stkFree,I.hok,I.bare⟩
theorem Inv.after{Q:VK}{u:Gr}(I:Inv X pins σ H s)(h:CE X.stack X.prog X.w H s Q u s'):EP X pins σ Q u s':=by
 obtain⟨v,H',os,bare,un,hok,r,q⟩:=h;obtain⟨hh,g,d,t,os'⟩:=s';obtain rfl:os'=s.os:=os;exact⟨v,H',I.call (h':=hh) (g':=g) (d':=d) (t':=t) (ch:=[]) un hok bare (λb z=>absurd z (by simp)),r,q⟩
end
def zI(sp:Sp)(SS:List V)(E:XK)(t:TA):TE:=λσ H Q=>t σ H λvs H1=>sp (vs++SS) H1 Q E
def CT(C:GE)(m:Str)(sp:Sp)(SS:List V)(E:XK)(ta:TE)(t:TA):TE:=λσ H Q=>ta σ H λx H1=>∃a dx fs,x=.ref a/\H1 a=some (.ins C dx fs)/\fs.lookup m=none/\
 t σ H1 λvs H2=>sp (x::(vs++SS)) H2 Q E
def Fj(C:GE)(sp:Sp)(SS:List V)(E:XK)(t:TA):TE:=λσ H Q=>t σ H λvs H1=>∀x dx,H1 x=none->H1 dx=none->dx≠x->
 sp (.ref x::(vs++SS)) (upd (upd H1 dx (.own x)) x (.ins C dx [])) (λv H2=>v=.non/\Q (.ref x) H2) E
def bq(K:Gn)(fd:Hw)(ps:List Str)(ds:List Gr):Prop:=
 ∀(s:Gs) (us:List Gr),K.In s.heap->(us++ds).length=ps.length->Pj s fd ⟨us,[]⟩ (ps.zip (us++ds))
theorem bq.all{K:Gn}{fd:Hw}{ps:List Str}(h:∀us:List Gr,us.length=ps.length->Ml fd ⟨us,[]⟩=pure (ps.zip us)):bq K fd ps []:=λs us _ hl=>by
 rw[HE]at hl |-;exact .of_eq (h us hl)
def bj(CX:CXT)(X:Cx)(E:XK):Prop:=∀(pins:List (GE×Obj)) (σ:St) (H:Hp) (s:Gs) (e:Gr) (s':Gs),Inv X pins σ H s->CX X.stack H s E e s'->X.xe e s'
section
variable {CX:CXT}{k:Nat}{f:GE}{fd:Hw}{ps:List Str}{sp:Sp}{SS:List V}{ds:List Gr}{E:XK}{x m:Str}{p RE:Pos}{e o:Expr}{t:TA}
theorem rN{pins:List (GE×Obj)}{σ:St}{H:Hp}{s:Gs}{Q:VK}{us:List Gr}{vs:List V}(F:aL X.prog X.w X.K X.mg X.base CX k f fd ps sp)(hr:bB k X.A)(hb:bq X.K fd ps ds)(hd:aK SS ds)(hx:bj CX X E)
  (I:Inv X pins σ H s) (r:aK vs us) (h:sp (vs++SS) H Q E):GQ (G1 X.prog X.w) X.A (call (.ref f) us) (EP X pins σ Q) X.xe s:=by
 have r2:aK (vs++SS) (us++ds):=r.append hd;have hl:(us++ds).length=ps.length:=by rw[<-r2.length];exact F.len _ _ _ _ h
 refine LY (JV (F.run X.A X.stack s H ⟨us,[]⟩ (us++ds) (vs++SS) Q E hr I.env0 (hb s us I.kIn hl) r2 h) λr s' hq=>?_)
 cases r with
 |error e=>exact hx pins σ H s e s' I hq
 |ok fl=>
  cases fl with
  |ret u=>exact I.after hq
  |next=>exact False.elim hq
  |brk=>exact False.elim hq
  |cont=>exact False.elim hq
theorem gD(F:aL X.prog X.w X.K X.mg X.base CX k f fd ps sp)(hr:bB k X.A)(hg:Gl X x)(hm:X.mg x=some (.ref f))(hk:HA X.K (.ref f)=true)(hb:bq X.K fd ps ds)(hd:aK SS ds)(hx:bj CX X E)
  (ha:PA X (e::es) t) (Sr:(x==("__debug__":Str))=false:=by decide) (he:Gv (e::es) X.env=(false,HY e X.env)::Gv es X.env:=by rfl) (R3:(Hx pos (Gv es X.env)).any (·.1)=false:=by rfl):
  PE X (.Call (.Name x p) (e::es) [] pos) (zI sp SS E t):=by
 intro pins s σ H Q I h;refine Hj (dF I hg hm ?_ Sr);refine JG (h₀:=X.base) I.ok.mod.kin hk (thn (ha pos pins s σ H _ I h) λus s1 ⟨vs,H1,I1,r,q⟩=>⟨I1.kIn,?_⟩) he R3
 exact rN F hr hb hd hx I1 r q
theorem kg{pl:Sem Bool}(he:PE X o ta)(c:Cls X.K C)(hm:kF X.K C m f)(F:aL X.prog X.w X.K X.mg X.base CX k f fd ps sp)(hr:bB k X.A)(hb:bq X.K fd ps ds)(hd:aK SS ds)(hx:bj CX X E)(ha:PA X (e::es) t)
  (R9:Gv (e::es) X.env=(false,HY e X.env)::Gv es X.env:=by rfl) (R3:(Hx pos (Gv es X.env)).any (·.1)=false:=by rfl)
  (ht:HY (.Call (.Attribute o m RE) (e::es) [] pos) X.env=(do
   let ov <-HY o X.env
   Mt RE.atName
   let (f,first) <-Ln [ov] (KB ov m pl)
   Mm pos f first (Hx pos (Gv (e::es) X.env)) (JA pos (HZ [] X.env))):=by rfl):
  PE X (.Call (.Attribute o m RE) (e::es) [] pos) (CT C m sp SS E ta t):=by
 intro pins s σ H Q I h;refine LD (pl:=pl) (thn (he pins s σ H _ I h) λu s1 ⟨x,H1,I1,rx,a,dx,fs,ex,ea,l,q⟩=>?_) ht
 subst ex;obtain rfl:u=GR a:=rx;refine il I1 ea c hm l ?_;refine JG (first:=[.ref a]) (h₀:=X.base) I.ok.mod.kin hm.kp (thn (ha pos pins s1 σ H1 _ I1 q) λus s2 ⟨vs,H2,I2,r,q2⟩=>⟨I2.kIn,?_⟩) R9 R3
 exact rN (us:=.ref a::us) (vs:=.ref a::vs) F hr hb hd hx I2 (.cons rfl r) q2
structure Mk(K:Gn)(C f:GE):Prop where
 makes:Pi K C=true
 init:IQ K (.ref C) "__init__"=some (some (.ref f))
 fn:OV K (.ref f)=true
 kp:HA K (.ref C)=true
theorem zf{pins:List (GE×Obj)}{σ:St}{H:Hp}{s:Gs}{Q:VK}{us:List Gr}{vs:List V}(M:Mk X.K C f)(F:aL X.prog X.w X.K X.mg X.base CX k f fd ps sp)(hr:bB (k+1) X.A)(hb:bq X.K fd ps ds)(hd:aK SS ds)
  (hx:bj CX X E) (I:Inv X pins σ H s) (r:aK vs us)
  (h:∀x dx,H x=none->H dx=none->dx≠x->sp (.ref x::(vs++SS)) (upd (upd H dx (.own x)) x (.ins C dx [])) (λv H2=>v=.non/\Q (.ref x) H2) E):
  GQ (G1 X.prog X.w) X.A (call (.ref C) us) (EP X pins σ Q) X.xe s:=by
 have hq:=h (s.heap.objs.size+1) s.heap.objs.size (I.hok.fresh (Rg _)) (I.hok.fresh (GA _)) (GS (Iz _));have I2:=Inv.made (C:=C) I;have r2:aK (V.ref (s.heap.objs.size+1)::(vs++SS)) (GR (s.heap.objs.size+1)::(us++ds)):=.cons rfl (r.append hd)
 have hl:(GR (s.heap.objs.size+1)::us++ds).length=ps.length:=by
  have e:=r2.length;rw[F.len _ _ _ _ hq]at e;exact e.symm
 refine LY (xr (f:=f) I.kIn M.makes M.init (beq_iff_eq.mp M.fn) (JV (F.run _ X.stack _ _ ⟨GR (s.heap.objs.size+1)::us,[]⟩ (GR (s.heap.objs.size+1)::(us++ds)) _ _ E (hr.make C us [])
  (I2.env0.make C us []) (hb _ (GR (s.heap.objs.size+1)::us) I2.kIn hl) r2 hq) λr s' R5=>?_))
 cases r with
 |error e=>exact hx pins σ _ _ e s' I2 R5
 |ok fl=>
  cases fl with
  |ret u=>
   obtain⟨v,H',I3,rv,ev,q3⟩:=I2.after R5;subst ev;exact⟨rv,⟨V.ref (s.heap.objs.size+1),H',I3,rfl,q3⟩⟩
  |next=>exact False.elim R5
  |brk=>exact False.elim R5
  |cont=>exact False.elim R5
theorem Al(M:Mk X.K C f)(F:aL X.prog X.w X.K X.mg X.base CX k f fd ps sp)(hr:bB (k+1) X.A)(hg:Gl X x)(hm:X.mg x=some (.ref C))(hb:bq X.K fd ps ds)(hd:aK SS ds)(hx:bj CX X E)
  (Sr:(x==("__debug__":Str))=false:=by decide):PE X (.Call (.Name x p) [] [] pos) (Fj C sp SS E EG):=by
 intro pins s σ H Q I h;refine Hj (dF I hg hm ?_ Sr);exact PySem.W.callWith_K0 I.kIn M.kp (zf (us:=[]) M F hr hb hd hx I .nil h)
end
structure aq(N P:List Str)(sc:Ke):Prop where
 kind:sc.kind=.function
 co:sc.isCoroutine=false
 gen:sc.isGenerator=false
 nd:N.Nodup
 pre:N.take P.length=P
 par:∀x∈P,sc.names.lookup x=some .local\/sc.names.lookup x=some .cell
 nofree:∀y∈sc.names,y.2≠.free
theorem mw{kindOf:Str->Option LW}{x:Str}:∀{binds:List (Str×Gr)}{m:Str->Option Gr},(∀v,(x,v) ∉ binds)->Rh kindOf binds m x=m x
 |[],_,_=>rfl
 | (n,v)::r,m,h=>by
  unfold Rh;rw[mw λw hw=>h w (Gq _ hw)]
  split
  ·have:x≠n:=by rintro rfl;exact h v Gy
   simp[this]
  ·rfl
theorem mW{kindOf:Str->Option LW}{x:Str}:∀{binds:List (Str×Gr)}{m:Str->Option Gr},(∀v,(x,v) ∉ binds)->Ri kindOf binds m x=m x
 |[],_,_=>rfl
 | (n,v)::r,m,h=>by
  unfold Ri;rw[mW λw hw=>h w (Gq _ hw)]
  split
  ·rfl
  ·have:x≠n:=by rintro rfl;exact h v Gy
   simp[this]
theorem ny{kindOf:Str->Option LW}{x:Str}{v:Gr}:∀{P:List Str}{vs:List Gr}{i:Nat}{m:Str->Option Gr},P.Nodup->P[i]?=some x->vs[i]?=some v->kindOf x=some .local->
  Rh kindOf (P.zip vs) m x=some v
 |[],_,_,_,_,h,_,_=>by simp at h
 |_::_,[],_,_,_,_,h,_=>by simp at h
 |p::P,w::vs,0,m,nd,h1,h2,hk=>by
  simp at h1 h2;subst h1;subst h2;show Rh kindOf ((p,w)::P.zip vs) m p=_;unfold Rh;rw[mw λv hv=>(Jg.mp nd).1 (L7 hv).1,if_pos hk]
  simp
 |p::P,w::vs,i+1,m,nd,h1,h2,hk=>by
  show Rh kindOf ((p,w)::P.zip vs) m x=_;unfold Rh;exact ny (i:=i) (Jg.mp nd).2 (by simpa using h1) (by simpa using h2) hk
theorem mI{kindOf:Str->Option LW}{x:Str}{v:Gr}:∀{P:List Str}{vs:List Gr}{i:Nat}{m:Str->Option Gr},P.Nodup->P[i]?=some x->vs[i]?=some v->kindOf x≠some .local->
  Ri kindOf (P.zip vs) m x=some v
 |[],_,_,_,_,h,_,_=>by simp at h
 |_::_,[],_,_,_,_,h,_=>by simp at h
 |p::P,w::vs,0,m,nd,h1,h2,hk=>by
  simp at h1 h2;subst h1;subst h2;show Ri kindOf ((p,w)::P.zip vs) m p=_;unfold Ri;rw[mW λv hv=>(Jg.mp nd).1 (L7 hv).1,if_neg hk]
  simp
 |p::P,w::vs,i+1,m,nd,h1,h2,hk=>by
  show Ri kindOf ((p,w)::P.zip vs) m x=_;unfold Ri;exact mI (i:=i) (Jg.mp nd).2 (by simpa using h1) (by simpa using h2) hk
def start(N:List Str)(vs:List V):St:=vs.map some++G6 (N.length-vs.length) none
def cR(CX:CXT)(P:GF)(w:G5)(K:Gn)(mg:Str->Option Gr)(base:H_)(N:List Str)(RC:Str)(scope:Ke)(f:GE)(cd:Gr)(A:Ha)(outer:List Env)(s:Gs)(H:Hp)(E:XK):Cx where
 prog:=P
 w:=w
 K:=K
 mg:=mg
 base:=base
 A:=A.deeper (JH RC scope s.heap.objs.size f cd)
 N:=N
 s₀:=s
 H₀:=H
 env:=JH RC scope s.heap.objs.size f cd
 outer:=outer
 stack:=JH RC scope s.heap.objs.size f cd::outer
 ex:=[]
 calm:=true
 fn:=λ_=>true
 pn:=[]
 xe:=λe s'=>GQ (G1 P w) (A.deeper (JH RC scope s.heap.objs.size f cd)) (Pk (JH RC scope s.heap.objs.size f cd) e) (λ_ s''=>CX outer H s E e s'') (λe' s''=>CX outer H s E e' s'') s'
theorem qN{sc:Ke}{n:Nat}{x:Str}(h:sc.names.lookup x=some .cell):∃c,(Oa n sc.names []).lookup x=some c:=by
 have q:=J8 sc.names n [] (.inl h);exact II.mp q
theorem nt{CX:CXT}{P:GF}{w:G5}{K:Gn}{mg:Str->Option Gr}{base:H_}{N ps:List Str}{RC:Str}{scope:Ke}{f:GE}{cd:Gr}{A:Ha}{outer:List Env}{s s1:Gs}{H:Hp}{E:XK}{us:List Gr}{vs:List V}
  (S:aq N ps scope) (hd:A.handled=none) (e0:qa P w K mg base A outer s H) (hl:vs.length=ps.length) (r:aK vs us)
  (x:InCallC s s.heap.objs.size (Rh (JH RC scope s.heap.objs.size f cd).kindOf (ps.zip us) λ_=>none) (Oa (s.heap.objs.size+1) scope.names []) (Ri (JH RC scope s.heap.objs.size f cd).kindOf (ps.zip us) λ_=>none) s1):
  Inv (cR CX P w K mg base N RC scope f cd A outer s H E) [] (start N vs) H s1:=by
 have R3:ps.length<=N.length:=by have:=congrArg Lp S.pre;rw[LM]at this;lia
 obtain⟨h1,tk,rfl,hk⟩:=x.done;have noA:∀b:GE,b ∉ (cR CX P w K mg base N RC scope f cd A outer s H E).ex:=λb z=>absurd (show b∈([]:List GE) from z) (by simp)
 refine⟨⟨e0.mod,S.kind,rfl,rfl,GA _,λy z c h1 h2=>?_,λy hy=>?_,λy c _ h=>?_,λ_=>hd,Around.frames_deeper e0.frames,.inr ⟨rfl,rfl⟩,λb z=>absurd z (noA b),e0.bs,e0.bsz,λb _ _=>noA b,λb z=>absurd z (noA b),e0.funs,e0.frf⟩,
  rfl,e0.bare,Un.kept hk,⟨_,x.toInCall.ns,λi y v h1 h2 h3=>?_⟩,λy c h=>⟨_,x.cell y c h⟩,e0.hok.fresh (GA _),λy c h=>?_,λp hp=>absurd (show p∈([]:List (GE×Obj)) from hp) (by simp),e0.hok.kept hk,?_⟩
 ·exact name_of_addr x.apart (ID h1) (ID h2)
 ·have hy:scope.names.lookup y=some .cell\/scope.names.lookup y=some .free:=hy;rcases hy with hy |hy
  ·exact qN hy
  ·exact absurd rfl (S.nofree _ (ID hy))
 ·exact GT (x.above y c (ID h))
 ·have hi:i<vs.length:=by
   unfold start at h2;by_cases hi:i<vs.length
   ·exact hi
   ·rw[GK (by simpa using hi)]at h2
    rw[HG]at h2;split at h2 <;>cases h2
  have ha:vs[i]?=some v:=by
   unfold start at h2;rw[GG (by simpa using hi),Gz]at h2
   cases e:vs[i]? with
   |none=>rw[e]at h2;cases h2
   |some a=>rw[e]at h2;cases h2;rfl
  obtain⟨u,hu,rv⟩:=r.get ha
  have hp:ps[i]?=some y:=by
   rw[<-S.pre,IJ (by lia)];exact h1
  have ndP:ps.Nodup:=by rw[<-S.pre];exact S.nd.sublist (List.take_sublist _ _)
  refine⟨u,rv,?_⟩;rcases S.par y (GJ hp) with k |k
  ·exact .inl ⟨k,ny ndP hp hu k⟩
  ·obtain⟨c,e⟩:=qN (n:=s.heap.objs.size+1) k;refine .inr ⟨.inl k,c,e,?_⟩;have q:=x.cell y c e;rw[mI ndP hp hu (by show scope.names.lookup y≠_;rw[k];decide)]at q
   exact q
 ·exact e0.hok.fresh (GT (x.above y c (ID h)))
 ·unfold start;show _=N.length;rw[Hb,Gp,HN];lia
theorem CC{CX:CXT}{P:GF}{w:G5}{K:Gn}{mg:Str->Option Gr}{base:H_}{k:Nat}{f:GE}{name RC:Str}{SX:QU}{RO:List Iy}{scope:Ke}{dV kV SN pm RF ct oc:Gr}{an od:Option GE}
  {Tr:Array (Option Gr)}{N ps:List Str}{sp:Sp} (lk:K.lookup f=some ⟨oc,od,.func (IV name RC SX RO scope dV kV SN pm an RF ct),Tr⟩) (R8:KC K RF RC=true) (S:aq N ps scope)
  (len:∀vs H Q E,sp vs H Q E->vs.length=ps.length)
  (Si:∀(A:Ha) (outer:List Env) (s:Gs) (H:Hp) (vs:List V) (Q:VK) (E:XK),bB k (A.deeper (JH RC scope s.heap.objs.size f RF))->sp vs H Q E->
   ∃t,PSs (cR CX P w K mg base N RC scope f RF A outer s H E) RO t/\t {nx:=λ_ H'=>Q .non H',rt:=Q } (start N vs) H):
  aL P w K mg base CX (k+1) f (IV name RC SX RO scope dV kV SN pm an RF ct) ps sp:=by
 refine⟨len,λA outer s H args us vs Q E hr e0 hb r SH=>?_⟩
 have hl:=len _ _ _ _ SH;have KX:K.In s.heap:=e0.mod.kin.keeps λb o e=>(e0.bs b o e).1
 have lim:s.heap.NoLimit:=e0.mod.nolimit.keeps λb o e=>(e0.bs b o e).1
 have UE:∀y∈ps.zip us,scope.names.lookup y.1=some .local\/(scope.names.lookup y.1=some .cell/\((Oa (s.heap.objs.size+1) scope.names []).lookup y.1).isSome=true):=λ⟨n,v⟩ hy=>by
  rcases S.par n (L7 hy).1 with q |q
  ·exact .inl q
  ·exact .inr ⟨q,J8 _ _ _ (.inl q)⟩
 refine Nh hr.depth (KX _ _ lk) rfl S.co S.gen rfl (Ob KX R8) (hb _ _ _ _ ?_);refine Mh S.kind UE λenv he s1 x=>?_
 subst he;refine⟨lim.keeps x.toInCall.keep,codeAny_func ?_⟩;obtain⟨t,ht,hq⟩:=Si A outer s H vs Q E (hr.deeper _) SH;have I:Inv (cR CX P w K mg base N RC scope f RF A outer s H E) [] (start N vs) H s1:=nt S hr.hd e0 hl r x;refine HC (ht [] s1 (start N vs) H _ I hq) (λfl s' hs=>?_) λe s' hs=>hs
 have RR:∀{RK:St}{H':Hp}{v:V}{u:Gr},Inv (cR CX P w K mg base N RC scope f RF A outer s H E) [] RK H' s'->aU v u->Q v H'->CE outer P w H s Q u s':=
  λ{RK H' v u} J rv q=>⟨v,H',J.os,J.bare,J.base,J.hok,rv,q⟩
 cases fl with
 |ret u=>
  obtain⟨v,RK,H',J,rv,q⟩:=hs;exact RR J rv q
 |next=>
  obtain⟨RK,H',J,q⟩:=hs;exact RR (v:=V.non) (u:=GU) J rfl q
 |brk=>
  obtain⟨_,_,_,q⟩:=hs;exact False.elim q
 |cont=>
  obtain⟨_,_,_,q⟩:=hs;exact False.elim q
section
variable {x:Str}{p:Pos}{e:Expr}{t:TA}{id T:String}{r:List V→Hp→VK→Prop}
def tCB(r:List V->Hp->VK->Prop)(t:TA):TE:=λσ H Q=>t σ H λvs H1=>r vs H1 Q
theorem lO(hc:cu X (.builtin id) r)(hg:Gl X x)(hm:X.mg x=none)(hv:IF x=some (.builtin id))(ha:PA X (e::es) t)(hn:x≠"__name__":=by decide)(Sr:(x==("__debug__":Str))=false:=by decide)
  (he:Gv (e::es) X.env=(false,HY e X.env)::Gv es X.env:=by rfl) (R3:(Hx pos (Gv es X.env)).any (·.1)=false:=by rfl):PE X (.Call (.Name x p) (e::es) [] pos) (tCB r t):=by
 intro pins s σ H Q I h;refine Hj (c5 I hg hm hv ?_ hn Sr);exact PyProof.Rows.callWith_builtin1 (thn (ha pos pins s σ H _ I h) λus s1 ⟨vs,H1,I1,r1,q1⟩=>hc pins s1 σ H1 vs us Q I1 r1 q1) he R3
theorem vj(hc:cu X (.type T) r)(hg:Gl X x)(hm:X.mg x=none)(hv:IF x=some (.type T))(ha:PA X (e::es) t)(hn:x≠"__name__":=by decide)(Sr:(x==("__debug__":Str))=false:=by decide)
  (he:Gv (e::es) X.env=(false,HY e X.env)::Gv es X.env:=by rfl) (R3:(Hx pos (Gv es X.env)).any (·.1)=false:=by rfl):PE X (.Call (.Name x p) (e::es) [] pos) (tCB r t):=by
 intro pins s σ H Q I h;refine Hj (c5 I hg hm hv ?_ hn Sr);exact PyProof.Rows.callWith_type1 (thn (ha pos pins s σ H _ I h) λus s1 ⟨vs,H1,I1,r1,q1⟩=>hc pins s1 σ H1 vs us Q I1 r1 q1) he R3
end
end L2
namespace HT
open PySem PyProof.Rows
section
variable {prog:GF}{w:G5}{A:Ha}{E:Gr→Gs→Prop}{s:Gs}
def sIx(n d:Nat):Option Int->Nat
 |none=>d
 |some v=>if v<0 then (v+(n:Int)).toNat else min v.toNat n
end
end HT
namespace L2
open PySem PySem.Spec PyProof.Rows
abbrev TO:=St->Hp->(Option Int->Hp->Prop)->Prop
def PO(X:Cx)(e:Option Expr)(t:TO):Prop:=
 ∀(pins:List (GE×Obj)) (s:Gs) (σ:St) (H:Hp) (Q:Option Int->Hp->Prop),Inv X pins σ H s->t σ H Q->
  GQ (G1 X.prog X.w) X.A (evalPart e X.env) (λu s'=>∃o H',Inv X pins σ H' s'/\IsPart u o/\Q o H') X.xe s
def AT:TO:=λ_ H Q=>Q none H
def ED(t:TE):TO:=λσ H Q=>t σ H λx H1=>∃i,x=.int i/\Q (some i) H1
variable {X:Cx}
section
variable {e:Expr}{te:TE}{lo hi:Option Expr}{tl th:TO}{pos p2:Pos}
theorem BO:PO X none AT:=by
 intro pins s σ H Q I h;rw[Oc];exact Gw ⟨none,H,I,.none,h⟩
theorem AD(h:PE X e te):PO X (some e) (ED te):=by
 intro pins s σ H Q I hw;rw[evalPart_some];refine thn (h pins s σ H _ I hw) λu s1 ⟨x,H1,I1,r1,q1⟩=>?_
 obtain⟨i,rfl,q⟩:=q1;obtain⟨t,rfl⟩:=r1;exact⟨some i,H1,I1,.int i t,q⟩
def SlR(X:Cx)(r:V->Option Int->Option Int->Hp->VK->Prop):Prop:=
 ∀(pins:List (GE×Obj)) (s:Gs) (σ:St) (H:Hp) (x:V) (v vl vu:Gr) (lo hi:Option Int) (sl:GE) (Q:VK),Inv X pins σ H s->aU x v->s.heap.IsSliceOf sl vl vu .none->IsPart vl lo->IsPart vu hi->r x lo hi H Q->
  ∃T id,NJ (.type T) "__getitem__"=pure (some (.builtin id))∧s.TypeIs v T∧GQ (G1 X.prog X.w) X.A (OC v (.ref sl)) (EP X pins σ Q) X.xe s
def tSl(r:V->Option Int->Option Int->Hp->VK->Prop)(te:TE)(tl th:TO):TE:=λσ H Q=>te σ H λx H1=>tl σ H1 λl H2=>th σ H2 λu H3=>r x l u H3 Q
theorem pS{r:V->Option Int->Option Int->Hp->VK->Prop}(hr:SlR X r)(he:PE X e te)(hl:PO X lo tl)(hu:PO X hi th):PE X (.Subscript e (.Slice lo hi none p2) pos) (tSl r te tl th):=by
 intro pins s σ H Q I h;refine OD (thn (he pins s σ H _ I h) λv s1 ⟨x,H1,I1,r1,q1⟩=>?_)
 refine wpAny_Slice (thn (hl pins s1 σ H1 _ I1 q1) λvl s2 ⟨l,H2,I2,pl,q2⟩=>thn (hu pins s2 σ H2 _ I2 q2) λvu s3 ⟨u,H3,I3,pu,q3⟩=>?_)
 rw[Oc];refine Gw ?_;have I4:Inv X pins σ H3 {s3 with heap:=s3.heap.push {cls:=.type "slice",data:=.fields #[vl,vu,.none] } }:=I3.kept (t':=s3.toks) λb ob q=>Gu _ q
 obtain⟨T,id,hT,ht,hg⟩:=hr pins {s3 with heap:=s3.heap.push {cls:=.type "slice",data:=.fields #[vl,vu,.none] } } σ H3 x v vl vu l u s3.heap.objs.size Q I4 r1 (Od ..) pl pu q3
 show GQ (G1 X.prog X.w) X.A (MV e (.Slice lo hi none p2) v (.ref s3.heap.objs.size)) (EP X pins σ Q) X.xe {s3 with heap:=s3.heap.push {cls:=.type "slice",data:=.fields #[vl,vu,.none] } }
 exact tail_any (ops:=[.ref s3.heap.objs.size,v]) ht hT hg (by with_unfolding_all rfl)
def vd(xs:List V)(lo hi:Option Int):List V:=(xs.drop (HT.sIx xs.length 0 lo)).take (HT.sIx xs.length xs.length hi-HT.sIx xs.length 0 lo)
theorem pf(xs:List V)(lo hi:Option Int):(vd xs lo hi).length<=xs.length:=by
 unfold vd;rw[LM,List.length_drop];lia
end
def ixN(n:Nat)(i:Int):Option Nat:=if 0<=i then (if i<n then some i.toNat else none) else if -(n:Int)<=i then some (i+n).toNat else none
def atI{α:Type}(xs:List α)(i:Int):Option α:=(ixN xs.length i).bind λj=>xs[j]?
theorem Be{n:Nat}{i:Int}{j:Nat}(h:ixN n i=some j):seqIndex? i n=some j/\j<n/\-(n:Int)<=i/\i<n:=by
 unfold ixN at h;by_cases h0:0<=i
 ·rw[if_pos h0]at h;by_cases h1:i<n
  ·rw[if_pos h1]at h;have e:i.toNat=j:=Hq h;exact⟨by rw[seqIndex_of h0 h1,e],by lia,by lia,h1⟩
  ·rw[if_neg h1]at h;cases h
 ·rw[if_neg h0]at h;by_cases h1:-(n:Int)<=i
  ·rw[if_pos h1]at h;have e:(i+n).toNat=j:=Hq h;exact⟨by rw[seqIndex_neg (by lia) h1,e],by lia,h1,by lia⟩
  ·rw[if_neg h1]at h;cases h
theorem oI{α:Type}{xs:List α}{i:Int}{v:α}(h:atI xs i=some v):∃j,seqIndex? i xs.length=some j/\xs[j]?=some v/\j<xs.length/\-(xs.length:Int)<=i/\i<xs.length:=by
 unfold atI at h;cases e:ixN xs.length i with
 |none=>rw[e]at h;cases h
 |some j=>
  rw[e]at h;obtain⟨h1,h2,h3,h4⟩:=Be e;exact⟨j,h1,h,h2,h3,h4⟩
theorem sZ{α:Type}{xs:List α}{j:Nat}{v:α}(h:xs[j]?=some v):atI xs (j:Int)=some v:=by
 have hj:j<xs.length:=(GB.mp h).1
 have e:ixN xs.length (j:Int)=some j:=by
  unfold ixN;rw[if_pos (by lia),if_pos (by lia)];simp
 unfold atI;rw[e];exact h
def j9(b:Expr):Prop:=∀o i,N4 b false o i=operate [o,i] (OC o i)
def IxR(X:Cx)(r:R2):Prop:=
 ∀(RX slice:Expr) (pins:List (GE×Obj)) (s:Gs) (σ:St) (H:Hp) (x y:V) (v u:Gr) (Q:VK),Inv X pins σ H s->aU x v->aU y u->r x y H Q->
  N4 slice false v u=operate [v,u] (OC v u)->GQ (G1 X.prog X.w) X.A (MV RX slice v u) (EP X pins σ Q) X.xe s
def MtR(X:Cx)(id:String)(r:V->List V->Hp->VK->Prop):Prop:=
 ∀(pins:List (GE×Obj)) (s:Gs) (σ:St) (H:Hp) (x:V) (xs:List V) (v:Gr) (us:List Gr) (Q:VK),Inv X pins σ H s->aU x v->aK xs us->r x xs H Q->
  GQ (G1 X.prog X.w) X.A (call (.builtin id) (v::us)) (EP X pins σ Q) X.xe s
section
variable {a b:Expr}{ta tb:TE}{pos:Pos}
theorem IxR.or{r r':R2}(h:IxR X r)(h':IxR X r'):IxR X (λx y H Q=>r x y H Q\/r' x y H Q):=by
 intro RX slice pins s σ H x y v u Q I rx ry q hs;rcases q with q |q
 ·exact h RX slice pins s σ H x y v u Q I rx ry q hs
 ·exact h' RX slice pins s σ H x y v u Q I rx ry q hs
theorem xj{r:R2}(hr:IxR X r)(ha:PE X a ta)(hb:PE X b tb)(hs:j9 b):PE X (.Subscript a b pos) (tOp r ta tb):=by
 intro pins s σ H Q I h;exact OD (DB ha hb I h λv u s2 x y H2 I2 rx ry q=>hr a b pins s2 σ H2 x y v u Q I2 rx ry q (hs _ _))
def F9(K:Gn):R2:=λx y H Q=>∃p xs i v,x=.ref p/\y=.int i/\SqL K H p xs/\atI xs i=some v/\Q v H
def FS(K:Gn):R2:=λx y H Q=>∃p xs i v,x=.ref p/\y=.int i/\SqT K H p xs/\atI xs i=some v/\Q v H
def FU:R2:=λx y H Q=>∃z i c,x=.str z/\y=.int i/\z.length<=sizeLine/\atI z.cps.toList i=some c/\Q (.str ⟨#[c]⟩) H
theorem uo:IxR X (F9 X.K):=by
 intro RX slice pins s σ H x y v u Q I rx ry h hs;obtain⟨p,xs,i,z,rfl,rfl,hq,he,q⟩:=h;cases rx;obtain⟨t,rfl⟩:=ry;obtain⟨RB,r,pl,hz⟩:=I.list hq;obtain⟨j,h1,h2,h3,h4,h5⟩:=oI he;obtain⟨w,ew,S1⟩:=r.get h2;have hl:=r.length;have hn:=kE;have RR:EP X pins σ Q w s:=⟨z,H,I,S1,q⟩;by_cases h0:0<=i
 ·have hj:i.toNat=j:=by
   rw[seqIndex_of h0 h5]at h1;exact Hq h1
  exact item_listR pl.isList h0 (by lia) (by rw[hj];simpa using ew) RR hs
 ·have hj:(i+(RB.toArray.size:Int)).toNat=j:=by
   rw[seqIndex_neg (by lia) h4]at h1
   rw[GN,<-hl];exact Hq h1
  exact M8 (x:=w) pl.isList.typeIs slot_list_getitem.lookup
   (wpAny_getItem_list_neg (Q:=λr s'=>r=w/\EP X pins σ Q r s') pl.isList (by lia) (by rw[GN] <;>lia) (by lia) (by rw[hj];simpa using ew) ⟨rfl,RR⟩) hs
theorem Dl:IxR X (FS X.K):=by
 intro RX slice pins s σ H x y v u Q I rx ry h hs;obtain⟨p,xs,i,z,rfl,rfl,hq,he,q⟩:=h;cases rx;obtain⟨t,rfl⟩:=ry;obtain⟨RB,r,pl,hz⟩:=I.tuple hq;obtain⟨j,h1,h2,h3,h4,h5⟩:=oI he;obtain⟨w,ew,S1⟩:=r.get h2;have hl:=r.length;have hn:=kE;have RR:EP X pins σ Q w s:=⟨z,H,I,S1,q⟩
 exact M8 (x:=w) pl.typeIs slot_tuple_getitem.lookup
  (getItem_tuple (j:=j) (Q:=λr s'=>r=w/\EP X pins σ Q r s') pl (by lia) (by lia) (by rw[GN,<-hl];exact h1) (by simpa using ew) ⟨rfl,RR⟩) hs
theorem El:IxR X FU:=by
 intro RX slice pins s σ H x y v u Q I rx ry h hs;obtain⟨z,i,c,rfl,rfl,hz,he,q⟩:=h;obtain⟨t,rfl⟩:=rx;obtain⟨t',rfl⟩:=ry;obtain⟨j,h1,h2,h3,h4,h5⟩:=oI he;have hl:z.cps.toList.length=z.length:=by simp[Str.length]
 rw[hl]at h1 h4 h5;have hn:=kE
 exact tail_any (QD s z t) slot_str_getitem.lookup (getItem_str (c:=c) (by
  have e1:decide (i < -(2 ^ 63:Int))=false:=decide_eq_false (by lia)
  have e2:decide (i ≥ 2 ^ 63)=false:=decide_eq_false (by lia)
  rw[e1,e2,Oe]) (by rw[h1];simpa using h2) ⟨.str ⟨#[c]⟩,H,I.tok _,⟨_,rfl⟩,q⟩) hs
theorem nN(lo hi:Option Int)(n:Nat):(Lq lo hi none n).1=((HT.sIx n 0 lo:Nat):Int)/\(Lq lo hi none n).2.1=((HT.sIx n n hi:Nat):Int)/\(Lq lo hi none n).2.2=1:=by
 refine⟨?_,?_,rfl⟩
 ·cases lo with
  |none=>simp[Lq,HT.sIx]
  |some i=>
   simp only[Lq,HT.sIx,M3,show (1:Int) >0 by decide,if_true]
   by_cases h:i<0
   ·simp only[h,if_true] <;>lia
   ·simp only[h,if_false] <;>lia
 ·cases hi with
  |none=>simp[Lq,HT.sIx]
  |some i=>
   simp only[Lq,HT.sIx,M3,show (1:Int) >0 by decide,if_true]
   by_cases h:i<0
   ·simp only[h,if_true] <;>lia
   ·simp only[h,if_false] <;>lia
theorem mh(RB:List Gr)(lo hi:Option Int):slicePick RB.toArray lo hi none=((RB.drop (HT.sIx RB.length 0 lo)).take (HT.sIx RB.length RB.length hi-HT.sIx RB.length 0 lo)).toArray:=by
 obtain⟨h1,h2,h3⟩:=nN lo hi RB.toArray.size;unfold slicePick;rw[h1,h2,h3];simp only[sliceRange_one,pick_run,GN] <;>rfl
def FY(K:Gn):V->Option Int->Option Int->Hp->VK->Prop:=λx lo hi H Q=>∃a xs,x=.ref a/\SqL K H a xs/\∀p,H p=none->Q (.ref p) (upd H p (.lst (vd xs lo hi)))
theorem A3:SlR X (FY X.K):=by
 intro pins s σ H x v vl vu lo hi sl Q I rx hs pl pu h;obtain⟨a,xs,rfl,hx,q⟩:=h;cases rx;obtain⟨RB,r,ht,hz⟩:=I.list hx;have RM:=r.length;refine⟨"list",_,slot_list_getitem.lookup,ht.isList.typeIs,?_⟩;refine MG ht.isList hs pl pu .none (by simp) ?_ (by rw[GN] <;>lia)
 rw[mh,<-RM];refine⟨.ref s.heap.objs.size,_,I.laid (t':=s.toks) (o:=.lst (vd xs lo hi)) (λb ob q=>Gu _ q) (GA _) ?_,rfl,q _ (I.hok.fresh (GA _))⟩
 exact⟨HD (pf xs lo hi) hz,_,0,(r.drop (HT.sIx xs.length 0 lo)).take (HT.sIx xs.length xs.length hi-HT.sIx xs.length 0 lo),GH _ rfl⟩
def g_:V->Bool
 | .non=>true
 | .bl _=>true
 | .int _=>true
 | .str _=>true
 |_=>false
def eqV:V->V->Bool
 | .non,.non=>true
 | .bl a,.bl b=>a==b
 | .bl a,.int b=>(if a then 1 else 0)==b
 | .int a,.bl b=>a==(if b then 1 else 0)
 | .int a,.int b=>a==b
 | .str a,.str b=>a==b
 |_,_=>false
theorem Dc{A:Ha}{s:Gs}{y x:V}{u v:Gr}(ry:aU y u)(rx:aU x v)(fy:g_ y=true)(fx:g_ x=true):SeqAt.EqAt A s u v (eqV y x):=by
 cases y with
 |non=>
  cases ry;cases x with
  |non=>cases rx;exact SeqAt.EqAt.same _
  |bl b=>cases rx;exact SeqAt.EqAt.none_bool b
  |int b=>obtain⟨t,rfl⟩:=rx;exact SeqAt.EqAt.none_int b t
  |str b=>obtain⟨t,rfl⟩:=rx;exact SeqAt.EqAt.none_str b t
  |_=>exact absurd (show false=true from fx) GZ
 |bl a=>
  cases ry;cases x with
  |non=>cases rx;exact SeqAt.EqAt.bool_none a
  |bl b=>cases rx;exact SeqAt.EqAt.bool_bool a b
  |int b=>obtain⟨t,rfl⟩:=rx;exact SeqAt.EqAt.bool_int a b t
  |str b=>obtain⟨t,rfl⟩:=rx;exact SeqAt.EqAt.bool_str a b t
  |_=>exact absurd (show false=true from fx) GZ
 |int a=>
  obtain⟨t',rfl⟩:=ry;cases x with
  |non=>cases rx;exact SeqAt.EqAt.int_none a t'
  |bl b=>cases rx;exact SeqAt.EqAt.int_bool a t' b
  |int b=>obtain⟨t,rfl⟩:=rx;exact SeqAt.EqAt.int_int a t' b t
  |str b=>obtain⟨t,rfl⟩:=rx;exact SeqAt.EqAt.int_str a t' b t
  |_=>exact absurd (show false=true from fx) GZ
 |str a=>
  obtain⟨t',rfl⟩:=ry;cases x with
  |non=>cases rx;exact SeqAt.EqAt.str_none a t'
  |bl b=>cases rx;exact SeqAt.EqAt.str_bool a t' b
  |int b=>obtain⟨t,rfl⟩:=rx;exact SeqAt.EqAt.str_int a t' b t
  |str b=>obtain⟨t,rfl⟩:=rx;exact SeqAt.EqAt.str_str a t' b t
  |_=>exact absurd (show false=true from fx) GZ
 |_=>exact absurd (show false=true from fy) GZ
def eqU(x:V)(u:Gr):Bool:=match u with
 | .none=>eqV .non x
 | .bool b=>eqV (.bl b) x
 | .int i _=>eqV (.int i) x
 | .str z _=>eqV (.str z) x
 |_=>false
theorem yP{x y:V}{u:Gr}(r:aU y u)(f:g_ y=true):eqU x u=eqV y x:=by
 cases y with
 |non=>cases r;rfl
 |bl b=>cases r;rfl
 |int i=>obtain⟨t,rfl⟩:=r;rfl
 |str z=>obtain⟨t,rfl⟩:=r;rfl
 |_=>exact absurd (show false=true from f) GZ
theorem ox{x:V}:∀{xs:List V}{us:List Gr},aK xs us->xs.all g_=true->us.any (eqU x)=xs.any λy=>eqV y x
 |_,_,.nil,_=>rfl
 |y::xs,u::us,.cons r t,f=>by
  rw[LX,Hu]at f;rw[JW,JW,yP r f.1,ox t f.2]
theorem lC{A:Ha}{s:Gs}{x:V}{v:Gr}(rx:aU x v)(fx:g_ x=true):∀{xs:List V}{us:List Gr},aK xs us->xs.all g_=true->∀u∈us,SeqAt.EqAt A s u v (eqU x u)
 |_,_,.nil,_=>λu hu=>by cases hu
 |y::xs,u::us,.cons r t,f=>λu' hu=>by
  rw[LX,Hu]at f;rcases Gx.mp hu with rfl |hu
  ·rw[yP r f.1];exact Dc r rx f.1 fx
  ·exact lC rx fx t f.2 u' hu
def inV(x:V)(xs:List V):Bool:=xs.any λy=>eqV y x
def rIn(K:Gn)(neg:Bool):R2:=λx y H Q=>∃p xs,y=.ref p/\(SqL K H p xs\/SqT K H p xs)/\g_ x=true/\xs.all g_=true/\Q (.bl (if neg then !inV x xs else inV x xs)) H
theorem wL:OpR X (Hh .In) (rIn X.K false):=by
 intro pins s σ H x y v u Q I rx ry h;obtain⟨p,xs,rfl,hq,fx,fs,q⟩:=h;cases ry;rcases hq with hq |hq
 ·obtain⟨RB,r,pl,hz⟩:=I.list hq;refine SeqAt.in_listAt (eqU x) pl.isList (λw hw=>lC rx fx r fs w (by simpa using hw)) ⟨.bl _,H,I,rfl,?_⟩
  rw[show RB.toArray.any (eqU x)=RB.any (eqU x) by simp,ox r fs]
  exact q
 ·obtain⟨RB,r,pl,hz⟩:=I.tuple hq;refine SeqAt.in_tupleAt (eqU x) pl (λw hw=>lC rx fx r fs w (by simpa using hw)) ⟨.bl _,H,I,rfl,?_⟩
  rw[show RB.toArray.any (eqU x)=RB.any (eqU x) by simp,ox r fs]
  exact q
theorem iQ:cu X (.builtin "len") (λxs H Q=>∃p ys,xs=[.ref p]∧(SqL X.K H p ys∨SqT X.K H p ys)∧Q (.int ys.length) H):=by
 intro pins s σ H xs us Q I r h;obtain⟨p,ys,rfl,hq,q⟩:=h;obtain⟨u,rfl,rx⟩:=de r;cases rx;have hn:=kE;rcases hq with hq |hq
 ·obtain⟨RB,r',pl,hz⟩:=I.list hq;have RM:=r'.length;exact Calls.call_len_list pl.isList (by simp only[GN] <;>lia) ⟨.int ys.length,H,I.tok _,⟨s.toks+1,by rw[GN,RM]⟩,q⟩
 ·obtain⟨RB,r',pl,hz⟩:=I.tuple hq;have RM:=r'.length;exact len_tuple pl (by simp only[GN] <;>lia) ⟨.int ys.length,H,I.tok _,⟨s.toks+1,by rw[GN,RM]⟩,q⟩
theorem oP:cu X (.builtin "len") (λxs H Q=>∃z,xs=[.str z]∧z.length≤sizeLine∧Q (.int z.length) H):=by
 intro pins s σ H xs us Q I r h;obtain⟨z,rfl,hz,q⟩:=h;obtain⟨u,rfl,t,rfl⟩:=de r;have hn:=kE;exact len_str (by lia) ⟨.int z.length,H,I.tok _,⟨_,rfl⟩,q⟩
def tyV(K:Gn)(T:String)(x:V)(H:Hp):Prop:=match x with
 | .str _=>T="str"
 | .int _=>T="int"
 | .ref p=>(T="list"∧∃xs,SqL K H p xs)∨(T="tuple"∧∃o,K.lookup p=some o∧o.cls=.type "tuple"∧o.dict=none)∨
   (T="dict"∧((∃kvs,H p=some (.dK kvs))∨∃kvs,H p=some (.dT kvs)))∨(T="set"∧∃S n,H p=some (.set S n))
 |_=>False
theorem si{pins:List (GE×Obj)}{σ:St}{H:Hp}{s:Gs}{T:String}{x:V}{v:Gr}(I:Inv X pins σ H s)(r:aU x v)(ty:tyV X.K T x H):
  s.TypeIs v T/\∀a,v=.ref a->∃ob,s.heap.get? a=some ob/\ob.dict=none:=by
 cases x with
 |str z=>
  obtain⟨t,rfl⟩:=r;cases (show T="str" from ty)
  exact⟨QD s z t,λ_ e=>nomatch e⟩
 |int i=>
  obtain⟨t,rfl⟩:=r;cases (show T="int" from ty)
  exact⟨NK s i t,λ_ e=>nomatch e⟩
 |ref p=>
  cases r;rcases ty with ⟨rfl,xs,hq⟩ |⟨rfl,o,hk,hc,hd⟩ |⟨rfl,hk⟩ |⟨rfl,S,n,hk⟩
  ·obtain⟨RB,_,pl,_⟩:=I.list hq;refine⟨pl.isList.typeIs,λa e=>?_⟩
   cases e;obtain⟨o,n,e,c,hd,_⟩:=pl;exact⟨o,e,hd⟩
  ·refine⟨⟨o,I.kIn p o hk,hc⟩,λa e=>?_⟩
   cases e;exact⟨o,I.kIn _ o hk,hd⟩
  ·have z:∃o,s.heap.get? p=some o/\o.ExactDict:=by
    rcases hk with ⟨kvs,hk⟩ |⟨kvs,hk⟩
    ·obtain⟨_,_,_,_,o,_,_,e,ex,_⟩:=I.hok p _ hk;exact⟨o,e,ex⟩
    ·obtain⟨_,_,_,_,o,_,_,e,ex,_⟩:=I.hok p _ hk;exact⟨o,e,ex⟩
   obtain⟨o,e,ex⟩:=z;refine⟨⟨o,e,ex.1⟩,λa e2=>?_⟩
   cases e2;exact⟨o,e,ex.2.1⟩
  ·obtain⟨o,_,_,_,e,ex,_⟩:=I.hok p _ hk;refine⟨⟨o,e,ex.1⟩,λa e2=>?_⟩
   cases e2;exact⟨o,e,ex.2.1⟩
 |_=>exact False.elim ty
def F7(K:Gn)(T:String)(r:V->List V->Hp->VK->Prop)(to:TE):TE:=λσ H Q=>to σ H λx H1=>tyV K T x H1/\r x [] H1 Q
def tBM(K:Gn)(T:String)(r:V->List V->Hp->VK->Prop)(to:TE)(t:TA):TE:=λσ H Q=>to σ H λx H1=>tyV K T x H1/\t σ H1 λxs H2=>r x xs H2 Q
variable {o e:Expr}{es:List Expr}{to:TE}{t:TA}{name:Str}{RE RD:Pos}{T id:String}{r:V→List V→Hp→VK→Prop}
theorem xo(pa:QE T)(slot:Slot T name id)(Ua:QV (.builtin id)=pure (.type "method_descriptor"))(hm:MtR X id r)(ho:PE X o to)
  (RS:HR o name X.env (HY o X.env)=HY o X.env:=by rfl) (RT:(RE.endLine==RD.line)=true:=by rfl):PE X (.Call (.Attribute o name RE) [] [] RD) (F7 X.K T r to):=by
 intro pins s σ H Q I h;refine wpAny_Call_method0_late RS RT (thn (ho pins s σ H _ I h) λv s1 ⟨x,H1,I1,r1,ty,q1⟩=>?_)
 obtain⟨h1,h2⟩:=si I1 r1 ty;exact⟨T,id,pa,slot,Ua,h1,h2,J9 rfl (PySem.evalArgs_none (hm pins s1 σ H1 x [] v [] Q I1 r1 .nil q1))⟩
theorem p8(pa:QE T)(slot:Slot T name id)(Ua:QV (.builtin id)=pure (.type "method_descriptor"))(hm:MtR X id r)(ho:PE X o to)(ha:PA X (e::es) t)
  (RS:HR o name X.env (HY o X.env)=HY o X.env:=by rfl)
  (Sw:((Hx RD (Gv (e::es) X.env)).all (λx=>!x.1) && (JA RD (HZ [] X.env)).all (λx=>x.1.isSome)
   && decide ((e::es).length+([]:List JP).length+(if ([]:List JP).isEmpty then 0 else 1)<30))=true:=by rfl)
  (RT:(RE.endLine==RD.line)=true:=by rfl) (hs:Gv (e::es) X.env=(false,HY e X.env)::Gv es X.env:=by rfl) (RY:(Hx RD (Gv es X.env)).any (·.1)=false:=by rfl):
  PE X (.Call (.Attribute o name RE) (e::es) [] RD) (tBM X.K T r to t):=by
 intro pins s σ H Q I h;refine Le RS Sw RT rfl (thn (ho pins s σ H _ I h) λv s1 ⟨x,H1,I1,r1,ty,q1⟩=>?_)
 obtain⟨h1,h2⟩:=si I1 r1 ty;refine⟨T,id,pa,slot,Ua,h1,h2,?_⟩;have hA:=ha RD pins s1 σ H1 _ I1 q1;rw[hs]at hA |-;refine J9 (by show (false || (Hx RD (Gv es X.env)).any (·.1))=false;rw[RY] <;>rfl) (Kv ?_)
 exact thn hA λus s2 ⟨vs,H2,I2,r2,q2⟩=>hm pins s2 σ H2 x vs v us Q I2 r1 r2 q2
end
def MtM(X:Cx)(id:String)(r:V->List V->Hp->VK->Prop):Prop:=
 ∀(pins:List (GE×Obj)) (s:Gs) (σ:St) (H:Hp) (x:V) (xs:List V) (v:Gr) (us:List Gr) (Q:VK),Inv X pins σ H s->aU x v->aK xs us->r x xs H Q->
  GQ (G1 X.prog X.w) X.A (call (.builtin id) (v::us)) (EP X pins σ Q) X.xe s
theorem aK.one:∀{x:V}{us:List Gr},aK [x] us->∃u,us=[u]/\aU x u
 |_,_,.cons r .nil=>⟨_,rfl,r⟩
theorem aK.zero:∀{us:List Gr},aK [] us->us=[]
 |_,.nil=>rfl
theorem aK.dropLast{xs:List V}{us:List Gr}(h:aK xs us):aK xs.dropLast us.dropLast:=by
 induction h with
 |nil=>exact .nil
 |cons r t ih=>
  cases t with
  |nil=>exact .nil
  |cons q t'=>exact .cons r ih
theorem aK.rep{xs:List V}{us:List Gr}(h:aK xs us):∀k:Nat,aK (G6 k xs).flatten (G6 k us).flatten
 |0=>.nil
 |k+1=>by
  rw[Ia,Ia,Jp,Jp];exact aK.append h (aK.rep h k)
theorem sD{α:Type}(l:List α):l.eraseIdx (l.length-1)=l.dropLast:=by
 induction l with
 |nil=>rfl
 |cons a r ih=>
  cases r with
  |nil=>rfl
  |cons b r=>
   have e:(a::b::r).length-1=((b::r).length-1)+1:=by
    have h1:(a::b::r).length=r.length+2:=rfl;have h2:(b::r).length=r.length+1:=rfl;lia
   rw[e,List.eraseIdx_cons_succ,ih]
   all_goals rfl
theorem mz(RB:List Gr):∀(k:Nat) (acc:List Gr),
  QF (λx1 x2=>x1++x2) acc.toArray (G6 k RB.toArray)=(acc++(G6 k RB).flatten).toArray
 |0,acc=>by simp
 |k+1,acc=>by
  have e:acc.toArray++RB.toArray=(acc++RB).toArray:=by simp
  have e2:(acc++RB)++(G6 k RB).flatten=acc++(G6 (k+1) RB).flatten:=by
   rw[Ia,Jp,MH]
  rw[<-e2,<-mz RB k (acc++RB),<-e,Ia,Ib]
section
variable {pins:List (GE×Obj)}{σ:St}{H:Hp}{s:Gs}{l b:GE}{xs ys zs:List V}
theorem Inv.lset{RB its':List Gr}{n:Nat}{f:Array Gr->Array Gr}{t':Nat}(I:Inv X pins σ H s)(hH:H l=some (.lst xs))
  (e:s.heap.get? l=some {cls:=.type "list",data:=.seq RB.toArray n }) (hf:f RB.toArray=its'.toArray) (hv:aK ys its') (hz:ys.length≤sizeLine):
  Inv X pins σ (upd H l (.lst ys)) {s with heap:=s.heap.update l (HM f),toks:=t' }:=by
 have q:=PySem.IsL.update e f;rw[hf]at q;refine I.write (x:=l) (e:=l) (by rw[hH];exact trivial) (.inl rfl) (λb' u hb hu=>(Hd s.heap (HM f) (Ne.symm hb)).trans hu) ⟨_,q⟩ ?_
 exact⟨hz,its',_,hv,q⟩
theorem Inv.lnew{RB:List Gr}{t':Nat}(I:Inv X pins σ H s)(hv:aK ys RB)(hz:ys.length<=sizeLine):
  Inv X pins σ (upd H s.heap.objs.size (.lst ys)) {s with heap:=s.heap.push {cls:=.type "list",data:=.seq RB.toArray },toks:=t' }:=
 I.laid (λ_ _ q=>Gu _ q) (GA _) ⟨hz,RB,0,hv,GH _ rfl⟩
theorem Inv.fresh(I:Inv X pins σ H s):H s.heap.objs.size=none:=I.hok.fresh (GA _)
theorem Inv.lstM(I:Inv X pins σ H s)(hH:H l=some (.lst xs)):xs.length≤sizeLine∧∃(RB:List Gr) (n:Nat),aK xs RB∧xs.length=RB.length∧s.heap.get? l=some {cls:=.type "list",data:=.seq RB.toArray n }:=by
 obtain⟨z,RB,n,r,e⟩:=I.hok l _ hH;exact⟨z,RB,n,r,r.length,e⟩
theorem xX{n:Nat}(h:n<=sizeLine):Builtin.List.listTooLong n=false:=by
 unfold Builtin.List.listTooLong;exact decide_eq_false (by lia)
end
section
def Cf:V->List V->Hp->VK->Prop:=λx vs H Q=>∃l xs y,x=.ref l/\vs=[y]/\H l=some (.lst xs)/\xs.length<sizeLine/\Q .non (upd H l (.lst (xs++[y])))
theorem gH:MtM X "list.append" Cf:=by
 intro pins s σ H x vs v us Q I rx rv h;obtain⟨l,xs,y,rfl,rfl,hH,hz,q⟩:=h;cases rx;obtain⟨u,rfl,ru⟩:=rv.one;obtain⟨z,RB,n,r,hl,e⟩:=I.lstM hH;refine Lr F.slot_list_append ⟨_,e,rfl⟩ F.entry_list_append (F.args_list_append_2 _ _) (PySem.list_append l RB.toArray n u (by rw[GN];lia)) ⟨e,?_⟩
 refine⟨.non,_,I.lset (its':=RB++[u]) hH e (by simp) (r.append (.cons ru .nil)) ?_,rfl,q⟩
 rw[Hb,Ni];lia
def FX:V->List V->Hp->VK->Prop:=λx vs H Q=>∃l xs y,x=.ref l/\vs=[]/\H l=some (.lst xs)/\xs[xs.length-1]?=some y/\Q y (upd H l (.lst xs.dropLast))
theorem CZ:MtM X "list.pop" FX:=by
 intro pins s σ H x vs v us Q I rx rv h;obtain⟨l,xs,y,rfl,rfl,hH,hy,q⟩:=h;cases rx;have hus:=rv.zero;subst hus;obtain⟨z,RB,n,r,hl,e⟩:=I.lstM hH;obtain⟨u,hu,ru⟩:=r.get hy
 have U3:RB.toArray[RB.toArray.size-1]?=some u:=by
  show RB.toArray[RB.length-1]?=some u;rw[<-Hy,<-hl];exact hu
 refine Lr F.slot_list_pop ⟨_,e,rfl⟩ F.entry_list_pop (F.args_list_pop_1 _) (MeetsSeq.list_pop_last l RB.toArray n u U3 (by rw[GN];lia)) ⟨e,?_⟩
 refine⟨y,_,I.lset (its':=RB.dropLast) hH e ?_ r.dropLast ?_,ru,q⟩
 ·show RB.toArray.eraseIdxIfInBounds (RB.toArray.size-1)=RB.dropLast.toArray;rw[GN,List.eraseIdxIfInBounds_toArray,sD]
 ·rw[IU];lia
def FT:R2:=λx y H Q=>∃l b xs zs,x=.ref l/\y=.ref b/\H l=some (.lst xs)/\H b=some (.lst zs)/\xs.length+zs.length<=sizeLine/\∀p,H p=none->Q (.ref p) (upd H p (.lst (xs++zs)))
theorem DE:OpR X (KI .Add) FT:=by
 intro pins s σ H x y v u Q I rx ry h;obtain⟨l,b,xs,zs,rfl,rfl,hH,hB,hz,q⟩:=h;cases rx;cases ry;obtain⟨z,RB,n,r,hl,e⟩:=I.lstM hH;obtain⟨z2,RI,n2,r2,R7,e2⟩:=I.lstM hB;refine PySem.P.add_list e e2 ?_ (by rw[GN,GN];lia)
 have ea:RB.toArray++RI.toArray=(RB++RI).toArray:=by simp
 rw[ea];exact⟨.ref _,_,I.lnew (t':=s.toks) (r.append r2) (by rw[Hb];lia),rfl,q _ I.fresh⟩
def F3:R2:=λx y H Q=>∃l k xs,x=.ref l/\y=.int k/\H l=some (.lst xs)/\-(2 ^ 63)<=k/\k<2 ^ 63/\xs.length*k.toNat<=sizeLine/\
 ∀p,H p=none->Q (.ref p) (upd H p (.lst (G6 k.toNat xs).flatten))
theorem BW{α:Type}(xs:List α)(k:Nat):(G6 k xs).flatten.length=k*xs.length:=by
 induction k with
 |zero=>simp
 |succ k ih=>rw[Ia,Jp,Hb,ih,Nat.succ_mul,QW]
theorem Ee:OpR X (KI .Mult) F3:=by
 intro pins s σ H x y v u Q I rx ry h;obtain⟨l,k,xs,rfl,rfl,hH,h1,h2,hz,q⟩:=h;cases rx;obtain⟨t,rfl⟩:=ry;obtain⟨z,RB,n,r,hl,e⟩:=I.lstM hH;have RM:RB.toArray.size*k.toNat<=sizeLine:=by rw[GN,<-hl];exact hz
 have hcap:¬ RB.toArray.size*k.toNat >(2 ^ 63-1)/8:=by
  have:(sizeLine:Nat)<=(2 ^ 63-1)/8:=by decide
  lia
 have SI:¬ (!Builtin.List.listFitsIndex k)=true:=by
  rw[fitsIndex_both h1 h2];exact GZ
 have hlong:¬ Builtin.List.listTooLong (RB.toArray.size*k.toNat)=true:=by
  rw[xX RM];exact GZ
 have hnew:QF (λx1 x2=>x1++x2) #[] (G6 (if RB.toArray.isEmpty=true then 0 else k.toNat) RB.toArray)=(G6 k.toNat RB).flatten.toArray:=by
  have f0:∀m:Nat,QF (λx1 x2=>x1++x2) #[] (G6 m RB.toArray)=(G6 m RB).flatten.toArray:=λm=>by
   have:=mz RB m [];rw[List.nil_append]at this;exact this
  rw[f0];cases RB with
  |nil=>simp
  |cons a r'=>rw[if_neg (by simp)]
 refine wpAny_binaryOp_repeat_ref (T:="list") (U:="int") (by decide) ⟨_,e,rfl⟩ (λs'=>NK s' k t) noFill_list_mul F.fills_int_mul F.slot_int_rmul repeat_list F.slot_int_index.lookup
  (Lr F.slot_int_rmul (NK s k t) F.entry_int_rmul (F.args_int_rmul_2 _ _) (int___rmul___int_list k t l RB.toArray n)
   ⟨e,rfl,⟨_,e,rfl⟩,Lr F.slot_list_mul ⟨_,e,rfl⟩ F.entry_list_mul (F.args_list_mul_2 _ _) (AutoListH.list___mul___list_int_3 l RB.toArray n k t SI hcap hlong) ⟨e,?_⟩⟩)
 rw[hnew];exact⟨.ref _,_,I.lnew (t':=s.toks) (r.rep k.toNat) (by rw[BW,OX];exact hz),rfl,q _ I.fresh⟩
end
end L2
namespace Att
open PySem PySem.W PySem.Calls PyProof.Rows
theorem jT{P:Params}{h:H_}:∀(ns:List Int) (vs:List Gr),WellAll P h vs (ns.map WData.int)->Pl vs ns:=by
 intro ns
 induction ns with
 |nil=>
  intro vs w;rw[QX]at w;cases w;exact .nil
 |cons n ns ih=>
  intro vs w;rw[GW]at w;cases w with
  |cons a b=>
   cases a;exact .cons _ _ (ih _ b)
theorem script_of{l:OpenLaw}{n:Nat}(hn:l.most=some n){P:Params}{h:H_}{args:List WData}{vals:List Gr}
  (TV:l.row.toRowW.claim.pre args=true) (hwl:WellAll P h vals args):
  ∃a vs ns,vals=[GR a]∧args=[WData.list (ns.map WData.int)]∧h.get? a=some {cls:=.type "list",data:=.seq vs.toArray }∧Pl vs ns∧ns.length≤n:=by
 have hsh:WShape.hasAll [] args [.list .int]=true:=(pre_splitW TV).1;have hc:l.pre.holds [] {args:=args }=true:=(pre_splitW TV).2;obtain⟨d,r,rfl,h1,h2⟩:=hasAllW_cons hsh;obtain rfl:=hasAllW_nil h2;obtain⟨xs,rfl,h3⟩:=hasW_list h1;obtain⟨ns,rfl⟩:=items_int h3
 have RM:ns.length<=n:=by
  unfold OpenLaw.pre at hc
  have h4:(WTm.not (.lt (.lit (.int (n:Int))) (.len (.arg 0)))).holds [] {args:=[.list (ns.map .int)] }=true:=by
   have h4:=(holds_andW hc).1;rw[hn]at h4;exact h4
  have h5:=condW_of h4 (w_not (w_lt w_lit (w_len_list (w_arg rfl))));rw[Gp]at h5;refine LN λq=>?_
  have q':(n:Int)<((ns.length:Nat):Int):=by lia
  first
   | (rw[decide_eq_true q']at h5;exact absurd h5 (by decide))
   | (simp at h5;lia)
 cases hwl with
 |cons w1 w2=>
  cases w2;cases w1 with
  |list ho Sx=>exact⟨_,_,ns,rfl,rfl,ho,jT ns _ Sx,RM⟩
theorem post_true(l:OpenLaw)(args:List WData):l.row.toRowW.claim.post args (.bool true) args=true:=
 postW_of (r:=l.row.toRowW) (X:=(true==true))
  (show WShape.has [] (.bool true) .bool=true by first |rfl |decide |simp[WShape.has,WShape.arms,WShape.armsAll])
  (show (WTm.eq .res (.lit (.bool true))).value [] {args:=args,res:=some (.bool true),after:=args }=some (.bool (true==true)) from w_eq_bool (w_res rfl) w_lit) rfl
end Att
namespace L2
open PySem PySem.Spec PyProof.Rows
theorem mX:∀{vs:List Gr}{ns:List Int},Pl vs ns->aK (ns.map V.int) vs
 |_,_,.nil=>.nil
 |_,_,.cons n t h=>.cons ⟨t,rfl⟩ (mX h)
def A8(H:Hp):Prop:=∀b,H b=none\/∃o xs,H b=some (.frz o (.lst xs))
theorem zY{P:GF}{w:G5}{K:Gn}{mg mb:Str->Option Gr}{CX:CXT}{k:Nat}{fa a:GE}{fd:Hw}{x:Str}{sp:Sp}{RJ:Gs}{vs:List Gr}{ns:List Int}
  (KX:K.In RJ.heap) (Uv:RJ.heap.Ns HB mg) (hb:RJ.heap.Ns Qq mb) (hbb:∀x:Str,x≠"__name__"→mb x=IF x) (hlim:RJ.heap.NoLimit) (hg:RJ.gens=#[])
  (ha:RJ.heap.get? a=some {cls:=.type "list",data:=.seq vs.toArray }) (hi:Pl vs ns) (hl:ns.length≤sizeLine) (hr:bB k OE)
  (F:∀base:H_,K.In base->base.Ns HB mg->aL P w K mg base CX k fa fd [x] sp) (hbind:∀(s:Gs) (u:Gr),Pj s fd ⟨[u],[]⟩ [(x,u)])
  (SH:∀H:Hp,A8 H->SqL K H a (ns.map V.int)->sp [.ref a] H (λv _=>v=.bl true) λ_ _ _=>False)
  (hCX:∀H e s',CX [] H RJ (λ_ _ _=>False) e s'->False):
  J7 (G1 P w) OE (.call (.ref fa) ⟨[.ref a],[]⟩) (λr s'=>r=.ok (.ret (.bool true))/\OldK RJ.heap s'.heap/\s'.os=RJ.os/\Ms s'.gens) RJ:=by
 have rv:=mX hi;have lenV:=hi.length
 have core:∀H:Hp,A8 H->SqL K H a (ns.map V.int)->HOk P w H RJ.heap->(∀b,H b≠none->b=a)->(H a≠none->K.lookup a=none)->
   J7 (G1 P w) OE (.call (.ref fa) ⟨[.ref a],[]⟩) (λr s'=>r=.ok (.ret (.bool true))/\OldK RJ.heap s'.heap/\s'.os=RJ.os/\Ms s'.gens) RJ:=by
  intro H hO hS hok hA hK;have base_of:∀{b:GE}{o:Obj},RJ.heap.get? b=some o->H b=none->(nP RJ.heap H).get? b=some o:=λe n=>yk e n
  have noA:∀{b:GE}{o:Obj}{es:Array DictEntry}{ep:Nat},RJ.heap.get? b=some o->o.data=.dict es ep->H b=none:=λ{b o es ep} e d=>by
   cases q:H b with
   |none=>rfl
   |some u=>
    have e':b=a:=hA b (by rw[q];simp)
    subst e';rw[ha]at e;cases e;have d':Data.seq vs.toArray _=Data.dict es ep:=d;cases d'
  have nsK:∀{b:GE}{m:Str->Option Gr},RJ.heap.Ns b m->(nP RJ.heap H).Ns b m:=λ{b m} ⟨o,es,ep,e,d,r⟩=>⟨o,es,ep,base_of e (noA e d),d,r⟩
  have hKb:K.In (nP RJ.heap H):=λb o e=>base_of (KX b o e) (by
   cases q:H b with
   |none=>rfl
   |some u=>
    have e':b=a:=hA b (by rw[q];simp)
    subst e';rw[hK (by rw[q];simp)]at e;cases e)
  have hM:Mod K mg (nP RJ.heap H):=⟨hKb,nsK Uv,⟨mb,nsK hb,hbb⟩,let ⟨mc,h1,h2⟩:=hlim;⟨mc,nsK h1,h2⟩⟩;have e0:qa P w K mg (nP RJ.heap H) OE [] RJ H:=⟨rfl,hM,λb o e=>AR e,Ng (wT _ _),trivial,λb hb=>absurd (show b∈([]:List GE) from hb) (by simp),hok,.of_eq hg⟩
  refine JV ((F _ hKb (nsK Uv)).run OE [] RJ H ⟨[.ref a],[]⟩ [.ref a] [.ref a] _ _ hr e0 (hbind RJ (.ref a)) (.cons rfl .nil) (SH H hO hS)) λr s' h=>?_
  cases r with
  |error e=>exact (hCX H e s' h).elim
  |ok fl=>
   cases fl with
   |next=>exact False.elim h
   |brk=>exact False.elim h
   |cont=>exact False.elim h
   |ret u=>
    obtain⟨v,H',os,bare,un,hok',r',q⟩:=h;have q':v=.bl true:=q;subst q';obtain rfl:u=Hi true:=r';refine⟨rfl,OldK.of_keep λb o e=>?_,os,bare⟩
    cases q:H b with
    |none=>exact un.keep b o e q (by intro z;exact absurd (show b∈([]:List GE) from z) (by simp)) (by simp)
    |some u=>
     rcases hO b with z |⟨ob,xs,z⟩
     ·rw[q]at z;cases z
     ·have z2:=un.frzs b ob _ z;obtain⟨e1,_⟩:=hok b _ z;obtain⟨e2,_⟩:=hok' b _ z2;rw[e]at e1;cases e1;exact e2
 cases hk:K.lookup a with
 |some o=>
  have e:=KX a o hk;rw[ha]at e;cases e;refine core (λ_=>none) (λ_=>.inl rfl) (.inr ⟨_,vs.toArray,_,hk,rfl,rfl,rfl,by rw[GN,lenV];exact hl,by simpa using rv⟩) (λb u z=>by have z':(none:Option HO)=some u:=z;cases z') (λb z=>absurd rfl z) λz=>absurd rfl z
 |none=>
  refine core (λb=>if b=a then some (.frz {cls:=.type "list",data:=.seq vs.toArray } (.lst (ns.map V.int))) else none) (λb=>?_) (.inl (.inr ⟨{cls:=.type "list",data:=.seq vs.toArray },if_pos rfl⟩)) (λb u z=>?_) (λb z=>?_) λ_=>hk
  ·by_cases hb:b=a
   ·exact .inr ⟨_,_,if_pos hb⟩
   ·exact .inl (if_neg hb)
  ·by_cases hb:b=a
   ·have z':=(if_pos hb).symm.trans z;cases z';subst hb;exact⟨ha,by rw[Gp];exact hl,vs,_,rv,ha⟩
   ·have z':=(if_neg hb).symm.trans z;cases z'
  ·by_cases hb:b=a
   ·exact hb
   ·exact absurd (if_neg hb) z
abbrev KOf{K:Gn}{h:H_}(_:K.In h):Gn:=K
end L2
namespace L2
open PySem PySem.Spec PyProof.Rows
def bR(s:Iy):QU:=match s with
 | .FunctionDef _ a _ _ _ _ _ _ _ _=>a
 |_=>{posonlyargs:=[],args:=[],vararg:=none,kwonlyargs:=[],kw_defaults:=[],kwarg:=none,defaults:=[] }
def bi(s:Iy):List Iy:=match s with
 | .FunctionDef _ _ b _ _ _ _ _ _ _=>b
 |_=>[]
def ag(s:Iy):Ke:=match s with
 | .FunctionDef _ _ _ _ _ _ sc _ _ _=>sc
 |_=>{kind:=.function,names:=[],isGenerator:=false,isCoroutine:=false }
abbrev CX0:CXT:=λ_ _ _ _ _ _=>False
abbrev E0:XK:=λ_ _ _=>False
structure Fun(K:Gn)(x RC:Str)(st:Iy)(f:GE)(fd:Hw):Prop where
 ex:∃(oc:Gr) (od:Option GE) (kV SN pm:Gr) (an:Option GE) (RF ct:Gr) (Tr:Array (Option Gr)),
  fd=IV x RC (bR st) (bi st) (ag st) .none kV SN pm an RF ct/\K.lookup f=some ⟨oc,od,.func fd,Tr⟩/\KC K RF RC=true
 kp:HA K (.ref f)=true
section
variable {P:GF}{w:G5}{K:Gn}{mg:Str→Option Gr}{base:H_}
theorem Fun.binds{x RC:Str}{st:Iy}{f:GE}{fd:Hw}{ps:List Str}(F:Fun K x RC st f fd)
  (h:∀(kV SN pm:Gr) (an:Option GE) (RF ct:Gr) (us:List Gr),us.length=ps.length->Ml (IV x RC (bR st) (bi st) (ag st) .none kV SN pm an RF ct) ⟨us,[]⟩=pure (ps.zip us)):bq K fd ps []:=by
 obtain⟨oc,od,kV,SN,pm,an,RF,ct,Tr,rfl,lk,R8⟩:=F.ex;exact .all (h kV SN pm an RF ct)
theorem jm{x RC:Str}{st:Iy}{f:GE}{oc:Gr}{od an:Option GE}{Tr:Array (Option Gr)}{kV SN pm RF ct:Gr}(l:K.lookup f=some ⟨oc,od,.func (IV x RC (bR st) (bi st) (ag st) .none kV SN pm an RF ct),Tr⟩)
  (c:KC K RF RC=true) (k:HA K (.ref f)=true):Fun K x RC st f (IV x RC (bR st) (bi st) (ag st) .none kV SN pm an RF ct):=⟨⟨oc,od,kV,SN,pm,an,RF,ct,Tr,rfl,l,c⟩,k⟩
end
theorem ax{n:Nat}(h:n<=1000):n<sizeLine:=K5 h (by decide)
theorem jV{A B:Prop}(h:B):if false=true then A else B:=by
 rw[if_neg GZ];exact h
theorem mm{A B:Prop}(h:A):if true=true then A else B:=by
 rw[if_pos rfl];exact h
def aH(H H':Hp):Prop:=∀b o,H b=some o->H' b=some o
theorem aH.refl(H:Hp):aH H H:=λ_ _ h=>h
theorem aH.trans{H H1 H2:Hp}(a:aH H H1)(b:aH H1 H2):aH H H2:=λc o h=>b c o (a c o h)
theorem aH.free{H H':Hp}(e:aH H H'){l:GE}(h:H' l=Rj):H l=Rj:=by
 cases q:H l with
 |none=>rfl
 |some o=>
  rw[e l o q]at h;cases h
theorem aH.seq{K:Gn}{H H':Hp}{a:GE}{xs:List V}(e:aH H H')(h:SqL K H a xs):SqL K H' a xs:=by
 rcases h with (h |⟨o,h⟩) |h
 ·exact .inl (.inl (e _ _ h))
 ·exact .inl (.inr ⟨o,e _ _ h⟩)
 ·exact .inr h
def Sz(m:Nat)(x:Int):Prop:=x.natAbs<2 ^ m
theorem Sz.mono{m n:Nat}{x:Int}(h:Sz m x)(Vm:m<=n):Sz n x:=GV h (Kw (by decide) Vm)
theorem Sz.neg{m:Nat}{x:Int}(h:Sz m x):Sz m (-x):=by unfold Sz at *;rw[Int.natAbs_neg];exact h
theorem Sz.add{m:Nat}{x y:Int}(hx:Sz m x)(hy:Sz m y):Sz (m+1) (x+y):=by
 unfold Sz at *;have:=Int.natAbs_add_le x y;rw[IW];lia
theorem Sz.sub{m:Nat}{x y:Int}(hx:Sz m x)(hy:Sz m y):Sz (m+1) (x-y):=by
 rw[Int.sub_eq_add_neg];exact hx.add hy.neg
theorem Sz.mul{m n:Nat}{x y:Int}(hx:Sz m x)(hy:Sz n y):Sz (m+n) (x*y):=by
 unfold Sz at *;rw[Mv,Nat.pow_add];exact Nat.mul_lt_mul'' hx hy
theorem Sz.le{m:Nat}{x y:Int}(h:x.natAbs<=y.natAbs)(hy:Sz m y):Sz m x:=K5 h hy
theorem Sz.ediv{m:Nat}{x y:Int}(hx:Sz m x):Sz m (x/y):=Sz.le (Int.natAbs_ediv_le_natAbs x y) hx
theorem Sz.abs{m:Nat}{x:Int}(hx:Sz m x):Sz m (if x<0 then -x else x):=by split;exact hx.neg;exact hx
instance (m:Nat) (x:Int):Decidable (Sz m x):=inferInstanceAs (Decidable (x.natAbs<2 ^ m))
theorem Sz.add'{m n:Nat}{x y:Int}(hx:Sz m x)(hy:Sz n y):Sz (max m n+1) (x+y):=(hx.mono (Pm m n)).add (hy.mono (O6 m n))
theorem Sz.sub'{m n:Nat}{x y:Int}(hx:Sz m x)(hy:Sz n y):Sz (max m n+1) (x-y):=(hx.mono (Pm m n)).sub (hy.mono (O6 m n))
theorem Sz.lit{m:Nat}{x:Int}(h:Sz m x):Sz m x:=h
theorem Sz.ok{m n:Nat}{x y:Int}(hx:Sz m x)(hy:Sz n y)(h:m+n<=134217728):IntMulOk x y:=
 PyProof.Rows.mulOk_of_bits (intBits_le_iff.mpr hx) (intBits_le_iff.mpr hy) h
theorem Sz.log{m:Nat}{x:Int}(h:Sz m x)(hm:m<=9000)(h0:x≠0):x.natAbs.log2<9000:=by
 have q:=(Pn (by lia)).mpr (show x.natAbs<2 ^ m from h)
 lia
def CO(_ j:Int):Prop:=0<j/\Sz 9000 j
def CQ(_ j:Int):Prop:=j≠0/\Sz 9000 j
section
variable {X:Cx}{a b c:Expr}{ta tb tc:TE}{pos:Pos}
theorem A7:OpR X (KI .Mult) (rI IntMulOk λi j=>.int (i*j)):=opI λ_ _ _ _ _ _ _ hc q=>mul_int q hc
theorem y8:OpR X (KI .FloorDiv) (rI CO λi j=>.int (i/j)):=opI λi j _ _ _ _ _ hc q=>by
 have h1:(0:Int)<j:=hc.1;exact floordiv_int (by lia) (by rw[Int.fdiv_eq_ediv_of_nonneg i (by lia)];exact q) (.inl (PyProof.noPylong_of_log2 (hc.2.log (by decide) (by lia))))
theorem Ae:OpR X (KI .FloorDiv) (rI CQ λi j=>.int (i.fdiv j)):=opI λi j _ _ _ _ _ hc q=>
 floordiv_int hc.1 q (.inl (PyProof.noPylong_of_log2 (hc.2.log (by decide) hc.1)))
theorem EK{x:Str}{n:String}{pos:Pos}(hg:Gl X x)(hm:X.mg x=none)(hv:IF x=some (.type n))(hn:x≠"__name__":=by decide)(hd:(x==("__debug__":Str))=false:=by decide):PE X (.Name x pos) (tC (.ty n)):=
 A6 hg hm hv rfl hn hd
theorem rL:cu X (.type "int") (λxs H Q=>∃k,xs=[.bl k]∧Q (.int (if k then 1 else 0)) H):=by
 intro pins s σ H xs us Q I r h;obtain⟨k,rfl,q⟩:=h;exact wx pins s σ H _ us Q I r (.inr ⟨k,rfl,q⟩)
end
theorem aT{H:Hp}{p:GE}(h:H p=none)(o:HO):aH H (upd H p o):=λb u q=>by rw[aE (bE q h)];exact q
theorem aH.put{H H':Hp}{l:GE}(e:aH H H')(h:H l=none)(o:HO):aH H (upd H' l o):=λb u q=>by rw[aE (bE q h)];exact e b u q
theorem aH.tup{K:Gn}{H H':Hp}{a:GE}{xs:List V}(e:aH H H')(h:SqT K H a xs):SqT K H' a xs:=by
 rcases h with (h |⟨o,h⟩) |h
 ·exact .inl (.inl (e _ _ h))
 ·exact .inl (.inr ⟨o,e _ _ h⟩)
 ·exact .inr h
end L2
namespace L2
open PySem PySem.W PySem.Calls PySem.Spec PyProof.Rows
theorem qK{ns:List Int}(h:WData.layableAll [WData.list (ns.map WData.int)]=true):∀n∈ns,Sz 1048576 n:=by
 intro n hn;have h1:=(PySem.W.layableW_arg h) _ (G9.mpr rfl);have h2:=PySem.W.layableW_item h1 (WData.int n) (GC.mpr ⟨n,hn,rfl⟩);have h3:=(PySem.W.layableW_iff.mp h2).2.2;have h4:Builtin.Int.intBits n<=1048576:=by simpa only[WData.weight,Builtin.Int.intBits] using h3
 exact intBits_le_iff.mp h4
theorem nG{l:Po}{n:Nat}{q:GF}{Ub:List Str}{XP:(Str->Option Gr)->H_->Prop}{YP:G5->H_->Prop}{d:DefRec}
  (hn:l.most=some n) (hdf:d.params.defaults=[])
  (call:∀(w:G5) (s₀ RJ:Gs) (mg mb:Str->Option Gr) (fa:GE) (o:Obj) (pm cd SN:Gr) (a:GE) (vs:List Gr) (ns:List Int),
   PySem.W.Ground q Ub [] XP w s₀ mg mb RJ.heap->YP w RJ.heap->
   RJ.heap.get? fa=some o->o.data=.func (docDef d.name d.params d.body d.scope pm cd SN)->RJ.heap.CodeRec cd d.name->mg d.name=some (.ref fa)->
   RJ.heap.get? a=some {cls:=.type "list",data:=.seq vs.toArray }→Pl vs ns→ns.length≤n→(∀m∈ns,Sz 1048576 m)→RJ.gens=#[]→
   J7 (G1 l.prog w) OE (.call (.ref fa) ⟨[.ref a],[]⟩) (λr s'=>r=.ok (.ret (.bool true))/\OldK RJ.heap s'.heap/\s'.os=RJ.os/\Ms s'.gens) RJ):
  QL q Ub XP YP l.row.toRowW d [] (λf vs=>Ry f vs):=by
 intro w s₀ RJ mg mb G Y fa o pm cd SN dV kV ho hd R8 hD hmg hg args vals as TV hlay hrd hwl hlo;obtain rfl:dV=.none:=Rr hD hdf;obtain rfl:kV=.none:=Rt hD;obtain⟨a,vs,ns,rfl,rfl,hobj,UG,RM⟩:=Att.script_of hn TV hwl;refine PySem.W.enter_call (JV (call w s₀ RJ mg mb fa o pm cd SN a vs ns G Y ho (PySem.W.fd_plain hd) R8 hmg hobj UG RM (qK hlay) hg) λr s' hq=>?_)
 obtain⟨rfl,h2,h3,h4⟩:=hq;exact⟨.inl ⟨.bool true,.bool true,[],rfl,λ_=>rfl,.bool true,Att.post_true l _,λ_=>⟨Ls,λ_ hm=>(nomatch hm)⟩⟩,h2,h3,h4⟩
theorem walk_ofB{l:Po}{n k:Nat}{q:GF}{Ub:List Str}{XP:(Str->Option Gr)->H_->Prop}{YP:G5->H_->Prop}{d:DefRec}{K:Params->Gn}{CX:CXT}{sp:Gn->Sp}{x:Str}
  (hn:l.most=some n) (hn2:n<=sizeLine) (hdf:d.params.defaults=[]) (hr:bB k OE)
  (hY:∀(w:G5) (h:H_),YP w h->(K w.params).In h)
  (F:∀(w:G5) (mg:Str->Option Gr) (fa:GE) (h:H_),(K w.params).In h->h.Ns HB mg->mg d.name=some (.ref fa)->
   ∃fd:Hw,(∀(s:Gs) (u:Gr),Pj s fd ⟨[u],[]⟩ [(x,u)])/\
    ∀base:H_,(K w.params).In base->base.Ns HB mg->aL l.prog w (K w.params) mg base CX k fa fd [x] (sp (K w.params)))
  (SH:∀(K:Gn) (H:Hp) (a:GE) (ns:List Int),ns.length<=n->(∀m∈ns,Sz 1048576 m)->A8 H->SqL K H a (ns.map V.int)->sp K [.ref a] H (λv _=>v=.bl true) λ_ _ _=>False)
  (hCX:∀(H:Hp) (s:Gs) (e:Gr) (s':Gs),CX [] H s (λ_ _ _=>False) e s'->False):
  QL q Ub XP YP l.row.toRowW d [] (λf vs=>Ry f vs):=by
 refine nG hn hdf λw s₀ RJ mg mb fa o pm cd SN a vs ns G Y ho hd R8 hmg hobj UG RM hbits hg=>?_
 have KX:=hY w _ Y;obtain⟨fd,hb,hF⟩:=F w mg fa _ KX G.T.g hmg;exact zY KX G.T.g G.T.b G.T.builtins G.T.nolimit hg hobj UG (HD RM hn2) hr hF hb (λH hO hS=>SH _ H a ns RM hbits hO hS) λH e s'=>hCX H RJ e s'
end L2
namespace L2
theorem bI{α:Type}{xs:List α}{k:Int}{i:Nat}{v:α}(e:k=(i:Int))(h:xs[i]?=some v):atI xs k=some v:=by subst e;exact sZ h
theorem Sz.natle{m:Nat}{x y:Int}(hy:Sz m y)(h:x.natAbs<=y.natAbs):Sz m x:=Sz.le h hy
end L2
namespace L2
open PySem PySem.Spec PyProof.Rows
abbrev ap(X:Cx)(scope:Ke)(cl:List (Str×GE))(C:GE)(s:Gs)(H:Hp)(fp:List GE):Cx:=
 {X with s₀:=s,H₀:=H,env:=LA scope cl C X.env,outer:=X.stack,ex:=fp,fn:=λ_=>false,pn:=[],xe:=λ_ _=>False }
def mask:List Nat->St->St
 |[],σ=>σ
 |i::is,σ=>mask is (σ.set i none)
theorem dM:∀(is:List Nat) (σ:St),(mask is σ).length=σ.length
 |[],_=>rfl
 |i::is,σ=>by rw[mask,dM is];simp
theorem eS:∀(is:List Nat) (σ:St) (j:Nat) (v:V),(mask is σ)[j]?=some (some v)->σ[j]?=some (some v)/\j ∉ is
 |[],σ,j,v,h=>⟨h,by simp⟩
 |i::is,σ,j,v,h=>by
  obtain⟨h1,h2⟩:=eS is _ j v h;by_cases e:i=j
  ·subst e;rw[MJ]at h1;simp at h1
  ·rw[GX e]at h1;exact⟨h1,by simp[Ne.symm e,h2]⟩
structure bQ(X:Cx)(scope:Ke)(cl:List (Str×GE))(is:List Nat):Prop where
 clos:QG scope X.env=pure cl
 cell:∀y∈scope.names,y.2≠.cell
 kind:scope.kind=.function
 names:∀y∈scope.names,y.2=.local->scope.names.lookup y.1=some .local
 cls:∀x c,cl.lookup x=some c->X.env.cells.lookup x=some c
 free:∀x,((Pp scope X.env).names.lookup x=some .cell\/(Pp scope X.env).names.lookup x=some .free)->Vis X.env.scope x/\X.env.scope.names.lookup x≠some .local/\∃c,cl.lookup x=some c
 own:∀i x,X.N[i]?=some x->(Pp scope X.env).names.lookup x=some .local->i∈is
def yn(J:It)(is:List Nat)(g:TG)(te:TE)(σ:St)(H1:Hp)(l:GE)(Q:VK):Prop:=
 ∃W:Nat->Nat->Hp->Prop,(∃m,W 0 m (upd H1 l (.lst [])))/\∀i m H2,W i m H2->
  (J.stop i H2/\Q (.ref l) H2)\/(J.go i H2/\∀x H3,J.yld i H2 x H3->g x (mask is σ) H3 λUc H4=>te Uc H4 λy H5=>
   (∀(j:Nat) (v:V),(mask is σ)[j]?=some (some v)->Uc[j]?=some (some v))/\∃vs,H5 l=some (.lst vs)/\vs.length<sizeLine/\∃m',m'<m/\W (i+1) m' (upd H5 l (.lst (vs++[y]))))
def uJ(is:List Nat)(g:TG)(te:TE)(σ:St)(Q:VK)(J:It)(H1:Hp):Prop:=∀l,H1 l=none->yn J is g te σ H1 l Q
def pi(is:List Nat)(wi:TI)(g:TG)(te:TE):TE:=λσ H Q=>wi σ H (uJ is g te σ Q)
section
variable {X:Cx}{pins:List (GE×Obj)}{σ:St}{H:Hp}{s:Gs}
theorem f8{scope:Ke}{cl:List (Str×GE)}{is:List Nat}{fp:List GE}{h₁:H_}{m:Str->Option Gr}{t':Nat}(I:Inv X pins σ H s)(B:bQ X scope cl is)(hf:∀b∈fp,ig X pins H b)(U4:∀b∈fp,b<s.heap.objs.size)
  (hn:h₁.Ns s.heap.objs.size m) (hk:∀b o,s.heap.get? b=some o->h₁.get? b=some o):
  Inv (ap X scope cl s.heap.objs.size s H fp) [] (mask is σ) H {s with heap:=h₁,toks:=t' }:=by
 refine⟨⟨I.ok.mod,B.kind,I.ok.glob,I.ok.blt,GA _,λx y c h1 h2=>I.ok.inj x y c (B.cls x c h1) (B.cls y c h2),λx hx=>(B.free x hx).2.2,λx c h=>(by cases h),I.ok.hd,I.ok.frames,.inl rfl,λb hb=>⟨GS (U4 b hb),λx c e=>(hf b hb).2.2.2.2.1 x c (B.cls x c e)⟩,
  I.bs,HD I.ok.bsz I.sz,λb o e hb=>?_,λb hb z=>?_,I.stack,I.stkFree⟩,rfl,I.bare,Un.kept hk,⟨m,hn,λi x v h1 h2 h3=>?_⟩,λx c e=>?_,I.hok.fresh (GA _),λx c e=>I.freeC x c (B.cls x c e),λp hp=>absurd (show p∈([]:List (GE×Obj)) from hp) (by simp),I.hok.kept hk,?_⟩
 ·rcases (hf b hb).2.2.2.1 with z |z
  ·exact I.ok.noex b o e z
  ·exact absurd (GV (GD e) (HD I.ok.bsz z)) (Hc _)
 ·rcases Gx.mp (I.stkSub b z) with e |e
  ·exact (hf b hb).2.1 e
  ·exact (hf b hb).2.2.1 e
 ·obtain⟨e2,ni⟩:=eS is σ i v h2;have h3':(Pp scope X.env).names.lookup x=some .local\/(Pp scope X.env).names.lookup x=some .cell\/(Pp scope X.env).names.lookup x=some .free:=h3;rcases h3' with z |z
  ·exact absurd (B.own i x h1 z) ni
  ·obtain⟨hv,hnl,c,hc⟩:=B.free x z;obtain⟨m0,_,hl⟩:=I.loc;obtain⟨u,r,l⟩:=hl i x v h1 e2 hv;refine⟨u,r,.inr ⟨z,c,hc,?_⟩⟩;rcases l with ⟨k,_⟩ |⟨_,c',TN,o,ho,hd⟩
   ·exact absurd k hnl
   ·have ec:=B.cls x c hc;rw[TN]at ec;cases ec;exact⟨o,hk _ _ ho,hd⟩
 ·obtain⟨v,o,ho,hd⟩:=I.cell x c (B.cls x c e);exact⟨v,o,hk _ _ ho,hd⟩
 ·show (mask is σ).length=X.N.length;rw[dM];exact I.len
theorem kT{R6 iter tg:Expr}{scope:Ke}{cl:List (Str×GE)}{pos UH:Pos}{is:List Nat}{g:TG}{te:TE}{use:Option (Gr->Sem Unit)}{Q0:VK}{Q:Gr->Gs->Prop}(hc:X.calm=true)(B:bQ X scope cl is)
  (hg:∀C s H fp,PG (ap X scope cl C s H fp) tg g) (he:∀C s H fp,PE (ap X scope cl C s H fp) R6 te) (hs:∀x,Hg iter X.env x=pure x)
  (I:Inv X pins σ H s) (hi:GQ (G1 X.prog X.w) X.A (HY iter X.env) (λv s1=>GQ (G1 X.prog X.w) X.A (OU v) (PIE X pins σ tg (uJ is g te σ Q0)) X.xe s1) X.xe s)
  (RR:∀(l C:GE) (H':Hp) (s':Gs) (m:Str->Option Gr),Inv X pins σ H' s'->s'.heap.Ns C m->H' C=none->C≠X.env.locals->C ∉ X.fs->X.s₀.heap.objs.size<=C->(∀x c,X.env.cells.lookup x=some c->c≠C)->(∀p∈X.pn++pins,p.1≠C)->Q0 (.ref l) H'->
   NL (G1 X.prog X.w) X.A X.xe use Q (.ref l) C (.ok .next) s'):
  GQ (G1 X.prog X.w) X.A (K6 (.ListComp R6 [⟨tg,iter,[],0⟩] scope pos) scope X.env UH (Pq []) false (HY iter X.env) use) Q X.xe s:=by
 refine KO rfl hs B.clos B.kind B.names (thn hi λxv s1 h1=>thn h1 λitv s2 h2=>?_)
 obtain⟨it,fp,tn,J,H2,e,I2,T,U1,f2,R⟩:=h2;subst e;refine JQ (LU B.cell (by intro y hy;simp at hy) (λh₁ Uv S6=>?_) B.kind)
 have hl:H2 s2.heap.objs.size=none:=I2.hok.fresh (GA _);obtain⟨W,⟨m0,w0⟩,turn⟩:=R s2.heap.objs.size hl
 have I3:Inv X pins σ (upd H2 s2.heap.objs.size (.lst [])) {s2 with heap:=s2.heap.push {cls:=.type "list",dict:=none,data:=.seq ([]:List Gr).toArray } }:=
  I2.laid (t':=s2.toks) (o:=.lst []) (λb u e=>Gu _ e) (GA _) ⟨Hf _,[],0,.nil,GH _ rfl⟩
 have U4:∀b∈fp,b<s2.heap.objs.size:=λb hb=>let ⟨o,e,_⟩:=T.obj 0 _ U1 b hb;GD e
 have f3:∀b∈fp,ig X pins (upd H2 s2.heap.objs.size (.lst [])) b:=λb hb=>⟨by rw[aE (GS (U4 b hb))];exact (f2 b hb).1,(f2 b hb).2⟩
 have kp:∀b o,(s2.heap.push {cls:=.type "list",dict:=none,data:=.seq ([]:List Gr).toArray }).get? b=some o→h₁.get? b=some o:=λb o e=>
  S6.extBut b o (GS (GD e)) (Gu _ e)
 have Vn:tn 0 h₁:=T.keep 0 _ _ U1 λb _ o e=>kp b o (Gu _ e)
 have UI:∀b∈fp,b<(s2.heap.push {cls:=.type "list",dict:=none,data:=.seq ([]:List Gr).toArray }).objs.size:=λb hb=>by
  rw[Iq];exact IK (U4 b hb)
 have I4:=f8 (t':=s2.toks+([]:List (Str×Gr)).length) I3 B f3 UI Uv kp
 have loop:J7 (G1 X.prog X.w) X.A (.compLoop (.ListComp R6 [⟨tg,iter,[],0⟩] scope pos) 0 (.ref it) (.ref s2.heap.objs.size) (LA scope cl (s2.heap.push {cls:=.type "list",dict:=none,data:=.seq ([]:List Gr).toArray }).objs.size X.env))
   (NL (G1 X.prog X.w) X.A X.xe use Q (.ref s2.heap.objs.size) (s2.heap.push {cls:=.type "list",dict:=none,data:=.seq ([]:List Gr).toArray }).objs.size)
   {s2 with heap:=h₁,toks:=s2.toks+([]:List (Str×Gr)).length }:=by
  generalize hs3:({s2 with heap:=s2.heap.push {cls:=.type "list",dict:=none,data:=.seq ([]:List Gr).toArray } }:Gs)=s3 at *
  have hC:(s2.heap.push {cls:=.type "list",dict:=none,data:=.seq ([]:List Gr).toArray }).objs.size=s3.heap.objs.size:=by rw[←hs3]
  rw[hC]
  have Sy:∀{H':Hp},(∀b∈fp,H' b=none)->∀b∈fp,ig (ap X scope cl s3.heap.objs.size s3 (upd H2 s2.heap.objs.size (.lst [])) fp) [] H' b:=λhn b hb=>
   ⟨hn b hb,(I4.ok.exf b hb).1,I4.ok.exfs b hb,.inl hb,λx c e=>(I4.ok.exf b hb).2 x c e,λp hp=>absurd (show p∈([]:List (GE×Obj)) from hp) (by simp)⟩
  have back:∀{RK:St}{H':Hp}{pp:List (GE×Obj)}{s':Gs},Inv (ap X scope cl s3.heap.objs.size s3 (upd H2 s2.heap.objs.size (.lst [])) fp) pp RK H' s'->Inv X pins σ H' s':=λI'=>
   I3.call' (ch:=fp) I'.os I'.base I'.hok I'.bare λb hb=>⟨(f3 b hb).2.2.2.1,(f3 b hb).2.1,(f3 b hb).2.2.2.2.1,(f3 b hb).2.2.2.2.2⟩
  refine OY rfl (λn s'=>∃i H',Inv (ap X scope cl s3.heap.objs.size s3 (upd H2 s2.heap.objs.size (.lst [])) fp) [] (mask is σ) H' s'/\tn i s'.heap/\(∀b∈fp,H' b=none)/\W i n H') ?_ m0 ⟨0,_,(by subst hs3;exact I4),Vn,λb hb=>(f3 b hb).1,w0⟩
  rintro n s5 ⟨i,H5,I5,Uu,U2,w5⟩;show GQ _ _ ((compTurn (.ListComp R6 [⟨tg,iter,[],0⟩] scope pos) 0 (.ref it) (.ref s2.heap.objs.size) (LA scope cl s3.heap.objs.size X.env)).onRaise (λx=>do Nj x (LA scope cl s3.heap.objs.size X.env);Nk x)) _ _ s5
  refine Pr ?_;rw[Qb];refine Gk (Km (Gk ?_));rcases turn i n H5 w5 with ⟨stop,q⟩ |⟨go,step⟩
  ·refine thn (T.done (ap X scope cl s3.heap.objs.size s3 (upd H2 s2.heap.objs.size (.lst [])) fp) rfl rfl rfl hc i [] s5 _ H5 _ I5 (Sy U2) Uu stop) λr s6 ⟨hr,I6⟩=>?_
   subst hr;refine Gw ?_;obtain⟨m6,hn6,_⟩:=I6.loc;have hCn:∀b,b<s3.heap.objs.size->b≠s3.heap.objs.size:=λb hb=>GS hb
   refine RR _ s3.heap.objs.size H5 s6 m6 (back I6) hn6 I6.free (Kf I3.lt) (I3.nofs (GA _)) I3.sz (λx c e=>?_) (λp hp=>?_) q
   ·obtain⟨v,z⟩:=I3.cell x c e;exact GS z.lt
   ·exact GS (GD (I3.pin p hp).1)
  ·refine thn (T.item (ap X scope cl s3.heap.objs.size s3 (upd H2 s2.heap.objs.size (.lst [])) fp) rfl rfl rfl hc i [] s5 _ H5 _ I5 (Sy U2) Uu go) λr s6 ⟨u,hr,h6⟩=>?_
   subst hr;refine Gk (thn h6 λ_ s7 ⟨x,H7,I7,r7,y7,UJ,fr7⟩=>?_)
   have I7':=I7.pinned (Sy fr7) (T.obj _ _ UJ);refine Gk (HC (hg _ _ _ _ _ s7 (mask is σ) H7 x u _ I7' r7 (step x H7 y7)) (λ_ s8 ⟨U7,H8,I8,q8⟩=>?_) λ_ _ z=>z.elim)
   refine Gk (Gk (HC (he _ _ _ _ _ s8 U7 H8 _ I8 q8) (λv s9 ⟨y,H9,I9,r9,sub,vs,hl9,hz,m',hm,w'⟩=>?_) λ_ _ z=>z.elim))
   refine Gk (HC (gH (X:=ap X scope cl s3.heap.objs.size s3 (upd H2 s2.heap.objs.size (.lst [])) fp) _ s9 U7 H9 (.ref s2.heap.objs.size) [y] (.ref s2.heap.objs.size) [v] (λ_ H'=>H'=upd H9 s2.heap.objs.size (.lst (vs++[y]))) I9 rfl (.cons r9 .nil) ⟨_,vs,y,rfl,rfl,hl9,hz,rfl⟩) (λz s10 ⟨zv,H10,UK,_,e10⟩=>?_) λ_ _ z=>z.elim)
   subst e10;refine Gw (Gw ⟨rfl,m',hm,i+1,_,(UK.unpinned (pins:=[])).weak (by rw[UK.len,dM,I.len]) sub,T.keep _ _ _ UJ λb hb o e=>(UK.pin (b,o) (GM _ (GM _ (ci hb e)))).1,λb hb=>?_,w'⟩)
   obtain⟨o,e,d⟩:=T.obj _ _ UJ b hb;exact (UK.pin (b,o) (GM _ (GM _ (ci hb e)))).2.1
 exact Lg loop (T.self X.A 0 _ _ _ Vn loop)
theorem BF{R6 iter tg:Expr}{scope:Ke}{cl:List (Str×GE)}{pos:Pos}{is:List Nat}{wi:TI}{g:TG}{te:TE}(hc:X.calm=true)(B:bQ X scope cl is)
  (hi:PI X tg iter wi) (hg:∀C s H fp,PG (ap X scope cl C s H fp) tg g) (he:∀C s H fp,PE (ap X scope cl C s H fp) R6 te) (hs:∀x,Hg iter X.env x=pure x:=by intro _;rfl):
  PE X (.ListComp R6 [⟨tg,iter,[],0⟩] scope pos) (pi is wi g te):=by
 intro pins s σ H Q I h;rw[eval_ListComp];refine kT (use:=none) hc B hg he hs I (hi pins s σ H _ I h) λl C H' s' m I' hn h1 h2 h3 h4 h5 h6 q=>⟨m,hn,λh' S6=>?_⟩
 exact⟨.ref l,H',I'.turned (t':=s'.toks) (λb o hb e=>S6.extBut b o hb e) h1 (Ne.symm h2.symm) (.inr h4) h5 h6,rfl,q⟩
theorem lw{R6 iter tg:Expr}{scope:Ke}{cl:List (Str×GE)}{pos Ss py:Pos}{y:Str}{j:Nat}{is:List Nat}{wi:TI}{g:TG}{te:TE}(hc:X.calm=true)(hN:X.N.Nodup)(hj:X.N[j]?=some y)(hy:Loc X.env.scope y)(B:bQ X scope cl is)
  (hi:PI X tg iter wi) (hg:∀C s H fp,PG (ap X scope cl C s H fp) tg g) (he:∀C s H fp,PE (ap X scope cl C s H fp) R6 te) (hs:∀x,Hg iter X.env x=pure x:=by intro _;rfl)
  (Tu:Ip (.ListComp R6 [⟨tg,iter,[],0⟩] scope pos) (some (.Name y py)) Ss.line X.env=pure true:=by rfl) (hf:X.fn y=true\/X.env.scope.names.lookup y=some .local:=by first |exact .inl rfl |exact .inr rfl |assumption):
  PS X (.Assign [.Name y py] (.ListComp R6 [⟨tg,iter,[],0⟩] scope pos) Ss) (vf (pi is wi g te) (jE j)):=by
 intro pins s σ H D I h;rw[LF _ _ _ _ Tu];refine Gk (Km (Gk ?_));show GQ _ X.A (do let _ <-K6 (.ListComp R6 [⟨tg,iter,[],0⟩] scope pos) scope X.env _ (Pq []) false (HY iter X.env) (some (M0 (.Name y py) X.env))) _ _ s
 refine Gk (HC (kT (Q0:=λv H'=>D.nx (σ.set j (some v)) H') (use:=some (M0 (.Name y py) X.env)) (Q:=λ_ s'=>SP X pins D .next s') hc B hg he hs I (hi pins s σ H _ I h) λl C H' s' m I' hn h1 h2 h3 h4 h5 h6 q=>?_) (λ_ s' hq=>Gw (Gw hq)) λ_ _ e=>e)
 show GQ _ X.A (M0 (.Name y py) X.env (.ref l)) _ _ _;refine Lo (eY I' hN hj hy (v:=.ref l) rfl (λs2 I2 ⟨a,S6,ha⟩=>?_) hf)
 have hCa:C≠a:=by
  rcases ha with e |e
  ·rw[e];exact h2
  ·exact Ne.symm (h5 _ _ e)
 refine⟨m,hn.sameBut S6 hCa,λh' TX=>⟨_,H',I2.turned (t':=s2.toks) (λb o hb e=>TX.extBut b o hb e) h1 h2 (.inr h4) h5 h6,q⟩⟩
variable {prog:GF}{w:G5}{A:Ha}{E:Gr→Gs→Prop}
theorem mT{it t:GE}{items:Array Gr}(RL:t≠it):∀(n i:Nat) (s:Gs) (Q:List Gr->Gs->Prop),s.heap.IsListIter it t i->s.heap.IsList t items->i+n<=items.size->
  (∀h',h'.IsListIter it t (i+n)->JF it s.heap h'->Q ((items.toList.drop i).take n) {s with heap:=h' })->GQ (G1 prog w) A (draw (.ref it) n) Q E s
 |0,i,s,Q,S7,_,_,hQ=>by
  show GQ _ _ (pure []) Q E s;exact Gw (by simpa using hQ s.heap S7 (MK ..))
 |n+1,i,s,Q,S7,ht,Ud,hQ=>by
  have RU:i<items.size:=by lia
  show GQ _ _ (LR (.ref it) >>=_) Q E s;refine Gk (M7 S7 ht (x:=items[i]) (by simp[RU]) λh₁ TY S8=>?_)
  refine Gk (Hs (mT RL n (i+1) _ _ TY (ht.extBut S8.extBut RL) (by lia) λTZ hit₂ hs₂=>Gw ?_))
  have hd:items.toList.drop i=items[i]::items.toList.drop (i+1):=by simp[JK,RU]
  have:=hQ TZ (by rw[show i+(n+1)=i+1+n by lia];exact hit₂) (S8.trans hs₂)
  rw[hd,L8]at this;exact this
theorem jp{s:Gs}{t:GE}{items:Array Gr}{Q:List Gr->Gs->Prop}(hh:A.handled=none)(ht:s.heap.IsList t items)
  (hQ:∀h',Rk s.heap.objs.size s.heap h'->Q items.toList {s with heap:=h' }):GQ (G1 prog w) A (unpackItems (.ref t) items.size none) Q E s:=by
 have RU:t≠s.heap.objs.size:=by obtain⟨o,ho,_⟩:=ht;exact GS (GD ho)
 unfold unpackItems;refine Gk ?_
 ·unfold notIterableAtAll;refine Gk (Jw ht.typeIs PySem.slot_list_iter.lookup ?_);refine Gw ?_;simp only[GO,if_false];refine Gk (Hs (I_ ht ?_));refine Gk (Hs (mT RU items.size 0 _ _ ⟨_,GH _ rfl,rfl,rfl⟩ (ht.push _) (by lia) λh₁ TY S8=>?_))
  have Sx:List.take items.size (List.drop 0 items.toList)=items.toList:=by
   rw[NX];exact JB (by simp)
  rw[Sx];rw[if_neg (by simp)]
  have ht₁:h₁.IsList t items:=(ht.push _).extBut S8.extBut RU;refine Gk (Hs (Nd hh TY ht₁ (by simp) λTZ he₂=>?_))
  simp only[Option.isSome_none,GO,if_false];refine Gw (hQ TZ λb o hb e=>he₂ b o hb (S8.extBut b o hb (Gu _ e)))
variable {pos:Pos}
def F5(K:Gn)(n:Nat)(t:TGs):TG:=λv σ H Q=>∃a xs,v=.ref a/\SqL K H a xs/\xs.length=n/\t xs σ H Q
theorem Do{es:List Expr}{k:Nat}{t:TGs}{n:Nat}(hc:X.calm=true)(h:PGs X es t)
  (hn:(JC es X.env).length=n:=by rfl) (R9:(JC es X.env).findIdx? (·.1)=none:=by rfl):PG X (.Tuple es k pos) (F5 X.K n t):=by
 intro pins s σ H v u Q I r hw;obtain⟨a,xs,e1,hq,hl,hw⟩:=hw;subst e1;cases r;obtain⟨RB,rv,ht,hz⟩:=I.list hq;rw[assign_Tuple];refine Gk (Km ?_);unfold unpack;rw[R9,hn,<-hl,rv.length,<-GN];refine Gk (Hs (jp (I.ok.hd hc) ht.isList λh' hx=>?_))
 have I1:Inv X pins σ H {s with heap:=h' }:=I.kept (t':=s.toks) λb o e=>hx b o (GS (GD e)) e
 exact h pins _ σ H xs _ Q I1 (by simpa using rv) hw
end
def goC(SV:List (Str×GE)):List (Str×LW)->List (Str×GE)->List (Str×GE)
 |[],acc=>acc
 | (n,k)::r,acc=>goC SV r (if (k==.free)=true then (n,(SV.lookup n).getD 0)::acc else acc)
theorem rR{env:Env}{scope:Ke}(h:∀y∈scope.names,y.2=.free->(env.cells.lookup y.1).isSome=true):QG scope env=pure (goC env.cells scope.names []):=by
 have all:∀(names:List (Str×LW)) (acc:List (Str×GE)),(∀y∈names,y.2=.free->(env.cells.lookup y.1).isSome=true)->
   (forIn names acc (λx cs=>match x with | (name,kind)=>if (kind==.free)=true then (do let c <-cellOf env name;pure (ForInStep.yield ((name,c)::cs))) else pure (ForInStep.yield cs)):Sem (List (Str×GE)))=pure (goC env.cells names acc):=by
  intro names
  induction names with
  |nil=>intro acc _;rfl
  |cons y r ih=>
   intro acc hy;obtain⟨n,k⟩:=y;rw[K7];by_cases hk:k=.free
   ·subst hk;have:=hy (n,.free) Gy rfl;obtain⟨c,hc⟩:=II.mp this;have e:cellOf env n=pure c:=by unfold cellOf;rw[hc]
    simp only[beq_self_eq_true,if_true,e,pure_bind];rw[ih _ λy U3=>hy y (Gq _ U3)]
    simp only[goC,beq_self_eq_true,if_true,hc,JD]
   ·have hb:(k==NameKind.free)=false:=by simpa using hk
    simp only[hb,GO,if_false,pure_bind];rw[ih _ λy U3=>hy y (Gq _ U3)]
    simp only[goC,hb,GO,if_false]
 simp only[QG];have:=all scope.names [] h;simpa using this
theorem uv{SV:List (Str×GE)}:∀(names:List (Str×LW)) (acc:List (Str×GE)),(∀y∈names,y.2=.free->(SV.lookup y.1).isSome=true)->(∀x c,acc.lookup x=some c->SV.lookup x=some c)->
  ∀x c,(goC SV names acc).lookup x=some c->SV.lookup x=some c
 |[],_,_,ha,x,c,h=>ha x c h
 | (n,k)::r,acc,hy,ha,x,c,h=>by
  rw[goC]at h;refine uv r _ (λy U3=>hy y (Gq _ U3)) (λx' c' e=>?_) x c h
  by_cases hk:k=.free
  ·subst hk;simp only[beq_self_eq_true,if_true]at e;rw[IA]at e;by_cases hx:(x'==n)=true
   ·rw[hx]at e;have hx':x'=n:=by simpa using hx
    obtain⟨c2,hc2⟩:=II.mp (hy (n,.free) Gy rfl);simp only[hc2,JD]at e;rw[hx',hc2];exact e
   ·have:(x'==n)=false:=by simpa using hx
    rw[this]at e;exact ha x' c' e
  ·have hb:(k==NameKind.free)=false:=by simpa using hk
   rw[hb]at e;exact ha x' c' e
theorem uq{SV:List (Str×GE)}{x:Str}:∀(names:List (Str×LW)) (acc:List (Str×GE)),((x,NameKind.free)∈names\/∃c,acc.lookup x=some c)->∃c,(goC SV names acc).lookup x=some c
 |[],_,h=>by
  rcases h with h |h
  ·cases h
  ·exact h
 | (n,k)::r,acc,h=>by
  rw[goC];refine uq r _ ?_;rcases h with h |⟨c,h⟩
  ·rcases Gx.mp h with e |h
   ·cases e
    right
    simp
   ·exact .inl h
  ·right
   by_cases hk:k=.free
   ·subst hk;simp only[beq_self_eq_true,if_true];rw[IA];cases hx:x==n with
    |true=>exact⟨_,rfl⟩
    |false=>exact⟨c,h⟩
   ·have hb:(k==NameKind.free)=false:=by simpa using hk
    rw[hb];exact⟨c,h⟩
theorem c9{env:Env}{x:Str}{kd:LW}:∀{names:List (Str×LW)},
  (names.map λ(n,k)=>if (k==NameKind.free && env.scope.kind==.function && env.kindOf n==some .cell) then (n,NameKind.cell) else (n,k)).lookup x=some kd->names.lookup x=some kd\/(kd=.cell/\names.lookup x=some .free)
 |[],h=>by simp at h
 | (n,k)::r,h=>by
  have ih:=@c9 env x kd r
  change KM x ((if (k==NameKind.free && env.scope.kind==.function && env.kindOf n==some .cell)=true then (n,NameKind.cell) else (n,k))::_)=_ at h
  by_cases hc:(k==NameKind.free && env.scope.kind==.function && env.kindOf n==some .cell)=true
  ·rw[if_pos hc]at h;rw[IA]at h |-;cases hx:x==n with
   |true=>
    rw[hx]at h
    have hk:k=.free:=by
     have:=(NQ.mp (NQ.mp hc).1).1;simpa using this
    subst hk;have h':some NameKind.cell=some kd:=h;cases h';exact .inr ⟨rfl,rfl⟩
   |false=>rw[hx]at h;exact ih h
  ·rw[if_neg hc]at h;rw[IA]at h |-;cases hx:x==n with
   |true=>rw[hx]at h;exact .inl h
   |false=>rw[hx]at h;exact ih h
def yO(scope SQ:Ke)(N:List Str)(is:List Nat):Bool:=
 scope.names.all (λy=>y.2 !=.cell) && scope.names.all (λy=>y.2 !=.local ||scope.names.lookup y.1==some .local) && scope.names.all (λy=>y.2 !=.free ||SQ.names.lookup y.1==some .cell) &&
  (HJ N.length).all λi=>match N[i]? with |some x=>scope.names.lookup x !=some .local ||is.contains i |none=>true
theorem blk{X:Cx}{scope:Ke}(SQ:Ke)(N:List Str)(is:List Nat)(hNN:X.N=N)(hs:X.env.scope=SQ)(hcs:X.env.cells=Oa (X.env.locals+1) SQ.names [])(hk:scope.kind=.function)(h:yO scope SQ N is=true):bQ X scope (goC X.env.cells scope.names []) is:=by
 subst hNN;unfold yO at h;simp only[Hu,Ig]at h;obtain⟨⟨⟨h1,h2⟩,h3⟩,h4⟩:=h
 have f1:∀y∈scope.names,y.2=.free->SQ.names.lookup y.1=some .cell:=λy hy e=>by
  have:=h3 y hy;simp only[Pu,bne_iff_ne,ne_eq,beq_iff_eq]at this;exact this.resolve_left λz=>z e
 have f2:∀y∈scope.names,y.2=.free->(X.env.cells.lookup y.1).isSome=true:=λy hy e=>by
  rw[hcs];exact J8 _ _ _ (.inl (f1 y hy e))
 have nc:∀y∈scope.names,y.2≠.cell:=λy hy=>by have:=h1 y hy;simpa using this
 refine⟨rR f2,nc,hk,λy hy e=>?_,uv _ _ f2 (λx c e=>by simp at e),λx hx=>?_,λi x hi hl=>?_⟩
 ·have:=h2 y hy;simp only[Pu,bne_iff_ne,ne_eq,beq_iff_eq]at this;exact this.resolve_left λz=>z e
 ·have hf:(x,NameKind.free)∈scope.names:=by
   rcases hx with hx |hx
   ·rcases c9 hx with z |⟨_,z⟩
    ·exact absurd rfl (nc _ (ID z))
    ·exact ID z
   ·rcases c9 hx with z |⟨z,_⟩
    ·exact ID z
    ·cases z
  have hc:=f1 _ hf rfl;refine⟨.inr (.inl (by rw[hs];exact hc)),(by rw[hs,show SQ.names.lookup x=some .cell from hc];intro z;cases z),uq _ _ (.inl hf)⟩
 ·have RW:i<X.N.length:=(GB.mp hi).1;have:=h4 i (G8.mpr RW);rw[hi]at this
  have RZ:scope.names.lookup x=some .local:=by
   rcases c9 hl with z |⟨z,_⟩
   ·exact z
   ·cases z
  simp only[RZ,bne_self_eq_false,QM,List.contains_iff_mem]at this;exact this
end L2
namespace L2
open PySem PySem.Spec PySem.W PyProof.Rows
theorem B_{K:Frag}{h:H_}{mg:Str->Option Gr}{x:Str}{C:GE}{bmB:List Gr}{Vo:String}(X:K.In h)(hb:mg x=some (.ref C))(q:excIn K C bmB Vo=true):OwnCls x C bmB Vo mg h:=by
 refine⟨hb,?_⟩;unfold excIn at q;split at q
 ·rename_i dd cd sl ho
  split at q
  ·rename_i C' bm k0 k1 k2 k3 n k5 hm hs
   simp only[Hu,beq_iff_eq,OF]at q;obtain⟨⟨⟨⟨⟨e1,e2⟩,hdel⟩,ht⟩,hok⟩,hni⟩:=q;subst e1 e2;obtain⟨nm,bs,mro,ns,qn,hd,sn,sub,ab,col,del⟩:=cd;dsimp only at hm hdel hok hni;subst hm hdel;have UL:sl=#[k0,k1,k2,k3,some (.builtin n),k5]:=by cases sl;simp only at hs;rw[hs]
   subst UL;exact⟨bm,ns,nm,qn,bs,hd,sn,sub,ab,col,dd,k0,k1,k2,k3,k5,_,X _ _ ho,.of_isNs (isNs_of_in X hok),nsMap_none_of_in X hok hni,tail_of_in X ht⟩
  ·cases q
 ·cases q
def CXF(P:GF)(w:G5):CXT:=λouter H s E e s'=>∃(ea:GE) (cls a0:Gr) (B:H_) (H':Hp),e=.ref ea/\s'.os=s.os/\Ms s'.gens/\Un (frs outer) [] H H' s.heap s'.heap/\HOk P w H' s'.heap/\H' ea=none/\
 (∀b o,s.heap.get? b=some o->b ∉ frs outer->H b=none->B.get? b=some o)/\(∀b u,H' b=some u->∃o,B.get? b=some o)/\(∀b o,s.heap.get? b=some o->b ∉ frs outer->∃o',B.get? b=some o')/\
 OZ B outer ea cls a0 s'.heap/\E cls none H'
theorem ar{P:GF}{w:G5}{X:Cx}:bj (CXF P w) X E0:=λ_ _ _ _ _ _ _ h=>by
 obtain⟨_,_,_,_,_,_,_,_,_,_,_,_,_,_,_,hE⟩:=h;exact hE.elim
theorem mR{P:GF}{w:G5}{H:Hp}{h:H_}{a:GE}{o:HO}(x:bG P w H h a o):∃ob,h.get? a=some ob:=by
 cases o with
 |lst xs=>obtain⟨_,_,_,_,e⟩:=x;exact⟨_,e⟩
 |tup xs=>obtain⟨_,_,_,ob,e,_⟩:=x;exact⟨_,e⟩
 |dK kvs=>obtain⟨_,_,_,_,o,_,_,e,_⟩:=x;exact⟨_,e⟩
 |dT kvs=>obtain⟨_,_,_,_,o,_,_,e,_⟩:=x;exact⟨_,e⟩
 |set S n=>obtain⟨o,_,_,_,e,_⟩:=x;exact⟨_,e⟩
 |ins C dx fs=>obtain⟨_,_,_,e,_⟩:=x;exact⟨_,e⟩
 |own y=>obtain⟨_,e⟩:=x;exact⟨_,e⟩
 |xd fs=>obtain⟨_,⟨_,_,_,e,_⟩,_⟩:=x;exact⟨_,e⟩
 |rng lo hi=>obtain⟨_,_,_,e⟩:=x;exact⟨_,e⟩
 |frz ob u=>obtain⟨e,_⟩:=x;exact⟨_,e⟩
 |tbl ps=>exact⟨_,(show h.get? a=some _ from x)⟩
 |met f y=>exact⟨_,(show h.get? a=some _ from x)⟩
 |ext φ=>obtain⟨_,⟨_,e⟩,_⟩:=x;exact⟨_,e⟩
theorem gG{P:GF}{w:G5}{H':Hp}{h h' B:H_}(ok:HOk P w H' h)(hB:∀b u,H' b=some u->∃o,B.get? b=some o)(s1:B.StaysIn h)(s2:B.StaysIn h'):HOk P w H' h':=λa o e=>by
 refine (ok a o e).stay (λb u hb q=>?_) (λ_ q=>q) λ_ _ q=>q
 have:∃v,H' b=some v:=by
  rcases hb with z |z
  ·subst z;exact⟨_,e⟩
  ·exact⟨_,z⟩
 obtain⟨v,hv⟩:=this;obtain⟨ob,hob⟩:=hB b v hv;have:=s1 b ob hob;rw[q]at this;cases this;exact s2 b _ hob
theorem yT{fs:List GE}{H0 H':Hp}{h0 h1 h2 B:H_}(u:Un fs [] H0 H' h0 h1)(k1:∀b o,h0.get? b=some o->b ∉ fs->H0 b=none->B.get? b=some o)(k3:∀b o,h0.get? b=some o->b ∉ fs->∃o',B.get? b=some o')
  (st:B.StaysIn h2) (up:h1.UpToSlots h2) (fr:∀b∈fs,∀o,h0.get? b=some o->∀vs,o.data≠.fields vs) (frf:∀b∈fs,H0 b=none):Un fs [] H0 H' h0 h2 where
 keep:=λb o e n hb _=>st b o (k1 b o e hb n)
 slot:=λb o e n hb hx=>by
  obtain⟨sl,e1⟩:=u.slot b o e n hb hx;obtain⟨sl2,e2⟩:=up b _ e1 (fr b hb o e);exact⟨sl2,e2⟩
 free:=u.free
 there:=λb o e hx=>by
  by_cases hb:b∈fs
  ·obtain⟨sl,e1⟩:=u.slot b o e (frf b hb) hb hx;obtain⟨sl2,e2⟩:=up b _ e1 (fr b hb o e);exact⟨_,e2⟩
  ·obtain⟨o',e'⟩:=k3 b o e hb;exact⟨o',st b o' e'⟩
 tups:=u.tups
 frzs:=u.frzs
 tbls:=u.tbls
theorem iy{h base:H_}:∀{l:List Env},h.FunFrames base l->∀b∈frs l,∀o,h.get? b=some o->∀vs,o.data≠.fields vs
 |[],_,b,hb,_,_=>absurd (show b∈([]:List GE) from hb) (by simp)
 |env::r,⟨_,⟨L,o',hf,_,ho,hd⟩,hr⟩,b,hb,o,e=>by
  unfold frs at hb;rw[IC,hf]at hb;rcases Gx.mp hb with z |z
  ·subst z;rw[ho]at e;cases e;exact hd
  ·exact iy hr b z o e
section
variable {P:GF}{w:G5}{K:Frag}{mg:Str→Option Gr}{base:H_}{N:List Str}{RC:Str}{scope:Ke}{f:GE}{cd:Gr}{A:Ha}{outer:List Env}{s:Gs}{H:Hp}{E:XK}
theorem iJ{env:Env}{L:GE}{l:List Env}(h:env.frame=some L):frs (env::l)=L::frs l:=by unfold frs;rw[IC,h]
theorem qr{pins:List (GE×Obj)}{σ:St}{H1 H':Hp}{s1:Gs}{B h1 h2:H_}(I:Inv (cR (CXF P w) P w K mg base N RC scope f cd A outer s H E) pins σ H1 s1)
  (un:Un (frs (JH RC scope s.heap.objs.size f cd::outer)) [] H1 H' s1.heap h1)
  (k1:∀b o,s1.heap.get? b=some o->b ∉ frs (JH RC scope s.heap.objs.size f cd::outer)->H1 b=none->B.get? b=some o) (k3:∀b o,s1.heap.get? b=some o->b ∉ frs (JH RC scope s.heap.objs.size f cd::outer)->∃o',B.get? b=some o')
  (st:B.StaysIn h2) (up:h1.UpToSlots h2):
  Un (frs outer) [] H H' s.heap h2/\(∀b o,s.heap.get? b=some o->b ∉ frs outer->H b=none->B.get? b=some o)/\(∀b o,s.heap.get? b=some o->b ∉ frs outer->∃o',B.get? b=some o'):=by
 have ef:frs (JH RC scope s.heap.objs.size f cd::outer)=s.heap.objs.size::frs outer:=iJ rfl;rw[ef]at un k1 k3
 have ne:∀b o,s.heap.get? b=some o->b ∉ frs outer->b ∉ s.heap.objs.size::frs outer:=λb o e hb z=>by
  rcases Gx.mp z with y |y
  ·exact absurd (GD e) (by rw[y];exact Hc _)
  ·exact hb y
 have ib:Un (frs outer) [] H H1 s.heap s1.heap:=I.base
 have K1:∀b o,s.heap.get? b=some o->b ∉ frs outer->H b=none->B.get? b=some o:=λb o e hb n=>
  k1 b o (ib.keep b o e n hb (by simp)) (ne b o e hb) (ib.free b o e n (by simp))
 have K3:∀b o,s.heap.get? b=some o->b ∉ frs outer->∃o',B.get? b=some o':=λb o e hb=>by
  obtain⟨o',e'⟩:=ib.there b o e (by simp)
  exact k3 b o' e' (ne b o e hb)
 have U8:∀b∈frs outer,∀o,s.heap.get? b=some o->∀vs,o.data≠.fields vs:=iy I.ok.funs;have frf:∀b∈frs outer,H b=none:=I.ok.frf;refine⟨⟨λb o e n hb _=>st b o (K1 b o e hb n),λb o e n hb hx=>?_,λb o e n hx=>?_,λb o e hx=>?_,λb xs e=>un.tups b xs (ib.tups b xs e),λb o u e=>un.frzs b o u (ib.frzs b o u e),λb ps e=>?_⟩,K1,K3⟩
 ·obtain⟨sl,e1⟩:=ib.slot b o e n hb hx;obtain⟨sl2,e2⟩:=un.slot b _ e1 (ib.free b o e n hx) (Gq _ hb) hx;obtain⟨sl3,e3⟩:=up b _ e2 (U8 b hb o e);exact⟨sl3,e3⟩
 ·obtain⟨o',e1⟩:=ib.there b o e hx;exact un.free b o' e1 (ib.free b o e n hx) hx
 ·by_cases hb:b∈frs outer
  ·obtain⟨sl,e1⟩:=ib.slot b o e (frf b hb) hb hx;obtain⟨sl2,e2⟩:=un.slot b _ e1 (ib.free b o e (frf b hb) hx) (Gq _ hb) hx;obtain⟨sl3,e3⟩:=up b _ e2 (U8 b hb o e);exact⟨_,e3⟩
  ·obtain⟨o',e'⟩:=K3 b o e hb;exact⟨o',st b o' e'⟩
 ·obtain⟨m1,e1⟩:=ib.tbls b ps e;obtain⟨m2,e2⟩:=un.tbls b _ e1;exact⟨m1++m2,by rw[e2,KY]⟩
theorem uX:bj (CXF P w) (cR (CXF P w) P w K mg base N RC scope f cd A outer s H E) E:=by
 intro pins σ H1 s1 e s' I hcx;obtain⟨ea,cls,a0,B,H',rfl,os,bare,un,hok,U9,k1,k2,k3,fl,hE⟩:=hcx;show GQ _ _ (Pk (JH RC scope s.heap.objs.size f cd) (.ref ea)) _ _ s';refine wpAny_leaves_onW (L:=s.heap.objs.size) I.ok.frames rfl fl λh2 Va up=>?_
 obtain⟨u,K1,K3⟩:=qr I un k1 k3 Va.1 up;exact⟨ea,cls,a0,B,H',rfl,os.trans I.os,bare,u,gG hok k2 fl.1 Va.1,U9,K1,k2,K3,Va,hE⟩
def Ea(E:XK)(C:GE)(te:TE):TS:=λ_ σ H=>te σ H λ_ H1=>E (.ref C) none H1
theorem xO{x:Str}{C:GE}{e0:Expr}{te:TE}{np RD pos:Pos}(hex:excIn K C [.type "ValueError",.type "Exception",.type "BaseException",.type "object"] "ValueError.__new__"=true)
  (hg:Gl (cR (CXF P w) P w K mg base N RC scope f cd A outer s H E) x) (hm:mg x=some (.ref C)) (he:PE (cR (CXF P w) P w K mg base N RC scope f cd A outer s H E) e0 te)
  (R9:Gv [e0] (cR (CXF P w) P w K mg base N RC scope f cd A outer s H E).env=[(false,HY e0 (cR (CXF P w) P w K mg base N RC scope f cd A outer s H E).env)]:=by rfl) (hd:(x==("__debug__":Str))=false:=by decide):
  PS (cR (CXF P w) P w K mg base N RC scope f cd A outer s H E) (.Raise (some (.Call (.Name x np) [e0] [] RD)) none pos) (Ea E C te):=by
 intro pins s1 σ H1 D I h;have O:=B_ I.ok.mod.kin hm hex;obtain⟨tl,NN,nm,q,bs,hdct,sn,sub,ab,col,dd,k0,k1,k2,k3,k5,mN,hC,hN,hni,T⟩:=O.obj;have R3:(Hx RD (Gv [e0] (cR (CXF P w) P w K mg base N RC scope f cd A outer s H E).env)).any (·.1)=false:=by rw[R9];rfl
 refine wpAny_Raise_call_subT (C:=C) (nm:=nm) (q:=q) (N:=NN) (bs:=bs) (bm:=tl) (hdct:=hdct) (sn:=sn) (sub:=sub) (ab:=ab) (col:=col) (dd:=dd) (k0:=k0) (k1:=k1) (k2:=k2) (k3:=k3) (k5:=k5)
  Mi (mN:=mN) (T.hasType Mi.hasBase) (I.ok.hd rfl) R3 hni (dF I hg hm ⟨rfl,?_⟩ hd)
 rw[R9];refine Kv ?_;show GQ _ _ (M_ ((false,HY e0 _)::Hx RD [])) _ _ s1;refine Ik (thn (he pins s1 σ H1 _ I h) λv s2 ⟨y,H2,I2,r2,hE⟩=>Jo ⟨rfl,by show 1<=sizeLine;decide,I2.bk _ _ hC,hN.keeps I2.bk,T.keeps I2.bk,λh' e hx=>?_⟩)
 show GQ _ _ (Pk (JH RC scope s.heap.objs.size f cd) (.ref e)) _ _ {s2 with heap:=h' }
 have stk:s2.heap.FunFrames base (JH RC scope s.heap.objs.size f cd::outer):=I2.stack
 refine wpAny_leaves_madeW (base:=hideAll s2.heap (frs (JH RC scope s.heap.objs.size f cd::outer))) (h:=s2.heap) (L:=s.heap.objs.size) I2.ok.frames rfl (λb o q=>of_hideAll _ q)
  (funFrames_hide stk λenv he b hb=>K2.mpr ⟨env,he,hb⟩) hx λh2 t fl _ _ up=>?_
 have k2':∀b u,H2 b=some u->∃o,(hideAll s2.heap (frs (JH RC scope s.heap.objs.size f cd::outer))).get? b=some o:=λb u e=>by
  obtain⟨ob,hob⟩:=mR (I2.hok b u e);exact⟨ob,hideAll_get _ hob λz=>by have:=I2.stkFree b z;rw[e]at this;cases this⟩
 obtain⟨u,K1,K3⟩:=qr (h1:=h') I2 (Un.kept hx.keeps) (λb o e hb _=>hideAll_get _ e hb) (λb o e hb=>⟨o,hideAll_get _ e hb⟩) fl.1 up
 refine⟨e,.ref C,.ref t,_,H2,rfl,I2.os,I2.bare,u,gG (h:=s2.heap) I2.hok k2' (λb o q=>of_hideAll _ q) fl.1,?_,K1,k2',K3,fl,hE⟩
 cases z:H2 e with
 |none=>rfl
 |some u=>
  obtain⟨ob,hob⟩:=mR (I2.hok e u z);rw[hx.new]at hob;cases hob
end
theorem Fun.okF{P:GF}{w:G5}{K:Frag}{mg:Str->Option Gr}{base:H_}{x RC:Str}{st:Iy}{f:GE}{fd:Hw}{N ps:List Str}{k:Nat}{sp:Sp}(F:Fun K x RC st f fd)(S:aq N ps (ag st))(len:∀vs H Q E,sp vs H Q E->vs.length=ps.length)
  (Si:∀(RF:Gr) (A:Ha) (outer:List Env) (s:Gs) (H:Hp) (vs:List V) (Q:VK) (E:XK),bB k (A.deeper (JH RC (ag st) s.heap.objs.size f RF))->sp vs H Q E->
   ∃t,PSs (cR (CXF P w) P w K mg base N RC (ag st) f RF A outer s H E) (bi st) t/\t {nx:=λ_ H'=>Q .non H',rt:=Q } (start N vs) H):aL P w K mg base (CXF P w) (k+1) f fd ps sp:=by
 obtain⟨oc,od,kV,SN,pm,an,RF,ct,Tr,rfl,lk,R8⟩:=F.ex;exact CC lk R8 S len λA outer s H vs Q E hr SH=>Si RF A outer s H vs Q E hr SH
abbrev fY(X:Cx)(ea:GE):Cx:={X with A:=X.A.mark (some (.ref ea)),calm:=false,xe:=λ_ _=>False }
section
variable {X:Cx}{pins:List (GE×Obj)}{σ:St}{H:Hp}{s:Gs}
theorem Inv.hand(I:Inv X pins σ H s)(ea:GE):Inv (fY X ea) pins σ H s:=
 ⟨⟨I.ok.mod,I.ok.kind,I.ok.glob,I.ok.blt,I.ok.above,I.ok.inj,I.ok.has,I.ok.cab,λh=>(by cases h),I.ok.frames,I.ok.stk,I.ok.exf,I.ok.bs,I.ok.bsz,I.ok.noex,I.ok.exfs,I.ok.funs,I.ok.frf⟩,
  I.os,I.bare,I.base,I.loc,I.cell,I.free,I.freeC,I.pin,I.hok,I.len⟩
theorem Inv.unhand{ea:GE}(hd:X.calm=true->X.A.handled=none)(I:Inv (fY X ea) pins σ H s):Inv X pins σ H s:=
 ⟨⟨I.ok.mod,I.ok.kind,I.ok.glob,I.ok.blt,I.ok.above,I.ok.inj,I.ok.has,I.ok.cab,hd,I.ok.frames,I.ok.stk,I.ok.exf,I.ok.bs,I.ok.bsz,I.ok.noex,I.ok.exfs,I.ok.funs,I.ok.frf⟩,
  I.os,I.bare,I.base,I.loc,I.cell,I.free,I.freeC,I.pin,I.hok,I.len⟩
theorem SP.unhand{ea:GE}{D:ja}{f:Flow}{s':Gs}(hd:X.calm=true->X.A.handled=none)(h:SP (fY X ea) pins D f s'):SP X pins D f s':=by
 cases f with
 |next=>obtain⟨RK,H',I,q⟩:=h;exact⟨RK,H',I.unhand hd,q⟩
 |brk=>obtain⟨RK,H',I,q⟩:=h;exact⟨RK,H',I.unhand hd,q⟩
 |cont=>obtain⟨RK,H',I,q⟩:=h;exact⟨RK,H',I.unhand hd,q⟩
 |ret u=>obtain⟨v,RK,H',I,r,q⟩:=h;exact⟨v,RK,H',I.unhand hd,r,q⟩
end
end L2
namespace L2
open PySem PySem.Spec PyProof.Rows
theorem mZ{n:Nat}{e:Nat->Bool}:(HJ n).all e=true↔∀j,j<n->e j=true:=by
 rw[Ig];exact⟨λh j hj=>h j (G8.mpr hj),λh j hj=>h j (G8.mp hj)⟩
end L2
namespace PySem.W
open PySem PySem.Spec PySem.Calls PyProof.Rows PySem.Builtin PySem.Builtin.ObjectAttr PySem.Builtin.Getset_descriptor
section
variable {prog:GF}{w:G5}{A:Ha}{E:Gr→Gs→Prop}{s:Gs}{K:Frag}{x C:GE}
def OfCls(x C:GE)(h:H_):Prop:=∃o,h.get? x=some o/\o.cls=.ref C
theorem OfCls.type{M:NO}{h:H_}(I:OfCls x C h):Looks M h (QV (.ref x)) (.ref C):=by
 obtain⟨o,h1,h2⟩:=I;exact h2 ▸ (Looks.ld h1).andThen .now
theorem Dx{tp:Gr}{R:N9→Gs→Prop}(X:K.In s.heap)(I:OfCls x C s.heap)(hm:mroIn K C (.type "object")=some true)
  (h:R (.ok (.ret (.ref C))) s):J7 (G1 prog w) A (.call (.builtin "getset_descriptor.__get__") ⟨[.builtin "object.__class__",.ref x,tp],[]⟩) R s:=by
 obtain⟨hh,g,dr,t,os⟩:=s;have L0:=I.type (M:=G1 prog w);have L1:=looks_mroIn (M:=G1 prog w) X hm;refine LV KF.slot_gs.plain KF.entry_gs (KF.slot_gs.check _ _ _ _ _ _ _ _ KF.type_class (KF.args_gs _ _ _) ?_);unfold Builtin.«getset_descriptor.__get__» descrGet;rw[dga_obj];refine Gk (Gw ?_);unfold descrGetter descrCheckInstance descrNameAndClass OG;simp only[KF.owner_class]
 repeat lk
 refine⟨Code.quiet_builtin _ (by decide+kernel),JR KF.entry_class ?_⟩
 unfold Builtin.«object.__class__» shownTypeOf
 repeat lk
 exact h
theorem B1{M:NO}{h:H_}{name:Str}{a g:Gr}(X:K.In h)(ha:findIn K (.ref C) name=some (some a))(hg:specialIn K a "__get__"=some (some g))(ht:takesIn K a=some true):
  Looks M h (find (.ref x) (.ref C) name) (.bind g a):=by
 have L1:=looks_findIn (M:=M) X ha;have L2:Looks M h (getOf (some a)) (some g):=looks_specialIn X hg;have L3:=looks_takesIn (M:=M) X ht;exact L1.andThen (L2.andThen ((show Looks M h (dataDescriptor? (some a) (some g)) (some (g,a)) from L3.andThen .now).andThen (Looks.tag .now)))
variable (hga:findIn K (.ref C) "__getattribute__"=some (some (.builtin "BaseException.__getattribute__"))) (hgn:findIn K (.ref C) "__getattr__"=some none) (ha:findIn K (.ref C) "__class__"=some (some (.builtin "object.__class__")))
 (hn:specialIn K (.builtin "object.__class__") "__get__"=some (some (.builtin "getset_descriptor.__get__"))) (Tq:takesIn K (.builtin "object.__class__")=some true) (hm:mroIn K C (.type "object")=some true) (hmB:mroIn K C (.type "BaseException")=some true)
include ha hn Tq hm in
theorem zr{tk:Tok}{Q:Fin->Gs->Prop}(X:K.In s.heap)(I:OfCls x C s.heap)(hq:Q (.done (.ret (.ref C))) s):
  GQ (G1 prog w) A (Builtin.«object.__getattribute__» ⟨[.ref x,.str "__class__" tk],[]⟩) Q E s:=by
 have L0:=I.type (M:=G1 prog w);have L1:=B1 (M:=G1 prog w) (x:=x) X ha hn Tq;obtain⟨hh,g,dr,t,os⟩:=s;unfold Builtin.«object.__getattribute__»;refine Gk (Gw ?_);refine Gk (Gw (Gk (L0.at (Gk (L1.at ?_)))));show GQ _ _ (bindTo _ _ _ _) _ _ _;unfold bindTo;show GQ _ _ (Ln [_] (call _ [_,_,_]) >>=ret) _ _ _;refine Gk (Hs (LY (Dx X I hm ?_)));exact Gw hq
include hmB in
theorem yI{Vp:Gr}{M:NO}{Q:Unit→Gs→Prop}(X:K.In s.heap)(I:OfCls x C s.heap)(hq:Q () s):GQ M A (M4 "BaseException.__getattribute__" ⟨[.ref x,Vp],[]⟩) Q E s:=by
 have hk:builtinKind "BaseException.__getattribute__"=some .slot:=by decide+kernel
 have hsplit:splitId "BaseException.__getattribute__"=some ("BaseException","__getattribute__"):=by decide+kernel
 have ha':=F.args_bexc_ga (.ref x) Vp;have L:Looks M s.heap (OG (.ref x) (.type "BaseException")) true:=I.type.andThen (looks_mroIn X hmB);obtain⟨hh,g,dr,t,os⟩:=s;simp only[M4,hk,hsplit];refine Gk (L.at ?_)
 repeat (first |assumption |wp_step)
include hga hgn ha hn Tq hm hmB
theorem AO{tk:Tok}{R:N9->Gs->Prop}(X:K.In s.heap)(I:OfCls x C s.heap)(hq:R (.ok (.ret (.ref C))) s):
  J7 (G1 prog w) A (.call (.builtin "BaseException.__getattribute__") ⟨[.ref x,.str "__class__" tk],[]⟩) R s:=by
 exact LV F.excAttr_ValueError.ga.plain F.entry_bexc_ga (yI hmB X I (zr ha hn Tq hm X I hq))
theorem xB{Q:Option Gr→Gs→Prop}(X:K.In s.heap)(I:OfCls x C s.heap)(h:Q (some (.ref C)) {s with toks:=s.toks+1 }):GQ (G1 prog w) A (getAttr? (.ref x) "__class__") Q E s:=by
 obtain⟨hh,g,d,t,os⟩:=s;have L0:=I.type (M:=G1 prog w);have L1:=looks_findIn (M:=G1 prog w) X hga;have L2:=looks_findIn (M:=G1 prog w) X hgn;have f3:=F.excAttr_ValueError.ga.bind (.ref x);unfold getAttr? getAttrBy? getAttrBy;refine Gk (wpAny_mkText (Gk (Kn (Hs (Gk (L0.at (Gk (L1.at ?_))))))));show GQ _ _ (Pv _ _ _ _ _ _) _ _ _;unfold Pv;refine Gk (L2.at ?_);refine Gk (Kn (Hs ?_));show GQ _ _ (Qc _ _ _) _ _ _;unfold Qc;rw[f3];refine Gk (Gw (LY ?_));exact AO hga hgn ha hn Tq hm hmB X I (Gw (Gw h))
theorem Bq(hc:(clsIn K C).isSome=true):KitX K (.ref x) (.ref C) (OfCls x C) where
 ty:=λ_ _ _ I=>I.type
 it:=λ_ _ X _=>by
  obtain⟨cdD,Um⟩:=II.mp hc;unfold clsIn at Um;split at Um
  ·rename_i c' d' cd' sl' ho
   intro A' Q' E' s' k q;unfold isType loadHead;exact Gk (NW (k _ _ (X _ _ ho)) (Gw q))
  ·cases Um
 ne:=λh tp dd RB n sl X htp=>by
  obtain⟨cdD,Um⟩:=II.mp hc;refine ML.mpr λq=>?_
  have e:C=tp:=Value.ref.inj (beq_iff_eq.mp q);subst e;unfold clsIn at Um;split at Um
  ·rename_i c' d' cd' sl' ho
   have z:=(X _ _ ho).symm.trans htp;cases z
  ·cases Um
 ca:=λX I k=>xB hga hgn ha hn Tq hm hmB X I k
end
theorem ku{K:Frag}{C:GE}{v:Gr}{b:Bool}(h:mroIn K C v=some b):(clsIn K C).isSome=true:=by
 obtain⟨cd,e,_⟩:=Option.bind_eq_some_iff.mp h;rw[e];rfl
structure XcOk(K:Frag)(C:GE):Prop where
 ga:findIn K (.ref C) "__getattribute__"=some (some (.builtin "BaseException.__getattribute__"))
 gn:findIn K (.ref C) "__getattr__"=some none
 at_:findIn K (.ref C) "__class__"=some (some (.builtin "object.__class__"))
 sp:specialIn K (.builtin "object.__class__") "__get__"=some (some (.builtin "getset_descriptor.__get__"))
 tk:takesIn K (.builtin "object.__class__")=some true
 mo:mroIn K C (.type "object")=some true
 mb:mroIn K C (.type "BaseException")=some true
theorem XcOk.kit{K:Frag}{x C:GE}(h:XcOk K C):KitX K (.ref x) (.ref C) (OfCls x C):=Bq h.ga h.gn h.at_ h.sp h.tk h.mo h.mb (ku h.mo)
theorem XcOk.off{x C:GE}{h:H_}{o:Obj}{T:String}(I:OfCls x C h)(e:h.get? x=some o)(c:o.cls=.type T):False:=by
 obtain⟨o',e',c'⟩:=I;rw[e]at e';cases e';rw[c]at c';cases c'
end PySem.W
namespace L2
open PySem PySem.Spec PyProof.Rows
inductive TyX where
 |nm (n:String) |xc (C:GE)
inductive U where
 |non |bl (b:Bool) |int (i:Int) |str (x:Str) |ty (n:TyX) |dic |scr (xs:List U) |tup (xs:List U) |lst (xs:List U)
def U.items:U->Option (List U)
 | .scr xs=>some xs
 | .tup xs=>some xs
 | .lst xs=>some xs
 |_=>none
def hid(H:Hp)(O:List GE):Hp:=λb=>if b∈O then none else H b
theorem fu{H:Hp}{O:List GE}{b:GE}{o:HO}(h:hid H O b=some o):H b=some o/\b ∉ O:=by
 unfold hid at h;split at h
 ·cases h
 ·exact⟨h,by assumption⟩
theorem b4{H:Hp}{O:List GE}{b:GE}{o:HO}(h:H b=some o)(n:b ∉ O):hid H O b=some o:=by
 unfold hid;rw[if_neg n];exact h
theorem aB{H:Hp}{O:List GE}:aH (hid H O) H:=λ_ _ h=>(fu h).1
theorem aD{H H':Hp}{O:List GE}(e:aH H H'):aH (hid H O) (hid H' O):=λ_ _ h=>b4 (e _ _ (fu h).1) (fu h).2
theorem aI{H:Hp}{O O':List GE}(e:∀a∈O',a∈O):aH (hid H O) (hid H O'):=λ_ _ h=>b4 (fu h).1 λz=>(fu h).2 (e _ z)
theorem bh{H H':Hp}{O:List GE}{a:GE}(e:aH H H')(n:H a=none):aH (hid H O) (hid H' (a::O)):=λb o h=>by
 obtain⟨h1,h2⟩:=fu h;refine b4 (e _ _ h1) λz=>?_
 rcases Gx.mp z with y |y
 ·subst y;rw[n]at h1;cases h1
 ·exact h2 y
theorem gC{H:Hp}{O:List GE}{a:GE}{o:HO}(h:a∈O):hid (upd H a o) O=hid H O:=by
 funext b
 unfold hid;split
 ·rfl
 ·rename_i n
  rw[aE λe=>n (by rw[e];exact h)]
inductive Rp (K:Gn) (H:Hp):V->U->Prop where
 |non:Rp K H .non .non
 |bl (b:Bool):Rp K H (.bl b) (.bl b)
 |int (i:Int):Rp K H (.int i) (.int i)
 |str (x:Str):Rp K H (.str x) (.str x)
 |ty (n:String):Rp K H (.ty n) (.ty (.nm n))
 |dic {a:GE}{kvs:List (Key×V)} (h:H a=some (.dK kvs)):Rp K H (.ref a) .dic
 |xc {a C:GE} (h:H a=some (.ext (PySem.W.OfCls a C))) (k:PySem.W.XcOk K C):Rp K H (.ref a) (.ty (.xc C))
 |scr {a:GE}{vs:List V}{xs:List U} (h:SqL K H a vs) (hl:vs.length=xs.length) (hi:∀(i:Nat) (v:V) (x:U),vs[i]?=some v->xs[i]?=some x->Rp K H v x):Rp K H (.ref a) (.scr xs)
 |tup {a:GE}{vs:List V}{xs:List U} (h:SqT K H a vs) (hl:vs.length=xs.length) (hi:∀(i:Nat) (v:V) (x:U),vs[i]?=some v->xs[i]?=some x->Rp K H v x):Rp K H (.ref a) (.tup xs)
 |lst {a:GE}{vs:List V}{xs:List U} (h:H a=some (.lst vs)) (hl:vs.length=xs.length) (hi:∀(i:Nat) (v:V) (x:U),vs[i]?=some v->xs[i]?=some x->Rp K H v x):Rp K H (.ref a) (.lst xs)
theorem Rp.same{K:Gn}{H H':Hp}{v:V}{u:U}(e:aH H H')(h:Rp K H v u):Rp K H' v u:=by
 induction h with
 |non=>exact .non
 |bl b=>exact .bl b
 |int i=>exact .int i
 |str x=>exact .str x
 |ty n=>exact .ty n
 |dic h=>exact .dic (e _ _ h)
 |xc h k=>exact .xc (e _ _ h) k
 |scr h hl hi ih=>exact .scr (e.seq h) hl ih
 |tup h hl hi ih=>exact .tup (e.tup h) hl ih
 |lst h hl hi ih=>exact .lst (e _ _ h) hl ih
structure Rps(K:Gn)(H:Hp)(vs:List V)(xs:List U):Prop where
 len:vs.length=xs.length
 at_:∀(i:Nat) (v:V) (x:U),vs[i]?=some v->xs[i]?=some x->Rp K H v x
theorem Rps.same{K:Gn}{H H':Hp}{vs:List V}{xs:List U}(e:aH H H')(h:Rps K H vs xs):Rps K H' vs xs:=⟨h.len,λi v x a b=>(h.at_ i v x a b).same e⟩
theorem Rps.nil{K:Gn}{H:Hp}:Rps K H [] []:=⟨rfl,λi v x h=>by simp at h⟩
theorem Rps.cons{K:Gn}{H:Hp}{v:V}{x:U}{vs:List V}{xs:List U}(h:Rp K H v x)(t:Rps K H vs xs):Rps K H (v::vs) (x::xs):=by
 refine⟨by simp[t.len],λi a b h1 h2=>?_⟩
 cases i with
 |zero=>simp at h1 h2;subst h1;subst h2;exact h
 |succ i=>exact t.at_ i a b (by simpa using h1) (by simpa using h2)
theorem Rps.snoc{K:Gn}{H:Hp}{vs ws:List V}{xs ys:List U}(h:Rps K H vs xs)(t:Rps K H ws ys):Rps K H (vs++ws) (xs++ys):=by
 refine⟨by simp[h.len,t.len],λi a b h1 h2=>?_⟩
 by_cases hi:i<vs.length
 ·rw[GG hi]at h1;rw[GG (by rw[<-h.len];exact hi)]at h2
  exact h.at_ i a b h1 h2
 ·have Ud:vs.length<=i:=LN hi;rw[GK Ud]at h1;rw[GK (by rw[<-h.len];exact Ud),<-h.len]at h2
  exact t.at_ _ a b h1 h2
theorem Rps.get{K:Gn}{H:Hp}{vs:List V}{xs:List U}{i:Nat}{x:U}(h:Rps K H vs xs)(e:xs[i]?=some x):∃v,vs[i]?=some v/\Rp K H v x:=by
 have hi:i<vs.length:=by rw[h.len];exact (GB.mp e).1
 exact⟨vs[i],Gm hi,h.at_ i _ x (Gm hi) e⟩
theorem Rps.atI{K:Gn}{H:Hp}{vs:List V}{xs:List U}{i:Int}{x:U}(h:Rps K H vs xs)(e:L2.atI xs i=some x):∃v,L2.atI vs i=some v/\Rp K H v x:=by
 unfold L2.atI at e |-;rw[h.len];cases q:ixN xs.length i with
 |none=>rw[q]at e;cases e
 |some j=>
  rw[q]at e;obtain⟨v,h1,h2⟩:=h.get (show xs[j]?=some x from e)
  exact⟨v,h1,h2⟩
theorem Rps.cons_inv{K:Gn}{H:Hp}{vs:List V}{x:U}{xs:List U}(h:Rps K H vs (x::xs)):∃v ws,vs=v::ws/\Rp K H v x/\Rps K H ws xs:=by
 cases vs with
 |nil=>have:=h.len;simp at this
 |cons v ws=>
  refine⟨v,ws,rfl,h.at_ 0 v x rfl rfl,by have:=h.len;simpa using this,λi a b h1 h2=>h.at_ (i+1) a b (by simpa using h1) (by simpa using h2)⟩
theorem Rps.nil_inv{K:Gn}{H:Hp}{vs:List V}(h:Rps K H vs []):vs=[]:=Ih.mp (by rw[h.len];rfl)
structure DkR(K:Gn)(H:Hp)(kv:List (Key×V))(kvs:List (Str×U)):Prop where
 len:kv.length=kvs.length
 at_:∀(i:Nat) (k:Key) (v:V) (x:Str) (u:U),kv[i]?=some (k,v)->kvs[i]?=some (x,u)->k=.inr x/\Rp K H v u
theorem DkR.same{K:Gn}{H H':Hp}{kv:List (Key×V)}{kvs:List (Str×U)}(e:aH H H')(h:DkR K H kv kvs):DkR K H' kv kvs:=⟨h.len,λi k v x u a b=>⟨(h.at_ i k v x u a b).1,(h.at_ i k v x u a b).2.same e⟩⟩
inductive Sl where
 |val (u:U) |own (xs:List U) |pin (w:V) (u:U) |dsk (w:Bool) (C a d:GE) (kvs:List (Str×U))
abbrev PSt:=List (Option Sl)
def AS(K:Gn)(H:Hp)(O O0:List GE)(v:V):Sl->Prop
 | .val u=>Rp K (hid H O) v u
 | .own xs=>∃a vs,v=.ref a/\a∈O/\a ∉ O0/\H a=some (.lst vs)/\Rps K (hid H O) vs xs
 | .pin w u=>v=w/\Rp K (hid H O) v u
 | .dsk w C a d kvs=>∃dx kv,v=.ref a∧d∈O∧(w=true→d ∉ O0)∧H a=some (.ins C dx [("lands",.ref d)])∧H d=some (.dK kv)∧DkR K (hid H O) kv kvs
structure Rs(K:Gn)(H0:Hp)(O0:List GE)(ps:PSt)(σ:St)(H:Hp)(O:List GE):Prop where
 same:aH H0 H
 old:∀a∈O0,a∈O
 new:∀a∈O,a∈O0\/H0 a=none
 dom:∀a∈O,H a≠none
 len:σ.length=ps.length
 at_:∀(i:Nat) (s:Sl),ps[i]?=some (some s)->∃v,σ[i]?=some (some v)/\AS K H O O0 v s
 inj:∀(i j:Nat) (xs ys:List U) (a:GE),ps[i]?=some (some (.own xs))->ps[j]?=some (some (.own ys))->σ[i]?=some (some (.ref a))->σ[j]?=some (some (.ref a))->i=j
variable {H0:Hp}{H:Hp}{O0:List GE}
section
variable {K:Gn}{H':Hp}{O:List GE}{ps:PSt}{σ:St}
theorem AS.same{v:V}{s:Sl}(e:aH H H')(h:AS K H O O0 v s):AS K H' O O0 v s:=by
 cases s with
 |val u=>exact Rp.same (aD e) h
 |own xs=>obtain⟨a,vs,h1,h2,h3,h4,h5⟩:=h;exact⟨a,vs,h1,h2,h3,e _ _ h4,h5.same (aD e)⟩
 |pin w u=>exact⟨h.1,Rp.same (aD e) h.2⟩
 |dsk w C a d kvs=>obtain⟨dx,kv,h1,h2,h3,h4,h5,h6⟩:=h;exact⟨dx,kv,h1,h2,h3,e _ _ h4,e _ _ h5,h6.same (aD e)⟩
theorem Rs.go(R:Rs K H0 O0 ps σ H O)(e:aH H H'):Rs K H0 O0 ps σ H' O:=
 ⟨R.same.trans e,R.old,R.new,λa ha z=>R.dom a ha (e.free z),R.len,λi s h=>let ⟨v,h1,h2⟩:=R.at_ i s h;⟨v,h1,h2.same e⟩,R.inj⟩
theorem bZ{α:Type}{xs:List α}{i j:Nat}{y x:α}(h:(xs.set i y)[j]?=some x):(i=j/\x=y)\/(i≠j/\xs[j]?=some x):=by
 by_cases e:i=j
 ·subst e;rw[MJ]at h;simp at h;exact .inl ⟨rfl,h.2.symm⟩
 ·rw[GX e]at h;exact .inr ⟨e,h⟩
theorem f_{α:Type}{xs:List α}{i:Nat}{y:α}(h:i<xs.length):(xs.set i y)[i]?=some y:=by rw[MJ];simp[h]
theorem aR{α:Type}{xs:List α}{i:Nat}{y:α}(h:xs[i]?=some y):i<xs.length:=(GB.mp h).1
theorem lA{i:Nat}{u:U}{j:Nat}{xs:List U}(h:(ps.set i (some (.val u)))[j]?=some (some (.own xs))):i≠j/\ps[j]?=some (some (.own xs)):=by
 rcases bZ h with ⟨_,e⟩ |h
 ·cases e
 ·exact h
theorem Rs.set{i:Nat}{v:V}{u:U}(R:Rs K H0 O0 ps σ H O)(r:Rp K (hid H O) v u):Rs K H0 O0 (ps.set i (some (.val u))) (σ.set i (some v)) H O:=by
 refine⟨R.same,R.old,R.new,R.dom,by simp[R.len],λj s h=>?_,λj k xs ys a h1 h2 h3 h4=>?_⟩
 ·rcases bZ h with ⟨e,q⟩ |⟨n,q⟩
  ·subst e;cases q;have hi:=aR h;rw[K8]at hi;exact⟨v,f_ (by rw[R.len];exact hi),r⟩
  ·obtain⟨w,h1,h2⟩:=R.at_ j s q;exact⟨w,by rw[GX n];exact h1,h2⟩
 ·obtain⟨n1,q1⟩:=lA h1;obtain⟨n2,q2⟩:=lA h2;rw[GX n1]at h3;rw[GX n2]at h4;exact R.inj j k xs ys a q1 q2 h3 h4
theorem Rs.drop{i:Nat}{o:Option V}(R:Rs K H0 O0 ps σ H O):Rs K H0 O0 (ps.set i none) (σ.set i o) H O:=by
 have key:∀{j:Nat}{s:Sl},(ps.set i none)[j]?=some (some s)->i≠j/\ps[j]?=some (some s):=λ{j s} h=>by
  rcases bZ h with ⟨_,e⟩ |h
  ·cases e
  ·exact h
 refine⟨R.same,R.old,R.new,R.dom,by simp[R.len],λj s h=>?_,λj k xs ys a h1 h2 h3 h4=>?_⟩
 ·obtain⟨n,q⟩:=key h;obtain⟨w,h1,h2⟩:=R.at_ j s q;exact⟨w,by rw[GX n];exact h1,h2⟩
 ·obtain⟨n1,q1⟩:=key h1;obtain⟨n2,q2⟩:=key h2;rw[GX n1]at h3;rw[GX n2]at h4;exact R.inj j k xs ys a q1 q2 h3 h4
theorem Rs.own{i:Nat}{a:GE}{vs:List V}{xs:List U}(R:Rs K H0 O0 ps σ H O)(e:aH H H')(n:H a=none)(h:H' a=some (.lst vs))(r:Rps K (hid H' (a::O)) vs xs):
  Rs K H0 O0 (ps.set i (some (.own xs))) (σ.set i (some (.ref a))) H' (a::O):=by
 have na:a ∉ O:=λz=>R.dom a z n
 have na0:a ∉ O0:=λz=>na (R.old a z)
 have n0:H0 a=none:=R.same.free n
 have Vq:∀(j:Nat) (ys:List U),ps[j]?=some (some (.own ys))->σ[j]?≠some (some (.ref a)):=λj ys h1 h2=>by
  obtain⟨v,h3,b,ws,h4,h5,_⟩:=R.at_ j _ h1;rw[h2]at h3;cases h3;cases h4;exact na h5
 refine⟨R.same.trans e,λb hb=>Gq _ (R.old b hb),λb hb=>?_,λb hb z=>?_,by simp[R.len],λj s q=>?_,λj k ys zs b h1 h2 h3 h4=>?_⟩
 ·rcases Gx.mp hb with y |y
  ·subst y;exact .inr n0
  ·exact R.new b y
 ·rcases Gx.mp hb with y |y
  ·subst y;rw[h]at z;cases z
  ·exact R.dom b y (e.free z)
 ·rcases bZ q with ⟨e',q'⟩ |⟨ne,q'⟩
  ·subst e';cases q';have hi:=aR q;rw[K8]at hi;exact⟨.ref a,f_ (by rw[R.len];exact hi),a,vs,rfl,Gy,na0,h,r⟩
  ·obtain⟨w,h1,h2⟩:=R.at_ j s q';refine⟨w,by rw[GX ne];exact h1,?_⟩
   cases s with
   |val u=>exact Rp.same (bh e n) h2
   |own ys=>
    obtain⟨b,ws,k1,k2,k3,k4,k5⟩:=h2;exact⟨b,ws,k1,Gq _ k2,k3,e _ _ k4,k5.same (bh e n)⟩
   |pin z u=>exact⟨h2.1,Rp.same (bh e n) h2.2⟩
   |dsk w C b d kvs=>obtain⟨dx,kv,k1,k2,k3,k4,k5,k6⟩:=h2;exact⟨dx,kv,k1,Gq _ k2,k3,e _ _ k4,e _ _ k5,k6.same (bh e n)⟩
 ·rcases bZ h1 with ⟨e1,q1⟩ |⟨n1,q1⟩ <;>rcases bZ h2 with ⟨e2,q2⟩ |⟨n2,q2⟩
  ·rw[<-e1,<-e2]
  ·subst e1;have hi:=aR h3;rw[K8]at hi;rw[f_ hi]at h3;cases h3;rw[GX n2]at h4;exact absurd h4 (Vq k zs q2)
  ·subst e2;have hi:=aR h4;rw[K8]at hi;rw[f_ hi]at h4;cases h4;rw[GX n1]at h3;exact absurd h3 (Vq j ys q1)
  ·rw[GX n1]at h3;rw[GX n2]at h4;exact R.inj j k ys zs b q1 q2 h3 h4
theorem Rs.write{i:Nat}{a:GE}{vs:List V}{xs ys:List U}(R:Rs K H0 O0 ps σ H O)(hp:ps[i]?=some (some (.own xs)))(hs:σ[i]?=some (some (.ref a)))(r:Rps K (hid H O) vs ys):
  Rs K H0 O0 (ps.set i (some (.own ys))) σ (upd H a (.lst vs)) O:=by
 obtain⟨v,h1,b,ws,h2,h3,h4,h5,h6⟩:=R.at_ i _ hp;rw[hs]at h1;cases h1;cases h2;have h0:H0 a=none:=(R.new a h3).resolve_left h4;have eh:hid (upd H a (.lst vs)) O=hid H O:=gC h3;refine⟨R.same.put h0 _,R.old,R.new,λb hb z=>?_,by simp[R.len],λj s q=>?_,λj k zs us b q1 q2 q3 q4=>?_⟩
 ·by_cases e:b=a
  ·subst e;rw[aF]at z;cases z
  ·rw[aE e]at z;exact R.dom b hb z
 ·rcases bZ q with ⟨e',q'⟩ |⟨ne,q'⟩
  ·subst e';cases q';exact⟨.ref a,hs,a,vs,rfl,h3,h4,aF,by rw[eh];exact r⟩
  ·obtain⟨w,k1,k2⟩:=R.at_ j s q';refine⟨w,k1,?_⟩;cases s with
   |val u=>exact (show Rp K (hid (upd H a (.lst vs)) O) w u by rw[eh];exact k2)
   |own zs=>
    obtain⟨b,us,e1,e2,e3,e4,e5⟩:=k2;subst e1;have:b≠a:=λz=>by subst z;exact ne (R.inj i j xs zs b hp q' hs k1)
    exact⟨b,us,rfl,e2,e3,by rw[aE this];exact e4,by rw[eh];exact e5⟩
   |pin z u=>exact⟨k2.1,by rw[eh];exact k2.2⟩
   |dsk w C b d kvs=>
    obtain⟨dx,kv,e1,e2,e3,e4,e5,e6⟩:=k2;exact⟨dx,kv,e1,e2,e3,by rw[aE λz=>by rw[z,h5]at e4;cases e4];exact e4,by rw[aE λz=>by rw[z,h5]at e5;cases e5];exact e5,by rw[eh];exact e6⟩
 ·have c1:∃zs',ps[j]?=some (some (.own zs')):=by
   rcases bZ q1 with ⟨e,_⟩ |⟨_,z⟩
   ·subst e;exact⟨_,hp⟩
   ·exact⟨_,z⟩
  have c2:∃zs',ps[k]?=some (some (.own zs')):=by
   rcases bZ q2 with ⟨e,_⟩ |⟨_,z⟩
   ·subst e;exact⟨_,hp⟩
   ·exact⟨_,z⟩
  obtain⟨_,c1⟩:=c1;obtain⟨_,c2⟩:=c2;exact R.inj j k _ _ b c1 c2 q3 q4
def SubP:PSt->PSt->Prop
 |[],[]=>True
 |none::p,_::q=>SubP p q
 |some s::p,t::q=>t=some s/\SubP p q
 |_,_=>False
theorem SubP.at_:∀{p q:PSt},SubP p q->p.length=q.length/\∀(i:Nat) (s:Sl),p[i]?=some (some s)->q[i]?=some (some s)
 |[],[],_=>⟨rfl,λi s h=>by simp at h⟩
 |none::p,t::q,h=>by
  obtain⟨h1,h2⟩:=SubP.at_ (p:=p) (q:=q) h;refine⟨by simp[h1],λi s e=>?_⟩
  cases i with
  |zero=>simp at e
  |succ i=>exact h2 i s (by simpa using e)
 |some s0::p,t::q,h=>by
  obtain⟨h0,h⟩:=h;obtain⟨h1,h2⟩:=SubP.at_ (p:=p) (q:=q) h;refine⟨by simp[h1],λi s e=>?_⟩
  cases i with
  |zero=>simp at e;subst e;rw[h0];rfl
  |succ i=>exact h2 i s (by simpa using e)
 |[],_::_,h=>h.elim
 |none::_,[],h=>h.elim
 |some _::_,[],h=>h.elim
theorem Rs.sub{Su:PSt}(R:Rs K H0 O0 ps σ H O)(h:SubP Su ps):Rs K H0 O0 Su σ H O:=by
 obtain⟨h1,h2⟩:=h.at_;exact⟨R.same,R.old,R.new,R.dom,R.len.trans h1.symm,λi s e=>R.at_ i s (h2 i s e),λi j xs ys a e1 e2=>R.inj i j xs ys a (h2 _ _ e1) (h2 _ _ e2)⟩
end
def Ev(X:Cx)(H0:Hp)(O0:List GE)(ps:PSt)(e:Expr)(u:U):Prop:=
 PE X e λσ H Q=>∃O,Rs X.K H0 O0 ps σ H O/\∀v H',aH H H'->Rp X.K (hid H' O) v u->Q v H'
def EvN(X:Cx)(H0:Hp)(O0:List GE)(ps:PSt)(e:Expr)(xs:List U):Prop:=
 PE X e λσ H Q=>∃O,Rs X.K H0 O0 ps σ H O/\∀a vs H',aH H H'->H a=none->H' a=some (.lst vs)->Rps X.K (hid H' (a::O)) vs xs->Q (.ref a) H'
def Tt(X:Cx)(H0:Hp)(O0:List GE)(ps:PSt)(e:Expr)(b:Bool):Prop:=
 PT X e λσ H Q=>∃O,Rs X.K H0 O0 ps σ H O/\∀H',aH H H'->Q b H'
def Tw(X:Cx)(H0:Hp)(O0:List GE)(ps:PSt)(e:Expr)(b:Bool):Prop:=
 PW X e λσ H Q=>∃O,Rs X.K H0 O0 ps σ H O/\∀H',aH H H'->Q b H'
def EvA(X:Cx)(H0:Hp)(O0:List GE)(ps:PSt)(es:List Expr)(us:List U):Prop:=
 PA X es λσ H Q=>∃O,Rs X.K H0 O0 ps σ H O/\∀vs H',aH H H'->Rps X.K (hid H' O) vs us->Q vs H'
theorem PE.mono{X:Cx}{e:Expr}{t t':TE}(h:PE X e t)(m:∀σ H Q,t' σ H Q->t σ H Q):PE X e t':=λpins s σ H Q I q=>h pins s σ H Q I (m σ H Q q)
theorem PT.mono{X:Cx}{e:Expr}{t t':TT}(h:PT X e t)(m:∀σ H Q,t' σ H Q->t σ H Q):PT X e t':=λpins s σ H Q I q=>h pins s σ H Q I (m σ H Q q)
theorem PW.mono{X:Cx}{e:Expr}{t t':TT}(h:PW X e t)(m:∀σ H Q,t' σ H Q->t σ H Q):PW X e t':=λwh pins s σ H Q I q=>h wh pins s σ H Q I (m σ H Q q)
theorem PA.mono{X:Cx}{e:List Expr}{t t':TA}(h:PA X e t)(m:∀σ H Q,t' σ H Q->t σ H Q):PA X e t':=λpos pins s σ H Q I q=>h pos pins s σ H Q I (m σ H Q q)
theorem PS.mono{X:Cx}{e:Iy}{t t':TS}(h:PS X e t)(m:∀D σ H,t' D σ H->t D σ H):PS X e t':=λpins s σ H D I q=>h pins s σ H D I (m D σ H q)
theorem PSs.mono{X:Cx}{e:List Iy}{t t':TS}(h:PSs X e t)(m:∀D σ H,t' D σ H->t D σ H):PSs X e t':=λpins s σ H D I q=>h pins s σ H D I (m D σ H q)
variable {X:Cx}{es:List Expr}{pos:Pos}{u:U}{xs:List U}{ys:List U}{us:List U}
section
variable {ps:PSt}{a b c e:Expr}{p:Pos}{x y:U}{i j:Int}
theorem EvN.ev(h:EvN X H0 O0 ps e xs):Ev X H0 O0 ps e (.lst xs):=PE.mono h λσ H Q ⟨O,R,k⟩=>⟨O,R,λa vs H' s n h r=>by
 have na:a ∉ O:=λz=>R.dom a z n
 have less:aH (hid H' (a::O)) (hid H' O):=aI λb hb=>Gq _ hb
 exact k _ H' s (.lst (b4 h na) (r.same less).len (r.same less).at_)⟩
theorem aa(i:Nat){x:Str}{u:U}(h:ps[i]?=some (some (.val u)))(hN:X.N[i]?=some x:=by rfl)(hv:Vis X.env.scope x:=by first |exact Or.inl rfl |exact Or.inr (Or.inl rfl) |exact Or.inr (Or.inr rfl))(hd:(x==("__debug__":Str))=false:=by decide)
  (R8:(x==("__classdict__":Str))=false:=by decide):Ev X H0 O0 ps (.Name x pos) u:=PE.mono (cy hN hv hd R8) λσ H Q ⟨O,R,k⟩=>by
 obtain⟨v,h1,h2⟩:=R.at_ i _ h;exact⟨v,h1,k v H (.refl H) h2⟩
theorem af{i j pos}:Ev X H0 O0 ps (.Constant (.int i) j pos) (.int i):=PE.mono Df λ_ H _ ⟨_,_,k⟩=>k _ H (.refl H) (.int i)
theorem ro{i j pos}:Ev X H0 O0 ps (.Constant (.bool i) j pos) (.bl i):=PE.mono Fd λ_ H _ ⟨_,_,k⟩=>k _ H (.refl H) (.bl i)
theorem ux{j pos}:Ev X H0 O0 ps (.Constant .none j pos) .non:=PE.mono DG λ_ H _ ⟨_,_,k⟩=>k _ H (.refl H) .non
theorem aA{i j pos}:Ev X H0 O0 ps (.Constant (.str i) j pos) (.str i):=PE.mono DX λ_ H _ ⟨_,_,k⟩=>k _ H (.refl H) (.str i)
theorem Ds{x:Str}{n:String}{pos:Pos}(hg:Gl X x)(hm:X.mg x=none)(hv:IF x=some (.type n))(hn:x≠"__name__":=by decide)(hd:(x==("__debug__":Str))=false:=by decide):Ev X H0 O0 ps (.Name x pos) (.ty (.nm n)):=
 PE.mono (EK hg hm hv hn hd) λ_ H _ ⟨_,_,k⟩=>k _ H (.refl H) (.ty n)
theorem two{ta tb:TE}{σ:St}{H:Hp}{Q:VK}{O:List GE}{r:R2}(R:Rs X.K H0 O0 ps σ H O)
  (ha:∀σ H Q,(∃O,Rs X.K H0 O0 ps σ H O/\∀v H',aH H H'->Rp X.K (hid H' O) v x->Q v H')->ta σ H Q) (hb:∀σ H Q,(∃O,Rs X.K H0 O0 ps σ H O/\∀v H',aH H H'->Rp X.K (hid H' O) v y->Q v H')->tb σ H Q)
  (h:∀v w H',aH H H'->Rs X.K H0 O0 ps σ H' O->Rp X.K (hid H' O) v x->Rp X.K (hid H' O) w y->r v w H' Q):tOp r ta tb σ H Q:=
 ha σ H _ ⟨O,R,λv H1 s1 r1=>hb σ H1 _ ⟨O,R.go s1,λw H2 s2 r2=>h v w H2 (s1.trans s2) (R.go (s1.trans s2)) (r1.same (aD s2)) r2⟩⟩
theorem Cm{op:QJ}{g:Int->Int->Int}(ho:OpR X (KI op) (rI0 λi j=>.int (g i j)))(ha:Ev X H0 O0 ps a (.int i))(hb:Ev X H0 O0 ps b (.int j)):Ev X H0 O0 ps (.BinOp a op b pos) (.int (g i j)):=
 PE.mono (pM ho ha hb) λσ H Q ⟨O,R,k⟩=>two (x:=.int i) (y:=.int j) R (λ_ _ _ z=>z) (λ_ _ _ z=>z) λv w H' s _ r1 r2=>by
  cases r1;cases r2;exact⟨i,j,rfl,rfl,k _ H' s (.int _)⟩
theorem o_{op:QJ}{C:Int->Int->Prop}{g:Int->Int->Int}(ho:OpR X (KI op) (rI C λi j=>.int (g i j)))(ha:Ev X H0 O0 ps a (.int i))(hb:Ev X H0 O0 ps b (.int j))(hc:C i j):Ev X H0 O0 ps (.BinOp a op b pos) (.int (g i j)):=
 PE.mono (pM ho ha hb) λσ H Q ⟨O,R,k⟩=>two (x:=.int i) (y:=.int j) R (λ_ _ _ z=>z) (λ_ _ _ z=>z) λv w H' s _ r1 r2=>by
  cases r1;cases r2;exact⟨i,j,rfl,rfl,hc,k _ H' s (.int _)⟩
theorem dj(ha:Ev X H0 O0 ps a (.int i))(hb:Ev X H0 O0 ps b (.int j)):Ev X H0 O0 ps (.BinOp a .Add b pos) (.int (i+j)):=Cm Er ha hb
theorem bP(ha:Ev X H0 O0 ps a (.int i))(hb:Ev X H0 O0 ps b (.int j)):Ev X H0 O0 ps (.BinOp a .Sub b pos) (.int (i-j)):=Cm Dr ha hb
theorem bH(ha:Ev X H0 O0 ps a (.int i))(hb:Ev X H0 O0 ps b (.int j))(hc:IntMulOk i j):Ev X H0 O0 ps (.BinOp a .Mult b pos) (.int (i*j)):=o_ A7 ha hb hc
theorem iw(ha:Ev X H0 O0 ps a (.int i))(hb:Ev X H0 O0 ps b (.int j))(hc:CO i j):Ev X H0 O0 ps (.BinOp a .FloorDiv b pos) (.int (i/j)):=o_ y8 ha hb hc
theorem C3(ha:Ev X H0 O0 ps a (.int i))(hb:Ev X H0 O0 ps b (.int j))(hc:CQ i j):Ev X H0 O0 ps (.BinOp a .FloorDiv b pos) (.int (i.fdiv j)):=o_ Ae ha hb hc
theorem d9(ha:Ev X H0 O0 ps a (.int i))(hb:Ev X H0 O0 ps b (.int j))(hc:0<j):Ev X H0 O0 ps (.BinOp a .Mod b pos) (.int (i%j)):=o_ DM ha hb hc
theorem o5(ha:Ev X H0 O0 ps a (.int i))(hb:Ev X H0 O0 ps b (.int j))(hc:Fu i j):Ev X H0 O0 ps (.BinOp a .Pow b pos) (.int (i ^ j.toNat)):=o_ Dz ha hb hc
theorem cQ(ha:Ev X H0 O0 ps a (.int i)):Ev X H0 O0 ps (.UnaryOp .USub a pos) (.int (-i)):=
 PE.mono (FL DV ha) λσ H Q ⟨O,R,k⟩=>⟨O,R,λv H' s r=>by cases r;exact⟨i,rfl,k _ H' s (.int _)⟩⟩
end
mutual
def eqW:U->U->Bool
 | .non,.non=>true
 | .bl a,.bl b=>a==b
 | .bl a,.int j=>(if a then 1 else 0)==j
 | .int i,.bl b=>i==(if b then 1 else 0)
 | .int i,.int j=>i==j
 | .str a,.str b=>a==b
 | .tup xs,.tup ys=>eqWs xs ys
 | .lst xs,.lst ys=>eqWs xs ys
 | .lst xs,.scr ys=>eqWs xs ys
 | .scr xs,.lst ys=>eqWs xs ys
 | .scr xs,.scr ys=>eqWs xs ys
 |_,_=>false
def eqWs:List U->List U->Bool
 |[],[]=>true
 |x::xs,y::ys=>eqW x y && eqWs xs ys
 |_,_=>false
end
mutual
def okU:Nat->U->Bool
 |_,.ty _=>false
 |_,.dic=>false
 |0,.tup _=>false
 |0,.lst _=>false
 |0,.scr _=>false
 |n+1,.tup xs=>okUs n xs
 |n+1,.lst xs=>okUs n xs
 |n+1,.scr xs=>okUs n xs
 |_,_=>true
def okUs:Nat->List U->Bool
 |_,[]=>true
 |n,x::xs=>okU n x && okUs n xs
end
theorem kc:∀{n:Nat}{xs:List U}{i:Nat}{x:U},okUs n xs=true->xs[i]?=some x->okU n x=true
 |n,[],i,x,_,h=>by simp at h
 |n,y::xs,0,x,h,e=>by simp at e;subst e;simp[okUs]at h;exact h.1
 |n,y::xs,i+1,x,h,e=>by simp[okUs]at h;exact kc (i:=i) h.2 (by simpa using e)
theorem du:∀(xs ys:List U),((HJ (min xs.length ys.length)).all (λj=>eqW (xs.getD j .non) (ys.getD j .non)) && xs.length==ys.length)=eqWs xs ys
 |[],[]=>rfl
 |[],y::ys=>by simp[eqWs]
 |x::xs,[]=>by simp[eqWs]
 |x::xs,y::ys=>by
  have ih:=du xs ys;rw[eqWs,<-ih];simp only[GI,Nat.succ_min_succ];rw[List.range_succ_eq_map,LX,QY];have e:((xs.length+1==ys.length+1))=(xs.length==ys.length):=by simp
  rw[e,Bool.and_assoc];rfl
theorem Rp.one{X:Cx}{pins:List (GE×Obj)}{σ:St}{H:Hp}{s:Gs}(I:Inv X pins σ H s){v:V}{x:U}(h:Rp X.K H v x):∀{n:Nat}{y:U},Rp X.K H v y->okU n x=true->eqW x y=true:=by
 have key:∀{vs ws:List V}{xs ys:List U},vs=ws->vs.length=xs.length->ws.length=ys.length->(∀(i:Nat) (x y:U),xs[i]?=some x->ys[i]?=some y->eqW x y=true)->eqWs xs ys=true:=λ{vs ws xs ys} e h1 h2 hh=>by
  subst e;rw[<-du,Hu,mZ];refine⟨λj hj=>?_,by simp[<-h1,<-h2]⟩
  have j1:j<xs.length:=by lia
  have j2:j<ys.length:=by lia
  rw[G0,Gm j1,G0,Gm j2];exact hh j _ _ (Gm j1) (Gm j2)
 have UM:∀{vs:List V}{xs ys:List U}{n:Nat},vs.length=xs.length->(∀(i:Nat) (v:V) (x:U),vs[i]?=some v->xs[i]?=some x->∀{n:Nat}{y:U},Rp X.K H v y->okU n x=true->eqW x y=true)->(∀(i:Nat) (v:V) (y:U),vs[i]?=some v->ys[i]?=some y->Rp X.K H v y)->okUs n xs=true->
   ∀(i:Nat) (x y:U),xs[i]?=some x->ys[i]?=some y->eqW x y=true:=λ{vs xs ys n} h1 ih hi ok i x y e1 e2=>by
  have RU:i<vs.length:=by rw[h1];exact aR e1
  exact ih i _ x (Gm RU) e1 (hi i _ y (Gm RU) e2) (kc ok e1)
 induction h with
 |non=>intro n y q _;cases q;rfl
 |bl b=>intro n y q _;cases q;simp[eqW]
 |int i=>intro n y q _;cases q;simp[eqW]
 |str i=>intro n y q _;cases q;simp[eqW]
 |ty=>intro n y q ok;simp[okU]at ok
 |dic=>intro n y q ok;simp[okU]at ok
 |xc=>intro n y q ok;simp[okU]at ok
 | @scr a vs xs hq hl hi ih=>
  intro n y q ok;cases n with
  |zero=>simp[okU]at ok
  |succ n=>
   rw[okU]at ok;cases q with
   |scr R5 RZ RW=>rw[eqW];have e:=I.list_inj hq R5;subst e;exact key rfl hl RZ (UM hl (λi v x a b=>ih i v x a b) RW ok)
   |lst R5 RZ RW=>rw[eqW];have e:=I.list_inj hq (SqL.of R5);subst e;exact key rfl hl RZ (UM hl (λi v x a b=>ih i v x a b) RW ok)
   |xc R5 kk=>
    exfalso
    obtain⟨_,_,pl,_⟩:=I.list hq;obtain⟨o,n,e,c,_⟩:=pl;exact PySem.W.XcOk.off (I.hok _ _ R5).1 e c
   |dic R5=>
    exfalso
    obtain⟨_,_,pl,_⟩:=I.list hq;obtain⟨o,n,e,c,_⟩:=pl;obtain⟨_,_,_,_,o',_,_,e',ex,_⟩:=I.hok _ _ R5;rw[e]at e';cases e';rw[ex.1]at c;exact absurd (Qd c) (by decide)
   |tup R5 RZ RW=>
    exfalso
    obtain⟨_,_,pl,_⟩:=I.list hq;obtain⟨_,_,pt,_⟩:=I.tuple R5;exact SeqAt.ne_of_list_tuple pl.isList pt rfl
 | @tup a vs xs hq hl hi ih=>
  intro n y q ok;cases n with
  |zero=>simp[okU]at ok
  |succ n=>
   rw[okU]at ok;cases q with
   |tup R5 RZ RW=>rw[eqW];have e:=I.tuple_inj hq R5;subst e;exact key rfl hl RZ (UM hl (λi v x a b=>ih i v x a b) RW ok)
   |scr R5 RZ RW=>
    exfalso
    obtain⟨_,_,pl,_⟩:=I.list R5;obtain⟨_,_,pt,_⟩:=I.tuple hq;exact SeqAt.ne_of_list_tuple pl.isList pt rfl
   |lst R5 RZ RW=>
    exfalso
    obtain⟨_,_,pl,_⟩:=I.list (SqL.of R5);obtain⟨_,_,pt,_⟩:=I.tuple hq;exact SeqAt.ne_of_list_tuple pl.isList pt rfl
   |xc R5 kk=>
    exfalso
    obtain⟨_,_,pt,_⟩:=I.tuple hq;obtain⟨o,e,c,_⟩:=pt;exact PySem.W.XcOk.off (I.hok _ _ R5).1 e c
   |dic R5=>
    exfalso
    obtain⟨_,_,pt,_⟩:=I.tuple hq;obtain⟨o,e,c,_⟩:=pt;obtain⟨_,_,_,_,o',_,_,e',ex,_⟩:=I.hok _ _ R5;rw[e]at e';cases e';rw[ex.1]at c;exact absurd (Qd c) (by decide)
 | @lst a vs xs hq hl hi ih=>
  intro n y q ok;cases n with
  |zero=>simp[okU]at ok
  |succ n=>
   rw[okU]at ok;cases q with
   |lst R5 RZ RW=>rw[eqW];have e:=I.list_inj (SqL.of hq) (SqL.of R5);subst e;exact key rfl hl RZ (UM hl (λi v x a b=>ih i v x a b) RW ok)
   |scr R5 RZ RW=>rw[eqW];have e:=I.list_inj (SqL.of hq) R5;subst e;exact key rfl hl RZ (UM hl (λi v x a b=>ih i v x a b) RW ok)
   |tup R5 RZ RW=>
    exfalso
    obtain⟨_,_,pl,_⟩:=I.list (SqL.of hq);obtain⟨_,_,pt,_⟩:=I.tuple R5;exact SeqAt.ne_of_list_tuple pl.isList pt rfl
   |xc R5 kk=>
    exfalso
    rw[hq]at R5;cases R5
   |dic R5=>
    exfalso
    rw[hq]at R5;cases R5
theorem IsU.list{X:Cx}{pins:List (GE×Obj)}{σ:St}{H:Hp}{s:Gs}(I:Inv X pins σ H s){a:GE}{xs:List U}{vs:List V}(h:SqL X.K H a vs)(hl:vs.length=xs.length):∃RB:List Gr,aK vs RB/\s.heap.IsList a RB.toArray/\RB.length=xs.length:=by
 obtain⟨RB,r,pl,_⟩:=I.list h;exact⟨RB,r,pl.isList,by rw[<-r.length,hl]⟩
theorem IsU.tup{X:Cx}{pins:List (GE×Obj)}{σ:St}{H:Hp}{s:Gs}(I:Inv X pins σ H s){a:GE}{xs:List U}{vs:List V}(h:SqT X.K H a vs)(hl:vs.length=xs.length):∃RB:List Gr,aK vs RB/\Rw s.heap a RB.toArray/\RB.length=xs.length:=by
 obtain⟨RB,r,pl,_⟩:=I.tuple h;exact⟨RB,r,pl,by rw[<-r.length,hl]⟩
variable {pins:List (GE×Obj)}
section
variable {σ:St}{s:Gs}
theorem cA(I:Inv X pins σ H s){n:Nat}{vs ws:List V}{xs ys:List U}{RB RI:List Gr}(r1:aK vs RB)(r2:aK ws RI)(SJ:vs.length=xs.length)(R7:ws.length=ys.length)
  (h1:∀(i:Nat) (v:V) (x:U),vs[i]?=some v->xs[i]?=some x->Rp X.K H v x) (h2:∀(i:Nat) (v:V) (x:U),ws[i]?=some v->ys[i]?=some x->Rp X.K H v x) (ok1:okUs n xs=true) (ok2:okUs n ys=true) {A:Ha}
  (Uo:∀(x y:U) (v w:V) (p q:Gr),Rp X.K H v x->Rp X.K H w y->aU v p->aU w q->okU n x=true->okU n y=true->SeqAt.RcAt A.in1 s p q (eqW x y)) (hu:A.units+n+1<Ku)
  (j:Nat) (j1:j<RB.length) (j2:j<RI.length):SeqAt.EqAt A.in1 s RB[j] RI[j] (eqW (xs.getD j .non) (ys.getD j .non)):=by
 have a1:j<vs.length:=by rw[r1.length];exact j1
 have a2:j<ws.length:=by rw[r2.length];exact j2
 have b1:j<xs.length:=by lia
 have b2:j<ys.length:=by lia
 rw[G0,Gm b1,G0,Gm b2,JD,JD];have R1:=h1 j vs[j] xs[j] (Gm a1) (Gm b1);have R2:=h2 j ws[j] ys[j] (Gm a2) (Gm b2);obtain⟨u1,e1,q1⟩:=r1.get (Gm a1);obtain⟨u2,e2,q2⟩:=r2.get (Gm a2);rw[Gm j1]at e1;rw[Gm j2]at e2;cases e1;cases e2;have o1:=kc ok1 (Gm b1);have o2:=kc ok2 (Gm b2);generalize vs[j]=v at *;generalize ws[j]=w at *;generalize RB[j]=p at *;generalize RI[j]=q at *;generalize xs[j]=x at *;generalize ys[j]=y at *;have main:=Uo x y v w p q R1 R2 q1 q2 o1 o2
 have Sk:∀(a b:GE),p=.ref a->q=.ref b->SeqAt.EqAt A.in1 s p q (eqW x y):=λa b ea eb=>by
  subst ea eb;by_cases e:a=b
  ·subst e;have e2:v=w:=q1.inj q2;subst e2;rw[R1.one I R2 o1];exact SeqAt.EqAt.same _
  ·exact SeqAt.EqAt.of_refs e main
 have RQ:A.in1.units<Ku:=by show A.units+1<_;lia
 cases R1 with
 |non=>
  cases (show p=GU from q1)
  cases R2 with
  |non=>cases (show q=GU from q2);exact SeqAt.EqAt.same _
  |bl b=>cases (show q=Hi b from q2);exact SeqAt.EqAt.none_bool b
  |int i=>obtain⟨t,rfl⟩:=(show ∃t,q=He i t from q2);exact SeqAt.EqAt.none_int i t
  |str i=>obtain⟨t,rfl⟩:=(show ∃t,q=Ho i t from q2);exact SeqAt.EqAt.none_str i t
  |ty=>simp[okU]at o2
  |dic=>simp[okU]at o2
  |xc=>simp[okU]at o2
  |scr hq hl hi=>cases q2;obtain⟨_,_,pl,_⟩:=IsU.list I hq hl;exact SeqAt.EqAt.none_list pl RQ
  |tup hq hl hi=>cases q2;obtain⟨_,_,pl,_⟩:=IsU.tup I hq hl;exact SeqAt.EqAt.none_tuple pl RQ
  |lst hq hl hi=>cases q2;obtain⟨_,_,pl,_⟩:=IsU.list I (SqL.of hq) hl;exact SeqAt.EqAt.none_list pl RQ
 |bl c=>
  cases (show p=Hi c from q1)
  cases R2 with
  |non=>cases (show q=GU from q2);exact SeqAt.EqAt.bool_none c
  |bl b=>cases (show q=Hi b from q2);exact SeqAt.EqAt.bool_bool c b
  |int i=>obtain⟨t,rfl⟩:=(show ∃t,q=He i t from q2);exact SeqAt.EqAt.bool_int c i t
  |str i=>obtain⟨t,rfl⟩:=(show ∃t,q=Ho i t from q2);exact SeqAt.EqAt.bool_str c i t
  |ty=>simp[okU]at o2
  |dic=>simp[okU]at o2
  |xc=>simp[okU]at o2
  |scr hq hl hi=>cases q2;obtain⟨_,_,pl,_⟩:=IsU.list I hq hl;exact SeqAt.EqAt.bool_list c pl RQ
  |tup hq hl hi=>cases q2;obtain⟨_,_,pl,_⟩:=IsU.tup I hq hl;exact SeqAt.EqAt.bool_tuple c pl RQ
  |lst hq hl hi=>cases q2;obtain⟨_,_,pl,_⟩:=IsU.list I (SqL.of hq) hl;exact SeqAt.EqAt.bool_list c pl RQ
 |int c=>
  obtain⟨t0,rfl⟩:=(show ∃t,p=He c t from q1)
  cases R2 with
  |non=>cases (show q=GU from q2);exact SeqAt.EqAt.int_none c t0
  |bl b=>cases (show q=Hi b from q2);exact SeqAt.EqAt.int_bool c t0 b
  |int i=>obtain⟨t,rfl⟩:=(show ∃t,q=He i t from q2);exact SeqAt.EqAt.int_int c t0 i t
  |str i=>obtain⟨t,rfl⟩:=(show ∃t,q=Ho i t from q2);exact SeqAt.EqAt.int_str c t0 i t
  |ty=>simp[okU]at o2
  |dic=>simp[okU]at o2
  |xc=>simp[okU]at o2
  |scr hq hl hi=>cases q2;obtain⟨_,_,pl,_⟩:=IsU.list I hq hl;exact SeqAt.EqAt.int_list c t0 pl RQ
  |tup hq hl hi=>cases q2;obtain⟨_,_,pl,_⟩:=IsU.tup I hq hl;exact SeqAt.EqAt.int_tuple c t0 pl RQ
  |lst hq hl hi=>cases q2;obtain⟨_,_,pl,_⟩:=IsU.list I (SqL.of hq) hl;exact SeqAt.EqAt.int_list c t0 pl RQ
 |str c=>
  obtain⟨t0,rfl⟩:=(show ∃t,p=Ho c t from q1)
  cases R2 with
  |non=>cases (show q=GU from q2);exact SeqAt.EqAt.str_none c t0
  |bl b=>cases (show q=Hi b from q2);exact SeqAt.EqAt.str_bool c t0 b
  |int i=>obtain⟨t,rfl⟩:=(show ∃t,q=He i t from q2);exact SeqAt.EqAt.str_int c t0 i t
  |str i=>obtain⟨t,rfl⟩:=(show ∃t,q=Ho i t from q2);exact SeqAt.EqAt.str_str c t0 i t
  |ty=>simp[okU]at o2
  |dic=>simp[okU]at o2
  |xc=>simp[okU]at o2
  |scr hq hl hi=>cases q2;obtain⟨_,_,pl,_⟩:=IsU.list I hq hl;exact SeqAt.EqAt.str_list c t0 pl RQ
  |tup hq hl hi=>cases q2;obtain⟨_,_,pl,_⟩:=IsU.tup I hq hl;exact SeqAt.EqAt.str_tuple c t0 pl RQ
  |lst hq hl hi=>cases q2;obtain⟨_,_,pl,_⟩:=IsU.list I (SqL.of hq) hl;exact SeqAt.EqAt.str_list c t0 pl RQ
 |ty=>simp[okU]at o1
 |dic=>simp[okU]at o1
 |xc=>simp[okU]at o1
 | @scr a vs xs hq hl hi=>
  cases q1;obtain⟨_,_,pl,_⟩:=IsU.list I hq hl;cases R2 with
  |non=>cases (show q=GU from q2);exact SeqAt.EqAt.list_none pl RQ
  |bl b=>cases (show q=Hi b from q2);exact SeqAt.EqAt.list_bool b pl RQ
  |int i=>obtain⟨t,rfl⟩:=(show ∃t,q=He i t from q2);exact SeqAt.EqAt.list_int i t pl RQ
  |str i=>obtain⟨t,rfl⟩:=(show ∃t,q=Ho i t from q2);exact SeqAt.EqAt.list_str i t pl RQ
  |ty=>simp[okU]at o2
  |dic=>simp[okU]at o2
  |xc=>simp[okU]at o2
  |scr=>exact Sk _ _ rfl q2
  |tup=>exact Sk _ _ rfl q2
  |lst=>exact Sk _ _ rfl q2
 | @lst a vs xs hq hl hi=>
  cases q1;obtain⟨_,_,pl,_⟩:=IsU.list I (SqL.of hq) hl;cases R2 with
  |non=>cases (show q=GU from q2);exact SeqAt.EqAt.list_none pl RQ
  |bl b=>cases (show q=Hi b from q2);exact SeqAt.EqAt.list_bool b pl RQ
  |int i=>obtain⟨t,rfl⟩:=(show ∃t,q=He i t from q2);exact SeqAt.EqAt.list_int i t pl RQ
  |str i=>obtain⟨t,rfl⟩:=(show ∃t,q=Ho i t from q2);exact SeqAt.EqAt.list_str i t pl RQ
  |ty=>simp[okU]at o2
  |dic=>simp[okU]at o2
  |xc=>simp[okU]at o2
  |scr=>exact Sk _ _ rfl q2
  |tup=>exact Sk _ _ rfl q2
  |lst=>exact Sk _ _ rfl q2
 | @tup a vs xs hq hl hi=>
  cases q1;obtain⟨_,_,pl,_⟩:=IsU.tup I hq hl;cases R2 with
  |non=>cases (show q=GU from q2);exact SeqAt.EqAt.tuple_none pl RQ
  |bl b=>cases (show q=Hi b from q2);exact SeqAt.EqAt.tuple_bool b pl RQ
  |int i=>obtain⟨t,rfl⟩:=(show ∃t,q=He i t from q2);exact SeqAt.EqAt.tuple_int i t pl RQ
  |str i=>obtain⟨t,rfl⟩:=(show ∃t,q=Ho i t from q2);exact SeqAt.EqAt.tuple_str i t pl RQ
  |ty=>simp[okU]at o2
  |dic=>simp[okU]at o2
  |xc=>simp[okU]at o2
  |scr=>exact Sk _ _ rfl q2
  |tup=>exact Sk _ _ rfl q2
  |lst=>exact Sk _ _ rfl q2
theorem iT{A:Ha}{n:Nat}{a b:GE}{xs ys:List U}{RB RI:List Gr}(p1:s.heap.IsList a RB.toArray)(p2:s.heap.IsList b RI.toArray)(l1:RB.length=xs.length)(l2:RI.length=ys.length)(hu:A.units+n<Ku)
  (he:∀(j:Nat) (j1:j<RB.length) (j2:j<RI.length),SeqAt.EqAt A.in1 s RB[j] RI[j] (eqW (xs.getD j .non) (ys.getD j .non))):SeqAt.RcAt A s (.ref a) (.ref b) (eqWs xs ys):=by
 by_cases hl:RB.length=RI.length
 ·have:=SeqAt.RcAt.lists (A:=A) (s:=s) (e:=λj=>eqW (xs.getD j .non) (ys.getD j .non)) p1 p2 (by simpa using hl) (by lia) (λj h1 h2=>by simpa using he j (by simpa using h1) (by simpa using h2))
  rw[<-du,<-l1,<-l2,hl,QZ,beq_self_eq_true,QN]
  rwa [GN,hl]at this
 ·have:=SeqAt.RcAt.lists_lengths (A:=A) (s:=s) p1 p2 (by simpa using hl) (by lia)
  rw[<-du,<-l1,<-l2,show (RB.length==RI.length)=false by simpa using hl,NY]
  exact this
theorem AW{A:Ha}{n:Nat}{a b:GE}{xs ys:List U}{RB RI:List Gr}(p1:Rw s.heap a RB.toArray)(p2:Rw s.heap b RI.toArray)(l1:RB.length=xs.length)(l2:RI.length=ys.length)(hu:A.units+n<Ku)
  (he:∀(j:Nat) (j1:j<RB.length) (j2:j<RI.length),SeqAt.EqAt A.in1 s RB[j] RI[j] (eqW (xs.getD j .non) (ys.getD j .non))):SeqAt.RcAt A s (.ref a) (.ref b) (eqWs xs ys):=by
 have:=SeqAt.RcAt.tuples (A:=A) (s:=s) (e:=λj=>eqW (xs.getD j .non) (ys.getD j .non)) p1 p2 (by lia) (λj h1 h2=>by simpa using he j (by simpa using h1) (by simpa using h2))
 rw[GN,GN,l1,l2,du]at this;exact this
theorem Fb(I:Inv X pins σ H s):∀(n:Nat) (A:Ha) (x y:U) (v w:V) (p q:Gr),Rp X.K H v x->Rp X.K H w y->aU v p->aU w q->okU n x=true->okU n y=true->A.units+n<Ku->SeqAt.RcAt A s p q (eqW x y):=by
 intro n
 induction n with
 |zero=>
  intro A x y v w p q R1 R2 q1 q2 o1 o2 hu;cases R1 with
  |non=>
   cases (show p=GU from q1)
   cases R2 with
   |non=>cases (show q=GU from q2);exact SeqAt.RcAt.none_none
   |bl b=>cases (show q=Hi b from q2);exact SeqAt.RcAt.none_bool b
   |int i=>obtain⟨t,rfl⟩:=(show ∃t,q=He i t from q2);exact SeqAt.RcAt.none_int i t
   |str i=>obtain⟨t,rfl⟩:=(show ∃t,q=Ho i t from q2);exact SeqAt.RcAt.none_str i t
   |_=>simp[okU]at o2
  |bl c=>
   cases (show p=Hi c from q1)
   cases R2 with
   |non=>cases (show q=GU from q2);exact SeqAt.RcAt.bool_none c
   |bl b=>cases (show q=Hi b from q2);exact SeqAt.RcAt.bool_bool c b
   |int i=>obtain⟨t,rfl⟩:=(show ∃t,q=He i t from q2);exact SeqAt.RcAt.bool_int c i t
   |str i=>obtain⟨t,rfl⟩:=(show ∃t,q=Ho i t from q2);exact SeqAt.RcAt.bool_str c i t
   |_=>simp[okU]at o2
  |int c=>
   obtain⟨t0,rfl⟩:=(show ∃t,p=He c t from q1)
   cases R2 with
   |non=>cases (show q=GU from q2);exact SeqAt.RcAt.int_none c t0
   |bl b=>cases (show q=Hi b from q2);exact SeqAt.RcAt.int_bool c t0 b
   |int i=>obtain⟨t,rfl⟩:=(show ∃t,q=He i t from q2);exact SeqAt.RcAt.int_int c t0 i t
   |str i=>obtain⟨t,rfl⟩:=(show ∃t,q=Ho i t from q2);exact SeqAt.RcAt.int_str c t0 i t
   |_=>simp[okU]at o2
  |str c=>
   obtain⟨t0,rfl⟩:=(show ∃t,p=Ho c t from q1)
   cases R2 with
   |non=>cases (show q=GU from q2);exact SeqAt.RcAt.str_none c t0
   |bl b=>cases (show q=Hi b from q2);exact SeqAt.RcAt.str_bool c t0 b
   |int i=>obtain⟨t,rfl⟩:=(show ∃t,q=He i t from q2);exact SeqAt.RcAt.str_int c t0 i t
   |str i=>obtain⟨t,rfl⟩:=(show ∃t,q=Ho i t from q2);exact SeqAt.RcAt.str_str c t0 i t
   |_=>simp[okU]at o2
  |_=>simp[okU]at o1
 |succ n ih=>
  intro A x y v w p q R1 R2 q1 q2 o1 o2 hu;have RQ:A.units<Ku:=by lia
  have Uo:∀(x y:U) (v w:V) (p q:Gr),Rp X.K H v x->Rp X.K H w y->aU v p->aU w q->okU n x=true->okU n y=true->SeqAt.RcAt A.in1 s p q (eqW x y):=λx y v w p q r1 r2 k1 k2 z1 z2=>ih A.in1 x y v w p q r1 r2 k1 k2 z1 z2 (by show A.units+1+n<_;lia)
  cases R1 with
  |non=>
   cases (show p=GU from q1)
   cases R2 with
   |non=>cases (show q=GU from q2);exact SeqAt.RcAt.none_none
   |bl b=>cases (show q=Hi b from q2);exact SeqAt.RcAt.none_bool b
   |int i=>obtain⟨t,rfl⟩:=(show ∃t,q=He i t from q2);exact SeqAt.RcAt.none_int i t
   |str i=>obtain⟨t,rfl⟩:=(show ∃t,q=Ho i t from q2);exact SeqAt.RcAt.none_str i t
   |ty=>simp[okU]at o2
   |dic=>simp[okU]at o2
   |xc=>simp[okU]at o2
   |scr hq hl hi=>cases q2;obtain⟨_,_,pl,_⟩:=IsU.list I hq hl;exact SeqAt.RcAt.none_list pl RQ
   |tup hq hl hi=>cases q2;obtain⟨_,_,pl,_⟩:=IsU.tup I hq hl;exact SeqAt.RcAt.none_tuple pl RQ
   |lst hq hl hi=>cases q2;obtain⟨_,_,pl,_⟩:=IsU.list I (SqL.of hq) hl;exact SeqAt.RcAt.none_list pl RQ
  |bl c=>
   cases (show p=Hi c from q1)
   cases R2 with
   |non=>cases (show q=GU from q2);exact SeqAt.RcAt.bool_none c
   |bl b=>cases (show q=Hi b from q2);exact SeqAt.RcAt.bool_bool c b
   |int i=>obtain⟨t,rfl⟩:=(show ∃t,q=He i t from q2);exact SeqAt.RcAt.bool_int c i t
   |str i=>obtain⟨t,rfl⟩:=(show ∃t,q=Ho i t from q2);exact SeqAt.RcAt.bool_str c i t
   |ty=>simp[okU]at o2
   |dic=>simp[okU]at o2
   |xc=>simp[okU]at o2
   |scr hq hl hi=>cases q2;obtain⟨_,_,pl,_⟩:=IsU.list I hq hl;exact SeqAt.RcAt.bool_list c pl RQ
   |tup hq hl hi=>cases q2;obtain⟨_,_,pl,_⟩:=IsU.tup I hq hl;exact SeqAt.RcAt.bool_tuple c pl RQ
   |lst hq hl hi=>cases q2;obtain⟨_,_,pl,_⟩:=IsU.list I (SqL.of hq) hl;exact SeqAt.RcAt.bool_list c pl RQ
  |int c=>
   obtain⟨t0,rfl⟩:=(show ∃t,p=He c t from q1)
   cases R2 with
   |non=>cases (show q=GU from q2);exact SeqAt.RcAt.int_none c t0
   |bl b=>cases (show q=Hi b from q2);exact SeqAt.RcAt.int_bool c t0 b
   |int i=>obtain⟨t,rfl⟩:=(show ∃t,q=He i t from q2);exact SeqAt.RcAt.int_int c t0 i t
   |str i=>obtain⟨t,rfl⟩:=(show ∃t,q=Ho i t from q2);exact SeqAt.RcAt.int_str c t0 i t
   |ty=>simp[okU]at o2
   |dic=>simp[okU]at o2
   |xc=>simp[okU]at o2
   |scr hq hl hi=>cases q2;obtain⟨_,_,pl,_⟩:=IsU.list I hq hl;exact SeqAt.RcAt.int_list c t0 pl RQ
   |tup hq hl hi=>cases q2;obtain⟨_,_,pl,_⟩:=IsU.tup I hq hl;exact SeqAt.RcAt.int_tuple c t0 pl RQ
   |lst hq hl hi=>cases q2;obtain⟨_,_,pl,_⟩:=IsU.list I (SqL.of hq) hl;exact SeqAt.RcAt.int_list c t0 pl RQ
  |str c=>
   obtain⟨t0,rfl⟩:=(show ∃t,p=Ho c t from q1)
   cases R2 with
   |non=>cases (show q=GU from q2);exact SeqAt.RcAt.str_none c t0
   |bl b=>cases (show q=Hi b from q2);exact SeqAt.RcAt.str_bool c t0 b
   |int i=>obtain⟨t,rfl⟩:=(show ∃t,q=He i t from q2);exact SeqAt.RcAt.str_int c t0 i t
   |str i=>obtain⟨t,rfl⟩:=(show ∃t,q=Ho i t from q2);exact SeqAt.RcAt.str_str c t0 i t
   |ty=>simp[okU]at o2
   |dic=>simp[okU]at o2
   |xc=>simp[okU]at o2
   |scr hq hl hi=>cases q2;obtain⟨_,_,pl,_⟩:=IsU.list I hq hl;exact SeqAt.RcAt.str_list c t0 pl RQ
   |tup hq hl hi=>cases q2;obtain⟨_,_,pl,_⟩:=IsU.tup I hq hl;exact SeqAt.RcAt.str_tuple c t0 pl RQ
   |lst hq hl hi=>cases q2;obtain⟨_,_,pl,_⟩:=IsU.list I (SqL.of hq) hl;exact SeqAt.RcAt.str_list c t0 pl RQ
  |ty=>simp[okU]at o1
  |dic=>simp[okU]at o1
  |xc=>simp[okU]at o1
  | @scr a vs xs hq hl hi=>
   cases q1;obtain⟨RB,r1,pl,l1⟩:=IsU.list I hq hl;rw[okU]at o1;cases R2 with
   |non=>cases (show q=GU from q2);exact SeqAt.RcAt.list_none pl RQ
   |bl b=>cases (show q=Hi b from q2);exact SeqAt.RcAt.list_bool b pl RQ
   |int i=>obtain⟨t,rfl⟩:=(show ∃t,q=He i t from q2);exact SeqAt.RcAt.list_int i t pl RQ
   |str i=>obtain⟨t,rfl⟩:=(show ∃t,q=Ho i t from q2);exact SeqAt.RcAt.list_str i t pl RQ
   |ty=>simp[okU]at o2
   |dic=>simp[okU]at o2
   |xc=>simp[okU]at o2
   |scr R5 RZ RW=>cases q2;rw[okU]at o2;obtain⟨RI,r2,R0,l2⟩:=IsU.list I R5 RZ;rw[eqW];exact iT pl R0 l1 l2 hu (cA I r1 r2 hl RZ hi RW o1 o2 Uo (by lia))
   |lst R5 RZ RW=>cases q2;rw[okU]at o2;obtain⟨RI,r2,R0,l2⟩:=IsU.list I (SqL.of R5) RZ;rw[eqW];exact iT pl R0 l1 l2 hu (cA I r1 r2 hl RZ hi RW o1 o2 Uo (by lia))
   |tup R5 RZ RW=>cases q2;obtain⟨RI,r2,R0,l2⟩:=IsU.tup I R5 RZ;exact SeqAt.RcAt.list_tuple pl R0 RQ
  | @lst a vs xs hq hl hi=>
   cases q1;obtain⟨RB,r1,pl,l1⟩:=IsU.list I (SqL.of hq) hl;rw[okU]at o1;cases R2 with
   |non=>cases (show q=GU from q2);exact SeqAt.RcAt.list_none pl RQ
   |bl b=>cases (show q=Hi b from q2);exact SeqAt.RcAt.list_bool b pl RQ
   |int i=>obtain⟨t,rfl⟩:=(show ∃t,q=He i t from q2);exact SeqAt.RcAt.list_int i t pl RQ
   |str i=>obtain⟨t,rfl⟩:=(show ∃t,q=Ho i t from q2);exact SeqAt.RcAt.list_str i t pl RQ
   |ty=>simp[okU]at o2
   |dic=>simp[okU]at o2
   |xc=>simp[okU]at o2
   |scr R5 RZ RW=>cases q2;rw[okU]at o2;obtain⟨RI,r2,R0,l2⟩:=IsU.list I R5 RZ;rw[eqW];exact iT pl R0 l1 l2 hu (cA I r1 r2 hl RZ hi RW o1 o2 Uo (by lia))
   |lst R5 RZ RW=>cases q2;rw[okU]at o2;obtain⟨RI,r2,R0,l2⟩:=IsU.list I (SqL.of R5) RZ;rw[eqW];exact iT pl R0 l1 l2 hu (cA I r1 r2 hl RZ hi RW o1 o2 Uo (by lia))
   |tup R5 RZ RW=>cases q2;obtain⟨RI,r2,R0,l2⟩:=IsU.tup I R5 RZ;exact SeqAt.RcAt.list_tuple pl R0 RQ
  | @tup a vs xs hq hl hi=>
   cases q1;obtain⟨RB,r1,pl,l1⟩:=IsU.tup I hq hl;rw[okU]at o1;cases R2 with
   |non=>cases (show q=GU from q2);exact SeqAt.RcAt.tuple_none pl RQ
   |bl b=>cases (show q=Hi b from q2);exact SeqAt.RcAt.tuple_bool b pl RQ
   |int i=>obtain⟨t,rfl⟩:=(show ∃t,q=He i t from q2);exact SeqAt.RcAt.tuple_int i t pl RQ
   |str i=>obtain⟨t,rfl⟩:=(show ∃t,q=Ho i t from q2);exact SeqAt.RcAt.tuple_str i t pl RQ
   |ty=>simp[okU]at o2
   |dic=>simp[okU]at o2
   |xc=>simp[okU]at o2
   |scr R5 RZ RW=>cases q2;obtain⟨RI,r2,R0,l2⟩:=IsU.list I R5 RZ;exact SeqAt.RcAt.tuple_list pl R0 RQ
   |lst R5 RZ RW=>cases q2;obtain⟨RI,r2,R0,l2⟩:=IsU.list I (SqL.of R5) RZ;exact SeqAt.RcAt.tuple_list pl R0 RQ
   |tup R5 RZ RW=>cases q2;rw[okU]at o2;obtain⟨RI,r2,R0,l2⟩:=IsU.tup I R5 RZ;rw[eqW];exact AW pl R0 l1 l2 hu (cA I r1 r2 hl RZ hi RW o1 o2 Uo (by lia))
theorem fA{A:Ha}{n:Nat}{a b:GE}{xs ys:List U}{RB RI:List Gr}(p1:s.heap.IsList a RB.toArray)(p2:s.heap.IsList b RI.toArray)(l1:RB.length=xs.length)(l2:RI.length=ys.length)(hu:A.units+n<Ku)
  (he:∀(j:Nat) (j1:j<RB.length) (j2:j<RI.length),SeqAt.EqAt A.in1 s RB[j] RI[j] (eqW (xs.getD j .non) (ys.getD j .non))):SeqAt.RcNeAt A s (.ref a) (.ref b) (!eqWs xs ys):=by
 by_cases hl:RB.length=RI.length
 ·have:=SeqAt.RcNeAt.lists (A:=A) (s:=s) (e:=λj=>eqW (xs.getD j .non) (ys.getD j .non)) p1 p2 (by simpa using hl) (by lia) (λj h1 h2=>by simpa using he j (by simpa using h1) (by simpa using h2))
  rw[<-du,<-l1,<-l2,hl,QZ,beq_self_eq_true,QN]
  rwa [GN,hl]at this
 ·have:=SeqAt.RcNeAt.lists_lengths (A:=A) (s:=s) p1 p2 (by simpa using hl) (by lia)
  rw[<-du,<-l1,<-l2,show (RB.length==RI.length)=false by simpa using hl,NY]
  exact this
theorem vW{A:Ha}{n:Nat}{a b:GE}{xs ys:List U}{RB RI:List Gr}(p1:Rw s.heap a RB.toArray)(p2:Rw s.heap b RI.toArray)(l1:RB.length=xs.length)(l2:RI.length=ys.length)(hu:A.units+n<Ku)
  (he:∀(j:Nat) (j1:j<RB.length) (j2:j<RI.length),SeqAt.EqAt A.in1 s RB[j] RI[j] (eqW (xs.getD j .non) (ys.getD j .non))):SeqAt.RcNeAt A s (.ref a) (.ref b) (!eqWs xs ys):=by
 have:=SeqAt.RcNeAt.tuples (A:=A) (s:=s) (e:=λj=>eqW (xs.getD j .non) (ys.getD j .non)) p1 p2 (by lia) (λj h1 h2=>by simpa using he j (by simpa using h1) (by simpa using h2))
 rw[GN,GN,l1,l2,du]at this;exact this
theorem Db(I:Inv X pins σ H s)(n:Nat)(A:Ha)(x y:U)(v w:V)(p q:Gr)(R1:Rp X.K H v x)(R2:Rp X.K H w y)(q1:aU v p)(q2:aU w q)(o1:okU (n+1) x=true)(o2:okU (n+1) y=true)(hu:A.units+(n+1)<Ku):SeqAt.RcNeAt A s p q (!eqW x y):=by
 have RQ:A.units<Ku:=by lia
 have Uo:∀(x y:U) (v w:V) (p q:Gr),Rp X.K H v x->Rp X.K H w y->aU v p->aU w q->okU n x=true->okU n y=true->SeqAt.RcAt A.in1 s p q (eqW x y):=λx y v w p q r1 r2 k1 k2 z1 z2=>Fb I n A.in1 x y v w p q r1 r2 k1 k2 z1 z2 (by show A.units+1+n<_;lia)
 cases R1 with
 |ty=>simp[okU]at o1
 |dic=>simp[okU]at o1
 |xc=>simp[okU]at o1
 |non=>
  cases (show p=GU from q1)
  cases R2 with
  |ty=>simp[okU]at o2
  |dic=>simp[okU]at o2
  |xc=>simp[okU]at o2
  |non=>cases (show q=GU from q2);exact SeqAt.RcNeAt.none_none
  |bl c2=>cases (show q=Hi c2 from q2);exact SeqAt.RcNeAt.none_bool c2
  |int c2=>obtain⟨t2,rfl⟩:=(show ∃t,q=He c2 t from q2);exact SeqAt.RcNeAt.none_int c2 t2
  |str c2=>obtain⟨t2,rfl⟩:=(show ∃t,q=Ho c2 t from q2);exact SeqAt.RcNeAt.none_str c2 t2
  |scr Sm R7 SA=>cases q2;obtain⟨RI,r2,R0,l2⟩:=IsU.list I Sm R7;exact SeqAt.RcNeAt.none_list R0 RQ
  |tup Sm R7 SA=>cases q2;obtain⟨RI,r2,R0,l2⟩:=IsU.tup I Sm R7;exact SeqAt.RcNeAt.none_tuple R0 RQ
  |lst Sm R7 SA=>cases q2;obtain⟨RI,r2,R0,l2⟩:=IsU.list I (SqL.of Sm) R7;exact SeqAt.RcNeAt.none_list R0 RQ
 |bl c1=>
  cases (show p=Hi c1 from q1)
  cases R2 with
  |ty=>simp[okU]at o2
  |dic=>simp[okU]at o2
  |xc=>simp[okU]at o2
  |non=>cases (show q=GU from q2);exact SeqAt.RcNeAt.bool_none c1
  |bl c2=>cases (show q=Hi c2 from q2);exact SeqAt.RcNeAt.bool_bool c1 c2
  |int c2=>obtain⟨t2,rfl⟩:=(show ∃t,q=He c2 t from q2);exact SeqAt.RcNeAt.bool_int c1 c2 t2
  |str c2=>obtain⟨t2,rfl⟩:=(show ∃t,q=Ho c2 t from q2);exact SeqAt.RcNeAt.bool_str c1 c2 t2
  |scr Sm R7 SA=>cases q2;obtain⟨RI,r2,R0,l2⟩:=IsU.list I Sm R7;exact SeqAt.RcNeAt.bool_list c1 R0 RQ
  |tup Sm R7 SA=>cases q2;obtain⟨RI,r2,R0,l2⟩:=IsU.tup I Sm R7;exact SeqAt.RcNeAt.bool_tuple c1 R0 RQ
  |lst Sm R7 SA=>cases q2;obtain⟨RI,r2,R0,l2⟩:=IsU.list I (SqL.of Sm) R7;exact SeqAt.RcNeAt.bool_list c1 R0 RQ
 |int c1=>
  obtain⟨t1,rfl⟩:=(show ∃t,p=He c1 t from q1)
  cases R2 with
  |ty=>simp[okU]at o2
  |dic=>simp[okU]at o2
  |xc=>simp[okU]at o2
  |non=>cases (show q=GU from q2);exact SeqAt.RcNeAt.int_none c1 t1
  |bl c2=>cases (show q=Hi c2 from q2);exact SeqAt.RcNeAt.int_bool c1 t1 c2
  |int c2=>obtain⟨t2,rfl⟩:=(show ∃t,q=He c2 t from q2);exact SeqAt.RcNeAt.int_int c1 t1 c2 t2
  |str c2=>obtain⟨t2,rfl⟩:=(show ∃t,q=Ho c2 t from q2);exact SeqAt.RcNeAt.int_str c1 t1 c2 t2
  |scr Sm R7 SA=>cases q2;obtain⟨RI,r2,R0,l2⟩:=IsU.list I Sm R7;exact SeqAt.RcNeAt.int_list c1 t1 R0 RQ
  |tup Sm R7 SA=>cases q2;obtain⟨RI,r2,R0,l2⟩:=IsU.tup I Sm R7;exact SeqAt.RcNeAt.int_tuple c1 t1 R0 RQ
  |lst Sm R7 SA=>cases q2;obtain⟨RI,r2,R0,l2⟩:=IsU.list I (SqL.of Sm) R7;exact SeqAt.RcNeAt.int_list c1 t1 R0 RQ
 |str c1=>
  obtain⟨t1,rfl⟩:=(show ∃t,p=Ho c1 t from q1)
  cases R2 with
  |ty=>simp[okU]at o2
  |dic=>simp[okU]at o2
  |xc=>simp[okU]at o2
  |non=>cases (show q=GU from q2);exact SeqAt.RcNeAt.str_none c1 t1
  |bl c2=>cases (show q=Hi c2 from q2);exact SeqAt.RcNeAt.str_bool c1 t1 c2
  |int c2=>obtain⟨t2,rfl⟩:=(show ∃t,q=He c2 t from q2);exact SeqAt.RcNeAt.str_int c1 t1 c2 t2
  |str c2=>obtain⟨t2,rfl⟩:=(show ∃t,q=Ho c2 t from q2);exact SeqAt.RcNeAt.str_str c1 t1 c2 t2
  |scr Sm R7 SA=>cases q2;obtain⟨RI,r2,R0,l2⟩:=IsU.list I Sm R7;exact SeqAt.RcNeAt.str_list c1 t1 R0 RQ
  |tup Sm R7 SA=>cases q2;obtain⟨RI,r2,R0,l2⟩:=IsU.tup I Sm R7;exact SeqAt.RcNeAt.str_tuple c1 t1 R0 RQ
  |lst Sm R7 SA=>cases q2;obtain⟨RI,r2,R0,l2⟩:=IsU.list I (SqL.of Sm) R7;exact SeqAt.RcNeAt.str_list c1 t1 R0 RQ
 |scr Uw SJ hi1=>
  cases q1;obtain⟨its1,r1,SU,l1⟩:=IsU.list I Uw SJ;cases R2 with
  |ty=>simp[okU]at o2
  |dic=>simp[okU]at o2
  |xc=>simp[okU]at o2
  |non=>cases (show q=GU from q2);exact SeqAt.RcNeAt.list_none SU RQ
  |bl c2=>cases (show q=Hi c2 from q2);exact SeqAt.RcNeAt.list_bool c2 SU RQ
  |int c2=>obtain⟨t2,rfl⟩:=(show ∃t,q=He c2 t from q2);exact SeqAt.RcNeAt.list_int c2 t2 SU RQ
  |str c2=>obtain⟨t2,rfl⟩:=(show ∃t,q=Ho c2 t from q2);exact SeqAt.RcNeAt.list_str c2 t2 SU RQ
  |scr Sm R7 SA=>cases q2;obtain⟨RI,r2,R0,l2⟩:=IsU.list I Sm R7;rw[okU]at o1;rw[okU]at o2;rw[eqW];exact fA SU R0 l1 l2 hu (cA I r1 r2 SJ R7 hi1 SA o1 o2 Uo (by lia))
  |tup Sm R7 SA=>cases q2;obtain⟨RI,r2,R0,l2⟩:=IsU.tup I Sm R7;exact SeqAt.RcNeAt.list_tuple SU R0 RQ
  |lst Sm R7 SA=>cases q2;obtain⟨RI,r2,R0,l2⟩:=IsU.list I (SqL.of Sm) R7;rw[okU]at o1;rw[okU]at o2;rw[eqW];exact fA SU R0 l1 l2 hu (cA I r1 r2 SJ R7 hi1 SA o1 o2 Uo (by lia))
 |tup Uw SJ hi1=>
  cases q1;obtain⟨its1,r1,SU,l1⟩:=IsU.tup I Uw SJ;cases R2 with
  |ty=>simp[okU]at o2
  |dic=>simp[okU]at o2
  |xc=>simp[okU]at o2
  |non=>cases (show q=GU from q2);exact SeqAt.RcNeAt.tuple_none SU RQ
  |bl c2=>cases (show q=Hi c2 from q2);exact SeqAt.RcNeAt.tuple_bool c2 SU RQ
  |int c2=>obtain⟨t2,rfl⟩:=(show ∃t,q=He c2 t from q2);exact SeqAt.RcNeAt.tuple_int c2 t2 SU RQ
  |str c2=>obtain⟨t2,rfl⟩:=(show ∃t,q=Ho c2 t from q2);exact SeqAt.RcNeAt.tuple_str c2 t2 SU RQ
  |scr Sm R7 SA=>cases q2;obtain⟨RI,r2,R0,l2⟩:=IsU.list I Sm R7;exact SeqAt.RcNeAt.tuple_list SU R0 RQ
  |tup Sm R7 SA=>cases q2;obtain⟨RI,r2,R0,l2⟩:=IsU.tup I Sm R7;rw[okU]at o1;rw[okU]at o2;rw[eqW];exact vW SU R0 l1 l2 hu (cA I r1 r2 SJ R7 hi1 SA o1 o2 Uo (by lia))
  |lst Sm R7 SA=>cases q2;obtain⟨RI,r2,R0,l2⟩:=IsU.list I (SqL.of Sm) R7;exact SeqAt.RcNeAt.tuple_list SU R0 RQ
 |lst Uw SJ hi1=>
  cases q1;obtain⟨its1,r1,SU,l1⟩:=IsU.list I (SqL.of Uw) SJ;cases R2 with
  |ty=>simp[okU]at o2
  |dic=>simp[okU]at o2
  |xc=>simp[okU]at o2
  |non=>cases (show q=GU from q2);exact SeqAt.RcNeAt.list_none SU RQ
  |bl c2=>cases (show q=Hi c2 from q2);exact SeqAt.RcNeAt.list_bool c2 SU RQ
  |int c2=>obtain⟨t2,rfl⟩:=(show ∃t,q=He c2 t from q2);exact SeqAt.RcNeAt.list_int c2 t2 SU RQ
  |str c2=>obtain⟨t2,rfl⟩:=(show ∃t,q=Ho c2 t from q2);exact SeqAt.RcNeAt.list_str c2 t2 SU RQ
  |scr Sm R7 SA=>cases q2;obtain⟨RI,r2,R0,l2⟩:=IsU.list I Sm R7;rw[okU]at o1;rw[okU]at o2;rw[eqW];exact fA SU R0 l1 l2 hu (cA I r1 r2 SJ R7 hi1 SA o1 o2 Uo (by lia))
  |tup Sm R7 SA=>cases q2;obtain⟨RI,r2,R0,l2⟩:=IsU.tup I Sm R7;exact SeqAt.RcNeAt.list_tuple SU R0 RQ
  |lst Sm R7 SA=>cases q2;obtain⟨RI,r2,R0,l2⟩:=IsU.list I (SqL.of Sm) R7;rw[okU]at o1;rw[okU]at o2;rw[eqW];exact fA SU R0 l1 l2 hu (cA I r1 r2 SJ R7 hi1 SA o1 o2 Uo (by lia))
end
def OpS(X:Cx)(f:Gr->Gr->Sem Gr)(x y:U)(z:V):Prop:=OpR X f λv w H Q=>Rp X.K H v x/\Rp X.K H w y/\Q z H
section
variable {ps:PSt}{a b c e:Expr}{rest:List Expr}{p:Pos}{x y:U}{i j:Int}{k m:Bool}
theorem Rp.out{K:Gn}{H:Hp}{O:List GE}{v:V}{u:U}(h:Rp K (hid H O) v u):Rp K H v u:=h.same aB
theorem jK{op:Ox}(ho:OpS X (Hh op) x y (.bl k))(ha:Ev X H0 O0 ps a x)(hb:Ev X H0 O0 ps b y)(hm:Je op b=false:=by first |exact i_ _ |with_unfolding_all rfl):Ev X H0 O0 ps (.Compare a [op] [b] pos) (.bl k):=
 PE.mono (Bw ho ha hb hm) λσ H Q ⟨O,R,q⟩=>two R (λ_ _ _ z=>z) (λ_ _ _ z=>z) λv w H' s _ r1 r2=>⟨r1.out,r2.out,q _ H' s (.bl _)⟩
theorem ao{op:Ox}(ho:OpS X (Hh op) x y (.bl k))(ha:Ev X H0 O0 ps a x)(hb:Ev X H0 O0 ps b y)(hm:Je op b=false:=by first |exact i_ _ |with_unfolding_all rfl):Tt X H0 O0 ps (.Compare a [op] [b] pos) k:=
 PT.mono (tN ho ha hb hm) λσ H Q ⟨O,R,q⟩=>two R (λ_ _ _ z=>z) (λ_ _ _ z=>z) λv w H' s _ r1 r2=>⟨r1.out,r2.out,_,rfl,q H' s⟩
theorem u_{op:Ox}{g:Int->Int->Bool}(ho:OpR X (Hh op) (rI0 λi j=>.bl (g i j))):OpS X (Hh op) (.int i) (.int j) (.bl (g i j)):=by
 intro pins s σ H v w p q Q I r1 r2 h;obtain⟨h1,h2,h3⟩:=h;cases h1;cases h2;exact ho pins s σ H _ _ _ _ Q I r1 r2 ⟨i,j,rfl,rfl,h3⟩
theorem e7:OpS X (Hh .Lt) (.int i) (.int j) (.bl (decide (i<j))):=u_ Ex
theorem Dg:OpS X (Hh .LtE) (.int i) (.int j) (.bl (decide (i<=j))):=u_ FI
theorem jo:OpS X (Hh .Gt) (.int i) (.int j) (.bl (decide (j<i))):=u_ Ew
theorem FW:OpS X (Hh .GtE) (.int i) (.int j) (.bl (decide (j<=i))):=u_ EB
theorem bJ(hu:X.A.units+10<Ku)(h1:okU 9 x=true)(h2:okU 9 y=true):OpS X (Hh .Eq) x y (.bl (eqW x y)):=by
 intro pins s σ H v w p q Q I r1 r2 h;obtain⟨k1,k2,k3⟩:=h;exact Fb I 9 X.A x y v w p q k1 k2 r1 r2 h1 h2 (by lia) X.prog X.w _ _ (aY I k3 rfl)
theorem mf(hu:X.A.units+10<Ku)(h1:okU 9 x=true)(h2:okU 9 y=true):OpS X (Hh .NotEq) x y (.bl (!eqW x y)):=by
 intro pins s σ H v w p q Q I r1 r2 h;obtain⟨k1,k2,k3⟩:=h;exact Db I 8 X.A x y v w p q k1 k2 r1 r2 h1 h2 (by lia) X.prog X.w _ _ (aY I k3 rfl)
theorem fK:OpS X (Hh .Eq) (.int i) (.int j) (.bl (decide (i=j))):=by
 intro pins s σ H v w p q Q I r1 r2 h;obtain⟨h1,h2,h3⟩:=h;cases h1;cases h2;exact E4 pins s σ H _ _ _ _ Q I r1 r2 ⟨rfl,by rw[j_,<-LG]at *;simpa [LG] using h3⟩
theorem gZ:OpS X (Hh .NotEq) (.int i) (.int j) (.bl (!decide (i=j))):=by
 intro pins s σ H v w p q Q I r1 r2 h;obtain⟨h1,h2,h3⟩:=h;cases h1;cases h2;exact Fe pins s σ H _ _ _ _ Q I r1 r2 ⟨rfl,by rw[j_];simpa [LG] using h3⟩
theorem gY(h:Ev X H0 O0 ps e (.bl k))(he:∀S3,isTrue e X.env S3=(do let v <-S3;Mt e.pos;Ln [v] (truthy v)):=by intro _;rfl):Tt X H0 O0 ps e k:=
 PT.mono (Dt h he) λσ H Q ⟨O,R,q⟩=>⟨O,R,λv H' s r=>by cases r;exact⟨_,rfl,q H' s⟩⟩
theorem jy(h:Tt X H0 O0 ps a k):Tt X H0 O0 ps (.UnaryOp .Not a pos) (!k):=PT.mono (D9 h) λσ H Q ⟨O,R,q⟩=>⟨O,R,q⟩
theorem Tw.t(h:Tw X H0 O0 ps e k):Tt X H0 O0 ps e k:=h.pt
theorem xm(h:Tt X H0 O0 ps a k):Tw X H0 O0 ps (.BoolOp .And [a] pos) k:=BE h
theorem iF(h:Tt X H0 O0 ps a k):Tw X H0 O0 ps (.BoolOp .Or [a] pos) k:=xC h
theorem yh(ha:Tt X H0 O0 ps a k)(hb:k=true->Tw X H0 O0 ps (.BoolOp .And (b::rest) pos) m):Tw X H0 O0 ps (.BoolOp .And (a::b::rest) pos) (k && m):=by
 cases k with
 |true=>exact PW.mono (zp ha (hb rfl)) λσ H Q ⟨O,R,q⟩=>⟨O,R,λH' s=>by exact mm (⟨O,R.go s,λH2 s2=>q H2 (s.trans s2)⟩)⟩
 |false=>exact PW.mono (zp ha (λ_ _ _ _ _ _ _ h=>h.elim) (tB':=λ_ _ _=>False)) λσ H Q ⟨O,R,q⟩=>⟨O,R,λH' s=>by exact jV (q H' s)⟩
theorem iX(ha:Tt X H0 O0 ps a k)(hb:k=false->Tw X H0 O0 ps (.BoolOp .Or (b::rest) pos) m):Tw X H0 O0 ps (.BoolOp .Or (a::b::rest) pos) (k ||m):=by
 cases k with
 |false=>exact PW.mono (yR ha (hb rfl)) λσ H Q ⟨O,R,q⟩=>⟨O,R,λH' s=>by exact jV (⟨O,R.go s,λH2 s2=>q H2 (s.trans s2)⟩)⟩
 |true=>exact PW.mono (yR ha (λ_ _ _ _ _ _ _ h=>h.elim) (tB':=λ_ _ _=>False)) λσ H Q ⟨O,R,q⟩=>⟨O,R,λH' s=>by exact mm (q H' s)⟩
theorem yo{op}(h:Ev X H0 O0 ps a u):Ev X H0 O0 ps (.BoolOp op [a] pos) u:=C7 h
theorem CH(ha:Ev X H0 O0 ps a (.bl k))(hb:k=true->Ev X H0 O0 ps (.BoolOp .And (b::rest) pos) (.bl m)):Ev X H0 O0 ps (.BoolOp .And (a::b::rest) pos) (.bl (k && m)):=by
 cases k with
 |true=>exact PE.mono (Ah ha (hb rfl)) λσ H Q ⟨O,R,q⟩=>⟨O,R,λv H' s r=>by cases r;exact⟨_,rfl,by exact mm (⟨O,R.go s,λv H2 s2 r2=>q v H2 (s.trans s2) r2⟩)⟩⟩
 |false=>exact PE.mono (Ah ha (λ_ _ _ _ _ _ h=>h.elim) (tb:=λ_ _ _=>False)) λσ H Q ⟨O,R,q⟩=>⟨O,R,λv H' s r=>by cases r;exact⟨_,rfl,by exact jV (q _ H' s (.bl _))⟩⟩
theorem F2(ha:Ev X H0 O0 ps a (.bl k))(hb:k=false->Ev X H0 O0 ps (.BoolOp .Or (b::rest) pos) (.bl m)):Ev X H0 O0 ps (.BoolOp .Or (a::b::rest) pos) (.bl (k ||m)):=by
 cases k with
 |false=>exact PE.mono (CD ha (hb rfl)) λσ H Q ⟨O,R,q⟩=>⟨O,R,λv H' s r=>by cases r;exact⟨_,rfl,by exact jV (⟨O,R.go s,λv H2 s2 r2=>q v H2 (s.trans s2) r2⟩)⟩⟩
 |true=>exact PE.mono (CD ha (λ_ _ _ _ _ _ h=>h.elim) (tb:=λ_ _ _=>False)) λσ H Q ⟨O,R,q⟩=>⟨O,R,λv H' s r=>by cases r;exact⟨_,rfl,by exact mm (q _ H' s (.bl _))⟩⟩
theorem xl{c:Expr}(hc:Tt X H0 O0 ps c k)(ha:k=true->Ev X H0 O0 ps a u)(hb:k=false->Ev X H0 O0 ps b u):Ev X H0 O0 ps (.IfExp c a b pos) u:=by
 cases k with
 |true=>exact PE.mono (qh hc (ha rfl) (λ_ _ _ _ _ _ h=>h.elim) (tb:=λ_ _ _=>False)) λσ H Q ⟨O,R,q⟩=>⟨O,R,λH' s=>by exact mm (⟨O,R.go s,λv H2 s2 r2=>q v H2 (s.trans s2) r2⟩)⟩
 |false=>exact PE.mono (qh hc (λ_ _ _ _ _ _ h=>h.elim) (hb rfl) (ta:=λ_ _ _=>False)) λσ H Q ⟨O,R,q⟩=>⟨O,R,λH' s=>by exact jV (⟨O,R.go s,λv H2 s2 r2=>q v H2 (s.trans s2) r2⟩)⟩
theorem ai:EvA X H0 O0 ps [] []:=PA.mono cY λσ H Q ⟨O,R,q⟩=>q [] H (.refl H) .nil
theorem ae(ha:Ev X H0 O0 ps e u)(hr:EvA X H0 O0 ps es us)(hs:Gv (e::es) X.env=(false,HY e X.env)::Gv es X.env:=by rfl):EvA X H0 O0 ps (e::es) (u::us):=
 PA.mono (bu ha hr hs) λσ H Q ⟨O,R,q⟩=>⟨O,R,λv H1 s1 r1=>⟨O,R.go s1,λvs H2 s2 r2=>q _ H2 (s1.trans s2) (.cons (r1.same (aD s2)) r2)⟩⟩
theorem Rs.hidnew{K:Gn}{σ:St}{H:Hp}{O:List GE}(R:Rs K H0 O0 ps σ H O){p:GE}{o:HO}(n:H p=none):hid (upd H p o) O p=some o:=b4 aF λz=>R.dom p z n
theorem FH{x1}(h:EvA X H0 O0 ps es us)(hz:us.length<=sizeLine:=by first |decide | (simp only[GI,Kg];decide)):Ev X H0 O0 ps (.Tuple es x1 pos) (.tup us):=
 PE.mono (DO h) λσ H Q ⟨O,R,q⟩=>⟨O,R,λvs H1 s1 r1=>⟨by rw[r1.len];exact hz,λp hp=>by
  have s2:=aT hp (.tup vs);have r2:=r1.same (aD (O:=O) s2);exact q _ _ (s1.trans s2) (.tup (SqT.of ((R.go s1).hidnew hp)) r2.len r2.at_)⟩⟩
theorem EW(h:EvA X H0 O0 ps es us)(hz:us.length<=sizeLine:=by first |decide | (simp only[GI,Kg];decide)):EvN X H0 O0 ps (.List es pos) us:=
 PE.mono (Dw h) λσ H Q ⟨O,R,q⟩=>⟨O,R,λvs H1 s1 r1=>⟨by rw[r1.len];exact hz,λp hp=>by
  exact q p vs _ (s1.trans (aT hp _)) (s1.free hp) aF (r1.same (bh (aT hp _) hp))⟩⟩
theorem aM(ha:Ev X H0 O0 ps a x)(hb:Ev X H0 O0 ps b (.int i))(hx:x.items=some xs)(hi:atI xs i=some u)(hs:j9 b:=by intro _ _;rfl):Ev X H0 O0 ps (.Subscript a b pos) u:=
 PE.mono (xj (uo.or Dl) ha hb hs) λσ H Q ⟨O,R,q⟩=>two (y:=.int i) R (λ_ _ _ z=>z) (λ_ _ _ z=>z) λv w H' s _ r1 r2=>by
  cases r2;cases r1 with
  |scr h hl hh=>cases hx;obtain⟨z,h1,h2⟩:=Rps.atI ⟨hl,hh⟩ hi;exact .inl ⟨_,_,i,z,rfl,rfl,aB.seq h,h1,q z H' s h2⟩
  |lst h hl hh=>cases hx;obtain⟨z,h1,h2⟩:=Rps.atI ⟨hl,hh⟩ hi;exact .inl ⟨_,_,i,z,rfl,rfl,aB.seq (SqL.of h),h1,q z H' s h2⟩
  |tup h hl hh=>cases hx;obtain⟨z,h1,h2⟩:=Rps.atI ⟨hl,hh⟩ hi;exact .inr ⟨_,_,i,z,rfl,rfl,aB.tup h,h1,q z H' s h2⟩
  |_=>cases hx
theorem uS(n:Nat){x:Str}(h:ps[n]?=some (some (.own xs)))(hb:Ev X H0 O0 ps b (.int i))(hi:atI xs i=some u)(hN:X.N[n]?=some x:=by rfl)(hv:Vis X.env.scope x:=by first |exact Or.inl rfl |exact Or.inr (Or.inl rfl) |exact Or.inr (Or.inr rfl))(hd:(x==("__debug__":Str))=false:=by decide)
  (R8:(x==("__classdict__":Str))=false:=by decide) (hs:j9 b:=by intro _ _;rfl):Ev X H0 O0 ps (.Subscript (.Name x p) b pos) u:=
 PE.mono (xj uo (cy hN hv hd R8) hb hs) λσ H Q ⟨O,R,q⟩=>by
  obtain⟨v,h1,a,vs,rfl,h3,h4,h5,h6⟩:=R.at_ n _ h;refine⟨_,h1,O,R,λw H' s r=>?_⟩
  cases r;obtain⟨z,k1,k2⟩:=h6.atI hi;exact⟨a,vs,i,z,rfl,rfl,SqL.of (s _ _ h5),k1,q z H' s (k2.same (aD s))⟩
def dJ(X:Cx)(f:Gr)(us:List U)(u:U):Prop:=cu X f λvs H Q=>∃O,(∀a∈O,H a≠none)/\Rps X.K (hid H O) vs us/\∀v H',aH H H'->Rp X.K (hid H' O) v u->Q v H'
theorem aw{id:String}{f:Str}(hc:dJ X (.builtin id) us u)(hg:Gl X f)(hm:X.mg f=none)(hv:IF f=some (.builtin id))(ha:EvA X H0 O0 ps (e::es) us)(hn:f≠"__name__":=by decide)(Sr:(f==("__debug__":Str))=false:=by decide)
  (he:Gv (e::es) X.env=(false,HY e X.env)::Gv es X.env:=by rfl) (R3:(Hx pos (Gv es X.env)).any (·.1)=false:=by rfl):Ev X H0 O0 ps (.Call (.Name f p) (e::es) [] pos) u:=
 PE.mono (lO hc hg hm hv ha hn Sr he R3) λσ H Q ⟨O,R,q⟩=>⟨O,R,λvs H1 s1 r1=>⟨O,(R.go s1).dom,r1,λv H2 s2 r2=>q v H2 (s1.trans s2) r2⟩⟩
theorem d_{id:String}{f:Str}(hc:dJ X (.type id) us u)(hg:Gl X f)(hm:X.mg f=none)(hv:IF f=some (.type id))(ha:EvA X H0 O0 ps (e::es) us)(hn:f≠"__name__":=by decide)(Sr:(f==("__debug__":Str))=false:=by decide)
  (he:Gv (e::es) X.env=(false,HY e X.env)::Gv es X.env:=by rfl) (R3:(Hx pos (Gv es X.env)).any (·.1)=false:=by rfl):Ev X H0 O0 ps (.Call (.Name f p) (e::es) [] pos) u:=
 PE.mono (vj hc hg hm hv ha hn Sr he R3) λσ H Q ⟨O,R,q⟩=>⟨O,R,λvs H1 s1 r1=>⟨O,(R.go s1).dom,r1,λv H2 s2 r2=>q v H2 (s1.trans s2) r2⟩⟩
theorem cE{K:Gn}{H:Hp}{vs:List V}(h:Rps K H vs [x]):∃v,vs=[v]/\Rp K H v x:=by
 obtain⟨v,ws,rfl,h1,h2⟩:=h.cons_inv;rw[h2.nil_inv];exact⟨v,rfl,h1⟩
theorem kj{K:Gn}{H:Hp}{vs:List V}(h:Rps K H vs [x,y]):∃v w,vs=[v,w]/\Rp K H v x/\Rp K H w y:=by
 obtain⟨v,ws,rfl,h1,h2⟩:=h.cons_inv;obtain⟨w,rfl,h3⟩:=cE h2;exact⟨v,w,rfl,h1,h3⟩
theorem cu.mono{f:Gr}{r r':List V->Hp->VK->Prop}(h:cu X f r)(m:∀vs H Q,r' vs H Q->r vs H Q):cu X f r':=λpins s σ H vs us Q I v q=>h pins s σ H vs us Q I v (m vs H Q q)
theorem t_{K:Gn}{H:Hp}{v:V}(h:Rp K H v x)(hx:x.items=some xs):∃a vs,v=.ref a/\(SqL K H a vs\/SqT K H a vs)/\Rps K H vs xs:=by
 cases h with
 |scr h hl hh=>cases hx;exact⟨_,_,rfl,.inl h,hl,hh⟩
 |lst h hl hh=>cases hx;exact⟨_,_,rfl,.inl (SqL.of h),hl,hh⟩
 |tup h hl hh=>cases hx;exact⟨_,_,rfl,.inr h,hl,hh⟩
 |_=>cases hx
theorem AL{K:Gn}{H:Hp}{O:List GE}{a:GE}{vs:List V}(h:SqL K (hid H O) a vs\/SqT K (hid H O) a vs):SqL K H a vs\/SqT K H a vs:=h.imp (λz=>aB.seq z) λz=>aB.tup z
theorem bF(hx:x.items=some xs):dJ X (.builtin "len") [x] (.int xs.length):=cu.mono iQ λvs H Q ⟨O,d,r,q⟩=>by
 obtain⟨v,rfl,h⟩:=cE r;obtain⟨a,ws,rfl,h1,h2⟩:=t_ h hx;exact⟨a,ws,rfl,AL h1,by rw[h2.len];exact q _ H (.refl H) (.int _)⟩
theorem DR(n:Nat){x:Str}(h:ps[n]?=some (some (.own xs)))(hg:Gl X "len")(hm:X.mg "len"=none)(hN:X.N[n]?=some x:=by rfl)(hv:Vis X.env.scope x:=by first |exact Or.inl rfl |exact Or.inr (Or.inl rfl) |exact Or.inr (Or.inr rfl))(hd:(x==("__debug__":Str))=false:=by decide)
  (R8:(x==("__classdict__":Str))=false:=by decide) {pc p':Pos} (hs:Gv [.Name x p'] X.env=(false,HY (.Name x p') X.env)::Gv [] X.env:=by rfl) (R3:(Hx pos (Gv [] X.env)).any (·.1)=false:=by rfl):Ev X H0 O0 ps (.Call (.Name "len" pc) [.Name x p'] [] pos) (.int xs.length):=
 PE.mono (lO iQ hg hm GL (bu (cy hN hv hd R8) cY hs) (by decide) (by decide) hs R3) λσ H Q ⟨O,R,q⟩=>by
  obtain⟨v,h1,a,vs,rfl,h3,h4,h5,h6⟩:=R.at_ n _ h;exact⟨_,h1,a,vs,rfl,.inl (SqL.of h5),by rw[h6.len];exact q _ H (.refl H) (.int _)⟩
theorem tY:dJ X (.builtin "abs") [.int i] (.int (if i<0 then -i else i)):=cu.mono yd λvs H Q ⟨O,d,r,q⟩=>by
 obtain⟨v,rfl,h⟩:=cE r;cases h;exact⟨i,rfl,q _ H (.refl H) (.int _)⟩
theorem FG(hc:X.calm=true):dJ X (.builtin "max") [.int i,.int j] (.int (if j >i then j else i)):=cu.mono (vJ hc) λvs H Q ⟨O,d,r,q⟩=>by
 obtain⟨v,w,rfl,h,h2⟩:=kj r;cases h;cases h2;exact⟨i,j,rfl,q _ H (.refl H) (.int _)⟩
theorem Ck(hc:X.calm=true):dJ X (.builtin "min") [.int i,.int j] (.int (if j<i then j else i)):=cu.mono (vI hc) λvs H Q ⟨O,d,r,q⟩=>by
 obtain⟨v,w,rfl,h,h2⟩:=kj r;cases h;cases h2;exact⟨i,j,rfl,q _ H (.refl H) (.int _)⟩
theorem Ep:dJ X (.type "int") [.bl k] (.int (if k then 1 else 0)):=cu.mono rL λvs H Q ⟨O,d,r,q⟩=>by
 obtain⟨v,rfl,h⟩:=cE r;cases h;exact⟨k,rfl,q _ H (.refl H) (.int _)⟩
def tyU:U->Gr
 | .non=>.type "NoneType" | .bl _=>.type "bool" | .int _=>.type "int" | .str _=>.type "str" | .ty _=>.type "type" | .dic=>.type "dict" | .scr _=>.type "list" | .tup _=>.type "tuple" | .lst _=>.type "list"
theorem lv{n:String}(hn:∀m,x≠.ty m)(h:J5 X.K (tyU x) (.type n)=some k):dJ X (.builtin "isinstance") [x,.ty (.nm n)] (.bl k):=by
 intro pins s σ H vs us Q I r hq;obtain⟨O,d,rs,q⟩:=hq;obtain⟨v,w,rfl,h1,h2⟩:=kj rs;cases h2;obtain⟨p1,p2,rfl,r1,r2⟩:=iR r;cases (show p2=HP n from r2)
 have RR:∀tk,EP X pins σ Q (.bool k) {s with toks:=tk }:=λtk=>⟨.bl k,H,I.tok _,rfl,q _ H (.refl H) (.bl _)⟩
 cases h1 with
 |non=>exact dI I r1 .non h RR
 |bl b=>exact dI I r1 (.bl b) h RR
 |int b=>exact dI I r1 (.int b) h RR
 |str b=>exact dI I r1 (.str b) h RR
 |ty m=>exact absurd rfl (hn _)
 |dic e=>exact dI I r1 (.dK (aB _ _ e)) h RR
 |xc e kk=>exact absurd rfl (hn _)
 |scr e hl hh=>
  cases r1;obtain⟨RB,_,pl,_⟩:=I.list (aB.seq e);obtain⟨o,nn,e1,e2,_⟩:=pl;exact HL MF I.kIn ⟨o,e1,e2⟩ h (λz=>nomatch z) RR
 |lst e hl hh=>exact dI I r1 (.lst (aB _ _ e)) h RR
 |tup e hl hh=>
  cases r1;obtain⟨RB,_,pl,_⟩:=I.tuple (aB.tup e);obtain⟨o,e1,e2,_⟩:=pl;exact HL N_ I.kIn ⟨o,e1,e2⟩ h (λz=>nomatch z) RR
end
inductive Out where
 |val (u:U) |new (xs:List U) |exc (C:GE) |dsk (d:GE) (u:U) (kvs:List (Str×U))
def nC(K:Gn)(H0:Hp)(O0:List GE)(Q:VK)(E:XK):Out->Prop
 | .val u=>∀v H',aH H0 H'->Rp K (hid H' O0) v u->Q v H'
 | .new xs=>∀a vs H',aH H0 H'->H0 a=none->H' a=some (.lst vs)->Rps K (hid H' (a::O0)) vs xs->Q (.ref a) H'
 | .exc C=>∀H',aH H0 H'->E (.ref C) none H'
 | .dsk d u kvs=>∀v kv H',aH H0 H'->H' d=some (.dK kv)->DkR K (hid H' (d::O0)) kv kvs->Rp K (hid H' (d::O0)) v u->Q v H'
theorem nC.later{K:Gn}{H0 H1:Hp}{O0:List GE}{Q:VK}{E:XK}{o:Out}(e:aH H0 H1)(h:nC K H0 O0 Q E o):nC K H1 O0 Q E o:=by
 cases o with
 |val u=>exact λv H' s r=>h v H' (e.trans s) r
 |new xs=>exact λa vs H' s n q r=>h a vs H' (e.trans s) (e.free n) q r
 |exc C=>exact λH' s=>h H' (e.trans s)
 |dsk d u kvs=>exact λv kv H' s q r p=>h v kv H' (e.trans s) q r p
structure PD where
 nx:PSt->Prop
 rt:Out->Prop
 bk:PSt->Prop:=λ_=>False
 ct:PSt->Prop:=λ_=>False
structure Lf(K:Gn)(H0:Hp)(O0:List GE)(E:XK)(D:PD)(D':ja):Prop where
 nx:∀ps σ H O,Rs K H0 O0 ps σ H O->D.nx ps->D'.nx σ H
 bk:∀ps σ H O,Rs K H0 O0 ps σ H O->D.bk ps->D'.bk σ H
 ct:∀ps σ H O,Rs K H0 O0 ps σ H O->D.ct ps->D'.ct σ H
 rt:∀o,D.rt o->nC K H0 O0 D'.rt E o
def Ws(X:Cx)(H0:Hp)(O0:List GE)(E:XK)(ss:List Iy)(D:PD)(ps:PSt):Prop:=PSs X ss λD' σ H=>Lf X.K H0 O0 E D D'/\∃O,Rs X.K H0 O0 ps σ H O
def W1(X:Cx)(H0:Hp)(O0:List GE)(E:XK)(s:Iy)(D:PD)(ps:PSt):Prop:=PS X s λD' σ H=>Lf X.K H0 O0 E D D'/\∃O,Rs X.K H0 O0 ps σ H O
variable {E:XK}{Su:PSt}{D:PD}{ss:List Iy}{RO:List Iy}
section
variable {ps:PSt}{s:Iy}{a b c e:Expr}{p:Pos}{x y:U}{k:Bool}
theorem au(h:D.nx ps):Ws X H0 O0 E [] D ps:=PSs.mono AQ λD' σ H ⟨L,O,R⟩=>L.nx ps σ H O R h
theorem ac(h:W1 X H0 O0 E s {D with nx:=λp=>Ws X H0 O0 E ss D p } ps):Ws X H0 O0 E (s::ss) D ps:=by
 have h2:PSs X ss λD' σ H=>∃p,Ws X H0 O0 E ss D p/\Lf X.K H0 O0 E D D'/\∃O,Rs X.K H0 O0 p σ H O:=λpins s σ H D' I ⟨p,w,l,r⟩=>w pins s σ H D' I ⟨l,r⟩
 exact PSs.mono (ye h h2) λD' σ H ⟨L,O,R⟩=>⟨⟨λp σ H O R q=>⟨p,q,L,O,R⟩,L.bk,L.ct,L.rt⟩,O,R⟩
theorem dL(h:Ws X H0 O0 E ss D Su)(hs:SubP Su ps):Ws X H0 O0 E ss D ps:=PSs.mono h λD' σ H ⟨L,O,R⟩=>⟨L,O,R.sub hs⟩
theorem aO{i:Nat}{x:Str}{RN:Pos}(hN:X.N.Nodup)(hi:X.N[i]?=some x)(hx:Loc X.env.scope x)(he:Ev X H0 O0 ps e u)(h:D.nx (ps.set i (some (.val u))))(hs:Ip e (some (.Name x RN)) pos.line X.env=pure false:=by rfl)(hf:X.fn x=true\/X.env.scope.names.lookup x=some .local:=by first |exact .inl rfl |exact .inr rfl |assumption):
  W1 X H0 O0 E (.Assign [.Name x RN] e pos) D ps:=PS.mono (rS hN hi hx he hs hf) λD' σ H ⟨L,O,R⟩=>⟨O,R,λv H' s r=>L.nx _ _ _ O ((R.go s).set r) h⟩
theorem m8{i:Nat}{x:Str}{RN:Pos}(hN:X.N.Nodup)(hi:X.N[i]?=some x)(hx:Loc X.env.scope x)(he:EvN X H0 O0 ps e xs)(h:D.nx (ps.set i (some (.own xs))))(hs:Ip e (some (.Name x RN)) pos.line X.env=pure false:=by rfl)(hf:X.fn x=true\/X.env.scope.names.lookup x=some .local:=by first |exact .inl rfl |exact .inr rfl |assumption):
  W1 X H0 O0 E (.Assign [.Name x RN] e pos) D ps:=PS.mono (rS hN hi hx he hs hf) λD' σ H ⟨L,O,R⟩=>⟨O,R,λa vs H' s n q r=>L.nx _ _ _ _ (R.own s n q r) h⟩
theorem k9{tb fb:List Iy}(hc:Tt X H0 O0 ps c k)(h1:k=true->Ws X H0 O0 E tb D ps)(h2:k=false->Ws X H0 O0 E fb D ps):W1 X H0 O0 E (.If c tb fb pos) D ps:=by
 cases k with
 |true=>exact PS.mono (xF hc (h1 rfl) (λ_ _ _ _ _ _ h=>h.elim) (u:=λ_ _ _=>False)) λD' σ H ⟨L,O,R⟩=>⟨O,R,λH' s=>mm ⟨L,O,R.go s⟩⟩
 |false=>exact PS.mono (xF hc (λ_ _ _ _ _ _ h=>h.elim) (h2 rfl) (t:=λ_ _ _=>False)) λD' σ H ⟨L,O,R⟩=>⟨O,R,λH' s=>jV ⟨L,O,R.go s⟩⟩
theorem Rs.ret{K:Gn}{σ:St}{H:Hp}{O:List GE}{v:V}(R:Rs K H0 O0 ps σ H O)(r:Rp K (hid H O) v u):Rp K (hid H O0) v u:=r.same (aI R.old)
theorem aQ(he:Ev X H0 O0 ps e u)(h:D.rt (.val u)):W1 X H0 O0 E (.Return (some e) pos) D ps:=
 PS.mono (jc he) λD' σ H ⟨L,O,R⟩=>⟨O,R,λv H' s r=>L.rt _ h v H' (R.same.trans s) ((R.go s).ret r)⟩
theorem dA(he:EvN X H0 O0 ps e xs)(h:D.rt (.new xs)):W1 X H0 O0 E (.Return (some e) pos) D ps:=
 PS.mono (jc he) λD' σ H ⟨L,O,R⟩=>⟨O,R,λa vs H' s n q r=>L.rt _ h a vs H' (R.same.trans s) (R.same.free n) q (r.same (aI λb hb=>by
  rcases Gx.mp hb with y |y
  ·subst y;exact Gy
  ·exact Gq _ (R.old b y)))⟩
theorem kS(i:Nat){x:Str}(hp:ps[i]?=some (some (.own xs)))(h:D.rt (.new xs))(hN:X.N[i]?=some x:=by rfl)(hv:Vis X.env.scope x:=by first |exact Or.inl rfl |exact Or.inr (Or.inl rfl) |exact Or.inr (Or.inr rfl))(hd:(x==("__debug__":Str))=false:=by decide)
  (R8:(x==("__classdict__":Str))=false:=by decide):W1 X H0 O0 E (.Return (some (.Name x p)) pos) D ps:=
 PS.mono (jc (cy hN hv hd R8)) λD' σ H ⟨L,O,R⟩=>by
  obtain⟨v,h1,a,vs,rfl,h3,h4,h5,h6⟩:=R.at_ i _ hp;refine⟨_,h1,L.rt _ h a vs H R.same ((R.new a h3).resolve_left h4) h5 (h6.same (aI λb hb=>?_))⟩
  rcases Gx.mp hb with y |y
  ·subst y;exact h3
  ·exact R.old b y
theorem oZ(he:Ev X H0 O0 ps e u)(h:D.nx ps)(hs:Ip e none pos.line X.env=pure false:=by rfl):W1 X H0 O0 E (.Expr e pos) D ps:=
 PS.mono (nM he hs) λD' σ H ⟨L,O,R⟩=>⟨O,R,λv H' s r=>L.nx _ _ _ O (R.go s) h⟩
theorem iK(i:Nat){x:Str}{RE RD xp:Pos}(hp:ps[i]?=some (some (.own xs)))(ha:Ev X H0 O0 ps e u)(hz:xs.length<sizeLine)(h:D.nx (ps.set i (some (.own (xs++[u])))))
  (hN:X.N[i]?=some x:=by rfl) (hv:Vis X.env.scope x:=by first |exact Or.inl rfl |exact Or.inr (Or.inl rfl) |exact Or.inr (Or.inr rfl)) (hd:(x==("__debug__":Str))=false:=by decide) (R8:(x==("__classdict__":Str))=false:=by decide)
  (RS:HR (.Name x xp) "append" X.env (HY (.Name x xp) X.env)=HY (.Name x xp) X.env:=by rfl)
  (Sw:((Hx RD (Gv [e] X.env)).all (λx=>!x.1) && (JA RD (HZ [] X.env)).all (λx=>x.1.isSome) && decide ([e].length+([]:List JP).length+(if ([]:List JP).isEmpty then 0 else 1)<30))=true:=by rfl)
  (RT:(RE.endLine==RD.line)=true:=by rfl) (Te:Gv [e] X.env=(false,HY e X.env)::Gv [] X.env:=by rfl) (RY:(Hx RD (Gv [] X.env)).any (·.1)=false:=by rfl)
  (hs:Ip (.Call (.Attribute (.Name x xp) "append" RE) [e] [] RD) none pos.line X.env=pure false:=by rfl):W1 X H0 O0 E (.Expr (.Call (.Attribute (.Name x xp) "append" RE) [e] [] RD) pos) D ps:=
 PS.mono (nM (p8 K9 PySem.F.slot_list_append PySem.F.type_list_append gH (cy hN hv hd R8) (bu ha cY Te) RS Sw RT Te RY) hs) λD' σ H ⟨L,O,R⟩=>by
  obtain⟨v,h1,a,vs,rfl,h3,h4,h5,h6⟩:=R.at_ i _ hp;refine⟨_,h1,.inl ⟨rfl,_,SqL.of h5⟩,O,R,λw H' s r=>⟨a,vs,w,rfl,rfl,s _ _ h5,by rw[h6.len];exact hz,?_⟩⟩
  exact L.nx _ _ _ O ((R.go s).write hp h1 ((h6.same (aD s)).snoc (.cons r .nil))) h
theorem CK(i:Nat){x:Str}{RE RD xp:Pos}(hp:ps[i]?=some (some (.own xs)))(RL:xs≠[])(h:D.nx (ps.set i (some (.own xs.dropLast))))
  (hN:X.N[i]?=some x:=by rfl) (hv:Vis X.env.scope x:=by first |exact Or.inl rfl |exact Or.inr (Or.inl rfl) |exact Or.inr (Or.inr rfl)) (hd:(x==("__debug__":Str))=false:=by decide) (R8:(x==("__classdict__":Str))=false:=by decide)
  (RS:HR (.Name x xp) "pop" X.env (HY (.Name x xp) X.env)=HY (.Name x xp) X.env:=by rfl)
  (RT:(RE.endLine==RD.line)=true:=by rfl)
  (hs:Ip (.Call (.Attribute (.Name x xp) "pop" RE) [] [] RD) none pos.line X.env=pure false:=by rfl):W1 X H0 O0 E (.Expr (.Call (.Attribute (.Name x xp) "pop" RE) [] [] RD) pos) D ps:=
 PS.mono (nM (xo K9 PySem.F.slot_list_pop PySem.F.type_list_pop CZ (cy hN hv hd R8) RS RT) hs) λD' σ H ⟨L,O,R⟩=>by
  obtain⟨v,h1,a,vs,rfl,h3,h4,h5,h6⟩:=R.at_ i _ hp;have Uq:0<vs.length:=by rw[h6.len];exact Jx.mpr RL
  have RU:vs.length-1<vs.length:=by lia
  refine⟨_,h1,.inl ⟨rfl,_,SqL.of h5⟩,a,vs,vs[vs.length-1],rfl,rfl,h5,Gm RU,?_⟩;refine L.nx _ _ _ O (R.write hp h1 ⟨by simp[h6.len],λj v x e1 e2=>?_⟩) h
  rw[J_]at e1 e2;split at e1
  ·split at e2
   ·exact h6.at_ j v x e1 e2
   ·cases e2
  ·cases e1
end
def kY:List Nat->TGs
 |[]=>FC
 |j::js=>Ch (jE j) (kY js)
def setAll:PSt->List Nat->List U->PSt
 |ps,j::js,u::us=>setAll (ps.set j (some (.val u))) js us
 |ps,_,_=>ps
def j7:St->List Nat->List V->St
 |σ,j::js,u::us=>j7 (σ.set j (some u)) js us
 |σ,_,_=>σ
theorem Rs.setAll{K:Gn}{H0:Hp}{O0:List GE}{H:Hp}{O:List GE}:∀{js:List Nat}{ps:PSt}{σ:St}{vs:List V}{us:List U},Rs K H0 O0 ps σ H O->Rps K (hid H O) vs us->Rs K H0 O0 (L2.setAll ps js us) (j7 σ js vs) H O
 |[],ps,σ,vs,us,R,r=>by cases us <;>cases vs <;>exact R
 |j::js,ps,σ,vs,[],R,r=>by rw[r.nil_inv];exact R
 |j::js,ps,σ,vs,u::us,R,r=>by
  obtain⟨v,ws,rfl,h1,h2⟩:=r.cons_inv;exact Rs.setAll (js:=js) (R.set h1) h2
theorem eP{Q:St->Hp->Prop}{H:Hp}:∀{js:List Nat}{σ:St}{vs:List V},vs.length=js.length->Q (j7 σ js vs) H->kY js vs σ H Q
 |[],σ,[],_,q=>⟨rfl,q⟩
 |j::js,σ,v::vs,e,q=>⟨v,vs,rfl,eP (js:=js) (by simpa using e) q⟩
 |[],_,_::_,e,_=>by simp at e
 |_::_,_,[],e,_=>by simp at e
def TgS(X:Cx)(H0:Hp)(O0:List GE)(tg:Expr)(ps:PSt)(u:U)(Su:PSt):Prop:=
 PG X tg λv σ H Q=>∃O,Rs X.K H0 O0 ps σ H O/\Rp X.K (hid H O) v u/\∀RK H',aH H H'->Rs X.K H0 O0 Su RK H' O->Q RK H'
theorem PG.mono{X:Cx}{e:Expr}{t t':TG}(h:PG X e t)(m:∀v σ H Q,t' v σ H Q->t v σ H Q):PG X e t':=λpins s σ H v u Q I r q=>h pins s σ H v u Q I r (m v σ H Q q)
theorem PI.mono{X:Cx}{tg e:Expr}{t t':TI}(h:PI X tg e t)(m:∀σ H Q,t' σ H Q->t σ H Q):PI X tg e t':=λpins s σ H Q I q=>h pins s σ H Q I (m σ H Q q)
def Yl(K:Gn)(J:It)(G:Hp)(xs:List U):Prop:=
 ∀H2,aH G H2->(∀i,i<xs.length->J.go i H2/\∀x H3,J.yld i H2 x H3->H3=H2/\∃u,xs[i]?=some u/\Rp K G x u)/\J.stop xs.length H2
def EvI(X:Cx)(H0:Hp)(O0:List GE)(ps:PSt)(tg iter:Expr)(xs:List U):Prop:=
 PI X tg iter λσ H R=>∃O,Rs X.K H0 O0 ps σ H O/\∀J H',aH H H'->Yl X.K J (hid H' O) xs->R J H'
variable {tg:Expr}{iter:Expr}
section
variable {ps:PSt}{s:Iy}{a b c e:Expr}{p:Pos}{x y:U}{k:Bool}
theorem ie{i:Nat}{x:Str}(hN:X.N.Nodup)(hi:X.N[i]?=some x)(hx:Loc X.env.scope x)(hf:X.fn x=true\/X.env.scope.names.lookup x=some .local:=by first |exact .inl rfl |exact .inr rfl |assumption):TgS X H0 O0 (.Name x pos) ps u (ps.set i (some (.val u))):=
 PG.mono (aJ hN hi hx hf) λv σ H Q ⟨O,R,r,q⟩=>q _ H (.refl H) (R.set r)
theorem Fh{k:Nat}(js:List Nat)(hc:X.calm=true)(h:PGs X es (kY js))(hl:us.length=js.length)(hn:(JC es X.env).length=js.length:=by rfl)(R9:(JC es X.env).findIdx? (·.1)=none:=by rfl):TgS X H0 O0 (.Tuple es k pos) ps (.tup us) (setAll ps js us):=
 PG.mono (dE hc h hn R9) λv σ H Q ⟨O,R,r,q⟩=>by
  cases r with
  |tup hq RZ hh=>exact⟨_,_,rfl,aB.tup hq,RZ.trans hl,eP (RZ.trans hl) (q _ H (.refl H) (R.setAll ⟨RZ,hh⟩))⟩
theorem EQ{k:Nat}(js:List Nat)(hc:X.calm=true)(h:PGs X es (kY js))(hx:x=.lst us\/x=.scr us)(hl:us.length=js.length)(hn:(JC es X.env).length=js.length:=by rfl)(R9:(JC es X.env).findIdx? (·.1)=none:=by rfl):TgS X H0 O0 (.Tuple es k pos) ps x (setAll ps js us):=
 PG.mono (Do hc h hn R9) λv σ H Q ⟨O,R,r,q⟩=>by
  rcases hx with rfl |rfl
  ·cases r with
   |lst hq RZ hh=>exact⟨_,_,rfl,aB.seq (SqL.of hq),RZ.trans hl,eP (RZ.trans hl) (q _ H (.refl H) (R.setAll ⟨RZ,hh⟩))⟩
  ·cases r with
   |scr hq RZ hh=>exact⟨_,_,rfl,aB.seq hq,RZ.trans hl,eP (RZ.trans hl) (q _ H (.refl H) (R.setAll ⟨RZ,hh⟩))⟩
theorem Fk(he:Ev X H0 O0 ps e u)(hg:TgS X H0 O0 tg ps u Su)(h:D.nx Su)(hs:swapsWithSole [tg] e pos.line X.env=pure false:=by rfl)(hw:swappedStores [tg] e X.env=pure none:=by rfl)
  (h1:(JC [tg] X.env).map (·.2)=[M0 tg X.env]:=by rfl):W1 X H0 O0 E (.Assign [tg] e pos) D ps:=
 PS.mono (DZ he hg hs hw h1) λD' σ H ⟨L,O,R⟩=>⟨O,R,λv H1 s1 r1=>⟨O,R.go s1,r1,λRK H2 s2 R2=>L.nx _ _ _ O R2 h⟩⟩
theorem b7(he:Ev X H0 O0 ps iter x)(hx:x=.lst xs\/x=.scr xs):EvI X H0 O0 ps tg iter xs:=
 PI.mono (Aw he) λσ H Q ⟨O,R,q⟩=>⟨O,R,λv H' s r=>by
  have key:∃a vs,v=.ref a/\SqL X.K (hid H' O) a vs/\Rps X.K (hid H' O) vs xs:=by
   rcases hx with rfl |rfl
   ·cases r with
    |lst hq hl hh=>exact⟨_,_,rfl,SqL.of hq,hl,hh⟩
   ·cases r with
    |scr hq hl hh=>exact⟨_,_,rfl,hq,hl,hh⟩
  obtain⟨a,vs,rfl,hq,rs⟩:=key;refine⟨a,rfl,⟨vs,aB.seq hq⟩,q _ H' s λH2 s2=>⟨λi hi=>?_,⟨vs,s2.seq hq,by rw[rs.len];exact GA _⟩⟩⟩
  have RW:i<vs.length:=by rw[rs.len];exact hi
  refine⟨⟨vs,vs[i],s2.seq hq,Gm RW⟩,λz H3 y=>⟨y.1,xs[i],Gm hi,rs.at_ i z _ (y.2 vs (s2.seq hq)) (Gm hi)⟩⟩⟩
def fQ(lo:Int)(n:Nat):List U:=(HJ n).map λ(i:Nat)=>U.int (lo+(i:Int))
theorem cM{lo:Int}{n:Nat}:(fQ lo n).length=n:=by simp[fQ]
theorem nv{lo:Int}{n i:Nat}(h:i<n):(fQ lo n)[i]?=some (.int (lo+(i:Int))):=by
 unfold fQ;rw[Gz,Jy h];rfl
theorem fB{lo:Int}{n i:Nat}{x:U}(h:(fQ lo n)[i]?=some x):i<n/\x=.int (lo+(i:Int)):=by
 have hi:=aR h;rw[cM]at hi;rw[nv hi]at h;exact⟨hi,(Hq h).symm⟩
theorem pA{K:Gn}{G:Hp}{lo:Int}{n:Nat}:Yl K (Itr lo n) G (fQ lo n):=λH2 s2=>by
 rw[cM];refine⟨λi hi=>⟨hi,λz H3 y=>⟨y.1,_,nv hi,?_⟩⟩,GA _⟩
 rw[y.2];exact .int _
theorem l6{j:Int}(hg:Gl X "range")(hm:X.mg "range"=none)(ha:EvA X H0 O0 ps [a] [.int j])(h1:-(2 ^ 62)≤j)(h2:j<2 ^ 62)(hs:Gv [a] X.env=[(false,HY a X.env)]:=by rfl):EvI X H0 O0 ps tg (.Call (.Name "range" p) [a] [] pos) (fQ 0 j.toNat):=
 PI.mono (vT hg hm ha hs) λσ H Q ⟨O,R,q⟩=>⟨O,R,λvs H' s r=>by
  obtain⟨v,rfl,h⟩:=cE r;cases h;exact⟨j,rfl,h1,h2,q _ H' s pA⟩⟩
theorem zg{i j:Int}(hg:Gl X "range")(hm:X.mg "range"=none)(ha:EvA X H0 O0 ps [a,b] [.int i,.int j])(h:-(2 ^ 62)≤i∧i<2 ^ 62∧-(2 ^ 62)≤j∧j<2 ^ 62)(hs:Gv [a,b] X.env=[(false,HY a X.env),(false,HY b X.env)]:=by rfl)(Ul:Gv [b] X.env=[(false,HY b X.env)]:=by rfl):
  EvI X H0 O0 ps tg (.Call (.Name "range" p) [a,b] [] pos) (fQ i (j-i).toNat):=
 PI.mono (vM hg hm ha hs Ul) λσ H Q ⟨O,R,q⟩=>⟨O,R,λvs H' s r=>by
  obtain⟨v,w,rfl,k1,k2⟩:=kj r;cases k1;cases k2;exact⟨i,j,rfl,h,q _ H' s pA⟩⟩
theorem Rs.rebase{K:Gn}{σ:St}{H:Hp}{O:List GE}(R:Rs K H0 O0 ps σ H O):Rs K (hid H (O.filter λa=>decide (a ∉ O0))) O0 ps σ H O:=
 ⟨aB,R.old,λa ha=>by
  by_cases h:a∈O0
  ·exact .inl h
  ·right;unfold hid;rw[if_pos (Io.mpr ⟨ha,by simpa using h⟩)],R.dom,R.len,R.at_,R.inj⟩
theorem Rs.base{K:Gn}{σ:St}{H:Hp}{O:List GE}(R:Rs K H0 O0 ps σ H O):aH H0 (hid H (O.filter λa=>decide (a ∉ O0))):=λb o h=>by
 refine b4 (R.same b o h) λz=>?_
 obtain⟨z1,z2⟩:=Io.mp z;rcases R.new b z1 with y |y
 ·simp[y]at z2
 ·rw[h]at y;cases y
theorem Rs.unbase{K:Gn}{H1:Hp}{σ:St}{H:Hp}{O:List GE}(e:aH H0 H1)(R:Rs K H1 O0 ps σ H O):Rs K H0 O0 ps σ H O:=
 ⟨e.trans R.same,R.old,λa ha=>(R.new a ha).imp id λz=>e.free z,R.dom,R.len,R.at_,R.inj⟩
theorem Rs.seen{K:Gn}{Ux:PSt}{σ σ2:St}{H H2:Hp}{O O2:List GE}(R:Rs K H0 O0 ps σ H O)(R2:Rs K (hid H (O.filter λa=>decide (a ∉ O0))) O0 Ux σ2 H2 O2):aH (hid H O) (hid H2 O2):=λb o h=>by
 obtain⟨h1,h2⟩:=fu h;have h3:hid H (O.filter λa=>decide (a ∉ O0)) b=some o:=b4 h1 λz=>h2 (Io.mp z).1
 refine b4 (R2.same b o h3) λz=>?_
 rcases R2.new b z with y |y
 ·exact h2 (R.old b y)
 ·rw[h3]at y;cases y
theorem FE(hc:X.calm=true)(hp:Nb (G1 X.prog X.w) X.A X.env X.xe)(hi:EvI X H0 O0 ps tg iter xs)(Iv:Nat->PSt->Prop)(h0:Iv 0 ps)
  (hs:∀(H0:Hp) (i:Nat) (x:U) (ps:PSt),xs[i]?=some x->Iv i ps->∃Su,TgS X H0 O0 tg ps x Su/\Ws X H0 O0 E RO {D with nx:=Iv (i+1),ct:=Iv (i+1),bk:=D.nx } Su) (hd:∀ps,Iv xs.length ps->D.nx ps)
  (hf:∀x,Hg iter X.env x=pure x:=by intro _;rfl):W1 X H0 O0 E (.For tg iter RO [] pos) D ps:=by
 have hg:PG X tg λv σ H Q=>∃H1 ps u Su,TgS X H1 O0 tg ps u Su/\∃O,Rs X.K H1 O0 ps σ H O/\Rp X.K (hid H O) v u/\∀RK H',aH H H'->Rs X.K H1 O0 Su RK H' O->Q RK H':=
  λpins s σ H v u Q I r ⟨H1,ps,w,Su,t,z⟩=>t pins s σ H v u Q I r z
 have hb:PSs X RO λD' σ H=>∃H1 D1 Su,Ws X H1 O0 E RO D1 Su/\Lf X.K H1 O0 E D1 D'/\∃O,Rs X.K H1 O0 Su σ H O:=λpins s σ H D' I ⟨H1,D1,Su,w,z⟩=>w pins s σ H D' I z
 refine PS.mono (DT hp hc hi hg hb hf) λD' σ H ⟨L,O,R⟩=>⟨O,R,λJ H1 s1 Y=>?_⟩
 have R1:=R.go s1;have base:=R1.base;refine⟨λi m σ H=>m=xs.length-i/\i<=xs.length/\∃ps O',Iv i ps/\Rs X.K (hid H1 (O.filter λa=>decide (a ∉ O0))) O0 ps σ H O',⟨_,rfl,Hf _,ps,O,h0,R1.rebase⟩,?_⟩
 rintro i m σ2 H2 ⟨rfl,SA,Ux,O2,iv,R2⟩;have seen:=R1.seen R2;obtain⟨y1,y2⟩:=Y H2 (seen.trans aB);by_cases RU:i<xs.length
 ·obtain⟨g1,g2⟩:=y1 i RU;refine .inr ⟨g1,λRK H'=>∃ps O',Iv (i+1) ps/\Rs X.K (hid H1 (O.filter λa=>decide (a ∉ O0))) O0 ps RK H' O',λRK H' z=>⟨xs.length-(i+1),by lia,rfl,RU,z⟩,λx H3 y=>?_⟩
  obtain⟨rfl,u,hu,r⟩:=g2 x H3 y;obtain⟨Su,t,w⟩:=hs (hid H1 (O.filter λa=>decide (a ∉ O0))) i u Ux hu iv
  refine⟨_,Ux,u,Su,t,O2,R2,r.same seen,λRK H' s' R'=>⟨_,_,Su,w,?_,O2,R'⟩⟩
  exact⟨λp σ H O R q=>⟨p,O,q,R⟩,λp σ H O R q=>L.nx _ _ _ _ (R.unbase base) q,λp σ H O R q=>⟨p,O,q,R⟩,λo q=>(L.rt o q).later base⟩
 ·have e:i=xs.length:=by lia
  subst e;exact .inl ⟨y2,L.nx _ _ _ _ (R2.unbase base) (hd Ux iv)⟩
theorem Ay(hp:Nb (G1 X.prog X.w) X.A X.env X.xe)(Iv:Nat->PSt->Prop)(m:Nat)(h0:Iv m ps)
  (hs:∀m ps,Iv m ps->∃b,Tt X H0 O0 ps c b/\(b=true->Ws X H0 O0 E RO {D with nx:=λp=>∃m',m'<m/\Iv m' p,ct:=λp=>∃m',m'<m/\Iv m' p,bk:=D.nx } ps)/\(b=false->D.nx ps)):W1 X H0 O0 E (.While c RO [] pos) D ps:=by
 have ht:PT X c λσ H Q=>∃ps b,Tt X H0 O0 ps c b/\∃O,Rs X.K H0 O0 ps σ H O/\∀H',aH H H'->Q b H':=λpins s σ H Q I ⟨ps,b,t,z⟩=>t pins s σ H Q I z
 have hb:PSs X RO λD' σ H=>∃D1 Su,Ws X H0 O0 E RO D1 Su/\Lf X.K H0 O0 E D1 D'/\∃O,Rs X.K H0 O0 Su σ H O:=λpins s σ H D' I ⟨D1,Su,w,z⟩=>w pins s σ H D' I z
 refine PS.mono (xq hp ht hb) λD' σ H ⟨L,O,R⟩=>⟨λm σ H=>∃ps O,Iv m ps/\Rs X.K H0 O0 ps σ H O,⟨m,ps,O,h0,R⟩,?_⟩
 rintro m σ2 H2 ⟨Ux,O2,iv,R2⟩;obtain⟨b,t,h1,h2⟩:=hs m Ux iv;refine⟨Ux,b,t,O2,R2,λH3 s3=>?_⟩
 cases b with
 |true=>
  refine mm ⟨λσ H=>∃m',m'<m/\∃ps O,Iv m' ps/\Rs X.K H0 O0 ps σ H O,λRK H' z=>z,_,Ux,h1 rfl,?_,O2,R2.go s3⟩
  exact⟨λp σ H O R ⟨m',l,q⟩=>⟨m',l,p,O,q,R⟩,λp σ H O R q=>L.nx _ _ _ _ R q,λp σ H O R ⟨m',l,q⟩=>⟨m',l,p,O,q,R⟩,L.rt⟩
 |false=>exact jV (L.nx _ _ _ _ (R2.go s3) (h2 rfl))
def cw:List Nat->PSt->PSt
 |[],ps=>ps
 |i::is,ps=>cw is (ps.set i none)
theorem Rs.mask{K:Gn}{H:Hp}{O:List GE}:∀{is:List Nat}{ps:PSt}{σ:St},Rs K H0 O0 ps σ H O->Rs K H0 O0 (cw is ps) (L2.mask is σ) H O
 |[],ps,σ,R=>R
 |i::is,ps,σ,R=>Rs.mask (is:=is) (R.drop (i:=i) (o:=none))
theorem Rs.hide{K:Gn}{σ:St}{H H':Hp}{O:List GE}{l:GE}(R:Rs K H0 O0 ps σ H O)(e:aH H H')(n:H l=none)(d:H' l≠none):Rs K H0 O0 ps σ H' (l::O):=by
 refine⟨R.same.trans e,λa ha=>Gq _ (R.old a ha),λa ha=>?_,λa ha z=>?_,R.len,λi s h=>?_,R.inj⟩
 ·rcases Gx.mp ha with y |y
  ·subst y;exact .inr (R.same.free n)
  ·exact R.new a y
 ·rcases Gx.mp ha with y |y
  ·subst y;exact d z
  ·exact R.dom a y (e.free z)
 ·obtain⟨w,h1,h2⟩:=R.at_ i s h;refine⟨w,h1,?_⟩;cases s with
  |val u=>exact Rp.same (bh e n) h2
  |own ys=>
   obtain⟨b,ws,k1,k2,k3,k4,k5⟩:=h2;exact⟨b,ws,k1,Gq _ k2,k3,e _ _ k4,k5.same (bh e n)⟩
  |pin z u=>exact⟨h2.1,Rp.same (bh e n) h2.2⟩
  |dsk w C b d kvs=>obtain⟨dx,kv,k1,k2,k3,k4,k5,k6⟩:=h2;exact⟨dx,kv,k1,Gq _ k2,k3,e _ _ k4,e _ _ k5,k6.same (bh e n)⟩
theorem o7{js is:List Nat}:∀{σ:St}{vs:List V},(∀j∈js,j∈is)->∀(n:Nat) (v:V),n ∉ is->σ[n]?=some (some v)->(j7 σ js vs)[n]?=some (some v):=by
 induction js with
 |nil=>intro σ vs _ n v _ h;cases vs <;>exact h
 |cons j js ih=>
  intro σ vs hj n v hn h;cases vs with
  |nil=>exact h
  |cons w ws=>exact ih (λz hz=>hj z (Gq _ hz)) n v hn (by rw[GX (λz=>hn (by rw[<-z];exact hj j Gy))];exact h)
def GOk(g:TG)(K:Gn)(is:List Nat)(f:PSt->U->PSt)(dom:U->Prop):Prop:=
 ∀(H0:Hp) (O0:List GE) (ps:PSt) (σ:St) (H:Hp) (O:List GE) (v:V) (u:U) (Q:St->Hp->Prop),dom u->Rs K H0 O0 ps σ H O->Rp K (hid H O) v u->
  (∀RK,Rs K H0 O0 (f ps u) RK H O->(∀(n:Nat) (w:V),n ∉ is->σ[n]?=some (some w)->RK[n]?=some (some w))->Q RK H)->g v σ H Q
theorem c_{K:Gn}{is:List Nat}{i:Nat}(h:i∈is):GOk (jE i) K is (λps u=>ps.set i (some (.val u))) λ_=>True:=λH0 O0 ps σ H O v u Q _ R r q=>
 q _ (R.set r) λn w hn e=>by rw[GX (λz=>hn (by rw[<-z];exact h))];exact e
theorem cS{K:Gn}{is js:List Nat}(h:∀j∈js,j∈is):GOk (EV K js.length (kY js)) K is (λps u=>match u with | .tup us=>setAll ps js us |_=>ps) λu=>∃us,u=.tup us/\us.length=js.length:=λH0 O0 ps σ H O v u Q d R r q=>by
 obtain⟨us,rfl,hl⟩:=d;cases r with
 |tup hq RZ hh=>exact⟨_,_,rfl,aB.tup hq,RZ.trans hl,eP (RZ.trans hl) (q _ (R.setAll ⟨RZ,hh⟩) λn w hn e=>o7 h n w hn e)⟩
theorem jf{is:List Nat}{g:TG}{f:PSt->U->PSt}{dom:U->Prop}{σ:St}{H1:Hp}{O:List GE}{Q:VK}{J:It}{te:TE}(hg:GOk g X.K is f dom)(R1:Rs X.K H0 O0 ps σ H1 O)(Y:Yl X.K J (hid H1 O) xs)(RM:ys.length=xs.length)(hz:xs.length<=sizeLine)(SD:∀x∈xs,dom x)
  (Tv:∀(i:Nat) (x y:U) (σ:St) (H:Hp) (O':List GE) (Q:VK),xs[i]?=some x->ys[i]?=some y->Rs X.K H0 O0 (f (cw is ps) x) σ H O'->(∀v H',aH H H'->Rp X.K (hid H' O') v y->Q v H')->te σ H Q)
  (RR:∀a vs H',aH H1 H'->H1 a=none->H' a=some (.lst vs)->Rps X.K (hid H' (a::O)) vs ys->Q (.ref a) H'):uJ is g te σ Q J H1:=by
 intro l hl;refine⟨λi m H2=>m=xs.length-i/\i<=xs.length/\aH H1 H2/\∃vs,H2 l=some (.lst vs)/\vs.length=i/\Rps X.K (hid H2 (l::O)) vs (ys.take i),⟨_,rfl,Hf _,aT hl _,[],aF,rfl,by rw[KD];exact .nil⟩,?_⟩
 rintro i m H2 ⟨rfl,hi,s2,vs,h2,hv,rs⟩;have seen:aH (hid H1 O) (hid H2 (l::O)):=bh s2 hl;obtain⟨y1,y2⟩:=Y H2 (seen.trans aB);by_cases RU:i<xs.length
 ·obtain⟨g1,g2⟩:=y1 i RU;refine .inr ⟨g1,λx H3 y=>?_⟩
  obtain⟨rfl,u,hu,r⟩:=g2 x H3 y;have R2:=(R1.mask (is:=is)).hide s2 hl (by rw[h2];intro z;cases z)
  refine hg H0 O0 _ _ H3 (l::O) x u _ (SD u (GJ hu)) R2 (r.same seen) λUc R4 keep=>?_
  have hy:ys[i]?=some (ys[i]'(by lia)):=Gm _
  refine Tv i u _ Uc H3 (l::O) _ hu hy R4 λv H5 s5 r5=>⟨λj w e=>keep j w (eS is σ j w e).2 e,vs,s5 _ _ h2,?_,xs.length-(i+1),by lia,rfl,RU,(s2.trans s5).put hl _,vs++[v],aF,by simp[hv],?_⟩
  ·rw[hv];lia
  ·rw[gC Gy,IR,hy];exact (rs.same (aD s5)).snoc (.cons r5 .nil)
 ·have e:i=xs.length:=by lia
  subst e;rw[<-RM,IX]at rs;exact .inl ⟨y2,RR l vs H2 s2 hl h2 rs⟩
theorem cU{R6:Expr}{scope:Ke}{cl:List (Str×GE)}{is:List Nat}{g:TG}{f:PSt->U->PSt}{dom:U->Prop}(hc:X.calm=true)(B:bQ X scope cl is)(hi:EvI X H0 O0 ps tg iter xs)(hg:∀C s H fp,PG (ap X scope cl C s H fp) tg g)(gk:GOk g X.K is f dom)
  (RM:ys.length=xs.length) (hz:xs.length<=sizeLine) (SD:∀x∈xs,dom x) (he:∀C s H fp (i:Nat) (x y:U),xs[i]?=some x->ys[i]?=some y->Ev (ap X scope cl C s H fp) H0 O0 (f (cw is ps) x) R6 y)
  (hs:∀x,Hg iter X.env x=pure x:=by intro _;rfl):EvN X H0 O0 ps (.ListComp R6 [⟨tg,iter,[],0⟩] scope pos) ys:=by
 have Tv:∀C s H fp,PE (ap X scope cl C s H fp) R6 λσ H Q=>∃i x y,xs[i]?=some x/\ys[i]?=some y/\∃O',Rs X.K H0 O0 (f (cw is ps) x) σ H O'/\∀v H',aH H H'->Rp X.K (hid H' O') v y->Q v H':=
  λC s H fp pins s' σ H' Q I ⟨i,x,y,h1,h2,z⟩=>he C s H fp i x y h1 h2 pins s' σ H' Q I z
 refine PE.mono (BF hc B hi hg Tv hs) λσ H Q ⟨O,R,q⟩=>⟨O,R,λJ H1 s1 Y=>?_⟩
 exact jf gk (R.go s1) Y RM hz SD (λi x y σ H O' Q h1 h2 R' z=>⟨i,x,y,h1,h2,O',R',z⟩) λa vs H' s n h r=>q a vs H' (s1.trans s) (s1.free n) h r
theorem vw{R6:Expr}{scope:Ke}{cl:List (Str×GE)}{Ss py:Pos}{y:Str}{j:Nat}{is:List Nat}{g:TG}{f:PSt->U->PSt}{dom:U->Prop}(own:Bool)(hc:X.calm=true)(hN:X.N.Nodup)(hj:X.N[j]?=some y)(hy:Loc X.env.scope y)(B:bQ X scope cl is)
  (hi:EvI X H0 O0 ps tg iter xs) (hg:∀C s H fp,PG (ap X scope cl C s H fp) tg g) (gk:GOk g X.K is f dom) (RM:ys.length=xs.length) (hz:xs.length<=sizeLine) (SD:∀x∈xs,dom x)
  (he:∀C s H fp (i:Nat) (x y:U),xs[i]?=some x->ys[i]?=some y->Ev (ap X scope cl C s H fp) H0 O0 (f (cw is ps) x) R6 y) (h:D.nx (ps.set j (some (if own then .own ys else .val (.lst ys)))))
  (hs:∀x,Hg iter X.env x=pure x:=by intro _;rfl)
  (Tu:Ip (.ListComp R6 [⟨tg,iter,[],0⟩] scope pos) (some (.Name y py)) Ss.line X.env=pure true:=by rfl) (hf:X.fn y=true\/X.env.scope.names.lookup y=some .local:=by first |exact .inl rfl |exact .inr rfl |assumption):
  W1 X H0 O0 E (.Assign [.Name y py] (.ListComp R6 [⟨tg,iter,[],0⟩] scope pos) Ss) D ps:=by
 have Tv:∀C s H fp,PE (ap X scope cl C s H fp) R6 λσ H Q=>∃i x y,xs[i]?=some x/\ys[i]?=some y/\∃O',Rs X.K H0 O0 (f (cw is ps) x) σ H O'/\∀v H',aH H H'->Rp X.K (hid H' O') v y->Q v H':=
  λC s H fp pins s' σ H' Q I ⟨i,x,y,h1,h2,z⟩=>he C s H fp i x y h1 h2 pins s' σ H' Q I z
 refine PS.mono (lw hc hN hj hy B hi hg Tv hs Tu hf) λD' σ H ⟨L,O,R⟩=>⟨O,R,λJ H1 s1 Y=>?_⟩
 refine jf gk (R.go s1) Y RM hz SD (λi x y σ H O' Q h1 h2 R' z=>⟨i,x,y,h1,h2,O',R',z⟩) λa vs H' s n h' r=>?_
 cases own with
 |true=>exact L.nx _ _ _ _ ((R.go s1).own s n h' r) h
 |false=>
  have na:a ∉ O:=λz=>(R.go s1).dom a z n
  have r':=r.same (aI λb hb=>Gq a hb)
  exact L.nx _ _ _ _ (((R.go s1).go s).set (.lst (b4 h' na) r'.len r'.at_)) h
end
def spU(K:Gn)(RH:List U->Out->Prop):Sp:=λvs H Q E=>∃us O o,(∀a∈O,H a≠none)/\Rps K (hid H O) vs us/\RH us o/\nC K H O Q E o
section
variable {ps:PSt}{s:Iy}{a b c e:Expr}{p:Pos}{x y:U}{k:Bool}
 {CX:CXT}{n:Nat}{f C:GE}{fd:Hw}{pn:List Str}{RH:List U->Out->Prop}{nm:Str}
theorem aC(F:aL X.prog X.w X.K X.mg X.base CX n f fd pn (spU X.K RH))(hr:bB n X.A)(hg:Gl X nm)(hm:X.mg nm=some (.ref f))(hk:HA X.K (.ref f)=true)(hb:bq X.K fd pn [])(hx:bj CX X E0)
  (ha:EvA X H0 O0 ps (e::es) us) (h:RH us (.val u)) (Sr:(nm==("__debug__":Str))=false:=by decide) (he:Gv (e::es) X.env=(false,HY e X.env)::Gv es X.env:=by rfl) (R3:(Hx pos (Gv es X.env)).any (·.1)=false:=by rfl):
  Ev X H0 O0 ps (.Call (.Name nm p) (e::es) [] pos) u:=
 PE.mono (gD F hr hg hm hk hb .nil hx ha Sr he R3) λσ H Q ⟨O,R,q⟩=>⟨O,R,λvs H1 s1 r1=>by
  show spU X.K RH (vs++[]) H1 Q _;rw[HE];exact⟨us,O,.val u,(R.go s1).dom,r1,h,λv H2 s2 r2=>q v H2 (s1.trans s2) r2⟩⟩
theorem bO(F:aL X.prog X.w X.K X.mg X.base CX n f fd pn (spU X.K RH))(hr:bB n X.A)(hg:Gl X nm)(hm:X.mg nm=some (.ref f))(hk:HA X.K (.ref f)=true)(hb:bq X.K fd pn [])(hx:bj CX X E0)
  (ha:EvA X H0 O0 ps (e::es) us) (h:RH us (.new xs)) (Sr:(nm==("__debug__":Str))=false:=by decide) (he:Gv (e::es) X.env=(false,HY e X.env)::Gv es X.env:=by rfl) (R3:(Hx pos (Gv es X.env)).any (·.1)=false:=by rfl):
  EvN X H0 O0 ps (.Call (.Name nm p) (e::es) [] pos) xs:=
 PE.mono (gD F hr hg hm hk hb .nil hx ha Sr he R3) λσ H Q ⟨O,R,q⟩=>⟨O,R,λvs H1 s1 r1=>by
  show spU X.K RH (vs++[]) H1 Q _;rw[HE];exact⟨us,O,.new xs,(R.go s1).dom,r1,h,λa vs H2 s2 n2 h2 r2=>q a vs H2 (s1.trans s2) (s1.free n2) h2 r2⟩⟩
def Xv(X:Cx)(H0:Hp)(O0:List GE)(E:XK)(ps:PSt)(e:Expr)(C:GE):Prop:=PE X e λσ H _=>∃O,Rs X.K H0 O0 ps σ H O/\∀H',aH H H'->E (.ref C) none H'
theorem yp(F:aL X.prog X.w X.K X.mg X.base CX n f fd pn (spU X.K RH))(hr:bB n X.A)(hg:Gl X nm)(hm:X.mg nm=some (.ref f))(hk:HA X.K (.ref f)=true)(hb:bq X.K fd pn [])(hx:bj CX X E)
  (ha:EvA X H0 O0 ps (e::es) us) (h:RH us (.exc C)) (Sr:(nm==("__debug__":Str))=false:=by decide) (he:Gv (e::es) X.env=(false,HY e X.env)::Gv es X.env:=by rfl) (R3:(Hx pos (Gv es X.env)).any (·.1)=false:=by rfl):
  Xv X H0 O0 E ps (.Call (.Name nm p) (e::es) [] pos) C:=
 PE.mono (gD F hr hg hm hk hb .nil hx ha Sr he R3) λσ H Q ⟨O,R,q⟩=>⟨O,R,λvs H1 s1 r1=>by
  show spU X.K RH (vs++[]) H1 Q _;rw[HE];exact⟨us,O,.exc C,(R.go s1).dom,r1,h,λH2 s2=>q H2 (s1.trans s2)⟩⟩
theorem zJ(he:Xv X H0 O0 E ps e C)(h:D.rt (.exc C)):W1 X H0 O0 E (.Return (some e) pos) D ps:=
 PS.mono (jc he) λD' σ H ⟨L,O,R⟩=>⟨O,R,λH' s=>L.rt _ h H' (R.same.trans s)⟩
end
section
variable {P:GF}{w:G5}{K:Gn}{mg:Str→Option Gr}{base:H_}{N pn:List Str}{RC nm:Str}{scope:Ke}{f:GE}{cd:Gr}{A:Ha}{outer:List Env}{s:Gs}{ps:PSt}
theorem tU{x:Str}{C:GE}{e0:Expr}{np RD pos:Pos}(hex:Of K C [.type "ValueError",.type "Exception",.type "BaseException",.type "object"] "ValueError.__new__"=true)
  (hg:Gl (cR (CXF P w) P w K mg base N RC scope f cd A outer s H E) x) (hm:mg x=some (.ref C)) (he:Ev (cR (CXF P w) P w K mg base N RC scope f cd A outer s H E) H0 O0 ps e0 u) (h:D.rt (.exc C))
  (R9:Gv [e0] (cR (CXF P w) P w K mg base N RC scope f cd A outer s H E).env=[(false,HY e0 (cR (CXF P w) P w K mg base N RC scope f cd A outer s H E).env)]:=by rfl) (hd:(x==("__debug__":Str))=false:=by decide):
  W1 (cR (CXF P w) P w K mg base N RC scope f cd A outer s H E) H0 O0 E (.Raise (some (.Call (.Name x np) [e0] [] RD)) none pos) D ps:=
 PS.mono (xO hex hg hm he R9 hd) λD' σ H ⟨L,O,R⟩=>⟨O,R,λv H' s r=>L.rt _ h H' (R.same.trans s)⟩
def dB(N:List Str)(us:List U):PSt:=us.map (λu=>some (.val u))++G6 (N.length-us.length) none
theorem a_{st:Iy}{fd:Hw}{k:Nat}{RH:List U->Out->Prop}(F:Fun K nm RC st f fd)(S:aq N pn (ag st))(len:∀us o,RH us o->us.length=pn.length)
  (Si:∀(RF:Gr) (A:Ha) (outer:List Env) (s:Gs) (H:Hp) (E:XK) (O:List GE) (us:List U) (o:Out),bB k (A.deeper (JH RC (ag st) s.heap.objs.size f RF))->RH us o->
   Ws (cR (CXF P w) P w K mg base N RC (ag st) f RF A outer s H E) H O E (bi st) ⟨λ_=>o=.val .non,λo'=>o'=o,λ_=>False,λ_=>False⟩ (dB N us)):aL P w K mg base (CXF P w) (k+1) f fd pn (spU K RH):=by
 refine F.okF S (λvs H Q E h=>?_) λRF A outer s H vs Q E hr h=>?_
 ·obtain⟨us,O,o,_,r,SH,_⟩:=h;rw[r.len];exact len us o SH
 ·obtain⟨us,O,o,d,r,SH,q⟩:=h;refine⟨_,Si RF A outer s H E O us o hr SH,⟨λps σ H' O' R e=>?_,λ_ _ _ _ _ e=>e.elim,λ_ _ _ _ _ e=>e.elim,λo' e=>by subst e;exact q⟩,O,?_⟩
  ·subst e;exact q .non H' R.same .non
  ·refine⟨.refl H,λa h=>h,λa h=>.inl h,d,?_,λi sl e=>?_,λi j xs ys a e1 e2 _ _=>?_⟩
   ·unfold start dB;rw[Hb,Hb,Gp,Gp,HN,HN,r.len]
   ·unfold dB at e;by_cases hi:i<us.length
    ·rw[GG (by simpa using hi),Gz,Gm hi]at e
     cases e;obtain⟨v,h1,h2⟩:=r.get (Gm hi);refine⟨v,?_,h2⟩;unfold start;rw[GG (by simpa [r.len] using hi),Gz,h1];rfl
    ·rw[GK (by simpa using hi),HG]at e
     split at e <;>cases e
   ·exfalso
    unfold dB at e1;by_cases hi:i<us.length
    ·rw[GG (by simpa using hi),Gz,Gm hi]at e1
     cases e1
    ·rw[GK (by simpa using hi),HG]at e1
     split at e1 <;>cases e1
end
section
variable {ps:PSt}{a b c e:Expr}{rest:List Expr}{p p2:Pos}{x y:U}{i j:Int}{k m:Bool}{lo hi:Option Expr}{l h:Option Int}
def EvO(X:Cx)(H0:Hp)(O0:List GE)(ps:PSt)(e:Option Expr)(n:Option Int):Prop:=PO X e λσ H Q=>∃O,Rs X.K H0 O0 ps σ H O/\∀H',aH H H'->Q n H'
theorem cW:EvO X H0 O0 ps none none:=λpins s σ H Q I ⟨O,R,q⟩=>BO pins s σ H Q I (q H (.refl H))
theorem c7(he:Ev X H0 O0 ps e (.int i)):EvO X H0 O0 ps (some e) (some i):=λpins s σ H Q I ⟨O,R,q⟩=>AD he pins s σ H Q I ⟨O,R,λv H' s r=>by cases r;exact⟨i,rfl,q H' s⟩⟩
def iB(xs:List U)(lo hi:Option Int):List U:=(xs.drop (HT.sIx xs.length 0 lo)).take (HT.sIx xs.length xs.length hi-HT.sIx xs.length 0 lo)
theorem Rps.drop{K:Gn}{H:Hp}{vs:List V}{xs:List U}(r:Rps K H vs xs)(n:Nat):Rps K H (vs.drop n) (xs.drop n):=⟨by simp[r.len],λi v x h1 h2=>r.at_ _ v x (by rwa [JI]at h1) (by rwa [JI]at h2)⟩
theorem Rps.take{K:Gn}{H:Hp}{vs:List V}{xs:List U}(r:Rps K H vs xs)(n:Nat):Rps K H (vs.take n) (xs.take n):=⟨by simp[r.len],λi v x h1 h2=>by
 by_cases hn:i<n
 ·rw[IJ hn]at h1 h2;exact r.at_ i v x h1 h2
 ·rw[List.getElem?_take_eq_none (by lia)]at h1
  cases h1⟩
theorem Rps.cut{K:Gn}{H:Hp}{vs:List V}{xs:List U}(r:Rps K H vs xs):Rps K H (vd vs l h) (iB xs l h):=by
 unfold vd iB;rw[r.len];exact (r.drop _).take _
theorem cX(he:Ev X H0 O0 ps e x)(hl:EvO X H0 O0 ps lo l)(hh:EvO X H0 O0 ps hi h)(hx:x=.lst xs\/x=.scr xs):EvN X H0 O0 ps (.Subscript e (.Slice lo hi none p2) pos) (iB xs l h):=
 PE.mono (pS A3 he hl hh) λσ H Q ⟨O,R,q⟩=>⟨O,R,λv H1 s1 r1=>⟨O,R.go s1,λH2 s2=>⟨O,R.go (s1.trans s2),λH3 s3=>by
  have key:∃a vs,v=.ref a/\SqL X.K (hid H1 O) a vs/\Rps X.K (hid H1 O) vs xs:=by
   rcases hx with rfl |rfl
   ·cases r1 with
    |lst hq hl hh=>exact⟨_,_,rfl,SqL.of hq,hl,hh⟩
   ·cases r1 with
    |scr hq hl hh=>exact⟨_,_,rfl,hq,hl,hh⟩
  obtain⟨a,vs,rfl,hq,rs⟩:=key;have s13:=s2.trans s3;refine⟨a,vs,rfl,s13.seq (aB.seq hq),λp hp=>q p _ _ ((s1.trans s13).trans (aT hp _)) ((s1.trans s13).free hp) aF ?_⟩
  exact (rs.cut.same (aD s13)).same (bh (aT hp _) hp)⟩⟩⟩
theorem mQ(ha:Ev X H0 O0 ps a (.lst xs))(hb:Ev X H0 O0 ps b (.lst ys))(hz:xs.length+ys.length<=sizeLine):EvN X H0 O0 ps (.BinOp a .Add b pos) (xs++ys):=
 PE.mono (pM DE ha hb) λσ H Q ⟨O,R,q⟩=>two R (λ_ _ _ z=>z) (λ_ _ _ z=>z) λv w H' s _ r1 r2=>by
  cases r1 with
  |lst hq hl hh=>
   cases r2 with
   |lst R5 RZ hh'=>
    refine⟨_,_,_,_,rfl,rfl,aB _ _ hq,aB _ _ R5,by rw[hl,RZ];exact hz,λp hp=>q p _ _ (s.trans (aT hp _)) (s.free hp) aF ?_⟩
    exact (Rps.snoc ⟨hl,hh⟩ ⟨RZ,hh'⟩).same (bh (aT hp _) hp)
def fl:U->V
 | .bl b=>.bl b | .int i=>.int i | .str x=>.str x |_=>.non
def we:U->Bool
 | .bl _=>true | .int _=>true | .str _=>true | .non=>true |_=>false
theorem CB{K:Gn}{H:Hp}{v:V}{u:U}(h:Rp K H v u)(f:we u=true):v=fl u/\g_ v=true:=by
 cases h <;>first |exact⟨rfl,rfl⟩ |simp[we]at f
theorem yJ{K:Gn}{H:Hp}:∀{vs:List V}{xs:List U},Rps K H vs xs->xs.all we=true->vs=xs.map fl/\vs.all g_=true
 |vs,[],r,_=>by rw[r.nil_inv];exact⟨rfl,rfl⟩
 |vs,x::xs,r,f=>by
  obtain⟨v,ws,rfl,h1,h2⟩:=r.cons_inv;simp only[LX,Hu]at f;obtain⟨e1,e2⟩:=CB h1 f.1;obtain⟨e3,e4⟩:=yJ h2 f.2;refine⟨by rw[GW,<-e1,<-e3],?_⟩
  simp only[LX,Hu];exact⟨e2,e4⟩
theorem wb(hx:we x=true)(hy:y.items=some ys)(hf:ys.all we=true):OpS X (Hh .In) x y (.bl (inV (fl x) (ys.map fl))):=by
 intro pins s σ H v w p q Q I r1 r2 h;obtain⟨k1,k2,k3⟩:=h;obtain⟨a,vs,rfl,h1,h2⟩:=t_ k2 hy;obtain⟨e1,e2⟩:=CB k1 hx;obtain⟨e3,e4⟩:=yJ h2 hf;exact wL pins s σ H v _ p q Q I r1 r2 ⟨a,vs,rfl,h1,e2,e4,by rw[e1,e3];exact k3⟩
theorem EM{bs:List Bool}(hc:X.calm=true):dJ X (.builtin "all") [.lst (bs.map U.bl)] (.bl (bs.all id)):=by
 intro pins s σ H vs us Q I r hq;obtain⟨O,d,rs,q⟩:=hq;obtain⟨v,rfl,h1⟩:=cE rs;obtain⟨p1,rfl,r1⟩:=de r;cases h1 with
 | @lst a ws _ hq hl hh=>
  cases r1;obtain⟨RB,rv,pl,_⟩:=I.list (SqL.of (aB _ _ hq));have RM:RB.length=bs.length:=by rw[<-rv.length,hl,Gp]
  have Vb:∀(i:Nat) (z:Gr),RB.toArray[i]?=some z->z=.bool (bs.getD i false):=λi z e=>by
   have hi:i<RB.length:=by have:=aR (show RB[i]?=some z by simpa using e);exact this
   have hb:i<bs.length:=by lia
   have hw:i<ws.length:=by rw[rv.length];exact hi
   obtain⟨u,e1,e2⟩:=rv.get (Gm hw);have e3:=hh i ws[i] (.bl bs[i]) (Gm hw) (by rw[Gz,Gm hb];rfl)
   have e4:RB[i]?=some z:=by simpa using e
   rw[e4]at e1;cases e1;generalize ws[i]=wi at *;cases e3;rw[G0,Gm hb];exact e2
  refine call_all_walk (I_ pl.isList ?_);have RL:a≠s.heap.objs.size:=by obtain⟨o,e,_⟩:=pl.isList;exact GS (GD e)
  refine⟨s.heap.objs.size,_,_,_,_,_,λi=>bs.getD i false,rfl,Walks.list (A:=X.A.in1) (I.ok.hd hc) s.heap.objs.size a RL RB.toArray,⟨⟨_,GH _ rfl,rfl,rfl⟩,pl.isList.push _⟩,λi z s' Q' E' hP hQ=>?_,λh' tk hk=>?_⟩
  ·rw[Vb i z hP];exact IG hQ
  ·have e:(HJ RB.toArray.size).all (λi=>bs.getD i false)=bs.all id:=by
    rw[GN,RM,Jv,mZ,Ig];constructor
    ·intro h x hx;obtain⟨i,hi,rfl⟩:=L9 hx;have:=h i hi
     rwa [G0,Gm hi]at this
    ·intro h j hj;rw[G0,Gm hj];exact h _ (LO hj)
   rw[e];refine⟨.bl _,H,I.kept (t':=tk) λb o e=>hk b o ?_ (Gu _ e),rfl,q _ H (.refl H) (.bl _)⟩
   intro z;have:b=s.heap.objs.size:=by simpa using z
   exact absurd (GD e) (by rw[this];exact Hc _)
end
def wQ(J:It)(is:List Nat)(g:TG)(tt:TT)(te:TE)(σ:St)(H1:Hp)(l:GE)(Q:VK):Prop:=
 ∃W:Nat->Nat->Hp->Prop,(∃m,W 0 m (upd H1 l (.lst [])))/\∀i m H2,W i m H2->
  (J.stop i H2/\Q (.ref l) H2)\/(J.go i H2/\∀x H3,J.yld i H2 x H3->g x (mask is σ) H3 λUc H4=>tt Uc H4 λb H5=>
   (∀(j:Nat) (v:V),(mask is σ)[j]?=some (some v)->Uc[j]?=some (some v))/\
   if b=true then te Uc H5 λy H6=>∃vs,H6 l=some (.lst vs)/\vs.length<sizeLine/\∃m',m'<m/\W (i+1) m' (upd H6 l (.lst (vs++[y]))) else ∃m',m'<m/\W (i+1) m' H5)
def xV(is:List Nat)(g:TG)(tt:TT)(te:TE)(σ:St)(Q:VK)(J:It)(H1:Hp):Prop:=∀l,H1 l=none->wQ J is g tt te σ H1 l Q
def zB(is:List Nat)(wi:TI)(g:TG)(tt:TT)(te:TE):TE:=λσ H Q=>wi σ H (xV is g tt te σ Q)
section
variable {σ:St}{s:Gs}
theorem wR{R6 iter tg:Expr}{scope:Ke}{cl:List (Str×GE)}{pos UH:Pos}{is:List Nat}{wi:TI}{g:TG}{tt:TT}{te:TE}{cond:Expr}{use:Option (Gr->Sem Unit)}{Q0:VK}{Q:Gr->Gs->Prop}(hc:X.calm=true)(B:bQ X scope cl is)
  (hi:PI X tg iter wi) (hg:∀C s H fp,PG (ap X scope cl C s H fp) tg g) (ht:∀C s H fp,PT (ap X scope cl C s H fp) cond tt) (he:∀C s H fp,PE (ap X scope cl C s H fp) R6 te) (hs:∀x,Hg iter X.env x=pure x)
  (I:Inv X pins σ H s) (h:zB is wi g tt te σ H Q0)
  (RR:∀(l C:GE) (H':Hp) (s':Gs) (m:Str->Option Gr),Inv X pins σ H' s'->s'.heap.Ns C m->H' C=none->C≠X.env.locals->C ∉ X.fs->X.s₀.heap.objs.size<=C->(∀x c,X.env.cells.lookup x=some c->c≠C)->(∀p∈X.pn++pins,p.1≠C)->Q0 (.ref l) H'->
   NL (G1 X.prog X.w) X.A X.xe use Q (.ref l) C (.ok .next) s'):
  GQ (G1 X.prog X.w) X.A (K6 (.ListComp R6 [⟨tg,iter,[cond],0⟩] scope pos) scope X.env UH (Pq []) false (HY iter X.env) use) Q X.xe s:=by
 refine KO rfl hs B.clos B.kind B.names (thn (hi pins s σ H _ I h) λxv s1 h1=>thn h1 λitv s2 h2=>?_)
 obtain⟨it,fp,tn,J,H2,e,I2,T,U1,f2,R⟩:=h2;subst e;refine JQ (LU B.cell (by intro y hy;simp at hy) (λh₁ Uv S6=>?_) B.kind)
 have hl:H2 s2.heap.objs.size=none:=I2.hok.fresh (GA _);obtain⟨W,⟨m0,w0⟩,turn⟩:=R s2.heap.objs.size hl
 have I3:Inv X pins σ (upd H2 s2.heap.objs.size (.lst [])) {s2 with heap:=s2.heap.push {cls:=.type "list",dict:=none,data:=.seq ([]:List Gr).toArray } }:=
  I2.laid (t':=s2.toks) (o:=.lst []) (λb u e=>Gu _ e) (GA _) ⟨Hf _,[],0,.nil,GH _ rfl⟩
 have U4:∀b∈fp,b<s2.heap.objs.size:=λb hb=>let ⟨o,e,_⟩:=T.obj 0 _ U1 b hb;GD e
 have f3:∀b∈fp,ig X pins (upd H2 s2.heap.objs.size (.lst [])) b:=λb hb=>⟨by rw[aE (GS (U4 b hb))];exact (f2 b hb).1,(f2 b hb).2⟩
 have kp:∀b o,(s2.heap.push {cls:=.type "list",dict:=none,data:=.seq ([]:List Gr).toArray }).get? b=some o→h₁.get? b=some o:=λb o e=>
  S6.extBut b o (GS (GD e)) (Gu _ e)
 have Vn:tn 0 h₁:=T.keep 0 _ _ U1 λb _ o e=>kp b o (Gu _ e)
 have UI:∀b∈fp,b<(s2.heap.push {cls:=.type "list",dict:=none,data:=.seq ([]:List Gr).toArray }).objs.size:=λb hb=>by
  rw[Iq];exact IK (U4 b hb)
 have I4:=f8 (t':=s2.toks+([]:List (Str×Gr)).length) I3 B f3 UI Uv kp
 have loop:J7 (G1 X.prog X.w) X.A (.compLoop (.ListComp R6 [⟨tg,iter,[cond],0⟩] scope pos) 0 (.ref it) (.ref s2.heap.objs.size) (LA scope cl (s2.heap.push {cls:=.type "list",dict:=none,data:=.seq ([]:List Gr).toArray }).objs.size X.env))
   (NL (G1 X.prog X.w) X.A X.xe use Q (.ref s2.heap.objs.size) (s2.heap.push {cls:=.type "list",dict:=none,data:=.seq ([]:List Gr).toArray }).objs.size)
   {s2 with heap:=h₁,toks:=s2.toks+([]:List (Str×Gr)).length }:=by
  generalize hs3:({s2 with heap:=s2.heap.push {cls:=.type "list",dict:=none,data:=.seq ([]:List Gr).toArray } }:Gs)=s3 at *
  have hC:(s2.heap.push {cls:=.type "list",dict:=none,data:=.seq ([]:List Gr).toArray }).objs.size=s3.heap.objs.size:=by rw[←hs3]
  rw[hC]
  have Sy:∀{H':Hp},(∀b∈fp,H' b=none)->∀b∈fp,ig (ap X scope cl s3.heap.objs.size s3 (upd H2 s2.heap.objs.size (.lst [])) fp) [] H' b:=λhn b hb=>
   ⟨hn b hb,(I4.ok.exf b hb).1,I4.ok.exfs b hb,.inl hb,λx c e=>(I4.ok.exf b hb).2 x c e,λp hp=>absurd (show p∈([]:List (GE×Obj)) from hp) (by simp)⟩
  have back:∀{RK:St}{H':Hp}{pp:List (GE×Obj)}{s':Gs},Inv (ap X scope cl s3.heap.objs.size s3 (upd H2 s2.heap.objs.size (.lst [])) fp) pp RK H' s'->Inv X pins σ H' s':=λI'=>
   I3.call' (ch:=fp) I'.os I'.base I'.hok I'.bare λb hb=>⟨(f3 b hb).2.2.2.1,(f3 b hb).2.1,(f3 b hb).2.2.2.2.1,(f3 b hb).2.2.2.2.2⟩
  refine OY rfl (λn s'=>∃i H',Inv (ap X scope cl s3.heap.objs.size s3 (upd H2 s2.heap.objs.size (.lst [])) fp) [] (mask is σ) H' s'/\tn i s'.heap/\(∀b∈fp,H' b=none)/\W i n H') ?_ m0 ⟨0,_,(by subst hs3;exact I4),Vn,λb hb=>(f3 b hb).1,w0⟩
  rintro n s5 ⟨i,H5,I5,Uu,U2,w5⟩;show GQ _ _ ((compTurn (.ListComp R6 [⟨tg,iter,[cond],0⟩] scope pos) 0 (.ref it) (.ref s2.heap.objs.size) (LA scope cl s3.heap.objs.size X.env)).onRaise (λx=>do Nj x (LA scope cl s3.heap.objs.size X.env);Nk x)) _ _ s5
  refine Pr ?_;rw[compTurn_list];refine Gk (Km (Gk ?_));rcases turn i n H5 w5 with ⟨stop,q⟩ |⟨go,step⟩
  ·refine thn (T.done (ap X scope cl s3.heap.objs.size s3 (upd H2 s2.heap.objs.size (.lst [])) fp) rfl rfl rfl hc i [] s5 _ H5 _ I5 (Sy U2) Uu stop) λr s6 ⟨hr,I6⟩=>?_
   subst hr;refine Gw ?_;obtain⟨m6,hn6,_⟩:=I6.loc;have hCn:∀b,b<s3.heap.objs.size->b≠s3.heap.objs.size:=λb hb=>GS hb
   refine RR _ s3.heap.objs.size H5 s6 m6 (back I6) hn6 I6.free (Kf I3.lt) (I3.nofs (GA _)) I3.sz (λx c e=>?_) (λp hp=>?_) q
   ·obtain⟨v,z⟩:=I3.cell x c e;exact GS z.lt
   ·exact GS (GD (I3.pin p hp).1)
  ·refine thn (T.item (ap X scope cl s3.heap.objs.size s3 (upd H2 s2.heap.objs.size (.lst [])) fp) rfl rfl rfl hc i [] s5 _ H5 _ I5 (Sy U2) Uu go) λr s6 ⟨u,hr,h6⟩=>?_
   subst hr;refine Gk (thn h6 λ_ s7 ⟨x,H7,I7,r7,y7,UJ,fr7⟩=>?_)
   have I7':=I7.pinned (Sy fr7) (T.obj _ _ UJ);refine Gk (HC (hg _ _ _ _ _ s7 (mask is σ) H7 x u _ I7' r7 (step x H7 y7)) (λ_ s8 ⟨U7,H8,I8,q8⟩=>?_) λ_ _ z=>z.elim)
   refine Gk (wpAny_tests_one (HC (ht _ _ _ _ _ s8 U7 H8 _ I8 q8) (λbb s9 ⟨H9,I9,sub,q9⟩=>?_) λ_ _ z=>z.elim))
   have fpn:∀{H':Hp}{s':Gs}{RK:St},Inv (ap X scope cl s3.heap.objs.size s3 (upd H2 s2.heap.objs.size (.lst [])) fp) ([]++kZ fp s7.heap) RK H' s'->tn (i+1) s'.heap/\∀b∈fp,H' b=none:=λ{H' s' RK} J=>⟨T.keep _ _ _ UJ λb hb o e=>(J.pin (b,o) (GM _ (GM _ (ci hb e)))).1,λb hb=>by
    obtain⟨o,e,d⟩:=T.obj _ _ UJ b hb;exact (J.pin (b,o) (GM _ (GM _ (ci hb e)))).2.1⟩
   cases bb with
   |true=>
    rw[if_pos rfl]at q9;simp only[if_true];refine Gk (Gk (HC (he _ _ _ _ _ s9 U7 H9 _ I9 q9) (λv s10 ⟨y,H10,UK,r10,vs,hl10,hz,m',hm,w'⟩=>?_) λ_ _ z=>z.elim))
    refine Gk (HC (gH (X:=ap X scope cl s3.heap.objs.size s3 (upd H2 s2.heap.objs.size (.lst [])) fp) _ s10 U7 H10 (.ref s2.heap.objs.size) [y] (.ref s2.heap.objs.size) [v] (λ_ H'=>H'=upd H10 s2.heap.objs.size (.lst (vs++[y]))) UK rfl (.cons r10 .nil) ⟨_,vs,y,rfl,rfl,hl10,hz,rfl⟩) (λz s11 ⟨zv,H11,I11,_,e11⟩=>?_) λ_ _ z=>z.elim)
    subst e11;obtain⟨k1,k2⟩:=fpn I11;exact Gw (Gw ⟨rfl,m',hm,i+1,_,(I11.unpinned (pins:=[])).weak (by rw[I11.len,dM,I.len]) sub,k1,k2,w'⟩)
   |false=>
    rw[if_neg (by decide)]at q9
    simp only[GO,if_false];obtain⟨m',hm,w'⟩:=q9;obtain⟨k1,k2⟩:=fpn I9
    first
     |exact Gw ⟨rfl,m',hm,i+1,_,(I9.unpinned (pins:=[])).weak (by rw[I9.len,dM,I.len]) sub,k1,k2,w'⟩
     |exact Gk (Gw (Gw ⟨rfl,m',hm,i+1,_,(I9.unpinned (pins:=[])).weak (by rw[I9.len,dM,I.len]) sub,k1,k2,w'⟩))
 exact Lg loop (T.self X.A 0 _ _ _ Vn loop)
theorem qH{R6 iter tg:Expr}{scope:Ke}{cl:List (Str×GE)}{pos Ss py:Pos}{y:Str}{j:Nat}{is:List Nat}{wi:TI}{g:TG}{tt:TT}{te:TE}{cond:Expr}(hc:X.calm=true)(hN:X.N.Nodup)(hj:X.N[j]?=some y)(hy:Loc X.env.scope y)(B:bQ X scope cl is)
  (hi:PI X tg iter wi) (hg:∀C s H fp,PG (ap X scope cl C s H fp) tg g) (ht:∀C s H fp,PT (ap X scope cl C s H fp) cond tt) (he:∀C s H fp,PE (ap X scope cl C s H fp) R6 te) (hs:∀x,Hg iter X.env x=pure x:=by intro _;rfl)
  (Tu:Ip (.ListComp R6 [⟨tg,iter,[cond],0⟩] scope pos) (some (.Name y py)) Ss.line X.env=pure true:=by rfl) (hf:X.fn y=true\/X.env.scope.names.lookup y=some .local:=by first |exact .inl rfl |exact .inr rfl |assumption):
  PS X (.Assign [.Name y py] (.ListComp R6 [⟨tg,iter,[cond],0⟩] scope pos) Ss) (vf (zB is wi g tt te) (jE j)):=by
 intro pins s σ H D I h;rw[LF _ _ _ _ Tu];refine Gk (Km (Gk ?_));show GQ _ X.A (do let _ <-K6 (.ListComp R6 [⟨tg,iter,[cond],0⟩] scope pos) scope X.env _ (Pq []) false (HY iter X.env) (some (M0 (.Name y py) X.env))) _ _ s
 refine Gk (HC (wR (Q0:=λv H'=>D.nx (σ.set j (some v)) H') (use:=some (M0 (.Name y py) X.env)) (Q:=λ_ s'=>SP X pins D .next s') hc B hi hg ht he hs I h λl C H' s' m I' hn h1 h2 h3 h4 h5 h6 q=>?_) (λ_ s' hq=>Gw (Gw hq)) λ_ _ e=>e)
 show GQ _ X.A (M0 (.Name y py) X.env (.ref l)) _ _ _;refine Lo (eY I' hN hj hy (v:=.ref l) rfl (λs2 I2 ⟨a,S6,ha⟩=>?_) hf)
 have hCa:C≠a:=by
  rcases ha with e |e
  ·rw[e];exact h2
  ·exact Ne.symm (h5 _ _ e)
 refine⟨m,hn.sameBut S6 hCa,λh' TX=>⟨_,H',I2.turned (t':=s2.toks) (λb o hb e=>TX.extBut b o hb e) h1 h2 (.inr h4) h5 h6,q⟩⟩
variable {ps:PSt}{cond:Expr}{p:Pos}{fs:List (Option U)}
theorem sC{is:List Nat}{g:TG}{f:PSt->U->PSt}{dom:U->Prop}{σ:St}{H1:Hp}{O:List GE}{Q:VK}{J:It}{tt:TT}{te:TE}(hg:GOk g X.K is f dom)(R1:Rs X.K H0 O0 ps σ H1 O)(Y:Yl X.K J (hid H1 O) xs)(RM:fs.length=xs.length)(hz:xs.length<=sizeLine)(SD:∀x∈xs,dom x)
  (htt:∀(i:Nat) (x:U) (o:Option U) (σ:St) (H:Hp) (O':List GE) (Q:Bool->Hp->Prop),xs[i]?=some x->fs[i]?=some o->Rs X.K H0 O0 (f (cw is ps) x) σ H O'->(∀H',aH H H'->Q o.isSome H')->tt σ H Q)
  (Tv:∀(i:Nat) (x y:U) (σ:St) (H:Hp) (O':List GE) (Q:VK),xs[i]?=some x->fs[i]?=some (some y)->Rs X.K H0 O0 (f (cw is ps) x) σ H O'->(∀v H',aH H H'->Rp X.K (hid H' O') v y->Q v H')->te σ H Q)
  (RR:∀a vs H',aH H1 H'->H1 a=none->H' a=some (.lst vs)->Rps X.K (hid H' (a::O)) vs (fs.filterMap id)->Q (.ref a) H'):xV is g tt te σ Q J H1:=by
 intro l hl;refine⟨λi m H2=>m=xs.length-i/\i<=xs.length/\aH H1 H2/\∃vs,H2 l=some (.lst vs)/\vs.length<=i/\Rps X.K (hid H2 (l::O)) vs ((fs.take i).filterMap id),⟨_,rfl,Hf _,aT hl _,[],aF,GA _,by rw[KD];exact .nil⟩,?_⟩
 rintro i m H2 ⟨rfl,hi,s2,vs,h2,hv,rs⟩;have seen:aH (hid H1 O) (hid H2 (l::O)):=bh s2 hl;obtain⟨y1,y2⟩:=Y H2 (seen.trans aB);by_cases RU:i<xs.length
 ·obtain⟨g1,g2⟩:=y1 i RU;refine .inr ⟨g1,λx H3 y=>?_⟩
  obtain⟨rfl,u,hu,r⟩:=g2 x H3 y;have R2:=(R1.mask (is:=is)).hide s2 hl (by rw[h2];intro z;cases z)
  refine hg H0 O0 _ _ H3 (l::O) x u _ (SD u (GJ hu)) R2 (r.same seen) λUc R4 keep=>?_
  obtain⟨o,ho⟩:∃o,fs[i]?=some o:=⟨_,Gm (by lia)⟩
  refine htt i u o Uc H3 (l::O) _ hu ho R4 λH5 s5=>⟨λj w e=>keep j w (eS is σ j w e).2 e,?_⟩
  cases o with
  |none=>
   refine jV ⟨xs.length-(i+1),by lia,rfl,RU,s2.trans s5,vs,s5 _ _ h2,by lia,?_⟩
   rw[IR,ho,Og,Nl];simpa using rs.same (aD s5)
  |some yv=>
   refine mm (Tv i u yv Uc H5 (l::O) _ hu ho (R4.go s5) λv H6 s6 r6=>⟨vs,s6 _ _ (s5 _ _ h2),?_,xs.length-(i+1),by lia,rfl,RU,((s2.trans s5).trans s6).put hl _,vs++[v],aF,by simp;lia,?_⟩)
   ·lia
   ·rw[gC Gy,IR,ho,Og,Nl];exact ((rs.same (aD s5)).same (aD s6)).snoc (.cons r6 .nil)
 ·have e:i=xs.length:=by lia
  subst e;rw[<-RM,IX]at rs;exact .inl ⟨y2,RR l vs H2 s2 hl h2 rs⟩
end
theorem Ws.nox{X:Cx}{H0:Hp}{O0:List GE}{E:XK}{ss:List Iy}{D:PD}{ps:PSt}(h:Ws X.nox H0 O0 E ss D ps):Ws X H0 O0 E ss D ps:=PSs.nox h
theorem aL.calm{P:GF}{w:G5}{K:Gn}{mg:Str->Option Gr}{base:H_}{k:Nat}{f:GE}{fd:Hw}{ps:List Str}{sp:Sp}(F:aL P w K mg base (CXF P w) k f fd ps sp)(h:∀vs H Q E,sp vs H Q E->sp vs H Q E0):aL P w K mg base CX0 k f fd ps sp:=by
 refine⟨F.len,λA outer s H args us vs Q E hr he hb hv hs=>JV (F.run A outer s H args us vs Q E0 hr he hb hv (h _ _ _ _ hs)) λr s' q=>?_⟩
 cases r with
 |ok fl=>
  cases fl with
  |ret u=>exact q
  |next=>exact q
  |brk=>exact q
  |cont=>exact q
 |error e=>
  obtain⟨_,_,_,_,_,_,_,_,_,_,_,_,_,_,_,hE⟩:=q;exact hE.elim
def i7:List U->Out->Prop:=λus o=>∃ns:List Int,us=[.scr (ns.map U.int)]/\ns.length<=63/\(∀m∈ns,Sz 1048576 m)/\o=.val (.bl true)
theorem xM{K:Gn}(vs:List V)(H:Hp)(Q:VK)(E:XK)(h:spU K i7 vs H Q E):spU K i7 vs H Q E0:=by
 obtain⟨us,O,o,d,r,⟨ns,h1,h2,h3,rfl⟩,q⟩:=h;exact⟨us,O,_,d,r,⟨ns,h1,h2,h3,rfl⟩,q⟩
theorem vZ{K:Gn}{H:Hp}{a:GE}{ns:List Int}{E:XK}(h1:ns.length<=63)(h2:∀m∈ns,Sz 1048576 m)(h3:SqL K H a (ns.map V.int)):spU K i7 [.ref a] H (λv _=>v=.bl true) E:=by
 refine⟨[.scr (ns.map U.int)],[],.val (.bl true),λa ha=>(nomatch ha),.cons ?_ .nil,⟨ns,rfl,h1,h2,rfl⟩,λv H' s r=>by cases r;rfl⟩
 have e:hid H []=H:=by funext b;unfold hid;rw[if_neg (by simp)]
 rw[e];refine .scr h3 (by simp) λi v x e1 e2=>?_
 rw[Gz]at e1 e2;cases q:ns[i]? with
 |none=>rw[q]at e1;cases e1
 |some n=>rw[q]at e1 e2;cases e1;cases e2;exact .int n
theorem ba{k:Nat}{A:Ha}(hr:bB k A):A.units+10<Ku:=by have:=hr.un;lia
theorem zP{ns:List Int}{k:Int}(h0:0<=k)(h:k<(ns.length:Int)):atI (ns.map U.int) k=some (.int (ns.getD k.toNat 0)):=by
 have hk:k.toNat<ns.length:=by lia
 have q:atI (ns.map U.int) ((k.toNat:Nat):Int)=some (.int (ns.getD k.toNat 0)):=sZ (by rw[Gz,G0,Gm hk] <;>rfl)
 rwa [show ((k.toNat:Nat):Int)=k by lia]at q
theorem Ca{ns:List Int}(h:∀m∈ns,Sz 1048576 m)(i:Nat):Sz 1048576 (ns.getD i 0):=by
 by_cases hk:i<ns.length
 ·rw[G0,Gm hk,JD];exact h _ (LO hk)
 ·rw[G0,Hr (by lia),M3];exact Sz.mono (m:=8) (by decide) (by decide)
abbrev pt(x y:Int):U:=.tup [.int x,.int y]
theorem dTb{p:Prop}[Decidable p](h:decide p=true):p:=of_decide_eq_true h
theorem dFb{p:Prop}[Decidable p](h:decide p=false):¬ p:=of_decide_eq_false h
theorem nTb{p:Prop}[Decidable p](h:(!decide p)=true):¬ p:=by simpa using h
theorem nFb{p:Prop}[Decidable p](h:(!decide p)=false):p:=by simpa using h
theorem vB{a b:Bool}(h:a=b):Out.val (.bl a)=Out.val (.bl b):=by rw[h]
theorem vIO{a b:Int}(h:a=b):Out.val (.int a)=Out.val (.int b):=by rw[h]
mutual
theorem zW:∀(n:Nat) (u:U),okU n u=true->eqW u u=true
 |_,.non,_=>rfl
 |_,.bl b,_=>by simp[eqW]
 |_,.int b,_=>by simp[eqW]
 |_,.str b,_=>by simp[eqW]
 |_,.ty _,h=>by simp[okU]at h
 |_,.dic,h=>by simp[okU]at h
 |0,.tup _,h=>by simp[okU]at h
 |0,.lst _,h=>by simp[okU]at h
 |0,.scr _,h=>by simp[okU]at h
 |n+1,.tup xs,h=>by rw[eqW];rw[okU]at h;exact eqWs_refl n xs h
 |n+1,.lst xs,h=>by rw[eqW];rw[okU]at h;exact eqWs_refl n xs h
 |n+1,.scr xs,h=>by rw[eqW];rw[okU]at h;exact eqWs_refl n xs h
theorem eqWs_refl:∀(n:Nat) (xs:List U),okUs n xs=true->eqWs xs xs=true
 |_,[],_=>rfl
 |n,x::xs,h=>by
  simp only[okUs,Hu]at h;simp only[eqWs,Hu];exact⟨zW n x h.1,eqWs_refl n xs h.2⟩
end
section
variable {ps:PSt}{a b c e:Expr}{rest:List Expr}{k:Bool}
theorem cP{tb fb:List Iy}(hc:Tt X H0 O0 ps c k)(hk:k=true)(h:Ws X H0 O0 E tb D ps):W1 X H0 O0 E (.If c tb fb pos) D ps:=k9 hc (λ_=>h) (λe=>by rw[hk]at e;cases e)
theorem aG{tb fb:List Iy}(hc:Tt X H0 O0 ps c k)(hk:k=false)(h:Ws X H0 O0 E fb D ps):W1 X H0 O0 E (.If c tb fb pos) D ps:=k9 hc (λe=>by rw[hk]at e;cases e) (λ_=>h)
theorem oN(ha:Tt X H0 O0 ps a k)(hk:k=false):Tw X H0 O0 ps (.BoolOp .And (a::b::rest) pos) false:=by
 subst hk;exact yh (m:=true) ha λh=>by cases h
end
section
variable {ps:PSt}{c:Expr}{α:Type}
theorem TgS.sub{p p':PSt}{u:U}{Su:PSt}(h:TgS X H0 O0 tg p u Su)(hs:SubP p p'):TgS X H0 O0 tg p' u Su:=PG.mono h λv σ H Q ⟨O,R,r,q⟩=>⟨O,R.sub hs,r,q⟩
theorem Tt.sub{p p':PSt}{e:Expr}{k:Bool}(h:Tt X H0 O0 p e k)(hs:SubP p p'):Tt X H0 O0 p' e k:=PT.mono h λσ H Q ⟨O,R,q⟩=>⟨O,R.sub hs,q⟩
theorem fN(st:α->PSt)(Q:Nat->α->Prop)(hc:X.calm=true)(hp:Nb (G1 X.prog X.w) X.A X.env X.xe)(hi:EvI X H0 O0 ps tg iter xs)(h0:∃a,Q 0 a/\SubP (st a) ps)
  (hs:∀(H0:Hp) (i:Nat) (x:U) (a:α),xs[i]?=some x->Q i a->∃Su,TgS X H0 O0 tg (st a) x Su/\Ws X H0 O0 E RO {D with nx:=λp=>∃b,Q (i+1) b/\SubP (st b) p,ct:=λp=>∃b,Q (i+1) b/\SubP (st b) p,bk:=D.nx } Su)
  (hd:∀a ps,Q xs.length a->SubP (st a) ps->D.nx ps) (hf:∀x,Hg iter X.env x=pure x:=by intro _;rfl):W1 X H0 O0 E (.For tg iter RO [] pos) D ps:=
 FE hc hp hi (λi ps=>∃a,Q i a/\SubP (st a) ps) h0 (λH0 i x ps hx ⟨a,q,sb⟩=>by
  obtain⟨Su,t,w⟩:=hs H0 i x a hx q;exact⟨Su,t.sub sb,w⟩) (λps ⟨a,q,sb⟩=>hd a ps q sb) hf
theorem kz(st:α->PSt)(Q:Nat->α->Prop)(hp:Nb (G1 X.prog X.w) X.A X.env X.xe)(h0:∃m a,Q m a/\SubP (st a) ps)
  (hs:∀m a,Q m a->∃b,Tt X H0 O0 (st a) c b/\(b=true->Ws X H0 O0 E RO {D with nx:=λp=>∃m' a',m'<m/\Q m' a'/\SubP (st a') p,ct:=λp=>∃m' a',m'<m/\Q m' a'/\SubP (st a') p,bk:=D.nx } (st a))/\(b=false->∀ps,SubP (st a) ps->D.nx ps)):W1 X H0 O0 E (.While c RO [] pos) D ps:=by
 obtain⟨m,a,q,sb⟩:=h0;refine Ay hp (λm ps=>∃a,Q m a/\SubP (st a) ps) m ⟨a,q,sb⟩ λm ps ⟨a,q,sb⟩=>?_
 obtain⟨b,t,h1,h2⟩:=hs m a q;refine⟨b,t.sub sb,λe=>?_,λe=>h2 e ps sb⟩
 refine dL (PSs.mono (h1 e) λD' σ H ⟨L,O,R⟩=>⟨⟨λp σ H O R ⟨m',a',l,q',sb'⟩=>L.nx p σ H O R ⟨m',l,a',q',sb'⟩,L.bk,λp σ H O R ⟨m',a',l,q',sb'⟩=>L.ct p σ H O R ⟨m',l,a',q',sb'⟩,L.rt⟩,O,R⟩) sb
end
abbrev P2:=Int×Int
abbrev pu(p:P2):U:=.tup [.int p.1,.int p.2]
abbrev lp(l:List P2):U:=.lst (l.map pu)
theorem jH{l:List P2}{i:Nat}{x:U}(h:(l.map pu)[i]?=some x):∃p,l[i]?=some p/\p∈l/\x=pu p:=by
 rw[Gz]at h;cases q:l[i]? with
 |none=>rw[q]at h;cases h
 |some p=>rw[q]at h;cases h;exact⟨p,rfl,GJ q,rfl⟩
theorem bW{α:Type}{l:List α}{f:α->U}{g:α->U}{i:Nat}{x y:U}(hx:(l.map f)[i]?=some x)(hy:(l.map g)[i]?=some y):∃a,l[i]?=some a/\a∈l/\x=f a/\y=g a:=by
 rw[Gz]at hx hy;cases q:l[i]? with
 |none=>rw[q]at hx;cases hx
 |some p=>rw[q]at hx hy;cases hx;cases hy;exact⟨p,rfl,GJ q,rfl,rfl⟩
theorem W1.mono{X:Cx}{H0:Hp}{O0:List GE}{E:XK}{s:Iy}{D:PD}{J:PSt->Prop}{ps:PSt}(h:W1 X H0 O0 E s {D with nx:=J } ps)(m:∀ps,J ps->D.nx ps):W1 X H0 O0 E s D ps:=
 PS.mono h λD' σ H ⟨L,O,R⟩=>⟨⟨λp σ H O R q=>L.nx p σ H O R (m p q),L.bk,L.ct,L.rt⟩,O,R⟩
theorem kN{X:Cx}{H0:Hp}{O0:List GE}{E:XK}{s:Iy}{ss:List Iy}{D:PD}{ps:PSt}(J:PSt->Prop)(h1:W1 X H0 O0 E s {D with nx:=J } ps)(h2:∀ps,J ps->Ws X H0 O0 E ss D ps):Ws X H0 O0 E (s::ss) D ps:=
 ac (W1.mono (J:=J) (D:={D with nx:=λp=>Ws X H0 O0 E ss D p }) h1 h2)
end L2
namespace PySem.W
open PySem PySem.Spec PySem.Calls PyProof.Rows
theorem sS{M:NO}{A:Ha}{E:Gr→Gs→Prop}{K:Frag}{s:Gs}{x C B:GE}{Q:Bool→Gs→Prop}(X:K.In s.heap)(I:OfCls x C s.heap)(hT:typeIn K (.ref B)=some (.type "type"))(hc:(clsIn K B).isSome=true)
  (hB:mroIn K B (.type "BaseException")=some true) (hC:mroIn K C (.ref B)=some true) (h:Q true s):GQ M A (excMatches (.ref x) (.ref B)) Q E s:=by
 have L1:Looks M s.heap (QV (.ref x)) (.ref C):=I.type;have L2:Looks M s.heap (QV (.ref B)) (.type "type"):=looks_typeIn X hT;have L3:Looks M s.heap (OG (.ref B) (.type "tuple")) false:=L2.andThen (Looks.of_pure tc_notTuple);have L4:Looks M s.heap (isSubtype (.ref B) (.type "BaseException")) true:=looks_mroIn X hB;have L5:Looks M s.heap (isSubtype (.ref C) (.ref B)) true:=looks_mroIn X hC
 have L6:Looks M s.heap (isType (.ref B)) true:=by
  obtain⟨cdD,Um⟩:=II.mp hc;unfold clsIn at Um;split at Um
  ·rename_i c' d' cd' sl' ho
   intro A' Q' E' s' k q;unfold isType loadHead;exact Gk (NW (k _ _ (X _ _ ho)) (Gw q))
  ·cases Um
 obtain⟨hh,g,dr,t,os⟩:=s;unfold excMatches isExcClass
 repeat (first |lk |wp_step)
 exact h
end PySem.W
namespace L2
open PySem PySem.Spec PySem.W PyProof.Rows
section
variable {X:Cx}{pins:List (GE×Obj)}{σ:St}{H:Hp}{s:Gs}
theorem ka{M:NO}{A:Ha}{E:Gr->Gs->Prop}{i:Nat}{x:Str}{pos:Pos}{Q:Unit->Gs->Prop}(I:Inv X pins σ H s)(hN:X.N.Nodup)(hi:X.N[i]?=some x)(hk:X.env.kindOf x=some .local)
  (h:∀s',Inv X pins (σ.set i none) H s'->Q () s'):GQ M A (do bindName X.env x .none;unbindBehindTheSuite X.env x pos) Q E s:=by
 obtain⟨m,hn,hl⟩:=id I.loc;have hcls:(X.env.scope.kind==.class || (X.env.scope.kind==.module && X.env.locals !=X.env.globals))=false:=by rw[I.ok.kind];rfl
 have U6:i<σ.length:=by rw[I.len];exact (GB.mp hi).1
 have cne:=I.cne;refine wpAny_nameGoes_keeps hk hn hcls λh' v UB hs=>?_
 have S0:HOk X.prog X.w H h':=λb ob e=>by
  refine (I.hok b ob e).stay (λc w' hc q=>(hs.2 c ?_).trans q) (λ_ q=>q) λ_ _ q=>q
  rintro rfl;rcases hc with z |hc
  ·rw[<-z,I.free]at e;cases e
  ·rw[I.free]at hc;cases hc
 refine h _ ⟨I.ok,I.os,I.bare,⟨λb o e n hb hx=>?_,λb o e n hb hx=>?_,I.base.free,λb o e hx=>?_,I.base.tups,I.base.frzs,I.base.tbls⟩,⟨_,UB,λj y v' e1 e2 e3=>?_⟩,λy c e=>?_,I.free,I.freeC,λp hp=>?_,S0,by simpa using I.len⟩
 ·exact (hs.2 b (GS (GV (GD e) I.ok.above))).trans (I.base.keep b o e n hb hx)
 ·obtain⟨sl,e1⟩:=I.base.slot b o e n hb hx;exact⟨sl,(hs.2 b (GS (GV (GD e) I.ok.above))).trans e1⟩
 ·obtain⟨o',e1⟩:=I.base.there b o e hx;exact⟨o',(hs.2 b (GS (GV (GD e) I.ok.above))).trans e1⟩
 ·by_cases hj:j=i
  ·subst hj;rw[Lc U6]at e2;cases e2
  ·rw[GX (Ne.symm hj)]at e2;obtain⟨u',r',q⟩:=hl j y v' e1 e2 e3;refine⟨u',r',?_⟩;rcases q with ⟨k,e⟩ |⟨k,c,e,z⟩
   ·refine .inl ⟨k,?_⟩;have:y≠x:=λe=>hj (kt hN e1 (e ▸ hi))
    simp[this,e]
   ·exact .inr ⟨k,c,e,z.sameBut hs (cne y c e)⟩
 ·obtain⟨w',z⟩:=I.cell y c e;exact⟨w',z.sameBut hs (cne y c e)⟩
 ·obtain⟨e,n,ne,nf,d⟩:=I.pin p hp;exact⟨(hs.2 p.1 ne).trans e,n,ne,nf,d⟩
theorem yq{fs:List GE}{H0 H':Hp}{h0 h1:H_}{ea:GE}{o:HO}(u:Un fs [] H0 H' h0 h1)(n0:h0.get? ea=none)(n1:H' ea=none):Un fs [] H0 (upd H' ea o) h0 h1 where
 keep:=u.keep
 slot:=u.slot
 free:=λb ob e n hx=>by
  rw[aE λz=>by subst z;rw[n0]at e;cases e];exact u.free b ob e n hx
 there:=u.there
 tups:=λb xs e=>by have q:=u.tups b xs e;rw[aE (bE q n1)];exact q
 frzs:=λb ob xs e=>by have q:=u.frzs b ob xs e;rw[aE (bE q n1)];exact q
 tbls:=λb ps e=>by obtain⟨m,q⟩:=u.tbls b ps e;exact⟨m,by rw[aE (bE q n1)];exact q⟩
theorem wk{P:GF}{w:G5}{H':Hp}{h:H_}{ea C:GE}(ok:HOk P w H' h)(n1:H' ea=none)(I:OfCls ea C h):HOk P w (upd H' ea (.ext (OfCls ea C))) h:=λa o e=>by
 by_cases z:a=ea
 ·subst z;rw[aF]at e;cases e;obtain⟨ob,e1,e2⟩:=id I;exact⟨I,⟨ob,e1⟩,λh1 h2 ⟨o1,q1,q2⟩ q3=>⟨o1,q3 _ q1,q2⟩⟩
 ·rw[aE z]at e;refine (ok a o e).stay (λ_ _ _ q=>q) (λ_ q=>?_) λ_ _ q=>?_
  all_goals (first | (rw[aE (bE q n1)];exact q) |trace_state)
def ja.drop(D:ja)(i:Nat):ja:=⟨λσ H=>D.nx (σ.set i none) H,D.rt,λσ H=>D.bk (σ.set i none) H,λσ H=>D.ct (σ.set i none) H⟩
variable {H0:Hp}{O0:List GE}{E:XK}{ps:PSt}{D:PD}{a e:Expr}{es:List Expr}{us:List U}{k:Bool}{n:Nat}{fd:Hw}{pn:List Str}{RH:List U→Out→Prop}
theorem xG:cu X (.builtin "isinstance") (λxs H Q=>∃a C D k,xs=[.ref a,.ref D]∧H a=some (.ext (OfCls a C))∧XcOk X.K C∧kitOne X.K (.ref C) (.ref D)=some k∧Q (.bl k) H):=by
 intro pins s σ H xs us Q I r h;obtain⟨a,C,D,k,rfl,ha,hk,e,q⟩:=h;obtain⟨u,w',rfl,r1,r2⟩:=iR r;cases r1;cases r2;exact HL hk.kit I.kIn (I.hok _ _ ha).1 e (λz=>nomatch z) λtk=>⟨.bl k,H,I.tok _,rfl,q⟩
theorem tR{C D':GE}{nm:Str}{p p2 pos:Pos}(h:kitOne X.K (.ref C) (.ref D')=some k)(hg:Gl X "isinstance")(hm:X.mg "isinstance"=none)(hv:IF "isinstance"=some (.builtin "isinstance"))(ha:Ev X H0 O0 ps a (.ty (.xc C)))(hgD:Gl X nm)(hmD:X.mg nm=some (.ref D'))
  (hd:(nm==("__debug__":Str))=false:=by decide)
  (he:Gv [a,.Name nm p2] X.env=(false,HY a X.env)::Gv [.Name nm p2] X.env:=by rfl) (he2:Gv [.Name nm p2] X.env=(false,HY (.Name nm p2) X.env)::Gv [] X.env:=by rfl) (R3:(Hx pos (Gv [.Name nm p2] X.env)).any (·.1)=false:=by rfl):
  Ev X H0 O0 ps (.Call (.Name "isinstance" p) [a,.Name nm p2] [] pos) (.bl k):=
 PE.mono (lO xG hg hm hv (bu ha (bu (nR (v:=.ref D') hgD hmD rfl hd) cY he2) he) (by decide) (by decide) he R3) λσ H Q ⟨O,R,q⟩=>⟨O,R,λv H1 s1 r1=>by
  cases r1 with
  |xc h1 h2=>exact⟨_,_,_,k,rfl,aB _ _ h1,h2,h,q _ H1 s1 (.bl k)⟩⟩
def PD.drop(D:PD)(i:Nat):PD:=⟨λp=>D.nx (p.set i none),D.rt,λp=>D.bk (p.set i none),λp=>D.ct (p.set i none)⟩
theorem Lf.drop{K:Frag}{D':ja}(L:Lf K H0 O0 E D D')(i:Nat):Lf K H0 O0 E (D.drop i) (D'.drop i):=
 ⟨λps σ H O R h=>L.nx _ _ H O R.drop h,λps σ H O R h=>L.bk _ _ H O R.drop h,λps σ H O R h=>L.ct _ _ H O R.drop h,L.rt⟩
end
end L2
namespace L2
open PySem
theorem ay{c:Const}{j:Nat}{pos:Pos}{es:List Expr}{env:Env}:Gv (.Constant c j pos::es) env=(false,HY (.Constant c j pos) env)::Gv es env:=by rw[Gv];intro e p h;cases h
theorem cO{l:List Expr}{j:Nat}{pos:Pos}{es:List Expr}{env:Env}:Gv (.Tuple l j pos::es) env=(false,HY (.Tuple l j pos) env)::Gv es env:=by rw[Gv];intro e p h;cases h
theorem gj{o:UnaryOp}{a:Expr}{pos:Pos}{es:List Expr}{env:Env}:Gv (.UnaryOp o a pos::es) env=(false,HY (.UnaryOp o a pos) env)::Gv es env:=by rw[Gv];intro e p h;cases h
theorem bK{a b:Expr}{o:QJ}{pos:Pos}{es:List Expr}{env:Env}:Gv (.BinOp a o b pos::es) env=(false,HY (.BinOp a o b pos) env)::Gv es env:=by rw[Gv];intro e p h;cases h
theorem ah{x:Str}{pos:Pos}{es:List Expr}{env:Env}:Gv (.Name x pos::es) env=(false,HY (.Name x pos) env)::Gv es env:=by rw[Gv];intro e p h;cases h
theorem aX{a b:Expr}{pos:Pos}{es:List Expr}{env:Env}:Gv (.Subscript a b pos::es) env=(false,HY (.Subscript a b pos) env)::Gv es env:=by rw[Gv];intro e p h;cases h
theorem bg{f:Expr}{a:List Expr}{k:List JP}{pos:Pos}{es:List Expr}{env:Env}:Gv (.Call f a k pos::es) env=(false,HY (.Call f a k pos) env)::Gv es env:=by rw[Gv];intro e p h;cases h
theorem DS{a:Expr}{o:List Ox}{c:List Expr}{pos:Pos}{es:List Expr}{env:Env}:Gv (.Compare a o c pos::es) env=(false,HY (.Compare a o c pos) env)::Gv es env:=by rw[Gv];intro e p h;cases h
theorem cV{e:Expr}{g:List Comprehension}{sc:Ke}{pos:Pos}{es:List Expr}{env:Env}:Gv (.ListComp e g sc pos::es) env=(false,HY (.ListComp e g sc pos) env)::Gv es env:=by rw[Gv];intro e p h;cases h
structure EvS(X:Cx)(H0:Hp)(O0:List GE)(ps:PSt)(es:List Expr)(us:List U):Prop where
 a:EvA X H0 O0 ps es us
section
variable {X:Cx}{H0:Hp}{O0:List GE}{ps:PSt}{e:Expr}{es:List Expr}{u:U}{us:List U}{pos:Pos}
theorem aZ:EvS X H0 O0 ps [] []:=⟨ai⟩
theorem ak(ha:Ev X H0 O0 ps e u)(hr:EvS X H0 O0 ps es us)(hs:Gv (e::es) X.env=(false,HY e X.env)::Gv es X.env):EvS X H0 O0 ps (e::es) (u::us):=⟨ae ha hr.a hs⟩
theorem bp{x1}(h:EvS X H0 O0 ps es us)(hz:us.length<=sizeLine:=by first |decide | (simp only[GI,Kg];decide)):Ev X H0 O0 ps (.Tuple es x1 pos) (.tup us):=FH h.a hz
theorem cf(h:EvS X H0 O0 ps es us)(hz:us.length<=sizeLine:=by first |decide | (simp only[GI,Kg];decide)):EvN X H0 O0 ps (.List es pos) us:=EW h.a hz
end
end L2
namespace ST
open PySem PySem.SetTable
def Ris(xs:Array Nat):Prop:=∀(i j x y:Nat),i<j->xs[i]?=some x->xs[j]?=some y->x<y
theorem Ris.inj{xs:Array Nat}(h:Ris xs){i j x:Nat}(h1:xs[i]?=some x)(h2:xs[j]?=some x):i=j:=by
 rcases Jq i j with z |z |z
 ·exact absurd (h i j x x z h1 h2) (Hc _)
 ·exact z
 ·exact absurd (h j i x x z h2 h1) (Hc _)
theorem eo{xs:Array Nat}{i:Nat}(h:i<xs.size):xs[i]?=some xs[i]:=by simp[h]
theorem sY{xs:Array Nat}{i x:Nat}(h:xs[i]?=some x):i<xs.size:=(HQ.mp h).1
theorem nF{xs:Array Nat}(R:Ris xs)(j:Nat):∀(RV lo hi:Nat),lo<=hi->hi<=xs.size->hi-lo<=RV->(∀(i x:Nat),i<lo->xs[i]?=some x->x<j)->(∀(i x:Nat),hi<=i->xs[i]?=some x->j<=x)->
  (∀(i x:Nat),i<below.go xs j RV lo hi->xs[i]?=some x->x<j)/\(∀(i x:Nat),below.go xs j RV lo hi<=i->xs[i]?=some x->j<=x)/\below.go xs j RV lo hi<=xs.size
 |0,lo,hi,h1,h2,h3,h4,h5=>by
  have e:lo=hi:=by lia
  subst e;rw[below.go];exact⟨h4,h5,h2⟩
 |RV+1,lo,hi,h1,h2,h3,h4,h5=>by
  rw[below.go];by_cases RU:lo<hi
  ·rw[if_pos RU];have hm:(lo+hi)/2<xs.size:=by lia
   have e:xs.getD ((lo+hi)/2) j=xs[(lo+hi)/2]:=by simp[Jr,hm]
   simp only[e];split
   ·rename_i hl
    refine nF R j RV _ hi (by lia) h2 (by lia) (λi x RW hx=>?_) h5
    rcases G4 (show i<=(lo+hi)/2 by lia) with z |z
    ·exact Jm (R i _ x _ z hx (eo hm)) hl
    ·subst z;rw[eo hm]at hx;cases hx;exact hl
   ·rename_i hl
    refine nF R j RV lo _ (by lia) (by lia) (by lia) h4 (λi x RW hx=>?_)
    rcases G4 RW with z |z
    ·exact HD (LN hl) (GT (R _ i _ x z (eo hm) hx))
    ·subst z;rw[eo hm]at hx;cases hx;exact LN hl
  ·rw[if_neg RU];have e:lo=hi:=by lia
   subst e;exact⟨h4,h5,h2⟩
theorem fG{xs:Array Nat}(R:Ris xs)(j:Nat):(∀(i x:Nat),i<below xs j->xs[i]?=some x->x<j)/\(∀(i x:Nat),below xs j<=i->xs[i]?=some x->j<=x)/\below xs j<=xs.size:=
 nF R j xs.size 0 xs.size (Hf _) (GA _) (by lia) (λi x h=>absurd h (Nn _)) (λi x h e=>absurd (sY e) (by lia))
theorem zk{xs:Array Nat}(R:Ris xs){i j:Nat}(h:xs[i]?=some j):below xs j=i:=by
 obtain⟨h1,h2,h3⟩:=fG R j;rcases Jq (below xs j) i with z |z |z
 ·have hk:below xs j<xs.size:=Jm z (sY h);have:=h2 _ _ (GA _) (eo hk);have:=R _ _ _ _ z (eo hk) h;lia
 ·exact z
 ·have:=h1 i j z h;lia
theorem nD{t:SetTable}(R:Ris t.place){i j:Nat}(h:t.place[i]?=some j):t.slot j=.live i:=by
 unfold SetTable.slot;simp only[zk R h,h,beq_self_eq_true,if_true]
theorem vn{t:SetTable}(hd:t.dummies=#[]){j:Nat}(h:∀i:Nat,t.place[i]?≠some j):t.slot j=.empty:=by
 unfold SetTable.slot;have e:(t.place[below t.place j]?==some j)=false:=by simpa using h _
 simp only[e,hd];simp[SetTable.has]
theorem rO{t:SetTable}(R:Ris t.place)(hd:t.dummies=#[])(j:Nat):(t.slot j=.empty/\∀i:Nat,t.place[i]?≠some j)\/∃i:Nat,t.slot j=.live i/\t.place[i]?=some j:=by
 by_cases h:∃i:Nat,t.place[i]?=some j
 ·obtain⟨i,hi⟩:=h;exact .inr ⟨i,nD R hi,hi⟩
 ·exact .inl ⟨vn hd λi e=>h ⟨i,e⟩,λi e=>h ⟨i,e⟩⟩
theorem wz{xs:Array Nat}(R:Ris xs){mask:Nat}(hn:xs.size<=mask):∃s,s<=mask/\∀i:Nat,xs[i]?≠some s:=by
 apply Ir;intro SY
 have all:∀s,s<=mask->∃i:Nat,xs[i]?=some s:=λs hs=>by
  apply Ir;intro h;exact SY ⟨s,hs,λi e=>h ⟨i,e⟩⟩
 have key:∀s,s<=mask->∃i:Nat,xs[i]?=some s/\s<=i:=by
  intro s
  induction s with
  |zero=>intro h;obtain⟨i,hi⟩:=all 0 h;exact⟨i,hi,Hf _⟩
  |succ s ih=>
   intro h;obtain⟨i,hi,Ud⟩:=ih (by lia)
   obtain⟨k,hk⟩:=all (s+1) h;refine⟨k,hk,?_⟩;rcases Jq i k with z |z |z
   ·lia
   ·subst z;rw[hi]at hk;cases hk
   ·have:=R k i _ _ z hk hi;lia
 obtain⟨i,hi,Ud⟩:=key mask (GA _);have:=sY hi;lia
def adv(mask:Nat)(p:Probe):Probe:=
 if p.more >0 then {p with j:=p.j+1,more:=p.more-1 } else
 {p with j:=(leap mask p.i p.perturb).1,more:=runEnd mask (leap mask p.i p.perturb).1-(leap mask p.i p.perturb).1,i:=(leap mask p.i p.perturb).1,perturb:=(leap mask p.i p.perturb).2 }
theorem lY(t:SetTable)(p:Probe):t.advance p=adv t.mask p:=by
 unfold SetTable.advance adv;split
 ·rfl
 ·rfl
def start(mask:Nat)(h:Int):Probe:={j:=bits h%(mask+1),more:=runEnd mask (bits h%(mask+1))-bits h%(mask+1),i:=bits h%(mask+1),perturb:=bits h,dummy:=none }
def pth(mask:Nat)(h:Int):Nat->Probe
 |0=>start mask h
 |n+1=>adv mask (pth mask h n)
def aV(mask:Nat)(h:Int):Nat->Nat×Nat
 |0=>(bits h%(mask+1),bits h)
 |r+1=>leap mask (aV mask h r).1 (aV mask h r).2
theorem km{mask:Nat}:∀(m:Nat) (p:Probe) (f:Nat->Probe),f 0=p->(∀n,f (n+1)=adv mask (f n))->m<=p.more->f m={p with j:=p.j+m,more:=p.more-m }
 |0,p,f,h0,_,_=>by rw[h0];rfl
 |m+1,p,f,h0,hs,hm=>by
  rw[hs m,km m p f h0 hs (by lia)]
  unfold adv;rw[if_pos (by show p.more-m >0;lia)]
  simp only[Probe.mk.injEq];exact⟨by lia,by lia,trivial,trivial,trivial⟩
theorem lG(mask:Nat)(h:Int):∀n,(pth mask h n).dummy=none
 |0=>rfl
 |n+1=>by
  rw[pth];unfold adv;split
  ·exact lG mask h n
  ·exact lG mask h n
theorem v0(mask i:Nat):runEnd mask i-i<=9:=by unfold runEnd;split <;>lia
theorem uA(mask:Nat)(h:Int):∀r,∃n,n<=10*r/\pth mask h n={j:=(aV mask h r).1,more:=runEnd mask (aV mask h r).1-(aV mask h r).1,i:=(aV mask h r).1,perturb:=(aV mask h r).2,dummy:=none }
 |0=>⟨0,GA _,rfl⟩
 |r+1=>by
  obtain⟨n,hn,e⟩:=uA mask h r;have hL:=v0 mask (aV mask h r).1;have step:=km (mask:=mask) (runEnd mask (aV mask h r).1-(aV mask h r).1) (pth mask h n) (λm=>pth mask h (n+m)) rfl (λm=>rfl) (by rw[e];exact GA _)
  refine⟨n+(runEnd mask (aV mask h r).1-(aV mask h r).1)+1,by lia,?_⟩
  rw[pth];have Tx:pth mask h (n+(runEnd mask (aV mask h r).1-(aV mask h r).1))=_:=step;rw[Tx,e];unfold adv;rw[if_neg (by simp)]
  rfl
theorem BK(h:Int):bits h<2 ^ 64:=by
 unfold bits;have h1:=L_ h (show (2 ^ 64:Int)≠0 by decide)
 have h2:=K_ h (show (0:Int)<2 ^ 64 by decide)
 lia
theorem nq(mask:Nat)(h:Int):∀r,(aV mask h r).2=bits h/32 ^ r
 |0=>by simp[aV]
 |r+1=>by
  rw[aV];show (aV mask h r).2/32=_;rw[nq mask h r,Ka,IW]
theorem ve(mask:Nat)(h:Int)(r:Nat)(hr:12<=r):(aV mask h r).2/32=0:=by
 rw[nq];have h1:=BK h;rw[Ka];apply Nat.div_eq_of_lt;have:32 ^ 12*32<=32 ^ r*32:=Kx _ (Kw (by decide) hr)
 exact GV (GV h1 (by decide)) this
def cK:Nat->Nat
 |0=>1
 |k+1=>cK k*(4*cK k+2)
theorem yr:∀k,∃m,cK k=2 ^ k*(2*m+1)
 |0=>⟨0,by simp[cK]⟩
 |k+1=>by
  obtain⟨m,e⟩:=yr k;refine⟨2*(cK k) *m+m+cK k,?_⟩;rw[cK,IW];have:cK k*(4*cK k+2)=2 ^ k*(2*m+1) *(4*cK k+2):=by rw[<-e]
  rw[this];generalize cK k=c;generalize 2 ^ k=p;grind
def gT:Nat->Nat->Nat
 |0,x=>x
 |n+1,x=>5*gT n x+1
theorem k8(m x:Nat):∀n,gT (m+n) x=gT n (gT m x)
 |0=>rfl
 |n+1=>by rw[<-Nat.add_assoc,gT,k8 m x n,gT]
theorem lP:∀(k x:Nat),gT (2 ^ k) x=(1+4*cK k) *x+cK k
 |0,x=>by simp[gT,cK]
 |k+1,x=>by
  rw[IW,Nat.mul_two,k8,lP k,lP k,cK];generalize cK k=c;grind
theorem rQ(k x:Nat):gT (2 ^ k) x%2 ^ (k+1)=(x+2 ^ k)%2 ^ (k+1):=by
 rw[lP];obtain⟨m,e⟩:=yr k;rw[e]
 have:(1+4*(2 ^ k*(2*m+1))) *x+2 ^ k*(2*m+1)=(x+2 ^ k)+2 ^ (k+1) *(2*(2*m+1) *x+m):=by
  rw[IW];generalize 2 ^ k=p;grind
 rw[this,Nat.add_mul_mod_self_left]
theorem ik(x:Nat):∀(k y:Nat),∃n,n<2 ^ k/\gT n x%2 ^ k=y%2 ^ k
 |0,y=>⟨0,by simp,by simp[Nat.mod_one]⟩
 |k+1,y=>by
  obtain⟨n,hn,e⟩:=ik x k y;have hp:2 ^ (k+1)=2 ^ k+2 ^ k:=by rw[IW];lia
  have h2:0<2 ^ k:=Nat.pow_pos (by decide)
  by_cases h:gT n x%2 ^ (k+1)=y%2 ^ (k+1)
  ·exact⟨n,by lia,h⟩
  ·refine⟨n+2 ^ k,by lia,?_⟩
   rw[k8,rQ];generalize gT n x=z at *;have d1:z%2 ^ (k+1)%2 ^ k=z%2 ^ k:=Oh _ ⟨2,by rw[IW]⟩
   have d2:y%2 ^ (k+1)%2 ^ k=y%2 ^ k:=Oh _ ⟨2,by rw[IW]⟩
   have l1:=Ja z (show 0<2 ^ (k+1) by lia)
   have l2:=Ja y (show 0<2 ^ (k+1) by lia)
   rw[<-Np];rw[<-d1,<-d2]at e;generalize z%2 ^ (k+1)=a at *;generalize y%2 ^ (k+1)=b at *;rw[hp]at *;generalize 2 ^ k=p at *
   have ea:a%p=if a<p then a else a-p:=by
    split
    ·exact Hv (by assumption)
    ·rw[Mn (by lia),Hv (by lia)]
   have eb:b%p=if b<p then b else b-p:=by
    split
    ·exact Hv (by assumption)
    ·rw[Mn (by lia),Hv (by lia)]
   rw[ea,eb]at e;by_cases ha:a<p
   ·rw[if_pos ha]at e;rw[Hv (by lia)]
    split at e <;>lia
   ·rw[if_neg ha]at e;rw[Mn (by lia),Hv (by lia)]
    split at e <;>lia
theorem kO{mask k:Nat}(hk:mask+1=2 ^ k)(h:Int):∀q,(aV mask h (12+q)).1=gT q (aV mask h 12).1%2 ^ k
 |0=>by
  rw[gT]
  have:(aV mask h 12).1<2 ^ k:=by
   rw[<-hk];show (leap mask (aV mask h 11).1 (aV mask h 11).2).1<_;exact Ja _ (by lia)
  exact (Hv this).symm
 |q+1=>by
  show (leap mask (aV mask h (12+q)).1 (aV mask h (12+q)).2).1=_;unfold leap;simp only[ve mask h (12+q) (by lia)]
  rw[kO hk h q,hk,gT,Q1,OX 5 _];generalize gT q (aV mask h 12).1=z;generalize 2 ^ k=m;rw[Rl,Nat.mod_mul_mod,<-Rl]
theorem cover{mask k:Nat}(hk:mask+1=2 ^ k)(h:Int)(s:Nat)(hs:s<=mask):∃n,n<10*turns mask/\(pth mask h n).j=s:=by
 obtain⟨q,hq,e⟩:=ik (aV mask h 12).1 k s;obtain⟨n,hn,en⟩:=uA mask h (12+q);refine⟨n,?_,?_⟩
 ·unfold turns;lia
 ·rw[en];show (aV mask h (12+q)).1=s;rw[kO hk h q,e];exact Hv (by lia)
def Liv(t:SetTable)(j:Nat):Prop:=∃i:Nat,t.place[i]?=some j
structure TOk(t:SetTable)(hs:List Int):Prop where
 R:Ris t.place
 d:t.dummies=#[]
 k:∃k,3<=k/\t.mask+1=2 ^ k
 n:t.place.size=hs.length
 f:t.place.size<=t.mask
 le:∀(i x:Nat),t.place[i]?=some x->x<=t.mask
 reach:∀(i j:Nat) (h:Int),t.place[i]?=some j->hs[i]?=some h->∃m,(pth t.mask h m).j=j/\∀m',m'<m->Liv t (pth t.mask h m').j
theorem least{P:Nat->Prop}:∀n,P n->∃m,m<=n/\P m/\∀k,k<m->¬ P k:=by
 intro n
 induction n using Pw with
 |_ n ih=>
  intro h;by_cases hk:∃k,k<n/\P k
  ·obtain⟨k,hk,hp⟩:=hk;obtain⟨m,h1,h2,h3⟩:=ih k hk hp;exact⟨m,by lia,h2,h3⟩
  ·exact⟨n,GA _,h,λk Vr hp=>hk ⟨k,Vr,hp⟩⟩
theorem qX{t:SetTable}{hs:List Int}(T:TOk t hs)(h:Int):∃N,N<10*turns t.mask/\¬ Liv t (pth t.mask h N).j/\∀m,m<N->Liv t (pth t.mask h m).j:=by
 obtain⟨s,hs1,Ul⟩:=wz T.R T.f;obtain⟨k,_,hk⟩:=T.k;obtain⟨n,hn,e⟩:=cover hk h s hs1;obtain⟨m,h1,h2,h3⟩:=least (P:=λn=>¬ Liv t (pth t.mask h n).j) n (by show ¬ Liv t (pth t.mask h n).j;rw[e];rintro ⟨i,hi⟩;exact Ul i hi)
 exact⟨m,by lia,h2,λk Vr=>Ir λz=>h3 k Vr z⟩
theorem pG{t:SetTable}{hs:List Int}(T:TOk t hs)(hashAt:Nat->Int)(h:Int){N:Nat}(h0:¬ Liv t (pth t.mask h N).j)(h1:∀m,m<N->Liv t (pth t.mask h m).j):∀(RV n:Nat),n<=N->N-n<RV->
  (probe.go t hashAt h RV (pth t.mask h n)=some (.empty (pth t.mask h N).j none)/\∀(m i:Nat),n<=m->m<N->t.place[i]?=some (pth t.mask h m).j->hashAt i≠h)\/
  ∃m i:Nat,n<=m/\m<N/\t.place[i]?=some (pth t.mask h m).j/\hashAt i=h/\probe.go t hashAt h RV (pth t.mask h n)=some (.candidate (pth t.mask h m).j i (pth t.mask h (m+1)))/\
   ∀(m' i':Nat),n<=m'->m'<m->t.place[i']?=some (pth t.mask h m').j->hashAt i'≠h
 |0,n,_,hf=>by lia
 |RV+1,n,hn,hf=>by
  rw[probe.go];rcases rO T.R T.d (pth t.mask h n).j with ⟨e,SY⟩ |⟨i,e,hi⟩
  ·have hN:n=N:=by
    rcases G4 hn with z |z
    ·obtain⟨i,hi⟩:=h1 n z;exact absurd hi (SY i)
    ·exact z
   subst hN;refine .inl ⟨by simp only[e,lG],λm i z1 z2=>by lia⟩
  ·have hN:n<N:=by
    rcases G4 hn with z |z
    ·exact z
    ·subst z;exact absurd ⟨i,hi⟩ h0
   simp only[e];by_cases hh:hashAt i=h
   ·refine .inr ⟨n,i,GA _,hN,hi,hh,?_,λm' i' z1 z2=>by lia⟩
    simp only[hh,beq_self_eq_true,if_true,lY];rfl
   ·have hb:(hashAt i==h)=false:=by simpa using hh
    simp only[hb,GO,if_false,lY];have ih:=pG T hashAt h h0 h1 RV (n+1) (by lia) (by lia)
    rcases ih with ⟨q1,q2⟩ |⟨m,i2,q1,q2,q3,q4,q5,q6⟩
    ·refine .inl ⟨q1,λm i' z1 z2 z3=>?_⟩
     rcases G4 z1 with z |z
     ·exact q2 m i' z z2 z3
     ·subst z;rw[T.R.inj z3 hi];exact hh
    ·refine .inr ⟨m,i2,by lia,q2,q3,q4,q5,λm' i' z1 z2 z3=>?_⟩
     rcases G4 z1 with z |z
     ·exact q6 m' i' z z2 z3
     ·subst z;rw[T.R.inj z3 hi];exact hh
theorem y6{t:SetTable}{hs:List Int}(T:TOk t hs){h:Int}{N i:Nat}(h0:¬ Liv t (pth t.mask h N).j)(hi:hs[i]?=some h):∃(m j:Nat),m<N/\t.place[i]?=some j/\(pth t.mask h m).j=j:=by
 have RU:i<t.place.size:=by rw[T.n];exact (GB.mp hi).1
 obtain⟨m,e,hm⟩:=T.reach i _ h (eo RU) hi;refine⟨m,_,?_,eo RU,e⟩;rcases Jq m N with z |z |z
 ·exact z
 ·subst z;exact absurd ⟨i,by rw[e];exact eo RU⟩ h0
 ·exact absurd (hm N z) h0
theorem eO{α:Type}(xs:Array α)(p:Nat)(x:α):(insertAt xs p x).toList=xs.toList.take p++x::xs.toList.drop p:=by
 unfold insertAt;simp[Array.toList_extract];exact JB (by simp)
theorem cr{α:Type}{xs:Array α}{p:Nat}{x:α}(hp:p<=xs.size)(i:Nat):(insertAt xs p x)[i]?=if i<p then xs[i]? else if i=p then some x else xs[i-1]?:=by
 rw[<-Hy,eO];have hl:(xs.toList.take p).length=p:=by simp;lia
 by_cases h1:i<p
 ·rw[if_pos h1,GG (by lia),IJ h1,Hy]
 ·rw[if_neg h1,GK (by lia),hl]
  by_cases h2:i=p
  ·subst h2;simp
  ·rw[if_neg h2];obtain⟨q,hq⟩:∃q,i-p=q+1:=⟨i-p-1,by lia⟩
   rw[hq,HH,JI,Hy];congr 1;lia
theorem hW{α:Type}(xs:Array α)(p:Nat)(x:α)(hp:p<=xs.size):(insertAt xs p x).size=xs.size+1:=by
 rw[<-GY,eO];simp;lia
def gP{α:Type}(xs:List α)(p:Nat)(x:α):List α:=xs.take p++x::xs.drop p
theorem zU{α:Type}{xs:List α}{p:Nat}{x:α}(hp:p<=xs.length)(i:Nat):(gP xs p x)[i]?=if i<p then xs[i]? else if i=p then some x else xs[i-1]?:=by
 unfold gP;have hl:(xs.take p).length=p:=by simp;lia
 by_cases h1:i<p
 ·rw[if_pos h1,GG (by lia),IJ h1]
 ·rw[if_neg h1,GK (by lia),hl]
  by_cases h2:i=p
  ·subst h2;simp
  ·rw[if_neg h2];obtain⟨q,hq⟩:∃q,i-p=q+1:=⟨i-p-1,by lia⟩
   rw[hq,HH,JI];congr 1;lia
theorem BS{xs:Array Nat}(R:Ris xs){j:Nat}(SY:∀i:Nat,xs[i]?≠some j):Ris (insertAt xs (below xs j) j):=by
 obtain⟨h1,h2,h3⟩:=fG R j
 have gt:∀(i x:Nat),below xs j<=i->xs[i]?=some x->j<x:=λi x hi hx=>by
  rcases G4 (h2 i x hi hx) with z |z
  ·exact z
  ·subst z;exact absurd hx (SY i)
 intro a b x y Uy hx hy;rw[cr h3]at hx hy;by_cases a1:a<below xs j
 ·rw[if_pos a1]at hx;by_cases b1:b<below xs j
  ·rw[if_pos b1]at hy;exact R a b x y Uy hx hy
  ·rw[if_neg b1]at hy;by_cases b2:b=below xs j
   ·rw[if_pos b2]at hy;cases hy;exact h1 a x a1 hx
   ·rw[if_neg b2]at hy;exact R a (b-1) x y (by lia) hx hy
 ·rw[if_neg a1]at hx;have b1:¬ b<below xs j:=by lia
  rw[if_neg b1]at hy;have b2:¬ b=below xs j:=by lia
  rw[if_neg b2]at hy;by_cases a2:a=below xs j
  ·rw[if_pos a2]at hx;cases hx;exact gt (b-1) y (by lia) hy
  ·rw[if_neg a2]at hx;exact R (a-1) (b-1) x y (by lia) hx hy
theorem tm{xs:Array Nat}{p j:Nat}(hp:p<=xs.size)(s:Nat):(∃i:Nat,(insertAt xs p j)[i]?=some s)↔s=j\/∃i:Nat,xs[i]?=some s:=by
 constructor
 ·rintro ⟨i,hi⟩;rw[cr hp]at hi;split at hi
  ·exact .inr ⟨i,hi⟩
  ·split at hi
   ·cases hi;exact .inl rfl
   ·exact .inr ⟨i-1,hi⟩
 ·rintro (rfl |⟨i,hi⟩)
  ·exact⟨p,by rw[cr hp,if_neg (Hc _),if_pos rfl]⟩
  ·by_cases h:i<p
   ·exact⟨i,by rw[cr hp,if_pos h];exact hi⟩
   ·exact⟨i+1,by rw[cr hp,if_neg (by lia),if_neg (by lia)];simpa using hi⟩
theorem TOk.put{t:SetTable}{hs:List Int}(T:TOk t hs){h:Int}{N:Nat}(h0:¬ Liv t (pth t.mask h N).j)(h1:∀m,m<N->Liv t (pth t.mask h m).j)(Ud:(pth t.mask h N).j<=t.mask)(hf:t.place.size+1<=t.mask):
  TOk (t.put (pth t.mask h N).j).1 (gP hs (t.put (pth t.mask h N).j).2 h):=by
 have SY:∀i:Nat,t.place[i]?≠some (pth t.mask h N).j:=λi e=>h0 ⟨i,e⟩
 obtain⟨_,_,hb⟩:=fG T.R (pth t.mask h N).j;have hbl:below t.place (pth t.mask h N).j<=hs.length:=by rw[<-T.n];exact hb
 have ed:(if SetTable.has t.dummies (pth t.mask h N).j then eraseAt t.dummies (below t.dummies (pth t.mask h N).j) else t.dummies)=#[]:=by
  rw[T.d];simp[SetTable.has]
 unfold SetTable.put;simp only[ed];refine⟨BS T.R SY,rfl,T.k,?_,?_,λi x e=>?_,λi j hh e1 e2=>?_⟩
 ·show (insertAt _ _ _).size=(gP hs _ h).length;rw[hW _ _ _ hb,T.n];unfold gP;simp;lia
 ·show (insertAt _ _ _).size<=t.mask;rw[hW _ _ _ hb];exact hf
 ·rcases (tm hb x).mp ⟨i,e⟩ with z |⟨q,hq⟩
  ·rw[z];exact Ud
  ·exact T.le q x hq
 ·have liv:∀s,Liv t s->Liv {t with place:=insertAt t.place (below t.place (pth t.mask h N).j) (pth t.mask h N).j,dummies:=#[] } s:=λs z=>(tm hb s).mpr (.inr z)
  change (insertAt t.place _ _)[i]?=some j at e1
  rw[cr hb]at e1;rw[zU hbl]at e2;split at e1
  ·rename_i z
   rw[if_pos z]at e2;obtain⟨m,q1,q2⟩:=T.reach i j hh e1 e2;exact⟨m,q1,λm' hm=>liv _ (q2 m' hm)⟩
  ·rename_i z
   rw[if_neg z]at e2;split at e1
   ·rename_i z2
    rw[if_pos z2]at e2;cases e1;cases e2;exact⟨N,rfl,λm' hm=>liv _ (h1 m' hm)⟩
   ·rename_i z2
    rw[if_neg z2]at e2;obtain⟨m,q1,q2⟩:=T.reach (i-1) j hh e1 e2;exact⟨m,q1,λm' hm=>liv _ (q2 m' hm)⟩
theorem yl{mask:Nat}(h:Int):∀n,(pth mask h n).j+(pth mask h n).more<=mask
 |0=>by
  show bits h%(mask+1)+(runEnd mask (bits h%(mask+1))-bits h%(mask+1))<=mask;have:=Ja (bits h) (show 0<mask+1 by lia)
  unfold runEnd;split <;>lia
 |n+1=>by
  have ih:=yl (mask:=mask) h n;rw[pth];unfold adv;split
  ·simp only;lia
  ·show (leap mask _ _).1+(runEnd mask (leap mask _ _).1-(leap mask _ _).1)<=mask;have:(leap mask (pth mask h n).i (pth mask h n).perturb).1<mask+1:=Ja _ (by lia)
   unfold runEnd;split <;>lia
def OL(owner:Array (Option Nat))(j:Nat):Prop:=∃k:Nat,owner[j]?=some (some k)
def nr(mask:Nat)(h:Int):Nat->Nat
 |0=>0
 |r+1=>nr mask h r+(runEnd mask (aV mask h r).1-(aV mask h r).1)+1
theorem CS(mask:Nat)(h:Int):∀r,pth mask h (nr mask h r)={j:=(aV mask h r).1,more:=runEnd mask (aV mask h r).1-(aV mask h r).1,i:=(aV mask h r).1,perturb:=(aV mask h r).2,dummy:=none }
 |0=>rfl
 |r+1=>by
  have e:=CS mask h r;have step:=km (mask:=mask) (runEnd mask (aV mask h r).1-(aV mask h r).1) (pth mask h (nr mask h r)) (λm=>pth mask h (nr mask h r+m)) rfl (λm=>rfl) (by rw[e];exact GA _)
  have Tx:pth mask h (nr mask h r+(runEnd mask (aV mask h r).1-(aV mask h r).1))=_:=step;rw[nr,pth,Tx,e];unfold adv;rw[if_neg (by simp)]
  rfl
theorem sr(mask:Nat)(h:Int)(r k:Nat)(hk:k<=runEnd mask (aV mask h r).1-(aV mask h r).1):(pth mask h (nr mask h r+k)).j=(aV mask h r).1+k:=by
 have e:=CS mask h r;have step:=km (mask:=mask) k (pth mask h (nr mask h r)) (λm=>pth mask h (nr mask h r+m)) rfl (λm=>rfl) (by rw[e];exact hk)
 have Tx:pth mask h (nr mask h r+k)=_:=step;rw[Tx,e]
theorem wI(mask i:Nat):i<=runEnd mask i:=by unfold runEnd;split <;>lia
theorem A4(mask:Nat)(h:Int):∀r,(aV mask h r).1<=mask
 |0=>IL (Ja _ (by lia))
 |r+1=>IL (Ja _ (by lia))
theorem qF{mask i:Nat}(h:i<=mask):runEnd mask i<=mask:=by unfold runEnd;split <;>lia
theorem tZ{mask:Nat}{owner:Array (Option Nat)}(hsz:owner.size=mask+1)(h:Int):∀(RV r:Nat),(∃r',r<=r'/\r'<r+RV/\owner[(aV mask h r').1]?=some none)->(∀m,m<nr mask h r->OL owner (pth mask h m).j)->
  ∃N,layClean.free mask owner RV (aV mask h r).1 (aV mask h r).2=some (pth mask h N).j/\owner[(pth mask h N).j]?=some none/\∀m,m<N->OL owner (pth mask h m).j
 |0,r,⟨r',h1,h2,_⟩,_=>by lia
 |RV+1,r,hex,hl=>by
  rw[layClean.free];have hge:=wI mask (aV mask h r).1;have hmk:=qF (A4 mask h r);have Ur:∀k,k<runEnd mask (aV mask h r).1+1-(aV mask h r).1->(aV mask h r).1+k<owner.size:=λk hk=>by lia
  cases hf:(HJ (runEnd mask (aV mask h r).1+1-(aV mask h r).1)).find? λk=>(owner.getD ((aV mask h r).1+k) (some 0)).isNone with
  |some k=>
   obtain⟨p1,p2,p3⟩:=List.find?_range_eq_some.mp hf;have hk:=G8.mp p2;have RU:=Ur k hk
   have e1:owner[(aV mask h r).1+k]?=some none:=by
    have:owner.getD ((aV mask h r).1+k) (some 0)=owner[(aV mask h r).1+k]:=by simp[Jr,RU]
    rw[this]at p1;have:owner[(aV mask h r).1+k]=none:=by simpa using p1
    simp[RU,this]
   have ej:=sr mask h r k (by lia)
   refine⟨nr mask h r+k,by simp only[ej],by rw[ej];exact e1,λm hm=>?_⟩
   by_cases hm1:m<nr mask h r
   ·exact hl m hm1
   ·obtain⟨q,rfl⟩:∃q,m=nr mask h r+q:=⟨m-nr mask h r,by lia⟩
    have hq:=p3 q (by lia)
    have UN:=Ur q (by lia)
    rw[sr mask h r q (by lia)]
    have:owner.getD ((aV mask h r).1+q) (some 0)=owner[(aV mask h r).1+q]:=by simp[Jr,UN]
    rw[this]at hq;cases hv:owner[(aV mask h r).1+q] with
    |none=>rw[hv]at hq;simp at hq
    |some v=>exact⟨v,by simp[UN,hv]⟩
  |none=>
   have Sx:∀q,q<runEnd mask (aV mask h r).1+1-(aV mask h r).1->OL owner ((aV mask h r).1+q):=λq hq=>by
    have:=List.find?_eq_none.mp hf q (G8.mpr hq);have UN:=Ur q hq;have e:owner.getD ((aV mask h r).1+q) (some 0)=owner[(aV mask h r).1+q]:=by simp[Jr,UN]
    rw[e]at this;cases hv:owner[(aV mask h r).1+q] with
    |none=>rw[hv]at this;simp at this
    |some v=>exact⟨v,by simp[UN,hv]⟩
   have next:=tZ hsz h RV (r+1) (by
    obtain⟨r',h1,h2,h3⟩:=hex;refine⟨r',?_,by lia,h3⟩
    rcases G4 h1 with z |z
    ·exact z
    ·subst z;obtain⟨v,hv⟩:=Sx 0 (by lia)
     rw[Q1,h3]at hv;cases hv) (λm hm=>by
    by_cases hm1:m<nr mask h r
    ·exact hl m hm1
    ·obtain⟨q,rfl⟩:∃q,m=nr mask h r+q:=⟨m-nr mask h r,by lia⟩
     have hm2:nr mask h r+q<nr mask h r+(runEnd mask (aV mask h r).1-(aV mask h r).1)+1:=hm;rw[sr mask h r q (by lia)]
     exact Sx q (by lia))
   exact next
structure OI(mask:Nat)(owner:Array (Option Nat))(hs:List Int):Prop where
 sz:owner.size=mask+1
 lt:∀(j k:Nat),owner[j]?=some (some k)->k<hs.length
 inj:∀(i j k:Nat),owner[i]?=some (some k)->owner[j]?=some (some k)->i=j
 all:∀k:Nat,k<hs.length->∃j:Nat,owner[j]?=some (some k)
 reach:∀(j k:Nat) (h:Int),owner[j]?=some (some k)->hs[k]?=some h->∃m,(pth mask h m).j=j/\∀m',m'<m->OL owner (pth mask h m').j
theorem OI.free{mask:Nat}{owner:Array (Option Nat)}{hs:List Int}(O:OI mask owner hs)(hn:hs.length<=mask):∃s,s<=mask/\owner[s]?=some none:=by
 apply Ir;intro SY
 have UO:∀s,s<=mask->OL owner s:=λs T3=>by
  have RU:s<owner.size:=by rw[O.sz];lia
  cases e:owner[s] with
  |none=>exact absurd ⟨s,T3,by simp[RU,e]⟩ SY
  |some k=>exact⟨k,by simp[RU,e]⟩
 have nd:((HJ (mask+1)).map λs=>(owner.getD s none).getD 0).Nodup:=by
  rw[Mj,HV];refine MM ?_ (M9 (n:=mask+1));intro a b ha hb Uy e;obtain⟨k1,h1⟩:=UO a (by have:=G8.mp ha;lia)
  obtain⟨k2,h2⟩:=UO b (by have:=G8.mp hb;lia)
  have e1:(owner.getD a none).getD 0=k1:=by simp[Ic,h1]
  have e2:(owner.getD b none).getD 0=k2:=by simp[Ic,h2]
  rw[e1,e2]at e;subst e;have:=O.inj a b k1 h1 h2;lia
 have sub:((HJ (mask+1)).map λs=>(owner.getD s none).getD 0) ⊆ HJ hs.length:=by
  intro x hx;obtain⟨s,hs1,rfl⟩:=GC.mp hx;obtain⟨k1,h1⟩:=UO s (by have:=G8.mp hs1;lia)
  have e1:(owner.getD s none).getD 0=k1:=by simp[Ic,h1]
  rw[e1];exact G8.mpr (O.lt s k1 h1)
 have:=O4 nd sub;simp at this;lia
theorem OI.step{mask k:Nat}(hk:mask+1=2 ^ k){owner:Array (Option Nat)}{hs:List Int}(O:OI mask owner hs)(hn:hs.length<=mask)(h:Int):
  ∃j,layClean.free mask owner (turns mask) (bits h%(mask+1)) (bits h)=some j/\OI mask (owner.setIfInBounds j (some hs.length)) (hs++[h]):=by
 obtain⟨s,hs1,Ul⟩:=O.free hn;obtain⟨q,hq,e⟩:=ik (aV mask h 12).1 k s;have er:(aV mask h (12+q)).1=s:=by rw[kO hk h q,e];exact Hv (by lia)
 obtain⟨N,f1,f2,f3⟩:=tZ O.sz h (turns mask) 0 ⟨12+q,Hf _,by unfold turns;lia,by rw[er];exact Ul⟩ (λm hm=>absurd hm (Nn _))
 refine⟨_,f1,?_⟩;generalize hj:(pth mask h N).j=j at *;have hjs:j<owner.size:=(HQ.mp f2).1
 have get:∀i:Nat,(owner.setIfInBounds j (some hs.length))[i]?=if j=i then some (some hs.length) else owner[i]?:=λi=>by
  rw[Array.getElem?_setIfInBounds];split
  ·rename_i z;subst z;simp[hjs]
  ·rfl
 have liv:∀i,OL owner i->OL (owner.setIfInBounds j (some hs.length)) i:=λi ⟨v,hv⟩=>by
  refine⟨v,?_⟩;rw[get,if_neg (λz=>by subst z;rw[f2]at hv;cases hv)]
  exact hv
 refine⟨by simp[O.sz],λi v e=>?_,λa b v e1 e2=>?_,λv hv=>?_,λi v hh e1 e2=>?_⟩
 ·rw[get]at e;split at e
  ·cases e;simp
  ·have:=O.lt i v e;simp;lia
 ·rw[get]at e1 e2;split at e1 <;>split at e2
  ·lia
  ·cases e1;exact absurd (O.lt b _ e2) (Hc _)
  ·cases e2;exact absurd (O.lt a _ e1) (Hc _)
  ·exact O.inj a b v e1 e2
 ·simp at hv;rcases G4 (IL hv) with z |z
  ·obtain⟨i,hi⟩:=O.all v z;refine⟨i,?_⟩;rw[get,if_neg (λy=>by subst y;rw[f2]at hi;cases hi)]
   exact hi
  ·subst z;exact⟨j,by rw[get,if_pos rfl]⟩
 ·rw[get]at e1;split at e1
  ·rename_i z
   cases e1;rw[GK (GA _)]at e2;simp at e2;subst e2;exact⟨N,by rw[hj];exact z,λm hm=>liv _ (f3 m hm)⟩
  ·have hv:=O.lt i v e1;rw[GG hv]at e2;obtain⟨m,q1,q2⟩:=O.reach i v hh e1 e2;exact⟨m,q1,λm' hm=>liv _ (q2 m' hm)⟩
theorem tD{mask k:Nat}(hk:mask+1=2 ^ k):∀(more done:List Int) (owner:Array (Option Nat)),OI mask owner done->done.length+more.length<=mask+1->∃UP,more.foldl (λacc h=>do
  let (owner,k) <-acc
  let j <-layClean.free mask owner (turns mask) (bits h%(mask+1)) (bits h)
  pure (owner.setIfInBounds j (some k),k+1)) (some (owner,done.length))=some (UP,done.length+more.length)/\OI mask UP (done++more)
 |[],done,owner,O,_=>⟨owner,by simp,by simpa using O⟩
 |h::more,done,owner,O,hl=>by
  obtain⟨j,e,O2⟩:=O.step hk (by simp at hl;lia) h
  obtain⟨ow,e2,O3⟩:=tD hk more (done++[h]) _ O2 (by simp at hl |-;lia)
  refine⟨ow,?_,by simpa using O3⟩
  rw[Ib]
  have:(do
   let (owner,k) <-some (owner,done.length)
   let j <-layClean.free mask owner (turns mask) (bits h%(mask+1)) (bits h)
   pure (owner.setIfInBounds j (some k),k+1):Option (Array (Option Nat)×Nat))=some (owner.setIfInBounds j (some done.length),done.length+1):=by
   simp[e]
  rw[this];simp only[Hb,Ni]at e2;rw[e2];simp;lia
theorem p_{mask k:Nat}(hk:mask+1=2 ^ k){hs:Array Int}(hl:hs.size<=mask+1):∃owner,layClean mask hs=some owner/\OI mask owner hs.toList:=by
 have O0:OI mask (Array.replicate (mask+1) none) []:=⟨by simp,λj k e=>by simp[KS]at e,λi j k e=>by simp[KS]at e,λk h=>by simp at h,λj k h e=>by simp[KS]at e⟩
 obtain⟨ow,e,O⟩:=tD hk hs.toList [] _ O0 (by simpa using hl)
 refine⟨ow,?_,by simpa using O⟩
 unfold layClean;rw[<-Oi];simp only[Kg]at e;rw[e];rfl
theorem o6(n:Nat):∀(RV k:Nat),n<2 ^ (k+RV)->∃k',k<=k'/\sizeAbove.go n RV (2 ^ k)=2 ^ k'/\n<2 ^ k'/\(2 ^ k'<=2*n\/k'=k)
 |0,k,h=>⟨k,GA _,rfl,by simpa using h,.inr rfl⟩
 |RV+1,k,h=>by
  rw[sizeAbove.go];by_cases Ud:2 ^ k<=n
  ·rw[if_pos Ud,<-IW];obtain⟨k',h1,h2,h3,h4⟩:=o6 n RV (k+1) (by rw[show k+1+RV=k+(RV+1) by lia];exact h)
   refine⟨k',by lia,h2,h3,.inl ?_⟩
   rcases h4 with z |z
   ·exact z
   ·subst z;rw[IW];lia
  ·rw[if_neg Ud];exact⟨k,GA _,rfl,by lia,.inr rfl⟩
theorem above(n:Nat)(h:n<2 ^ 60):∃k,3<=k/\sizeAbove n=2 ^ k/\n<2 ^ k/\2 ^ k<=2*n+8:=by
 obtain⟨k,h1,h2,h3,h4⟩:=o6 n 64 3 (GV h (Kw (by decide) (by decide)))
 refine⟨k,h1,h2,h3,?_⟩;rcases h4 with z |z
 ·lia
 ·subst z;lia
def dy(mask:Nat)(owner:Array (Option Nat)):List (Nat×Nat):=(HJ (mask+1)).filterMap λj=>(owner.getD j none).map (j,·)
theorem qx(owner:Array (Option Nat)):∀l:List Nat,(l.filterMap λj=>(owner.getD j none).map (j,·)).map (·.1)=l.filter λj=>(owner.getD j none).isSome
 |[]=>rfl
 |a::l=>by
  have ih:=qx owner l;rw[IC,List.filter_cons];cases owner.getD a none with
  |none=>simpa using ih
  |some v=>simpa using ih
theorem dS{mask:Nat}{owner:Array (Option Nat)}(hsz:owner.size=mask+1)(j k:Nat):(j,k)∈dy mask owner↔owner[j]?=some (some k):=by
 unfold dy;rw[K2];constructor
 ·rintro ⟨a,ha,e⟩;have RU:a<owner.size:=by rw[hsz];exact G8.mp ha
  cases hv:owner.getD a none with
  |none=>rw[hv]at e;cases e
  |some v=>
   rw[hv]at e;cases e;have:owner.getD j none=owner[j]:=by simp[Jr,RU]
   rw[this]at hv;simp[RU,hv]
 ·intro e;have RU:=(HQ.mp e).1;refine⟨j,G8.mpr (by lia),?_⟩
  rw[Ic,e];rfl
theorem vo(mask:Nat)(owner:Array (Option Nat)):(dy mask owner).Pairwise λa b=>a.1<b.1:=by
 have:=(M9 (n:=mask+1)).filter λj=>(owner.getD j none).isSome
 rw[<-qx owner (HJ (mask+1)),HV]at this;exact this
theorem Da{l:List Nat}(h:l.Pairwise (· < ·)):Ris l.toArray:=by
 intro i j x y Ue hx hy;rw[Kh]at hx hy;obtain⟨h1,e1⟩:=GB.mp hx;obtain⟨h2,e2⟩:=GB.mp hy;have:=Hn.mp h i j h1 h2 Ue;rw[e1,e2]at this;exact this
theorem AI{mask k:Nat}(h3:3<=k)(hk:mask+1=2 ^ k){hs:Array Int}(hl:hs.size<=mask)(finger moves:Nat)(led plain:Bool):
  ∃t order,laid mask finger moves led plain hs=some (t,order)/\TOk t (order.toList.map λi=>hs.getD i 0)/\order.toList.Perm (HJ hs.size)/\t.mask=mask/\t.led=led/\t.plain=plain/\t.moves=moves:=by
 obtain⟨owner,e,O⟩:=p_ hk (hs:=hs) (by lia)
 have pr:=vo mask owner
 have nd:((dy mask owner).map (·.2)).Nodup:=by
  rw[Mj,HV];refine MM ?_ pr;intro a b ha hb Uy ee;have h1:=(dS O.sz a.1 a.2).mp ha;have h2:=(dS O.sz b.1 b.2).mp hb;rw[ee]at h1;have:=O.inj a.1 b.1 b.2 h1 h2;lia
 have perm:((dy mask owner).map (·.2)).Perm (HJ hs.size):=by
  refine (Kt nd O7).mpr λx=>?_
  rw[GC,G8];constructor
  ·rintro ⟨⟨j,v⟩,hm,rfl⟩;have:=O.lt j v ((dS O.sz j v).mp hm);simpa using this
  ·intro hx;obtain⟨j,hj⟩:=O.all x (by simpa using hx)
   exact⟨(j,x),(dS O.sz j x).mpr hj,rfl⟩
 have len:(dy mask owner).length=hs.size:=by have:=perm.length_eq;simpa using this
 refine⟨_,_,by unfold laid;rw[e];rfl,⟨?_,rfl,⟨k,h3,hk⟩,?_,?_,λi x ee=>?_,λi j h e1 e2=>?_⟩,?_,rfl,rfl,rfl,rfl⟩
 ·show Ris ((dy mask owner).map (·.1)).toArray;exact Da (by rw[HV];exact pr)
 ·show ((dy mask owner).map (·.1)).toArray.size=_;simp[dy]
 ·show ((dy mask owner).map (·.1)).toArray.size<=mask;simp[len,hl]
 ·change ((dy mask owner).map (·.1)).toArray[i]?=some x at ee
  rw[Kh,Gz]at ee;cases q:(dy mask owner)[i]? with
  |none=>rw[q]at ee;cases ee
  |some p=>
   rw[q]at ee;cases ee;have:=(dS O.sz p.1 p.2).mp (GJ q);have:=(HQ.mp this).1;show p.1<=mask;have hz:=O.sz;lia
 ·change ((dy mask owner).map (·.1)).toArray[i]?=some j at e1
  change (((dy mask owner).map (·.2)).toArray.toList.map λi=>hs.getD i 0)[i]?=some h at e2
  rw[Kh,Gz]at e1;rw[Gz,Gz]at e2;cases q:(dy mask owner)[i]? with
  |none=>rw[q]at e1;cases e1
  |some p=>
   rw[q]at e1 e2;cases e1;have hp:=(dS O.sz p.1 p.2).mp (GJ q);have RU:=O.lt _ _ hp
   have e3:hs.toList[p.2]?=some h:=by
    have e4:hs.getD p.2 0=h:=by simpa using e2
    have:p.2<hs.size:=by simpa using RU
    rw[<-e4];simp[Jr,this]
   obtain⟨m,q1,q2⟩:=O.reach _ _ h hp e3;refine⟨m,q1,λm' hm=>?_⟩
   obtain⟨v,hv⟩:=q2 m' hm;obtain⟨n,hn⟩:=G7.mp ((dS O.sz _ v).mpr hv);refine⟨n,?_⟩;show ((dy mask owner).map (·.1)).toArray[n]?=_;rw[Kh,Gz,hn];rfl
 ·show ((dy mask owner).map (·.2)).toArray.toList.Perm _;simpa using perm
variable {prog:GF}{E:Gr→Gs→Prop}
section
variable {w:G5}{A:Ha}{s:Gs}
abbrev TK(prog:GF)(w:G5)(h:H_)(k:List Int)(b:GE):Prop:=IsTupleKey (N1 prog w) h k b
abbrev hsh(prog:GF)(w:G5)(k:List Int):Int:=tupleKeyHash (N1 prog w) k
theorem TK.ints{h:H_}{k:List Int}{vs:List Gr}(x:ItemsAre (N1 prog w) k vs):∀v∈vs,∃n t,v=.int n t:=by
 induction x with
 |nil=>intro v hv;simp at hv
 |cons h1 _ ih=>
  intro v hv;rcases Gx.mp hv with rfl |hv
  ·obtain⟨t,rfl⟩:=Lm h1;exact⟨_,t,rfl⟩
  ·exact ih v hv
theorem m_{k:List Int}{a:GE}{Q:Bool->Gs->Prop}(hk:TK prog w s.heap k a)(h:Q false s):GQ (G1 prog w) A (Lu 8 (.ref a)) Q E s:=by
 have hT:=hk.typeIs;obtain⟨o,items,n,ho,_,hd,hi⟩:=hk;unfold Lu;refine Gk (Nq hT ?_);dsimp only;rw[if_pos (by decide)]
 refine Gk (Gw ?_);simp only[JX,GO,if_false];refine Gk (J6 ho hd ?_);dsimp only;refine Gk ?_;rw[<-Kd];refine M5 _ (λrest r s'=>r.1=none/\s'=s/\∀v∈rest,∃n t,v=He n t) _ ?_ ?_ _ _ ⟨rfl,rfl,TK.ints (h:=s.heap) hi⟩
 ·rintro v rest r s' ⟨hr,rfl,Sx⟩;obtain⟨n,t,rfl⟩:=Sx v Gy;have e:Lu 7 (He n t)=pure false:=by unfold Lu;rfl
  rw[e];refine Gk (Gw ?_);simp only[GO,if_false];exact Gw ⟨rfl,rfl,λu hu'=>Sx u (Gq _ hu')⟩
 ·rintro ⟨r1,r2⟩ s' ⟨hr,rfl,_⟩;simp only at hr;subst hr;exact Gw h
theorem EF{k:List Int}{a:GE}{Q:Bool->Gs->Prop}(hk:TK prog w s.heap k a)(h:Q true s):GQ (G1 prog w) A (N5 8 (.ref a)) Q E s:=by
 have hT:=hk.typeIs;obtain⟨o,items,n,ho,_,hd,hi⟩:=hk;unfold N5;refine Gk (Jw hT F.slot_tuple_hash.lookup ?_);show GQ _ _ (seqItems? (.ref a) >>=_) _ _ s;refine Gk (J6 ho hd ?_);refine Gk ?_;show GQ _ _ (forIn items _ _) _ _ s;rw[<-Kd];refine M5 _ (λrest r s'=>r.1=none/\s'=s/\∀v∈rest,∃n t,v=He n t) _ ?_ ?_ _ _ ⟨rfl,rfl,TK.ints (h:=s.heap) hi⟩
 ·rintro v rest r s' ⟨hr,rfl,Sx⟩;obtain⟨n,t,rfl⟩:=Sx v Gy;have e:N5 7 (He n t)=pure true:=by unfold N5;rfl
  rw[e];refine Gk (Gw ?_);simp only[JX,GO,if_false];exact Gw ⟨rfl,rfl,λu hu'=>Sx u (Gq _ hu')⟩
 ·rintro ⟨r1,r2⟩ s' ⟨hr,rfl,_⟩;simp only at hr;subst hr;exact Gw h
theorem rZ{k:List Int}{a:GE}{l:List Gr}{Q:Bool->Gs->Prop}(hk:TK prog w s.heap k a)(hl:∀v∈l,∃k' b,v=.ref b/\TK prog w s.heap k' b)(h:Q false s):
  GQ (G1 prog w) A (OH (.ref a) l) Q E s:=by
 unfold OH;refine Gk ?_;refine M5 _ (λrest r s'=>r.1=none/\s'=s/\∀v∈rest,∃k' b,v=.ref b/\TK prog w s.heap k' b) _ ?_ ?_ _ _ ⟨rfl,rfl,hl⟩
 ·rintro v rest r s' ⟨hr,rfl,Sx⟩;obtain⟨k',b,rfl,hb⟩:=Sx v Gy;dsimp only;split
  ·exact Gw ⟨rfl,rfl,λu hu'=>Sx u (Gq _ hu')⟩
  ·refine Gk (Nr hk ?_);simp only[JX,GO,if_false];refine Gk (Nr hb ?_);simp only[JX,GO,if_false];refine Gk (m_ hk ?_);simp only[GO,if_false];refine Gk (m_ hb ?_);simp only[GO,if_false];exact Gw ⟨rfl,rfl,λu hu'=>Sx u (Gq _ hu')⟩
 ·rintro ⟨r1,r2⟩ s' ⟨hr,rfl,_⟩;simp only at hr;subst hr;exact Gw h
def ents(prog:GF)(w:G5)(kb:List (List Int×GE)):List (Int×Gr):=kb.map λp=>(hsh prog w p.1,.ref p.2)
theorem tE{kb:List (List Int×GE)}{i:Nat}:(ents prog w kb)[i]?=(kb[i]?).map λp=>(hsh prog w p.1,.ref p.2):=by unfold ents;rw[Gz]
theorem B9(kb:List (List Int×GE)):(ents prog w kb).map (·.1)=kb.map λp=>hsh prog w p.1:=by unfold ents;rw[G3];rfl
theorem TOk.fits{t:SetTable}{hs:List Int}(T:TOk t hs){n:Nat}(hn:hs.length=n):t.fits n=true:=by
 have h1:=T.n;have h2:=T.f;have h3:t.fill=t.place.size:=by unfold fill;rw[T.d];rfl
 unfold SetTable.fits;rw[h3];simp[h1,hn];lia
theorem TOk.gave{t:SetTable}{hs:List Int}(T:TOk t hs):t.gaveWay=false:=by
 obtain⟨k,h3,hk⟩:=T.k;unfold SetTable.gaveWay;obtain⟨j,rfl⟩:∃j,k=j+1:=⟨k-1,by lia⟩
 rw[IW]at hk;have:t.mask%2=1:=by lia
 simp[this]
theorem pN{S:GE}{o:Obj}{es:Array (Int×Gr)}{ep:Nat}{t:SetTable}{kb:List (List Int×GE)}{k:List Int}{x:GE}(hu:A.units<Ku)
  (ho:s.heap.get? S=some o) (hd:o.data=.set es ep t) (he:es.toList=ents prog w kb) (T:TOk t (kb.map λp=>hsh prog w p.1)) (U5:∀p∈kb,TK prog w s.heap p.1 p.2) (hx:TK prog w s.heap k x)
  {N:Nat} (hN:N<10*turns t.mask) (h0:¬ Liv t (pth t.mask (hsh prog w k) N).j) (h1:∀m,m<N->Liv t (pth t.mask (hsh prog w k) m).j) {Q:SetFound->Gs->Prop}
  (qf:(∀p∈kb,p.1≠k)->Q (.free (pth t.mask (hsh prog w k) N).j false) s) (qt:(∃p∈kb,p.1=k)->Q (.there none) s):
  ∀(RV n:Nat) (Ts:Option Probe),n<=N->N-n<RV->Ts.getD (t.probeStart (hsh prog w k))=pth t.mask (hsh prog w k) n->
   (∀(m i:Nat) (p:List Int×GE),m<n->t.place[i]?=some (pth t.mask (hsh prog w k) m).j->kb[i]?=some p->p.1≠k)->
   GQ (G1 prog w) A (MW S (.ref x) (hsh prog w k) true RV Ts) Q E s:=by
 have hsz:es.size=kb.length:=by rw[<-GY,he];simp[ents]
 have SI:t.fits es.size=true:=T.fits (by rw[Gp,hsz])
 have eat:∀i:Nat,es[i]?=(kb[i]?).map λ(p:List Int×GE)=>(hsh prog w p.1,GR p.2):=λi=>by rw[<-Hy,he,tE]
 intro RV
 induction RV with
 |zero=>intro n Ts _ h;lia
 |succ RV ih=>
  intro n Ts hn hf R9 TV;unfold MW;refine Gk (Jb ho hd SI ?_);dsimp only;rw[T.gave];simp only[GO,if_false];rw[R9];have hash:∀(i:Nat) (p:List Int×GE),kb[i]?=some p->((es[i]?.map (λ(e:Int×Gr)=>e.1)).getD 0:Int)=hsh prog w p.1:=λi p hp=>by rw[eat,hp];rfl
  have pg:=pG T (λ(i:Nat)=>(es[i]?.map (λ(e:Int×Gr)=>e.1)).getD 0) (hsh prog w k) h0 h1 (10*turns t.mask) n hn (by lia)
  split
  ·rename_i met hmet
   rcases pg with ⟨e,RL⟩ |⟨m,i,hnm,hmN,R3,hhi,e,hbef⟩
   ·have q:some met=some (.empty (pth t.mask (hsh prog w k) N).j none):=hmet.symm.trans e;cases q;dsimp only;refine Gw (qf λp hp Ug=>?_)
    obtain⟨i,hi⟩:=G7.mp hp;obtain⟨m,j,hm,R3,hj⟩:=y6 T (h:=hsh prog w k) h0 (i:=i) (by rw[Gz,hi,<-Ug];rfl)
    rcases Ki m n with Vm |Vm
    ·exact TV m i p Vm (by rw[hj];exact R3) hi Ug
    ·exact RL m i Vm hm (by rw[hj];exact R3) (by rw[hash i p hi,Ug])
   ·have q:some met=some (.candidate (pth t.mask (hsh prog w k) m).j i (pth t.mask (hsh prog w k) (m+1))):=hmet.symm.trans e;cases q;dsimp only;have hik:i<kb.length:=by rw[<-hsz,<-show t.place.size=es.size by rw[T.n,Gp,hsz]];exact sY R3
    obtain⟨p,hp⟩:∃p,kb[i]?=some p:=⟨_,Gm hik⟩;have hpm:p∈kb:=GJ hp;have hei:es[i]?=some (hsh prog w p.1,GR p.2):=by rw[eat,hp];rfl
    have rest:GQ (G1 prog w) A (do
      let Vs <-Ln [GR p.2] (eqBool (GR p.2) (.ref x))
      let (es',_,t') <-setState S
      if true && Vs then return .there none
      let some same:=t'.sameMemory t.moves t.mask |unsupported "set.changed-during-lookup:is-the-new-block-at-the-old-address"
      let still <-match (if same then t'.slot (pth t.mask (hsh prog w k) m).j else .empty) with
       | .live i'=>match es'[i']? with
        |some (_,y')=>do pure (if <-isSame y' (GR p.2) then some i' else none)
        |none=>pure none
       |_=>pure none
      match still with
      |none=>rule "set.search.anew";MW S (.ref x) (hsh prog w k) true RV none
      |some i'=>if Vs then return .there (some i') else MW S (.ref x) (hsh prog w k) true RV (some (pth t.mask (hsh prog w k) (m+1)))) Q E s:=by
     refine Gk (Hs (wpAny_eqBool_tuple hu (U5 p hpm) hx ?_));refine Gk (Jb ho hd SI ?_);dsimp only;by_cases Ug:p.1=k
     ·rw[decide_eq_true Ug];simp only[Bool.and_self,if_true];exact Gw (qt ⟨p,hpm,Ug⟩)
     ·rw[decide_eq_false Ug];simp only[NY,GO,if_false];have hsm:t.sameMemory t.moves t.mask=some true:=by unfold SetTable.sameMemory;simp
      rw[hsm];dsimp only;rw[if_pos rfl,nD T.R R3];dsimp only;rw[hei];dsimp only;refine Gk (wpAny_isSame_ref_self ?_);refine Gk (Gw ?_);simp only[if_true];refine ih (m+1) (some (pth t.mask (hsh prog w k) (m+1))) (by lia) (by lia) rfl λm' i' p' hm' hpl' S2=>?_
      rcases Ki m' n with z |z
      ·exact TV m' i' p' z hpl' S2
      ·rcases G4 (IL hm') with y |y
       ·have:=hbef m' i' z y hpl';intro e';exact this (by rw[hash i' p' S2,e'])
       ·subst y;have ei:=T.R.inj R3 hpl';subst ei;rw[hp]at S2;cases S2;exact Ug
    by_cases hled:t.led=true
    ·rw[hled];simp only[JX,GO,if_false];rw[hei];exact rest
    ·rw[show t.led=false by simpa using hled]
     simp only[Mw,if_true];refine Gk (rZ hx (λv hv=>?_) ?_)
     ·obtain⟨e',he',rfl⟩:=GC.mp hv
      have hm':e'∈es.toList:=by
       have:=LS.mp he';exact LS.mpr (Array.mem_filter.mp this).1
      rw[he]at hm';obtain⟨p',S2,rfl⟩:=GC.mp hm';exact⟨p'.1,p'.2,rfl,U5 p' S2⟩
     ·simp only[GO,if_false];rw[hei];exact rest
  ·rename_i SY
   rcases pg with ⟨e,RL⟩ |⟨m,i,hnm,hmN,R3,hhi,e,hbef⟩
   ·exact absurd e (SY _)
   ·exact absurd e (SY _)
structure SP(prog:GF)(w:G5)(h:H_)(S:GE)(kb:List (List Int×GE)):Prop where
 ex:∃o es ep t,h.get? S=some o∧o.ExactSet∧o.data=.set es ep t∧es.toList=ents prog w kb∧TOk t (kb.map λp=>hsh prog w p.1)∧t.led=(!w.params.followText "set-order")∧t.plain=true∧t.tooFull=false∧t.mask<8*kb.length+8
 keys:∀p∈kb,TK prog w h p.1 p.2
 nd:(kb.map (·.1)).Nodup
theorem TK.keep{h h':H_}{k:List Int}{b S:GE}{o:Obj}{es ep t}(x:TK prog w h k b)(ho:h.get? S=some o)(hd:o.data=.set es ep t)(hs:JF S h h'):TK prog w h' k b:=by
 obtain⟨o',items,n,S9,hc,T6,hi⟩:=x
 have RL:b≠S:=by
  rintro rfl;obtain rfl:o'=o:=Hq (S9.symm.trans ho);rw[hd]at T6;exact nomatch T6
 exact⟨o',items,n,(hs.2 b RL).trans S9,hc,T6,hi⟩
theorem qS(x:GE)(es:Array (Int×Gr)):byScan (.ref x) es=false:=by simp[byScan,Value.scannable]
theorem qm{α β:Type}(f:α->β)(xs:List α)(p:Nat)(x:α):(gP xs p x).map f=gP (xs.map f) p (f x):=by
 unfold gP;rw[Iu,GW,List.map_take,List.map_drop]
theorem e9{α:Type}(xs:List α)(p:Nat)(x:α):(gP xs p x).Perm (xs++[x]):=by
 unfold gP;refine O8.trans ?_;rw[Nt];exact (List.perm_append_singleton x xs).symm
theorem qq{α β:Type}{kb:List α}(f:α->β)(d:β):∀(o:List Nat),(∀i∈o,i<kb.length)->o.map (λi=>((kb.map f).toArray).getD i d)=(o.filterMap λi=>kb[i]?).map f
 |[],_=>rfl
 |i::o,h=>by
  have hi:=h i Gy;rw[GW,IC,Gm hi,qq f d o λj hj=>h j (Gq _ hj)]
  simp[Jr,hi]
theorem wf{α:Type}{kb:List α}{o:List Nat}(h:o.Perm (HJ kb.length)):(o.filterMap λi=>kb[i]?).Perm kb:=by
 refine (h.filterMap _).trans ?_
 suffices (HJ kb.length).filterMap (λi=>kb[i]?)=kb by rw[this]
 have:∀(l pre:List α),(List.range' pre.length l.length).filterMap (λi=>(pre++l)[i]?)=l:=by
  intro l
  induction l with
  |nil=>intro pre;rfl
  |cons x l ih=>
   intro pre;rw[GI,List.range'_succ,IC];have e:(pre++x::l)[pre.length]?=some x:=by rw[GK (GA _)];simp
   rw[e];have:=ih (pre++[x]);rw[MH,Hb]at this;simpa using this
 have q:=this kb [];simpa [List.range_eq_range'] using q
theorem AX{t:SetTable}{hs:List Int}(T:TOk t hs)(h:t.tooFull=false):t.place.size+1<=t.mask:=by
 obtain⟨k,h3,hk⟩:=T.k;have hf:t.fill=t.place.size:=by unfold fill;rw[T.d];rfl
 have h8:2 ^ 3<=2 ^ k:=Kw (by decide) h3
 unfold tooFull at h;rw[hf]at h;simp at h;lia
theorem FA{S:GE}{o:Obj}{es:Array (Int×Gr)}{ep:Nat}{t:SetTable}{kb:List (List Int×GE)}{Q:Unit->Gs->Prop}(ho:s.heap.get? S=some o)(hex:o.ExactSet)(hd:o.data=.set es ep t)(he:es.toList=ents prog w kb)
  (T:TOk t (kb.map λp=>hsh prog w p.1)) (hl:t.led=(!w.params.followText "set-order")) (hp:t.plain=true) (U5:∀p∈kb,TK prog w s.heap p.1 p.2) (Tf:(kb.map (·.1)).Nodup) (h1:0<kb.length) (hn:kb.length≤1000)
  (h:∀h' Tn,JF S s.heap h'->SP prog w h' S Tn->Tn.Perm kb->Q () {s with heap:=h' }):GQ (G1 prog w) A (setRelay S (grown kb.length)) Q E s:=by
 have hsz:es.size=kb.length:=by rw[<-GY,he];simp[ents]
 have SI:t.fits es.size=true:=T.fits (by rw[Gp,hsz])
 have eat:∀i:Nat,es[i]?=(kb[i]?).map λ(p:List Int×GE)=>(hsh prog w p.1,GR p.2):=λi=>by rw[<-Hy,he,tE]
 have hg:grown kb.length=kb.length*4:=by unfold grown;rw[if_neg (by lia)]
 rw[hg];obtain⟨k,k3,ek,lk,uk⟩:=above (kb.length*4) (by lia)
 have UQ:(sizeAbove (kb.length*4)-1)+1=2 ^ k:=by lia
 obtain⟨t',order,e,T',hord,em,el,ep',_⟩:=AI k3 UQ (hs:=es.map (·.1)) (by rw[Qe,hsz];lia) t.finger (t.movedTo (sizeAbove (kb.length*4)-1)) t.led t.plain
 have hrel:t.relaid (es.map (·.1)) (kb.length*4)=some (t',order):=e;have UR:order.toList.Perm (HJ kb.length):=by rw[Qe,hsz]at hord;exact hord
 have RU:∀i∈order.toList,i<kb.length:=λi hi=>G8.mp (UR.mem_iff.mp hi)
 have Ug:=wf UR
 have hes:(order.filterMap (λi=>es[i]?)).toList=ents prog w (order.toList.filterMap λi=>kb[i]?):=by
  rw[Array.toList_filterMap];unfold ents;rw[List.map_filterMap];congr 1
  funext i
  rw[eat]
 have hes2:(order.filterMap (λi=>es[i]?)).size=es.size:=by
  rw[<-GY,hes,hsz];unfold ents;rw[Gp,Ug.length_eq]
 unfold setRelay;refine Gk (Jb ho hd SI ?_);dsimp only;rw[if_neg (by rw[ek,Ij];lia),hrel]
 have goal:GQ (G1 prog w) A (do
   if (order.filterMap (λi=>es[i]?)).size !=es.size then unsupported "internal:set-table-lost-an-element"
   pure (order.filterMap (λi=>es[i]?),t'):Sem (Array (Int×Gr)×SetTable)) (λr s'=>GQ (G1 prog w) A (storeSet S r.1 r.2) Q E s') E s:=by
  rw[hes2];simp only[bne_self_eq_false,GO,if_false];refine Gw ?_;refine OJ ho hd ?_ (by rw[hes2,hsz,Ij];lia)
  have hg':(s.heap.update S (Lv (order.filterMap (λi=>es[i]?)) t')).get? S=some {o with data:=.set (order.filterMap (λi=>es[i]?)) (ep+1) t' }:=by
   have:=Hz (Lv (order.filterMap (λi=>es[i]?)) t') ho (by rw[Px _ t' hd];rfl)
   rw[Px _ t' hd]at this;exact this
  have S6:=JY s.heap S (Lv (order.filterMap (λi=>es[i]?)) t')
  refine h _ (order.toList.filterMap λi=>kb[i]?) S6 ⟨⟨_,_,_,t',hg',hex,rfl,hes,?_,by rw[el];exact hl,by rw[ep'];exact hp,?_,?_⟩,λp S2=>?_,?_⟩ Ug
  ·have:=qq (kb:=kb) (λp=>hsh prog w p.1) 0 order.toList RU
   rw[<-this]
   have e2:(es.map (·.1))=((kb.map λp=>hsh prog w p.1)).toArray:=by
    apply M6.mp;rw[O9,he,B9]
   rw[e2]at T';exact T'
  ·have hf:t'.fill=t'.place.size:=by unfold fill;rw[T'.d];rfl
   have UB:=T'.n;rw[Gp,UR.length_eq,OK]at UB;unfold tooFull;rw[hf,UB,em];simp;lia
  ·rw[em,Ug.length_eq];lia
  ·exact (U5 p (Ug.mem_iff.mp S2)).keep ho hd S6
  ·exact ((Ug.map (·.1)).nodup_iff).mpr Tf
 exact Gk goal
theorem sW{S x:GE}{kb:List (List Int×GE)}{k:List Int}{Q:Bool->Gs->Prop}(hu:A.units<Ku)(P:SP prog w s.heap S kb)(hx:TK prog w s.heap k x)(hn:kb.length<1000)
  (h:∀b h' Tn,JF S s.heap h'->SP prog w h' S Tn->(if k∈kb.map (·.1) then Tn=kb else Tn.Perm (kb++[(k,x)]))->Q b {s with heap:=h' }):
  GQ (G1 prog w) A (setAddHashed S (.ref x) (hsh prog w k)) Q E s:=by
 obtain⟨⟨o,es,ep,t,ho,hex,hd,he,T,hl,hp,Vt,UQ⟩,U5,Tf⟩:=P;have P0:SP prog w s.heap S kb:=⟨⟨o,es,ep,t,ho,hex,hd,he,T,hl,hp,Vt,UQ⟩,U5,Tf⟩;have hsz:es.size=kb.length:=by rw[<-GY,he];simp[ents]
 have SI:t.fits es.size=true:=T.fits (by rw[Gp,hsz])
 obtain⟨N,hN,h0,h1⟩:=qX T (hsh prog w k);have hN':N<100000:=by unfold turns at hN;lia
 unfold setAddHashed setAddHashedIn;refine Hs (Gk (Jb ho hd SI ?_));dsimp only;rw[qS];simp only[GO,if_false];unfold setSearch;refine Gk (pN hu ho hd he T U5 hx hN h0 h1 (λSY=>?_) (λhyes=>?_) 100000 0 none (Hf _) (by lia) rfl λm i p hm=>by lia)
 ·dsimp only;have hk:k ∉ kb.map (·.1):=λz=>by obtain⟨p,S2,e⟩:=GC.mp z;exact SY p S2 e
  refine Gk (Jb ho hd SI ?_);dsimp only;generalize hj:(pth t.mask (hsh prog w k) N).j=j at *;have T1:=T.put (h:=hsh prog w k) (N:=N) (by rw[hj];exact h0) h1 (by have:=yl (mask:=t.mask) (hsh prog w k) N;lia) (AX T Vt)
  rw[hj]at T1;have epl:(t.put j).1.plain=true:=hp;have eled:(t.put j).1.led=(!w.params.followText "set-order"):=hl;have emask:(t.put j).1.mask=t.mask:=rfl;generalize (t.put j).1=t1 at *;generalize (t.put j).2=q at *;have Tz:(gP kb q (k,x)).length=kb.length+1:=by rw[(e9 kb q (k,x)).length_eq];simp
  have he1:(insertAt es q (hsh prog w k,GR x)).toList=ents prog w (gP kb q (k,x)):=by
   rw[eO,he];unfold ents;rw[qm];rfl
  have hsz1:(insertAt es q (hsh prog w k,GR x)).size=kb.length+1:=by
   rw[<-GY,he1];unfold ents;rw[Gp,Tz]
  have T2:TOk t1 ((gP kb q (k,x)).map λp=>hsh prog w p.1):=by rw[qm];exact T1
  rw[if_pos epl];refine Gk (EF hx ?_);rw[if_pos rfl]
  have hg1:(s.heap.update S (Lv (insertAt es q (hsh prog w k,GR x)) t1)).get? S=some {o with data:=.set (insertAt es q (hsh prog w k,GR x)) (ep+1) t1 }:=by
   have:=Hz (Lv (insertAt es q (hsh prog w k,GR x)) t1) ho (by rw[Px _ t1 hd];rfl)
   rw[Px _ t1 hd]at this;exact this
  have S6:=JY s.heap S (Lv (insertAt es q (hsh prog w k,GR x)) t1)
  have hkb1:∀p∈gP kb q (k,x),TK prog w (s.heap.update S (Lv (insertAt es q (hsh prog w k,GR x)) t1)) p.1 p.2:=λp S2=>by
   have:=(e9 kb q (k,x)).mem_iff.mp S2;rcases HU.mp this with z |z
   ·exact (U5 p z).keep ho hd S6
   ·rw[G9.mp z];exact hx.keep ho hd S6
  have hnd1:((gP kb q (k,x)).map (·.1)).Nodup:=by
   rw[((e9 kb q (k,x)).map (·.1)).nodup_iff,Iu,Lw];refine⟨Tf,by simp,λa ha b hb=>?_⟩
   simp at hb;subst hb;rintro rfl;exact hk ha
  refine Gk (OJ ho hd ?_ (by rw[hsz1,Ij];lia))
  rw[Mw,Ko];by_cases hft:t1.tooFull=true
  ·rw[if_pos hft,hsz,<-Tz];refine Gk (FA (s:={s with heap:=s.heap.update S (Lv (insertAt es q (hsh prog w k,GR x)) t1) }) hg1 hex rfl he1 T2 eled epl hkb1 hnd1 (by lia) (by lia) λh' Tn TX P' pm=>Gw ?_)
   exact h true h' Tn (S6.trans TX) P' (by rw[if_neg hk];exact pm.trans (e9 kb q (k,x)))
  ·rw[if_neg hft];refine Gw (h true _ (gP kb q (k,x)) S6 ⟨⟨_,_,_,t1,hg1,hex,rfl,he1,T2,eled,epl,by simpa using hft,by rw[emask,Tz];lia⟩,hkb1,hnd1⟩ (by rw[if_neg hk];exact e9 kb q (k,x)))
 ·dsimp only;refine Gw ?_;have hk:k∈kb.map (·.1):=by obtain⟨p,S2,e⟩:=hyes;exact GC.mpr ⟨p,S2,e⟩
  exact h false s.heap kb (MK S s.heap) P0 (by rw[if_pos hk])
theorem TK.moved{s s':Gs}{wr:List GE}{G:Array Kl->Array Kl->Prop}{k:List Int}{b:GE}(x:TK prog w s.heap k b)(hb:b ∉ wr)(m:Moved wr G s s'):TK prog w s'.heap k b:=by
 obtain⟨o,RB,n,ho,hc,hd,hi⟩:=x;exact⟨o,RB,n,m.heap b o hb ho,hc,hd,hi⟩
theorem SP.moved{s s':Gs}{wr:List GE}{G:Array Kl->Array Kl->Prop}{S:GE}{kb:List (List Int×GE)}(x:SP prog w s.heap S kb)(hS:S ∉ wr)(hb:∀p∈kb,p.2 ∉ wr)(m:Moved wr G s s'):SP prog w s'.heap S kb:=by
 obtain⟨⟨o,es,ep,t,ho,r⟩,hk,hn⟩:=x;exact⟨⟨o,es,ep,t,m.heap S o hS ho,r⟩,λp hp=>(hk p hp).moved (hb p hp) m,hn⟩
structure Got(kx:Nat->List Int×GE)(i:Nat)(kb:List (List Int×GE)):Prop where
 src:∀p∈kb,∃j,j<i/\p=kx j
 all:∀j,j<i->(kx j).1∈kb.map (·.1)
 len:kb.length<=i
variable {R:N9→Gs→Prop}{I:GE}{fp wr:List GE}{G:Array Kl→Array Kl→Prop}{n:Nat}{P:Nat→Gr→Prop}{St:Nat→Gs→Prop}
theorem xg(W:WalksS prog w A.in1 I fp wr G n P St)(hu:A.in1.units<Ku){S:GE}(Uh:S ∉ fp)(kx:Nat->List Int×GE)(hP:∀i v,P i v->v=.ref (kx i).2)(hwr:∀i,i<n->(kx i).2 ∉ wr)(hn:n<=1000):
  ∀(k i:Nat) (s:Gs) (kb:List (List Int×GE)),n-i=k->i<=n->St i s->SP prog w s.heap S kb->Got kx i kb->(∀j,j<n->TK prog w s.heap (kx j).1 (kx j).2)->
   (∀s' Tn,Moved (S::wr) G s s'->SP prog w s'.heap S Tn->Got kx n Tn->R (.ok (.ret .none)) s')->
   J7 (G1 prog w) A (.builtin "set.update.loop" ⟨[.ref S,.ref I],[]⟩) R s:=by
 have hSw:S ∉ wr:=λh=>Uh (W.sub _ h)
 have more:∀b∈wr,b∈S::wr:=λb hb=>Gq _ hb
 intro k
 induction k with
 |zero=>
  intro i s kb hk hi st hS g tk hR;obtain rfl:i=n:=by lia
  refine JR PyProof.Rows.F.entry_set_update_loop ?_;rw[JM PyProof.Rows.F.plain_set_update_loop _];show GQ _ A.in1 (LR (.ref I) >>=_) _ _ s;refine Gk (W.done s _ _ st λs' m=>?_)
  exact Gw (hR s' kb (m.mono more) (hS.moved hSw (λp hp=>by obtain⟨j,hj,rfl⟩:=g.src p hp;exact hwr j hj) m) g)
 |succ k ih=>
  intro i s kb hk hi st hS g tk hR;have RU:i<n:=by lia
  have U5:∀p∈kb,p.2 ∉ wr:=λp hp=>by obtain⟨j,hj,rfl⟩:=g.src p hp;exact hwr j (by lia)
  refine JR PyProof.Rows.F.entry_set_update_loop ?_;rw[JM PyProof.Rows.F.plain_set_update_loop _];show GQ _ A.in1 (LR (.ref I) >>=_) _ _ s;refine Gk (W.item i s _ _ RU st λv s1 pv st1 m=>?_)
  obtain rfl:=hP i v pv;have hS1:=hS.moved hSw U5 m;have tk1:∀j,j<n->TK prog w s1.heap (kx j).1 (kx j).2:=λj hj=>(tk j hj).moved (hwr j hj) m
  show GQ _ A.in1 (Ln [GR (kx i).2] (setAdd S (.ref (kx i).2)) >>=_) _ _ s1;refine Gk (Hs ?_);unfold setAdd;refine Hs (Gk (wpAny_pyHash_tuple hu (tk1 i RU) ?_));refine sW (s:={s1 with toks:=s1.toks+((kx i).1.length+1) }) hu hS1 (tk1 i RU) (by have:=g.len;lia) λb h' Tn sb hS2 hkk=>?_
  obtain⟨⟨o,es,ep,t,ho,hex,hd,hrest⟩,hks,Tf⟩:=hS1;have same:∀b o,b ∉ S::wr->s1.heap.get? b=some o->h'.get? b=some o:=λb o hb e=>by rw[sb.2 b (λz=>hb (by rw[z];exact Gy))];exact e
  refine Gw ⟨Kp PyProof.Rows.F.plain_set_update_loop _,ih (i+1) _ Tn (by lia) RU (W.frame _ s1 _ _ st1 (by show s1.toks<=s1.toks+_;lia) λb hb o e=>?_) hS2 ?_ (λj hj=>(tk1 j hj).keep ho hd sb) λs2 kb2 m2 hS3 g2=>?_⟩
  ·rw[sb.2 b (λz=>Uh (by rw[<-z];exact hb))];exact e
  ·by_cases Ur:(kx i).1∈kb.map (·.1)
   ·rw[if_pos Ur]at hkk;subst hkk;refine⟨λp hp=>?_,λj hj=>?_,by have:=g.len;lia⟩
    ·obtain⟨j,hj,e⟩:=g.src p hp;exact⟨j,by lia,e⟩
    ·rcases G4 (IL hj) with z |z
     ·exact g.all j z
     ·rw[z];exact Ur
   ·rw[if_neg Ur]at hkk;refine⟨λp hp=>?_,λj hj=>?_,by rw[hkk.length_eq];have:=g.len;simp;lia⟩
    ·rcases HU.mp (hkk.mem_iff.mp hp) with z |z
     ·obtain⟨j,hj,e⟩:=g.src p z;exact⟨j,by lia,e⟩
     ·exact⟨i,Iz i,by rw[G9.mp z]⟩
    ·rw[(hkk.map (·.1)).mem_iff,Iu];rcases G4 (IL hj) with z |z
     ·exact HX _ (g.all j z)
     ·rw[z];exact GM _ (by simp)
  ·exact hR s2 kb2 (Moved.trans W.gtrans ((m.mono more).then_heap (by show s1.toks<=s1.toks+_;lia) same) m2) hS3 g2
end
section
variable {w:G5}{A:Ha}{s:Gs}
abbrev b_(w:G5):Obj:={cls:=.type "set",dict:=none,data:=.set #[] 0 (.fresh 0 0 (!w.params.followText "set-order")) }
theorem xZ:TOk (.fresh 0 0 (!w.params.followText "set-order")) [] where
 R:=by intro i j x y _ h;simp[SetTable.fresh]at h
 d:=rfl
 k:=⟨3,by decide,rfl⟩
 n:=rfl
 f:=by show 0<=7;decide
 le:=by intro i x h;simp[SetTable.fresh]at h
 reach:=by intro i x h hi;simp[SetTable.fresh]at hi
theorem xQ{h:H_}{S:GE}(e:h.get? S=some (b_ w)):SP prog w h S []:=by
 refine⟨⟨_,_,_,_,e,⟨rfl,rfl,rfl⟩,rfl,rfl,xZ,rfl,rfl,by simp[SetTable.tooFull,SetTable.fresh,SetTable.fill],by show 7<8;decide⟩,λp hp=>by simp at hp,by simp⟩
theorem AB(a:Gr){Q:Gr->Gs->Prop}(h:Q (.ref s.heap.objs.size) {s with heap:=s.heap.push (b_ w) }):
  J7 (G1 prog w) A (.call (.builtin "set.__new__") ⟨[.type "set",a],[]⟩) (wants Q E) s:=by
 refine Py ?_;show GQ _ A.in1 (do M4 "set.__new__" ⟨[.type "set",a],[]⟩;again (.builtin "set.__new__" ⟨[.type "set",a],[]⟩)) _ _ s
 refine Gk (wpAny_of_eq (PySem.F.newCall_set_1 a) (Gw ⟨Kp Nu _,JR PySem.F.entry_set_new ?_⟩));rw[JM Nu _];unfold Builtin.«set.__new__» Builtin.Frozenset.newClass;have hsub:=sub_set_self;obtain⟨hp,g,d,tk,os⟩:=s;dsimp only
 wp_walk
 refine KJ (Gw ?_);dsimp only;simp only[newObj];exact Gk (wpAny_alloc (Gw (Gw h)))
set_option maxRecDepth 100000 in
theorem call_set_pts{l:GE}{items:Array Gr}{Q:Gr->Gs->Prop}(kx:Nat->List Int×GE)(hh:A.handled=none)(hu:A.in1.in1.in1.units<Ku)(hl:s.heap.IsList l items)
  (S7:∀(i:Nat) (v:Gr),items[i]?=some v->v=.ref (kx i).2) (Tq:∀i,i<items.size->TK prog w s.heap (kx i).1 (kx i).2) (hn:items.size<=1000)
  (h:∀(h':H_) (tk:Nat) (kb:List (List Int×GE)),SP prog w h' s.heap.objs.size kb->Got kx items.size kb->(∀b o,s.heap.get? b=some o->h'.get? b=some o)->Q (.ref s.heap.objs.size) {s with heap:=h',toks:=tk }):
  GQ (G1 prog w) A (call (.type "set") [.ref l]) Q E s:=by
 obtain⟨cc,tl,hmro⟩:=IS.mro;have hmade:=IS.made;have hsub:=IS.sub;refine LY (Py ?_);show GQ _ _ (callAny (.type "set") _) _ _ _;refine Gw ⟨Code.quiet_builtin _ (by decide+kernel),JR PySem.F.entry_type_call ?_⟩
 rw[Around.under_plain (weight_type_call_type "set" [.ref l] []) rfl];have g1:=IS.notType;have g2:=IS.canCreate;have g3:=PySem.F.typeCall_set_1 (.ref l)
 repeat (any_goals (first |assumption |wp_step))
 refine JV (AB (w:=w) (.ref l) (E:=E) (Q:=λobj RJ=>obj=.ref s.heap.objs.size/\RJ={s with heap:=s.heap.push (b_ w) }) ⟨rfl,rfl⟩) λr RJ hr=>?_
 cases r with
 |error e=>exact hr
 |ok fl=>
  cases fl with
  |ret obj=>
   obtain⟨rfl,rfl⟩:=hr;have hS:(s.heap.push (b_ w)).get? s.heap.objs.size=some (b_ w):=GH _ rfl;have hT:Shared.TypeIs {s with heap:=s.heap.push (b_ w) } (.ref s.heap.objs.size) "set":=⟨_,hS,rfl⟩
   have hli:=IS.init.lookup;have hbi:=IS.init.bind (.ref s.heap.objs.size)
   repeat (any_goals (first |assumption |wp_step))
   refine JV (LV (R:=wants (λr S4=>r=.none/\∃h' tk kb,S4={s with heap:=h',toks:=tk }/\
     SP prog w h' s.heap.objs.size kb/\Got kx items.size kb/\(∀b o,s.heap.get? b=some o->h'.get? b=some o)) E) IS.init.plain PySem.F.entry_set_init (check_set_init_1 hT ?_)) λr₂ S4 US=>?_
   ·obtain⟨ol,hol,hcl,nl,hdl⟩:=hl;obtain⟨ocls,odict,odata,oslots⟩:=ol;simp only at hcl hdl;subst hcl;subst hdl;have hol':(s.heap.push (b_ w)).get? l=some {cls:=.type "list",dict:=odict,data:=.seq items nl,slots:=oslots }:=Gu _ hol;have k1:=PySem.F.sub_list_set;have k2:=PySem.F.sub_list_frozenset;have k3:(HP "list"==HP "dict")=false:=by decide
    have SJ:(s.heap.push (b_ w)).IsList l items:=⟨_,hol',rfl,nl,rfl⟩;unfold Builtin.«set.__init__» noKeywords Builtin.Frozenset.updateFrom;generalize hPI:OU=PI
    wp_walk
    subst hPI;refine I_ SJ (Gk (wpAny_runValue ?_));have hlS:l<s.heap.objs.size:=GD hol;have h3:A.in1.in1.in1.handled=none:=by simp[hh]
    have szI:(s.heap.push (b_ w)).objs.size=s.heap.objs.size+1:=Iq ..;have hneI:l≠(s.heap.push (b_ w)).objs.size:=by rw[szI];exact GS (IK hlS)
    have Uh:s.heap.objs.size ∉ [(s.heap.push (b_ w)).objs.size,l]:=by
     rw[szI];intro z;rcases Gx.mp z with z |z
     ·exact absurd z (GS (Iz _))
     ·exact absurd (G9.mp z) (Kf hlS)
    refine xg ((Walks.list h3 _ l hneI items).toS) hu Uh kx S7 (λi hi=>?_) hn (items.size-0) 0 _ [] (by lia) (Hf _)
     ⟨⟨_,GH _ rfl,rfl,rfl⟩,(SJ.push _)⟩ ?_ ⟨λp hp=>by simp at hp,λj hj=>by lia,by simp⟩ (λj hj=>?_) λs' kb m hS' g=>?_
    ·intro z;have z':=G9.mp z;obtain⟨o,_,_,ho,_⟩:=Tq i hi;have:=GD ho;rw[z',szI]at this;exact Hc _ (Jm (Iz _) this)
    ·exact xQ (Gu _ hS)
    ·obtain⟨o,RB,k,ho,r⟩:=Tq j hj;exact⟨o,RB,k,Gu _ (Gu _ ho),r⟩
    ·obtain⟨h',g',d',tk',os'⟩:=s';obtain rfl:g'=s.gens:=m.gens;obtain rfl:d'=s.drawn:=m.drawn;obtain rfl:os'=s.os:=m.os;refine Gw ?_;show GQ _ _ (ret GU) _ _ _;refine Gw ⟨rfl,h',tk',kb,rfl,hS',g,λb o e=>?_⟩
     have hb:=GD e;refine m.heap b o (λz=>?_) (Gu _ (Gu _ e))
     rcases Gx.mp z with z |z
     ·exact absurd z (GS hb)
     ·have z':=G9.mp z;rw[z',szI]at hb;exact Hc _ (Jm (Iz _) hb)
   ·cases r₂ with
    |error e=>exact US
    |ok fl₂=>
     cases fl₂ with
     |ret r=>
      obtain⟨rfl,h',tk,kb,rfl,hS',g,Vr⟩:=US
      repeat (any_goals (first |assumption |wp_step))
      exact h _ _ kb hS' g Vr
     |_=>exact US.elim
  |_=>exact hr.elim
end
theorem dG:Slot "set_iterator" "__next__" "set_iterator.__next__":=
 .of (owner:="set_iterator") (n:="__next__") (by rw[Kj,Jh];kernel_rfl) (by decide+kernel) (by decide+kernel) (by decide+kernel) (by first |exact .inl (by decide+kernel) |exact .inr (by decide+kernel)) (by rw[LB];kernel_rfl)
theorem lU:entryFor table "set_iterator.__next__"=some Builtin.«set_iterator.__next__»:=entryFor_of_tree (by kernel_rfl)
theorem mO(a:Gr):argsOk "set_iterator.__next__" ⟨[a],[]⟩:=by unfold argsOk;kernel_rfl
theorem sF:entryFor table "set.__iter__"=some Builtin.«frozenset.__iter__»:=Qf (id':="frozenset.__iter__") (by kernel_rfl) rfl (by decide+kernel) (by kernel_rfl)
theorem rJ{α:Type}{l:List α}{i:Nat}(h:i<l.length):(l[i]::l.eraseIdx i).Perm l:=by
 rw[List.eraseIdx_eq_take_drop_succ];refine O8.symm.trans ?_;rw[<-JK h,Nt]
theorem uC{α:Type}(next:Nat->Nat):∀(RV k:Nat) (left:List α) (out:Array α),left.length=RV->(pickOrder.go next RV k left out).toList.Perm (out.toList++left)
 |0,k,left,out,h=>by
  obtain rfl:left=[]:=Ih.mp h;rw[pickOrder.go,HE]
 |RV+1,k,left,out,h=>by
  have hi:next k%left.length<left.length:=Ja _ (by lia)
  rw[pickOrder.go,Gm hi];refine (uC next RV (k+1) _ _ (by rw[List.length_eraseIdx_of_lt hi];lia)).trans ?_
  rw[Array.toList_push,MH];refine List.Perm.append_left _ ?_;rw[List.singleton_append];exact rJ hi
theorem yC{α:Type}(next:Nat->Nat)(xs:Array α):(Oj next xs).toList.Perm xs.toList:=by
 unfold Oj;have:=uC next xs.size 0 xs.toList #[] (by simp)
 simpa using this
section
variable {w:G5}{A:Ha}{s:Gs}
def cq(w:G5)(S:GE)(es:Array (Int×Gr))(ep:Nat):List Gr:=(if w.params.followText "set-order"=true then Oj (w.params.setOrder S ep) es else es).toList.map (·.2)
theorem eW(w:G5)(S:GE)(es:Array (Int×Gr))(ep:Nat):(cq w S es ep).Perm (es.toList.map (·.2)):=by
 unfold cq;refine List.Perm.map _ ?_;split
 ·exact yC _ es
 ·exact Qg _
def fV(t:SetTable):Nat->Nat
 |0=>0
 |j+1=>t.place.getD j 0+1
def a9(w:G5)(t:SetTable)(i:Nat):Nat:=if w.params.followText "set-order"=true then 0 else fV t i
def qU(w:G5)(h:H_)(it S:GE)(t:SetTable)(i n ep:Nat):Prop:=∃o,h.get? it=some o∧o.cls=.type "set_iterator"∧o.data=.fields #[Ld (a9 w t i),Ld i,.ref S,Ld n,Ld ep]
theorem qU.ty{it S:GE}{t:SetTable}{i n ep:Nat}(x:qU w s.heap it S t i n ep):s.TypeIs (.ref it) "set_iterator":=let ⟨o,ho,hc,_⟩:=x;⟨o,ho,hc⟩
structure SO(prog:GF)(w:G5)(o:Obj)(es:Array (Int×Gr))(ep:Nat)(t:SetTable)(hs:List Int):Prop where
 ex:o.ExactSet
 d:o.data=.set es ep t
 T:TOk t hs
 n:hs.length=es.size
 led:t.led=(!w.params.followText "set-order")
 plain:t.plain=true
theorem Am{S:GE}{o:Obj}{es ep t hs}{Q:Bool->Gs->Prop}(O:SO prog w o es ep t hs)(ho:s.heap.get? S=some o)(h:Q false s):GQ (G1 prog w) A (setDrawn S) Q E s:=by
 unfold setDrawn QH;refine Gk (Jb ho O.d (O.T.fits O.n) (Gk (Gk (KJ (Gw (Gw ?_))))));have q:Q (!w.params.followText "set-order" && (!t.plain && decide (es.size >1))) s:=by rw[O.plain];simpa using h
 exact q
theorem Af{S:GE}{o:Obj}{es ep t hs}{Q:Gr->Gs->Prop}(O:SO prog w o es ep t hs)(ho:s.heap.get? S=some o)
  (hQ:Q (.ref s.heap.objs.size) {s with heap:=s.heap.push {cls:=.type "set_iterator",data:=.fields #[Ld 0,Ld 0,.ref S,Ld es.size,Ld ep] } }):GQ (G1 prog w) A (OU (.ref S)) Q E s:=by
 have hT:s.TypeIs (.ref S) "set":=⟨o,ho,O.ex.1⟩;refine MN hT Nv (IB Nv hT sF ?_ (PySem.F.args_set_iter_1 _));unfold Builtin.«frozenset.__iter__»;show GQ _ _ (Builtin.Frozenset.sizeOf S >>=_) _ _ s;unfold Builtin.Frozenset.sizeOf;refine Gk (Gk (Ma ho O.d (O.T.fits O.n) (Gw ?_)));refine Gk (Am O ho ?_);simp only[GO,if_false];refine Gk (Gw ?_);refine Gk (wpAny_setEpoch_of ho O.d (O.T.fits O.n) ?_);refine Gk (JQ (Gw ⟨_,rfl,"set_iterator",_,⟨_,GH _ rfl,rfl⟩,dG.lookup,?_⟩));exact hQ
theorem qT{t:SetTable}{hs:List Int}(T:TOk t hs){i:Nat}(hi:i<=t.place.size):below t.place (fV t i)=i:=by
 obtain⟨h1,h2,h3⟩:=fG T.R (fV t i);cases i with
 |zero=>
  dsimp only[fV]at *;rcases Mo (below t.place 0) with z |z
  ·exact z
  ·have:=h1 0 _ z (eo (by lia));lia
 |succ j=>
  dsimp only[fV]at *;have hj:j<t.place.size:=by lia
  have ej:t.place.getD j 0=t.place[j]:=by simp[Jr,hj]
  rw[ej]at h1 h2 h3 |-;generalize hb:below t.place (t.place[j]+1)=b at *;rcases Jq b (j+1) with z |z |z
  ·have:=h2 j t.place[j] (by lia) (eo hj);lia
  ·exact z
  ·have q:=h1 (j+1) _ z (eo (by lia))
   have:=T.R j (j+1) _ _ (by lia) (eo hj) (eo (show j+1<t.place.size by lia))
   lia
theorem lQ{S:GE}{o:Obj}{es ep t hs}{i:Nat}{Q:Option (Gr×Nat)->Gs->Prop}(O:SO prog w o es ep t hs)(ho:s.heap.get? S=some o)(hi:i<=es.size)
  (h:Q (((cq w S es ep)[i]?).map λv=>(v,a9 w t (i+1))) s):GQ (G1 prog w) A (setNext S (a9 w t i) i ep) Q E s:=by
 have SI:=O.T.fits O.n;have R3:t.place.size=es.size:=by rw[O.T.n,O.n]
 unfold setNext QH;refine Gk (Jb ho O.d SI (Gk (Gk (KJ (Gw ?_)))));by_cases bt:w.params.followText "set-order"=true
 ·dsimp only;rw[show (G1 prog w).w.params.followText "set-order"=true from bt,if_pos rfl,if_neg (by simp)]
  unfold setWalk QH;refine Gk (Gk (Jb ho O.d SI (Gk (Gk (KJ (Gw ?_))))));dsimp only;rw[show (G1 prog w).w.params.followText "set-order"=true from bt,if_pos rfl]
  refine Gk (KJ (Gw (Gw ?_)))
  have e:OM (λ(e:Int×Gr)=>(e.2,a9 w t i)) (Oj (w.params.setOrder S ep) es)[i]?=((cq w S es ep)[i]?).map λv=>(v,a9 w t (i+1)):=by
   unfold cq a9;rw[if_pos bt,if_pos bt,if_pos bt,Gz,Hy,Option.map_map];rfl
  have q:Q (OM (λ(e:Int×Gr)=>(e.2,a9 w t i)) (Oj (w.params.setOrder S ep) es)[i]?) s:=by rw[e];exact h
  exact q
 ·have bf:w.params.followText "set-order"=false:=by simpa using bt
  dsimp only;rw[show (G1 prog w).w.params.followText "set-order"=false from bf,if_neg (by simp)]
  have e1:a9 w t i=fV t i:=by unfold a9;rw[if_neg bt]
  have e2:below t.place (a9 w t i)=i:=by rw[e1];exact qT O.T (by lia)
  have e3:(match es[below t.place (a9 w t i)]?,t.place[below t.place (a9 w t i)]? with
    |some (_,x),some j=>some (x,j+1)
    |_,_=>none)=((cq w S es ep)[i]?).map λv=>(v,a9 w t (i+1)):=by
   rw[e2];unfold cq a9;rw[if_neg bt,if_neg bt,Gz,Hy];rcases Ki i es.size with z |z
   ·have z':i<t.place.size:=by lia
    simp[z,z',Jr,fV]
   ·have z':t.place.size<=i:=by lia
    simp[z,z']
  split
  ·rename_i hc
   exact absurd (show (!t.plain && decide (es.size >1))=true from hc) (by rw[O.plain];simp)
  ·refine Gk ?_;show GQ _ _ (if (!t.led && !es.isEmpty)=true then unsupported "set:maker-not-led" else pure ()) _ _ _
   rw[O.led,bf,if_neg (by simp)]
   refine Gw (Gw ?_)
   have q:Q (match es[below t.place (a9 w t i)]?,t.place[below t.place (a9 w t i)]? with
    |some (_,x),some j=>some (x,j+1)
    |_,_=>none) s:=by rw[e3];exact h
   exact q
theorem wO{S it:GE}{o:Obj}{es ep t hs}{i:Nat}{v:Gr}{Q:Option Gr->Gs->Prop}(O:SO prog w o es ep t hs)(ho:s.heap.get? S=some o)(S7:qU w s.heap it S t i es.size ep)(hv:(cq w S es ep)[i]?=some v)
  (hQ:∀h',qU w h' it S t (i+1) es.size ep->JF it s.heap h'->Q (some v) {s with heap:=h' }):GQ (G1 prog w) A (LR (.ref it)) Q E s:=by
 obtain⟨oi,hoi,hc,hd⟩:=id S7;have SI:=O.T.fits O.n;unfold LR;refine Gk (Kn (Jl (name:=Str.ofString "__next__") S7.ty dG (IB dG S7.ty lU ?_ (mO _))));unfold Builtin.«set_iterator.__next__»;refine Gk (m:=slotArgs "__next__" 0 _) (Gw ?_);dsimp only;refine Gk (Qh hoi hd ?_);dsimp only[Ld];refine Gk (Ma ho O.d SI ?_);rw[if_neg (by simp)]
 have RU:i<es.size:=by
  have q:=(GB.mp hv).1;rw[(eW w S es ep).length_eq,Gp,GY]at q;exact q
 rw[show ((a9 w t i:Nat):Int).toNat=a9 w t i from Ii _,show ((i:Nat):Int).toNat=i from Ii _,show ((ep:Nat):Int).toNat=ep from Ii _]
 refine Gk (lQ O ho (GT RU) ?_);rw[hv];dsimp only[OM];refine Gk (LC hoi hd (by simp) ?_)
 have g1:=Hz (Ol (·.setIfInBounds 0 (He ((a9 w t (i+1):Nat):Int) 0))) hoi (LH (IT hd _));refine Gk (LC g1 (IT hd _) (by simp) ?_)
 refine Gw ⟨_,rfl,Gw (hQ _ ?_ ((JY ..).trans (JY ..)))⟩;refine⟨_,Hz _ g1 (LH (IT (IT hd _) _)),(ON ..).trans ((ON ..).trans hc),?_⟩;rw[IT (IT hd _)];simp[Ld]
theorem yN{S it:GE}{o:Obj}{es ep t hs}{Q:Option Gr->Gs->Prop}(hh:A.handled=none)(O:SO prog w o es ep t hs)(ho:s.heap.get? S=some o)(S7:qU w s.heap it S t es.size es.size ep)
  (hQ:∀h',Rk it s.heap h'->Q none {s with heap:=h' }):GQ (G1 prog w) A (LR (.ref it)) Q E s:=by
 obtain⟨oi,hoi,hc,hd⟩:=id S7;have SI:=O.T.fits O.n;unfold LR;refine Gk (Kn (Jl (name:=Str.ofString "__next__") S7.ty dG (IB dG S7.ty lU ?_ (mO _))));unfold Builtin.«set_iterator.__next__»;refine Gk (m:=slotArgs "__next__" 0 _) (Gw ?_);dsimp only;refine Gk (Qh hoi hd ?_);dsimp only[Ld];refine Gk (Ma ho O.d SI ?_);rw[if_neg (by simp)]
 rw[show ((a9 w t es.size:Nat):Int).toNat=a9 w t es.size from Ii _,show ((es.size:Nat):Int).toNat=es.size from Ii _,show ((ep:Nat):Int).toNat=ep from Ii _]
 refine Gk (lQ O ho (GA _) ?_);rw[show (cq w S es ep)[es.size]?=none from Hr (by rw[(eW w S es ep).length_eq,Gp,GY];exact GA _)]
 dsimp only[OM];refine Gk (LC hoi hd (by simp) ?_)
 refine Gk ?_;simp only[newExc,newTuple];refine Gk (JQ ?_ (by size_fits))
 refine Gk (m:=Qi _ _) (wpAny_of_eq (a:=GU) (by first |rfl | (simp only[Qi];rfl)) ?_)
 refine JQ ?_ (by size_fits)
 simp only[raiseNew];refine Gk (wpAny_handled ?_);rw[show A.in1.handled=none from hh]
 refine Gk (Gw (Pz ?_));refine Gk (J4 (T:="StopIteration") (b:=true) ⟨_,GH _ rfl,rfl⟩ NZ ?_);exact Gw (hQ _ (((JY ..).extBut.push _).push _))
end
end ST
namespace ST
open PySem PySem.SetTable PySem.W
theorem mM:Slot "set_iterator" "__iter__" "set_iterator.__iter__":=
 .of (owner:="set_iterator") (n:="__iter__") (by rw[Kj,Jh];kernel_rfl) (by decide+kernel) (by decide+kernel) (by decide+kernel) (by first |exact .inl (by decide+kernel) |exact .inr (by decide+kernel)) (by rw[LB];kernel_rfl)
theorem qW:entryFor table "set_iterator.__iter__"=some Builtin.«dict_keyiterator.__iter__»:=Qf (id':="dict_keyiterator.__iter__") (by kernel_rfl) rfl (by decide+kernel) (by kernel_rfl)
theorem vD(a:Gr):argsOk "set_iterator.__iter__" ⟨[a],[]⟩:=by unfold argsOk;kernel_rfl
section
variable {prog:GF}{w:G5}{A:Ha}{E:Gr→Gs→Prop}{s:Gs}
theorem A5{it S:GE}{t:SetTable}{i n ep:Nat}{Q:Gr->Gs->Prop}(S7:qU w s.heap it S t i n ep)(h:Q (.ref it) s):GQ (G1 prog w) A (OU (.ref it)) Q E s:=by
 refine MN S7.ty mM (IB mM S7.ty qW ?_ (vD _));exact Gw ⟨_,rfl,"set_iterator",_,S7.ty,dG.lookup,h⟩
theorem wV(hh:A.handled=none){it S:GE}(RL:S≠it){o:Obj}{es ep t hs}(O:SO prog w o es ep t hs):
  Walks prog w A it [it,S] [it] es.size (λi v=>(cq w S es ep)[i]?=some v) (λi h=>qU w h it S t i es.size ep/\h.get? S=some o) where
 sub:=λb hb=>by simp at hb;simp[hb]
 frame:=λ_ _ _ st hk=>⟨let ⟨x,hx,r⟩:=st.1;⟨x,hk it (by simp) x hx,r⟩,hk S (by simp) o st.2⟩
 item:=λi s Q E hi st hQ=>by
  obtain⟨v,hv⟩:∃v,(cq w S es ep)[i]?=some v:=⟨_,Gm (by rw[(eW w S es ep).length_eq,Gp,GY];exact hi)⟩
  refine wO O st.2 st.1 hv λh' hit' sb=>?_
  exact hQ v h' s.toks hv ⟨hit',(sb.2 S RL).trans st.2⟩ λb x hb e=>sb.extBut b x (λz=>hb (by simp[z])) e
 done:=λs Q E st hQ=>yN hh O st.2 st.1 λh' xb=>hQ h' s.toks λb x hb e=>xb b x (λz=>hb (by simp[z])) e
 self:=λ_ _ _ _ st hQ=>A5 st.1 hQ
theorem xT{r:GE}{Q:Bool→Gs→Prop}(hT:s.TypeIs (.ref r) "set")(h:Q false s):GQ (G1 prog w) A (Builtin.List.listLengthHint (.ref r)) Q E s:=by
 unfold Builtin.List.listLengthHint;refine Gk (Jw hT PySem.F.slot_set_len.lookup ?_);generalize hid:("set.__len__":String)=id0
 wp_delta
 rw[show splitId id0=some ("set","__len__") from by subst hid;decide+kernel]
 subst hid;refine Gk (J4 (T:="set") (b:=true) hT (by rw[LB];kernel_rfl) ?_)
 refine JS (λz=>absurd z (by decide)) (λ_=>?_)
 refine JS (λ_=>?_) (λz=>absurd (by decide+kernel) z)
 exact Gk (Nq hT (Gw h))
theorem AG{S:GE}{o:Obj}{es ep t hs}(O:SO prog w o es ep t hs):KdlSrc prog w "set" S S es.size (λi v=>(cq w S es ep)[i]?=some v) (λh=>h.get? S=some o) where
 type:=λ_ hm=>⟨o,hm,O.ex.1⟩
 there:=λ_ hm=>⟨GD hm,GD hm⟩
 keep:=λ_ _ hm hk=>hk S (.inl rfl) o hm
 notList:=by decide
 notTuple:=by decide
 hint:=λ_ _ _ _ hm hq=>xT ⟨o,hm,O.ex.1⟩ hq
 iter:=λ_ s hh hm=>⟨_,_,(λ_ _ hq=>Af O hm hq),wV hh (GS (GD hm)) O,⟨⟨_,GH _ rfl,rfl,by simp[a9,fV]⟩,Gu _ hm⟩⟩
end
end ST
namespace ST
open PySem PySem.W PyProof.Rows
inductive Runs (lt:Nat->Nat->Bool) (n:Nat) {α:Type}:KasT α->α->Prop
 |ret (a:α):Runs lt n (.ret a) a
 |ask {i j:Nat}{k:Bool->KasT α}{a:α}:i<n->j<n->Runs lt n (k (lt i j)) a->Runs lt n (.ask i j k) a
variable {lt:Nat→Nat→Bool}{n:Nat}
theorem Runs.bind{α β:Type}{t:KasT α}{a:α}{f:α->KasT β}{b:β}(h:Runs lt n t a)(h':Runs lt n (f a) b):Runs lt n (t.bind f) b:=by
 induction h with
 |ret a=>exact h'
 |ask hi hj _ ih=>exact Runs.ask hi hj (ih h')
theorem Runs.wp{α:Type}{t:KasT α}{a:α}(h:Runs lt n t a){cmp:Nat->Nat->(Bool->Gs->Prop)->Gs->Prop}{s:Gs}(hc:∀i j C,i<n->j<n->C (lt i j) s->cmp i j C s){Q:α->Gs->Prop}(q:Q a s):t.kasWp cmp Q s:=by
 induction h with
 |ret a=>exact q
 |ask hi hj _ ih=>exact hc _ _ _ hi hj (ih q)
structure LtO(n:Nat)(lt:Nat->Nat->Bool):Prop where
 tr:∀i j k,lt i j=true->lt j k=true->lt i k=true
 tot:∀i j,i<n->j<n->i≠j->lt i j=false->lt j i=true
 asy:∀i j,lt i j=true->lt j i=false
abbrev g(p:Array Nat)(k:Nat):Nat:=p.getD k 0
theorem Bf{p q:Array Nat}{k l:Nat}(h:p[k]?=q[l]?):g p k=g q l:=by
 unfold g;rw[Ic,Ic,h]
structure PP(n:Nat)(p:Array Nat):Prop where
 perm:p.toList.Perm (HJ n)
theorem PP.size{p:Array Nat}(h:PP n p):p.size=n:=by rw[<-GY,h.perm.length_eq,OK]
theorem PP.mem{p:Array Nat}(h:PP n p){k:Nat}(hk:k<n):g p k<n:=by
 have Vr:k<p.size:=by rw[h.size];exact hk
 have e:g p k=p[k]:=by simp[g,Jr,Vr]
 rw[e];exact G8.mp (h.perm.mem_iff.mp (by simp))
theorem PP.inj{p:Array Nat}(h:PP n p){k l:Nat}(hk:k<n)(hl:l<n)(e:g p k=g p l):k=l:=by
 have Vr:k<p.toList.length:=by rw[GY,h.size];exact hk
 have RZ:l<p.toList.length:=by rw[GY,h.size];exact hl
 have nd:p.toList.Nodup:=h.perm.nodup_iff.mpr O7;have e1:g p k=p.toList[k]:=by simp[g,Jr,h.size,hk]
 have e2:g p l=p.toList[l]:=by simp[g,Jr,h.size,hl]
 exact (MZ nd).mp (by rw[<-e1,<-e2,e])
theorem PP.of{p q:Array Nat}(h:PP n p)(hq:q.Perm p):PP n q:=⟨(Array.perm_iff_toList_perm.mp hq).trans h.perm⟩
def Srt(lt:Nat->Nat->Bool)(p:Array Nat)(m:Nat):Prop:=∀i j,i<j->j<m->lt (g p i) (g p j)=true
def Dsc(lt:Nat->Nat->Bool)(p:Array Nat)(m:Nat):Prop:=∀i j,i<j->j<m->lt (g p j) (g p i)=true
theorem Srt.one(p:Array Nat):Srt lt p 1:=λi j h1 h2=>by lia
theorem Srt.more(O:LtO n lt){p:Array Nat}{m:Nat}(S:Srt lt p m)(h1:1<=m)(h:lt (g p (m-1)) (g p m)=true):Srt lt p (m+1):=λi j Ue hj=>by
 rcases G4 (IL hj) with z |z
 ·exact S i j Ue z
 ·subst z;rcases G4 (show i<=j-1 by lia) with y |y
  ·exact O.tr _ _ _ (S i (j-1) y (by lia)) h
  ·subst y;exact h
theorem Dsc.more(O:LtO n lt){p:Array Nat}{m:Nat}(S:Dsc lt p m)(h1:1<=m)(h:lt (g p m) (g p (m-1))=true):Dsc lt p (m+1):=λi j Ue hj=>by
 rcases G4 (IL hj) with z |z
 ·exact S i j Ue z
 ·subst z;rcases G4 (show i<=j-1 by lia) with y |y
  ·exact O.tr _ _ _ h (S i (j-1) y (by lia))
  ·subst y;exact h
theorem oh(O:LtO n lt){p:Array Nat}(P:PP n p):∀(f m:Nat),1<=m->m+f=n->Srt lt p m->∃m',Runs lt n (kas_asc p f m) m'/\m<=m'/\m'<=n/\Srt lt p m'/\(m'<n->lt (g p m') (g p (m'-1))=true)
 |0,m,h1,hf,S=>⟨m,.ret m,GA _,by lia,S,λh=>by lia⟩
 |f+1,m,h1,hf,S=>by
  by_cases hc:lt (g p m) (g p (m-1))=true
  ·refine⟨m,.ask (P.mem (by lia)) (P.mem (by lia)) ?_,GA _,by lia,S,λ_=>hc⟩
   rw[if_pos hc];exact .ret m
  ·have TN:lt (g p m) (g p (m-1))=false:=by simpa using hc
   have ht:=O.tot _ _ (P.mem (show m<n by lia)) (P.mem (show m-1<n by lia)) (λe=>by have:=P.inj (by lia) (by lia) e;lia) TN
   obtain⟨m',r,a1,a2,a3,a4⟩:=oh O P f (m+1) (by lia) (by lia) (S.more O h1 ht)
   refine⟨m',.ask (P.mem (by lia)) (P.mem (by lia)) ?_,by lia,a2,a3,a4⟩
   rw[if_neg hc];exact r
theorem pW(O:LtO n lt){p:Array Nat}(P:PP n p):∀(f m:Nat),1<=m->m+f=n->Dsc lt p m->∃m',Runs lt n (kas_desc f p m 0) (p,m',0)/\m<=m'/\m'<=n/\Dsc lt p m'
 |0,m,h1,hf,S=>⟨m,.ret _,GA _,by lia,S⟩
 |f+1,m,h1,hf,S=>by
  by_cases hc:lt (g p m) (g p (m-1))=true
  ·obtain⟨m',r,a1,a2,a3⟩:=pW O P f (m+1) (by lia) (by lia) (S.more O h1 hc)
   refine⟨m',.ask (P.mem (by lia)) (P.mem (by lia)) ?_,by lia,a2,a3⟩
   rw[if_pos hc,if_neg (by lia)];exact r
  ·have TN:lt (g p m) (g p (m-1))=false:=by simpa using hc
   have ht:=O.tot _ _ (P.mem (show m<n by lia)) (P.mem (show m-1<n by lia)) (λe=>by have:=P.inj (by lia) (by lia) e;lia) TN
   refine⟨m,.ask (P.mem (by lia)) (P.mem (by lia)) ?_,GA _,by lia,S⟩
   rw[if_neg hc];refine .ask (P.mem (by lia)) (P.mem (by lia)) ?_
   rw[if_pos ht];exact .ret _
theorem Ad{p:Array Nat}(P:PP n p){m k:Nat}(hm:m<=n)(hk:k<m):g (kas_rev p 0 m) k=g p (m-1-k):=by
 refine Bf ?_;unfold kas_rev;rw[getElem?_mirror (by rw[P.size];exact hm) _ (by lia)]
 split
 ·congr 1;lia
 ·congr 1;lia
theorem y3{p:Array Nat}(P:PP n p)(i j:Nat):PP n (kas_rev p i j):=P.of (mirror_perm _ _ _ _)
theorem BV{p:Array Nat}(P:PP n p){m:Nat}(hm:m<=n)(D:Dsc lt p m):Srt lt (kas_rev p 0 m) m:=λi j Ue hj=>by
 rw[Ad P hm (by lia),Ad P hm hj]
 exact D _ _ (by lia) (by lia)
theorem wo(O:LtO n lt){p:Array Nat}(P:PP n p)(h2:2<=n):∃m p',Runs lt n (kas_count n p) (m,p')/\PP n p'/\1<=m/\m<=n/\Srt lt p' m:=by
 obtain⟨m,r,a1,a2,a3,a4⟩:=oh O P (n-1) 1 (GA _) (by lia) (Srt.one p)
 by_cases hm:m=n
 ·exact⟨m,p,r.bind (by rw[if_pos (by simp[hm])];exact .ret _),P,a1,a2,a3⟩
 ·have RL:¬ ((m==n)=true):=by simpa using hm
  by_cases h1:m >1
  ·refine⟨m,p,r.bind ?_,P,a1,a2,a3⟩;rw[if_neg RL,if_pos h1];refine .ask (P.mem (by lia)) (P.mem (by lia)) ?_
   rw[if_pos (a3 0 (m-1) (by lia) (by lia))]
   exact .ret _
  ·obtain rfl:m=1:=by lia
   have D2:Dsc lt p 2:=Dsc.more O (λi j x y=>by lia) (GA _) (a4 (by lia))
   obtain⟨d,rd,b1,b2,b3⟩:=pW O P (n-2) 2 (by lia) (by lia) D2
   obtain⟨e,re,c1,c2,c3,c4⟩:=oh O (y3 P 0 d) (n-d) d (by lia) (by lia) (BV P b2 b3)
   refine⟨e,kas_rev p 0 d,r.bind ?_,y3 P 0 d,by lia,c2,c3⟩
   rw[if_neg RL,if_neg h1];unfold kas_descPart;refine Runs.bind (a:=(p,d,0)) rd ?_;rw[if_neg (by simp)]
   unfold kas_tail3;exact re.bind (.ret _)
theorem ji(O:LtO n lt){p:Array Nat}(P:PP n p){k:Nat}(hk:k<n)(S:Srt lt p k):∀(f l r:Nat),l<=r->r<=k->r-l<=f->(∀i,i<l->lt (g p i) (g p k)=true)->(∀i,r<=i->i<k->lt (g p k) (g p i)=true)->
  ∃l',Runs lt n (kas_place p k f l r) l'/\l'<=k/\(∀i,i<l'->lt (g p i) (g p k)=true)/\(∀i,l'<=i->i<k->lt (g p k) (g p i)=true)
 |0,l,r,h1,h2,h3,a,b=>⟨l,.ret l,by lia,a,λi x y=>b i (by lia) y⟩
 |f+1,l,r,h1,h2,h3,a,b=>by
  unfold kas_place;by_cases hlr:l ≥ r
  ·rw[if_pos hlr];exact⟨l,.ret l,by lia,a,λi x y=>b i (by lia) y⟩
  ·rw[if_neg hlr];have hm:(l+r)/2<k:=by lia
   by_cases hc:lt (g p k) (g p ((l+r)/2))=true
   ·obtain⟨l',r',x1,x2,x3⟩:=ji O P hk S f l ((l+r)/2) (by lia) (by lia) (by lia) a λi hi hik=>by
     rcases G4 hi with z |z
     ·exact O.tr _ _ _ hc (S _ _ z hik)
     ·rw[<-z];exact hc
    refine⟨l',.ask (P.mem hk) (P.mem (by lia)) ?_,x1,x2,x3⟩
    rw[if_pos hc];exact r'
   ·have TN:lt (g p k) (g p ((l+r)/2))=false:=by simpa using hc
    have ht:=O.tot _ _ (P.mem hk) (P.mem (show (l+r)/2<n by lia)) (λe=>by have:=P.inj hk (by lia) e;lia) TN
    obtain⟨l',r',x1,x2,x3⟩:=ji O P hk S f ((l+r)/2+1) r (by lia) h2 (by lia) (λi hi=>by
     rcases G4 (IL hi) with z |z
     ·exact O.tr _ _ _ (S _ _ z hm) ht
     ·rw[z];exact ht) b
    refine⟨l',.ask (P.mem hk) (P.mem (by lia)) ?_,x1,x2,x3⟩
    rw[if_neg hc];exact r'
theorem uR(O:LtO n lt):∀(f k:Nat) (p:Array Nat),k+f=n->PP n p->Srt lt p k->∃p',Runs lt n (kas_bin f p k) p'/\PP n p'/\Srt lt p' n
 |0,k,p,hf,P,S=>⟨p,.ret p,P,by rw[<-hf];exact S⟩
 |f+1,k,p,hf,P,S=>by
  obtain⟨l,rl,x1,x2,x3⟩:=ji O P (show k<n by lia) S k 0 k (Hf _) (GA _) (by lia) (λi h=>by lia) (λi h h'=>by lia)
  have at_:∀j,g (Q2 p k (k-l)) j=if j=l then g p k else if l<j/\j<=k then g p (j-1) else g p j:=λj=>by
   have e:=getElem?_bubble (xs:=p) (src:=k) (by rw[P.size];lia) (k-l) (by lia) j
   rw[show k-(k-l)=l by lia]at e
   split
   ·rename_i z;rw[if_pos z]at e;exact Bf e
   ·rename_i z
    rw[if_neg z]at e;split
    ·rename_i y;rw[if_pos y]at e;exact Bf e
    ·rename_i y;rw[if_neg y]at e;exact Bf e
  have e1:g (Q2 p k (k-l)) l=g p k:=by rw[at_,if_pos rfl]
  have e2:∀j,l<j->j<=k->g (Q2 p k (k-l)) j=g p (j-1):=λj y z=>by rw[at_,if_neg (by lia),if_pos ⟨y,z⟩]
  have e3:∀j,j<l->g (Q2 p k (k-l)) j=g p j:=λj y=>by rw[at_,if_neg (by lia),if_neg (by lia)]
  have S':Srt lt (Q2 p k (k-l)) (k+1):=λi j Ue hj=>by
   rcases Jq j l with y |y |y
   ·rw[e3 i (by lia),e3 j y];exact S _ _ Ue (by lia)
   ·rw[y,e1,e3 i (by lia)];exact x2 i (by lia)
   ·rw[e2 j y (by lia)]
    rcases Jq i l with z |z |z
    ·rw[e3 i z];exact S _ _ (by lia) (by lia)
    ·rw[z,e1];exact x3 (j-1) (by lia) (by lia)
    ·rw[e2 i z (by lia)];exact S _ _ (by lia) (by lia)
  obtain⟨p',r',P',S''⟩:=uR O f (k+1) (Q2 p k (k-l)) (by lia) (P.of (bubble_perm _ _ _)) S'
  exact⟨p',rl.bind r',P',S''⟩
theorem yt(O:LtO n lt)(h2:2<=n):∃p,Runs lt n (kas_sort n) p/\PP n p/\Srt lt p n:=by
 obtain⟨m,p,r,P,a1,a2,S⟩:=wo O (p:=Q3 (HJ n)) ⟨by simp⟩ h2
 by_cases hm:m<n
 ·obtain⟨p',r',P',S'⟩:=uR O (n-max m 1) (max m 1) p (by lia) P (by rw[show max m 1=m by lia];exact S)
  exact⟨p',r.bind (by rw[if_pos hm];exact r'),P',S'⟩
 ·obtain rfl:m=n:=by lia
  exact⟨p,r.bind (by rw[if_neg hm];exact .ret _),P,S⟩
def ltP(a b:Int×Int):Bool:=decide (a.1<b.1\/(a.1=b.1/\a.2<b.2))
theorem zO{a b c:Int×Int}(h1:ltP a b=true)(h2:ltP b c=true):ltP a c=true:=by
 unfold ltP at *;simp at *;lia
theorem ur{a b:Int×Int}(h1:ltP a b=true):ltP b a=false:=by
 unfold ltP at *;simp at *;lia
theorem tw{a b:Int×Int}(h:a≠b)(h1:ltP a b=false):ltP b a=true:=by
 unfold ltP at *;have:¬ (a.1=b.1/\a.2=b.2):=λz=>h (Kq z.1 z.2)
 simp at *;lia
section
variable {prog:GF}{w:G5}{A:Ha}{E:Gr→Gs→Prop}{s:Gs}
theorem TK.two{h:H_}{x y:Int}{b:GE}(k:TK prog w h [x,y] b):∃o RB n t u,h.get? b=some o∧o.cls=.type "tuple"∧o.data=.seq RB n∧RB.toList=[.int x t,.int y u]:=by
 obtain⟨o,RB,n,ho,hc,hd,hi⟩:=k;cases RW:RB.toList with
 |nil=>rw[RW]at hi;cases hi
 |cons v1 r=>
  rw[RW]at hi;cases hi with
  |cons h1 hr=>
   cases hr with
   |cons h2 hr2=>
    cases hr2;obtain⟨t,rfl⟩:=Lm h1;obtain⟨u,rfl⟩:=Lm h2;exact⟨o,RB,n,t,u,ho,hc,hd,RW⟩
theorem Dm{x y:GE}{a b:Int×Int}{Q:Bool->Gs->Prop}(hx:TK prog w s.heap [a.1,a.2] x)(hy:TK prog w s.heap [b.1,b.2] y)(h:Q (ltP a b) s):GQ (G1 prog w) A (keyLt' (QO true) (.ref x) (.ref y)) Q E s:=by
 obtain⟨o,RB,n,t,u,ho,_,hd,hi⟩:=hx.two;obtain⟨o',its',n',t',u',S9,_,T6,RW⟩:=hy.two;refine kat_lt ho hd S9 T6 ?_;rw[hi,RW];refine kat_cons ((N1 prog w).eqBool (a:=a.1) (b:=b.1) (Js _ _ _ _) (Js _ _ _ _) ?_);by_cases e1:a.1=b.1
 ·rw[decide_eq_true e1];refine kat_yes (kat_cons ((N1 prog w).eqBool (a:=a.2) (b:=b.2) (Js _ _ _ _) (Js _ _ _ _) ?_));by_cases e2:a.2=b.2
  ·rw[decide_eq_true e2];refine kat_yes (kat_nil ?_);have z:ltP a b=false:=by unfold ltP;simp;lia
   rw[z]at h
   have z2:decide (RB.size<its'.size)=false:=by
    rw[<-GY,<-GY,hi,RW];simp
   rw[z2];exact h
  ·rw[decide_eq_false e2];refine kat_no (kat_one _ _ (lt_int ?_));have z:ltP a b=decide (a.2<b.2):=by unfold ltP;rw[e1];simp
   rw[z]at h;exact h
 ·rw[decide_eq_false e1];refine kat_no (oneLt_int ?_);have z:ltP a b=decide (a.1<b.1):=by unfold ltP;simp[e1]
  rw[z]at h;exact h
abbrev PB:=List ((Int×Int)×GE)
abbrev refs(pb:PB):List Gr:=pb.map λp=>GR p.2
def dfl:(Int×Int)×GE:=((0,0),0)
theorem rW(pb:PB):(HJ pb.length).map (λi=>pb.getD i dfl)=pb:=by
 apply List.ext_getElem
 ·simp
 ·intro i h1 h2;simp at h1;simp[h1]
theorem yM{pb:PB}{Q:Om->Gs->Prop}(Tq:∀p∈pb,TK prog w s.heap [p.1.1,p.1.2] p.2)(h0:0<pb.length)(h:Q (QO true) s):GQ (G1 prog w) A (keyKind' (refs pb).toArray) Q E s:=by
 obtain⟨fs,hf,hl,hi⟩:∃fs,KatTups s.heap (refs pb) fs/\fs.length=pb.length/\∀v∈fs,∃n t,v=He n t:=by
  clear h h0
  induction pb with
  |nil=>exact⟨[],.nil,rfl,λv hv=>by simp at hv⟩
  |cons p r ih=>
   obtain⟨fs,hf,hl,hi⟩:=ih λq hq=>Tq q (Gq _ hq)
   obtain⟨o,RB,n,t,u,ho,hc,hd,S7⟩:=(Tq p Gy).two;refine⟨.int p.1.1 t::fs,.cons ho hc hd (by rw[<-Hy,S7];rfl) hf,by simp[hl],λv hv=>?_⟩
   rcases Gx.mp hv with z |z
   ·exact⟨_,_,z⟩
   ·exact hi v z
 refine kat_kind (T:=.type "int") hf (by lia) (λv hv=>?_) (by decide) h
 obtain⟨n,t,rfl⟩:=hi v hv;exact Looks.of_pure rfl
theorem yK{a:GE}{pb:PB}{n:Nat}{P:PF→Gs→Prop}(ho:s.heap.get? a=some (QI "list" (refs pb).toArray n))(Tq:∀p∈pb,TK prog w s.heap [p.1.1,p.1.2] p.2)(Tf:(pb.map (·.1)).Nodup)(h64:pb.length<64)
  (h:∀Uz:PB,Uz.Perm pb->(Uz.map (·.1)).Pairwise (λx y=>ltP x y=true)->P (.done (.ret .none)) {s with heap:=sortedHeap s.heap a (refs pb) (refs Uz).toArray }):
  GQ (G1 prog w) A (Builtin.«list.sort» ⟨[.ref a],[]⟩) P E s:=by
 have hvl:(refs pb).length=pb.length:=by simp
 have hva:(refs pb).toArray.size=pb.length:=by simp
 rw[list_sort_plain];have ha:a<s.heap.objs.size:=GD ho;refine Gk (listItems_at ho rfl (Gk (On ho rfl ?_ (by rw[hva,Ij];lia) (Hf _))))
 obtain⟨e1,ho1⟩:∃e1,(s.heap.update a (HM λ_=>(#[]:Array Gr))).get? a=some (QI "list" #[] e1):=⟨_,get?_update_seq ho (λ_=>#[])⟩
 refine Gk (PH ho1 rfl (Gk (Qj ?_ (by show (refs pb).length<=_;rw[hvl,Ij];lia))))
 refine Gk (wpAny_newList ?_ (Hf _));refine Hs ?_;generalize hh6:((s.heap.update a (HM λ_=>(#[]:Array Gr))).push (QI "tuple" (refs pb).toArray 0)).push (QI "list" #[] 0)=h6
 have old6:∀b o,b≠a->s.heap.get? b=some o->h6.get? b=some o:=λb o hb e=>by
  rw[<-hh6];exact Gu _ (Gu _ ((Hd _ _ (Ne.symm hb)).trans e))
 have ho6:h6.get? a=some (QI "list" #[] e1):=by rw[←hh6];exact Gu _ (Gu _ ho1)
 have tk6:∀p∈pb,TK prog w h6 [p.1.1,p.1.2] p.2:=λp hp=>by
  obtain⟨o,RB,k,hop,hc,r⟩:=Tq p hp;refine⟨o,RB,k,old6 p.2 o (λz=>?_) hop,hc,r⟩
  rw[z,ho]at hop;cases hop;exact absurd hc (by show ¬ (HP "list"=HP "tuple");decide)
 have RR:∀Uz:PB,Uz.Perm pb->(Uz.map (·.1)).Pairwise (λx y=>ltP x y=true)->P (.done (.ret .none)) {s with heap:=h6.update a (HM λ_=>(refs Uz).toArray) }:=λUz p1 p2=>by
  rw[<-hh6];exact h Uz p1 p2
 show GQ (G1 prog w) A _ P E {s with heap:=h6 }
 dsimp only;by_cases h2:(refs pb).toArray.size<2
 ·rw[if_pos h2,if_pos h2];refine Gk (Gw ?_);rw[StateT.run_pure];refine Gk (Gw ?_);dsimp only
  have eout:(arrOf (SortSt.mk' general' ((refs pb).toArray.zip (refs pb).toArray) #[] 7 none)).map (·.2)=(refs pb).toArray:=by
   show (((refs pb).toArray.zip (refs pb).toArray)).map (·.2)=_;apply M6.mp
   have zip2:∀l:List Gr,(l.zip l).map (·.2)=l:=λl=>by
    induction l with
    |nil=>rfl
    |cons x r ih=>rw[Oo,GW,ih]
   rw[O9,Array.toList_zip];exact zip2 _
  rw[eout];refine Gk (PH ho6 rfl (Gk (On ho6 rfl ?_ (Hf _) (by rw[hva,Ij];lia))))
  show GQ _ _ (if (e1 !=e1)=true then _ else _) _ _ _
  rw[if_neg (by simp)]
  refine Gw (RR pb (Qg _) ?_)
  match pb,hva,h2 with
  |[],_,_=>simp
  |[_],_,_=>simp
  |_::_::r,hva,h2=>rw[hva]at h2;exact absurd h2 (by simp)
 ·rw[if_neg h2,if_neg h2];rw[hva]at h2;have h2':2<=(refs pb).length:=by rw[hvl];lia
  refine Gk (yM (s:={s with heap:=h6 }) tk6 (by lia) ?_)
  have inj:∀i j,i<pb.length->j<pb.length->i≠j->(pb.getD i dfl).1≠(pb.getD j dfl).1:=λi j hi hj Ue e=>by
   refine Ue ((MZ (xs:=pb.map (·.1)) (h₀:=by simpa using hi) (h₁:=by simpa using hj) Tf).mp ?_)
   simpa [hi,hj] using e
  have O:LtO pb.length (λi j=>ltP (pb.getD i dfl).1 (pb.getD j dfl).1):=⟨λi j k=>zO,λi j hi hj Ue=>tw (inj i j hi hj Ue),λi j=>ur⟩
  obtain⟨p,R,PP',S⟩:=yt O (by lia)
  have hcmp:∀i j C,i<pb.length->j<pb.length->C (ltP (pb.getD i dfl).1 (pb.getD j dfl).1) {s with heap:=h6 }->kas_ask prog w A (QO true) (refs pb) i j C {s with heap:=h6 }:=λi j C hi hj c=>by
   unfold kas_ask;have ei:(refs pb).getD i GU=.ref (pb.getD i dfl).2:=by simp[hi]
   have ej:(refs pb).getD j GU=.ref (pb.getD j dfl).2:=by simp[hj]
   rw[ei,ej];have mi:pb.getD i dfl∈pb:=by simp[hi]
   have mj:pb.getD j dfl∈pb:=by simp[hj]
   exact Dm (s:={s with heap:=h6 }) (tk6 _ mi) (tk6 _ mj) c
  have tree:(kas_sort (refs pb).length).kasWp (kas_ask prog w A (QO true) (refs pb)) (λp' s'=>p'=p/\s'={s with heap:=h6 }) {s with heap:=h6 }:=by
   rw[hvl];exact R.wp hcmp ⟨rfl,rfl⟩
  refine Gk (HC (kat_run (Q:=λUk s'=>s'={s with heap:=h6 }/\failedOf Uk=none/\(arrOf Uk).map (·.2)=Q3 (p.toList.map λi=>(refs pb).getD i GU)) rfl h2' (by rw[hvl];exact h64) (λp' Uk s' _ a2 a3 a4=>?_) tree) ?_ λ_ _ e=>e)
  ·obtain⟨rfl,rfl⟩:=a4;exact⟨rfl,a3,kat_snds rfl a2⟩
  ·rintro ⟨⟨⟩,Uk⟩ s' ⟨rfl,hf,hout⟩;dsimp only;rw[hout];have RU:∀i∈p.toList,i<pb.length:=λi hi=>G8.mp (PP'.perm.mem_iff.mp hi)
   have er:(p.toList.map λi=>(refs pb).getD i GU)=refs (p.toList.map λi=>pb.getD i dfl):=by
    unfold refs;rw[G3];refine Jc λi hi=>?_
    have:=RU i hi;simp[this]
   rw[er]
   have hperm:(p.toList.map λi=>pb.getD i dfl).Perm pb:=by
    refine (PP'.perm.map _).trans ?_;rw[rW]
   have Ul:(refs (p.toList.map λi=>pb.getD i dfl)).toArray.size=pb.length:=by simp[PP'.size]
   refine Gk (PH ho6 rfl (Gk (On ho6 rfl ?_ (Hf _) (by rw[Ul,Ij];lia))))
   rw[hf];show GQ _ _ (if (e1 !=e1)=true then _ else _) _ _ _
   rw[if_neg (by simp)]
   refine Gw (RR _ hperm ?_);rw[G3,HV,Hn];intro i j hi hj Ue;have hj':j<pb.length:=by rw[GY,PP'.size]at hj;exact hj
   have q:=S i j Ue hj';have ei:g p i=p.toList[i]:=by simp[g,Jr,PP'.size,show i<pb.length by lia]
   have ej:g p j=p.toList[j]:=by simp[g,Jr,PP'.size,hj']
   rw[ei,ej]at q;exact q
end
end ST
namespace ST
open PySem PySem.W PyProof.Rows PySem.Calls
theorem zT{α β:Type}(f:α->β){l m:List β}(h:l.Perm m):∀kb:List α,m=kb.map f->∃Tn:List α,LI Tn kb/\l=Ru f Tn:=by
 induction h with
 |nil=>intro kb e;exact⟨kb,.refl _,e⟩
 | @cons x l m _ ih=>
  intro kb e
  match kb,e with
  |[],e=>simp at e
  |k::kb,e=>
   rw[GW,PJ]at e;obtain⟨Tn,p,e'⟩:=ih kb e.2;exact⟨k::Tn,p.cons k,by rw[GW,<-e',e.1]⟩
 |swap x y l=>
  intro kb e
  match kb,e with
  |[],e=>simp at e
  |[_],e=>simp at e
  |k::k'::kb,e=>
   simp only[GW,PJ]at e;exact⟨k'::k::kb,.swap k k' kb,by rw[GW,GW,<-e.2.2,e.1,e.2.1]⟩
 |trans _ _ ih1 ih2=>
  intro kb e;obtain⟨kb2,p2,e2⟩:=ih2 kb e;obtain⟨Vu,p1,e1⟩:=ih1 kb2 e2;exact⟨Vu,p1.trans p2,e1⟩
def ptsOf(kb:List (List Int×GE)):PB:=kb.map λp=>((p.1.getD 0 0,p.1.getD 1 0),p.2)
section
variable {prog:GF}{w:G5}{A:Ha}{E:Gr→Gs→Prop}{s:Gs}
theorem call_sorted_set{S:GE}{kb:List (List Int×GE)}{Q:Gr->Gs->Prop}(hh:A.handled=none)(P:SP prog w s.heap S kb)(h64:kb.length<64)(h2:∀p∈kb,p.1.length=2)
  (h:∀(h1 h':H_) (tk:Nat) (pb:PB) (e:Nat),LI pb (ptsOf kb)→(pb.map (·.1)).Pairwise (λx y=>ltP x y=true)→(∀b o,s.heap.get? b=some o→h1.get? b=some o)→(∀b o,h1.get? b=some o→h'.get? b=some o)→h'.get? h1.objs.size=some (QI "list" (refs pb).toArray e)→Q (.ref h1.objs.size) {s with heap:=h',toks:=tk }):
  GQ (G1 prog w) A (call (.builtin "sorted") [.ref S]) Q E s:=by
 obtain⟨⟨o,es,ep,t,ho,hex,hd,he,T,hl,hp,_,_⟩,hk,Tf⟩:=P;have hsz:es.size=kb.length:=by rw[<-GY,he];simp[ents]
 have O:SO prog w o es ep t (kb.map λp=>hsh prog w p.1):=⟨hex,hd,T,by rw[Gp,hsz],hl,hp⟩
 have two:∀p∈kb,p.1=[p.1.getD 0 0,p.1.getD 1 0]:=λp S2=>by
  have:=h2 p S2
  match hq:p.1,this with
  |[x,y],_=>rfl
 refine call_function_entry kind_sorted plain_sorted entry_sorted (args_sorted1 _) ?_;unfold Builtin.«sorted»;refine Gk (m:=checkCount "sorted" 1 1 _) (Gw ?_);refine Gk (kdu_collect (A:=A.in1) (AG O) hh ho (by rw[hsz,Ij];lia) λh' tk acc keep Vc=>?_)
 have TJ:acc.toList=cq w S es ep:=by
  apply Kr;intro i;rcases Ki i acc.size with z |z
  ·rw[Hy,HI z];exact (Vc.2 i _ (HI z)).symm
  ·rw[Hr (by simpa using z),Hr]
   rw[(eW w S es ep).length_eq,Gp,GY,<-Vc.1];exact z
 obtain⟨Vu,pk,ek⟩:=zT (λ(p:List Int×GE)=>GR p.2) (eW w S es ep) kb (by rw[he];unfold ents;rw[G3];rfl)
 have SJ:acc.toList=refs (ptsOf Vu):=by
  rw[TJ,ek];unfold refs ptsOf;rw[G3];rfl
 have Tz:(ptsOf Vu).length=kb.length:=by unfold ptsOf;rw[Gp,pk.length_eq]
 have hlenA:acc.toList.length=kb.length:=by rw[SJ];simp[Tz]
 refine Gk (wpAny_newList ?_ (by rw[hlenA,Ij];lia))
 have hD:(h'.push {cls:=.type "list",data:=.seq acc.toList.toArray }).get? h'.objs.size=some (QI "list" (refs (ptsOf Vu)).toArray 0):=by
  rw[<-SJ];exact GH _ rfl
 have tk1:∀p∈ptsOf Vu,TK prog w (h'.push {cls:=.type "list",data:=.seq acc.toList.toArray }) [p.1.1,p.1.2] p.2:=λp S2=>by
  obtain⟨q,hq,rfl⟩:=GC.mp S2;have R5:=pk.mem_iff.mp hq;obtain⟨oq,RB,k,hoq,r⟩:=hk q R5;have e2:=two q R5;refine⟨oq,RB,k,Gu _ (keep _ _ hoq),?_⟩;rw[<-e2];exact r
 have nd1:((ptsOf Vu).map (·.1)).Nodup:=by
  have n1:(Vu.map (·.1)).Nodup:=((pk.map (·.1)).nodup_iff).mpr Tf;unfold ptsOf;rw[G3];refine HV.mpr ((HV.mp n1).imp_of_mem λ{a b} ha hb Uy=>?_)
  intro z;have ea:=two a (pk.mem_iff.mp ha);have eb:=two b (pk.mem_iff.mp hb);have z':(a.1.getD 0 0,a.1.getD 1 0)=(b.1.getD 0 0,b.1.getD 1 0):=z;rw[Prod.mk.injEq]at z';rw[z'.1,z'.2]at ea;exact Uy (ea.trans eb.symm)
 refine Gk (Hs (IB slot_list_sort ⟨_,hD,rfl⟩ entry_list_sort ?_ (args_list_sort _)));refine yK (s:={s with heap:=h'.push {cls:=.type "list",data:=.seq acc.toList.toArray },toks:=tk }) hD tk1 nd1 (by lia) λUz pp so=>⟨_,rfl,Gw ⟨_,rfl,?_⟩⟩
 obtain⟨e,eD⟩:=sortedHeap_at (out:=(refs Uz).toArray) hD;refine h h' _ tk Uz e (pp.trans ?_) so keep (λb x To=>?_) eD
 ·unfold ptsOf;exact pk.map _
 ·have RU:=GD To;rw[sortedHeap_old (GS RU) (by rw[Iq];exact IK RU)]
  exact Gu _ To
end
end ST
namespace ST
open PySem
def ins(x:Int×Int):List (Int×Int)->List (Int×Int)
 |[]=>[x]
 |y::r=>if x=y then y::r else if ltP x y=true then x::y::r else y::ins x r
def srt(pts:List (Int×Int)):List (Int×Int):=pts.foldr ins []
theorem om(x z:Int×Int):∀l,z∈ins x l↔z=x\/z∈l
 |[]=>by simp[ins]
 |y::r=>by
  unfold ins;split
  ·rename_i h;subst h;simp
  ·split
   ·simp
   ·rw[Gx,om x z r,Gx];constructor
    ·rintro (h |h |h)
     ·exact .inr (.inl h)
     ·exact .inl h
     ·exact .inr (.inr h)
    ·rintro (h |h |h)
     ·exact .inr (.inl h)
     ·exact .inl h
     ·exact .inr (.inr h)
abbrev Asc(l:List (Int×Int)):Prop:=l.Pairwise (λx y=>ltP x y=true)
theorem uP(x:Int×Int):∀l,Asc l->Asc (ins x l)
 |[],_=>by simp[ins]
 |y::r,h=>by
  unfold ins;split
  ·exact h
  ·rename_i RL
   obtain⟨h1,h2⟩:=Il.mp h;split
   ·rename_i RU
    refine Il.mpr ⟨λz hz=>?_,h⟩
    rcases Gx.mp hz with e |e
    ·rw[e];exact RU
    ·exact zO RU (h1 z e)
   ·rename_i RU
    refine Il.mpr ⟨λz hz=>?_,uP x r h2⟩
    rcases (om x z r).mp hz with e |e
    ·rw[e];exact tw RL (by simpa using RU)
    ·exact h1 z e
theorem srt_mem(z:Int×Int):∀l,z∈srt l↔z∈l
 |[]=>by simp[srt]
 |y::r=>by
  show z∈ins y (srt r)↔_;rw[om,srt_mem z r,Gx]
theorem srt_asc:∀l,Asc (srt l)
 |[]=>Ls
 |y::r=>uP y (srt r) (srt_asc r)
theorem uu{x:Int×Int}:ltP x x=false:=by unfold ltP;simp
theorem asc_one:∀{l m:List (Int×Int)},Asc l->Asc m->(∀z,z∈l↔z∈m)->l=m
 |[],[],_,_,_=>rfl
 |[],y::r,_,_,h=>by have:=(h y).mpr Gy;simp at this
 |x::l,[],_,_,h=>by have:=(h x).mp Gy;simp at this
 |x::l,y::m,hl,hm,h=>by
  obtain⟨a1,a2⟩:=Il.mp hl;obtain⟨b1,b2⟩:=Il.mp hm
  have e:x=y:=by
   rcases Gx.mp ((h x).mp Gy) with z |z
   ·exact z
   ·rcases Gx.mp ((h y).mpr Gy) with z' |z'
    ·exact z'.symm
    ·have:=ur (b1 x z);rw[a1 y z']at this;cases this
  subst e;congr 1;refine asc_one a2 b2 λz=>⟨λhz=>?_,λhz=>?_⟩
  ·rcases Gx.mp ((h z).mp (Gq _ hz)) with e |e
   ·have:=a1 z hz;rw[e,uu]at this;cases this
   ·exact e
  ·rcases Gx.mp ((h z).mpr (Gq _ hz)) with e |e
   ·have:=b1 z hz;rw[e,uu]at this;cases this
   ·exact e
theorem asc_srt{l:List (Int×Int)}(h:Asc l):srt l=l:=asc_one (srt_asc l) h λz=>srt_mem z l
theorem ub(x:Int×Int):∀l,(ins x l).length<=l.length+1
 |[]=>by simp[ins]
 |y::r=>by
  have:=ub x r;unfold ins;split
  ·simp
  ·split
   ·simp
   ·simp only[GI];lia
theorem srt_len:∀l,(srt l).length<=l.length
 |[]=>GA _
 |y::r=>by
  have h1:=ub y (srt r);have h2:=srt_len r;show (ins y (srt r)).length<=_;simp only[GI];lia
end ST
namespace L2
open PySem PySem.Spec PyProof.Rows
theorem Gc{p:Nat->GE->Prop}{n:Nat}(h:∀i,i<n->∃b,p i b):∃f:Nat->GE,∀i,i<n->p i (f i):=by
 refine⟨λi=>if k:i<n then Classical.choose (h i k) else 0,λi hi=>?_⟩
 dsimp only;rw[dif_pos hi];exact Classical.choose_spec (h i hi)
theorem pR:IF "set"=some (.type "set"):=by decide+kernel
section
variable {X:Cx}{H0:Hp}{O0:List GE}{ps:PSt}{e:Expr}{pts:List P2}{pos RN p p':Pos}
theorem gE(hc:X.calm=true)(hu:X.A.units+10<Ku)(hg:Gl X "sorted")(hm:X.mg "sorted"=none)(hgs:Gl X "set")(Vd:X.mg "set"=none)(ha:Ev X H0 O0 ps e (lp pts))(hl:pts.length<64)
  (he:Gv [e] X.env=(false,HY e X.env)::Gv [] X.env:=by rfl):EvN X H0 O0 ps (.Call (.Name "sorted" p) [.Call (.Name "set" p') [e] [] RN] [] pos) ((ST.srt pts).map pu):=by
 rintro pins s σ H Q I ⟨O,R,q⟩;have hh:X.A.handled=none:=I.ok.hd hc;refine Hj (c5 I hg hm boot_sorted ?_);refine callWith_builtin1 (e:=.Call (.Name "set" p') [e] [] RN) (rest:=[]) ?_ rfl rfl;show GQ _ _ (M_ ((false,HY (.Call (.Name "set" p') [e] [] RN) X.env)::Hx pos (Gv [] X.env))) _ _ s;refine Ik ?_;refine Hj (c5 I hgs Vd pR ?_);refine callWith_type1 (thn (bu ha cY he RN pins s σ H (λvs H1=>∃v,vs=[v]/\aH H H1/\Rp X.K (hid H1 O) v (lp pts)) I ⟨O,R,λv H1 s1 r1=>⟨v,rfl,s1,r1⟩⟩) λus s1 hx=>?_) he rfl
 obtain⟨vs,H1,I1,rv,v,rfl,sm,rp⟩:=hx;obtain⟨u,rfl,ru⟩:=de rv;cases rp with
 | @lst a ws _ hq hwl hwi=>
  cases ru;obtain⟨RB,S1,pl,hz⟩:=I1.list (SqL.of (aB _ _ hq));have hlp:ws.length=pts.length:=by rw[hwl,Gp]
  have hil:RB.length=pts.length:=by rw[<-S1.length,hlp]
  have item:∀i,i<pts.length->∃b,RB[i]?=some (.ref b)/\Rp X.K (hid H1 O) (.ref b) (pu (pts.getD i (0,0)))/\ST.TK X.prog X.w s1.heap [(pts.getD i (0,0)).1,(pts.getD i (0,0)).2] b:=λi hi=>by
   have hw:ws[i]?=some ws[i]:=Gm (by lia)
   have hp:(pts.map pu)[i]?=some (pu (pts.getD i (0,0))):=by rw[Gz,Gm hi];simp[hi]
   have r:=hwi i _ _ hw hp;obtain⟨u',e1,e2⟩:=S1.get hw;generalize ws[i]=z at *;cases r with
   | @tup b zs _ hs UL hsi=>
    cases e2;refine⟨b,e1,Rp.tup hs UL hsi,?_⟩;obtain⟨jts,rj,ht,_⟩:=I1.tuple (by exact aB.tup hs)
    have z0:zs.length=2:=UL
    match zs,z0,hsi,rj with
    |[z1,z2],_,hsi,rj=>
     have q1:=hsi 0 z1 _ rfl rfl;have q2:=hsi 1 z2 _ rfl rfl;cases q1;cases q2;obtain⟨u1,u2,rfl,r1,r2⟩:=iR rj;obtain⟨t1,rfl⟩:=r1;obtain⟨t2,rfl⟩:=r2;obtain⟨o,ho,Vk,n,hod⟩:=ht;exact⟨o,_,n,ho,Vk,hod,.cons (Js _ _ _ _) (.cons (Js _ _ _ _) .nil)⟩
  obtain⟨Tg,adE⟩:=Gc item;have hsz:RB.toArray.size=pts.length:=by simp[hil]
  refine ST.call_set_pts (λi=>([(pts.getD i (0,0)).1,(pts.getD i (0,0)).2],Tg i)) hh (by show X.A.units+1+1+1<Ku;lia) pl.isList (λi z ez=>?_) (λi hi=>?_) (by rw[hsz];lia) λh2 tk kb sp Ve keep=>?_
  ·have hi:i<pts.length:=by have:=aR (show RB[i]?=some z by simpa using ez);lia
   have:=(adE i hi).1;rw[show RB.toArray[i]?=RB[i]? by simp,this]at ez
   cases ez;rfl
  ·exact (adE i (by rw[hsz]at hi;exact hi)).2.2
  ·rw[hsz]at Ve;have I2:Inv X pins σ H1 {s1 with heap:=h2,toks:=tk }:=I1.kept (t':=tk) keep
   refine Jo ?_;have hkl:kb.length<64:=by have:=Ve.len;lia
   refine ST.call_sorted_set (s:={s1 with heap:=h2,toks:=tk }) hh sp hkl (λz hz=>by obtain⟨j,_,rfl⟩:=Ve.src z hz;rfl) λh3 h4 tk2 pb ep pm so k1 k2 hD=>?_
   have I3:Inv X pins σ H1 {s1 with heap:=h3,toks:=tk2 }:=I2.kept (t':=tk2) k1
   have src:∀z∈pb,∃j,j<pts.length/\z=(pts.getD j (0,0),Tg j):=λz hz=>by
    obtain⟨y,hy,rfl⟩:=GC.mp (pm.mem_iff.mp hz);obtain⟨j,hj,rfl⟩:=Ve.src y hy;exact⟨j,hj,rfl⟩
   have epts:pb.map (·.1)=ST.srt pts:=by
    refine ST.asc_one so (ST.srt_asc pts) λz=>?_
    rw[ST.srt_mem];constructor
    ·intro hz;obtain⟨y,hy,rfl⟩:=GC.mp hz;obtain⟨j,hj,rfl⟩:=src y hy;simp[hj]
    ·intro hz;obtain⟨j,hj⟩:=G7.mp hz;have hjl:=aR hj;have hk:=Ve.all j hjl;obtain⟨y,hy,ey⟩:=GC.mp hk;have Ur:((y.1.getD 0 0,y.1.getD 1 0),y.2)∈ST.ptsOf kb:=GC.mpr ⟨y,hy,rfl⟩;have hin':=pm.mem_iff.mpr Ur;refine GC.mpr ⟨_,hin',?_⟩;rw[ey];have:pts.getD j (0,0)=z:=by rw[G0,hj];rfl
     show ((pts.getD j (0,0)).1,(pts.getD j (0,0)).2)=z;rw[this]
   have fr:H1 h3.objs.size=none:=I3.hok.fresh (GA _);refine⟨.ref h3.objs.size,upd H1 h3.objs.size (.lst (pb.map λz=>V.ref z.2)),?_,rfl,?_⟩
   ·refine I3.laid (t':=tk2) k2 (GA _) ⟨?_,(ST.refs pb),ep,?_,hD⟩
    ·rw[Gp,<-Gp (f:=(·.1)),epts,Ij];have:=ST.srt_len pts;lia
    ·have all:∀l:ST.PB,aK (l.map λz=>V.ref z.2) (ST.refs l):=λl=>by
      induction l with
      |nil=>exact .nil
      |cons z r ih=>exact .cons rfl ih
     exact all pb
   ·refine q _ _ _ (sm.trans (aT fr _)) (sm.free fr) aF ⟨?_,λi z x e1 e2=>?_⟩
    ·rw[Gp,<-epts,Gp,Gp]
    ·rw[<-epts,G3,Gz]at e2;rw[Gz]at e1;cases hpi:pb[i]? with
     |none=>rw[hpi]at e1;cases e1
     |some y=>
      rw[hpi]at e1 e2;cases e1;cases e2;obtain⟨j,hj,rfl⟩:=src y (GJ hpi);exact (adE j hj).2.1.same (bh (aT fr _) fr)
end
end L2
namespace ST
open PySem
section
variable {prog:GF}{w:G5}{A:Ha}{s:Gs}{R:N9→Gs→Prop}{I:GE}{fp wr:List GE}{G:Array Kl→Array Kl→Prop}{n:Nat}{P:Nat→Gr→Prop}{St:Nat→Gs→Prop}{T:String}
def wZ(prog:GF)(w:G5)(T:String):Prop:=∀(A:Ha) (E:Gr->Gs->Prop) (s:Gs) (r:GE) (Q:Bool->Gs->Prop),s.TypeIs (.ref r) T->(∀b,Q b s)->GQ (G1 prog w) A (Builtin.List.listLengthHint (.ref r)) Q E s
theorem vq(W:WalksS prog w A.in1 I fp wr G n P St)(hT:∀i s,St i s→s.TypeIs (.ref I) T)(hl:(HP T==HP "list")=false)(ht:(HP T==HP "tuple")=false)(hint:wZ prog w T)(S:GE)(res:Gr)(c₀:Nat)(R9:St 0 s)(Uh:S ∉ fp)(hI:I∈fp)
  (hS:s.heap.get? S=some {cls:=.type "list",data:=.seq #[] c₀ })
  (hR:∀s' SK c',Moved (S::wr) G s s'→s'.heap.get? S=some {cls:=.type "list",dict:=none,data:=.seq SK c',slots:=#[] }→ItemsOf P SK n→R (.ok (.ret res)) s') (hn:n≤sizeLine):
  GQ (G1 prog w) A.in1 (Builtin.List.listExtendWith (.ref S) (.ref I) res)
   (λRR s'=>match RR with | .done f=>R (.ok f) s' | .again c'=>c'.quiet=true/\J7 (G1 prog w) A c' R s') (λe s'=>R (.error e) s') s:=by
 have hSI:S≠I:=λe=>Uh (e ▸ hI)
 unfold Builtin.List.listExtendWith;refine Gk (Nq (hT 0 _ R9) ?_);have k1:Builtin.List.listSameRef (.ref S) (.ref I)=false:=by simp[Builtin.List.listSameRef,hSI]
 simp only[k1,hl,ht,Oe,GO,if_false];refine Gk (W.self 0 _ _ _ R9 (Gk (Hs (hint _ _ _ _ _ (hT 0 _ R9) λb=>?_))))
 refine JS (λ_=>?_) (λ_=>?_)
 ·refine Gk (OO (Gk ?_));show GQ _ A.in1 (MP S (·.push .none) >>=λ_=>MP S (·.pop)) _ _ _
  refine Gk (JT hS rfl ?_);have g2:=Hz (HM (·.push GU)) hS rfl;refine JT (hz:=by seq_fits) g2 rfl ?_
  have g3:=Hz (HM (·.pop)) g2 rfl;have SF:∀b o,b≠S->s.heap.get? b=some o->((s.heap.update S (HM (·.push GU))).update S (HM (·.pop))).get? b=some o:=λb o hb e=>(Hd _ _ (Ne.symm hb)).trans ((Hd _ _ (Ne.symm hb)).trans e)
  refine Gw ⟨Kp HW _,NR W hn _ Uh _ n 0 _ _ _ rfl (Hf _) (W.frame 0 s _ s.toks R9 (GA _) λb hb o e=>SF b o (λz=>Uh (z ▸ hb)) e) g3 (ItemsOf.nil P) λs' SK c' m g' it=>?_⟩
  exact hR s' SK c' (Moved.trans W.gtrans ((Moved.refl W.grefl).then_heap (GA _) λb o hb e=>SF b o (λz=>hb (z ▸ Gy)) e) m) g' it
 ·exact Gw ⟨Kp HW _,NR W hn _ Uh _ n 0 _ _ _ rfl (Hf _) R9 hS (ItemsOf.nil P) λs' SK c' m g' it=>hR s' SK c' m g' it⟩
theorem BZ(W:WalksS prog w A.in1 I fp wr G n P St)(hT:∀i s,St i s→s.TypeIs (.ref I) T)(hl:(HP T==HP "list")=false)(ht:(HP T==HP "tuple")=false)(hint:wZ prog w T)(S:GE)(R9:St 0 s)(Uh:S ∉ fp)(hI:I∈fp)
  (hS:s.heap.get? S=some {cls:=.type "list",data:=.seq #[] })
  (hR:∀s' SK c',Moved (S::wr) G s s'→s'.heap.get? S=some {cls:=.type "list",dict:=none,data:=.seq SK c',slots:=#[] }→ItemsOf P SK n→R (.ok (.ret .none)) s') (hn:n≤sizeLine):
  GQ (G1 prog w) A.in1 (Builtin.«list.__init__» ⟨[.ref S,.ref I],[]⟩)
   (λRR s'=>match RR with | .done f=>R (.ok f) s' | .again c'=>c'.quiet=true/\J7 (G1 prog w) A c' R s') (λe s'=>R (.error e) s') s:=by
 show GQ _ A.in1 (Builtin.List.listItems (.ref S) >>=λold=>Builtin.List.listUpdate (.ref S) (λ_=>#[]) >>=λ_=>letGo old.toList.reverse >>=λ_=>Builtin.List.listExtendWith (.ref S) (.ref I) .none) _ _ s
 refine Gk ?_;unfold Builtin.List.listItems;refine Gk (J6 hS rfl (Gw ?_));show GQ _ A.in1 (MP S (λ_=>#[]) >>=λ_=>letGo (#[]:Array Gr).toList.reverse >>=λ_=>Builtin.List.listExtendWith (.ref S) (.ref I) .none) _ _ s
 refine Gk (JT hS rfl ?_);have g2:=Hz (HM (λ_=>(#[]:Array Gr))) hS rfl
 have SF:∀b o,b≠S->s.heap.get? b=some o->(s.heap.update S (HM (λ_=>(#[]:Array Gr)))).get? b=some o:=λb o hb e=>(Hd _ _ (Ne.symm hb)).trans e
 refine Gk (wpAny_letGo ?_);refine vq W hT hl ht hint S .none _ (W.frame 0 s _ s.toks R9 (GA _) λb hb o e=>SF b o (λz=>Uh (z ▸ hb)) e) Uh hI g2 (λs' SK c' m g' it=>?_) hn
 exact hR s' SK c' (Moved.trans W.gtrans ((Moved.refl W.grefl).then_heap (GA _) λb o hb e=>SF b o (λz=>hb (z ▸ Gy)) e) m) g' it
variable {E:Gr→Gs→Prop}
theorem call_list_it{Q:Gr→Gs→Prop}(W:WalksS prog w A.in1.in1 I fp wr G n P St)(hT:∀i s,St i s→s.TypeIs (.ref I) T)(hl:(HP T==HP "list")=false)(ht:(HP T==HP "tuple")=false)(hint:wZ prog w T)(R9:St 0 s)(hfp:∀b∈fp,b<s.heap.objs.size)(hI:I∈fp)
  (hQ:∀s' SK c',Moved (s.heap.objs.size::wr) G {s with heap:=s.heap.push {cls:=.type "list",data:=.seq #[] } } s'→
   s'.heap.get? s.heap.objs.size=some {cls:=.type "list",dict:=none,data:=.seq SK c',slots:=#[] }→ItemsOf P SK n→Q (.ref s.heap.objs.size) s') (hn:n≤sizeLine):
  GQ (G1 prog w) A (call (.type "list") [.ref I]) Q E s:=by
 have Uh:s.heap.objs.size ∉ fp:=λhm=>Hc _ (hfp _ hm)
 refine Qk (Q₁:=λobj RJ=>obj=.ref s.heap.objs.size∧RJ={s with heap:=s.heap.push {cls:=.type "list",data:=.seq #[] } }) N6 (MX _) MY (code_list_new _ ⟨rfl,rfl⟩) λobj RJ h₁=>?_
 obtain⟨rfl,rfl⟩:=h₁;have hS:(s.heap.push {cls:=.type "list",data:=.seq #[] }).get? s.heap.objs.size=some {cls:=.type "list",data:=.seq #[] }:=GH _ rfl;refine⟨⟨_,hS,rfl⟩,MQ _ _,BZ W hT hl ht hint _ (W.frame 0 s _ s.toks R9 (GA _) λb _ o e=>Gu _ e) Uh hI hS (λs' SK c' m g' it=>?_) hn⟩
 exact⟨rfl,hQ s' SK c' m g' it⟩
end
theorem As:NJ (.type "list_reverseiterator") "__len__"=pure none:=by rw[Kj,Jh];kernel_rfl
theorem me:Slot "list_reverseiterator" "__length_hint__" "list_reverseiterator.__length_hint__":=
 .of (owner:="list_reverseiterator") (n:="__length_hint__") (by rw[Kj,Jh];kernel_rfl) (by decide+kernel) (by decide+kernel) (by decide+kernel) (by first |exact .inl (by decide+kernel) |exact .inr (by decide+kernel)) (by rw[LB];kernel_rfl)
theorem hint_rev(prog:GF)(w:G5):wZ prog w "list_reverseiterator":=λA E s r Q hT h=>by
 unfold Builtin.List.listLengthHint;refine Gk (Jw hT As ?_);show GQ _ A (specialOf (GR r) (Str.ofString "__length_hint__") >>=_) _ _ _;refine Gk (Jw hT me.lookup ?_);generalize hid:("list_reverseiterator.__length_hint__":String)=id0
 wp_delta
 rw[show splitId id0=some ("list_reverseiterator","__length_hint__") from by subst hid;decide+kernel]
 subst hid;refine Gk (J4 (T:="list_reverseiterator") (b:=true) hT (by rw[LB];kernel_rfl) ?_)
 refine JS (λz=>absurd z (by decide)) (λ_=>?_)
 refine JS (λ_=>?_) (λz=>absurd (by decide+kernel) z)
 refine JS (λz=>absurd z (by decide+kernel)) (λ_=>Gw (h _))
end ST
namespace L2
open PySem PySem.Spec PyProof.Rows
theorem l_:IF "reversed"=some (.type "reversed"):=by decide+kernel
theorem aK.rev:∀{xs:List V}{us:List Gr},aK xs us->aK xs.reverse us.reverse:=λ{xs us} r=>by
 induction r with
 |nil=>exact .nil
 | @cons x u xs us r1 r2 ih=>
  rw[OP,OP]
  have app:∀{a:List V}{b:List Gr},aK a b->aK (a++[x]) (b++[u]):=λ{a b} q=>by
   induction q with
   |nil=>exact .cons r1 .nil
   |cons q1 _ ih'=>exact .cons q1 ih'
  exact app ih
theorem Rps.rev{K:Gn}{H:Hp}{vs:List V}{xs:List U}(r:Rps K H vs xs):Rps K H vs.reverse xs.reverse:=⟨by simp[r.len],λi v x h1 h2=>by
 have hi:i<vs.length:=by have:=aR h1;simpa using this
 have hx:i<xs.length:=by rw[<-r.len];exact hi
 rw[Ie hi]at h1;rw[Ie hx,<-r.len]at h2;exact r.at_ _ v x h1 h2⟩
section
variable {X:Cx}{H0:Hp}{O0:List GE}{ps:PSt}{e k:Expr}{x:U}{xs:List U}{pos RN p p' p2:Pos}
theorem wm{K:Gn}{H:Hp}{v:V}(rp:Rp K H v x)(hx:x=.lst xs\/x=.scr xs):∃a vs,v=.ref a/\SqL K H a vs/\Rps K H vs xs:=by
 rcases hx with rfl |rfl
 ·cases rp with
  |lst hq hl hh=>exact⟨_,_,rfl,SqL.of hq,hl,hh⟩
 ·cases rp with
  |scr hq hl hh=>exact⟨_,_,rfl,hq,hl,hh⟩
theorem EI(he:Ev X H0 O0 ps e x)(hk:Ev X H0 O0 ps k (.int (-1)))(hx:x=.lst xs\/x=.scr xs):EvN X H0 O0 ps (.Subscript e (.Slice none none (some k) p2) pos) xs.reverse:=by
 rintro pins s σ H Q I ⟨O,R,q⟩;refine OD (thn (he pins s σ H (λv H1=>aH H H1/\Rp X.K (hid H1 O) v x) I ⟨O,R,λv H1 s1 r1=>⟨s1,r1⟩⟩) λu s1 ⟨v,H1,I1,r1,sm,rp⟩=>?_)
 obtain⟨a,vs,rfl,hq,rs⟩:=wm rp hx;cases r1;refine wpAny_Slice ?_;rw[Oc];refine Gw (Gw ?_);rw[evalPart_some];refine thn (hk pins s1 σ H1 (λv H2=>aH H1 H2/\v=.int (-1)) I1 ⟨O,R.go sm,λv H2 s2 r2=>⟨s2,by cases r2;rfl⟩⟩) λuk s2 hy=>?_
 obtain⟨vk,H2,I2,rk,s12,rfl⟩:=hy;obtain⟨t,rfl⟩:=rk;have I3:Inv X pins σ H2 {s2 with heap:=s2.heap.push {cls:=.type "slice",data:=.fields #[.none,.none,.int (-1) t] } }:=I2.kept (t':=s2.toks) λb ob z=>Gu _ z
 obtain⟨RB,rv,pl,hz⟩:=I3.list (s12.seq (aB.seq hq));have RM:=rv.length;show GQ (G1 X.prog X.w) X.A (MV e (.Slice none none (some k) p2) (.ref a) (.ref s2.heap.objs.size)) (EP X pins σ Q) X.xe {s2 with heap:=s2.heap.push {cls:=.type "slice",data:=.fields #[.none,.none,.int (-1) t] } }
 refine tail_any (ops:=[.ref a,.ref s2.heap.objs.size]) pl.isList.typeIs slot_list_getitem.lookup ?_ (by with_unfolding_all rfl)
 refine MG pl.isList (Od ..) .none .none (IsPart.int _ _) (by simp) ?_ (by rw[GN];lia)
 rw[PySem.W.krv_pick];generalize hn:(s2.heap.push {cls:=.type "slice",data:=.fields #[.none,.none,.int (-1) t] }).objs.size=D;have fr:H2 D=none:=I3.hok.fresh (by rw[<-hn];exact GA _)
 refine⟨.ref D,upd H2 D (.lst vs.reverse),I3.laid (t':=s2.toks) (o:=.lst vs.reverse) (λb ob z=>Gu _ z) (by rw[<-hn];exact GA _) ⟨by rw[Hl];exact hz,RB.reverse,0,rv.rev,?_⟩,rfl,?_⟩
 ·rw[<-hn];exact GH _ rfl
 ·refine q D _ _ ((sm.trans s12).trans (aT fr _)) ((sm.trans s12).free fr) aF ?_;exact (rs.rev.same (aD s12)).same (bh (aT fr _) fr)
theorem wn(hc:X.calm=true)(hg:Gl X "list")(hm:X.mg "list"=none)(hgr:Gl X "reversed")(hmr:X.mg "reversed"=none)(ha:Ev X H0 O0 ps e (.lst xs))
  (he:Gv [e] X.env=(false,HY e X.env)::Gv [] X.env:=by rfl):EvN X H0 O0 ps (.Call (.Name "list" p) [.Call (.Name "reversed" p') [e] [] RN] [] pos) xs.reverse:=by
 rintro pins s σ H Q I ⟨O,R,q⟩;have hh:X.A.handled=none:=I.ok.hd hc;refine Hj (c5 I hg hm boot_list ?_);refine callWith_type1 (e:=.Call (.Name "reversed" p') [e] [] RN) (rest:=[]) ?_ bg rfl;rw[bg];show GQ _ _ (M_ ((false,HY (.Call (.Name "reversed" p') [e] [] RN) X.env)::Hx pos (Gv [] X.env))) _ _ s;refine Ik ?_;refine Hj (c5 I hgr hmr l_ ?_);refine callWith_type1 (thn (bu ha cY he RN pins s σ H (λvs H1=>∃v,vs=[v]/\aH H H1/\Rp X.K (hid H1 O) v (.lst xs)) I ⟨O,R,λv H1 s1 r1=>⟨v,rfl,s1,r1⟩⟩) λus s1 hx=>?_) he rfl
 obtain⟨vs,H1,I1,rv,v,rfl,sm,rp⟩:=hx;obtain⟨u,rfl,ru⟩:=de rv;obtain⟨a,ws,rfl,hq,rs⟩:=wm rp (.inl rfl);cases ru;obtain⟨RB,S1,pl,hz⟩:=I1.list (aB.seq hq);have RM:=S1.length;have hsz:RB.toArray.size=RB.length:=by simp
 refine call_reversed_list pl.isList ?_;have I2:Inv X pins σ H1 {s1 with heap:=s1.heap.push (Rv a ((RB.toArray.size:Int)-1)) }:=I1.kept (t':=s1.toks) λb ob z=>Gu _ z
 refine Jo ?_;have TJ:a<s1.heap.objs.size:=by obtain⟨o,ho,_⟩:=pl.isList;exact GD ho
 have W:=(Walks.listRev (prog:=X.prog) (w:=X.w) (A:=X.A.in1.in1) hh s1.heap.objs.size a (GS TJ) RB.toArray).toS;refine ST.call_list_it (T:="list_reverseiterator") (s:={s1 with heap:=s1.heap.push (Rv a ((RB.toArray.size:Int)-1)) }) W (λi s' st=>st.2.1.typeIs) (by decide) (by decide) (ST.hint_rev _ _) ⟨Hf _,⟨_,GH _ rfl,rfl,by simp[Rv]⟩,pl.isList.push _⟩ (λb hb=>?_) (by simp) (λs3 acc c m hD S7=>?_) (by rw[hsz];lia)
 ·show b<(s1.heap.push _).objs.size;rw[Iq];simp at hb;rcases hb with z |z
  ·rw[z];exact Iz _
  ·rw[z];exact IK TJ
 ·obtain⟨h3,g3,d3,tk3,os3⟩:=s3;obtain rfl:g3=s1.gens:=m.gens;obtain rfl:d3=s1.drawn:=m.drawn;obtain rfl:os3=s1.os:=m.os;have szI:(s1.heap.push (Rv a ((RB.toArray.size:Int)-1))).objs.size=s1.heap.objs.size+1:=Iq ..
  have keep:∀b ob,s1.heap.get? b=some ob->h3.get? b=some ob:=λb ob z=>by
   have hb:=GD z;refine m.heap b ob (λy=>?_) (Gu _ (Gu _ z))
   rcases Gx.mp y with y |y
   ·rw[y]at hb;have To:s1.heap.objs.size+1<s1.heap.objs.size:=by rw[<-szI];exact hb
    exact absurd To (by lia)
   ·rw[G9.mp y]at hb;exact Hc _ hb
  have Vc:acc.toList=RB.reverse:=by
   apply Kr;intro i;rcases Ki i acc.size with z |z
   ·have y:=S7.2 i _ (HI z);have hi:i<RB.length:=by rw[S7.1,hsz]at z;exact z
    rw[Hy,HI z,Ie hi,<-y,hsz];simp
   ·have hi:RB.length<=i:=by rw[S7.1,hsz]at z;exact z
    rw[Hr (by simpa using z),Hr (by simpa using hi)]
  generalize hn:(s1.heap.push (Rv a ((RB.toArray.size:Int)-1))).objs.size=D at *;have fr:H1 D=none:=I2.hok.fresh (by rw[<-hn];exact GA _)
  have I3:Inv X pins σ (upd H1 D (.lst ws.reverse)) {s1 with heap:=h3,toks:=tk3 }:=I1.laid (t':=tk3) (o:=.lst ws.reverse) keep (by rw[szI];exact Rg _) ⟨by rw[Hl];exact hz,RB.reverse,c,S1.rev,by rw[<-Vc,Array.toArray_toList];exact hD⟩
  refine⟨.ref D,_,I3,rfl,q D _ _ (sm.trans (aT fr _)) (sm.free fr) aF ?_⟩;exact rs.rev.same (bh (aT fr _) fr)
end
section
variable {X:Cx}{H0:Hp}{O0:List GE}{ps:PSt}{xs:List U}{us:List U}{es:List Expr}{x:Str}{pc p' pos:Pos}
theorem gx(n:Nat)(h:ps[n]?=some (some (.own xs)))(hg:Gl X "len")(hm:X.mg "len"=none)(hN:X.N[n]?=some x:=by rfl)(hv:Vis X.env.scope x:=by first |exact Or.inl rfl |exact Or.inr (Or.inl rfl) |exact Or.inr (Or.inr rfl))(hd:(x==("__debug__":Str))=false:=by decide)
  (R8:(x==("__classdict__":Str))=false:=by decide) (R3:(Hx pos (Gv [] X.env)).any (·.1)=false:=by rfl):Ev X H0 O0 ps (.Call (.Name "len" pc) [.Name x p'] [] pos) (.int xs.length):=DR n h hg hm hN hv hd R8 ah R3
theorem Rps.pts{K:Gn}{H:Hp}{O' O:List GE}{a:GE}{ws vs:List V}(hO:∀c∈O',c∈O\/c=a)(ha:H a=some (.lst ws)):∀{l:List P2},Rps K (hid H O) vs (l.map pu)->Rps K (hid H O') vs (l.map pu):=λ{l} r=>⟨r.len,λi v x e1 e2=>by
 have q:=r.at_ i v x e1 e2;rw[Gz]at e2;cases hp:l[i]? with
 |none=>rw[hp]at e2;cases e2
 |some p=>
  rw[hp]at e2;cases e2;cases q with
  | @tup b zs _ h hl hi=>
   refine .tup ?_ hl λj z y f1 f2=>?_
   ·have key:∀{o:HO},(∀us,o≠.lst us)->hid H O b=some o->hid H O' b=some o:=λ{o} no h=>by
     obtain⟨h1,h2⟩:=fu h;refine b4 h1 λz=>?_
     rcases hO b z with z |z
     ·exact h2 z
     ·rw[z,ha]at h1;cases h1;exact no _ rfl
    rcases h with (h |⟨o,h⟩) |h
    ·exact .inl (.inl (key (λ_ z=>(nomatch z)) h))
    ·exact .inl (.inr ⟨o,key (λ_ z=>(nomatch z)) h⟩)
    ·exact .inr h
   ·have f:=hi j z y f1 f2
    match j,f2 with
    |0,f2=>cases f2;cases f;exact .int _
    |1,f2=>cases f2;cases f;exact .int _
    |j+2,f2=>simp at f2⟩
theorem Bb{RH:List U->Out->Prop}{f:GE}{fd:Hw}{pn:List Str}{k:Nat}{nm:Str}{l:List P2}{CX}(n:Nat)(h:ps[n]?=some (some (.own xs)))(F:aL X.prog X.w X.K X.mg X.base CX k f fd pn (spU X.K RH))(hr:bB k X.A)(hg:Gl X nm)(hm:X.mg nm=some (.ref f))(hk:HA X.K (.ref f)=true)(hb:bq X.K fd pn [])(hx:bj CX X E0)
  (ha:EvA X H0 O0 ps es us) (hs:RH (.lst xs::us) (.new (l.map pu))) (hN:X.N[n]?=some x:=by rfl) (hv:Vis X.env.scope x:=by first |exact Or.inl rfl |exact Or.inr (Or.inl rfl) |exact Or.inr (Or.inr rfl)) (hd:(x==("__debug__":Str))=false:=by decide)
  (R8:(x==("__classdict__":Str))=false:=by decide) (Sr:(nm==("__debug__":Str))=false:=by decide) (R3:(Hx pos (Gv es X.env)).any (·.1)=false:=by rfl):
  EvN X H0 O0 ps (.Call (.Name nm pc) (.Name x p'::es) [] pos) (l.map pu):=
 PE.mono (gD F hr hg hm hk hb .nil hx (bu (cy hN hv hd R8) ha ah) Sr ah R3) λσ H Q ⟨O,R,q⟩=>by
  obtain⟨v,h1,a,vs,rfl,h3,h4,h5,h6⟩:=R.at_ n _ h;refine⟨_,h1,O,R,λws H1 s1 r1=>?_⟩
  show spU X.K RH (V.ref a::ws++[]) H1 Q _;rw[HE];have sub:∀c∈O.filter (·≠a),c∈O:=λc hc=>(Io.mp hc).1
  refine⟨.lst xs::us,O.filter (·≠a),.new (l.map pu),λc hc=>(R.go s1).dom c (sub c hc),?_,hs,λa' vs' H2 s2 n2 h2 r2=>?_⟩
  ·refine Rps.cons (.lst (b4 (s1 _ _ h5) (by simp)) h6.len λi z y e1 e2=>?_) (r1.same (aI sub))
   exact ((h6.at_ i z y e1 e2).same (aD s1)).same (aI sub)
  ·refine q a' vs' H2 (s1.trans s2) (s1.free n2) h2 (Rps.pts (O:=a'::O.filter (·≠a)) (a:=a) (λc hc=>?_) (s2 _ _ (s1 _ _ h5)) r2)
   by_cases e:c=a
   ·exact .inr e
   ·rcases Gx.mp hc with z |z
    ·exact .inl (by rw[z];exact Gy)
    ·exact .inl (Gq _ (Io.mpr ⟨z,by simpa using e⟩))
end
end L2
namespace ST
open PySem
abbrev i3(h:H_)(z TI TO T:GE)(b:Bool):Prop:=h.get? z=some {cls:=.type "zip",dict:=none,data:=.fields #[Ld T,.bool b,.bool false,.ref TI,.ref TO],slots:=#[] }
variable {prog:GF}{E:Gr→Gs→Prop}
section
variable {w:G5}{A:Ha}{s:Gs}
theorem EL{T:GE}{o:Obj}{Q:Option Obj->Gs->Prop}(h:s.heap.get? T=some o)(q:Q (some o) s):GQ (G1 prog w) A (loadIfAlive T) Q E s:=λΓ p hΓ=>by
 unfold loadIfAlive;rw[Sem.wp_loadIfAlive,h];simpa using q
theorem fX{z TI TO T:GE}{b:Bool}{oT:Obj}{Q:Bool->Gs->Prop}(hz:i3 s.heap z TI TO T b)(hT:s.heap.get? T=some oT)(h:∀h',i3 h' z TI TO T true->JF z s.heap h'->Q false {s with heap:=h' }):
  GQ (G1 prog w) A (Builtin.SmallTypes.ownedTupleIsFree (.ref z)) Q E s:=by
 unfold Builtin.SmallTypes.ownedTupleIsFree;refine Gk (Jd hz rfl (x:=Ld T) rfl ?_);dsimp only[Ld];refine Gk (EL (T:=(T:Int).toNat) (o:=oT) (by rw[Ii];exact hT) ?_)
 rw[if_neg (by simp)]
 refine Gk (Jd hz rfl (x:=.bool b) rfl ?_);cases b with
 |true=>
  rw[if_neg (by decide)]
  exact Gw (h s.heap hz (MK _ _))
 |false=>
  rw[if_pos (by decide)]
  refine Gk (wpAny_setField_rec hz (by simp) λh₁ hz₁ S8=>Gw (h h₁ hz₁ S8))
theorem z_{z TI TO i1 i2 l1 l2 T:GE}{b:Bool}{oT:Obj}{k1 k2:Nat}{xs ys:Array Gr}{x y:Gr}{Q:Gr->Gs->Prop}(D:KL z TI TO i1 i2 l1 l2)
  (hz:i3 s.heap z TI TO T b) (hT:s.heap.get? T=some oT) (Ui:Lh s.heap TI (.ref i1) (.ref i2))
  (h1:s.heap.IsListIter i1 l1 k1) (h2:s.heap.IsListIter i2 l2 k2) (SJ:s.heap.IsList l1 xs) (R7:s.heap.IsList l2 ys) (hx:xs[k1]?=some x) (hy:ys[k2]?=some y)
  (hQ:∀h',i3 h' z TI TO T true->h'.IsListIter i1 l1 (k1+1)->h'.IsListIter i2 l2 (k2+1)->Lh h' s.heap.objs.size x y->(∀c o,c≠z->c≠i1->c≠i2->s.heap.get? c=some o->h'.get? c=some o)->Q (.ref s.heap.objs.size) {s with heap:=h' }):
  GQ (G1 prog w) A (Builtin.«zip.__next__» ⟨[.ref z],[]⟩) (λRR s'=>∃v,RR=.done (.ret v)/\Q v s') E s:=by
 show GQ _ _ (field (.ref z) 2 >>=_) _ _ _;refine Gk (Jd hz rfl (x:=.bool false) rfl ?_);show GQ _ _ (field (.ref z) 3 >>=_) _ _ _;refine Gk (Jd hz rfl (x:=.ref TI) rfl (Gk (J6 Ui rfl ?_)));show GQ _ _ (Builtin.SmallTypes.ownedTupleIsFree (.ref z) >>=_) _ _ _;refine Gk (fX hz hT λha za sa=>?_)
 simp only[GO,if_false];refine Gk ?_;rw[<-Kd];show GQ _ _ (forIn [GR i1,GR i2] _ _) _ _ _;simp only[K7,Mx];refine Gk (Gk (Hs ?_));show GQ _ _ (Builtin.SmallTypes.nextOf (.ref i1) >>=_) _ _ _;refine Gk (Li (h1.extBut sa.extBut D.i1z) (SJ.extBut sa.extBut D.l1z) hx λhb b1 sb=>Gw ?_)
 dsimp only;refine Gw ?_;dsimp only;refine Gk (Gk (Hs ?_));show GQ _ _ (Builtin.SmallTypes.nextOf (.ref i2) >>=_) _ _ _;refine Gk (Li ((h2.extBut sa.extBut D.i2z).extBut sb.extBut D.i12.symm) ((R7.extBut sa.extBut D.l2z).extBut sb.extBut D.l2i1) hy λhc c2 sc=>Gw ?_)
 dsimp only;refine Gw (Gw ?_);dsimp only;refine Gk (Qj ?_ (by show 2<=sizeLine;rw[Ij];lia))
 have hsz:hc.objs.size=s.heap.objs.size:=by rw[sc.1,sb.1,sa.1]
 have zc:i3 hc z TI TO T true:=sc.extBut _ _ D.i2z.symm (sb.extBut _ _ D.i1z.symm za);refine Gw ⟨_,rfl,?_⟩;show Q (.ref hc.objs.size) _;rw[hsz];refine hQ _ (Gu _ zc) (((b1.extBut sc.extBut D.i12)).at λo e=>Gu _ e) (c2.at λo e=>Gu _ e) ?_ λc o n1 n2 n3 e=>Gu _ (sc.extBut _ _ n3 (sb.extBut _ _ n2 (sa.extBut _ _ n1 e)))
 rw[<-hsz];exact GH _ rfl
theorem oB{z TI TO i1 i2 l1 l2 T:GE}{b:Bool}{oT:Obj}{k1:Nat}{xs:Array Gr}{Q:PF->Gs->Prop}(hh:A.handled=none)(D:KL z TI TO i1 i2 l1 l2)
  (hz:i3 s.heap z TI TO T b) (hT:s.heap.get? T=some oT) (Ui:Lh s.heap TI (.ref i1) (.ref i2))
  (h1:s.heap.IsListIter i1 l1 k1) (SJ:s.heap.IsList l1 xs) (hx:xs[k1]?=none)
  (hE:∀h' e,(∀c o,c≠z→c≠i1→c≠i2→s.heap.get? c=some o→h'.get? c=some o)→(∃o,h'.get? e=some o∧o.cls=.type "StopIteration")→E (.ref e) {s with heap:=h' }):
  GQ (G1 prog w) A (Builtin.«zip.__next__» ⟨[.ref z],[]⟩) Q E s:=by
 show GQ _ _ (field (.ref z) 2 >>=_) _ _ _;refine Gk (Jd hz rfl (x:=.bool false) rfl ?_);show GQ _ _ (field (.ref z) 3 >>=_) _ _ _;refine Gk (Jd hz rfl (x:=.ref TI) rfl (Gk (J6 Ui rfl ?_)));show GQ _ _ (Builtin.SmallTypes.ownedTupleIsFree (.ref z) >>=_) _ _ _;refine Gk (fX hz hT λha za sa=>?_)
 simp only[GO,if_false];refine Gk ?_;rw[<-Kd];show GQ _ _ (forIn [GR i1,GR i2] _ _) _ _ _;simp only[K7,Mx];refine Gk (Gk (Hs ?_));show GQ _ _ (Builtin.SmallTypes.nextOf (.ref i1) >>=_) _ _ _;refine Gk (Nw hh (h1.extBut sa.extBut D.i1z) (SJ.extBut sa.extBut D.l1z) hx λhb e sb he=>?_)
 exact hE hb e (λc o n1 n2 n3 q=>sb _ _ n2 (sa.extBut _ _ n1 q)) he
theorem l7{z TI TO i1 i2 l1 l2 T:GE}{b:Bool}{oT:Obj}{k1 k2:Nat}{xs ys:Array Gr}{x:Gr}{Q:PF->Gs->Prop}(hh:A.handled=none)(D:KL z TI TO i1 i2 l1 l2)
  (hz:i3 s.heap z TI TO T b) (hT:s.heap.get? T=some oT) (Ui:Lh s.heap TI (.ref i1) (.ref i2))
  (h1:s.heap.IsListIter i1 l1 k1) (h2:s.heap.IsListIter i2 l2 k2) (SJ:s.heap.IsList l1 xs) (R7:s.heap.IsList l2 ys) (hx:xs[k1]?=some x) (hy:ys[k2]?=none)
  (hE:∀h' e,(∀c o,c≠z→c≠i1→c≠i2→s.heap.get? c=some o→h'.get? c=some o)→(∃o,h'.get? e=some o∧o.cls=.type "StopIteration")→E (.ref e) {s with heap:=h' }):
  GQ (G1 prog w) A (Builtin.«zip.__next__» ⟨[.ref z],[]⟩) Q E s:=by
 show GQ _ _ (field (.ref z) 2 >>=_) _ _ _;refine Gk (Jd hz rfl (x:=.bool false) rfl ?_);show GQ _ _ (field (.ref z) 3 >>=_) _ _ _;refine Gk (Jd hz rfl (x:=.ref TI) rfl (Gk (J6 Ui rfl ?_)));show GQ _ _ (Builtin.SmallTypes.ownedTupleIsFree (.ref z) >>=_) _ _ _;refine Gk (fX hz hT λha za sa=>?_)
 simp only[GO,if_false];refine Gk ?_;rw[<-Kd];show GQ _ _ (forIn [GR i1,GR i2] _ _) _ _ _;simp only[K7,Mx];refine Gk (Gk (Hs ?_));show GQ _ _ (Builtin.SmallTypes.nextOf (.ref i1) >>=_) _ _ _;refine Gk (Li (h1.extBut sa.extBut D.i1z) (SJ.extBut sa.extBut D.l1z) hx λhb b1 sb=>Gw ?_)
 dsimp only;refine Gw ?_;dsimp only;refine Gk (Gk (Hs ?_));show GQ _ _ (Builtin.SmallTypes.nextOf (.ref i2) >>=_) _ _ _;refine Gk (Nw hh ((h2.extBut sa.extBut D.i2z).extBut sb.extBut D.i12.symm) ((R7.extBut sa.extBut D.l2z).extBut sb.extBut D.l2i1) hy λhc e sc he=>?_)
 exact hE hc e (λc o n1 n2 n3 q=>sc _ _ n3 (sb.extBut _ _ n2 (sa.extBut _ _ n1 q))) he
theorem v6{z TI TO i1 i2 l1 l2 T:GE}{b:Bool}{oT:Obj}{k1 k2:Nat}{xs ys:Array Gr}{x y:Gr}{Q:Option Gr->Gs->Prop}(D:KL z TI TO i1 i2 l1 l2)
  (hz:i3 s.heap z TI TO T b) (hT:s.heap.get? T=some oT) (Ui:Lh s.heap TI (.ref i1) (.ref i2))
  (h1:s.heap.IsListIter i1 l1 k1) (h2:s.heap.IsListIter i2 l2 k2) (SJ:s.heap.IsList l1 xs) (R7:s.heap.IsList l2 ys) (hx:xs[k1]?=some x) (hy:ys[k2]?=some y)
  (hQ:∀h',i3 h' z TI TO T true->h'.IsListIter i1 l1 (k1+1)->h'.IsListIter i2 l2 (k2+1)->Lh h' s.heap.objs.size x y->(∀c o,c≠z->c≠i1->c≠i2->s.heap.get? c=some o->h'.get? c=some o)->Q (some (.ref s.heap.objs.size)) {s with heap:=h' }):
  GQ (G1 prog w) A (LR (.ref z)) Q E s:=by
 have Ua:s.TypeIs (.ref z) "zip":=⟨_,hz,rfl⟩;unfold LR
 exact Gk (Kn (Jl (name:=Str.ofString "__next__") Ua IM
  (IB IM Ua Lj (z_ D hz hT Ui h1 h2 SJ R7 hx hy λh' a1 a2 a3 a4 a5=>Gw (hQ h' a1 a2 a3 a4 a5)) (La _))))
theorem l8{z TI TO i1 i2 l1 l2 T:GE}{b:Bool}{oT:Obj}{k1:Nat}{xs:Array Gr}{Q:Option Gr->Gs->Prop}(hh:A.handled=none)(D:KL z TI TO i1 i2 l1 l2)
  (hz:i3 s.heap z TI TO T b) (hT:s.heap.get? T=some oT) (Ui:Lh s.heap TI (.ref i1) (.ref i2)) (h1:s.heap.IsListIter i1 l1 k1) (SJ:s.heap.IsList l1 xs) (hx:xs[k1]?=none)
  (hQ:∀h',(∀c o,c≠z->c≠i1->c≠i2->s.heap.get? c=some o->h'.get? c=some o)->Q none {s with heap:=h' }):GQ (G1 prog w) A (LR (.ref z)) Q E s:=by
 have Ua:s.TypeIs (.ref z) "zip":=⟨_,hz,rfl⟩;unfold LR
 refine Gk (Kn (Jl (name:=Str.ofString "__next__") Ua IM
  (IB IM Ua Lj (oB hh D hz hT Ui h1 SJ hx λh' e hk he=>?_) (La _))))
 obtain⟨o,ho,hc⟩:=he;refine Gk (J4 (T:="StopIteration") (b:=true) ⟨o,ho,hc⟩ NZ ?_);exact Gw (hQ h' hk)
theorem lg{z TI TO i1 i2 l1 l2 T:GE}{b:Bool}{oT:Obj}{k1 k2:Nat}{xs ys:Array Gr}{x:Gr}{Q:Option Gr->Gs->Prop}(hh:A.handled=none)(D:KL z TI TO i1 i2 l1 l2)
  (hz:i3 s.heap z TI TO T b) (hT:s.heap.get? T=some oT) (Ui:Lh s.heap TI (.ref i1) (.ref i2)) (h1:s.heap.IsListIter i1 l1 k1) (h2:s.heap.IsListIter i2 l2 k2) (SJ:s.heap.IsList l1 xs) (R7:s.heap.IsList l2 ys) (hx:xs[k1]?=some x) (hy:ys[k2]?=none)
  (hQ:∀h',(∀c o,c≠z->c≠i1->c≠i2->s.heap.get? c=some o->h'.get? c=some o)->Q none {s with heap:=h' }):GQ (G1 prog w) A (LR (.ref z)) Q E s:=by
 have Ua:s.TypeIs (.ref z) "zip":=⟨_,hz,rfl⟩;unfold LR
 refine Gk (Kn (Jl (name:=Str.ofString "__next__") Ua IM
  (IB IM Ua Lj (l7 hh D hz hT Ui h1 h2 SJ R7 hx hy λh' e hk he=>?_) (La _))))
 obtain⟨o,ho,hc⟩:=he;refine Gk (J4 (T:="StopIteration") (b:=true) ⟨o,ho,hc⟩ NZ ?_);exact Gw (hQ h' hk)
end
structure ZL(xs ys:Array Gr)(z TI TO i1 i2 l1 l2 S:GE)(h:H_)(i:Nat)(ad:List GE)(c:Nat):Prop where
 ti:Lh h TI (.ref i1) (.ref i2)
 a1:h.IsListIter i1 l1 i
 a2:h.IsListIter i2 l2 i
 b1:h.IsList l1 xs
 b2:h.IsList l2 ys
 acc:h.get? S=some {cls:=.type "list",dict:=none,data:=.seq (ad.map GR).toArray c,slots:=#[] }
 len:ad.length=i
 tup:∀(j:Nat) (a:GE),ad[j]?=some a->∃x y,xs[j]?=some x/\ys[j]?=some y/\Lh h a x y
 far:∀a∈ad,a≠z/\a≠TO/\a≠i1/\a≠i2/\a≠S
 to:∃o,h.get? TO=some o
 nd:ad.Nodup
 zz:(i=0/\IsZip h z TI TO .none/\∃a b,Lh h TO a b)\/(∃b T,ad[0]?=some T/\i3 h z TI TO T b)
variable {R:N9→Gs→Prop}
section
variable {w:G5}{A:Ha}
theorem ZL.put{xs ys:Array Gr}{z TI TO i1 i2 l1 l2 S:GE}{h h':H_}{i:Nat}{ad:List GE}{c:Nat}{a:GE}{x y:Gr}(Z:ZL xs ys z TI TO i1 i2 l1 l2 S h i ad c)(D:KL z TI TO i1 i2 l1 l2)
  (hS:S≠z/\S≠TI/\S≠TO/\S≠i1/\S≠i2/\S≠l1/\S≠l2) (ha:a=h.objs.size) (hzlt:z<h.objs.size) (nto:∃o,h'.get? TO=some o) (hx:xs[i]?=some x) (hy:ys[i]?=some y)
  (n1:h'.IsListIter i1 l1 (i+1)) (n2:h'.IsListIter i2 l2 (i+1)) (np:Lh h' a x y) (nk:∀c o,c≠z->c≠TO->c≠i1->c≠i2->h.get? c=some o->h'.get? c=some o)
  (nz:∃b T,(ad++[a])[0]?=some T/\i3 h' z TI TO T b):
  ∃c',ZL xs ys z TI TO i1 i2 l1 l2 S (h'.update S (HM (·.push (.ref a)))) (i+1) (ad++[a]) c':=by
 obtain⟨s1,s2,s3,s4,s5,s6,s7⟩:=hS;have gS:h'.get? S=some {cls:=.type "list",dict:=none,data:=.seq (ad.map GR).toArray c,slots:=#[] }:=nk S _ s1 s3 s4 s5 Z.acc;have SF:∀b o,b≠S->h'.get? b=some o->(h'.update S (HM (·.push (.ref a)))).get? b=some o:=λb o hb e=>(Hd _ _ (Ne.symm hb)).trans e
 have RU:∀b o,h.get? b=some o->b≠a:=λb o e z=>by rw[z,ha]at e;exact Hc _ (GD e)
 have aS:a≠S:=λe=>RU S _ Z.acc e.symm
 have ai1:a≠i1:=by obtain⟨o,e,_⟩:=Z.a1;exact λq=>RU i1 o e q.symm
 have ai2:a≠i2:=by obtain⟨o,e,_⟩:=Z.a2;exact λq=>RU i2 o e q.symm
 have az:a≠z:=by rw[ha];exact Kf hzlt
 have aTO:a≠TO:=by obtain⟨o,e⟩:=Z.to;exact λq=>RU TO o e q.symm
 obtain⟨c',gS'⟩:∃c',(h'.update S (HM (·.push (.ref a)))).get? S=some {cls:=.type "list",dict:=none,data:=.seq ((ad.map GR).toArray.push (.ref a)) c',slots:=#[] }:=⟨_,PyProof.Rows.get?_update_seq gS (·.push (.ref a))⟩;refine⟨c',⟨SF _ _ s2.symm (nk TI _ D.TIz D.TITO D.TIi1 D.TIi2 Z.ti),n1.at λo e=>SF _ o s4.symm e,n2.at λo e=>SF _ o s5.symm e,?_,?_,?_,by rw[Hb,Z.len];rfl,?_,?_,?_,?_,?_⟩⟩
 ·exact (Z.b1.at λo e=>nk l1 o D.l1z D.l1TO D.l1i1 D.l1i2 e).at λo e=>SF _ o s6.symm e
 ·exact (Z.b2.at λo e=>nk l2 o D.l2z D.l2TO D.l2i1 D.l2i2 e).at λo e=>SF _ o s7.symm e
 ·rw[gS'];simp
 ·intro j b hj;rcases Ki j ad.length with q |q
  ·rw[GG q]at hj;obtain⟨x',y',e1,e2,e3⟩:=Z.tup j b hj;obtain⟨f1,f2,f3,f4,f5⟩:=Z.far b (GJ hj);exact⟨x',y',e1,e2,SF _ _ f5 (nk b _ f1 f2 f3 f4 e3)⟩
  ·rw[GK q]at hj
   have hj0:j=i:=by
    have:=(GB.mp hj).1;simp at this;rw[Z.len]at *;lia
   subst hj0;rw[Z.len,Q4]at hj;cases hj;exact⟨x,y,hx,hy,SF _ _ aS np⟩
 ·intro b hb;rcases HU.mp hb with q |q
  ·exact Z.far b q
  ·rw[G9.mp q];exact⟨az,aTO,ai1,ai2,aS⟩
 ·obtain⟨o,e⟩:=nto;exact⟨o,SF _ _ s3.symm e⟩
 ·rw[Lw];refine⟨Z.nd,by simp,λp hp q hq=>?_⟩
  rw[G9.mp hq];obtain⟨j,hj⟩:=G7.mp hp;obtain⟨_,_,_,_,e⟩:=Z.tup j p hj;exact RU p _ e
 ·obtain⟨b,T,e1,e2⟩:=nz;exact .inr ⟨b,T,e1,SF _ _ s1.symm e2⟩
structure ZF(xs ys:Array Gr)(S:GE)(h:H_)(ad:List GE)(c:Nat):Prop where
 acc:h.get? S=some {cls:=.type "list",dict:=none,data:=.seq (ad.map GR).toArray c,slots:=#[] }
 len:ad.length=ys.size
 tup:∀(j:Nat) (a:GE),ad[j]?=some a->∃x y,xs[j]?=some x/\ys[j]?=some y/\Lh h a x y
 ne:∀a∈ad,a≠S
 nd:ad.Nodup
theorem qD(hh:A.in1.handled=none){xs ys:Array Gr}{z TI TO i1 i2 l1 l2 S:GE}(D:KL z TI TO i1 i2 l1 l2)(hS:S≠z/\S≠TI/\S≠TO/\S≠i1/\S≠i2/\S≠l1/\S≠l2)(hxy:ys.size<=xs.size)(hn:xs.size<=1000)(res:Gr):
  ∀(k i:Nat) (s:Gs) (ad:List GE) (c:Nat),ys.size-i=k->i<=ys.size->ZL xs ys z TI TO i1 i2 l1 l2 S s.heap i ad c->
   (∀h' Tg c',ZF xs ys S h' Tg c'->(∀b o,b≠z->b≠TO->b≠i1->b≠i2->b≠S->s.heap.get? b=some o->h'.get? b=some o)->(∀a∈Tg,a∈ad\/s.heap.get? a=none)->R (.ok (.ret res)) {s with heap:=h' })->
   J7 (G1 prog w) A (.builtin "list.extend.loop" ⟨[.ref S,.ref z,res],[]⟩) R s:=by
 intro k
 induction k with
 |zero=>
  intro i s ad c hk hi Z hR;obtain rfl:i=ys.size:=by lia
  refine JR Mz ?_;rw[JM HW _];show GQ _ A.in1 (LR (.ref z) >>=_) _ _ s
  have RR:∀h',(∀b o,b≠z->b≠TO->b≠i1->b≠i2->s.heap.get? b=some o->h'.get? b=some o)->R (.ok (.ret res)) {s with heap:=h' }:=λh' kp=>
   hR h' ad c ⟨kp S _ hS.1 hS.2.2.1 hS.2.2.2.1 hS.2.2.2.2.1 Z.acc,Z.len,λj a e=>by
    obtain⟨x,y,e1,e2,e3⟩:=Z.tup j a e;obtain⟨f1,f2,f3,f4,f5⟩:=Z.far a (GJ e);exact⟨x,y,e1,e2,kp a _ f1 f2 f3 f4 e3⟩,λa ha=>(Z.far a ha).2.2.2.2,Z.nd⟩ (λb o n1 n2 n3 n4 _ e=>kp b o n1 n2 n3 n4 e) λa ha=>.inl ha
  rcases Z.zz with ⟨h0,hz,a,b,hTO⟩ |⟨b,T,hT,hz⟩
  ·refine Gk (NS hh D hz Z.ti hTO Z.a1 Z.a2 Z.b1 Z.b2 (.inr (by simp)) λh' kp=>?_)
   exact Gw (RR h' kp)
  ·obtain⟨x,y,_,_,hp⟩:=Z.tup 0 T hT;by_cases hq:ys.size<xs.size
   ·refine Gk (lg hh D hz hp Z.ti Z.a1 Z.a2 Z.b1 Z.b2 (HI hq) (by simp) λh' kp=>?_)
    exact Gw (RR h' λb o n1 _ n3 n4 e=>kp b o n1 n3 n4 e)
   ·refine Gk (l8 hh D hz hp Z.ti Z.a1 Z.b1 (Array.getElem?_eq_none (by lia)) λh' kp=>?_)
    exact Gw (RR h' λb o n1 _ n3 n4 e=>kp b o n1 n3 n4 e)
 |succ k ih=>
  intro i s ad c hk hi Z hR;have RU:i<xs.size:=by lia
  have hly:i+1<=ys.size:=by lia
  have hx:xs[i]?=some xs[i]:=HI RU;have hy:ys[i]?=some (ys[i]'(by lia)):=HI (by lia)
  refine JR Mz ?_;rw[JM HW _];show GQ _ A.in1 (LR (.ref z) >>=_) _ _ s
  have go:∀h',(∃b T,(ad++[s.heap.objs.size])[0]?=some T/\i3 h' z TI TO T b)->(∃o,h'.get? TO=some o)->h'.IsListIter i1 l1 (i+1)->h'.IsListIter i2 l2 (i+1)->Lh h' s.heap.objs.size xs[i] (ys[i]'(by lia))->
    (∀b o,b≠z->b≠TO->b≠i1->b≠i2->s.heap.get? b=some o->h'.get? b=some o)->
    GQ (G1 prog w) A.in1 (MP S (·.push (.ref s.heap.objs.size)) >>=λ_=>again (.builtin "list.extend.loop" ⟨[.ref S,.ref z,res],[]⟩))
     (λRR s'=>match RR with | .done f=>R (.ok f) s' | .again c'=>c'.quiet=true/\J7 (G1 prog w) A c' R s') (λe s'=>R (.error e) s') {s with heap:=h' }:=λh' nz nto n1 n2 np nk=>by
   have gS:h'.get? S=some {cls:=.type "list",dict:=none,data:=.seq (ad.map GR).toArray c,slots:=#[] }:=nk S _ hS.1 hS.2.2.1 hS.2.2.2.1 hS.2.2.2.2.1 Z.acc
   have hzlt:z<s.heap.objs.size:=by
    rcases Z.zz with ⟨_,hz,_⟩ |⟨_,_,_,hz⟩ <;>exact GD hz
   obtain⟨c',Z'⟩:=Z.put D hS rfl hzlt nto hx hy n1 n2 np nk nz;have TJ:((ad.map GR).toArray).size=i:=by simp[Z.len]
   refine Gk (JT (s:={s with heap:=h' }) gS rfl (Gw ⟨Kp HW _,ih (i+1) _ (ad++[s.heap.objs.size]) c' (by lia) hly Z' λh2 ad2 c2 F kp fr=>?_⟩) (by rw[TJ,Ij];lia) (by rw[Array.size_push,TJ,Ij];lia))
   refine hR h2 ad2 c2 F (λb o m1 m2 m3 m4 m5 e=>kp b o m1 m2 m3 m4 m5 ((Hd _ _ (Ne.symm m5)).trans (nk b o m1 m2 m3 m4 e))) λa ha=>?_
   rcases fr a ha with q |q
   ·rcases HU.mp q with q |q
    ·exact .inl q
    ·right;rw[G9.mp q];exact LQ (GA _)
   ·right
    cases hq:s.heap.get? a with
    |none=>rfl
    |some o=>
     exfalso
     by_cases e1:a=S
     ·subst e1;exact F.ne a ha rfl
     ·have q':h'.get? a=none:=by
       have:=q;rw[Hd _ _ (Ne.symm e1)]at this;exact this
      by_cases f1:a=z
      ·obtain⟨_,_,_,e⟩:=nz;rw[f1,e]at q';cases q'
      ·by_cases f2:a=TO
       ·obtain⟨o',e⟩:=nto;rw[f2,e]at q';cases q'
       ·by_cases f3:a=i1
        ·obtain⟨o',e,_⟩:=n1;rw[f3,e]at q';cases q'
        ·by_cases f4:a=i2
         ·obtain⟨o',e,_⟩:=n2;rw[f4,e]at q';cases q'
         ·rw[nk a o f1 f2 f3 f4 hq]at q';cases q'
  rcases Z.zz with ⟨h0,hz,a,b,hTO⟩ |⟨b,T,hT,hz⟩
  ·subst h0;have had:ad=[]:=Ih.mp Z.len;refine Gk (Nx D hz Z.ti hTO Z.a1 Z.a2 Z.b1 Z.b2 hx hy λh' m1 m2 m3 m4 m5 _ kp=>?_)
   exact go h' ⟨false,_,by rw[had];rfl,m1⟩ ⟨_,m2⟩ m3 m4 m5 kp
  ·obtain⟨x,y,_,_,hp⟩:=Z.tup 0 T hT;refine Gk (v6 D hz hp Z.ti Z.a1 Z.a2 Z.b1 Z.b2 hx hy λh' m1 m3 m4 m5 kp=>?_)
   refine go h' ⟨true,T,?_,m1⟩ ?_ m3 m4 m5 λb o n1 _ n3 n4 e=>kp b o n1 n3 n4 e
   ·rw[GG (GB.mp hT).1];exact hT
   ·obtain⟨o,e⟩:=Z.to;exact⟨o,kp TO o D.TOz D.TOi1 D.TOi2 e⟩
end
theorem B4:NJ (.type "zip") "__len__"=pure none:=by rw[Kj,Jh];kernel_rfl
theorem Ap:NJ (.type "zip") "__length_hint__"=pure none:=by rw[Kj,Jh];kernel_rfl
theorem x9(prog:GF)(w:G5):wZ prog w "zip":=λA E s r Q hT h=>by
 unfold Builtin.List.listLengthHint;refine Gk (Jw hT B4 ?_);show GQ _ A (specialOf (GR r) (Str.ofString "__length_hint__") >>=_) _ _ _;refine Gk (Jw hT Ap ?_);exact Gw (h _)
section
variable {w:G5}{A:Ha}{s:Gs}
theorem w9{z TI TO:GE}{f:Gr}{Q:Gr->Gs->Prop}(hz:IsZip s.heap z TI TO f)(h:Q (.ref z) s):GQ (G1 prog w) A (OU (.ref z)) Q E s:=by
 have hT:s.TypeIs (.ref z) "zip":=⟨_,hz,rfl⟩;refine MN hT Ny (IB Ny hT PySem.F.entry_zip_iter ?_ (PySem.F.args_zip_iter_1 _));exact Gw ⟨_,rfl,"zip",_,hT,IM.lookup,h⟩
theorem rY(hh:A.in1.handled=none){xs ys:Array Gr}{z TI TO i1 i2 l1 l2 S:GE}(D:KL z TI TO i1 i2 l1 l2)(hS:S≠z/\S≠TI/\S≠TO/\S≠i1/\S≠i2/\S≠l1/\S≠l2)(hxy:ys.size<=xs.size)(hn:xs.size<=1000)(res:Gr){c₀:Nat}
  (hz:IsZip s.heap z TI TO .none) (Z:∀h',(∀b o,b≠S→s.heap.get? b=some o→h'.get? b=some o)→∀c,h'.get? S=some {cls:=.type "list",dict:=none,data:=.seq #[] c,slots:=#[] }→ZL xs ys z TI TO i1 i2 l1 l2 S h' 0 [] c)
  (gS:s.heap.get? S=some {cls:=.type "list",data:=.seq #[] c₀ })
  (hR:∀h' Tg c',ZF xs ys S h' Tg c'->(∀b o,b≠z->b≠TO->b≠i1->b≠i2->b≠S->s.heap.get? b=some o->h'.get? b=some o)->(∀a∈Tg,s.heap.get? a=none)->R (.ok (.ret res)) {s with heap:=h' }):
  GQ (G1 prog w) A.in1 (Builtin.List.listExtendWith (.ref S) (.ref z) res)
   (λRR s'=>match RR with | .done f=>R (.ok f) s' | .again c'=>c'.quiet=true/\J7 (G1 prog w) A c' R s') (λe s'=>R (.error e) s') s:=by
 have hT:s.TypeIs (.ref z) "zip":=⟨_,hz,rfl⟩;unfold Builtin.List.listExtendWith;refine Gk (Nq hT ?_);have k1:Builtin.List.listSameRef (.ref S) (.ref z)=false:=by simp[Builtin.List.listSameRef,hS.1]
 have k2:(HP "zip"==HP "list")=false:=by decide
 have k3:(HP "zip"==HP "tuple")=false:=by decide
 simp only[k1,k2,k3,Oe,GO,if_false];refine Gk (w9 hz (Gk (Hs (x9 prog w _ _ _ _ _ hT λb=>?_))))
 refine JS (λ_=>?_) (λ_=>?_)
 ·refine Gk (OO (Gk ?_));show GQ _ A.in1 (MP S (·.push .none) >>=λ_=>MP S (·.pop)) _ _ _
  refine Gk (JT gS rfl ?_);have g2:=Hz (HM (·.push GU)) gS rfl;refine JT (hz:=by seq_fits) g2 rfl ?_
  have g3:=Hz (HM (·.pop)) g2 rfl;have SF:∀b o,b≠S->s.heap.get? b=some o->((s.heap.update S (HM (·.push GU))).update S (HM (·.pop))).get? b=some o:=λb o hb e=>(Hd _ _ (Ne.symm hb)).trans ((Hd _ _ (Ne.symm hb)).trans e)
  refine Gw ⟨Kp HW _,qD (s:={s with heap:=(s.heap.update S (HM (·.push GU))).update S (HM (·.pop)) }) hh D hS hxy hn res _ 0 [] _ rfl (Hf _) (Z _ SF _ g3) λh' Tg c' F kp fr=>?_⟩
  refine hR h' Tg c' F (λb o m1 m2 m3 m4 m5 e=>kp b o m1 m2 m3 m4 m5 (SF b o m5 e)) λa ha=>?_
  rcases fr a ha with q |q
  ·simp at q
  ·cases hq:s.heap.get? a with
   |none=>rfl
   |some o=>
    have e:=SF a o (F.ne a ha) hq;rw[e]at q;cases q
 ·refine Gw ⟨Kp HW _,qD hh D hS hxy hn res _ 0 _ [] _ rfl (Hf _) (Z _ (λ_ _ _ e=>e) _ gS) λh' Tg c' F kp fr=>?_⟩
  exact hR h' Tg c' F kp λa ha=>(fr a ha).resolve_left (by simp)
theorem call_list_zip{Q:Gr->Gs->Prop}(hh:A.handled=none){xs ys:Array Gr}{z TI TO i1 i2 l1 l2:GE}(D:KL z TI TO i1 i2 l1 l2)(hxy:ys.size<=xs.size)(hn:xs.size<=1000)
  (hz:IsZip s.heap z TI TO .none) (Ui:Lh s.heap TI (.ref i1) (.ref i2)) {a b:Gr} (hTO:Lh s.heap TO a b) (h1:s.heap.IsListIter i1 l1 0) (h2:s.heap.IsListIter i2 l2 0) (SJ:s.heap.IsList l1 xs) (R7:s.heap.IsList l2 ys)
  (hQ:∀h' Tg c',ZF xs ys s.heap.objs.size h' Tg c'->(∀b o,b≠z->b≠TO->b≠i1->b≠i2->s.heap.get? b=some o->h'.get? b=some o)->(∀a∈Tg,s.heap.get? a=none)->Q (.ref s.heap.objs.size) {s with heap:=h' }):
  GQ (G1 prog w) A (call (.type "list") [.ref z]) Q E s:=by
 refine Qk (Q₁:=λobj RJ=>obj=.ref s.heap.objs.size∧RJ={s with heap:=s.heap.push {cls:=.type "list",data:=.seq #[] } }) N6 (MX _) MY (code_list_new _ ⟨rfl,rfl⟩) λobj RJ h₁=>?_
 obtain⟨rfl,rfl⟩:=h₁;generalize hSd:s.heap.objs.size=S at *;have lt:∀c o,s.heap.get? c=some o->S≠c:=λc o e q=>by rw[<-q,<-hSd]at e;exact Hc _ (GD e)
 have gS:(s.heap.push {cls:=.type "list",data:=.seq #[] }).get? S=some {cls:=.type "list",data:=.seq #[] }:=by rw[←hSd];exact GH _ rfl
 have up:∀b o,s.heap.get? b=some o→(s.heap.push {cls:=.type "list",data:=.seq #[] }).get? b=some o:=λb o e=>Gu _ e
 have hS:S≠z/\S≠TI/\S≠TO/\S≠i1/\S≠i2/\S≠l1/\S≠l2:=⟨lt _ _ hz,lt _ _ Ui,lt _ _ hTO,by obtain⟨o,e,_⟩:=h1;exact lt _ _ e,by obtain⟨o,e,_⟩:=h2;exact lt _ _ e,by obtain⟨o,e,_⟩:=SJ;exact lt _ _ e,by obtain⟨o,e,_⟩:=R7;exact lt _ _ e⟩
 refine⟨⟨_,gS,rfl⟩,MQ _ _,?_⟩;show GQ _ A.in1.in1 (Builtin.List.listItems (.ref S) >>=λold=>Builtin.List.listUpdate (.ref S) (λ_=>#[]) >>=λ_=>letGo old.toList.reverse >>=λ_=>Builtin.List.listExtendWith (.ref S) (.ref z) .none) _ _ _
 refine Gk ?_;unfold Builtin.List.listItems;refine Gk (J6 gS rfl (Gw ?_));show GQ _ A.in1.in1 (MP S (λ_=>#[]) >>=λ_=>letGo (#[]:Array Gr).toList.reverse >>=λ_=>Builtin.List.listExtendWith (.ref S) (.ref z) .none) _ _ _
 refine Gk (JT gS rfl ?_);have g2:=Hz (HM (λ_=>(#[]:Array Gr))) gS rfl
 have SF:∀b o,b≠S→s.heap.get? b=some o→((s.heap.push {cls:=.type "list",data:=.seq #[] }).update S (HM (λ_=>(#[]:Array Gr)))).get? b=some o:=λb o hb e=>(Hd _ _ (Ne.symm hb)).trans (up b o e)
 refine Gk (wpAny_letGo ?_);refine rY (A:=A.in1) (s:={s with heap:=(s.heap.push {cls:=.type "list",data:=.seq #[] }).update S (HM (λ_=>(#[]:Array Gr))) }) hh D hS hxy hn .none (SF _ _ hS.1.symm hz) (λh' kp c e=>?_) g2 λh' Tg c' F kp fr=>?_
 ·have k:∀b o,b≠S->s.heap.get? b=some o->h'.get? b=some o:=λb o hb e=>kp b o hb (SF b o hb e)
  exact⟨k _ _ hS.2.1.symm Ui,h1.at λo e=>k _ o hS.2.2.2.1.symm e,h2.at λo e=>k _ o hS.2.2.2.2.1.symm e,SJ.at λo e=>k _ o hS.2.2.2.2.2.1.symm e,R7.at λo e=>k _ o hS.2.2.2.2.2.2.symm e,e,rfl,λj a e=>by simp at e,λa ha=>by simp at ha,⟨_,k _ _ hS.2.2.1.symm hTO⟩,Ql,.inl ⟨rfl,k _ _ hS.1.symm hz,a,b,k _ _ hS.2.2.1.symm hTO⟩⟩
 ·refine⟨rfl,hQ h' Tg c' F (λb o m1 m2 m3 m4 e=>kp b o m1 m2 m3 m4 (λq=>lt b o e q.symm) (SF b o (λq=>lt b o e q.symm) e)) λa ha=>?_⟩
  cases hq:s.heap.get? a with
  |none=>rfl
  |some o=>
   have e:=SF a o (F.ne a ha) hq;have q:=fr a ha;rw[show ({s with heap:=(s.heap.push {cls:=.type "list",data:=.seq #[] }).update S (HM (λ_=>(#[]:Array Gr))) }:Gs).heap.get? a=some o from e]at q
   cases q
end
end ST
namespace L2
open PySem PySem.Spec PyProof.Rows
theorem wl{a b:Nat}(h:a<b\/b<a):@Ne GE a b:=λe=>by
 have e':a=b:=e;lia
theorem qJ:IF "zip"=some (.type "zip"):=by decide+kernel
section
variable {P:GF}{w:G5}{H:Hp}{h:H_}{a:GE}{o:HO}
theorem im(x:bG P w H h a o):∃ob,h.get? a=some ob:=by
 cases o with
 |lst xs=>obtain⟨_,_,_,_,e⟩:=x;exact⟨_,e⟩
 |tup xs=>obtain⟨_,_,_,ob,e,_⟩:=x;exact⟨_,e⟩
 |dK kvs=>obtain⟨_,_,_,_,o,_,_,e,_⟩:=x;exact⟨_,e⟩
 |dT kvs=>obtain⟨_,_,_,_,o,_,_,e,_⟩:=x;exact⟨_,e⟩
 |set S n=>obtain⟨o,_,_,_,e,_⟩:=x;exact⟨_,e⟩
 |ins C dx fs=>obtain⟨_,_,_,e,_⟩:=x;exact⟨_,e⟩
 |own y=>exact x
 |xd fs=>obtain⟨_,⟨_,_,_,e,_⟩,_⟩:=x;exact⟨_,e⟩
 |rng lo hi=>obtain⟨_,_,_,e⟩:=x;exact⟨_,e⟩
 |frz ob u=>obtain⟨e,_⟩:=x;exact⟨_,e⟩
 |tbl ps=>exact⟨_,(show h.get? a=some _ from x)⟩
 |met f y=>exact⟨_,(show h.get? a=some _ from x)⟩
 |ext φ=>exact x.2.1
end
theorem BC{X:Cx}{pins:List (GE×Obj)}{σ:List (Option V)}{H H':Hp}{s:Gs}{h':H_}{t':Nat}(I:Inv X pins σ H s)(k:∀b u,s.heap.get? b=some u->h'.get? b=some u)
  (old:∀b u,s.heap.get? b=some u->H' b=H b) (new:∀b o,s.heap.get? b=none->H' b=some o->bG X.prog X.w H' h' b o):Inv X pins σ H' {s with heap:=h',toks:=t' }:=by
 have at':∀b o,H b=some o->H' b=some o:=λb o e=>let ⟨ob,q⟩:=im (I.hok b o e);(old b ob q).trans e
 refine I.un ⟨λb u q _ _ _=>k b u q,λb u q _ _ _=>⟨u.slots,k b u q⟩,λb u q n _=>(old b u q).trans n,λb u q _=>⟨u,k b u q⟩,λb xs q=>at' b _ q,λb u xs q=>at' b _ q,λb ps q=>⟨#[],by rw[at' b _ q];simp⟩⟩ λb u e=>?_
 cases hb:s.heap.get? b with
 |some ob=>
  rw[old b ob hb]at e;exact (I.hok b u e).stay (λc v _ q=>k c v q) (λc q=>at' c _ q) λc xs q=>at' c _ q
 |none=>exact new b u hb e
def lL(H:Hp):List GE->List (List V)->Hp
 |[],_=>H
 |a::as,ps=>match ps with
  |[]=>H
  |p::ps=>upd (lL H as ps) a (.tup p)
theorem qj{H:Hp}:∀{as:List GE}{ps:List (List V)}{b:GE},b ∉ as->lL H as ps b=H b
 |[],_,_,_=>rfl
 |a::as,[],_,_=>rfl
 |a::as,p::ps,b,h=>by
  show upd (lL H as ps) a (.tup p) b=H b;rw[aE λz=>h (by rw[z];exact Gy)]
  exact qj λz=>h (Gq _ z)
theorem tK{H:Hp}:∀{as:List GE}{ps:List (List V)}{j:Nat}{a:GE}{p:List V},as.Nodup->as[j]?=some a->ps[j]?=some p->lL H as ps a=some (.tup p)
 |[],_,j,_,_,_,e,_=>by simp at e
 |_::_,[],j,_,_,_,_,e=>by simp at e
 |b::as,q::ps,0,a,p,_,e1,e2=>by
  simp at e1 e2;subst e1;subst e2;exact aF
 |b::as,q::ps,j+1,a,p,nd,e1,e2=>by
  show upd (lL H as ps) b (.tup q) a=_;rw[HH]at e1 e2;have nd':=Jg.mp nd;rw[aE λz=>nd'.1 (by rw[<-z];exact GJ e1)]
  exact tK nd'.2 e1 e2
theorem qi{H:Hp}:∀{as:List GE}{ps:List (List V)}{b:GE}{o:HO},lL H as ps b=some o->H b=some o\/∃(j:Nat) (p:List V),as[j]?=some b/\ps[j]?=some p/\o=.tup p
 |[],_,_,_,e=>.inl e
 |_::_,[],_,_,e=>.inl e
 |a::as,p::ps,b,o,e=>by
  have e':upd (lL H as ps) a (.tup p) b=some o:=e;by_cases hb:b=a
  ·subst hb;rw[aF]at e';cases e';exact .inr ⟨0,p,rfl,rfl,rfl⟩
  ·rw[aE hb]at e';rcases qi e' with z |⟨j,q,e1,e2,e3⟩
   ·exact .inl z
   ·exact .inr ⟨j+1,q,by simpa using e1,by simpa using e2,e3⟩
theorem mE:∀(ad:List GE),aK (ad.map V.ref) (ad.map GR)
 |[]=>.nil
 |_::ad=>.cons rfl (mE ad)
section
variable {X:Cx}{H0:Hp}{O0:List GE}{ps:PSt}{e f:Expr}{x y:U}{xs ys:List U}{pos RN p p':Pos}
theorem sv(hc:X.calm=true)(hg:Gl X "list")(hm:X.mg "list"=none)(hgz:Gl X "zip")(hmz:X.mg "zip"=none)(ha:Ev X H0 O0 ps e x)(hx:x=.lst xs∨x=.scr xs)(hb:Ev X H0 O0 ps f y)(hy:y=.lst ys∨y=.scr ys)(hl:ys.length≤xs.length)(hn:xs.length≤1000)
  (he:Gv [e,f] X.env=(false,HY e X.env)::Gv [f] X.env:=by rfl) (hf:Gv [f] X.env=(false,HY f X.env)::Gv [] X.env:=by rfl):
  EvN X H0 O0 ps (.Call (.Name "list" p) [.Call (.Name "zip" p') [e,f] [] RN] [] pos) (Nz (λa b=>U.tup [a,b]) xs ys):=by
 rintro pins s σ H Q I ⟨O,R,q⟩;have hh:X.A.handled=none:=I.ok.hd hc;refine Hj (c5 I hg hm boot_list ?_);refine callWith_type1 (e:=.Call (.Name "zip" p') [e,f] [] RN) (rest:=[]) ?_ bg rfl;rw[bg];show GQ _ _ (M_ ((false,HY (.Call (.Name "zip" p') [e,f] [] RN) X.env)::Hx pos (Gv [] X.env))) _ _ s;refine Ik ?_;refine Hj (c5 I hgz hmz qJ ?_);refine callWith_type1 (thn (bu ha (bu hb cY hf) he RN pins s σ H (λvs H1=>∃v u,vs=[v,u]/\aH H H1/\Rp X.K (hid H1 O) v x/\Rp X.K (hid H1 O) u y) I ⟨O,R,λv H1 s1 r1=>⟨O,R.go s1,λu H2 s2 r2=>⟨v,u,rfl,s1.trans s2,r1.same (aD s2),r2⟩⟩⟩) λus s1 hx'=>?_) he (by rw[hf];rfl)
 obtain⟨vs,H1,I1,rv,v,u,rfl,sm,rp1,rp2⟩:=hx';obtain⟨w1,w2,rfl,ru1,ru2⟩:=iR rv;obtain⟨a,va,rfl,Uw,rs1⟩:=wm rp1 hx;obtain⟨b,vb,rfl,Sm,rs2⟩:=wm rp2 hy;cases ru1;cases ru2;obtain⟨ia,ra,SU,hz1⟩:=I1.list (aB.seq Uw);obtain⟨ib,rb,R0,hz2⟩:=I1.list (aB.seq Sm);have la:=ra.length;have lb:=rb.length;have l1:=rs1.len;have l2:=rs2.len;have al:@LT.lt Nat instLTNat a s1.heap.objs.size:=by obtain⟨o,ho,_⟩:=SU.isList;exact GD ho
 have bl:@LT.lt Nat instLTNat b s1.heap.objs.size:=by obtain⟨o,ho,_⟩:=R0.isList;exact GD ho
 refine PySem.call_zip_2 SU.isList R0.isList λh' z1 z2 z3 z4 z5 z6 z7=>?_
 refine Jo ?_;have D:KL (s1.heap.objs.size+4) (s1.heap.objs.size+2) (s1.heap.objs.size+3) s1.heap.objs.size (s1.heap.objs.size+1) a b:=by constructor <;>exact wl (by lia)
 have sxy:ib.toArray.size<=ia.toArray.size:=by simp;lia
 have sx:ia.toArray.size<=1000:=by simp;lia
 refine ST.call_list_zip (s:={s1 with heap:=h' }) hh D sxy sx z1 z2 z3 z4 z5 (SU.isList.at λo e=>z7 _ o e) (R0.isList.at λo e=>z7 _ o e) λh3 ad c F kp fr=>?_
 have lD:s1.heap.objs.size<=({s1 with heap:=h' }:Gs).heap.objs.size:=by show _<=h'.objs.size;lia
 generalize ({s1 with heap:=h' }:Gs).heap.objs.size=D0 at *
 have keep:∀b o,s1.heap.get? b=some o->h3.get? b=some o:=λb o e=>by
  have this:@LT.lt Nat instLTNat b s1.heap.objs.size:=GD e;exact kp b o (wl (by lia)) (wl (by lia)) (wl (by lia)) (wl (by lia)) (z7 b o e)
 have fr':∀a∈ad,s1.heap.get? a=none:=λa ha=>by
  cases hq:s1.heap.get? a with
  |none=>rfl
  |some o=>
   have q1:=fr a ha;rw[show ({s1 with heap:=h' }:Gs).heap.get? a=some o from z7 a o hq]at q1
   cases q1
 have frD:s1.heap.get? D0=none:=LQ lD
 have nH:∀a,s1.heap.get? a=none->H1 a=none:=λa e=>by
  cases hq:H1 a with
  |none=>rfl
  |some o=>
   obtain⟨ob,z⟩:=im (I1.hok a o hq);rw[e]at z;cases z
 generalize hP:Nz (λx y:V=>[x,y]) va vb=PS
 have old:∀b u,s1.heap.get? b=some u->upd (lL H1 ad PS) D0 (.lst (ad.map V.ref)) b=H1 b:=λb u e=>by
  rw[aE λz=>by rw[z,frD]at e;cases e]
  exact qj λz=>by rw[fr' b z]at e;cases e
 have sm1:aH H1 (upd (lL H1 ad PS) D0 (.lst (ad.map V.ref))):=λb o e=>let ⟨ob,z⟩:=im (I1.hok b o e);(old b ob z).trans e
 have lad:ad.length=ib.length:=by rw[F.len];simp
 have atT:∀(j:Nat) (c:GE) (v u:V),ad[j]?=some c->va[j]?=some v->vb[j]?=some u->upd (lL H1 ad PS) D0 (.lst (ad.map V.ref)) c=some (.tup [v,u]):=λj c v u e1 e2 e3=>by
  rw[aE (F.ne c (GJ e1))];refine tK F.nd e1 ?_;rw[<-hP];exact Jk.mpr ⟨v,u,e2,e3,rfl⟩
 have I3:Inv X pins σ (upd (lL H1 ad PS) D0 (.lst (ad.map V.ref))) {s1 with heap:=h3 }:=by
  refine BC (t':=s1.toks) I1 keep old λb o nb e=>?_
  by_cases hbD:b=D0
  ·subst hbD;rw[aF]at e;cases e;exact⟨by rw[Gp,lad,<-lb];exact hz2,ad.map GR,c,mE ad,F.acc⟩
  ·rw[aE hbD]at e;rcases qi e with z |⟨j,pr,e1,e2,rfl⟩
   ·rw[nH b nb]at z;cases z
   ·rw[<-hP]at e2;obtain⟨v,u,f1,f2,rfl⟩:=Jk.mp e2;obtain⟨xv,g1,r1⟩:=ra.get f1;obtain⟨yv,g2,r2⟩:=rb.get f2;obtain⟨xv',yv',k1,k2,k3⟩:=F.tup j b e1
    have m1:xv'=xv:=by
     have:ia.toArray[j]?=some xv:=by simpa using g1
     rw[this]at k1;cases k1;rfl
    have m2:yv'=yv:=by
     have:ib.toArray[j]?=some yv:=by simpa using g2
     rw[this]at k2;cases k2;rfl
    subst m1;subst m2;exact⟨(show 2<=sizeLine by decide),[xv',yv'],.cons r1 (.cons r2 .nil),_,k3,rfl,_,rfl⟩
 refine⟨.ref D0,_,I3,rfl,q D0 _ _ (sm.trans sm1) (sm.free (nH _ frD)) aF ⟨?_,λi v u h1 h2=>?_⟩⟩
 ·rw[Gp,List.length_zipWith];lia
 ·rw[Gz]at h1;cases hi:ad[i]? with
  |none=>rw[hi]at h1;cases h1
  |some c'=>
   rw[hi]at h1;obtain rfl:V.ref c'=v:=by simpa using h1
   obtain⟨xi,yi,f1,f2,rfl⟩:=Jk.mp h2;obtain⟨vi,g1,r1⟩:=rs1.get f1;obtain⟨wi,g2,r2⟩:=rs2.get f2;have S:=bh (O:=O) sm1 (nH _ frD);have rr:=Rps.cons (r1.same S) (Rps.cons (r2.same S) Rps.nil);have TN:=GJ hi;refine .tup (SqT.of (b4 (atT i c' vi wi hi g1 g2) λz=>?_)) rr.len rr.at_
   rcases Gx.mp z with z |z
   ·exact F.ne c' TN z
   ·exact (R.go sm).dom c' z (nH _ (fr' c' TN))
theorem vV(hc:X.calm=true)(hg:Gl X "list")(hm:X.mg "list"=none)(hgz:Gl X "zip")(hmz:X.mg "zip"=none)(ha:Ev X H0 O0 ps e x)(hx:x=.lst xs∨x=.scr xs)(hb:Ev X H0 O0 ps f y)(hy:y=.lst ys∨y=.scr ys)(hl:ys.length=xs.length)(hn:xs.length≤1000)
  (he:Gv [e,f] X.env=(false,HY e X.env)::Gv [f] X.env:=by rfl) (hf:Gv [f] X.env=(false,HY f X.env)::Gv [] X.env:=by rfl):
  EvN X H0 O0 ps (.Call (.Name "list" p) [.Call (.Name "zip" p') [e,f] [] RN] [] pos) (Nz (λa b=>U.tup [a,b]) xs ys):=sv hc hg hm hgz hmz ha hx hb hy (Ng hl) hn he hf
end
theorem jA(ns:List Int):∀j,preSum (λi=>ns.getD i 0) j=(ns.take j).sum
 |0=>by simp[preSum]
 |j+1=>by rw[preSum,jA ns j,PySem.sum_take_succ]
section
variable {X:Cx}{ns:List Int}{M:Int}
theorem lS{K:Gn}{H:Hp}{ws:List V}{RB:List Gr}(rv:aK ws RB)(rs:Rps K H ws (ns.map U.int))(i:Nat)(z:Gr)(e:RB.toArray[i]?=some z):∃t,z=.int (ns.getD i 0) t:=by
 have hl:=rs.len;rw[Gp]at hl;have e4:RB[i]?=some z:=by simpa using e
 have hi:i<RB.length:=aR e4;have hw:i<ws.length:=by rw[rv.length];exact hi
 have hb:i<ns.length:=by lia
 obtain⟨u,e1,e2⟩:=rv.get (Gm hw);have e3:=rs.at_ i ws[i] (.int ns[i]) (Gm hw) (by rw[Gz,Gm hb];rfl)
 rw[e4]at e1;cases e1;generalize ws[i]=wi at *;cases e3;rw[G0,Gm hb];obtain⟨t,rfl⟩:=e2;exact⟨t,rfl⟩
theorem DY(hc:X.calm=true)(hM:M∈ns∧∀a∈ns,M≤a):dJ X (.builtin "min") [.lst (ns.map U.int)] (.int M):=by
 intro pins s σ H vs us Q I r hq;obtain⟨O,d,rs,q⟩:=hq;obtain⟨v,rfl,h1⟩:=cE rs;obtain⟨p1,rfl,r1⟩:=de r;cases h1 with
 | @lst a ws _ hq hl hh=>
  cases r1;obtain⟨RB,rv,pl,_⟩:=I.list (SqL.of (aB _ _ hq));have RM:RB.length=ns.length:=by rw[<-rv.length,hl,Gp]
  have Vb:=lS (ns:=ns) rv ⟨hl,hh⟩;have hn:0<ns.length:=IZ hM.1;refine call_min_walk (I_ pl.isList ?_);have TJ:a<s.heap.objs.size:=by obtain⟨o,e,_⟩:=pl.isList;exact GD e
  refine⟨s.heap.objs.size,_,_,_,_,_,_,rfl,Walks.list (A:=X.A.in1) (I.ok.hd hc) s.heap.objs.size a (GS TJ) RB.toArray,⟨⟨_,GH _ rfl,rfl,rfl⟩,pl.isList.push _⟩,λb hb=>?_,by rw[GN,RM];exact hn,CmpOf.ints_lt (λi=>ns.getD i 0) Vb,λv h' tk hP hk=>?_⟩
  ·show b<(s.heap.push _).objs.size;rw[Iq];rcases Gx.mp hb with z |z
   ·rw[z];exact Iz _
   ·rw[G9.mp z];exact IK TJ
  ·obtain⟨t,rfl⟩:=Vb _ _ hP;obtain⟨b1,b2⟩:=argBest_lt (λi=>ns.getD i 0) (RB.toArray.size-1)
   have e:ns.getD (Rm (λi j=>decide (ns.getD i 0<ns.getD j 0)) (RB.toArray.size-1)) 0=M:=by
    rw[GN,RM]at b1 b2 |-;generalize Rm (λi j=>decide (ns.getD i 0<ns.getD j 0)) (ns.length-1)=g at *
    have hg:g<ns.length:=by lia
    obtain⟨j,hj,ej⟩:=L9 hM.1;have k1:=b2 j (by lia)
    have k2:=hM.2 ns[g] (LO hg);simp only[G0,Gm hg,Gm hj,JD]at k1 |-;lia
   rw[e];refine⟨.int M,H,I.kept (t':=tk) λb o e=>hk b o ?_ (Gu _ e),⟨t,rfl⟩,q _ H (.refl H) (.int _)⟩
   intro z;have:b=s.heap.objs.size:=by simpa using z
   exact absurd (GD e) (by rw[this];exact Hc _)
theorem sN(hc:X.calm=true):dJ X (.builtin "sum") [.lst (ns.map U.int)] (.int ns.sum):=by
 intro pins s σ H vs us Q I r hq;obtain⟨O,d,rs,q⟩:=hq;obtain⟨v,rfl,h1⟩:=cE rs;obtain⟨p1,rfl,r1⟩:=de r;cases h1 with
 | @lst a ws _ hq hl hh=>
  cases r1;obtain⟨RB,rv,pl,_⟩:=I.list (SqL.of (aB _ _ hq));have RM:RB.length=ns.length:=by rw[<-rv.length,hl,Gp]
  have Vb:=lS (ns:=ns) rv ⟨hl,hh⟩;refine call_sum_walkG (I_ pl.isList ?_);have TJ:a<s.heap.objs.size:=by obtain⟨o,e,_⟩:=pl.isList;exact GD e
  refine⟨s.heap.objs.size,_,_,_,_,_,λi=>ns.getD i 0,rfl,Walks.list (A:=X.A.in1) (I.ok.hd hc) s.heap.objs.size a (GS TJ) RB.toArray,⟨⟨_,GH _ rfl,rfl,rfl⟩,pl.isList.push _⟩,λb hb=>?_,Vb,λh' tk t' hk=>?_⟩
  ·show b<(s.heap.push _).objs.size;rw[Iq];rcases Gx.mp hb with z |z
   ·rw[z];exact Iz _
   ·rw[G9.mp z];exact IK TJ
  ·rw[jA,GN,RM,IX];refine⟨.int ns.sum,H,I.kept (t':=tk) λb o e=>hk b o ?_ (Gu _ e),⟨t',rfl⟩,q _ H (.refl H) (.int _)⟩
   intro z;have:b=s.heap.objs.size:=by simpa using z
   exact absurd (GD e) (by rw[this];exact Hc _)
end
end L2
namespace ST
open PySem PyProof.Rows
def leP(a b:Int×Int):Bool:=decide (a.1<b.1\/(a.1=b.1/\a.2<=b.2))
section
variable {prog:GF}{w:G5}{A:Ha}{E:Gr→Gs→Prop}{s:Gs}
theorem uO{x y:Int}{t u:Tok}{Q:Gr->Gs->Prop}(h:Q (.bool (decide (x<=y))) s):GQ (G1 prog w) A (richCompare .LtE (.int x t) (.int y u)) Q E s:=
 richCompare_gives (op:=.LtE) (NK s _ t) (NK s _ u) PySem.F.slot_int_le PySem.F.entry_int_le (PySem.F.args_int_le_2 _ _) (gives_int_le _ _ t u) (λx=>nomatch x) h
theorem zy{x y:GE}{a b:Int×Int}{P:Fin->Gs->Prop}(hx:TK prog w s.heap [a.1,a.2] x)(hy:TK prog w s.heap [b.1,b.2] y)(h:P (.done (.ret (.bool (leP a b)))) s):
  GQ (G1 prog w) A (Builtin.«tuple.__le__» ⟨[.ref x,.ref y],[]⟩) P E s:=by
 have hTb:=hy.typeIs;obtain⟨o,RB,n,t,u,ho,_,hd,hi⟩:=hx.two;obtain⟨o',its',n',t',u',S9,_,T6,RW⟩:=hy.two;show GQ _ _ (OG (.ref y) (.type "tuple") >>=_) _ _ s;refine Gk (J4 hTb isSubtype_tuple_tuple ?_);simp only[JX,GO,if_false];refine Gk (Oq ho hd ?_);refine Gk (Oq S9 T6 ?_);have sz:RB.size=its'.size:=by rw[<-GY,<-GY,hi,RW];rfl
 rw[hi,RW];refine Gk ?_;simp only[Oo,List.zip_nil_left,K7,Mx];refine Gk (Gk ((N1 prog w).eqBool (a:=a.1) (b:=b.1) (Js _ _ _ _) (Js _ _ _ _) ?_));by_cases e1:a.1=b.1
 ·rw[decide_eq_true e1];simp only[JX,GO,if_false];refine Gw ?_;refine Gk (Gk ((N1 prog w).eqBool (a:=a.2) (b:=b.2) (Js _ _ _ _) (Js _ _ _ _) ?_));by_cases e2:a.2=b.2
  ·rw[decide_eq_true e2];simp only[JX,GO,if_false];refine Gw (Gw ?_);have z:leP a b=true:=by unfold leP;simp;lia
   rw[z]at h;refine Gw ?_;show P (.done (.ret (.bool (decide (RB.size<=its'.size))))) s;rw[sz,decide_eq_true (GA _)];exact h
  ·rw[decide_eq_false e2];simp only[Mw,if_true];have z:leP a b=decide (a.2<=b.2):=by unfold leP;rw[e1];simp
   rw[z]at h;exact Gk (OO (Gk (uO (Gk (Gw (Gw (Gw (Gw h))))))))
 ·rw[decide_eq_false e1];simp only[Mw,if_true];have z:leP a b=decide (a.1<=b.1):=by unfold leP;simp[e1];rw[Int.lt_iff_le_and_ne];simp[e1]
  rw[z]at h;exact Gk (OO (Gk (uO (Gk (Gw (Gw (Gw (Gw h))))))))
theorem le_pts{x y:GE}{a b:Int×Int}{Q:Gr->Gs->Prop}(hu:A.units<Ku)(hx:TK prog w s.heap [a.1,a.2] x)(hy:TK prog w s.heap [b.1,b.2] y)(h:Q (.bool (leP a b)) s):
  GQ (G1 prog w) A (Hh .LtE (.ref x) (.ref y)) Q E s:=
 wpAny_richCompare_same_room (op:=.LtE) hx.typeIs hy.typeIs NA
  (IB NA hx.typeIs PySem.F.entry_tuple_le (zy hx hy ⟨_,rfl,(λe=>nomatch e),h⟩) (PySem.F.args_tuple_le_2 _ _)) hu
end
end ST
namespace L2
open PySem PySem.Spec PyProof.Rows
variable {X:Cx}{H0:Hp}{O0:List GE}{pos:Pos}
section
variable {ps:PSt}{a b c:Expr}{x y z:U}{p q:P2}{k m:Bool}
theorem CV{pins:List (GE×Obj)}{σ:List (Option V)}{H:Hp}{s:Gs}(I:Inv X pins σ H s){v:V}{u:Gr}(r:Rp X.K H v (pu p))(e:aU v u):∃b,u=.ref b/\ST.TK X.prog X.w s.heap [p.1,p.2] b:=by
 cases r with
 | @tup b zs _ hs UL hsi=>
  cases e;refine⟨b,rfl,?_⟩;obtain⟨jts,rj,ht,_⟩:=I.tuple hs;have z0:zs.length=2:=UL
  match zs,z0,hsi,rj with
  |[z1,z2],_,hsi,rj=>
   have q1:=hsi 0 z1 _ rfl rfl;have q2:=hsi 1 z2 _ rfl rfl;cases q1;cases q2;obtain⟨u1,u2,rfl,r1,r2⟩:=iR rj;obtain⟨t1,rfl⟩:=r1;obtain⟨t2,rfl⟩:=r2;obtain⟨o,ho,Vk,n,hod⟩:=ht;exact⟨o,_,n,ho,Vk,hod,.cons (Js _ _ _ _) (.cons (Js _ _ _ _) .nil)⟩
theorem Cz(hu:X.A.units+10<Ku):OpS X (Hh .LtE) (pu p) (pu q) (.bl (ST.leP p q)):=by
 intro pins s σ H v w e f Q I r1 r2 h;obtain⟨k1,k2,k3⟩:=h;obtain⟨b1,rfl,t1⟩:=CV I k1 r1;obtain⟨b2,rfl,t2⟩:=CV I k2 r2;exact ST.le_pts (by lia) t1 t2 (aY I k3 rfl)
theorem CN{cd:Expr}(hc:Tt X H0 O0 ps cd k)(ha:Ev X H0 O0 ps a x)(hb:Ev X H0 O0 ps b y):Ev X H0 O0 ps (.IfExp cd a b pos) (if k=true then x else y):=by
 cases k with
 |true=>exact xl hc (λ_=>ha) (λh=>nomatch h)
 |false=>exact xl hc (λh=>nomatch h) (λ_=>hb)
theorem Bt{op TU:Ox}(ho:OpS X (Hh op) x y (.bl k))(S9:OpS X (Hh TU) y z (.bl m))(ha:Ev X H0 O0 ps a x)(hb:Ev X H0 O0 ps b y)(hc:Ev X H0 O0 ps c z)
  (hm:Ph [op,TU] [b,c]=false:=by with_unfolding_all rfl):Ev X H0 O0 ps (.Compare a [op,TU] [b,c] pos) (.bl (k && m)):=
 PE.mono (yY ho S9 ha hb hc hm) λσ H Q ⟨O,R,q⟩=>⟨O,R,λv1 H1 s1 r1=>⟨O,R.go s1,λv2 H2 s2 r2=>⟨(r1.same (aD s2)).out,r2.out,k,rfl,by
  cases k with
  |false=>exact jV (q _ H2 (s1.trans s2) (.bl _))
  |true=>exact mm ⟨O,(R.go s1).go s2,λv3 H3 s3 r3=>⟨(r2.same (aD s3)).out,r3.out,q _ H3 ((s1.trans s2).trans s3) (.bl _)⟩⟩⟩⟩⟩
end
theorem rF{α:Type}[DecidableEq α]:∀{l m:List α},l.Nodup->(∀x∈l,x∈m)->l.length<=m.length
 |[],_,_,_=>Hf _
 |a::l,m,nd,sub=>by
  have h:=Jg.mp nd;have ha:=sub a Gy;have ih:=rF (m:=m.erase a) h.2 λx hx=>(NT (λe=>h.1 (by rw[<-e];exact hx))).mpr (sub x (Gq _ hx))
  rw[MR ha]at ih;have:=IZ ha;simp only[GI];lia
section
variable {ps:PSt}{e:Expr}{pts:List P2}{RN p p':Pos}
theorem yD(hc:X.calm=true)(hu:X.A.units+10<Ku)(hg:Gl X "len")(hm:X.mg "len"=none)(hgs:Gl X "set")(Vd:X.mg "set"=none)(ha:Ev X H0 O0 ps e (lp pts))(hl:pts.length<64)(Tf:pts.Nodup)
  (he:Gv [e] X.env=(false,HY e X.env)::Gv [] X.env:=by rfl):Ev X H0 O0 ps (.Call (.Name "len" p) [.Call (.Name "set" p') [e] [] RN] [] pos) (.int pts.length):=by
 rintro pins s σ H Q I ⟨O,R,q⟩;have hh:X.A.handled=none:=I.ok.hd hc;refine Hj (c5 I hg hm GL ?_);refine callWith_builtin1 (e:=.Call (.Name "set" p') [e] [] RN) (rest:=[]) ?_ rfl rfl;show GQ _ _ (M_ ((false,HY (.Call (.Name "set" p') [e] [] RN) X.env)::Hx pos (Gv [] X.env))) _ _ s;refine Ik ?_;refine Hj (c5 I hgs Vd pR ?_);refine callWith_type1 (thn (bu ha cY he RN pins s σ H (λvs H1=>∃v,vs=[v]/\aH H H1/\Rp X.K (hid H1 O) v (lp pts)) I ⟨O,R,λv H1 s1 r1=>⟨v,rfl,s1,r1⟩⟩) λus s1 hx=>?_) he rfl
 obtain⟨vs,H1,I1,rv,v,rfl,sm,rp⟩:=hx;obtain⟨u,rfl,ru⟩:=de rv;cases rp with
 | @lst a ws _ hq hwl hwi=>
  cases ru;obtain⟨RB,S1,pl,hz⟩:=I1.list (SqL.of (aB _ _ hq));have hlp:ws.length=pts.length:=by rw[hwl,Gp]
  have hil:RB.length=pts.length:=by rw[<-S1.length,hlp]
  have item:∀i,i<pts.length->∃b,RB[i]?=some (.ref b)/\Rp X.K (hid H1 O) (.ref b) (pu (pts.getD i (0,0)))/\ST.TK X.prog X.w s1.heap [(pts.getD i (0,0)).1,(pts.getD i (0,0)).2] b:=λi hi=>by
   have hw:ws[i]?=some ws[i]:=Gm (by lia)
   have hp:(pts.map pu)[i]?=some (pu (pts.getD i (0,0))):=by rw[Gz,Gm hi];simp[hi]
   have r:=hwi i _ _ hw hp;obtain⟨u',e1,e2⟩:=S1.get hw;generalize ws[i]=z at *;cases r with
   | @tup b zs _ hs UL hsi=>
    cases e2;refine⟨b,e1,Rp.tup hs UL hsi,?_⟩;obtain⟨jts,rj,ht,_⟩:=I1.tuple (by exact aB.tup hs)
    have z0:zs.length=2:=UL
    match zs,z0,hsi,rj with
    |[z1,z2],_,hsi,rj=>
     have q1:=hsi 0 z1 _ rfl rfl;have q2:=hsi 1 z2 _ rfl rfl;cases q1;cases q2;obtain⟨u1,u2,rfl,r1,r2⟩:=iR rj;obtain⟨t1,rfl⟩:=r1;obtain⟨t2,rfl⟩:=r2;obtain⟨o,ho,Vk,n,hod⟩:=ht;exact⟨o,_,n,ho,Vk,hod,.cons (Js _ _ _ _) (.cons (Js _ _ _ _) .nil)⟩
  let ad:Nat->GE:=λi=>match RB[i]? with |some (.ref b)=>b |_=>0
  have adE:∀i,i<pts.length->RB[i]?=some (.ref (ad i))/\Rp X.K (hid H1 O) (.ref (ad i)) (pu (pts.getD i (0,0)))/\ST.TK X.prog X.w s1.heap [(pts.getD i (0,0)).1,(pts.getD i (0,0)).2] (ad i):=λi hi=>by
   obtain⟨b,e1,e2,e3⟩:=item i hi;have:ad i=b:=by show (match RB[i]? with |some (.ref b)=>b |_=>0)=b;rw[e1]
   rw[this];exact⟨e1,e2,e3⟩
  generalize ad=Tg at adE;clear ad;have hsz:RB.toArray.size=pts.length:=by simp[hil]
  refine ST.call_set_pts (λi=>([(pts.getD i (0,0)).1,(pts.getD i (0,0)).2],Tg i)) hh (by show X.A.units+1+1+1<Ku;lia) pl.isList (λi z ez=>?_) (λi hi=>?_) (by rw[hsz];lia) λh2 tk kb sp Ve keep=>?_
  ·have hi:i<pts.length:=by have:=aR (show RB[i]?=some z by simpa using ez);lia
   have:=(adE i hi).1;rw[show RB.toArray[i]?=RB[i]? by simp,this]at ez
   cases ez;rfl
  ·exact (adE i (by rw[hsz]at hi;exact hi)).2.2
  ·rw[hsz]at Ve;have I2:Inv X pins σ H1 {s1 with heap:=h2,toks:=tk }:=I1.kept (t':=tk) keep
   refine Jo ?_;obtain⟨o,es,ep,t,ho,hex,hd,hes,T,_⟩:=sp.ex
   have hlk:kb.length=pts.length:=by
    have e1:(kb.map (·.1)).length<=(pts.map λq:P2=>[q.1,q.2]).length:=rF sp.nd λk hk=>by
     obtain⟨y,hy,rfl⟩:=GC.mp hk;obtain⟨j,hj,rfl⟩:=Ve.src y hy;exact GC.mpr ⟨pts.getD j (0,0),by simp[hj],rfl⟩
    have nd2:(pts.map λq:P2=>[q.1,q.2]).Nodup:=Ks _ (λa b h=>by
     intro z;apply h;obtain⟨a1,a2⟩:=a;obtain⟨b1,b2⟩:=b;simpa using z) Tf
    have e2:(pts.map λq:P2=>[q.1,q.2]).length<=(kb.map (·.1)).length:=rF nd2 λk hk=>by
     obtain⟨y,hy,rfl⟩:=GC.mp hk;obtain⟨j,hj⟩:=G7.mp hy;have hjl:=aR hj;have:=Ve.all j hjl
     rwa [show pts.getD j (0,0)=y by rw[G0,hj];rfl]at this
    simp only[Gp]at e1 e2;lia
   have hsz2:es.size=kb.length:=by rw[<-GY,hes];simp[ST.ents]
   refine call_len_set (s:={s1 with heap:=h2,toks:=tk }) ho hex hd (T.fits (by rw[Gp,hsz2])) (by rw[hsz2,hlk];lia) ?_
   rw[hsz2,hlk];exact⟨.int pts.length,H1,I2.tok _,⟨_,rfl⟩,q _ H1 sm (.int _)⟩
variable {x:Str}{a b:Expr}{i j:Int}
theorem qE(hg:Gl X x)(h:∃t,X.mg x=some (.int i t))(hd:(x==("__debug__":Str))=false:=by decide):Ev X H0 O0 ps (.Name x pos) (.int i):=by
 obtain⟨t,hm⟩:=h;exact PE.mono (nR (v:=.int i) hg hm ⟨t,rfl⟩ hd) λ_ H _ ⟨_,_,k⟩=>k _ H (.refl H) (.int i)
end
theorem Rps.rep{K:Gn}{H:Hp}{vs:List V}{xs:List U}(r:Rps K H vs xs):∀k,Rps K H (G6 k vs).flatten (G6 k xs).flatten
 |0=>.nil
 |k+1=>by
  rw[Ia,Ia,Jp,Jp];exact r.snoc (r.rep k)
section
variable {ps:PSt}{a b:Expr}{xs:List U}{u:U}{k:Int}
theorem Fo(ha:Ev X H0 O0 ps a (.lst xs))(hb:Ev X H0 O0 ps b (.int k))(h1:-(2 ^ 63)<=k)(h2:k<2 ^ 63)(hz:xs.length*k.toNat<=sizeLine):EvN X H0 O0 ps (.BinOp a .Mult b pos) (G6 k.toNat xs).flatten:=
 PE.mono (pM Ee ha hb) λσ H Q ⟨O,R,q⟩=>two R (λ_ _ _ z=>z) (λ_ _ _ z=>z) λv w H' s _ r1 r2=>by
  cases r2;cases r1 with
  |lst hq hl hh=>
   refine⟨_,_,_,rfl,rfl,aB _ _ hq,h1,h2,by rw[hl];exact hz,λp hp=>q p _ _ (s.trans (aT hp _)) (s.free hp) aF ?_⟩
   exact (Rps.rep ⟨hl,hh⟩ _).same (bh (aT hp _) hp)
theorem qd{α:Type}(u:α):∀k,(G6 k [u]).flatten=G6 k u
 |0=>rfl
 |k+1=>by rw[Ia,Jp,qd u k];rfl
theorem Ec(ha:Ev X H0 O0 ps a (.lst [u]))(hb:Ev X H0 O0 ps b (.int k))(h1:-(2 ^ 63)<=k)(h2:k<2 ^ 63)(hz:k.toNat<=sizeLine):EvN X H0 O0 ps (.BinOp a .Mult b pos) (G6 k.toNat u):=by
 rw[<-qd];exact Fo ha hb h1 h2 (by simpa using hz)
end
section
variable {ns:List Int}{M:Int}
theorem yG(hc:X.calm=true)(hM:M∈ns∧∀a∈ns,a≤M):dJ X (.builtin "max") [.lst (ns.map U.int)] (.int M):=by
 intro pins s σ H vs us Q I r hq;obtain⟨O,d,rs,q⟩:=hq;obtain⟨v,rfl,h1⟩:=cE rs;obtain⟨p1,rfl,r1⟩:=de r;cases h1 with
 | @lst a ws _ hq hl hh=>
  cases r1;obtain⟨RB,rv,pl,_⟩:=I.list (SqL.of (aB _ _ hq));have RM:RB.length=ns.length:=by rw[<-rv.length,hl,Gp]
  have Vb:=lS (ns:=ns) rv ⟨hl,hh⟩;have hn:0<ns.length:=IZ hM.1;refine call_max_walk (I_ pl.isList ?_);have TJ:a<s.heap.objs.size:=by obtain⟨o,e,_⟩:=pl.isList;exact GD e
  refine⟨s.heap.objs.size,_,_,_,_,_,_,rfl,Walks.list (A:=X.A.in1) (I.ok.hd hc) s.heap.objs.size a (GS TJ) RB.toArray,⟨⟨_,GH _ rfl,rfl,rfl⟩,pl.isList.push _⟩,λb hb=>?_,by rw[GN,RM];exact hn,CmpOf.ints_gt (λi=>ns.getD i 0) Vb,λv h' tk hP hk=>?_⟩
  ·show b<(s.heap.push _).objs.size;rw[Iq];rcases Gx.mp hb with z |z
   ·rw[z];exact Iz _
   ·rw[G9.mp z];exact IK TJ
  ·obtain⟨t,rfl⟩:=Vb _ _ hP;obtain⟨b1,b2⟩:=argBest_gt (λi=>ns.getD i 0) (RB.toArray.size-1)
   have e:ns.getD (Rm (λi j=>decide (ns.getD i 0 >ns.getD j 0)) (RB.toArray.size-1)) 0=M:=by
    rw[GN,RM]at b1 b2 |-;generalize Rm (λi j=>decide (ns.getD i 0 >ns.getD j 0)) (ns.length-1)=g at *
    have hg:g<ns.length:=by lia
    obtain⟨j,hj,ej⟩:=L9 hM.1;have k1:=b2 j (by lia)
    have k2:=hM.2 ns[g] (LO hg);simp only[G0,Gm hg,Gm hj,JD]at k1 |-;lia
   rw[e];refine⟨.int M,H,I.kept (t':=tk) λb o e=>hk b o ?_ (Gu _ e),⟨t,rfl⟩,q _ H (.refl H) (.int _)⟩
   intro z;have:b=s.heap.objs.size:=by simpa using z
   exact absurd (GD e) (by rw[this];exact Hc _)
end
end L2
namespace L2
open PySem PySem.Spec PySem.W PyProof.Rows
structure y_(K:Gn)(x RC:Str)(st:Iy)(f:GE)(fd:Hw)(D:GE):Prop where
 ex:∃(oc:Gr) (od:Option GE) (kV SN pm:Gr) (an:Option GE) (RF ct:Gr) (Tr:Array (Option Gr)),
  fd=IV x RC (bR st) (bi st) (ag st) (.ref D) kV SN pm an RF ct/\K.lookup f=some ⟨oc,od,.func fd,Tr⟩/\KC K RF RC=true
 kp:HA K (.ref f)=true
theorem Bo{K:Gn}{x RC:Str}{st:Iy}{f D:GE}{oc:Gr}{od an:Option GE}{Tr:Array (Option Gr)}{kV SN pm RF ct:Gr}(l:K.lookup f=some ⟨oc,od,.func (IV x RC (bR st) (bi st) (ag st) (.ref D) kV SN pm an RF ct),Tr⟩)
  (c:KC K RF RC=true) (k:HA K (.ref f)=true):y_ K x RC st f (IV x RC (bR st) (bi st) (ag st) (.ref D) kV SN pm an RF ct) D:=⟨⟨oc,od,kV,SN,pm,an,RF,ct,Tr,rfl,l,c⟩,k⟩
section
variable {P:GF}{w:G5}{K:Gn}{mg:Str→Option Gr}{base:H_}{N pn:List Str}{RC nm:Str}{f D:GE}
theorem y_.okF{x:Str}{st:Iy}{fd:Hw}{k:Nat}{sp:Sp}(F:y_ K x RC st f fd D)(S:aq N pn (ag st))(len:∀vs H Q E,sp vs H Q E->vs.length=pn.length)
  (Si:∀(RF:Gr) (A:Ha) (outer:List Env) (s:Gs) (H:Hp) (vs:List V) (Q:VK) (E:XK),bB k (A.deeper (JH RC (ag st) s.heap.objs.size f RF))->sp vs H Q E->
   ∃t,PSs (cR (CXF P w) P w K mg base N RC (ag st) f RF A outer s H E) (bi st) t/\t {nx:=λ_ H'=>Q .non H',rt:=Q } (start N vs) H):aL P w K mg base (CXF P w) (k+1) f fd pn sp:=by
 obtain⟨oc,od,kV,SN,pm,an,RF,ct,Tr,rfl,lk,R8⟩:=F.ex;exact CC lk R8 S len λA outer s H vs Q E hr SH=>Si RF A outer s H vs Q E hr SH
theorem Em{st:Iy}{fd:Hw}{k:Nat}{RH:List U->Out->Prop}(F:y_ K nm RC st f fd D)(S:aq N pn (ag st))(len:∀us o,RH us o->us.length=pn.length)
  (Si:∀(RF:Gr) (A:Ha) (outer:List Env) (s:Gs) (H:Hp) (E:XK) (O:List GE) (us:List U) (o:Out),bB k (A.deeper (JH RC (ag st) s.heap.objs.size f RF))->RH us o->
   Ws (cR (CXF P w) P w K mg base N RC (ag st) f RF A outer s H E) H O E (bi st) ⟨λ_=>o=.val .non,λo'=>o'=o,λ_=>False,λ_=>False⟩ (dB N us)):aL P w K mg base (CXF P w) (k+1) f fd pn (spU K RH):=by
 refine F.okF S (λvs H Q E h=>?_) λRF A outer s H vs Q E hr h=>?_
 ·obtain⟨us,O,o,_,r,SH,_⟩:=h;rw[r.len];exact len us o SH
 ·obtain⟨us,O,o,d,r,SH,q⟩:=h;refine⟨_,Si RF A outer s H E O us o hr SH,⟨λps σ H' O' R e=>?_,λ_ _ _ _ _ e=>e.elim,λ_ _ _ _ _ e=>e.elim,λo' e=>by subst e;exact q⟩,O,?_⟩
  ·subst e;exact q .non H' R.same .non
  ·refine⟨.refl H,λa h=>h,λa h=>.inl h,d,?_,λi sl e=>?_,λi j xs ys a e1 e2 _ _=>?_⟩
   ·unfold start dB;rw[Hb,Hb,Gp,Gp,HN,HN,r.len]
   ·unfold dB at e;by_cases hi:i<us.length
    ·rw[GG (by simpa using hi),Gz,Gm hi]at e
     cases e;obtain⟨v,h1,h2⟩:=r.get (Gm hi);refine⟨v,?_,h2⟩;unfold start;rw[GG (by simpa [r.len] using hi),Gz,h1];rfl
    ·rw[GK (by simpa using hi),HG]at e
     split at e <;>cases e
   ·exfalso
    unfold dB at e1;by_cases hi:i<us.length
    ·rw[GG (by simpa using hi),Gz,Gm hi]at e1
     cases e1
    ·rw[GK (by simpa using hi),HG]at e1
     split at e1 <;>cases e1
end
section
variable {X:Cx}{H0:Hp}{O0:List GE}{ps:PSt}{e:Expr}{es:List Expr}{pos p:Pos}{u:U}{us:List U}{xs:List U}{CX:CXT}{n:Nat}{f:GE}{fd:Hw}{pn:List Str}{RH:List U→Out→Prop}{nm:Str}{j:Int}
theorem AU(F:aL X.prog X.w X.K X.mg X.base CX n f fd pn (spU X.K RH))(hr:bB n X.A)(hg:Gl X nm)(hm:X.mg nm=some (.ref f))(hk:HA X.K (.ref f)=true)(hb:∃t,bq X.K fd pn [.int j t])(hx:bj CX X E0)
  (ha:EvA X H0 O0 ps (e::es) us) (h:RH (us++[.int j]) (.val u)) (Sr:(nm==("__debug__":Str))=false:=by decide) (he:Gv (e::es) X.env=(false,HY e X.env)::Gv es X.env:=by rfl) (R3:(Hx pos (Gv es X.env)).any (·.1)=false:=by rfl):
  Ev X H0 O0 ps (.Call (.Name nm p) (e::es) [] pos) u:=by
 obtain⟨t,hb⟩:=hb;refine PE.mono (gD F hr hg hm hk hb (.cons (show aU (.int j) (.int j t) from ⟨t,rfl⟩) .nil) hx ha Sr he R3) λσ H Q ⟨O,R,q⟩=>⟨O,R,λvs H1 s1 r1=>?_⟩
 show spU X.K RH (vs++[.int j]) H1 Q _;exact⟨us++[.int j],O,.val u,(R.go s1).dom,r1.snoc (.cons (.int _) .nil),h,λv H2 s2 r2=>q v H2 (s1.trans s2) r2⟩
end
end L2
namespace L2
open PySem PySem.Spec PyProof.Rows
section
variable {X:Cx}{H0:Hp}{O0:List GE}{ps:PSt}{a b:Expr}{k:Int}{ns:List Int}
theorem pL{K:Gn}{H:Hp}:∀{ns:List Int}{ws:List V}{RB:List Gr},aK ws RB->Rps K H ws (ns.map U.int)->Pl RB ns
 |[],ws,RB,rv,rs=>by
  have:=rs.nil_inv;subst this;cases rv;exact .nil
 |n::ns,ws,RB,rv,rs=>by
  obtain⟨v,ws',rfl,h1,h2⟩:=rs.cons_inv;cases rv with
  |cons r1 r2=>
   cases h1;obtain⟨t,rfl⟩:=r1;exact .cons _ _ (pL r2 h2)
theorem wX:MtR X "list.count" (λx xs H Q=>∃(c:GE) (ws:List V) (v:V) (ns:List Int) (k:Int),x=.ref c∧xs=[v]∧SqL X.K H c ws∧Rps X.K H ws (ns.map U.int)∧Rp X.K H v (.int k)∧Q (.int ((ns.count k:Nat):Int)) H):=by
 intro pins s σ H x xs v us Q I rx rv h;obtain⟨c,ws,w,ns,k,rfl,rfl,hq,rs,S1,q⟩:=h;obtain⟨u,rfl,ru⟩:=de rv;cases rx;cases S1;obtain⟨t,rfl⟩:=ru;obtain⟨RB,ri,pl,hz⟩:=I.list hq;exact count_list_ints pl.isList (pL ri rs) ⟨.int ((ns.count k:Nat):Int),H,I.tok _,⟨_,rfl⟩,q⟩
theorem xA{RE RD:Pos}(ha:Ev X H0 O0 ps a (.lst (ns.map U.int)))(hb:Ev X H0 O0 ps b (.int k))
  (RS:HR a "count" X.env (HY a X.env)=HY a X.env:=by rfl)
  (Sw:((Hx RD (Gv [b] X.env)).all (λx=>!x.1) && (JA RD (HZ [] X.env)).all (λx=>x.1.isSome) && decide ([b].length+([]:List JP).length+(if ([]:List JP).isEmpty then 0 else 1)<30))=true:=by rfl)
  (RT:(RE.endLine==RD.line)=true:=by rfl) (Te:Gv [b] X.env=(false,HY b X.env)::Gv [] X.env:=by rfl) (RY:(Hx RD (Gv [] X.env)).any (·.1)=false:=by rfl):
  Ev X H0 O0 ps (.Call (.Attribute a "count" RE) [b] [] RD) (.int ((ns.count k:Nat):Int)):=
 PE.mono (p8 K9 PySem.F.slot_list_count PySem.F.type_list_count wX ha (bu hb cY Te) RS Sw RT Te RY) λσ H Q ⟨O,R,q⟩=>⟨O,R,λv H1 s1 r1=>by
  cases r1 with
  | @lst c ws _ hq hl hh=>
   refine⟨.inl ⟨rfl,_,SqL.of (aB _ _ hq)⟩,O,R.go s1,λw H2 s2 r2=>⟨c,ws,w,ns,k,rfl,rfl,SqL.of (aB _ _ (aD s2 _ _ hq)),(Rps.same (aD s2) ⟨hl,hh⟩).same aB,r2.same aB,q _ H2 (s1.trans s2) (.int _)⟩⟩⟩
end
section
variable {X:Cx}{H0:Hp}{O0:List GE}{E:XK}{ps Su:PSt}{D:PD}{tg iter cond:Expr}{pos p:Pos}{xs:List U}
theorem rn{R6:Expr}{scope:Ke}{cl:List (Str×GE)}{Ss py:Pos}{y:Str}{j:Nat}{is:List Nat}{g:TG}{f:PSt->U->PSt}{dom:U->Prop}(fs:List (Option U))(own:Bool)(hc:X.calm=true)(hN:X.N.Nodup)(hj:X.N[j]?=some y)(hy:Loc X.env.scope y)(B:bQ X scope cl is)
  (hi:EvI X H0 O0 ps tg iter xs) (hg:∀C s H fp,PG (ap X scope cl C s H fp) tg g) (gk:GOk g X.K is f dom) (RM:fs.length=xs.length) (hz:xs.length<=sizeLine) (SD:∀x∈xs,dom x)
  (ht:∀C s H fp (i:Nat) (x:U) (o:Option U),xs[i]?=some x->fs[i]?=some o->Tt (ap X scope cl C s H fp) H0 O0 (f (cw is ps) x) cond o.isSome)
  (he:∀C s H fp (i:Nat) (x y:U),xs[i]?=some x->fs[i]?=some (some y)->Ev (ap X scope cl C s H fp) H0 O0 (f (cw is ps) x) R6 y) (h:D.nx (ps.set j (some (if own then .own (fs.filterMap id) else .val (.lst (fs.filterMap id))))))
  (hs:∀x,Hg iter X.env x=pure x:=by intro _;rfl)
  (Tu:Ip (.ListComp R6 [⟨tg,iter,[cond],0⟩] scope pos) (some (.Name y py)) Ss.line X.env=pure true:=by rfl) (hf:X.fn y=true\/X.env.scope.names.lookup y=some .local:=by first |exact .inl rfl |exact .inr rfl |assumption):
  W1 X H0 O0 E (.Assign [.Name y py] (.ListComp R6 [⟨tg,iter,[cond],0⟩] scope pos) Ss) D ps:=by
 have Tv:∀C s H fp,PE (ap X scope cl C s H fp) R6 λσ H Q=>∃i x y,xs[i]?=some x/\fs[i]?=some (some y)/\∃O',Rs X.K H0 O0 (f (cw is ps) x) σ H O'/\∀v H',aH H H'->Rp X.K (hid H' O') v y->Q v H':=
  λC s H fp pins s' σ H' Q I ⟨i,x,y,h1,h2,z⟩=>he C s H fp i x y h1 h2 pins s' σ H' Q I z
 have htt:∀C s H fp,PT (ap X scope cl C s H fp) cond λσ H Q=>∃(i:Nat) (x:U) (o:Option U),xs[i]?=some x/\fs[i]?=some o/\∃O',Rs X.K H0 O0 (f (cw is ps) x) σ H O'/\∀H',aH H H'->Q o.isSome H':=
  λC s H fp pins s' σ H' Q I ⟨i,x,o,h1,h2,z⟩=>ht C s H fp i x o h1 h2 pins s' σ H' Q I z
 refine PS.mono (qH hc hN hj hy B hi hg htt Tv hs Tu hf) λD' σ H ⟨L,O,R⟩=>⟨O,R,λJ H1 s1 Y=>?_⟩
 refine sC gk (R.go s1) Y RM hz SD (λi x o σ H O' Q h1 h2 R' z=>⟨i,x,o,h1,h2,O',R',z⟩) (λi x y σ H O' Q h1 h2 R' z=>⟨i,x,y,h1,h2,O',R',z⟩) λa vs H' s n h' r=>?_
 cases own with
 |true=>exact L.nx _ _ _ _ ((R.go s1).own s n h' r) h
 |false=>
  have na:a ∉ O:=λz=>(R.go s1).dom a z n
  have r':=r.same (aI λb hb=>Gq a hb)
  exact L.nx _ _ _ _ (((R.go s1).go s).set (.lst (b4 h' na) r'.len r'.at_)) h
end
end L2
namespace TS
open PySem PyProof.Rows
variable {E:Gr→Gs→Prop}
section
variable {prog:GF}{w:G5}{A:Ha}{s:Gs}
def gt(a:Array O_)(i:Nat):O_:=a.getD i (GU,GU)
variable {M:NO}{σ:Type}
theorem wif{α:Type}{c:Prop}[Decidable c]{x y:StateT σ Sem α}{Q:α->σ->Prop}{st:σ}(h:c->wpS M A E s x Q st)(k:¬ c->wpS M A E s y Q st):wpS M A E s (if c then x else y) Q st:=by
 by_cases e:c
 ·rw[if_pos e];exact h e
 ·rw[if_neg e];exact k e
def Fa(prog:GF)(w:G5)(A:Ha)(E:Gr->Gs->Prop)(s:Gs)(κ:Om)(P:O_->Prop)(R:O_->O_->Bool):Prop:=
 ∀x y st (Q:Option Bool->SortSt->Prop),P x->P y->kindOf st=κ->Q (some (R x y)) st->wpS (G1 prog w) A E s (lt' x y) Q st
variable {κ:Om}{P:O_→Prop}{R:O_→O_→Bool} (K:Fa prog w A E s κ P R)
include K
end
section
variable {prog:GF}{w:G5}{A:Ha}{s:Gs}{κ:Om}{P:O_→Prop}{R:O_→O_→Bool}
variable {l:List O_}{pd:Array (Nat×Nat×Nat)}
def Kept(a b:Array O_)(lo:Nat):Prop:=∀j,j<lo->gt b j=gt a j
variable (K:Fa prog w A E s κ P R)
include K
end
end TS
namespace L2
open PySem PySem.Spec PySem.W PyProof.Rows
variable {X:Cx}{H0:Hp}{O0:List GE}{E:XK}{es:List Expr}
section
def TB(X:Cx)(RO:List Iy)(t:(St->Hp->Prop)->(St->XK)->St->Hp->Prop):Prop:=
 ∀(pins:List (GE×Obj)) (s:Gs) (σ:St) (H:Hp) (N:St->Hp->Prop) (EX:St->XK) (Q:Flow->Gs->Prop) (E':Gr->Gs->Prop),Inv X pins σ H s->t N EX σ H->(∀RK H' s',Inv X pins RK H' s'->N RK H'->Q .next s')->
  (∀T9 s1 H1 ev s',Inv X pins T9 H1 s1->CXF X.prog X.w X.stack H1 s1 (EX T9) ev s'->E' ev s')->GQ (G1 X.prog X.w) X.A (execs RO X.env) Q E' s
theorem BN{B:GE}{x n:Str}{i:Nat}{tb}{th:TS}{RO:List Iy}{Us:Iy}{Td:List Iy}{np Uq pos:Pos}(hbd:TB X RO tb)(SW:X.stack=X.env::X.outer)(Uj:X.env.frame=some X.env.locals)
  (hgx:Gl X x) (hmx:X.mg x=some (.ref B)) (hT:typeIn X.K (.ref B)=some (.type "type")) (hB:mroIn X.K B (.type "BaseException")=some true)
  (hN:X.N.Nodup) (hi:X.N[i]?=some n) (hl:X.env.kindOf n=some .local) (hth:∀ea,PSs (fY X ea) (Us::Td) th) (hdx:(x==("__debug__":Str))=false:=by decide):
  PS X (.Try RO [.ExceptHandler (some (.Name x np)) (some n) (Us::Td) Uq] [] [] pos)
   (λD σ H=>tb D.nx (λT9 cls _ H2=>∃C,cls=.ref C/\mroIn X.K C (.ref B)=some true/\∀ea,H2 ea=none->th (D.drop i) (T9.set i (some (.ref ea))) (upd H2 ea (.ext (OfCls ea C)))) σ H):=by
 intro pins s σ H D I h;refine wpAny_Try_except (hbd pins s σ H _ _ _ _ I h (λRK H' s' I' n'=>K0 ⟨RK,H',I',n'⟩) λT9 s1 H1 ev s' J1 hq=>?_)
 obtain⟨ea,cls,a0,B0,H',rfl,os,bare,un,hok,U9,k1,k2,k3,fl,C,rfl,hmC,hT'⟩:=hq;have hfrs:=J1.ok.frames;have fl0:=fl;rw[SW]at hfrs fl;refine PL hfrs Uj fl λh4 held4 up4=>?_
 refine wpAny_landsW held4 λh5 fl5 up5=>?_
 have U8:∀b∈frs X.stack,∀o,s1.heap.get? b=some o->∀vs,o.data≠.fields vs:=iy J1.stack
 have inv:∀h6,B0.StaysIn h6->s'.heap.UpToSlots h6->Inv X pins T9 H' {s' with heap:=h6 }:=λh6 st up=>
  J1.call' (s':={s' with heap:=h6 }) (ch:=[]) os (yT un k1 k3 st up U8 J1.stkFree) (gG hok k2 fl.1 st) bare (λb z=>absurd z (by simp))
 have n0:s1.heap.get? ea=none:=by
  cases z:s1.heap.get? ea with
  |none=>rfl
  |some o=>
   exfalso
   by_cases To:ea∈frs X.stack
   ·obtain⟨sl,e1⟩:=un.slot ea o z (J1.stkFree ea To) To (by simp)
    obtain⟨_,_,_,oe,vs',T',oT,ts,g1,g2,g3,_⟩:=fl0;rw[e1]at g1;cases g1;exact U8 ea To o z _ g3
   ·obtain⟨o',e'⟩:=k3 ea o z To;have:=fl0.2.1;rw[e']at this;cases this
 have inv2:∀h6,B0.StaysIn h6->s'.heap.UpToSlots h6->OfCls ea C h6->Inv X pins T9 (upd H' ea (.ext (OfCls ea C))) {s' with heap:=h6 }:=λh6 st up oc=>
  J1.call' (s':={s' with heap:=h6 }) (ch:=[]) os (yq (yT un k1 k3 st up U8 J1.stkFree) n0 U9) (wk (gG hok k2 fl.1 st) U9 oc) bare (λb z=>absurd z (by simp))
 have I5:=inv h5 fl5.1 (up4.trans up5);refine wpAny_handleBy_cons (codeAny_handlers_test (dF (X:=fY X ea) (I5.hand ea) hgx hmx ?_ hdx)) (by intro z;cases z)
 refine sS I5.kIn fl5.there hT (ku hB) hB hmC ?_;refine codeAny_handlers_suite_as (lands_againW fl5 λh6 fl6 up6=>?_)
 have I6:=inv2 h6 fl6.1 ((up4.trans up5).trans up6) fl6.there;refine eY (X:=fY X ea) (v:=.ref ea) (I6.hand ea) hN hi (.inl hl) rfl (λs7 I7 _=>?_) (.inr hl)
 refine HC (hth ea pins s7 _ _ (D.drop i) I7 (hT' ea U9)) (λf s2 z=>?_) λ_ _ z=>z.elim
 have z1:SP X pins (D.drop i) f s2:=z.unhand I.ok.hd;cases f with
 |next=>obtain⟨RK,H8,I8,q8⟩:=z1;exact ka I8 hN hi hl λs9 I9=>⟨_,_,I9,q8⟩
 |brk=>obtain⟨RK,H8,I8,q8⟩:=z1;exact ka I8 hN hi hl λs9 I9=>⟨_,_,I9,q8⟩
 |cont=>obtain⟨RK,H8,I8,q8⟩:=z1;exact ka I8 hN hi hl λs9 I9=>⟨_,_,I9,q8⟩
 |ret u=>obtain⟨v,RK,H8,I8,r8,q8⟩:=z1;exact ka I8 hN hi hl λs9 I9=>⟨v,_,_,I9,r8,q8⟩
variable {ps:PSt}{D:PD}{e c:Expr}{us:List U}{n:Nat}{fd:Hw}{pn:List Str}{RH:List U→Out→Prop}{AA rest:List Iy}{nx:PSt→Prop}{ex:PSt→GE→Prop}
def Tb(X:Cx)(H0:Hp)(O0:List GE)(RO:List Iy)(nx:PSt->Prop)(ex:PSt->GE->Prop)(ps:PSt):Prop:=
 TB X RO λN EX σ H=>(∀p RK H' O,Rs X.K H0 O0 p RK H' O->nx p->N RK H')/\(∀p RK H' O C,Rs X.K H0 O0 p RK H' O->ex p C->EX RK (.ref C) none H')/\∃O,Rs X.K H0 O0 ps σ H O
theorem TB.mono{RO:List Iy}{t t'}(h:TB X RO t)(m:∀N EX σ H,t' N EX σ H->t N EX σ H):TB X RO t':=λpins s σ H N EX Q E' I q=>h pins s σ H N EX Q E' I (m N EX σ H q)
theorem Cy{C:GE}{RO:List Iy}(h:ex ps C)(k:ex ps C->Tb X H0 O0 RO nx ex ps):Tb X H0 O0 RO nx ex ps:=k h
theorem zG{B:GE}{x m:Str}{i:Nat}{RO:List Iy}{Us:Iy}{Td:List Iy}{np Uq pos:Pos}(SW:X.stack=X.env::X.outer)(Uj:X.env.frame=some X.env.locals)
  (hgx:Gl X x) (hmx:X.mg x=some (.ref B)) (hT:typeIn X.K (.ref B)=some (.type "type")) (hB:mroIn X.K B (.type "BaseException")=some true)
  (hN:X.N.Nodup) (hi:X.N[i]?=some m) (hl:X.env.kindOf m=some .local)
  (hb:Tb X H0 O0 RO D.nx (λp C=>mroIn X.K C (.ref B)=some true∧XcOk X.K C∧∀ea,Ws (fY X ea) H0 O0 E (Us::Td) (D.drop i) (p.set i (some (.val (.ty (.xc C)))))) ps) (hdx:(x==("__debug__":Str))=false:=by decide):
  W1 X H0 O0 E (.Try RO [.ExceptHandler (some (.Name x np)) (some m) (Us::Td) Uq] [] [] pos) D ps:=
 PS.mono (BN (th:=λD' σ H=>∃p,(∀ea,Ws (fY X ea) H0 O0 E (Us::Td) (D.drop i) p)/\Lf X.K H0 O0 E (D.drop i) D'/\∃O,Rs X.K H0 O0 p σ H O) hb SW Uj hgx hmx hT hB hN hi hl (λea pins s σ H D' I ⟨p,w,z⟩=>w ea pins s σ H D' I z) hdx) λD' σ H ⟨L,O,R⟩=>
  ⟨λp RK H' O R k=>L.nx p RK H' O R k,λp RK H' O C R ⟨k1,k2,k3⟩=>⟨C,rfl,k1,λea hn=>⟨_,k3,L.drop i,O,(R.go (aT hn _)).set (.xc (R.hidnew hn) k2)⟩⟩,O,R⟩
end
abbrev T'(l:List Nat):Str:=⟨l.toArray⟩
theorem zR(x:Str):x=T' x.cps.toList:=by cases x;simp[T']
theorem br(l:List Nat):(T' l).length=l.length:=by simp[Str.length]
theorem lx(l m:List Nat):T' l++T' m=T' (l++m):=by
 show Str.mk _=Str.mk _;simp
def Itx(x:Str):It:=⟨λi _=>i<x.cps.size,λi H v H'=>H'=H/\∃c,x.cps[i]?=some c/\v=.str ⟨#[c]⟩,λi _=>x.cps.size<=i⟩
theorem mY{P:GF}{w:G5}{A:Ha}(h:A.handled=none)(it:GE)(x:Str)(t:Tok):Walks P w A it [it] [it] x.cps.size (SignAt x) (λi hp=>hp.IsStrIter it (Mb x) x t i):=by
 unfold Mb;split
 ·exact Walks.strAscii h it x t
 ·exact Walks.strWide h it x t
theorem x_{P:GF}{w:G5}{K:Gn}{tg:Expr}(it:GE)(x:Str)(t:Tok):yF P w K tg (Itx x) [it] it (λi h=>i<=x.cps.size/\h.IsStrIter it (Mb x) x t i) where
 mem:=by simp
 obj:=λi h st b hb=>by
  have e:b=it:=by simpa using hb
  subst e;obtain⟨_,o,e,c,d⟩:=st;exact⟨o,e,λv z=>by rw[d]at z;cases z⟩
 keep:=λi h h' st k=>⟨st.1,by obtain⟨o,e,c,d⟩:=st.2;exact⟨o,k it (by simp) o e,c,d⟩⟩
 item:=by
  intro X hP hw hK hc i pins s σ H E I hf st hg;subst hP hw hK;obtain⟨f0,f1,f2,f3,f4,f5⟩:=hf it (by simp)
  have W:=mY (P:=X.prog) (w:=X.w) (I.ok.hd hc) it x t;refine W.item i s _ _ hg st.2 λv h' tk hv Uk kk=>?_
  obtain⟨c,u,hcc,rfl⟩:=hv;have I1:Inv X pins σ H {s with heap:=h',toks:=tk }:=I.turned (λb o hb e=>kk b o (by simpa using hb) e) f0 f1 f3 f4 f5
  obtain⟨o,e,c',d⟩:=id Uk;exact⟨_,rfl,yZ (s:={s with heap:=h',toks:=tk }) (n:=Mb x) e c' d (by unfold Mb;split <;>decide) ⟨.str ⟨#[c]⟩,H,I1,⟨u,rfl⟩,⟨rfl,c,hcc,rfl⟩,⟨hg,Uk⟩,λb hb=>(hf b hb).1⟩⟩
 done:=by
  intro X hP hw hK hc i pins s σ H E I hf st hg;subst hP hw hK;obtain⟨f0,f1,f2,f3,f4,f5⟩:=hf it (by simp)
  have W:=mY (P:=X.prog) (w:=X.w) (I.ok.hd hc) it x t;have hn:x.cps.size<=i:=hg;have e:i=x.cps.size:=Nat.le_antisymm st.1 hn;subst e;exact W.done s _ _ st.2 λh' tk kk=>⟨rfl,I.turned (λb o hb e=>kk b o (by simpa using hb) e) f0 f1 f3 f4 f5⟩
 self:=λA i s Q E st h=>by
  obtain⟨_,st⟩:=st;unfold Mb at st;split at st
  ·exact wpAny_pyIter_striter_ascii st h
  ·exact wpAny_pyIter_striter_wide st h
section
variable {tg:Expr}
theorem Dv{l:Expr}{tl:TE}(hl:PE X l tl):PI X tg l (λσ H R=>tl σ H λx H1=>∃z,x=.str z/\R (Itx z) H1):=by
 intro pins s σ H R I h;refine thn (hl pins s σ H _ I h) λv s1 ⟨x,H1,I1,r1,q1⟩=>?_
 obtain⟨z,e,q⟩:=q1;subst e;obtain⟨t,rfl⟩:=r1;refine wpAny_pyIter_strU ?_;refine⟨s1.heap.objs.size,[s1.heap.objs.size],_,_,H1,rfl,I1.kept (t':=s1.toks) λb o e=>Gu _ e,x_ _ z t,⟨Hf _,_,GH _ rfl,rfl,rfl⟩,λb hb=>?_,q⟩
 have e:b=s1.heap.objs.size:=by simpa using hb
 subst e;exact I1.fpOk (GA _) (I1.hok.fresh (GA _))
end
abbrev sg(c:Nat):U:=.str ⟨#[c]⟩
variable {RE:Pos}{RD:Pos}
section
variable {ps:PSt}{a b e tg:Expr}{pos p p2:Pos}{x y:Str}{i:Int}{lo hi:Option Expr}{l h:Option Int}
theorem zE(he:Ev X H0 O0 ps e (.str x)):EvI X H0 O0 ps tg e (x.cps.toList.map sg):=
 PI.mono (Dv he) λσ H Q ⟨O,R,q⟩=>⟨O,R,λv H' s r=>by
  cases r;refine⟨x,rfl,q _ H' s λH2 s2=>⟨λi hi=>?_,?_⟩⟩
  ·have RW:i<x.cps.size:=by simpa using hi
   refine⟨RW,λz H3 y=>⟨y.1,sg x.cps[i],by simp[RW],?_⟩⟩
   obtain⟨_,c,hc,rfl⟩:=y;rw[HI RW]at hc;cases hc;exact .str _
  ·show x.cps.size<=_;simp⟩
theorem jh(ha:Ev X H0 O0 ps a (.str x))(hb:Ev X H0 O0 ps b (.str y))(hz:x.length+y.length<=sizeLine):Ev X H0 O0 ps (.BinOp a .Add b pos) (.str (x++y)):=
 PE.mono (pM sJ ha hb) λσ H Q ⟨O,R,k⟩=>two (x:=.str x) (y:=.str y) R (λ_ _ _ z=>z) (λ_ _ _ z=>z) λv w H' s _ r1 r2=>by
  cases r1;cases r2;exact⟨x,y,rfl,rfl,hz,k _ H' s (.str _)⟩
theorem E1{c:Nat}(ha:Ev X H0 O0 ps a (.str x))(hb:Ev X H0 O0 ps b (.int i))(hz:x.length<=sizeLine)(hi:atI x.cps.toList i=some c)(hs:j9 b:=by intro _ _;rfl):Ev X H0 O0 ps (.Subscript a b pos) (sg c):=
 PE.mono (xj El ha hb hs) λσ H Q ⟨O,R,q⟩=>two (x:=.str x) (y:=.int i) R (λ_ _ _ z=>z) (λ_ _ _ z=>z) λv w H' s _ r1 r2=>by
  cases r1;cases r2;exact⟨x,i,c,rfl,rfl,hz,hi,q _ H' s (.str _)⟩
theorem fR(hz:x.length≤sizeLine):dJ X (.builtin "len") [.str x] (.int x.length):=cu.mono oP λvs H Q ⟨O,d,r,q⟩=>by
 obtain⟨v,rfl,h⟩:=cE r;cases h;exact⟨x,rfl,hz,q _ H (.refl H) (.int _)⟩
theorem CY:SlR X (λx lo hi H Q=>∃z,x=.str z/\z.length<=sizeLine/\Q (.str (StrLaws.sliceText z lo hi)) H):=by
 intro pins s σ H x v vl vu lo hi sl Q I rx hs pl pu h;obtain⟨z,rfl,hz,q⟩:=h;have Ud:=Txt.slice_le z lo hi;obtain⟨t,rfl⟩:=rx;refine⟨"str",_,slot_str_getitem.lookup,rfl,?_⟩
 have RR:∀(l u:Option (Int×Tok)),l.map (·.1)=lo->u.map (·.1)=hi->s.heap.IsSlice sl l u none->GQ (G1 X.prog X.w) X.A (OC (.str z t) (.ref sl)) (EP X pins σ Q) X.xe s:=λl u e1 e2 UL=>by
  refine wpAny_getItem_str_slice UL (by decide) ?_
  unfold sliceMade slicePicked;rw[e1,e2];unfold StrLaws.sliceText at q;split at q
  ·rename_i hc
   rw[if_pos (by exact hc)]
   exact⟨.str z,H,I,⟨t,rfl⟩,q⟩
  ·rename_i hc
   rw[if_neg (by exact hc)]
   unfold Txt.slice at Ud;rw[if_neg (by exact hc)]at Ud
   exact⟨HD Ud hz,.str _,H,I.tok _,⟨_,rfl⟩,q⟩
 cases pl with
 |none=>
  cases pu with
  |none=>exact RR none none rfl rfl hs
  |int j tj=>exact RR none (some (j,tj)) rfl rfl hs
 |int i ti=>
  cases pu with
  |none=>exact RR (some (i,ti)) none rfl rfl hs
  |int j tj=>exact RR (some (i,ti)) (some (j,tj)) rfl rfl hs
theorem lH(he:Ev X H0 O0 ps e (.str x))(hl:EvO X H0 O0 ps lo l)(hh:EvO X H0 O0 ps hi h)(hz:x.length<=sizeLine):Ev X H0 O0 ps (.Subscript e (.Slice lo hi none p2) pos) (.str (StrLaws.sliceText x l h)):=
 PE.mono (pS CY he hl hh) λσ H Q ⟨O,R,q⟩=>⟨O,R,λv H1 s1 r1=>⟨O,R.go s1,λH2 s2=>⟨O,R.go (s1.trans s2),λH3 s3=>by
  cases r1;exact⟨x,rfl,hz,q _ H3 ((s1.trans s2).trans s3) (.str _)⟩⟩⟩⟩
theorem v4:MtR X "str.startswith" (λv vs H Q=>∃x y,v=.str x∧vs=[.str y]∧Q (.bl (Txt.startswith x y)) H):=by
 intro pins s σ H v vs u us Q I r1 r2 h;obtain⟨x,y,rfl,rfl,q⟩:=h;obtain⟨t,rfl⟩:=r1;obtain⟨w1,rfl,k⟩:=de r2;obtain⟨t2,rfl⟩:=k;exact SC.startswith ⟨.bl _,H,I,rfl,q⟩
theorem xn(ha:Ev X H0 O0 ps a (.str x))(hb:Ev X H0 O0 ps e (.str y))(Te:Gv [e] X.env=(false,HY e X.env)::Gv [] X.env)
  (RS:HR a "startswith" X.env (HY a X.env)=HY a X.env:=by rfl)
  (Sw:((Hx RD (Gv [e] X.env)).all (λx=>!x.1) && (JA RD (HZ [] X.env)).all (λx=>x.1.isSome) && decide ([e].length+([]:List JP).length+(if ([]:List JP).isEmpty then 0 else 1)<30))=true:=by rfl)
  (RT:(RE.endLine==RD.line)=true:=by rfl) (RY:(Hx RD (Gv [] X.env)).any (·.1)=false:=by rfl):
  Ev X H0 O0 ps (.Call (.Attribute a "startswith" RE) [e] [] RD) (.bl (Txt.startswith x y)):=
 PE.mono (p8 I0 PySem.F.slot_str_startswith PySem.F.type_str_startswith v4 ha (bu hb cY Te) RS Sw RT Te RY) λσ H Q ⟨O,R,q⟩=>⟨O,R,λv H1 s1 r1=>by
  cases r1;exact⟨rfl,O,R.go s1,λw H2 s2 r2=>by cases r2;exact⟨x,y,rfl,rfl,q _ H2 (s1.trans s2) (.bl _)⟩⟩⟩
theorem rc{n:Int}(h:N0 x=some n)(hz:x.length≤640):dJ X (.type "int") [.str x] (.int n):=by
 intro pins s σ H vs us Q I r hq;obtain⟨O,d,rs,q⟩:=hq;obtain⟨v,rfl,h1⟩:=cE rs;cases h1;obtain⟨u,rfl,⟨t,rfl⟩⟩:=de r;exact KIN.call_text h hz ⟨.int n,H,I.tok _,⟨_,rfl⟩,q _ H (.refl H) (.int _)⟩
theorem oa(h:i.natAbs.log2<1920):dJ X (.type "str") [.int i] (.str (Str.ofString (NI i))):=cu.mono oo λvs H Q ⟨O,d,r,q⟩=>by
 obtain⟨v,rfl,k⟩:=cE r;cases k;exact⟨i,rfl,h,q _ H (.refl H) (.str _)⟩
theorem E_:OpS X (Hh .In) (.str x) (.str y) (.bl (!(Builtin.Str.occurrences y x 0 y.length 1).isEmpty)):=by
 intro pins s σ H v w p q Q I r1 r2 h;obtain⟨k1,k2,k3⟩:=h;cases k1;cases k2;exact vt pins s σ H _ _ p q Q I r1 r2 ⟨x,y,rfl,rfl,k3⟩
theorem Ff{z v:Str}(hg:Gl X z)(h:∃t,X.mg z=some (.str v t))(hd:(z==("__debug__":Str))=false:=by decide):Ev X H0 O0 ps (.Name z pos) (.str v):=by
 obtain⟨t,hm⟩:=h;exact PE.mono (nR (v:=.str v) hg hm ⟨t,rfl⟩ hd) λ_ H _ ⟨_,_,k⟩=>k _ H (.refl H) (.str v)
end
theorem Bz(j n:Nat):Builtin.Str.strSliceIndices none (some (j:Int)) 1 n=Builtin.Str.strSliceIndices (some ((0:Nat):Int)) (some ((min j n:Nat):Int)) 1 n:=by
 have e1:¬ (j:Int)<0:=by lia
 have e2:¬ ((min j n:Nat):Int)<0:=by lia
 have e3:max 0 (min (j:Int) n)=max 0 (min ((min j n:Nat):Int) n):=by lia
 unfold Builtin.Str.strSliceIndices;simp[e1,e2];rw[e3,show max 0 (min 0 (n:Int))=0 by lia]
theorem vU(i n:Nat):Builtin.Str.strSliceIndices (some (i:Int)) none 1 n=Builtin.Str.strSliceIndices (some ((min i n:Nat):Int)) (some (n:Int)) 1 n:=by
 have e1:¬ (i:Int)<0:=by lia
 have e2:¬ ((min i n:Nat):Int)<0:=by lia
 unfold Builtin.Str.strSliceIndices;simp[e1,e2];congr 1 <;>lia
theorem Ak{x:Str}{l h:Option Int}{a b:Nat}(e:Builtin.Str.strSliceIndices l h 1 x.length=Builtin.Str.strSliceIndices (some (a:Int)) (some (b:Int)) 1 x.length)(h1:a<=b)(h2:b<=x.length):StrLaws.sliceText x l h=T' ((x.cps.toList.drop a).take (b-a)):=by
 have:=StrLaws.sliceText_nat x h1 h2;unfold StrLaws.sliceText at this |-;rw[e];exact this
theorem C5(l:List Nat)(j:Nat):StrLaws.sliceText (T' l) none (some (j:Int))=T' (l.take j):=by
 rw[Ak (a:=0) (b:=min j (T' l).length) (Bz j _) (Hf _) (Pa _ _)];refine congrArg T' ?_;rw[br];show (l.drop 0).take _=_;rw[NX,Nat.sub_zero];by_cases h:j<=l.length
 ·rw[NB h]
 ·rw[Pb (by lia),JB (GA _),JB (by lia)]
theorem lh(l:List Nat)(i:Nat):StrLaws.sliceText (T' l) (some (i:Int)) none=T' (l.drop i):=by
 rw[Ak (a:=min i (T' l).length) (b:=(T' l).length) (vU i _) (Pa _ _) (GA _)];refine congrArg T' ?_;rw[br];show (l.drop _).take _=_;by_cases h:i<=l.length
 ·rw[NB h,JB (by simp)]
 ·rw[Pb (by lia),Lk (GA _),Lk (by lia)]
  simp
theorem ET(l:List Nat)(c i:Nat):Builtin.Str.subAt (T' l) ⟨#[c]⟩ i=decide (l[i]?=some c):=by
 unfold Builtin.Str.subAt;rw[Jv,beq_iff_eq,decide_eq_true_iff];show (l.toArray.extract i (i+1))=#[c]↔_;constructor
 ·intro h;have h2:=congrArg OT h;simp at h2;cases e:l[i]? with
  |none=>
   have:l.length<=i:=List.getElem?_eq_none_iff.mp e;rw[Lk this]at h2;simp at h2
  |some d=>
   obtain⟨hi,hd⟩:=GB.mp e;have hd2:l.drop i=d::l.drop (i+1):=by rw[JK hi,hd]
   rw[hd2,L8,KD]at h2;injection h2 with h2 _
   rw[h2]
 ·intro h;obtain⟨hi,hd⟩:=GB.mp h;apply M6.mp;simp;rw[JK hi];simp[hd]
theorem BQ(l:List Nat)(c:Nat):Txt.startswith (T' l) ⟨#[c]⟩=decide (l.head?=some c):=by
 unfold Txt.startswith;rw[ET];cases l with
 |nil=>simp[Str.length]
 |cons d r=>simp[Str.length]
theorem at1(l:List Nat)(c i:Nat):StrLaws.At (T' l) ⟨#[c]⟩ (T' l).length i↔l[i]?=some c:=by
 unfold StrLaws.At;rw[ET,decide_eq_true_iff,br];show i+1<=_/\_↔_;exact⟨λh=>h.2,λh=>⟨(GB.mp h).1,h⟩⟩
theorem in1(l:List Nat)(c:Nat):(!(Builtin.Str.occurrences (T' l) ⟨#[c]⟩ 0 (T' l).length 1).isEmpty)=decide (c∈l):=by
 rcases StrLaws.occ_head (T' l) ⟨#[c]⟩ 1 (GA _) with ⟨h1,h2⟩ |⟨i,r,h1,h2,_⟩
 ·rw[h1]
  symm
  refine decide_eq_false λh=>?_
  obtain⟨i,hi⟩:=G7.mp h;exact h2 i ((at1 l c i).mpr hi)
 ·rw[h1]
  symm
  exact decide_eq_true (GJ ((at1 l c i).mp h2))
theorem jg:∀l:List (Str×Tok),aK ((l.map (·.1)).map V.str) (NC l)
 |[]=>.nil
 | (_,t)::r=>.cons ⟨t,rfl⟩ (jg r)
theorem lN{K:Gn}{H:Hp}(l:List Str):Rps K H (l.map V.str) (l.map U.str):=by
 refine⟨by simp,λi v x h1 h2=>?_⟩
 rw[Gz]at h1 h2;cases e:l[i]? with
 |none=>rw[e]at h1;cases h1
 |some z=>rw[e]at h1 h2;cases h1;cases h2;exact .str _
theorem uW{K:Gn}{H:Hp}:∀{l:List Str}{ws:List V}{RB:List Gr},aK ws RB->Rps K H ws (l.map U.str)->∃m:List (Str×Tok),RB=NC m/\m.map (·.1)=l
 |[],ws,RB,rv,rs=>by
  have:=rs.nil_inv;subst this;cases rv;exact⟨[],rfl,rfl⟩
 |x::l,ws,RB,rv,rs=>by
  obtain⟨v,ws',rfl,h1,h2⟩:=rs.cons_inv;cases rv with
  |cons r1 r2=>
   cases h1;obtain⟨t,rfl⟩:=r1;obtain⟨m,rfl,e⟩:=uW r2 h2;exact⟨(x,t)::m,rfl,by rw[GW,e]⟩
section
variable {ps:PSt}{a b e:Expr}{x y:Str}
theorem qu:MtR X "str.split" (λv vs H Q=>∃x y,v=.str x∧vs=[.str y]∧(y.length==0)=false∧x.length+2≤sizeLine∧∀p,H p=none→Q (.ref p) (upd H p (.lst ((Txt.split x y).map V.str)))):=by
 intro pins s σ H v vs u us Q I r1 r2 h;obtain⟨x,y,rfl,rfl,hy,hz,q⟩:=h;obtain⟨t,rfl⟩:=r1;obtain⟨w1,rfl,k⟩:=de r2;obtain⟨t2,rfl⟩:=k;have fr:=I.hok.fresh (GA s.heap.objs.size);have len:=split_le x y
 have RR:∀(l:List (Str×Tok)) (tk:Nat),l.map (·.1)=Txt.split x y→EP X pins σ Q (.ref s.heap.objs.size) {s with heap:=s.heap.push {cls:=.type "list",data:=.seq (NC l).toArray },toks:=tk }:=λl tk e=>
  ⟨.ref s.heap.objs.size,_,I.laid (t':=tk) (λb o z=>Gu _ z) (GA _) (show bG X.prog X.w _ _ _ (.lst ((Txt.split x y).map V.str)) from ⟨by rw[Gp];lia,NC l,_,by rw[<-e];exact jg l,GH s.heap rfl⟩),rfl,q _ fr⟩
 by_cases h1:(decide (x.length<y.length) ||decide (Builtin.Str.strKind x<Builtin.Str.strKind y))=true
 ·refine Lr Im rfl JZ (KU ..) (meets_str_split_cannot_occur x y t t2 h1) ?_;exact RR [(x,t)] s.toks (if_pos h1).symm
 ·have h1':=ML.mpr h1;by_cases hf:(Builtin.Str.occurrences x y 0 x.length (x.length+1)).isEmpty=true
  ·refine Lr Im rfl JZ (KU ..) (meets_str_split_not_found x y t t2 h1' hy hf) ?_;exact RR [(x,t)] s.toks ((if_neg h1).trans (if_pos hf)).symm
  ·have hf':=ML.mpr hf;have e:Txt.split x y=Builtin.Str.partsBetween x (Builtin.Str.occurrences x y 0 x.length (x.length+1)) y.length:=(if_neg h1).trans (if_neg hf);refine Lr Im rfl JZ (KU ..) (meets_str_split_sep x y t t2 h1' hy hf' (by lia) (by rw[<-e];lia)) ?_
   show wants _ _ _ _;rw[<-e,strsFrom_eq];exact RR (numbered s.toks (Txt.split x y)) _ (Qm _ _)
theorem AH(ha:Ev X H0 O0 ps a (.str x))(hb:Ev X H0 O0 ps e (.str y))(Te:Gv [e] X.env=(false,HY e X.env)::Gv [] X.env)(hz:x.length+2<=sizeLine)(hy:(y.length==0)=false)
  (RS:HR a "split" X.env (HY a X.env)=HY a X.env:=by rfl)
  (Sw:((Hx RD (Gv [e] X.env)).all (λx=>!x.1) && (JA RD (HZ [] X.env)).all (λx=>x.1.isSome) && decide ([e].length+([]:List JP).length+(if ([]:List JP).isEmpty then 0 else 1)<30))=true:=by rfl)
  (RT:(RE.endLine==RD.line)=true:=by rfl) (RY:(Hx RD (Gv [] X.env)).any (·.1)=false:=by rfl):
  EvN X H0 O0 ps (.Call (.Attribute a "split" RE) [e] [] RD) ((Txt.split x y).map U.str):=
 PE.mono (p8 I0 Im Ll qu ha (bu hb cY Te) RS Sw RT Te RY) λσ H Q ⟨O,R,q⟩=>⟨O,R,λv H1 s1 r1=>by
  cases r1
  exact⟨rfl,O,R.go s1,λw H2 s2 r2=>by
   cases r2;exact⟨x,y,rfl,rfl,hy,hz,λp hp=>q p _ _ ((s1.trans s2).trans (aT hp _)) ((s1.trans s2).free hp) aF (lN _)⟩⟩⟩
theorem B8:MtR X "str.join" (λv vs H Q=>∃x c ws l,v=.str x∧vs=[.ref c]∧SqL X.K H c ws∧Rps X.K H ws (l.map U.str)∧JoinOk x l=true∧Q (.str (Txt.join x l)) H):=by
 intro pins s σ H v vs u us Q I r1 r2 h;obtain⟨x,c,ws,l,rfl,rfl,hq,rs,hj,q⟩:=h;obtain⟨t,rfl⟩:=r1;obtain⟨w1,rfl,k⟩:=de r2;cases k;obtain⟨RB,ri,pl,hz⟩:=I.list hq;obtain⟨m,rfl,e⟩:=uW ri rs;exact SC.join pl.isList e hj λt' k=>⟨.str _,H,I.tok _,⟨_,rfl⟩,q⟩
theorem xK{l:List Str}(ha:Ev X H0 O0 ps a (.str x))(hb:Ev X H0 O0 ps e (.lst (l.map U.str)))(Te:Gv [e] X.env=(false,HY e X.env)::Gv [] X.env)(hj:JoinOk x l=true)
  (RS:HR a "join" X.env (HY a X.env)=HY a X.env:=by rfl)
  (Sw:((Hx RD (Gv [e] X.env)).all (λx=>!x.1) && (JA RD (HZ [] X.env)).all (λx=>x.1.isSome) && decide ([e].length+([]:List JP).length+(if ([]:List JP).isEmpty then 0 else 1)<30))=true:=by rfl)
  (RT:(RE.endLine==RD.line)=true:=by rfl) (RY:(Hx RD (Gv [] X.env)).any (·.1)=false:=by rfl):
  Ev X H0 O0 ps (.Call (.Attribute a "join" RE) [e] [] RD) (.str (Txt.join x l)):=
 PE.mono (p8 I0 PySem.F.slot_str_join PySem.F.type_str_join B8 ha (bu hb cY Te) RS Sw RT Te RY) λσ H Q ⟨O,R,q⟩=>⟨O,R,λv H1 s1 r1=>by
  cases r1
  exact⟨rfl,O,R.go s1,λw H2 s2 r2=>by
   cases r2 with
   | @lst c ws _ hq hl hh=>exact⟨x,c,ws,l,rfl,rfl,SqL.of (aB _ _ hq),Rps.same aB ⟨hl,hh⟩,hj,q _ H2 (s1.trans s2) (.str _)⟩⟩⟩
end
def spl(c:Nat):List Nat->List (List Nat)
 |[]=>[[]]
 |a::l=>if a=c then []::spl c l else (a::(spl c l).headD [])::(spl c l).drop 1
theorem DL(c:Nat)(l:List Nat):∃p r,spl c l=p::r:=by
 cases l with
 |nil=>exact⟨_,_,rfl⟩
 |cons a l=>unfold spl;split <;>exact⟨_,_,rfl⟩
theorem iC{c:Nat}:∀{p:List Nat},c ∉ p->spl c p=[p]
 |[],_=>rfl
 |a::p,h=>by
  have h1:a≠c:=λe=>h (by rw[e];exact Gy)
  unfold spl;rw[if_neg h1,iC λz=>h (Gq _ z)]
  rfl
theorem kl{c:Nat}(l:List Nat):∀{p:List Nat},c ∉ p->spl c (p++c::l)=p::spl c l
 |[],_=>by show spl c (c::l)=_;rw[spl,if_pos rfl]
 |a::p,h=>by
  have h1:a≠c:=λe=>h (by rw[e];exact Gy)
  show spl c (a::(p++c::l))=_;rw[spl,if_neg h1,kl l λz=>h (Gq _ z)]
  rfl
theorem p0(c:Nat):∀(ts:List Str) (l:List Nat),ts≠[]->(∀t∈ts,c ∉ t.cps.toList)->Str.join ⟨#[c]⟩ ts=T' l->ts=(spl c l).map T'
 |[],l,h,_,_=>absurd rfl h
 |[t],l,_,hf,e=>by
  have e1:t=T' l:=e;have e2:=hf t Gy;rw[e1]at e2 |-;rw[iC (by simpa using e2)]
  rfl
 |t::t2::ts,l,_,hf,e=>by
  have e1:t++⟨#[c]⟩++Str.join ⟨#[c]⟩ (t2::ts)=T' l:=e;generalize hm:Str.join ⟨#[c]⟩ (t2::ts)=m at e1;have ih:=p0 c (t2::ts) m.cps.toList (by simp) (λz hz=>hf z (Gq _ hz)) (hm.trans (zR m))
  have e2:l=t.cps.toList++c::m.cps.toList:=by
   have:=congrArg (λx:Str=>x.cps.toList) e1
   have h3:(t++⟨#[c]⟩++m).cps.toList=t.cps.toList++[c]++m.cps.toList:=by
    show (t.cps++#[c]++m.cps).toList=_;simp
   rw[h3]at this;have h4:(T' l).cps.toList=l:=by simp
   rw[h4]at this;rw[<-this];simp
  rw[e2,kl _ (hf t Gy),GW,<-ih,<-zR]
theorem rM(l:List Nat)(c:Nat):Txt.split (T' l) ⟨#[c]⟩=(spl c l).map T':=by
 refine p0 c _ l ?_ (StrLaws.split_free (T' l) c) (StrLaws.join_split _ _);intro h;have:=split_pos (T' l) ⟨#[c]⟩;rw[h]at this;simp at this
section
variable {ps:PSt}{a b e:Expr}{y:Str}{l:List Nat}{c:Nat}{pos:Pos}{u:U}{C:GE}
theorem qL(ha:Ev X H0 O0 ps a (.str (T' l)))(hb:Ev X H0 O0 ps e (.str y))(Te:Gv [e] X.env=(false,HY e X.env)::Gv [] X.env)(hz:(T' l).length+2<=sizeLine)(hy:y=⟨#[c]⟩)
  (RS:HR a "split" X.env (HY a X.env)=HY a X.env:=by rfl)
  (Sw:((Hx RD (Gv [e] X.env)).all (λx=>!x.1) && (JA RD (HZ [] X.env)).all (λx=>x.1.isSome) && decide ([e].length+([]:List JP).length+(if ([]:List JP).isEmpty then 0 else 1)<30))=true:=by rfl)
  (RT:(RE.endLine==RD.line)=true:=by rfl) (RY:(Hx RD (Gv [] X.env)).any (·.1)=false:=by rfl):
  EvN X H0 O0 ps (.Call (.Attribute a "split" RE) [e] [] RD) ((spl c l).map λp=>U.str (T' p)):=by
 subst hy;have:=AH ha hb Te hz rfl RS Sw RT RY;rw[rM,G3]at this;exact this
theorem DC:PA X es (λ_ _ _=>False):=λ_ _ _ _ _ _ _ h=>h.elim
end
section
variable {M:NO}{A:Ha}{E:Gr→Gs→Prop}{s:Gs}
theorem iq{base:H_}{l:List Env}{e:GE}{cls a0 fl:Gr}{Q:Unit->Gs->Prop}(f:Option GE)(k:base.StaysIn s.heap)(fr:s.heap.FunFrames base l)(t:s.heap.TracedAtW base e cls a0 fl)
  (h:∀h',base.StaysIn h'->h'.FunFrames base l->h'.TracedAtW base e cls a0 (f.elim GU λL=>Ld L)->s.heap.UpToSlots h'->Q () {s with heap:=h' }):GQ M A (setFlight (.ref e) f) Q E s:=by
 obtain⟨oe,vs,T,oT,ts,he,hc,hd,h1,hn,RL,hT,UA,h3⟩:=t;have sz:3<ts.size:=(HQ.mp h3).1;have SF:∀b,b≠T->(s.heap.update T (Ol (·.setIfInBounds 3 (f.elim GU λL=>Ld L)))).get? b=s.heap.get? b:=λb hb=>Hd _ _ (Ne.symm hb)
 have ot:∀b o,s.heap.get? b=some o->(∀vs,o.data≠.fields vs)->b≠T:=λb o hb q z=>by
  rw[z,hT]at hb;cases hb;exact q ts UA
 unfold setFlight;refine Gk (Jd he hd h1 ?_);rw[if_pos (show (GR T !=GU)=true by simp)]
 refine LC hT UA sz (h _ (λb o q=>?_) (fr.of_keeps λb o q z=>⟨o,(SF b (ot b o q z)).trans q,rfl⟩) ⟨oe,vs,T,_,_,(SF e (Ne.symm RL)).trans he,hc,hd,h1,hn,RL,Hz _ hT (LH (IT UA _)),IT UA _,by simp[sz]⟩ λb o q z=>⟨o.slots,(SF b (ot b o q z)).trans q⟩)
 exact (SF b λz=>by rw[z,hn]at q;cases q).trans (k b o q)
theorem sy{base:H_}{env:Env}{outer:List Env}{L e:GE}{cls a0 fl:Gr}{Q:Unit->Gs->Prop}(Uj:A.frames=some (env::outer))(hf:env.frame=some L)(k:base.StaysIn s.heap)(n:base.get? e=none)
  (fr:s.heap.FunFrames base (env::outer)) (t:s.heap.TracedAtW base e cls a0 fl) (hQ:∀h',OZ base outer e cls a0 h'->s.heap.UpToSlots h'->Q () {s with heap:=h' }):GQ M A (Pk env (.ref e)) Q E s:=by
 have t':=t;obtain⟨oe,vs,T,oT,ts,he,⟨hc,h0⟩,hd,h1,hn,RL,hT,UA,h3⟩:=t';unfold Pk;refine Gk ?_;by_cases hL:(fl==Ld L)=true
 ·unfold Nj;simp only[hf];refine Gk (Jd he hd h1 ?_);rw[if_pos (show (GR T !=GU)=true by simp)]
  refine Gk (Jd hT UA h3 ?_);rw[if_pos hL];exact Gw (iq none k fr t λh' k1 k2 k3 k4=>hQ h' ⟨k1,n,k2.2.2,k3⟩ k4)
 ·subst hc;have SF:∀b,b≠T->(s.heap.update T (Ol (·.setIfInBounds 3 GU))).get? b=s.heap.get? b:=λb hb=>Hd _ _ (Ne.symm hb)
  have ot:∀b o,s.heap.get? b=some o->(∀vs,o.data≠.fields vs)->b≠T:=λb o hb q z=>by
   rw[z,hT]at hb;cases hb;exact q ts UA
  unfold Nj;simp only[hf];refine Gk (Jd he hd h1 ?_);rw[if_pos (show (GR T !=GU)=true by simp)]
  refine Gk (Jd hT UA h3 ?_);rw[if_neg hL];refine Gk (LC hT UA (HQ.mp h3).1 ?_)
  refine wpAny_newEntryW Uj (fr.of_keeps λb o q z=>⟨o,(SF b (ot b o q z)).trans q,rfl⟩) hf ((SF e (Ne.symm RL)).trans he) (λb o q=>(SF b λz=>by rw[z,hn]at q;cases q).trans (k b o q)) n hd (HQ.mp h1).1 h0
   λh' ⟨x1,x2,x3,x4⟩=>hQ h' ⟨x1,n,x2.2.2,x3⟩ λb o q z=>x4 b o ((SF b (ot b o q z)).trans q) z
end
theorem uF{h h' B B':H_}(hb:∀b,B.get? b=none->B'.get? b=none):∀{l:List Env},(∀L∈frs l,∀o,h.get? L=some o->h'.get? L=some o)->h.FunFrames B l->h'.FunFrames B' l
 |[],_,_=>trivial
 |env::r,k,⟨h1,⟨L,o,hf,hn,ho,hd⟩,h3⟩=>by
  rw[iJ hf]at k;exact⟨h1,⟨L,o,hf,hb L hn,k L Gy o ho,hd⟩,uF hb (λL' hL'=>k L' (Gq _ hL')) h3⟩
def CXH(P:GF)(w:G5)(ch:List GE)(outer:List Env)(H:Hp)(s:Gs)(E:XK)(e:Gr)(s':Gs):Prop:=
 ∃(ea:GE) (cls a0 fl:Gr) (B:H_) (H':Hp),e=.ref ea/\s'.os=s.os/\Ms s'.gens/\Un (frs outer) ch H H' s.heap s'.heap/\HOk P w H' s'.heap/\H' ea=none/\
  (∀b o,s.heap.get? b=some o->b ∉ frs outer->b ∉ ch->H b=none->B.get? b=some o)/\(∀b u,H' b=some u->∃o,B.get? b=some o)/\(∀b o,s.heap.get? b=some o->b ∉ frs outer->b ∉ ch->∃o',B.get? b=some o')/\
  B.StaysIn s'.heap/\B.get? ea=none/\s'.heap.FunFrames B outer/\s'.heap.TracedAtW B ea cls a0 fl/\E cls none H'
def iH(X:Cx)(E:XK):Prop:=∀(pins:List (GE×Obj)) (σ:St) (H:Hp) (s:Gs) (e:Gr) (s':Gs) (ch:List GE),Inv X pins σ H s->(∀b∈ch,X.s₀.heap.objs.size<=b)->CXH X.prog X.w ch X.stack H s E e s'->X.xe e s'
section
variable {P:GF}{w:G5}{K:Frag}{mg:Str→Option Gr}{base:H_}{N:List Str}{RC:Str}{scope:Ke}{f:GE}{cd:Gr}{A:Ha}{outer:List Env}{s:Gs}{H:Hp}
theorem vg{pins:List (GE×Obj)}{σ:St}{H1 H':Hp}{s1:Gs}{B h1 h2:H_}{ch:List GE}(I:Inv (cR (CXF P w) P w K mg base N RC scope f cd A outer s H E) pins σ H1 s1)(T7:∀b∈ch,s.heap.objs.size<=b)
  (un:Un (frs (JH RC scope s.heap.objs.size f cd::outer)) ch H1 H' s1.heap h1)
  (k1:∀b o,s1.heap.get? b=some o->b ∉ frs (JH RC scope s.heap.objs.size f cd::outer)->b ∉ ch->H1 b=none->B.get? b=some o) (k3:∀b o,s1.heap.get? b=some o->b ∉ frs (JH RC scope s.heap.objs.size f cd::outer)->b ∉ ch->∃o',B.get? b=some o')
  (st:B.StaysIn h2) (up:h1.UpToSlots h2):
  Un (frs outer) [] H H' s.heap h2/\(∀b o,s.heap.get? b=some o->b ∉ frs outer->H b=none->B.get? b=some o)/\(∀b o,s.heap.get? b=some o->b ∉ frs outer->∃o',B.get? b=some o'):=by
 have nc:∀b o,s.heap.get? b=some o->b ∉ ch:=λb o e z=>absurd (GD e) (Nat.not_lt.mpr (T7 b z))
 have ef:frs (JH RC scope s.heap.objs.size f cd::outer)=s.heap.objs.size::frs outer:=iJ rfl;rw[ef]at un k1 k3
 have ne:∀b o,s.heap.get? b=some o->b ∉ frs outer->b ∉ s.heap.objs.size::frs outer:=λb o e hb z=>by
  rcases Gx.mp z with y |y
  ·exact absurd (GD e) (by rw[y];exact Hc _)
  ·exact hb y
 have ib:Un (frs outer) [] H H1 s.heap s1.heap:=I.base
 have K1:∀b o,s.heap.get? b=some o->b ∉ frs outer->H b=none->B.get? b=some o:=λb o e hb n=>
  k1 b o (ib.keep b o e n hb (by simp)) (ne b o e hb) (nc b o e) (ib.free b o e n (by simp))
 have K3:∀b o,s.heap.get? b=some o->b ∉ frs outer->∃o',B.get? b=some o':=λb o e hb=>by
  obtain⟨o',e'⟩:=ib.there b o e (by simp)
  exact k3 b o' e' (ne b o e hb) (nc b o e)
 have U8:∀b∈frs outer,∀o,s.heap.get? b=some o->∀vs,o.data≠.fields vs:=iy I.ok.funs;have frf:∀b∈frs outer,H b=none:=I.ok.frf;refine⟨⟨λb o e n hb _=>st b o (K1 b o e hb n),λb o e n hb hx=>?_,λb o e n hx=>?_,λb o e hx=>?_,λb xs e=>un.tups b xs (ib.tups b xs e),λb o u e=>un.frzs b o u (ib.frzs b o u e),λb ps e=>?_⟩,K1,K3⟩
 ·obtain⟨sl,e1⟩:=ib.slot b o e n hb hx;obtain⟨sl2,e2⟩:=un.slot b _ e1 (ib.free b o e n hx) (Gq _ hb) (nc b o e);obtain⟨sl3,e3⟩:=up b _ e2 (U8 b hb o e);exact⟨sl3,e3⟩
 ·obtain⟨o',e1⟩:=ib.there b o e hx;exact un.free b o' e1 (ib.free b o e n hx) (nc b o e)
 ·by_cases hb:b∈frs outer
  ·obtain⟨sl,e1⟩:=ib.slot b o e (frf b hb) hb hx;obtain⟨sl2,e2⟩:=un.slot b _ e1 (ib.free b o e (frf b hb) hx) (Gq _ hb) (nc b o e);obtain⟨sl3,e3⟩:=up b _ e2 (U8 b hb o e);exact⟨_,e3⟩
  ·obtain⟨o',e'⟩:=K3 b o e hb;exact⟨o',st b o' e'⟩
 ·obtain⟨m1,e1⟩:=ib.tbls b ps e;obtain⟨m2,e2⟩:=un.tbls b _ e1;exact⟨m1++m2,by rw[e2,KY]⟩
theorem zx:iH (cR (CXF P w) P w K mg base N RC scope f cd A outer s H E) E:=by
 intro pins σ H1 s1 e s' ch I T7 hcx;obtain⟨ea,cls,a0,fl,B,H',rfl,os,bare,un,hok,U9,k1,k2,k3,st,bn,ff,tr,hE⟩:=hcx;show GQ _ _ (Pk (JH RC scope s.heap.objs.size f cd) (.ref ea)) _ _ s';refine sy (L:=s.heap.objs.size) I.ok.frames rfl st bn ff tr λh2 Va up=>?_
 obtain⟨u,K1,K3⟩:=vg I T7 un k1 k3 Va.1 up;exact⟨ea,cls,a0,B,H',rfl,os.trans I.os,bare,u,gG hok k2 st Va.1,U9,K1,k2,K3,Va,hE⟩
end
section
variable {pins:List (GE×Obj)}{σ:St}{H:Hp}{s:Gs}
theorem rh{scope:Ke}{cl:List (Str×GE)}{fp:List GE}{use:Option (Gr->Sem Unit)}{Q:Gr->Gs->Prop}{acc:Gr}(SW:X.stack=X.env::X.outer)(Uj:X.env.frame=some X.env.locals)(hx:iH X E)(I3:Inv X pins σ H s)(hfp:∀b∈fp,X.s₀.heap.objs.size<=b):
  bj (CXF X.prog X.w) ((ap X scope cl s.heap.objs.size s H fp).wish (notedBy (G1 X.prog X.w) X.A (LA scope cl s.heap.objs.size X.env) (λe s'=>NL (G1 X.prog X.w) X.A X.xe use Q acc s.heap.objs.size (.error e) s'))) E:=by
 intro pp RK H' s' e s6 I' hcx;have J:=I'.unwish;obtain⟨ea,cls,a0,B0,H6,rfl,os,bare,un,hok,U9,k1,k2,k3,fl,hE⟩:=hcx;have un:Un (frs X.stack) [] H' H6 s'.heap s6.heap:=un;have ib:Un (frs X.stack) fp H H' s.heap s'.heap:=J.base;have fl':OZ B0 (X.env::X.outer) ea cls a0 s6.heap:=by rw[<-SW];exact fl
 show GQ _ _ (Nj (.ref ea) X.env) _ _ s6;refine PL (I3.ok.frames.trans (congrArg some SW)) Uj fl' λh7 held up=>?_
 generalize hC:s.heap.objs.size=C at *;have lt:∀b o,s.heap.get? b=some o->b≠C:=λb o q=>by rw[<-hC];exact GS (GD q)
 have cF:C ∉ frs X.stack:=λz=>by
  rw[SW,iJ Uj]at z;rcases Gx.mp z with y |y
  ·have:=I3.lt;rw[<-hC]at y;exact absurd this (by rw[y];exact Hc _)
  ·exact I3.nofs (Ng hC) y
 have cN:H' C=none:=J.free;obtain⟨m,Uv,_⟩:=J.loc;have Uv:s'.heap.Ns C m:=Uv;obtain⟨oC,es,ep,hoC,hdC,rC⟩:=id Uv;have ns6:s6.heap.Ns C m:=⟨oC,es,ep,un.keep _ oC hoC cN cF (by simp),hdC,rC⟩
 have ns7:=up.ns ns6;refine⟨m,ns7,λh8 sb cenv _=>?_⟩
 obtain⟨p1,p2,p3,p4⟩:=held;have TC:∀b o,b≠C->h7.get? b=some o->h8.get? b=some o:=λb o hb q=>sb.extBut b o hb q
 have notC:∀b o vs,h7.get? b=some o->o.data=.fields vs->b≠C:=by
  intro b o vs q d z;subst z;obtain⟨o',_,_,e',d',_⟩:=ns7;rw[q]at e';cases e';rw[d]at d';cases d'
 have bst:(hideAll B0 [C]).StaysIn h8:=λb o q=>TC b o (λz=>by rw[z,hideAll_none [C] (by simp)]at q;cases q) (p1 b o (of_hideAll _ q))
 have UT:∀b,B0.get? b=none->(hideAll B0 [C]).get? b=none:=λb hb=>by
  cases q:(hideAll B0 [C]).get? b with
  |none=>rfl
  |some o=>have:=of_hideAll _ q;rw[hb]at this;cases this
 have ff8:h8.FunFrames (hideAll B0 [C]) X.stack:=by
  rw[<-SW]at p3;exact uF UT (λL hL o q=>TC L o (λz=>cF (by rw[<-z];exact hL)) q) p3
 have tr8:h8.TracedAtW (hideAll B0 [C]) ea cls a0 (Ld X.env.locals):=by
  obtain⟨oe,vs,T,oT,ts,he,TN,hd,h1,hn,RL,hT,UA,h3⟩:=p4;exact⟨oe,vs,T,oT,ts,TC _ _ (notC _ _ _ he hd) he,TN,hd,h1,UT _ hn,RL,TC _ _ (notC _ _ _ hT UA) hT,UA,h3⟩
 obtain⟨oe,vs,T,oT,ts,he8,hc8,hd8,h18,_⟩:=id tr8
 have RR:∀h9 fl9,(hideAll B0 [C]).StaysIn h9->h9.FunFrames (hideAll B0 [C]) X.stack->h9.TracedAtW (hideAll B0 [C]) ea cls a0 fl9->h8.UpToSlots h9->X.xe (.ref ea) {s6 with heap:=h9 }:=by
  intro h9 fl9 q1 q2 q3 q4
  have K1:∀b o,s.heap.get? b=some o->b ∉ frs X.stack->b ∉ fp->H b=none->(hideAll B0 [C]).get? b=some o:=λb o q hb hp n=>
   hideAll_get _ (k1 b o (ib.keep b o q n hb hp) hb (ib.free b o q n hp)) (by simpa using lt b o q)
  have k2':∀b u,H6 b=some u->∃o,(hideAll B0 [C]).get? b=some o:=λb u q=>by
   obtain⟨o,ho⟩:=k2 b u q;refine⟨o,hideAll_get _ ho ?_⟩
   have:b≠C:=λz=>by
    subst z;have:=un.free b oC hoC cN (by simp)
    rw[q]at this;cases this
   simpa using this
  have K3:∀b o,s.heap.get? b=some o->b ∉ frs X.stack->b ∉ fp->∃o',(hideAll B0 [C]).get? b=some o':=λb o q hb hp=>by
   obtain⟨o',e'⟩:=ib.there b o q hp;obtain⟨o2,e2⟩:=k3 b o' e' hb;exact⟨o2,hideAll_get _ e2 (by simpa using lt b o q)⟩
  have slot:∀b o,s.heap.get? b=some o->b∈frs X.stack->b ∉ fp->∃sl,h9.get? b=some {o with slots:=sl }:=λb o q hb hp=>by
   have hn:H b=none:=I3.stkFree b hb;have dn:=iy I3.stack b hb o q;obtain⟨sl,e1⟩:=ib.slot b o q hn hb hp;obtain⟨sl2,e2⟩:=un.slot b _ e1 (ib.free b o q hn hp) hb (by simp)
   obtain⟨sl3,e3⟩:=up b _ e2 dn;obtain⟨sl4,e4⟩:=q4 b _ (TC b _ (lt b o q) e3) dn;exact⟨sl4,e4⟩
  refine hx pins σ H s (.ref ea) {s6 with heap:=h9 } fp I3 hfp ⟨ea,cls,a0,fl9,hideAll B0 [C],H6,rfl,os.trans J.os,bare,⟨λb o q n hb hp=>q1 b o (K1 b o q hb hp n),λb o q n hb hp=>slot b o q hb hp,λb o q n hp=>?_,λb o q hp=>?_,λb xs q=>un.tups b xs (ib.tups b xs q),λb o u q=>un.frzs b o u (ib.frzs b o u q),λb ps q=>?_⟩,
   gG hok k2' (λb o q=>fl.1 b o (of_hideAll _ q)) q1,U9,K1,k2',K3,q1,UT _ p2,q2,q3,hE⟩
  ·obtain⟨o',e1⟩:=ib.there b o q hp;exact un.free b o' e1 (ib.free b o q n hp) (by simp)
  ·by_cases hb:b∈frs X.stack
   ·obtain⟨sl,e1⟩:=slot b o q hb hp;exact⟨_,e1⟩
   ·obtain⟨o',e'⟩:=K3 b o q hb hp;exact⟨o',q1 b o' e'⟩
  ·obtain⟨m1,e1⟩:=ib.tbls b ps q;obtain⟨m2,e2⟩:=un.tbls b _ e1;exact⟨m1++m2,by rw[e2,KY]⟩
 unfold PySem.passOn;refine Gk (Jd he8 hd8 h18 ?_);rw[if_neg (show ¬ ((GR T==GU)=true) by simp)]
 first
  |exact Gk (iq cenv.frame bst ff8 tr8 λh9 q1 q2 q3 q4=>Pz (RR h9 _ q1 q2 q3 q4))
  |exact Gk (Gw (Gk (iq cenv.frame bst ff8 tr8 λh9 q1 q2 q3 q4=>Pz (RR h9 _ q1 q2 q3 q4))))
theorem vv{R6 iter tg:Expr}{scope:Ke}{cl:List (Str×GE)}{pos UH:Pos}{is:List Nat}{wi:TI}{g:TG}{te:TE}{use:Option (Gr->Sem Unit)}{Q0:VK}{Q:Gr->Gs->Prop}(hc:X.calm=true)(SW:X.stack=X.env::X.outer)(Uj:X.env.frame=some X.env.locals)(hx:iH X E)(hex:X.ex=[])(B:bQ X scope cl is)
  (hi:PI X tg iter wi) (hg:∀C s H fp,PG (ap X scope cl C s H fp) tg g) (he:∀C s H fp EE,bj (CXF X.prog X.w) ((ap X scope cl C s H fp).wish EE) E->PE ((ap X scope cl C s H fp).wish EE) R6 te) (hs:∀x,Hg iter X.env x=pure x)
  (I:Inv X pins σ H s) (h:pi is wi g te σ H Q0)
  (RR:∀(l C:GE) (H':Hp) (s':Gs) (m:Str->Option Gr),Inv X pins σ H' s'->s'.heap.Ns C m->H' C=none->C≠X.env.locals->C ∉ X.fs->X.s₀.heap.objs.size<=C->(∀x c,X.env.cells.lookup x=some c->c≠C)->(∀p∈X.pn++pins,p.1≠C)->Q0 (.ref l) H'->
   NL (G1 X.prog X.w) X.A X.xe use Q (.ref l) C (.ok .next) s'):
  GQ (G1 X.prog X.w) X.A (K6 (.ListComp R6 [⟨tg,iter,[],0⟩] scope pos) scope X.env UH (Pq []) false (HY iter X.env) use) Q X.xe s:=by
 refine KO rfl hs B.clos B.kind B.names (thn (hi pins s σ H _ I h) λxv s1 h1=>thn h1 λitv s2 h2=>?_)
 obtain⟨it,fp,tn,J,H2,e,I2,T,U1,f2,R⟩:=h2;subst e;refine JQ (LU B.cell (by intro y hy;simp at hy) (λh₁ Uv S6=>?_) B.kind)
 have hl:H2 s2.heap.objs.size=none:=I2.hok.fresh (GA _);obtain⟨W,⟨m0,w0⟩,turn⟩:=R s2.heap.objs.size hl
 have I3:Inv X pins σ (upd H2 s2.heap.objs.size (.lst [])) {s2 with heap:=s2.heap.push {cls:=.type "list",dict:=none,data:=.seq ([]:List Gr).toArray } }:=
  I2.laid (t':=s2.toks) (o:=.lst []) (λb u e=>Gu _ e) (GA _) ⟨Hf _,[],0,.nil,GH _ rfl⟩
 have U4:∀b∈fp,b<s2.heap.objs.size:=λb hb=>let ⟨o,e,_⟩:=T.obj 0 _ U1 b hb;GD e
 have f3:∀b∈fp,ig X pins (upd H2 s2.heap.objs.size (.lst [])) b:=λb hb=>⟨by rw[aE (GS (U4 b hb))];exact (f2 b hb).1,(f2 b hb).2⟩
 have kp:∀b o,(s2.heap.push {cls:=.type "list",dict:=none,data:=.seq ([]:List Gr).toArray }).get? b=some o→h₁.get? b=some o:=λb o e=>
  S6.extBut b o (GS (GD e)) (Gu _ e)
 have Vn:tn 0 h₁:=T.keep 0 _ _ U1 λb _ o e=>kp b o (Gu _ e)
 have UI:∀b∈fp,b<(s2.heap.push {cls:=.type "list",dict:=none,data:=.seq ([]:List Gr).toArray }).objs.size:=λb hb=>by
  rw[Iq];exact IK (U4 b hb)
 have I4:=f8 (t':=s2.toks+([]:List (Str×Gr)).length) I3 B f3 UI Uv kp
 have loop:J7 (G1 X.prog X.w) X.A (.compLoop (.ListComp R6 [⟨tg,iter,[],0⟩] scope pos) 0 (.ref it) (.ref s2.heap.objs.size) (LA scope cl (s2.heap.push {cls:=.type "list",dict:=none,data:=.seq ([]:List Gr).toArray }).objs.size X.env))
   (NL (G1 X.prog X.w) X.A X.xe use Q (.ref s2.heap.objs.size) (s2.heap.push {cls:=.type "list",dict:=none,data:=.seq ([]:List Gr).toArray }).objs.size)
   {s2 with heap:=h₁,toks:=s2.toks+([]:List (Str×Gr)).length }:=by
  generalize hs3:({s2 with heap:=s2.heap.push {cls:=.type "list",dict:=none,data:=.seq ([]:List Gr).toArray } }:Gs)=s3 at *
  have hC:(s2.heap.push {cls:=.type "list",dict:=none,data:=.seq ([]:List Gr).toArray }).objs.size=s3.heap.objs.size:=by rw[←hs3]
  rw[hC]
  have pass:=rh (scope:=scope) (cl:=cl) (fp:=fp) (use:=use) (Q:=Q) (acc:=.ref s2.heap.objs.size) SW Uj hx I3 λb hb=>by
   rcases (f3 b hb).2.2.2.1 with z |z
   ·rw[hex]at z;cases z
   ·exact z
  have Sy:∀{H':Hp},(∀b∈fp,H' b=none)->∀b∈fp,ig (ap X scope cl s3.heap.objs.size s3 (upd H2 s2.heap.objs.size (.lst [])) fp) [] H' b:=λhn b hb=>
   ⟨hn b hb,(I4.ok.exf b hb).1,I4.ok.exfs b hb,.inl hb,λx c e=>(I4.ok.exf b hb).2 x c e,λp hp=>absurd (show p∈([]:List (GE×Obj)) from hp) (by simp)⟩
  have back:∀{RK:St}{H':Hp}{pp:List (GE×Obj)}{s':Gs},Inv (ap X scope cl s3.heap.objs.size s3 (upd H2 s2.heap.objs.size (.lst [])) fp) pp RK H' s'->Inv X pins σ H' s':=λI'=>
   I3.call' (ch:=fp) I'.os I'.base I'.hok I'.bare λb hb=>⟨(f3 b hb).2.2.2.1,(f3 b hb).2.1,(f3 b hb).2.2.2.2.1,(f3 b hb).2.2.2.2.2⟩
  refine OY rfl (λn s'=>∃i H',Inv (ap X scope cl s3.heap.objs.size s3 (upd H2 s2.heap.objs.size (.lst [])) fp) [] (mask is σ) H' s'/\tn i s'.heap/\(∀b∈fp,H' b=none)/\W i n H') ?_ m0 ⟨0,_,(by subst hs3;exact I4),Vn,λb hb=>(f3 b hb).1,w0⟩
  rintro n s5 ⟨i,H5,I5,Uu,U2,w5⟩;show GQ _ _ ((compTurn (.ListComp R6 [⟨tg,iter,[],0⟩] scope pos) 0 (.ref it) (.ref s2.heap.objs.size) (LA scope cl s3.heap.objs.size X.env)).onRaise (λx=>do Nj x (LA scope cl s3.heap.objs.size X.env);Nk x)) _ _ s5
  refine Pr ?_;rw[Qb];refine Gk (Km (Gk ?_));rcases turn i n H5 w5 with ⟨stop,q⟩ |⟨go,step⟩
  ·refine thn (T.done (ap X scope cl s3.heap.objs.size s3 (upd H2 s2.heap.objs.size (.lst [])) fp) rfl rfl rfl hc i [] s5 _ H5 _ I5 (Sy U2) Uu stop) λr s6 ⟨hr,I6⟩=>?_
   subst hr;refine Gw ?_;obtain⟨m6,hn6,_⟩:=I6.loc;refine RR _ s3.heap.objs.size H5 s6 m6 (back I6) hn6 I6.free (Kf I3.lt) (I3.nofs (GA _)) I3.sz (λx c e=>?_) (λp hp=>?_) q
   ·obtain⟨v,z⟩:=I3.cell x c e;exact GS z.lt
   ·exact GS (GD (I3.pin p hp).1)
  ·refine thn (T.item (ap X scope cl s3.heap.objs.size s3 (upd H2 s2.heap.objs.size (.lst [])) fp) rfl rfl rfl hc i [] s5 _ H5 _ I5 (Sy U2) Uu go) λr s6 ⟨u,hr,h6⟩=>?_
   subst hr;refine Gk (thn h6 λ_ s7 ⟨x,H7,I7,r7,y7,UJ,fr7⟩=>?_)
   have I7':=I7.pinned (Sy fr7) (T.obj _ _ UJ);refine Gk (HC (hg _ _ _ _ _ s7 (mask is σ) H7 x u _ I7' r7 (step x H7 y7)) (λ_ s8 ⟨U7,H8,I8,q8⟩=>?_) λ_ _ z=>z.elim)
   refine Gk (Gk (HC (he _ _ _ _ _ pass _ s8 U7 H8 _ (I8.wish _) q8) (λv s9 ⟨y,H9,I9',r9,sub,vs,hl9,hz,m',hm,w'⟩=>?_) λ_ _ z=>z))
   have I9:=I9'.unwish;refine Gk (HC (gH (X:=ap X scope cl s3.heap.objs.size s3 (upd H2 s2.heap.objs.size (.lst [])) fp) _ s9 U7 H9 (.ref s2.heap.objs.size) [y] (.ref s2.heap.objs.size) [v] (λ_ H'=>H'=upd H9 s2.heap.objs.size (.lst (vs++[y]))) I9 rfl (.cons r9 .nil) ⟨_,vs,y,rfl,rfl,hl9,hz,rfl⟩) (λz s10 ⟨zv,H10,UK,_,e10⟩=>?_) λ_ _ z=>z.elim)
   subst e10;refine Gw (Gw ⟨rfl,m',hm,i+1,_,(UK.unpinned (pins:=[])).weak (by rw[UK.len,dM,I.len]) sub,T.keep _ _ _ UJ λb hb o e=>(UK.pin (b,o) (GM _ (GM _ (ci hb e)))).1,λb hb=>?_,w'⟩)
   obtain⟨o,e,d⟩:=T.obj _ _ UJ b hb;exact (UK.pin (b,o) (GM _ (GM _ (ci hb e)))).2.1
 exact Lg loop (T.self X.A 0 _ _ _ Vn loop)
end
end L2
namespace L2
open PySem PySem.Spec PyProof.Rows
theorem nZ{n:Nat}(h:n<=9000):n<sizeLine:=by rw[Ij];lia
end L2
namespace ST2
open PySem PySem.SetTable ST
section
variable {prog:GF}{w:G5}{A:Ha}{E:Gr→Gs→Prop}{s:Gs}
abbrev K4:=(Int×Int)×(Int×Int)
abbrev l1(k:K4):List Int:=[k.1.1,k.1.2]
abbrev l2(k:K4):List Int:=[k.2.1,k.2.2]
def TQ(prog:GF)(w:G5)(h:H_)(k:K4)(b:GE):Prop:=∃o items n a1 a2,h.get? b=some o∧o.cls=.type "tuple"∧o.data=.seq items n∧items.toList=[.ref a1,.ref a2]∧TK prog w h (l1 k) a1∧TK prog w h (l2 k) a2
variable {hZ:K4→Int}
def ents(hZ:K4->Int)(kb:List (K4×GE)):List (Int×Gr):=kb.map λp=>(hZ p.1,.ref p.2)
structure SP(prog:GF)(w:G5)(hZ:K4->Int)(h:H_)(S:GE)(kb:List (K4×GE)):Prop where
 ex:∃o es ep t,h.get? S=some o∧o.ExactSet∧o.data=.set es ep t∧es.toList=ents hZ kb∧TOk t (kb.map λp=>hZ p.1)∧t.led=(!w.params.followText "set-order")∧t.plain=true∧t.tooFull=false∧t.mask<8*kb.length+8
 keys:∀p∈kb,TQ prog w h p.1 p.2
 nd:(kb.map (·.1)).Nodup
structure Got(kx:Nat->K4×GE)(i:Nat)(kb:List (K4×GE)):Prop where
 src:∀p∈kb,∃j,j<i/\p=kx j
 all:∀j,j<i->(kx j).1∈kb.map (·.1)
 len:kb.length<=i
variable {R:N9→Gs→Prop}{I:GE}{fp wr:List GE}{G:Array Kl→Array Kl→Prop}{n:Nat}{P:Nat→Gr→Prop}{St:Nat→Gs→Prop}
end
end ST2
namespace L2
open PySem PySem.Spec PySem.W PyProof.Rows
section
variable {X:Cx}{H0:Hp}{O0:List GE}{E:XK}{ps:PSt}{D:PD}
theorem vL{pins:List (GE×Obj)}{s:Gs}{σ:St}{H:Hp}{i:Nat}{x:Str}{v:V}{pos:Pos}{Q:Gr→Gs→Prop}{E':Gr→Gs→Prop}(I:Inv X pins σ H s)(hN:X.N[i]?=some x)(hv:Vis X.env.scope x)(hd:(x==("__debug__":Str))=false)(R8:(x==("__classdict__":Str))=false)
  (e:σ[i]?=some (some v)) (h:∀u,aU v u->Q u s):GQ (G1 X.prog X.w) X.A (HY (.Name x pos) X.env) Q E' s:=by
 obtain⟨m,hn,hl⟩:=I.loc;obtain⟨u,r,l⟩:=hl i x v hN e hv;have RR:=h u r;rcases l with ⟨hk,hm⟩ |⟨hk,c,hc,Tp⟩
 ·exact MD (NP I.ok.kind hk hn hm RR) hd
 ·rcases hk with hk |hk
  ·exact MD (N2 I.ok.kind hk hc Tp RR) hd
  ·exact MD (N3 I.ok.kind hk hc Tp RR R8) hd
end
end L2
namespace ST3
open PySem PySem.W PySem.Calls PyProof.Rows ST
abbrev TR:=(Int×Int)×(Int×Int)×(Int×Int)
def ltT(a b:TR):Bool:=if a.1=b.1 then (if a.2.1=b.2.1 then ltP a.2.2 b.2.2 else ltP a.2.1 b.2.1) else ltP a.1 b.1
section
variable {prog:GF}{w:G5}{A:Ha}{E:Gr→Gs→Prop}{s:Gs}
abbrev lq(p:Int×Int):List Int:=[p.1,p.2]
def TT(prog:GF)(w:G5)(h:H_)(t:TR)(b:GE):Prop:=∃o items n a1 a2 a3,h.get? b=some o∧o.cls=.type "tuple"∧o.data=.seq items n∧items.toList=[.ref a1,.ref a2,.ref a3]∧TK prog w h (lq t.1) a1∧TK prog w h (lq t.2.1) a2∧TK prog w h (lq t.2.2) a3
end
end ST3
namespace L2
open PySem PySem.Spec PyProof.Rows
def t0:ST3.TR:=((0,0),(0,0),(0,0))
theorem BB{X:Cx}{pins:List (GE×Obj)}{σ:List (Option V)}{H:Hp}{s:Gs}{h':H_}{t':Nat}{fp:List GE}{p:GE}{xs:List V}(I:Inv X pins σ H s)(hf:∀b∈fp,ig X pins H b)
  (k:∀b o,b ∉ fp->s.heap.get? b=some o->h'.get? b=some o) (hp:s.heap.objs.size<=p) (new:bG X.prog X.w (upd H p (.tup xs)) h' p (.tup xs)):
  Inv X pins σ (upd H p (.tup xs)) {s with heap:=h',toks:=t' }:=by
 have fresh:H p=none:=I.hok.fresh hp;have np:∀b o,s.heap.get? b=some o->b≠p:=λb o e z=>absurd (GV (GD e) hp) (by rw[z];exact Hc _)
 have nh:∀b u,H b=some u->b≠p:=λb u e z=>by rw[z,fresh]at e;cases e
 have nf:∀b u,H b=some u->b ∉ fp:=λb u e z=>by rw[(hf b z).1]at e;cases e
 refine I.step (g':=s.gens) (d':=s.drawn) (ch:=fp) (λb hb=>?_) (λb o _ _ hc e _=>k b o hc e) (λb o _ _ hc e _=>⟨o.slots,k b o hc e⟩) (λb o _ e n=>by rw[aE (np b o e)];exact n)
  (λb o hc e=>⟨o,k b o hc e⟩) (λb xs e=>by rw[aE (nh b _ e)];exact e) (λb o u e=>by rw[aE (nh b _ e)];exact e) (λb ps e=>⟨#[],by rw[aE (nh b _ e),e];simp⟩) (λm hm=>?_) (λb u e=>?_) I.bare
 ·obtain⟨f0,f1,f2,f3,f4,f5⟩:=hf b hb;exact⟨f3,f1,f4,f5⟩
 ·obtain⟨o,es,ep,ho,r⟩:=hm;exact⟨o,es,ep,k _ o (λz=>(hf _ z).2.1 rfl) ho,r⟩
 ·by_cases hb:b=p
  ·subst hb;rw[aF]at e;cases e;exact new
  ·rw[aE hb]at e;refine (I.hok b u e).stay (λc v hc q=>k c v ?_ q) (λc q=>by rw[aE (nh c _ q)];exact q) λc xs q=>by rw[aE (nh c _ q)];exact q
   rcases hc with z |z
   ·rw[z];exact nf b u e
   ·exact nf c _ z
theorem Ce{X:Cx}{pins:List (GE×Obj)}{σ:List (Option V)}{H:Hp}{s:Gs}{h':H_}{t':Nat}{fp:List GE}(I:Inv X pins σ H s)(hf:∀b∈fp,ig X pins H b)
  (k:∀b o,b ∉ fp->s.heap.get? b=some o->h'.get? b=some o):Inv X pins σ H {s with heap:=h',toks:=t' }:=by
 have nf:∀b u,H b=some u->b ∉ fp:=λb u e z=>by rw[(hf b z).1]at e;cases e
 refine I.step (g':=s.gens) (d':=s.drawn) (ch:=fp) (λb hb=>?_) (λb o _ _ hc e _=>k b o hc e) (λb o _ _ hc e _=>⟨o.slots,k b o hc e⟩) (λ_ _ _ _ n=>n)
  (λb o hc e=>⟨o,k b o hc e⟩) (λ_ _ e=>e) (λ_ _ _ e=>e) (λb ps e=>⟨#[],by rw[e];simp⟩) (λm hm=>?_) (λb u e=>?_) I.bare
 ·obtain⟨f0,f1,f2,f3,f4,f5⟩:=hf b hb;exact⟨f3,f1,f4,f5⟩
 ·obtain⟨o,es,ep,ho,r⟩:=hm;exact⟨o,es,ep,k _ o (λz=>(hf _ z).2.1 rfl) ho,r⟩
 ·refine (I.hok b u e).stay (λc v hc q=>k c v ?_ q) (λ_ q=>q) λ_ _ q=>q
  rcases hc with z |z
  ·rw[z];exact nf b u e
  ·exact nf c _ z
def Yz(K:Gn)(J:It)(G:Hp)(xs:List U):Prop:=
 ∀H2,aH G H2->(∀i,i<xs.length->J.go i H2/\∀x H3,J.yld i H2 x H3->aH H2 H3/\∃u,xs[i]?=some u/\∀O2,(∀a∈O2,H2 a≠none)->aH G (hid H2 O2)->Rp K (hid H3 O2) x u)/\J.stop xs.length H2
def EvZ(X:Cx)(H0:Hp)(O0:List GE)(ps:PSt)(tg iter:Expr)(xs:List U):Prop:=
 PI X tg iter λσ H R=>∃O,Rs X.K H0 O0 ps σ H O/\∀J H',aH H H'->Yz X.K J (hid H' O) xs->R J H'
section
variable {κ:Type} [DecidableEq κ]
def eT(kvs:List (κ×V))(k:κ):Option V:=(kvs.find? λkv=>decide (kv.1=k)).map (·.2)
def i9(kvs:List (κ×V))(k:κ)(v:V):List (κ×V):=
 if (kvs.any λkv=>decide (kv.1=k))=true then kvs.map (λkv=>if kv.1=k then (kv.1,v) else kv) else kvs++[(k,v)]
theorem lr{p:κ×V}{r:List (κ×V)}{k:κ}(e:p.1=k):eT (p::r) k=some p.2:=by simp[eT,Ji,e]
theorem iN{p:κ×V}{r:List (κ×V)}{k:κ}(e:¬ p.1=k):eT (p::r) k=eT r k:=by simp[eT,Ji,e]
theorem qC(k:κ):∀kvs:List (κ×V),(kvs.any λkv=>decide (kv.1=k))=(eT kvs k).isSome
 |[]=>rfl
 |p::r=>by
  rw[JW];by_cases e:p.1=k
  ·simp only[lr e,decide_eq_true e,Bool.true_or,Option.isSome_some]
  ·rw[iN e,decide_eq_false e,QM];exact qC k r
theorem jO(kvs:List (κ×V))(k:κ)(v:V):(i9 kvs k v).length<=kvs.length+1:=by
 unfold i9;split
 ·rw[Gp];lia
 ·rw[Hb,GI,Kg];lia
theorem gR.isSome_eq{o:Option V}{u:Option Gr}(r:gR o u):o.isSome=u.isSome:=by
 cases o with
 |none=>cases u with
  |none=>rfl
  |some _=>exact (show False from r).elim
 |some _=>cases u with
  |none=>exact (show False from r).elim
  |some _=>rfl
theorem KV.val{kvs:List (κ×V)}{vs:List (κ×Gr)}(r:KV kvs vs)(k:κ):gR (eT kvs k) (Lx vs k):=by
 unfold KV at r
 induction r with
 |nil=>exact True.intro
 | @cons p q ps qs h t ih=>
  obtain⟨h1,h2⟩:=h;by_cases e:p.1=k
  ·have e':q.1=k:=h1.symm.trans e;have b:Lx (q::qs) k=some q.2:=by simp[Lx,Ji,e']
   rw[lr e,b];exact h2
  ·have e':¬ q.1=k:=λz=>e (h1.trans z)
   have b:Lx (q::qs) k=Lx qs k:=by simp[Lx,Ji,e']
   rw[iN e,b];exact ih
theorem KV.any{kvs:List (κ×V)}{vs:List (κ×Gr)}(r:KV kvs vs)(k:κ):(kvs.any λkv=>decide (kv.1=k))=vs.any λkv=>decide (kv.1=k):=by
 unfold KV at r
 induction r with
 |nil=>rfl
 |cons h t ih=>rw[JW,JW,ih,h.1]
theorem KV.repl{kvs:List (κ×V)}{vs:List (κ×Gr)}(r:KV kvs vs)(k:κ){y:V}{u:Gr}(ry:aU y u):
  KV (kvs.map λkv=>if kv.1=k then (kv.1,y) else kv) (vs.map λkv=>if kv.1=k then (kv.1,u) else kv):=by
 unfold KV at r |-
 induction r with
 |nil=>exact .nil
 | @cons p q ps qs h t ih=>
  rw[GW,GW];refine .cons ?_ ih;obtain⟨h1,h2⟩:=h;by_cases e:p.1=k
  ·rw[if_pos e,if_pos (h1.symm.trans e)];exact⟨h1,ry⟩
  ·rw[if_neg e,if_neg (λz=>e (h1.trans z))];exact⟨h1,h2⟩
theorem KV.put{kvs:List (κ×V)}{vs:List (κ×Gr)}(r:KV kvs vs)(k:κ){y:V}{u:Gr}(ry:aU y u):KV (i9 kvs k y) (stored vs k u):=by
 unfold i9 stored;rw[r.any k];by_cases e:(vs.any λkv=>decide (kv.1=k))=true
 ·rw[if_pos e,if_pos e];exact r.repl k ry
 ·rw[if_neg e,if_neg e];exact Paired.snoc r ⟨rfl,ry⟩
theorem KV.length{kvs:List (κ×V)}{vs:List (κ×Gr)}(r:KV kvs vs):kvs.length=vs.length:=Paired.length r
end
theorem uc{P:GF}{w:G5}{k:Key}{u:Gr}(r:aU (kV k) u):(ck P w).is k u=true:=by
 cases k with
 |inl i=>obtain⟨t,e⟩:=(show ∃t,u=He i t from r);subst e;exact o4 P w i t
 |inr x=>obtain⟨t,e⟩:=(show ∃t,u=Ho x t from r);subst e;exact qv P w x t
theorem m7{P:GF}{w:G5}:∀{ks:List Key}{us:List Gr},aK (ks.map kV) us->ItemsAre (ck P w) ks us
 |[],_,r=>by rw[QX]at r;cases r;exact .nil
 |k::ks,_,r=>by
  rw[GW]at r;cases r with
  |cons h t=>exact .cons (uc h) (m7 t)
abbrev KT(H:Hp):List (List Key×V)->List (List Key×GE×Gr)->Prop:=Paired λp q=>p.1=q.1/\H q.2.1=some (.tup (p.1.map kV))/\aU p.2 q.2.2
theorem KT.val{H:Hp}{kvs:List (List Key×V)}{xs:List (List Key×GE×Gr)}(r:KT H kvs xs)(k:List Key):gR (eT kvs k) ((Q5 xs k).map (·.2)):=by
 induction r with
 |nil=>exact True.intro
 | @cons p q ps qs h t ih=>
  obtain⟨h1,_,h2⟩:=h;by_cases e:p.1=k
  ·have e':q.1=k:=h1.symm.trans e;have b:Q5 (q::qs) k=some q.2:=by simp[Q5,Ji,e']
   rw[lr e,b];exact h2
  ·have e':¬ q.1=k:=λz=>e (h1.trans z)
   have b:Q5 (q::qs) k=Q5 qs k:=by simp[Q5,Ji,e']
   rw[iN e,b];exact ih
theorem KT.repl{H:Hp}{kvs:List (List Key×V)}{xs:List (List Key×GE×Gr)}(r:KT H kvs xs)(k:List Key){y:V}{u:Gr}(ry:aU y u):
  KT H (kvs.map λkv=>if kv.1=k then (kv.1,y) else kv) (xs.map (putAt k u)):=by
 induction r with
 |nil=>exact .nil
 | @cons p q ps qs h t ih=>
  rw[GW,GW];refine .cons ?_ ih;obtain⟨h1,h2,h3⟩:=h;unfold putAt;by_cases e:p.1=k
  ·rw[if_pos e,if_pos (h1.symm.trans e)];exact⟨h1,h2,ry⟩
  ·rw[if_neg e,if_neg (λz=>e (h1.trans z))];exact⟨h1,h2,h3⟩
theorem KT.put{H:Hp}{kvs:List (List Key×V)}{xs:List (List Key×GE×Gr)}(r:KT H kvs xs)(k:List Key){b:GE}{y:V}{u:Gr}(hb:H b=some (.tup (k.map kV)))(ry:aU y u):
  KT H (i9 kvs k y) (storedH xs k b u):=by
 have e:(kvs.any λkv=>decide (kv.1=k))=(Q5 xs k).isSome:=by
  rw[qC,(r.val k).isSome_eq,OQ]
 unfold i9 storedH;rw[e];by_cases q:(Q5 xs k).isSome=true
 ·rw[if_pos q,if_pos q];exact r.repl k ry
 ·rw[if_neg q,if_neg q];exact Paired.snoc r ⟨rfl,hb,ry⟩
theorem KT.keeps{H H':Hp}{kvs:List (List Key×V)}{xs:List (List Key×GE×Gr)}(r:KT H kvs xs)(ht:∀b ys,H b=some (.tup ys)->H' b=some (.tup ys)):KT H' kvs xs:=
 Paired.mapP r λ_ _ z=>⟨z.1,ht _ _ z.2.1,z.2.2⟩
variable {P:GF}{H:Hp}
section
variable {w:G5}{h:H_}{a:GE}
theorem Co{u:HO}(ok:HOk P w H h)(e:Rd H a u):bG P w H h a u:=e.ok ok
theorem uM{kvs:List (Key×V)}(ok:HOk P w H h)(e:Rd H a (.dK kvs)):kvs.length<=sizeLine/\(a==JN)=false/\∃vs,KV kvs vs/\h.DictOf (ck P w) a vs:=
 show bG P w H h a (.dK kvs) from Co ok e
theorem EU{kvs:List (Key×V)}(ok:HOk P w H h)(e:H a=some (.dK kvs)):kvs.length<=sizeLine/\(a==JN)=false/\∃vs,KV kvs vs/\h.DictOf (ck P w) a vs:=uM ok (.inl e)
theorem nL{ks:List Key}(ok:HOk P w H h)(e:H a=some (.tup (ks.map kV))):(N8 (ck P w)).is h ks a:=by
 obtain⟨_,RB,r,o,h1,h2,n,h3⟩:=(show bG P w H h a (.tup (ks.map kV)) from ok a _ e)
 exact⟨o,RB.toArray,n,h1,h2,h3,by simpa using m7 r⟩
theorem ui{kvs:List (List Key×V)}(ok:HOk P w H h)(e:Rd H a (.dT kvs)):kvs.length<=sizeLine/\(a==JN)=false/\
  ∃xs,KT H kvs xs/\h.DictOfH (N8 (ck P w)) a xs:=by
 obtain⟨z,y,xs,r,o,es,ep,h1,h2,h3,h4,h5⟩:=(show bG P w H h a (.dT kvs) from Co ok e)
 refine⟨z,y,xs,r,o,es,ep,h1,h2,h3,h4,λx hx=>?_,h5⟩
 have all:∀{l:List (List Key×V)}{m:List (List Key×GE×Gr)},KT H l m->∀x∈m,(N8 (ck P w)).is h x.1 x.2.1:=by
  intro l m q
  induction q with
  |nil=>intro x hx;exact nomatch hx
  | @cons p q ps qs hq t ih=>
   intro x hx;rcases Gx.mp hx with e |hx
   ·subst e;exact nL ok (by rw[<-hq.1];exact hq.2.1)
   ·exact ih x hx
 exact all r x hx
theorem FF{kvs:List (List Key×V)}(ok:HOk P w H h)(e:H a=some (.dT kvs)):kvs.length<=sizeLine/\(a==JN)=false/\
  ∃xs,KT H kvs xs/\h.DictOfH (N8 (ck P w)) a xs:=ui ok (.inl e)
end
def nY(H:Hp)(a:GE)(y:V)(r:Option V):Prop:=
 (∃kvs k,Rd H a (.dK kvs)/\y=kV k/\r=eT kvs k)\/∃kvs k b,Rd H a (.dT kvs)/\y=.ref b/\H b=some (.tup (k.map kV))/\r=eT kvs k
def xz(H:Hp)(a:GE)(y v:V)(H':Hp):Prop:=
 (∃kvs k,H a=some (.dK kvs)/\y=kV k/\kvs.length<sizeLine/\H'=upd H a (.dK (i9 kvs k v)))\/
 ∃kvs k b,H a=some (.dT kvs)/\y=.ref b/\H b=some (.tup (k.map kV))/\kvs.length<sizeLine/\H'=upd H a (.dT (i9 kvs k v))
theorem nY.k{H:Hp}{a:GE}{kvs:List (Key×V)}{k:Key}(e:H a=some (.dK kvs)):nY H a (kV k) (eT kvs k):=.inl ⟨kvs,k,.inl e,rfl,rfl⟩
theorem xz.k{H:Hp}{a:GE}{kvs:List (Key×V)}{k:Key}{v:V}(e:H a=some (.dK kvs))(hl:kvs.length<sizeLine):xz H a (kV k) v (upd H a (.dK (i9 kvs k v))):=.inl ⟨kvs,k,e,rfl,hl,rfl⟩
variable {X:Cx}{pins:List (GE×Obj)}
section
variable {σ:St}{s:Gs}{a:GE}{y v:V}{u r:Gr}{o:Option V}{A:Ha}{E:Gr→Gs→Prop}
theorem Inv.big(I:Inv X pins σ H s):JN<s.heap.objs.size:=by
 have h:HB<s.heap.objs.size:=(I.mod.glob.keeps I.bk).lt;exact Jm (by decide) h
theorem wq{Q:Gr->Gs->Prop}(hu:A.units+1<Ku)(I:Inv X pins σ H s)(g:nY H a y (some v))(ry:aU y u)(h:∀w' s',Inv X pins σ H s'->aU v w'->Q w' s'):
  GQ (G1 X.prog X.w) A (OC (.ref a) u) Q E s:=by
 rcases g with ⟨kvs,k,e,ey,l⟩ |⟨kvs,k,b,e,ey,eb,l⟩
 ·subst ey;obtain⟨z,hd,vs,TL,dd⟩:=uM I.hok e;obtain⟨w',hw,S1⟩:=gR.some_of (v:=v) (o:=Lx vs k) (by rw[l];exact TL.val k)
  exact Pc (uc ry) dd.mapOf hw (h w' _ (I.tok _) S1)
 ·subst ey;cases (show u=GR b from ry)
  obtain⟨z,hd,xs,TL,dd⟩:=ui I.hok e;obtain⟨w',hw,S1⟩:=gR.some_of (v:=v) (o:=(Q5 xs k).map (·.2)) (by rw[l];exact TL.val k)
  obtain⟨p,hp,hp2⟩:=Kb.mp hw;refine wpAny_getItem_heap (Mp hu) (nL I.hok eb) dd hp ?_;rw[hp2];exact h w' _ (I.tok _) S1
theorem AF{Q:Gr->Gs->Prop}(hu:A.units+1<Ku)(I:Inv X pins σ H s)(g:nY H a y o)(ry:aU y u)(h:∀s',Inv X pins σ H s'->Q (.bool (!o.isSome)) s'):
  GQ (G1 X.prog X.w) A (Hh .NotIn u (.ref a)) Q E s:=by
 rcases g with ⟨kvs,k,e,ey,l⟩ |⟨kvs,k,b,e,ey,eb,l⟩
 ·subst ey;obtain⟨z,hd,vs,TL,dd⟩:=uM I.hok e;refine Qn (uc ry) hd dd.mapOf ?_;rw[<-(TL.val k).isSome_eq,<-l];exact h _ (I.tok _)
 ·subst ey;cases (show u=GR b from ry)
  obtain⟨z,hd,xs,TL,dd⟩:=ui I.hok e;refine wpAny_notIn_heap (Mp hu) (nL I.hok eb) hd dd ?_;have q:=(TL.val k).isSome_eq;rw[OQ]at q;rw[<-q,<-l];exact h _ (I.tok _)
theorem uL{h':H_}{t':Nat}{ob:HO}(I:Inv X pins σ H s)(mu:Mut (H a))(hs:JF a s.heap h')(he:∃q,h'.get? a=some q)(new:bG X.prog X.w (upd H a ob) h' a ob):
  Inv X pins σ (upd H a ob) {s with heap:=h',toks:=t' }:=
 I.write (x:=a) (e:=a) mu (.inl rfl) (λb q hb z=>(hs.2 b hb).trans z) he new
theorem DK{P:GF}{w:G5}{H':Hp}{h':H_}{kvs:List (Key×V)}{vs:List (Key×Gr)}(z:kvs.length<=sizeLine)(hd:(a==JN)=false)(TL:KV kvs vs)(dd:h'.DictOf (ck P w) a vs):
  bG P w H' h' a (.dK kvs):=⟨z,hd,vs,TL,dd⟩
theorem v8{H':Hp}{Q:Unit->Gs->Prop}(hu:A.units+1<Ku)(I:Inv X pins σ H s)(g:xz H a y v H')(ry:aU y u)(rv:aU v r)(h:∀s',Inv X pins σ H' s'->Q () s'):
  GQ (G1 X.prog X.w) A (setItem (.ref a) u r) Q E s:=by
 rcases g with ⟨kvs,k,e,ey,l,eH⟩ |⟨kvs,k,b,e,ey,eb,l,eH⟩
 ·subst ey eH;obtain⟨z,hd,vs,TL,dd⟩:=EU I.hok e;have hz:vs.length<=sizeLine:=by rw[<-TL.length];exact z
  have hl:(i9 kvs k v).length<=sizeLine:=by have:=jO kvs k v;lia
  refine wpAny_setItem_pairs (hsz:=hz) (uc ry) dd λh' dd' hs=>h _ ?_
  have he:∃q,h'.get? a=some q:=let ⟨q,_,_,hq,_⟩:=dd';⟨q,hq⟩;exact uL I (by rw[e];exact True.intro) hs he (DK hl hd (TL.put k rv) dd')
 ·subst ey eH;cases (show u=GR b from ry)
  obtain⟨z,hd,xs,TL,dd⟩:=FF I.hok e;have hz:xs.length<=sizeLine:=by rw[<-Paired.length TL];exact z
  have hl:(i9 kvs k v).length<=sizeLine:=by have:=jO kvs k v;lia
  refine wpAny_setItem_heap (hsz:=hz) (Mp hu) (nL I.hok eb) dd λh' dd' hs=>h _ ?_
  obtain⟨q,es,ep,hq,h2,h3,h4,_,h5⟩:=dd';refine uL I (by rw[e];exact True.intro) hs ⟨q,hq⟩ ⟨hl,hd,_,(TL.put k eb rv).keeps λc ys ec=>?_,q,es,ep,hq,h2,h3,h4,h5⟩
  rw[aE (EN ec e (λz=>nomatch z))]
  exact ec
end
def v9(i:Expr):Prop:=∀ov iv,N4 i false ov iv=operate [ov,iv] (OC ov iv)
theorem ug{prog:GF}{w:G5}{A:Ha}{E:Gr->Gs->Prop}{s:Gs}{env:Env}{RX slice:Expr}{pos:Pos}{T id:String}{Q:Gr->Gs->Prop}
  (hl:NJ (.type T) "__getitem__"=pure (some (.builtin id))) (hs:v9 slice)
  (h:GQ (G1 prog w) A (HY RX env) (λo RJ=>GQ (G1 prog w) A (HY slice env) (λi S4=>S4.TypeIs o T/\GQ (G1 prog w) A (OC o i) Q E S4) E RJ) E s):
  GQ (G1 prog w) A (HY (.Subscript RX slice pos) env) Q E s:=by
 refine OD (HC h (λo RJ h₁=>HC h₁ (λi S4 TZ=>?_) λ_ _ x=>x) λ_ _ x=>x)
 obtain⟨hT,TZ⟩:=TZ;unfold MV;refine Gk ?_;rw[getitemInPython_of_ne hT.not_modules];refine Gk (Jw hT hl ?_)
 have RR:GQ (G1 prog w) A (N4 slice false o i) (λr s₃=>GQ (G1 prog w) A (letTemporaryGo RX o r >>=λ_=>pure r) Q E s₃) E S4:=by
  rw[hs o i];exact wpAny_operating (HC TZ (λr s₃ h₃=>Gk (wpAny_letTemporaryGo (Gw h₃))) λ_ _ x=>x)
 first
  |exact Gw (Gk RR)
  |exact Gk (Gw (Gk RR))
  |exact Gk RR
theorem pU{X:Cx}{pins:List (GE×Obj)}{σ:St}{H:Hp}{s:Gs}{a:GE}{y:V}{o:Option V}(I:Inv X pins σ H s)(g:nY H a y o):s.TypeIs (.ref a) "dict":=by
 rcases g with ⟨kvs,k,e,_,_⟩ |⟨kvs,k,b,e,_,_,_⟩
 ·obtain⟨_,_,vs,_,dd⟩:=uM I.hok e;exact dd.typeIs
 ·obtain⟨_,_,xs,_,dd⟩:=ui I.hok e;exact dd.typeIs
def Fz(td ty:TE):TE:=λσ H Q=>td σ H λx H1=>ty σ H1 λy H2=>∃a v,x=.ref a/\nY H2 a y (some v)/\Q v H2
def A9(ty td:TE):TE:=λσ H Q=>ty σ H λy H1=>td σ H1 λx H2=>∃a o,x=.ref a/\nY H2 a y o/\Q (.bl (!o.isSome)) H2
def EH(td ty tv:TE):TS:=λD σ H=>tv σ H λv H1=>td σ H1 λx H2=>ty σ H2 λy H3=>∃a H4,x=.ref a/\xz H3 a y v H4/\D.nx σ H4
variable {o:Expr}{pos:Pos}
section
variable {i e RX:Expr}{RN tpos:Pos}{td ty tv:TE}
theorem Bu(hu:X.A.units+1<Ku)(ho:PE X o td)(hi:PE X i ty)(hs:v9 i):PE X (.Subscript o i pos) (Fz td ty):=by
 intro pins s σ H Q I h;refine ug MA.lookup hs (thn (ho pins s σ H _ I h) λu s1 ⟨x,H1,I1,rx,q1⟩=>thn (hi pins s1 σ H1 _ I1 q1) λiv s2 ⟨y,H2,I2,ry,a,v,ex,g,q2⟩=>?_)
 subst ex;obtain rfl:u=GR a:=rx;exact⟨pU I2 g,wq hu I2 g ry λw' s3 I3 S1=>⟨v,H2,I3,S1,q2⟩⟩
theorem vH(hu:X.A.units+1<Ku)(hi:PE X i ty)(ho:PE X o td):PC X .NotIn i o (A9 ty td):=by
 intro pins s σ H Q I h;refine thn (hi pins s σ H _ I h) λiv s1 ⟨y,H1,I1,ry,q1⟩=>thn (ho pins s1 σ H1 _ I1 q1) λu s2 ⟨x,H2,I2,rx,a,ov,ex,g,q2⟩=>?_
 subst ex;obtain rfl:u=GR a:=rx;exact AF hu I2 g ry λs3 I3=>⟨.bl (!ov.isSome),H2,I3,rfl,q2⟩
theorem BI(hu:X.A.units+1<Ku)(ho:PE X o td)(hi:PE X i ty)(hv:PE X RX tv)(hs:Ip RX (some (.Subscript o i RN)) pos.line X.env=pure false):
  PS X (.Assign [.Subscript o i RN] RX pos) (EH td ty tv):=by
 intro pins s σ H D I h;refine wpAny_Assign_Subscript (thn (hv pins s σ H _ I h) λr s1 ⟨v,H1,I1,rv,q1⟩=>thn (ho pins s1 σ H1 _ I1 q1) λu s2 ⟨x,H2,I2,rx,q2⟩=>thn (hi pins s2 σ H2 _ I2 q2) λiv s3 ⟨y,H3,I3,ry,a,H4,ex,g,q3⟩=>?_) hs
 subst ex;obtain rfl:u=GR a:=rx;exact v8 hu I3 g ry rv λs4 I4=>⟨σ,H4,I4,q3⟩
end
theorem yc{P:GF}{w:G5}{H:Hp}(h:H_)(hb:JN<h.objs.size):bG P w H (h.push {cls:=.type "dict",data:=.dict #[] }) h.objs.size (.dK []):=
 ⟨Hf _,beq_eq_false_iff_ne.mpr (Ne.symm (GS hb)),[],.nil,Rz h⟩
def Eh:TE:=λ_ H Q=>∀p,H p=none->Q (.ref p) (upd H p (.dK []))
section
theorem yy:PE X (.Dict [] [] pos) Eh:=λpins s σ H Q I h=>
 wpAny_Dict_empty ⟨.ref s.heap.objs.size,_,I.laid (a:=s.heap.objs.size) (o:=.dK []) (t':=s.toks) (λ_ _ q=>Gu _ q) (GA _) (yc s.heap I.big),rfl,h _ (I.hok.fresh (GA _))⟩
end
def valU(kvs:List (Str×U))(x:Str):Option U:=(kvs.find? λkv=>decide (kv.1=x)).map (·.2)
def eX(kvs:List (Str×U))(x:Str)(u:U):List (Str×U):=
 if (kvs.any λkv=>decide (kv.1=x))=true then kvs.map (λkv=>if kv.1=x then (kv.1,u) else kv) else kvs++[(x,u)]
variable {kvs:List (Str×U)}{u:U}
section
variable {K:Gn}{H':Hp}{kv:List (Key×V)}{k:Key}{v:V}{x:Str}
theorem DkR.nil:DkR K H [] []:=⟨rfl,λi k v x u h=>by simp at h⟩
theorem DkR.cons(e:k=.inr x)(r:Rp K H v u)(h:DkR K H kv kvs):DkR K H ((k,v)::kv) ((x,u)::kvs):=by
 refine⟨by simp[h.len],λi k' v' x' u' h1 h2=>?_⟩
 cases i with
 |zero=>simp at h1 h2;obtain⟨rfl,rfl⟩:=h1;obtain⟨rfl,rfl⟩:=h2;exact⟨e,r⟩
 |succ i=>exact h.at_ i k' v' x' u' (by simpa using h1) (by simpa using h2)
theorem DkR.uncons(h:DkR K H ((k,v)::kv) ((x,u)::kvs)):k=.inr x/\Rp K H v u/\DkR K H kv kvs:=
 ⟨(h.at_ 0 k v x u rfl rfl).1,(h.at_ 0 k v x u rfl rfl).2,by have:=h.len;simpa using this,λi k' v' x' u' h1 h2=>h.at_ (i+1) k' v' x' u' (by simpa using h1) (by simpa using h2)⟩
theorem DkR.ind{p:List (Key×V)->List (Str×U)->Prop}(h0:p [] [])(h1:∀v x u kv kvs,Rp K H v u->DkR K H kv kvs->p kv kvs->p ((.inr x,v)::kv) ((x,u)::kvs)):∀{kv:List (Key×V)}{kvs:List (Str×U)},DkR K H kv kvs->p kv kvs
 |[],[],_=>h0
 |[],_::_,h=>by have:=h.len;simp at this
 |_::_,[],h=>by have:=h.len;simp at this
 | (k,v)::kv,(x,u)::kvs,h=>by
  obtain⟨e,r,t⟩:=h.uncons;subst e;exact h1 v x u kv kvs r t (DkR.ind h0 h1 t)
theorem DkR.val(h:DkR K H kv kvs)(x:Str):(valU kvs x=none/\eT kv (.inr x)=none)\/∃u v,valU kvs x=some u/\eT kv (.inr x)=some v/\Rp K H v u:=by
 refine DkR.ind (p:=λkv kvs=>(valU kvs x=none/\eT kv (.inr x)=none)\/∃u v,valU kvs x=some u/\eT kv (.inr x)=some v/\Rp K H v u) (.inl ⟨rfl,rfl⟩) (λv y u kv kvs r _ ih=>?_) h
 by_cases e:y=x
 ·subst e;exact .inr ⟨u,v,by simp[valU],by simp[eT],r⟩
 ·have e':¬ (Sum.inr y:Key)=.inr x:=λz=>e (by injection z)
  have a1:valU ((y,u)::kvs) x=valU kvs x:=by simp[valU,Ji,e]
  have a2:eT ((Sum.inr y,v)::kv) (Sum.inr x:Key)=eT kv (.inr x):=iN e';rw[a1,a2];exact ih
theorem DkR.some(h:DkR K H kv kvs){x:Str}{u:U}(e:valU kvs x=some u):∃v,eT kv (.inr x)=some v/\Rp K H v u:=by
 rcases h.val x with ⟨z,_⟩ |⟨u',v,h1,h2,h3⟩
 ·rw[z]at e;cases e
 ·rw[h1]at e;cases e;exact⟨v,h2,h3⟩
theorem DkR.isSome(h:DkR K H kv kvs)(x:Str):(eT kv (.inr x)).isSome=(valU kvs x).isSome:=by
 rcases h.val x with ⟨z1,z2⟩ |⟨u',v,h1,h2,h3⟩
 ·rw[z1,z2];rfl
 ·rw[h1,h2];rfl
theorem DkR.map(h:DkR K H kv kvs)(r:Rp K H v u):DkR K H (kv.map λp=>if p.1=(.inr x:Key) then (p.1,v) else p) (kvs.map λp=>if p.1=x then (p.1,u) else p):=by
 refine DkR.ind (p:=λkv kvs=>DkR K H (kv.map λp=>if p.1=(.inr x:Key) then (p.1,v) else p) (kvs.map λp=>if p.1=x then (p.1,u) else p)) DkR.nil (λw y z kv kvs S1 _ ih=>?_) h
 rw[GW,GW];by_cases e:y=x
 ·subst e;rw[if_pos rfl,if_pos rfl];exact .cons rfl r ih
 ·rw[if_neg λz=>e (by injection z),if_neg e]
  exact .cons rfl S1 ih
theorem DkR.snoc(h:DkR K H kv kvs)(r:Rp K H v u):DkR K H (kv++[(.inr x,v)]) (kvs++[(x,u)]):=
 DkR.ind (p:=λkv kvs=>DkR K H (kv++[(.inr x,v)]) (kvs++[(x,u)])) (DkR.cons rfl r DkR.nil) (λw y z kv kvs S1 _ ih=>.cons rfl S1 ih) h
theorem DkR.any(h:DkR K H kv kvs)(x:Str):(kv.any λp=>decide (p.1=(.inr x:Key)))=(kvs.any λp=>decide (p.1=x)):=
 DkR.ind (p:=λkv kvs=>(kv.any λp=>decide (p.1=(.inr x:Key)))=(kvs.any λp=>decide (p.1=x))) rfl (λw y z kv kvs _ _ ih=>by
  rw[JW,JW,ih];congr 1;by_cases e:y=x
  ·subst e;simp
  ·rw[decide_eq_false e,decide_eq_false λz=>e (by injection z)]) h
theorem DkR.put(h:DkR K H kv kvs)(r:Rp K H v u)(x:Str):DkR K H (i9 kv (.inr x) v) (eX kvs x u):=by
 unfold i9 eX;rw[h.any x];split
 ·exact h.map r
 ·exact h.snoc r
end
variable {H0:Hp}{O0:List GE}{E:XK}{D:PD}{C:GE}{d:GE}
section
variable {ps:PSt}{e:Expr}{p:Pos}{x n:Str}{w:Bool}{a:GE}{i:Nat}
theorem iU(hp:ps[i]?=some (some (.dsk w C a d kvs)))(hc:Cls X.K C)(hn:fD X.K C "lands")(hN:X.N[i]?=some x:=by rfl)(hv:Vis X.env.scope x:=by first |exact Or.inl rfl |exact Or.inr (Or.inl rfl) |exact Or.inr (Or.inr rfl))
  (hd:(x==("__debug__":Str))=false:=by decide) (R8:(x==("__classdict__":Str))=false:=by decide) (hb:HR (.Name x p) "lands" X.env (HY (.Name x p) X.env)=HY (.Name x p) X.env:=by rfl):
  PE X (.Attribute (.Name x p) "lands" pos) λσ H Q=>∃O,Rs X.K H0 O0 ps σ H O∧Q (.ref d) H:=
 PE.mono (Dq (cy hN hv hd R8) hb) λσ H Q ⟨O,R,q⟩=>by
  obtain⟨v,h1,dx,kv,rfl,h3,h4,h5,h6,h7⟩:=R.at_ i _ hp;exact⟨_,h1,a,C,dx,_,_,rfl,h5,hc,hn,by simp,q⟩
abbrev nU(X:Cx)(H0:Hp)(O0:List GE)(ps:PSt)(o:Expr)(d:GE):Prop:=PE X o λσ H Q=>∃O,Rs X.K H0 O0 ps σ H O/\Q (.ref d) H
theorem z8{σ:St}{H:Hp}{O:List GE}(R:Rs X.K H0 O0 ps σ H O)(hp:ps[i]?=some (some (.dsk w C a d kvs))):∃kv,H d=some (.dK kv)/\DkR X.K (hid H O) kv kvs:=by
 obtain⟨v,h1,dx,kv,rfl,h3,h4,h5,h6,h7⟩:=R.at_ i _ hp;exact⟨kv,h6,h7⟩
theorem C6{o:Expr}(hp:ps[i]?=some (some (.dsk w C a d kvs)))(ho:nU X H0 O0 ps o d)(he:Ev X H0 O0 ps e (.str n))(hu:X.A.units+10<Ku)(h:valU kvs n=some u)(hs:v9 e:=by intro _ _;rfl):Ev X H0 O0 ps (.Subscript o e pos) u:=
 PE.mono (Bu (by lia) ho he hs) λσ H Q ⟨O,R,q⟩=>⟨O,R,O,R,λv H' s r=>by
  cases r;obtain⟨kv,h1,h2⟩:=z8 (R.go s) hp;obtain⟨z,h3,h4⟩:=h2.some h;exact⟨d,z,rfl,by have:=nY.k (k:=.inr n) h1;rw[h3]at this;exact this,q z H' s h4⟩⟩
theorem yW{o:Expr}(hp:ps[i]?=some (some (.dsk w C a d kvs)))(ho:nU X H0 O0 ps o d)(he:Ev X H0 O0 ps e (.str n))(hu:X.A.units+10<Ku)(h1:Je .NotIn o=false:=by first |exact i_ _ |with_unfolding_all rfl):Tt X H0 O0 ps (.Compare e [.NotIn] [o] pos) (!(valU kvs n).isSome):=
 PT.mono (Ab (vH (by lia) he ho) h1) λσ H Q ⟨O,R,q⟩=>⟨O,R,λv H' s r=>by
  cases r;obtain⟨kv,h1,h2⟩:=z8 (R.go s) hp;exact⟨O,R.go s,d,_,rfl,nY.k (k:=.inr n) h1,_,rfl,by rw[h2.isSome];exact q H' s⟩⟩
theorem Rs.wdsk{K:Gn}{σ:St}{H:Hp}{O:List GE}{kv:List (Key×V)}{Th:List (Str×U)}(R:Rs K H0 O0 ps σ H O)(hp:ps[i]?=some (some (.dsk true C a d kvs)))(h1:∀j w C a d kvs,ps[j]?=some (some (.dsk w C a d kvs))->j=i)(r:DkR K (hid H O) kv Th):
  Rs K H0 O0 (ps.set i (some (.dsk true C a d Th))) σ (upd H d (.dK kv)) O:=by
 obtain⟨v,g1,dx,kv0,rfl,g3,g4,g5,g6,g7⟩:=R.at_ i _ hp;have h0:H0 d=none:=(R.new d g3).resolve_left (g4 rfl);have eh:hid (upd H d (.dK kv)) O=hid H O:=gC g3;refine⟨R.same.put h0 _,R.old,R.new,λb hb z=>?_,by simp[R.len],λj s q=>?_,λj k zs us b q1 q2 q3 q4=>?_⟩
 ·by_cases e:b=d
  ·subst e;rw[aF]at z;cases z
  ·rw[aE e]at z;exact R.dom b hb z
 ·rcases bZ q with ⟨e',q'⟩ |⟨ne,q'⟩
  ·subst e';cases q';exact⟨.ref a,g1,dx,kv,rfl,g3,g4,by rw[aE λz=>by rw[z,g6]at g5;cases g5];exact g5,aF,by rw[eh];exact r⟩
  ·obtain⟨w',k1,k2⟩:=R.at_ j s q';refine⟨w',k1,?_⟩;cases s with
   |val u=>exact (show Rp K (hid (upd H d (.dK kv)) O) w' u by rw[eh];exact k2)
   |own zs=>
    obtain⟨b,us,e1,e2,e3,e4,e5⟩:=k2;exact⟨b,us,e1,e2,e3,by rw[aE λz=>by rw[z,g6]at e4;cases e4];exact e4,by rw[eh];exact e5⟩
   |pin z u=>exact⟨k2.1,by rw[eh];exact k2.2⟩
   |dsk w2 C2 a2 d2 kvs2=>exact absurd (h1 _ _ _ _ _ _ q').symm ne
 ·have c1:ps[j]?=some (some (.own zs)):=by
   rcases bZ q1 with ⟨_,e⟩ |⟨_,z⟩
   ·cases e
   ·exact z
  have c2:ps[k]?=some (some (.own us)):=by
   rcases bZ q2 with ⟨_,e⟩ |⟨_,z⟩
   ·cases e
   ·exact z
  exact R.inj j k _ _ b c1 c2 q3 q4
def Ed(ps:PSt)(i:Nat):Bool:=(HJ ps.length).all λj=>match ps[j]? with |some (some (.dsk _ _ _ _ _))=>j==i |_=>true
theorem uw{ps:PSt}{i:Nat}(h:Ed ps i=true):∀j w C a d kvs,ps[j]?=some (some (.dsk w C a d kvs))->j=i:=λj w C a d kvs e=>by
 have hj:j<ps.length:=(GB.mp e).1;have:=Ig.mp h j (G8.mpr hj);rw[e]at this;exact beq_iff_eq.mp this
theorem C_{o RX:Expr}{RN:Pos}(hp:ps[i]?=some (some (.dsk true C a d kvs)))(ho:nU X H0 O0 ps o d)(he:Ev X H0 O0 ps e (.str n))(hv:Ev X H0 O0 ps RX u)(hu:X.A.units+10<Ku)(hl:kvs.length<sizeLine)(h:D.nx (ps.set i (some (.dsk true C a d (eX kvs n u)))))
  (h1:Ed ps i=true:=by rfl) (hs:Ip RX (some (.Subscript o e RN)) pos.line X.env=pure false:=by rfl):W1 X H0 O0 E (.Assign [.Subscript o e RN] RX pos) D ps:=
 PS.mono (BI (by lia) ho he hv hs) λD' σ H ⟨L,O,R⟩=>⟨O,R,λv H1 s1 r1=>⟨O,R.go s1,O,R.go s1,λk H2 s2 r2=>by
  cases r2;have R2:=R.go (s1.trans s2);obtain⟨kv,g1,g2⟩:=z8 R2 hp;exact⟨d,_,rfl,xz.k (k:=.inr n) g1 (by rw[g2.len];exact hl),L.nx _ _ _ O (R2.wdsk hp (uw h1) (g2.put (r1.same (aD s2)) n)) h⟩⟩⟩
theorem Dk(hp:ps[i]?=some (some (.dsk w C a d kvs)))(he:Ev X H0 O0 ps e u)(h:D.rt (.dsk d u kvs)):W1 X H0 O0 E (.Return (some e) pos) D ps:=
 PS.mono (jc he) λD' σ H ⟨L,O,R⟩=>⟨O,R,λv H' s r=>by
  have R':=R.go s;obtain⟨z,g1,dx,kv,rfl,g3,g4,g5,g6,g7⟩:=R'.at_ i _ hp
  have less:∀b∈d::O0,b∈O:=λb hb=>by
   rcases Gx.mp hb with y |y
   ·subst y;exact g3
   ·exact R.old b y
  exact L.rt _ h v kv H' R'.same g6 (g7.same (aI less)) (r.same (aI less))⟩
end
def oY(N:List Str)(w:Bool)(C a d:GE)(kvs:List (Str×U))(us:List U):PSt:=some (.dsk w C a d kvs)::(us.map (λu=>some (.val u))++G6 (N.length-(us.length+1)) none)
def spD(K:Gn)(w:Bool)(C:GE)(RH:GE→List (Str×U)→List U→Out→Prop):Sp:=λvs H Q E=>∃a dx d kv kvs ws us O o,vs=.ref a::ws∧H a=some (.ins C dx [("lands",.ref d)])∧H d=some (.dK kv)∧(∀b∈O,H b≠none)∧(w=true→d ∉ O)∧
 DkR K (hid H (d::O)) kv kvs/\Rps K (hid H (d::O)) ws us/\RH d kvs us o/\nC K (if w=true then hid H [d] else H) (if w=true then O else d::O) Q E o
variable {pn:List Str}{RC:Str}
section
variable {w:G5}{K:Gn}{mg:Str→Option Gr}{base:H_}{N:List Str}{nm:Str}{f:GE}
theorem fL{st:Iy}{fd:Hw}{k:Nat}{own:Bool}{C:GE}{RH:GE->List (Str×U)->List U->Out->Prop}(F:Fun K nm RC st f fd)(S:aq N pn (ag st))(len:∀d kvs us o,RH d kvs us o->us.length+1=pn.length)
  (Si:∀(RF:Gr) (A:Ha) (outer:List Env) (s:Gs) (H H1:Hp) (E:XK) (O:List GE) (a d:GE) (kvs:List (Str×U)) (us:List U) (o:Out),bB k (A.deeper (JH RC (ag st) s.heap.objs.size f RF))->RH d kvs us o->
   Ws (cR (CXF P w) P w K mg base N RC (ag st) f RF A outer s H E) H1 O E (bi st) ⟨λ_=>o=.val .non,λo'=>o'=o,λ_=>False,λ_=>False⟩ (oY N own C a d kvs us)):aL P w K mg base (CXF P w) (k+1) f fd pn (spD K own C RH):=by
 refine F.okF S (λvs H Q E h=>?_) λRF A outer s H vs Q E hr h=>?_
 ·obtain⟨a,dx,d,kv,kvs,ws,us,O,o,rfl,_,_,_,_,_,r,SH,_⟩:=h;rw[GI,r.len];exact len d kvs us o SH
 ·obtain⟨a,dx,d,kv,kvs,ws,us,O,o,rfl,ha,hd,dm,na,rx,r,SH,q⟩:=h;refine⟨_,Si RF A outer s H (if own=true then hid H [d] else H) E (if own=true then O else d::O) a d kvs us o hr SH,⟨λps σ H' O' R e=>?_,λ_ _ _ _ _ e=>e.elim,λ_ _ _ _ _ e=>e.elim,λo' e=>by subst e;exact q⟩,d::O,?_⟩
  ·subst e;exact q .non H' R.same .non
  ·refine⟨?_,λb hb=>?_,λb hb=>?_,λb hb=>?_,?_,λi sl e=>?_,λi j ys zs b e1 e2 _ _=>?_⟩
   ·cases own
    ·exact .refl H
    ·exact aB
   ·cases own
    ·exact hb
    ·exact Gq _ hb
   ·cases own
    ·exact .inl hb
    ·rcases Gx.mp hb with z |z
     ·subst z;right;show hid H [b] b=none;unfold hid;simp
     ·exact .inl z
   ·rcases Gx.mp hb with z |z
    ·subst z;rw[hd];simp
    ·exact dm b z
   ·unfold start oY;simp only[GI,Hb,Gp,HN,r.len];lia
   ·unfold oY at e;cases i with
    |zero=>
     cases e;refine⟨.ref a,rfl,dx,kv,rfl,Gy,λe=>?_,ha,hd,rx⟩
     subst e;exact na rfl
    |succ i=>
     rw[HH]at e;by_cases hi:i<us.length
     ·rw[GG (by simpa using hi),Gz,Gm hi]at e
      cases e;obtain⟨v,h1,h2⟩:=r.get (Gm hi);refine⟨v,?_,h2⟩;unfold start;rw[GG (by simpa [r.len] using hi),Gz,HH,h1];rfl
     ·rw[GK (by simpa using hi),HG]at e
      split at e <;>cases e
   ·exfalso
    cases i with
    |zero=>cases e1
    |succ i=>
     unfold oY at e1;rw[HH]at e1;by_cases hi:i<us.length
     ·rw[GG (by simpa using hi),Gz,Gm hi]at e1
      cases e1
     ·rw[GK (by simpa using hi),HG]at e1
      split at e1 <;>cases e1
end
variable {es:List Expr}{RE:Pos}{us:List U}{fd:Hw}{CX:CXT}{RH:GE→List (Str×U)→List U→Out→Prop}
section
variable {ps TM Ux:PSt}{e b:Expr}{rest:List Expr}{p:Pos}{z:U}{x n m:Str}{w:Bool}{Cx' a f:GE}{Th:List (Str×U)}{i k:Nat}{c c':Bool}
theorem Rs.dsk2{K:Gn}{σ:St}{H H2:Hp}{O:List GE}{kv:List (Key×V)}(R:Rs K H0 O0 ps σ H O)(hp:ps[i]?=some (some (.dsk true C a d kvs)))(h1:∀j w C a d kvs,ps[j]?=some (some (.dsk w C a d kvs))->j=i)(s:aH (hid H [d]) H2)(g:H2 d=some (.dK kv))(r:DkR K (hid H2 O) kv Th):
  Rs K H0 O0 (ps.set i (some (.dsk true C a d Th))) σ H2 O:=by
 obtain⟨v,g1,dx,kv0,rfl,g3,g4,g5,g6,g7⟩:=R.at_ i _ hp;have h0:H0 d=none:=(R.new d g3).resolve_left (g4 rfl);have go:∀b o,b≠d->H b=some o->H2 b=some o:=λb o nb e=>s b o (b4 e (by simpa using nb))
 have sm:aH (hid H O) (hid H2 O):=λb o e=>by
  obtain⟨e1,e2⟩:=fu e;exact b4 (go b o (λz=>e2 (z ▸ g3)) e1) e2
 refine⟨λb o e=>go b o (λz=>by rw[z,h0]at e;cases e) (R.same b o e),R.old,R.new,λb hb z=>?_,by simp[R.len],λj s q=>?_,λj k zs us b q1 q2 q3 q4=>?_⟩
 ·by_cases e:b=d
  ·subst e;rw[g]at z;cases z
  ·cases To:H b with
   |none=>exact R.dom b hb To
   |some o=>rw[go b o e To]at z;cases z
 ·rcases bZ q with ⟨e',q'⟩ |⟨ne,q'⟩
  ·subst e';cases q';exact⟨.ref a,g1,dx,kv,rfl,g3,g4,go _ _ (λz=>by rw[z,g6]at g5;cases g5) g5,g,r⟩
  ·obtain⟨w',k1,k2⟩:=R.at_ j s q';refine⟨w',k1,?_⟩;cases s with
   |val u=>exact Rp.same sm k2
   |own zs=>
    obtain⟨b,us,e1,e2,e3,e4,e5⟩:=k2;exact⟨b,us,e1,e2,e3,go _ _ (λz=>by rw[z,g6]at e4;cases e4) e4,e5.same sm⟩
   |pin z u=>exact⟨k2.1,Rp.same sm k2.2⟩
   |dsk w2 C2 a2 d2 kvs2=>exact absurd (h1 _ _ _ _ _ _ q').symm ne
 ·have c1:ps[j]?=some (some (.own zs)):=by
   rcases bZ q1 with ⟨_,e⟩ |⟨_,z⟩
   ·cases e
   ·exact z
  have c2:ps[k]?=some (some (.own us)):=by
   rcases bZ q2 with ⟨_,e⟩ |⟨_,z⟩
   ·cases e
   ·exact z
  exact R.inj j k _ _ b c1 c2 q3 q4
theorem iu{pl:Sem Bool}(hp:ps[i]?=some (some (.dsk w C a d kvs)))(hc:Cls X.K C)(hm:kF X.K C m f)(F:aL X.prog X.w X.K X.mg X.base CX k f fd pn (spD X.K false C RH))(hr:bB k X.A)(hb:bq X.K fd pn [])(hx:bj CX X E0)(ha:EvA X H0 O0 ps (e::es) us)(h:RH d kvs us (.val u))
  (TF:(m==("lands":Str))=false:=by decide) (hN:X.N[i]?=some x:=by rfl) (hv:Vis X.env.scope x:=by first |exact Or.inl rfl |exact Or.inr (Or.inl rfl) |exact Or.inr (Or.inr rfl)) (hd:(x==("__debug__":Str))=false:=by decide) (R8:(x==("__classdict__":Str))=false:=by decide)
  (R9:Gv (e::es) X.env=(false,HY e X.env)::Gv es X.env:=by rfl) (R3:(Hx pos (Gv es X.env)).any (·.1)=false:=by rfl)
  (ht:HY (.Call (.Attribute (.Name x p) m RE) (e::es) [] pos) X.env=(do
   let ov <-HY (.Name x p) X.env
   Mt RE.atName
   let (f,first) <-Ln [ov] (KB ov m pl)
   Mm pos f first (Hx pos (Gv (e::es) X.env)) (JA pos (HZ [] X.env))):=by rfl):
  Ev X H0 O0 ps (.Call (.Attribute (.Name x p) m RE) (e::es) [] pos) u:=
 PE.mono (kg (pl:=pl) (cy hN hv hd R8) hc hm F hr hb .nil hx ha R9 R3 ht) λσ H Q ⟨O,R,q⟩=>by
  obtain⟨v,h1,dx,kv,rfl,h3,h4,h5,h6,h7⟩:=R.at_ i _ hp;refine⟨_,h1,a,dx,_,rfl,h5,by rw[IA,TF];rfl,O,R,λvs H' s r=>?_⟩
  have sub:∀b∈d::O,b∈O:=λb hb=>by
   rcases Gx.mp hb with y |y
   ·subst y;exact h3
   ·exact y
  show spD X.K false C RH (V.ref a::(vs++[])) H' Q E0;rw[HE];exact⟨a,dx,d,kv,kvs,vs,us,O,.val u,rfl,s _ _ h5,s _ _ h6,(R.go s).dom,nofun,(h7.same (aD s)).same (aI sub),r.same (aI sub),h,λv H2 s2 r2=>q v H2 (s.trans s2) (r2.same (aI λb hb=>Gq _ hb))⟩
def EvK(X:Cx)(H0:Hp)(O0:List GE)(ps:PSt)(e:Expr)(u:U)(Su:PSt):Prop:=
 PE X e λσ H Q=>∃O,Rs X.K H0 O0 ps σ H O/\∀v H' O',Rs X.K H0 O0 Su σ H' O'->Rp X.K (hid H' O') v u->Q v H'
def TtK(X:Cx)(H0:Hp)(O0:List GE)(ps:PSt)(e:Expr)(b:Bool)(Su:PSt):Prop:=
 PT X e λσ H Q=>∃O,Rs X.K H0 O0 ps σ H O/\∀H' O',Rs X.K H0 O0 Su σ H' O'->Q b H'
def TwK(X:Cx)(H0:Hp)(O0:List GE)(ps:PSt)(e:Expr)(b:Bool)(Su:PSt):Prop:=
 PW X e λσ H Q=>∃O,Rs X.K H0 O0 ps σ H O/\∀H' O',Rs X.K H0 O0 Su σ H' O'->Q b H'
theorem lK{pl:Sem Bool}(hp:ps[i]?=some (some (.dsk true C a d kvs)))(hc:Cls X.K C)(hm:kF X.K C m f)(F:aL X.prog X.w X.K X.mg X.base CX k f fd pn (spD X.K true C RH))(hr:bB k X.A)(hb:bq X.K fd pn [])(hx:bj CX X E0)(ha:EvA X H0 O0 ps (e::es) us)(h:RH d kvs us (.dsk d u Th))
  (h1:Ed ps i=true:=by rfl) (TF:(m==("lands":Str))=false:=by decide) (hN:X.N[i]?=some x:=by rfl) (hv:Vis X.env.scope x:=by first |exact Or.inl rfl |exact Or.inr (Or.inl rfl) |exact Or.inr (Or.inr rfl)) (hd:(x==("__debug__":Str))=false:=by decide) (R8:(x==("__classdict__":Str))=false:=by decide)
  (R9:Gv (e::es) X.env=(false,HY e X.env)::Gv es X.env:=by rfl) (R3:(Hx pos (Gv es X.env)).any (·.1)=false:=by rfl)
  (ht:HY (.Call (.Attribute (.Name x p) m RE) (e::es) [] pos) X.env=(do
   let ov <-HY (.Name x p) X.env
   Mt RE.atName
   let (f,first) <-Ln [ov] (KB ov m pl)
   Mm pos f first (Hx pos (Gv (e::es) X.env)) (JA pos (HZ [] X.env))):=by rfl):
  EvK X H0 O0 ps (.Call (.Attribute (.Name x p) m RE) (e::es) [] pos) u (ps.set i (some (.dsk true C a d Th))):=
 PE.mono (kg (pl:=pl) (cy hN hv hd R8) hc hm F hr hb .nil hx ha R9 R3 ht) λσ H Q ⟨O,R,q⟩=>by
  obtain⟨v,g1,dx,kv,rfl,g3,g4,g5,g6,g7⟩:=R.at_ i _ hp;refine⟨_,g1,a,dx,_,rfl,g5,by rw[IA,TF];rfl,O,R,λvs H' s r=>?_⟩
  have nin:d ∉ O.filter (λb=>decide (b≠d)):=λz=>by have:=(Io.mp z).2;simp at this
  have sub:∀b∈d::O.filter (λb=>decide (b≠d)),b∈O:=λb hb=>by
   rcases Gx.mp hb with y |y
   ·subst y;exact g3
   ·exact (Io.mp y).1
  have sup:∀b∈O,b∈d::O.filter (λb=>decide (b≠d)):=λb hb=>by
   by_cases e:b=d
   ·subst e;exact Gy
   ·exact Gq _ (Io.mpr ⟨hb,decide_eq_true e⟩)
  show spD X.K true C RH (V.ref a::(vs++[])) H' Q E0;rw[HE];refine⟨a,dx,d,kv,kvs,vs,us,O.filter (λb=>decide (b≠d)),.dsk d u Th,rfl,s _ _ g5,s _ _ g6,λb hb=>(R.go s).dom b (Io.mp hb).1,λ_=>nin,(g7.same (aD s)).same (aI sub),r.same (aI sub),h,λv kv' H2 s2 g r2 r3=>?_⟩
  exact q v H2 O ((R.go s).dsk2 hp (uw h1) s2 g (r2.same (aI sup))) (r3.same (aI sup))
theorem Fl(h:Tt X H0 O0 ps e c):TtK X H0 O0 ps e c ps:=PT.mono h λσ H Q ⟨O,R,q⟩=>⟨O,R,λH' s=>q H' O (R.go s)⟩
theorem og{op:Ox}(ho:OpS X (Hh op) u z (.bl c))(ha:EvK X H0 O0 ps e u TM)(hb:Ev X H0 O0 TM b z)(hm:Je op b=false:=by first |exact i_ _ |with_unfolding_all rfl):TtK X H0 O0 ps (.Compare e [op] [b] pos) c TM:=
 PT.mono (tN ho ha hb hm) λσ H Q ⟨O,R,q⟩=>⟨O,R,λv H1 O1 R1 r1=>⟨O1,R1,λw H2 s2 r2=>⟨(r1.same (aD s2)).out,r2.out,_,rfl,q H2 O1 (R1.go s2)⟩⟩⟩
theorem TwK.t(h:TwK X H0 O0 ps e c TM):TtK X H0 O0 ps e c TM:=h.pt
theorem An(h:TtK X H0 O0 ps e c TM):TwK X H0 O0 ps (.BoolOp .Or [e] pos) c TM:=xC h
theorem Ct(ha:TtK X H0 O0 ps e false TM)(hb:TwK X H0 O0 TM (.BoolOp .Or (b::rest) pos) c Ux):TwK X H0 O0 ps (.BoolOp .Or (e::b::rest) pos) c Ux:=
 PW.mono (yR ha hb) λσ H Q ⟨O,R,q⟩=>⟨O,R,λH' O' R'=>by exact jV ⟨O',R',q⟩⟩
theorem ym{tb fb:List Iy}(hc:TtK X H0 O0 ps e false TM)(h:Ws X H0 O0 E fb D TM):W1 X H0 O0 E (.If e tb fb pos) D ps:=
 PS.mono (xF hc (λ_ _ _ _ _ _ h=>h.elim) h (t:=λ_ _ _=>False)) λD' σ H ⟨L,O,R⟩=>⟨O,R,λH' O' R'=>jV ⟨L,O',R'⟩⟩
theorem AN(hp:TM[i]?=some (some (.dsk w C a d kvs)))(he:EvK X H0 O0 ps e u TM)(h:D.rt (.dsk d u kvs)):W1 X H0 O0 E (.Return (some e) pos) D ps:=
 PS.mono (jc he) λD' σ H ⟨L,O,R⟩=>⟨O,R,λv H' O' R' r=>by
  obtain⟨z,g1,dx,kv,rfl,g3,g4,g5,g6,g7⟩:=R'.at_ i _ hp
  have less:∀b∈d::O0,b∈O':=λb hb=>by
   rcases Gx.mp hb with y |y
   ·subst y;exact g3
   ·exact R'.old b y
  exact L.rt _ h v kv H' R'.same g6 (g7.same (aI less)) (r.same (aI less))⟩
end
def spI(C:GE):Sp:=λvs H Q _=>∃a dx,vs=[.ref a]∧H a=some (.ins C dx [])∧∀d,H d=none→Q .non (upd (upd H d (.dK [])) a (.ins C dx [("lands",.ref d)]))
section
variable {w:G5}{K:Gn}{mg:Str→Option Gr}{base:H_}{N:List Str}{nm sf:Str}{f:GE}{p1 p2 p3 p4:Pos}
theorem AK{st:Iy}{fd:Hw}{k:Nat}(F:Fun K nm RC st f fd)(S:aq N pn (ag st))(hN:N[0]?=some sf)(hpn:pn.length=1)(hbd:bi st=[.Assign [.Attribute (.Name sf p1) "lands" p2] (.Dict [] [] p3) p4])(hc:Cls K C)(hn:fD K C "lands")
  (hv:(ag st).names.lookup sf=some .local) (hd:(sf==("__debug__":Str))=false:=by decide) (R8:(sf==("__classdict__":Str))=false:=by decide):aL P w K mg base (CXF P w) (k+1) f fd pn (spI C):=by
 refine F.okF S (λvs H Q E h=>?_) λRF A outer s H vs Q E hr h=>?_
 ·obtain⟨a,dx,rfl,_⟩:=h;rw[hpn];rfl
 ·obtain⟨a,dx,rfl,ha,q⟩:=h;rw[hbd];refine⟨_,BY (De (cy (i:=0) hN (.inl hv) hd R8) yy rfl),?_⟩;intro d T6;refine⟨.ref a,rfl,a,C,dx,[],rfl,?_,hc,hn,by decide,q d T6⟩
  rw[aE λz=>by rw[z,T6]at ha;cases ha];exact ha
end
variable {RD:Pos}{xs:List U}
section
variable {ps:PSt}{p p':Pos}{x nm:Str}{f:GE}{i k:Nat}
theorem Rs.newdsk{K:Gn}{σ:St}{H H':Hp}{O:List GE}{a d dx:GE}(R:Rs K H0 O0 ps σ H O)(e:aH H H')(n:H d=none)(ha:H' a=some (.ins C dx [("lands",.ref d)]))(h:H' d=some (.dK [])):
  Rs K H0 O0 (ps.set i (some (.dsk true C a d []))) (σ.set i (some (.ref a))) H' (d::O):=by
 have nd:d ∉ O:=λz=>R.dom d z n
 have nd0:d ∉ O0:=λz=>nd (R.old d z)
 have n0:H0 d=none:=R.same.free n;refine⟨R.same.trans e,λb hb=>Gq _ (R.old b hb),λb hb=>?_,λb hb z=>?_,by simp[R.len],λj s q=>?_,λj k ys zs b h1 h2 h3 h4=>?_⟩
 ·rcases Gx.mp hb with y |y
  ·subst y;exact .inr n0
  ·exact R.new b y
 ·rcases Gx.mp hb with y |y
  ·subst y;rw[h]at z;cases z
  ·exact R.dom b y (e.free z)
 ·rcases bZ q with ⟨e',q'⟩ |⟨ne,q'⟩
  ·subst e';cases q';have hi:=aR q;rw[K8]at hi;exact⟨.ref a,f_ (by rw[R.len];exact hi),dx,[],rfl,Gy,λ_=>nd0,ha,h,DkR.nil⟩
  ·obtain⟨w,h1,h2⟩:=R.at_ j s q';refine⟨w,by rw[GX ne];exact h1,?_⟩
   cases s with
   |val u=>exact Rp.same (bh e n) h2
   |own ys=>
    obtain⟨b,ws,k1,k2,k3,k4,k5⟩:=h2;exact⟨b,ws,k1,Gq _ k2,k3,e _ _ k4,k5.same (bh e n)⟩
   |pin z u=>exact⟨h2.1,Rp.same (bh e n) h2.2⟩
   |dsk w C b d kvs=>obtain⟨dx,kv,k1,k2,k3,k4,k5,k6⟩:=h2;exact⟨dx,kv,k1,Gq _ k2,k3,e _ _ k4,e _ _ k5,k6.same (bh e n)⟩
 ·rcases bZ h1 with ⟨_,q1⟩ |⟨n1,q1⟩
  ·cases q1
  ·rcases bZ h2 with ⟨_,q2⟩ |⟨n2,q2⟩
   ·cases q2
   ·rw[GX n1]at h3;rw[GX n2]at h4;exact R.inj j k ys zs b q1 q2 h3 h4
theorem D_(M:Mk X.K C f)(F:aL X.prog X.w X.K X.mg X.base CX k f fd pn (spI C))(hr:bB (k+1) X.A)(hg:Gl X nm)(hm:X.mg nm=some (.ref C))(hb:bq X.K fd pn [])(Sv:bj CX X E0)(hN:X.N.Nodup)(hi:X.N[i]?=some x)(hx:Loc X.env.scope x)
  (h:∀a d,D.nx (ps.set i (some (.dsk true C a d [])))) (Sr:(nm==("__debug__":Str))=false:=by decide) (hs:Ip (.Call (.Name nm p) [] [] RD) (some (.Name x p')) pos.line X.env=pure false:=by rfl)
  (hf:X.fn x=true\/X.env.scope.names.lookup x=some .local:=by first |exact .inl rfl |exact .inr rfl |assumption):W1 X H0 O0 E (.Assign [.Name x p'] (.Call (.Name nm p) [] [] RD) pos) D ps:=
 PS.mono (rS hN hi hx (Al M F hr hg hm hb .nil Sv Sr) hs hf) λD' σ H ⟨L,O,R⟩=>by
  intro a dx na ndx ne;refine⟨a,dx,rfl,aF,λd nd=>⟨rfl,?_⟩⟩
  have da:d≠a:=λz=>by rw[z,aF]at nd;cases nd
  rw[aE da]at nd;have ddx:d≠dx:=λz=>by rw[z,aF]at nd;cases nd
  rw[aE ddx]at nd;refine L.nx _ _ _ (d::O) (R.newdsk (λb o e=>?_) nd aF (by rw[aE da];exact aF)) (h a d)
  have b1:b≠a:=λz=>by rw[z,na]at e;cases e
  have b2:b≠d:=λz=>by rw[z,nd]at e;cases e
  have b3:b≠dx:=λz=>by rw[z,ndx]at e;cases e
  rw[aE b1,aE b2,aE b1,aE b3];exact e
variable {e:Expr}{m:Str}{w:Bool}{C' a:GE}
theorem Di{pl:Sem Bool}(hp:ps[i]?=some (some (.dsk w C a d kvs)))(hc:Cls X.K C)(hm:kF X.K C m f)(F:aL X.prog X.w X.K X.mg X.base CX k f fd pn (spD X.K false C RH))(hr:bB k X.A)(hb:bq X.K fd pn [])(hx:bj CX X E)(ha:EvA X H0 O0 ps (e::es) us)(h:RH d kvs us (.exc C'))
  (TF:(m==("lands":Str))=false:=by decide) (hN:X.N[i]?=some x:=by rfl) (hv:Vis X.env.scope x:=by first |exact Or.inl rfl |exact Or.inr (Or.inl rfl) |exact Or.inr (Or.inr rfl)) (hd:(x==("__debug__":Str))=false:=by decide) (R8:(x==("__classdict__":Str))=false:=by decide)
  (R9:Gv (e::es) X.env=(false,HY e X.env)::Gv es X.env:=by rfl) (R3:(Hx pos (Gv es X.env)).any (·.1)=false:=by rfl)
  (ht:HY (.Call (.Attribute (.Name x p) m RE) (e::es) [] pos) X.env=(do
   let ov <-HY (.Name x p) X.env
   Mt RE.atName
   let (f,first) <-Ln [ov] (KB ov m pl)
   Mm pos f first (Hx pos (Gv (e::es) X.env)) (JA pos (HZ [] X.env))):=by rfl):
  Xv X H0 O0 E ps (.Call (.Attribute (.Name x p) m RE) (e::es) [] pos) C':=
 PE.mono (kg (pl:=pl) (cy hN hv hd R8) hc hm F hr hb .nil hx ha R9 R3 ht) λσ H Q ⟨O,R,q⟩=>by
  obtain⟨v,h1,dx,kv,rfl,h3,h4,h5,h6,h7⟩:=R.at_ i _ hp;refine⟨_,h1,a,dx,_,rfl,h5,by rw[IA,TF];rfl,O,R,λvs H' s r=>?_⟩
  have sub:∀b∈d::O,b∈O:=λb hb=>by
   rcases Gx.mp hb with y |y
   ·subst y;exact h3
   ·exact y
  show spD X.K false C RH (V.ref a::(vs++[])) H' Q E;rw[HE];exact⟨a,dx,d,kv,kvs,vs,us,O,.exc C',rfl,s _ _ h5,s _ _ h6,(R.go s).dom,nofun,(h7.same (aD s)).same (aI sub),r.same (aI sub),h,λH2 s2=>q H2 (s.trans s2)⟩
end
def pJ(X:Cx)(d:GE)(vs:List (Str×Gr)):Prop:=(d==JN)=false/\∀h:H_,X.K.In h->h.DictOf (strKind X.prog X.w) d vs
section
variable {ps:PSt}{e i:Expr}{p:Pos}{n nm t:Str}{vs:List (Str×Gr)}{tk:Tok}{ty:TE}
theorem CM{x:Str}{t:Tok}:(strKind X.prog X.w).is x (.str x t)=true:=by show MT x (.str x t)=true;simp[MT]
theorem B6(hD:pJ X d vs)(hg:Gl X nm)(hm:X.mg nm=some (.ref d))(hi:PE X i ty)(hs:v9 i)(Sr:(nm==("__debug__":Str))=false:=by decide):PE X (.Subscript (.Name nm p) i pos) λσ H Q=>ty σ H λy H2=>∃n v v',y=.str n∧Lx vs n=some v'∧aU v v'∧Q v H2:=by
 intro pins s σ H Q I h;refine ug MA.lookup hs (dF I hg hm (thn (hi pins s σ H _ I h) λiv s2 ⟨y,H2,I2,ry,n,v,v',ey,l,rv,q2⟩=>?_) Sr)
 subst ey;obtain⟨t,rfl⟩:=ry;exact⟨(hD.2 _ I2.kIn).typeIs,Pc CM (hD.2 _ I2.kIn).mapOf l ⟨v,H2,I2.tok _,rv,q2⟩⟩
theorem Bk(hD:pJ X d vs)(hg:Gl X nm)(hm:X.mg nm=some (.ref d))(hi:PE X i ty)(Sr:(nm==("__debug__":Str))=false:=by decide):PC X .NotIn i (.Name nm p) λσ H Q=>ty σ H λy H2=>∃n,y=.str n∧Q (.bl (!(Lx vs n).isSome)) H2:=by
 intro pins s σ H Q I h;refine thn (hi pins s σ H _ I h) λiv s2 ⟨y,H2,I2,ry,n,ey,q2⟩=>dF I2 hg hm ?_ Sr
 subst ey;obtain⟨t,rfl⟩:=ry;exact Qn CM hD.1 (hD.2 _ I2.kIn).mapOf ⟨.bl _,H2,I2.tok _,rfl,q2⟩
theorem D8(hD:pJ X d vs)(hg:Gl X nm)(hm:X.mg nm=some (.ref d))(he:Ev X H0 O0 ps e (.str n))(hv:Lx vs n=some (.str t tk))(hs:v9 e:=by intro _ _;rfl)(Sr:(nm==("__debug__":Str))=false:=by decide):Ev X H0 O0 ps (.Subscript (.Name nm p) e pos) (.str t):=
 PE.mono (B6 hD hg hm he hs Sr) λσ H Q ⟨O,R,q⟩=>⟨O,R,λv H' s r=>by
  cases r;exact⟨n,.str t,_,rfl,hv,⟨tk,rfl⟩,q _ H' s (.str t)⟩⟩
theorem Dj(hD:pJ X d vs)(hg:Gl X nm)(hm:X.mg nm=some (.ref d))(he:Ev X H0 O0 ps e (.str n))(Sr:(nm==("__debug__":Str))=false:=by decide)(h1:Je .NotIn (.Name nm p)=false:=by first |exact i_ _ |with_unfolding_all rfl):Tt X H0 O0 ps (.Compare e [.NotIn] [.Name nm p] pos) (!(Lx vs n).isSome):=
 PT.mono (Ab (Bk hD hg hm he Sr) h1) λσ H Q ⟨O,R,q⟩=>⟨O,R,λv H' s r=>by
  cases r;exact⟨n,rfl,_,rfl,q H' s⟩⟩
end
theorem CI{X:Cx}{x y:Str}:OpS X (Hh .LtE) (.str x) (.str y) (.bl (!decide (y.cps.toList<x.cps.toList))):=by
 intro pins s σ H v w p q Q I r1 r2 h;obtain⟨h1,h2,h3⟩:=h;cases h1;cases h2;obtain⟨t,rfl⟩:=r1;obtain⟨t',rfl⟩:=r2;exact PySem.P.le_str ⟨.bl _,H,I,rfl,h3⟩
section
variable {ps:PSt}{a:Expr}{x:Str}
theorem vR:MtR X "str.split" (λv vs H Q=>∃x,v=.str x∧vs=[]∧x.length≤sizeLine∧(Builtin.Str.spaceWords x (x.length+1)).length≤sizeLine∧∀p,H p=none→Q (.ref p) (upd H p (.lst ((Txt.words x).map V.str)))):=by
 intro pins s σ H v vs u us Q I r1 r2 h;obtain⟨x,rfl,rfl,hz,hz2,q⟩:=h;obtain⟨t,rfl⟩:=r1;cases r2;have fr:=I.hok.fresh (GA s.heap.objs.size)
 have len:(Txt.words x).length<=sizeLine:=by
  unfold Txt.words;split
  ·exact show 1<=sizeLine by decide
  ·unfold wordsOf;rw[Gp];exact hz2
 have RR:∀(l:List (Str×Tok)) (tk:Nat),l.map (·.1)=Txt.words x→EP X pins σ Q (.ref s.heap.objs.size) {s with heap:=s.heap.push {cls:=.type "list",data:=.seq (NC l).toArray },toks:=tk }:=λl tk e'=>
  ⟨.ref s.heap.objs.size,_,I.laid (t':=tk) (λb o z=>Gu _ z) (GA _) (show bG X.prog X.w _ _ _ (.lst ((Txt.words x).map V.str)) from ⟨by rw[Gp];exact len,NC l,_,by rw[<-e'];exact jg l,GH s.heap rfl⟩),rfl,q _ fr⟩
 refine Lr Im rfl JZ (PySem.F.args_str_split_1 ..) (meets_str_split_space x t hz hz2) ?_;by_cases hw:(Builtin.Str.spaceWords x (x.length+1)==[(0,x.length)])=true
 ·rw[if_pos hw];exact RR [(x,t)] s.toks (if_pos hw).symm
 ·rw[if_neg hw];have e:Txt.words x=wordsOf x:=if_neg hw;show wants _ _ _ _;rw[<-e,strsFrom_eq];exact RR (numbered s.toks (Txt.words x)) _ (Qm _ _)
theorem o9(ha:Ev X H0 O0 ps a (.str x))(hz:x.length≤sizeLine)(hz2:(Builtin.Str.spaceWords x (x.length+1)).length≤sizeLine)(RS:HR a "split" X.env (HY a X.env)=HY a X.env:=by rfl)(RT:(RE.endLine==RD.line)=true:=by rfl):
  EvN X H0 O0 ps (.Call (.Attribute a "split" RE) [] [] RD) ((Txt.words x).map U.str):=
 PE.mono (xo I0 Im Ll vR ha RS RT) λσ H Q ⟨O,R,q⟩=>⟨O,R,λv H1 s1 r1=>by
  cases r1;exact⟨rfl,x,rfl,rfl,hz,hz2,λp hp=>q p _ _ (s1.trans (aT hp _)) (s1.free hp) aF (lN _)⟩⟩
end
def F6(K:Gn)(l1 l2:GE):It:=
 ⟨λi H=>∃xs ys x y,SqL K H l1 xs/\SqL K H l2 ys/\xs[i]?=some x/\ys[i]?=some y,
  λi H u H'=>∃p x y,u=.ref p/\H p=none/\H'=upd H p (.tup [x,y])/\(∀xs,SqL K H l1 xs->xs[i]?=some x)/\(∀ys,SqL K H l2 ys->ys[i]?=some y),
  λi H=>∃xs ys,SqL K H l1 xs/\SqL K H l2 ys/\xs.length<=i⟩
theorem A1{P:GF}{w:G5}{K:Gn}{es:List Expr}{ctx pos}(z TI TO i1 i2 l1 l2:GE)(D:KL z TI TO i1 i2 l1 l2):
  yF P w K (.Tuple es ctx pos) (F6 K l1 l2) [z,TI,TO,i1,i2] z (λi h=>IsZip h z TI TO .none/\Lh h TI (.ref i1) (.ref i2)/\(∃a b,Lh h TO a b)/\h.IsListIter i1 l1 i/\h.IsListIter i2 l2 i) where
 mem:=by simp
 obj:=λi h st b hb=>by
  obtain⟨gz,gI,⟨a,c,gO⟩,h1,h2⟩:=st
  have li:∀{it l k},h.IsListIter it l k->∃o,h.get? it=some o/\∀v,o.data≠.cell v:=λq=>by
   obtain⟨o,e,_,d⟩:=q;exact⟨o,e,λv z=>by rw[d]at z;cases z⟩
  simp only[Gx,HK,or_false]at hb;rcases hb with e |e |e |e |e <;>subst e
  ·exact⟨_,gz,λv z=>by cases z⟩
  ·exact⟨_,gI,λv z=>by cases z⟩
  ·exact⟨_,gO,λv z=>by cases z⟩
  ·exact li h1
  ·exact li h2
 keep:=λi h h' st k=>by
  obtain⟨gz,gI,⟨a,c,gO⟩,h1,h2⟩:=st;exact⟨k z (by simp) _ gz,k TI (by simp) _ gI,⟨a,c,k TO (by simp) _ gO⟩,h1.at λo e=>k i1 (by simp) o e,h2.at λo e=>k i2 (by simp) o e⟩
 item:=by
  intro X hP hw hK hc i pins s σ H E I hf st hg;subst hP hw hK;obtain⟨gz,gI,⟨a,b,gO⟩,h1,h2⟩:=st;obtain⟨xs,ys,x,y,q1,q2,e1,e2⟩:=hg;obtain⟨n1,r1,p1,_⟩:=I.list q1;obtain⟨n2,r2,p2,_⟩:=I.list q2;obtain⟨u1,k1,t1⟩:=r1.get e1;obtain⟨u2,k2,t2⟩:=r2.get e2;refine Nx D gz gI gO h1 h2 p1.isList p2.isList (x:=u1) (y:=u2) (by simpa using k1) (by simpa using k2) λh' a1 a2 a3 a4 a5 a6 kp=>?_
  refine⟨_,rfl,?_⟩;refine wpAny_letOwnedTupleGo_zip (s:={s with heap:=h' }) a1 λhN b1 sb=>?_
  have nz:s.heap.objs.size≠z:=Kf (GD gz);have tri:Lh hN s.heap.objs.size u1 u2:=(sb.2 _ nz).trans a5;have fresh:H s.heap.objs.size=none:=I.hok.fresh (GA _)
  have nf:s.heap.objs.size ∉ [z,TI,TO,i1,i2]:=λhb=>by
   have key:∀{d o},s.heap.get? d=some o->s.heap.objs.size≠d:=λe=>Kf (GD e)
   have li:∀{it l k},s.heap.IsListIter it l k->s.heap.objs.size≠it:=λq=>by obtain⟨o,e,_⟩:=q;exact key e
   simp only[Gx,HK,or_false]at hb;rcases hb with e |e |e |e |e
   ·exact key gz e
   ·exact key gI e
   ·exact key gO e
   ·exact li h1 e
   ·exact li h2 e
  refine⟨.ref s.heap.objs.size,upd H s.heap.objs.size (.tup [x,y]),BB (s:=s) (h':=hN) (t':=s.toks) I hf (λd o hd e=>?_) (GA _) ⟨by show 2<=sizeLine;decide,[u1,u2],.cons t1 (.cons t2 .nil),⟨_,tri,rfl,_,rfl⟩⟩,rfl,
   ⟨_,x,y,rfl,fresh,rfl,λzs q=>by rw[I.list_inj q q1];exact e1,λzs q=>by rw[I.list_inj q q2];exact e2⟩,?_,λd hd=>?_⟩
  ·simp only[Gx,HK,or_false,not_or]at hd;obtain⟨d1,d2,d3,d4,d5⟩:=hd;exact (sb.2 d d1).trans (kp d o d1 d3 d4 d5 e)
  ·have up:∀d o,d≠z->h'.get? d=some o->hN.get? d=some o:=λd o n e=>(sb.2 d n).trans e
   exact⟨b1,up _ _ D.TIz (kp _ _ D.TIz D.TITO D.TIi1 D.TIi2 gI),⟨_,_,up _ _ D.TOz a2⟩,a3.at λo e=>up _ o D.i1z e,a4.at λo e=>up _ o D.i2z e⟩
  ·rw[aE λe=>nf (by rw[<-e];exact hd)]
   exact (hf d hd).1
 done:=by
  intro X hP hw hK hc i pins s σ H E I hf st hg;subst hP hw hK;obtain⟨gz,gI,⟨a,b,gO⟩,h1,h2⟩:=st;obtain⟨xs,ys,q1,q2,hl⟩:=hg;obtain⟨n1,r1,p1,_⟩:=I.list q1;obtain⟨n2,r2,p2,_⟩:=I.list q2;have e1:=r1.length;refine NS (I.ok.hd hc) D gz gI gO h1 h2 p1.isList p2.isList (.inl (by simp;lia)) λh' kp=>⟨rfl,Ce (t':=s.toks) I hf λd o hd e=>?_⟩
  simp only[Gx,HK,or_false,not_or]at hd;exact kp d o (by simp_all) (by simp_all) (by simp_all) (by simp_all) e
 self:=λ_ _ _ _ _ st h=>Pd st.1 h
variable {RO:List Iy}
section
variable {ps:PSt}{e f g tg iter:Expr}{p:Pos}{x y z:U}{ys zs:List U}
def dP:List U->List U->List U
 |x::xs,y::ys=>.tup [x,y]::dP xs ys
 |_,_=>[]
theorem nE:∀{xs ys:List U},xs.length=ys.length->(dP xs ys).length=xs.length
 |[],_,_=>by simp[dP]
 |_::xs,_::ys,h1=>by simp only[dP,GI]at *;rw[nE (by lia)]
theorem pK:∀{xs ys:List U}{i:Nat}{a b:U},xs[i]?=some a->ys[i]?=some b->(dP xs ys)[i]?=some (.tup [a,b])
 |_::xs,_::ys,0,a,b,h1,h2=>by simp at h1 h2;simp[dP,h1,h2]
 |_::xs,_::ys,i+1,a,b,h1,h2=>by rw[HH]at h1 h2;rw[dP,HH];exact pK h1 h2
theorem su{ctx tpos}(hg:Gl X "zip")(hm:X.mg "zip"=none)(ha:Ev X H0 O0 ps e x)(hx:x=.lst xs∨x=.scr xs)(hb:Ev X H0 O0 ps f y)(hy:y=.lst ys∨y=.scr ys)
  (l12:xs.length=ys.length) (he:Gv [e,f] X.env=(false,HY e X.env)::Gv [f] X.env) (hf:Gv [f] X.env=(false,HY f X.env)::Gv [] X.env):
  EvZ X H0 O0 ps (.Tuple es ctx tpos) (.Call (.Name "zip" p) [e,f] [] pos) (dP xs ys):=by
 rintro pins s σ H Q I ⟨O,R,q⟩;refine Hj (c5 I hg hm qJ ?_)
 refine callWith_type1 (thn (bu ha (bu hb cY hf) he pos pins s σ H (λvs H1=>∃v u,vs=[v,u]/\aH H H1/\Rp X.K (hid H1 O) v x/\Rp X.K (hid H1 O) u y) I
  ⟨O,R,λv H1 s1 r1=>⟨O,R.go s1,λu H2 s2 r2=>⟨v,u,rfl,s1.trans s2,r1.same (aD s2),r2⟩⟩⟩) λus s1 hx'=>?_) he (by rw[hf];rfl)
 obtain⟨vs,H1,I1,rv,v,u,rfl,sm,rp1,rp2⟩:=hx';obtain⟨w1,w2,rfl,ru1,ru2⟩:=iR rv;obtain⟨a,va,rfl,Uw,rs1⟩:=wm rp1 hx;obtain⟨b,vb,rfl,Sm,rs2⟩:=wm rp2 hy;cases ru1;cases ru2;obtain⟨ia,ra,SU,hz1⟩:=I1.list (aB.seq Uw);obtain⟨ib,rb,R0,hz2⟩:=I1.list (aB.seq Sm);have l1:=rs1.len;have l2:=rs2.len;have al:@LT.lt Nat instLTNat a s1.heap.objs.size:=by obtain⟨o,ho,_⟩:=SU.isList;exact GD ho
 have bl:@LT.lt Nat instLTNat b s1.heap.objs.size:=by obtain⟨o,ho,_⟩:=R0.isList;exact GD ho
 refine call_zip_2 SU.isList R0.isList λh' g1 g2 g3 g4 g5 g7 g8=>?_
 have D:KL (s1.heap.objs.size+4) (s1.heap.objs.size+2) (s1.heap.objs.size+3) s1.heap.objs.size (s1.heap.objs.size+1) a b:=by constructor <;>exact wl (by lia)
 refine Pd (s:={s1 with heap:=h' }) g1 ?_
 have I2:Inv X pins σ H1 {s1 with heap:=h' }:=I1.kept (t':=s1.toks) g8
 refine⟨s1.heap.objs.size+4,_,_,_,H1,rfl,I2,A1 _ _ _ _ _ a b D,⟨g1,g2,⟨_,_,g3⟩,g4,g5⟩,λd hd=>?_,q _ H1 sm λH2 s2=>?_⟩
 ·have ge:s1.heap.objs.size<=d:=by
   simp only[Gx,HK,or_false]at hd;rcases hd with e |e |e |e |e <;>rw[e] <;>first |exact Nat.le_add_right _ _ |exact GA _
  exact I1.fpOk ge (I1.hok.fresh ge)
 ·rw[nE l12];refine⟨λi hi=>?_,⟨va,vb,s2.seq Uw,s2.seq Sm,by lia⟩⟩
  have h1:i<va.length:=by lia
  have h2:i<vb.length:=by lia
  refine⟨⟨va,vb,va[i],vb[i],s2.seq Uw,s2.seq Sm,Gm h1,Gm h2⟩,?_⟩;rintro _ H3 ⟨pp,x1,y1,rfl,nn,rfl,e1,e2⟩;have sm2:aH H2 (upd H2 pp (.tup [x1,y1])):=aT nn _;have m1:xs[i]?=some (xs[i]'(by lia)):=Gm (by lia)
  have m2:ys[i]?=some (ys[i]'(by lia)):=Gm (by lia)
  refine⟨sm2,_,pK m1 m2,λO2 hO sG=>?_⟩
  have all:Rps X.K (hid (upd H2 pp (.tup [x1,y1])) O2) [x1,y1] [_,_]:=
   .cons ((rs1.at_ i _ _ (e1 _ (s2.seq Uw)) m1).same (sG.trans (aD sm2))) (.cons ((rs2.at_ i _ _ (e2 _ (s2.seq Sm)) m2).same (sG.trans (aD sm2))) .nil)
  exact .tup (SqT.of (b4 aF λhp=>hO pp hp nn)) all.len all.at_
theorem qQ{is:List Nat}{g:TG}{f:PSt->U->PSt}{dom:U->Prop}{σ:St}{H1:Hp}{O:List GE}{Q:VK}{J:It}{te:TE}(hg:GOk g X.K is f dom)(R1:Rs X.K H0 O0 ps σ H1 O)(Y:Yz X.K J (hid H1 O) xs)(RM:ys.length=xs.length)(hz:xs.length<=sizeLine)(SD:∀x∈xs,dom x)
  (Tv:∀(i:Nat) (x y:U) (σ:St) (H:Hp) (O':List GE) (Q:VK),xs[i]?=some x->ys[i]?=some y->Rs X.K H0 O0 (f (cw is ps) x) σ H O'->(∀v H',aH H H'->Rp X.K (hid H' O') v y->Q v H')->te σ H Q)
  (RR:∀a vs H',aH H1 H'->H1 a=none->H' a=some (.lst vs)->Rps X.K (hid H' (a::O)) vs ys->Q (.ref a) H'):uJ is g te σ Q J H1:=by
 intro l hl;refine⟨λi m H2=>m=xs.length-i/\i<=xs.length/\aH H1 H2/\∃vs,H2 l=some (.lst vs)/\vs.length=i/\Rps X.K (hid H2 (l::O)) vs (ys.take i),⟨_,rfl,Hf _,aT hl _,[],aF,rfl,by rw[KD];exact .nil⟩,?_⟩
 rintro i m H2 ⟨rfl,hi,s2,vs,h2,hv,rs⟩;have seen:aH (hid H1 O) (hid H2 (l::O)):=bh s2 hl;obtain⟨y1,y2⟩:=Y H2 (seen.trans aB);by_cases RU:i<xs.length
 ·obtain⟨g1,g2⟩:=y1 i RU;refine .inr ⟨g1,λx H3 y=>?_⟩
  obtain⟨s3,u,hu,r⟩:=g2 x H3 y;have R2:=((R1.mask (is:=is)).hide s2 hl (by rw[h2];intro z;cases z)).go s3
  have h3:=s3 _ _ h2;refine hg H0 O0 _ _ H3 (l::O) x u _ (SD u (GJ hu)) R2 (r (l::O) (λb hb z=>by rcases Gx.mp hb with k |k;(rw[k,h2]at z;cases z);exact R1.dom b k (s2.free z)) seen) λUc R4 keep=>?_
  have hy:ys[i]?=some (ys[i]'(by lia)):=Gm _
  refine Tv i u _ Uc H3 (l::O) _ hu hy R4 λv H5 s5 r5=>⟨λj w e=>keep j w (eS is σ j w e).2 e,vs,s5 _ _ h3,?_,xs.length-(i+1),by lia,rfl,RU,((s2.trans s3).trans s5).put hl _,vs++[v],aF,by simp[hv],?_⟩
  ·rw[hv];lia
  ·rw[gC Gy,IR,hy];exact ((rs.same (aD s3)).same (aD s5)).snoc (.cons r5 .nil)
 ·have e:i=xs.length:=by lia
  subst e;rw[<-RM,IX]at rs;exact .inl ⟨y2,RR l vs H2 s2 hl h2 rs⟩
theorem kR{R6:Expr}{scope:Ke}{cl:List (Str×GE)}{Ss py:Pos}{y:Str}{j:Nat}{is:List Nat}{g:TG}{f:PSt->U->PSt}{dom:U->Prop}(own:Bool)(hc:X.calm=true)(hN:X.N.Nodup)(hj:X.N[j]?=some y)(hy:Loc X.env.scope y)(B:bQ X scope cl is)
  (hi:EvZ X H0 O0 ps tg iter xs) (hg:∀C s H fp,PG (ap X scope cl C s H fp) tg g) (gk:GOk g X.K is f dom) (RM:ys.length=xs.length) (hz:xs.length<=sizeLine) (SD:∀x∈xs,dom x)
  (he:∀C s H fp (i:Nat) (x y:U),xs[i]?=some x->ys[i]?=some y->Ev (ap X scope cl C s H fp) H0 O0 (f (cw is ps) x) R6 y) (h:D.nx (ps.set j (some (if own then .own ys else .val (.lst ys)))))
  (hs:∀x,Hg iter X.env x=pure x:=by intro _;rfl)
  (Tu:Ip (.ListComp R6 [⟨tg,iter,[],0⟩] scope pos) (some (.Name y py)) Ss.line X.env=pure true:=by rfl) (hf:X.fn y=true\/X.env.scope.names.lookup y=some .local:=by first |exact .inl rfl |exact .inr rfl |assumption):
  W1 X H0 O0 E (.Assign [.Name y py] (.ListComp R6 [⟨tg,iter,[],0⟩] scope pos) Ss) D ps:=by
 have Tv:∀C s H fp,PE (ap X scope cl C s H fp) R6 λσ H Q=>∃i x y,xs[i]?=some x/\ys[i]?=some y/\∃O',Rs X.K H0 O0 (f (cw is ps) x) σ H O'/\∀v H',aH H H'->Rp X.K (hid H' O') v y->Q v H':=
  λC s H fp pins s' σ H' Q I ⟨i,x,y,h1,h2,z⟩=>he C s H fp i x y h1 h2 pins s' σ H' Q I z
 refine PS.mono (lw hc hN hj hy B hi hg Tv hs Tu hf) λD' σ H ⟨L,O,R⟩=>⟨O,R,λJ H1 s1 Y=>?_⟩
 refine qQ gk (R.go s1) Y RM hz SD (λi x y σ H O' Q h1 h2 R' z=>⟨i,x,y,h1,h2,O',R',z⟩) λa vs H' s n h' r=>?_
 cases own with
 |true=>exact L.nx _ _ _ _ ((R.go s1).own s n h' r) h
 |false=>
  have na:a ∉ O:=λz=>(R.go s1).dom a z n
  have r':=r.same (aI λb hb=>Gq a hb)
  exact L.nx _ _ _ _ (((R.go s1).go s).set (.lst (b4 h' na) r'.len r'.at_)) h
end
def Es(pr:Params)(e:Str×Tok×Str×Tok):DictEntry:={hash:=PyData.keyHash pr e.1,key:=.str e.1 e.2.1,val:=.str e.2.2.1 e.2.2.2 }
def vO(w:G5)(K:Gn)(d:GE)(vs:List (Str×Str)):Prop:=
 (d==JN)=false∧∃(es:List (Str×Tok×Str×Tok)) (n:Nat),vs=es.map (λe=>(e.1,e.2.2.1))∧(vs.map (·.1)).Nodup∧K.lookup d=some ⟨.type "dict",none,.dict (es.map (Es w.params)).toArray n,#[]⟩
def gm(vs:List (Str×Str))(x:Str):Option Str:=(vs.find? λkv=>decide (kv.1=x)).map (·.2)
section
variable {ps:PSt}{e:Expr}{p:Pos}{n nm t:Str}{vs:List (Str×Str)}
theorem kG{prog:GF}{w:G5}:∀es:List (Str×Tok×Str×Tok),Pairs (strKind prog w) (es.map (Es w.params)) (es.map λe=>(e.1,Ho e.2.2.1 e.2.2.2))
 |[]=>Pairs.nil
 |e::r=>Pairs.cons (strKind_is prog w e.1 e.2.1) rfl (kG r)
theorem vO.dict(h:vO X.w X.K d vs):∃ws,pJ X d ws/\∀x,(∀t,gm vs x=some t->∃tk,Lx ws x=some (.str t tk))/\(Lx ws x).isSome=(gm vs x).isSome:=by
 obtain⟨h1,es,m,rfl,nd,hl⟩:=h;refine⟨es.map λe=>(e.1,Ho e.2.2.1 e.2.2.2),⟨h1,λh kin=>?_⟩,λx=>?_⟩
 ·refine Heap.dictOf_iff.mpr ⟨_,kin _ _ hl,(es.map (Es X.w.params)).toArray,m,⟨rfl,rfl,rfl⟩,rfl,λe he=>?_,kG es,by rw[G3]at nd |-;exact nd⟩
  obtain⟨q,_,rfl⟩:=GC.mp (List.mem_toArray.mp he);exact⟨q.1,strKind_is _ _ q.1 q.2.1,rfl⟩
 ·clear nd hl
  induction es with
  |nil=>exact⟨λt h=>(by simp[gm]at h),rfl⟩
  |cons e r ih=>
   unfold Lx gm at *;rw[GW,GW,Ji,Ji];by_cases z:e.1=x
   ·simp only[z,decide_true];exact⟨λt h=>⟨e.2.2.2,by simp at h;simp[h]⟩,rfl⟩
   ·simp only[z,decide_false];exact ih
theorem CL(h:vO X.w X.K d vs)(hg:Gl X nm)(hm:X.mg nm=some (.ref d))(he:Ev X H0 O0 ps e (.str n))(hv:gm vs n=some t)(hs:v9 e:=by intro _ _;rfl)(Sr:(nm==("__debug__":Str))=false:=by decide):Ev X H0 O0 ps (.Subscript (.Name nm p) e pos) (.str t):=by
 obtain⟨ws,hD,q⟩:=h.dict;obtain⟨tk,e1⟩:=(q n).1 t hv;exact D8 hD hg hm he e1 hs Sr
theorem yg(h:vO X.w X.K d vs)(hg:Gl X nm)(hm:X.mg nm=some (.ref d))(he:Ev X H0 O0 ps e (.str n))(Sr:(nm==("__debug__":Str))=false:=by decide)(h1:Je .NotIn (.Name nm p)=false:=by first |exact i_ _ |with_unfolding_all rfl):Tt X H0 O0 ps (.Compare e [.NotIn] [.Name nm p] pos) (!(gm vs n).isSome):=by
 obtain⟨ws,hD,q⟩:=h.dict;rw[<-(q n).2];exact Dj hD hg hm he Sr h1
end
theorem ju{M:NO}{Γ:Q6}{p:Pos}{t:Sem PF}{fs:List Frame}{s:Gs}{e:End}{s':Gs}(h:PySem.Runs M Γ p t fs s e s'):s.toks<=s'.toks:=by
 have st:∀(s:Gs) g x,(s.setGen g x).toks=s.toks:=λ_ _ _=>rfl
 induction h <;>(try simp only[st]at *) <;>first |lia | (dsimp only at *;lia)
theorem sO{M:NO}{Γ:Q6}{p:Pos}{g:Nat}{r:Resume}{s:Gs}{res:GenResult}{s':Gs}(h:Wakes M Γ p g r s res s'):s.toks<=s'.toks:=by
 unfold Wakes at h;split at h
 ·exact h.elim
 ·split at h
  ·obtain⟨e,s1,h1,_,_,rfl⟩:=h;have:=ju h1;exact this
  ·rw[h.2];exact GA _
  ·rw[h.2];exact GA _
 ·obtain⟨e,s1,h1,_,_,rfl⟩:=h;have:=ju h1;exact this
 ·rw[h.2];exact GA _
 ·rw[h.2];exact GA _
theorem Br{α:Type}{M:NO}{Γ:Q6}(n:Nat)(t:Sem α):∀(Q:α->Pos->Gs->Prop) (E:Gr->Pos->Gs->Prop) (p:Pos) (s:Gs),n<=s.toks->Sem.wp M Γ t Q E p s->Sem.wp M Γ t (λa p s'=>Q a p s'/\n<=s'.toks) (λa p s'=>E a p s'/\n<=s'.toks) p s:=by
 induction t with
 |pure a=>intro Q E p s hn h;rw[Sem.wp]at *;exact⟨h,hn⟩
 |raise a=>intro Q E p s hn h;rw[Sem.wp]at *;exact⟨h,hn⟩
 |unsupported _=>intro Q E p s hn h;rw[Sem.wp]at h;exact h.elim
 |finish _=>intro Q E p s hn h;rw[Sem.wp]at h;exact h.elim
 |rule _ k ih=>intro Q E p s hn h;rw[Sem.wp]at *;exact ih _ _ _ _ _ hn h
 | «at» _ k ih=>intro Q E p s hn h;rw[Sem.wp]at *;exact ih _ _ _ _ _ hn h
 |load a _ k ih=>intro Q E p s hn h;rw[Sem.wp]at *;obtain⟨o,e,h⟩:=h;exact⟨o,e,ih _ _ _ _ _ hn h⟩
 |update a _ f k ih=>intro Q E p s hn h;rw[Sem.wp]at *;exact⟨h.1,ih _ _ _ _ _ hn h.2⟩
 |alloc o k ih=>intro Q E p s hn h;rw[Sem.wp]at *;exact ih _ _ _ _ _ hn h
 |loadIfAlive a k ih=>intro Q E p s hn h;rw[Sem.wp]at *;exact ih _ _ _ _ _ hn h
 |point _ k ih=>intro Q E p s hn h;rw[Sem.wp]at *;exact ih _ _ _ _ _ hn h
 |register _ _=>intro Q E p s hn h;rw[Sem.wp]at h;exact h.elim
 |fresh k ih=>intro Q E p s hn h;rw[Sem.wp]at *;exact ih _ _ _ _ _ (Nat.le_succ_of_le hn) h
 |ask k ih=>intro Q E p s hn h;rw[Sem.wp]at *;exact ih _ _ _ _ _ hn h
 |choose src m k ih=>intro Q E p s hn h;rw[Sem.wp]at *;exact⟨h.1,ih _ _ _ _ _ hn h.2⟩
 |os q l k ih=>intro Q E p s hn h;rw[Sem.wp]at *;exact ih _ _ _ _ _ hn h
 |call c hh g l k ih=>intro Q E p s hn h;rw[Sem.wp]at *;obtain⟨r,s',hr,h⟩:=h;exact⟨r,s',hr,ih _ _ _ _ _ (HD hn (ju hr)) h⟩
 |handled own k ih=>intro Q E p s hn h;rw[Sem.wp]at *;exact ih _ _ _ _ _ hn h
 |newGen c k ih=>intro Q E p s hn h;rw[Sem.wp]at *;exact ih _ _ _ _ _ hn h
 |genState g k ih=>intro Q E p s hn h;rw[Sem.wp]at *;obtain⟨o,e,h⟩:=h;exact⟨o,e,ih _ _ _ _ _ hn h⟩
 |resume g r l k ih=>intro Q E p s hn h;rw[Sem.wp]at *;obtain⟨o,s',e,h⟩:=h;exact⟨o,s',e,ih _ _ _ _ _ (HD hn (sO e)) h⟩
 |yield _ _ _ _=>intro Q E p s hn h;rw[Sem.wp]at h;exact h.elim
 |stack k ih=>intro Q E p s hn h;rw[Sem.wp]at *;exact ih _ _ _ _ _ hn h
 |fork _ _=>intro Q E p s hn h;rw[Sem.wp]at h;exact h.elim
 |thread k ih=>intro Q E p s hn h;rw[Sem.wp]at *;exact ih _ _ _ _ _ hn h
 |await _ _ _ _ _=>intro Q E p s hn h;rw[Sem.wp]at h;exact h.elim
theorem ky{α:Type}{M:NO}{A:Ha}{t:Sem α}{Q:α->Gs->Prop}{E:Gr->Gs->Prop}{s:Gs}{n:Nat}(hn:n<=s.toks)(h:GQ M A t Q E s):GQ M A t (λa s'=>Q a s'/\n<=s'.toks) (λe s'=>E e s'/\n<=s'.toks) s:=
 λΓ p hg=>Br n t _ _ p s hn (h Γ p hg)
theorem Au{α:Type}{t:Sem α}{Q Q':α->Gs->Prop}{M:NO}{A:Ha}{E:Gr->Gs->Prop}{s:Gs}{n:Nat}(hn:n<=s.toks)(h:GQ M A t Q E s)(hQ:∀a s',n<=s'.toks->Q a s'->Q' a s'):GQ M A t Q' E s:=HC (ky hn h) (λa s' z=>hQ a s' z.2 z.1) λ_ _ x=>x.1
def PEt(X:Cx)(e:Expr)(t:TE):Prop:=∀(pins:List (GE×Obj)) (s:Gs) (σ:St) (H:Hp) (Q:VK),1<=s.toks->Inv X pins σ H s->t σ H Q->GQ (G1 X.prog X.w) X.A (HY e X.env) (EP X pins σ Q) X.xe s
def PE1(X:Cx)(e:Expr)(t:TE):Prop:=∀(pins:List (GE×Obj)) (s:Gs) (σ:St) (H:Hp) (Q:VK),Inv X pins σ H s->t σ H Q->GQ (G1 X.prog X.w) X.A (HY e X.env) (λu s'=>EP X pins σ Q u s'/\1<=s'.toks) X.xe s
def PA1(X:Cx)(es:List Expr)(t:TA):Prop:=∀(pos:Pos) (pins:List (GE×Obj)) (s:Gs) (σ:St) (H:Hp) (Q:List V->Hp->Prop),Inv X pins σ H s->t σ H Q->GQ (G1 X.prog X.w) X.A (M_ (Hx pos (Gv es X.env))) (λus s'=>AP X pins σ Q us s'/\1<=s'.toks) X.xe s
def oz(X:Cx)(st:Iy)(t:TS):Prop:=∀(pins:List (GE×Obj)) (s:Gs) (σ:St) (H:Hp) (D:ja),1<=s.toks->Inv X pins σ H s->t D σ H->GQ (G1 X.prog X.w) X.A (exec st X.env) (SP X pins D) X.xe s
def jY(X:Cx)(st:List Iy)(t:TS):Prop:=∀(pins:List (GE×Obj)) (s:Gs) (σ:St) (H:Hp) (D:ja),1<=s.toks->Inv X pins σ H s->t D σ H->GQ (G1 X.prog X.w) X.A (execs st X.env) (SP X pins D) X.xe s
def PIt(X:Cx)(tg iter:Expr)(wi:TI):Prop:=∀(pins:List (GE×Obj)) (s:Gs) (σ:St) (H:Hp) (R:It->Hp->Prop),1<=s.toks->Inv X pins σ H s->wi σ H R->GQ (G1 X.prog X.w) X.A (HY iter X.env) (λv s1=>GQ (G1 X.prog X.w) X.A (OU v) (PIE X pins σ tg R) X.xe s1) X.xe s
structure eZ(P:GF)(w:G5)(K:Gn)(mg:Str->Option Gr)(base:H_)(CX:CXT)(k:Nat)(f:GE)(fd:Hw)(ps:List Str)(sp:Sp):Prop where
 len:∀vs H Q E,sp vs H Q E->vs.length=ps.length
 run:∀(A:Ha) (outer:List Env) (s:Gs) (H:Hp) (args:Args) (us:List Gr) (vs:List V) (Q:VK) (E:XK),1<=s.toks->bB k A->qa P w K mg base A outer s H->Pj s fd args (ps.zip us)->aK vs us->sp vs H Q E->
  J7 (G1 P w) A (.call (.ref f) args) (CR CX outer P w H s Q E) s
theorem eZ.mono{P:GF}{w:G5}{K:Gn}{mg:Str->Option Gr}{base:H_}{CX:CXT}{j k:Nat}{f:GE}{fd:Hw}{ps:List Str}{sp:Sp}(F:eZ P w K mg base CX j f fd ps sp)(h:j<=k):eZ P w K mg base CX k f fd ps sp:=
 ⟨F.len,λA outer s H args us vs Q E ht hr=>F.run A outer s H args us vs Q E ht (hr.mono h)⟩
theorem xU{α:Type}{M:NO}{A:Ha}{t:Sem α}{Q:α->Gs->Prop}{E:Gr->Gs->Prop}{s:Gs}{n:Nat}(hn:n<=s.toks)(h:GQ M A t (λa s'=>n<=s'.toks->Q a s') E s):GQ M A t Q E s:=Au hn h λ_ _ k q=>q k
theorem PEt.mono{X:Cx}{e:Expr}{t t':TE}(h:PEt X e t)(m:∀σ H Q,t' σ H Q->t σ H Q):PEt X e t':=λpins s σ H Q k I q=>h pins s σ H Q k I (m σ H Q q)
theorem PE1.mono{X:Cx}{e:Expr}{t t':TE}(h:PE1 X e t)(m:∀σ H Q,t' σ H Q->t σ H Q):PE1 X e t':=λpins s σ H Q I q=>h pins s σ H Q I (m σ H Q q)
theorem PA1.mono{X:Cx}{e:List Expr}{t t':TA}(h:PA1 X e t)(m:∀σ H Q,t' σ H Q->t σ H Q):PA1 X e t':=λpos pins s σ H Q I q=>h pos pins s σ H Q I (m σ H Q q)
theorem oz.mono{X:Cx}{e:Iy}{t t':TS}(h:oz X e t)(m:∀D σ H,t' D σ H->t D σ H):oz X e t':=λpins s σ H D k I q=>h pins s σ H D k I (m D σ H q)
theorem jY.mono{X:Cx}{e:List Iy}{t t':TS}(h:jY X e t)(m:∀D σ H,t' D σ H->t D σ H):jY X e t':=λpins s σ H D k I q=>h pins s σ H D k I (m D σ H q)
theorem PIt.mono{X:Cx}{tg e:Expr}{t t':TI}(h:PIt X tg e t)(m:∀σ H Q,t' σ H Q->t σ H Q):PIt X tg e t':=λpins s σ H Q k I q=>h pins s σ H Q k I (m σ H Q q)
section
variable {k:Nat}{f:GE}{ps:List Str}{sp:Sp}{SS:List V}{ds:List Gr}{x m:Str}{p:Pos}{e:Expr}{ta te:TE}{t:TA}{st:Iy}{rest:List Iy}{tS u:TS}
theorem D4{x j pos}:PE1 X (.Constant (.str x) j pos) (tC (.str x)):=λ_ s _ H _ I h=>KZ ⟨⟨.str x,H,I.tok _,⟨_,rfl⟩,h⟩,Nat.le_add_left 1 s.toks⟩
theorem zq(ha:PE1 X e te)(hr:PA X es t)(hs:Gv (e::es) X.env=(false,HY e X.env)::Gv es X.env:=by rfl):PA1 X (e::es) (Cv te t):=by
 intro pos pins s σ H Q I h;rw[hs];show GQ _ _ (M_ ((false,HY e X.env)::Hx pos (Gv es X.env))) _ _ s;refine Ik (thn (ha pins s σ H _ I h) λu s1 ⟨⟨x,H1,I1,r1,q1⟩,k1⟩=>?_)
 exact Au k1 (hr pos pins s1 σ H1 _ I1 q1) λus s2 k2 ⟨xs,H2,I2,r2,q2⟩=>⟨⟨x::xs,H2,I2,.cons r1 r2,q2⟩,k2⟩
theorem ut{pins:List (GE×Obj)}{σ:St}{H:Hp}{s:Gs}{Q:VK}{us:List Gr}{vs:List V}(F:eZ X.prog X.w X.K X.mg X.base CX k f fd ps sp)(hr:bB k X.A)(hb:bq X.K fd ps ds)(hd:aK SS ds)(hx:bj CX X E)
  (hk1:1<=s.toks) (I:Inv X pins σ H s) (r:aK vs us) (h:sp (vs++SS) H Q E):GQ (G1 X.prog X.w) X.A (call (.ref f) us) (EP X pins σ Q) X.xe s:=by
 have r2:aK (vs++SS) (us++ds):=r.append hd;have hl:(us++ds).length=ps.length:=by rw[<-r2.length];exact F.len _ _ _ _ h
 refine LY (JV (F.run X.A X.stack s H ⟨us,[]⟩ (us++ds) (vs++SS) Q E hk1 hr I.env0 (hb s us I.kIn hl) r2 h) λr s' hq=>?_)
 cases r with
 |error e=>exact hx pins σ H s e s' I hq
 |ok fl=>
  cases fl with
  |ret u=>exact I.after hq
  |next=>exact False.elim hq
  |brk=>exact False.elim hq
  |cont=>exact False.elim hq
theorem yE(F:eZ X.prog X.w X.K X.mg X.base CX k f fd ps sp)(hr:bB k X.A)(hg:Gl X x)(hm:X.mg x=some (.ref f))(hk:HA X.K (.ref f)=true)(hb:bq X.K fd ps ds)(hd:aK SS ds)(hx:bj CX X E)
  (ha:PA1 X (e::es) t) (Sr:(x==("__debug__":Str))=false:=by decide) (he:Gv (e::es) X.env=(false,HY e X.env)::Gv es X.env:=by rfl) (R3:(Hx pos (Gv es X.env)).any (·.1)=false:=by rfl):
  PE X (.Call (.Name x p) (e::es) [] pos) (zI sp SS E t):=by
 intro pins s σ H Q I h;refine Hj (dF I hg hm ?_ Sr);refine JG (h₀:=X.base) I.ok.mod.kin hk (thn (ha pos pins s σ H _ I h) λus s1 ⟨⟨vs,H1,I1,r,q⟩,k1⟩=>⟨I1.kIn,?_⟩) he R3
 exact ut F hr hb hd hx k1 I1 r q
theorem zF(F:eZ X.prog X.w X.K X.mg X.base CX k f fd ps sp)(hr:bB k X.A)(hg:Gl X x)(hm:X.mg x=some (.ref f))(hk:HA X.K (.ref f)=true)(hb:bq X.K fd ps ds)(hd:aK SS ds)(hx:bj CX X E)
  (ha:PA X (e::es) t) (Sr:(x==("__debug__":Str))=false:=by decide) (he:Gv (e::es) X.env=(false,HY e X.env)::Gv es X.env:=by rfl) (R3:(Hx pos (Gv es X.env)).any (·.1)=false:=by rfl):
  PEt X (.Call (.Name x p) (e::es) [] pos) (zI sp SS E t):=by
 intro pins s σ H Q k0 I h;refine Hj (dF I hg hm ?_ Sr);refine JG (h₀:=X.base) I.ok.mod.kin hk (Au k0 (ha pos pins s σ H _ I h) λus s1 k1 ⟨vs,H1,I1,r,q⟩=>⟨I1.kIn,?_⟩) he R3
 exact ut F hr hb hd hx k1 I1 r q
theorem BP{pl:Sem Bool}(he:PE X o ta)(c:Cls X.K C)(hm:kF X.K C m f)(F:aL X.prog X.w X.K X.mg X.base CX k f fd ps sp)(hr:bB k X.A)(hb:bq X.K fd ps ds)(hd:aK SS ds)(hx:bj CX X E)(ha:PA1 X (e::es) t)
  (R9:Gv (e::es) X.env=(false,HY e X.env)::Gv es X.env:=by rfl) (R3:(Hx pos (Gv es X.env)).any (·.1)=false:=by rfl)
  (ht:HY (.Call (.Attribute o m RE) (e::es) [] pos) X.env=(do
   let ov <-HY o X.env
   Mt RE.atName
   let (f,first) <-Ln [ov] (KB ov m pl)
   Mm pos f first (Hx pos (Gv (e::es) X.env)) (JA pos (HZ [] X.env))):=by rfl):
  PE1 X (.Call (.Attribute o m RE) (e::es) [] pos) (CT C m sp SS E ta t):=by
 intro pins s σ H Q I h;refine LD (pl:=pl) (thn (he pins s σ H _ I h) λu s1 ⟨x,H1,I1,rx,a,dx,fs,ex,ea,l,q⟩=>?_) ht
 subst ex;obtain rfl:u=GR a:=rx;refine il I1 ea c hm l ?_;refine JG (first:=[.ref a]) (h₀:=X.base) I.ok.mod.kin hm.kp (thn (ha pos pins s1 σ H1 _ I1 q) λus s2 ⟨⟨vs,H2,I2,r,q2⟩,k2⟩=>⟨I2.kIn,?_⟩) R9 R3
 exact HC (ky k2 (rN (us:=.ref a::us) (vs:=.ref a::vs) F hr hb hd hx I2 (.cons rfl r) q2)) (λ_ _ z=>z) λ_ _ z=>z.1
theorem Bn(he:PEt X e te):oz X (.Return (some e) pos) (E9 te):=by
 intro pins s σ H D k0 I h;exact Oy (thn (he pins s σ H _ k0 I h) λv s1 ⟨x,H1,I1,r1,q1⟩=>⟨x,σ,H1,I1,r1,q1⟩)
theorem AZ{i:Nat}{x:Str}{e:Expr}{te:TE}{RN:Pos}(hN:X.N.Nodup)(hi:X.N[i]?=some x)(hx:Loc X.env.scope x)(he:PEt X e te)(hs:Ip e (some (.Name x RN)) pos.line X.env=pure false:=by rfl)(hf:X.fn x=true\/X.env.scope.names.lookup x=some .local:=by first |exact .inl rfl |exact .inr rfl |assumption):
  oz X (.Assign [.Name x RN] e pos) (vf te (jE i)):=by
 intro pins s σ H D k0 I h;refine Oz (thn (he pins s σ H _ k0 I h) λv s1 ⟨y,H1,I1,r1,q1⟩=>?_) hs
 exact kJ I1 hN hi hx r1 (λs2 I2=>⟨_,H1,I2,q1⟩) hf
theorem wK(h1:oz X st tS)(h2:PSs X rest u)   :jY X (st::rest) (Dn tS u):=by
 intro pins s σ H D k0 I h;refine KH (thn (h1 pins s σ H {D with nx:=u D } k0 I h) λf s1 q=>?_)
 cases f with
 |next=>
  obtain⟨RK,H',I',q⟩:=q;exact h2 pins s1 RK H' D I' q
 |ret v=>exact q
 |brk=>exact q
 |cont=>exact q
theorem vK(h1:PS X st tS)(h2:jY X rest u)   :jY X (st::rest) (Dn tS u):=by
 intro pins s σ H D k0 I h;refine KH (Au k0 (h1 pins s σ H {D with nx:=u D } I h) λf s1 k1 q=>?_)
 cases f with
 |next=>
  obtain⟨RK,H',I',q⟩:=q;exact h2 pins s1 RK H' D k1 I' q
 |ret v=>exact q
 |brk=>exact q
 |cont=>exact q
end
theorem DU{CX:CXT}{P:GF}{w:G5}{K:Gn}{mg:Str->Option Gr}{base:H_}{k:Nat}{f:GE}{name RC:Str}{SX:QU}{RO:List Iy}{scope:Ke}{dV kV SN pm RF ct oc:Gr}{an od:Option GE}
  {Tr:Array (Option Gr)}{N ps:List Str}{sp:Sp} (lk:K.lookup f=some ⟨oc,od,.func (IV name RC SX RO scope dV kV SN pm an RF ct),Tr⟩) (R8:KC K RF RC=true) (S:aq N ps scope)
  (len:∀vs H Q E,sp vs H Q E->vs.length=ps.length)
  (Si:∀(A:Ha) (outer:List Env) (s:Gs) (H:Hp) (vs:List V) (Q:VK) (E:XK),bB k (A.deeper (JH RC scope s.heap.objs.size f RF))->sp vs H Q E->
   ∃t,jY (cR CX P w K mg base N RC scope f RF A outer s H E) RO t/\t {nx:=λ_ H'=>Q .non H',rt:=Q } (start N vs) H):
  eZ P w K mg base CX (k+1) f (IV name RC SX RO scope dV kV SN pm an RF ct) ps sp:=by
 refine⟨len,λA outer s H args us vs Q E k0 hr e0 hb r SH=>?_⟩
 have hl:=len _ _ _ _ SH;have KX:K.In s.heap:=e0.mod.kin.keeps λb o e=>(e0.bs b o e).1
 have lim:s.heap.NoLimit:=e0.mod.nolimit.keeps λb o e=>(e0.bs b o e).1
 have UE:∀y∈ps.zip us,scope.names.lookup y.1=some .local\/(scope.names.lookup y.1=some .cell/\((Oa (s.heap.objs.size+1) scope.names []).lookup y.1).isSome=true):=λ⟨n,v⟩ hy=>by
  rcases S.par n (L7 hy).1 with q |q
  ·exact .inl q
  ·exact .inr ⟨q,J8 _ _ _ (.inl q)⟩
 refine Nh hr.depth (KX _ _ lk) rfl S.co S.gen rfl (Ob KX R8) (hb _ _ _ _ ?_);refine xU k0 ?_;refine Mh S.kind UE λenv he s1 x k1=>?_
 subst he;refine⟨lim.keeps x.toInCall.keep,codeAny_func ?_⟩;obtain⟨t,ht,hq⟩:=Si A outer s H vs Q E (hr.deeper _) SH;have I:Inv (cR CX P w K mg base N RC scope f RF A outer s H E) [] (start N vs) H s1:=nt S hr.hd e0 hl r x;refine HC (ht [] s1 (start N vs) H _ k1 I hq) (λfl s' hs=>?_) λe s' hs=>hs
 have RR:∀{RK:St}{H':Hp}{v:V}{u:Gr},Inv (cR CX P w K mg base N RC scope f RF A outer s H E) [] RK H' s'->aU v u->Q v H'->CE outer P w H s Q u s':=
  λ{RK H' v u} J rv q=>⟨v,H',J.os,J.bare,J.base,J.hok,rv,q⟩
 cases fl with
 |ret u=>
  obtain⟨v,RK,H',J,rv,q⟩:=hs;exact RR J rv q
 |next=>
  obtain⟨RK,H',J,q⟩:=hs;exact RR (v:=V.non) (u:=GU) J rfl q
 |brk=>
  obtain⟨_,_,_,q⟩:=hs;exact False.elim q
 |cont=>
  obtain⟨_,_,_,q⟩:=hs;exact False.elim q
open PySem.W in
theorem Fun.okFT{P:GF}{w:G5}{K:Frag}{mg:Str->Option Gr}{base:H_}{x RC:Str}{st:Iy}{f:GE}{fd:Hw}{N ps:List Str}{k:Nat}{sp:Sp}(F:Fun K x RC st f fd)(S:aq N ps (ag st))(len:∀vs H Q E,sp vs H Q E->vs.length=ps.length)
  (Si:∀(RF:Gr) (A:Ha) (outer:List Env) (s:Gs) (H:Hp) (vs:List V) (Q:VK) (E:XK),bB k (A.deeper (JH RC (ag st) s.heap.objs.size f RF))->sp vs H Q E->
   ∃t,jY (cR (CXF P w) P w K mg base N RC (ag st) f RF A outer s H E) (bi st) t/\t {nx:=λ_ H'=>Q .non H',rt:=Q } (start N vs) H):eZ P w K mg base (CXF P w) (k+1) f fd ps sp:=by
 obtain⟨oc,od,kV,SN,pm,an,RF,ct,Tr,rfl,lk,R8⟩:=F.ex;exact DU lk R8 S len λA outer s H vs Q E hr SH=>Si RF A outer s H vs Q E hr SH
section
variable {tg:Expr}
theorem zD{l:Expr}{tl:TE}(hl:PEt X l tl):PIt X tg l (Cl X.K tl):=by
 intro pins s σ H R k0 I h;refine thn (hl pins s σ H _ k0 I h) λv s1 ⟨x,H1,I1,r1,q1⟩=>?_
 obtain⟨a,e,⟨xs,hq⟩,q⟩:=q1;subst e;cases r1;obtain⟨RB,rv,p,hz⟩:=I1.list hq;refine I_ p.isList ?_;refine⟨s1.heap.objs.size,[s1.heap.objs.size],_,_,H1,rfl,I1.kept (t':=s1.toks) λb o e=>Gu _ e,mU a _,⟨_,GH _ rfl,rfl,rfl⟩,λb hb=>?_,q⟩
 have e:b=s1.heap.objs.size:=by simpa using hb
 subst e;exact I1.fpOk (GA _) (I1.hok.fresh (GA _))
variable {e:Expr}{to:TE}{t:TA}{name:Str}{T id:String}{r:V→List V→Hp→VK→Prop}
theorem Ef(pa:QE T)(slot:Slot T name id)(Ua:QV (.builtin id)=pure (.type "method_descriptor"))(hm:MtR X id r)(ho:PEt X o to)(ha:PA X (e::es) t)
  (RS:HR o name X.env (HY o X.env)=HY o X.env:=by rfl)
  (Sw:((Hx RD (Gv (e::es) X.env)).all (λx=>!x.1) && (JA RD (HZ [] X.env)).all (λx=>x.1.isSome)
   && decide ((e::es).length+([]:List JP).length+(if ([]:List JP).isEmpty then 0 else 1)<30))=true:=by rfl)
  (RT:(RE.endLine==RD.line)=true:=by rfl) (hs:Gv (e::es) X.env=(false,HY e X.env)::Gv es X.env:=by rfl) (RY:(Hx RD (Gv es X.env)).any (·.1)=false:=by rfl):
  PEt X (.Call (.Attribute o name RE) (e::es) [] RD) (tBM X.K T r to t):=by
 intro pins s σ H Q k0 I h;refine Le RS Sw RT rfl (thn (ho pins s σ H _ k0 I h) λv s1 ⟨x,H1,I1,r1,ty,q1⟩=>?_)
 obtain⟨h1,h2⟩:=si I1 r1 ty;refine⟨T,id,pa,slot,Ua,h1,h2,?_⟩;have hA:=ha RD pins s1 σ H1 _ I1 q1;rw[hs]at hA |-;refine J9 (by show (false || (Hx RD (Gv es X.env)).any (·.1))=false;rw[RY] <;>rfl) (Kv ?_)
 exact thn hA λus s2 ⟨vs,H2,I2,r2,q2⟩=>hm pins s2 σ H2 x vs v us Q I2 r1 r2 q2
end
section
variable {σ:St}{s:Gs}
theorem w8{R6 iter tg:Expr}{scope:Ke}{cl:List (Str×GE)}{pos:Pos}{is:List Nat}{wi:TI}{g:TG}{te:TE}(hc:X.calm=true)(B:bQ X scope cl is)
  (hi:PIt X tg iter wi) (hg:∀C s H fp,PG (ap X scope cl C s H fp) tg g) (he:∀C s H fp,PE (ap X scope cl C s H fp) R6 te) (hs:∀x,Hg iter X.env x=pure x:=by intro _;rfl):
  PEt X (.ListComp R6 [⟨tg,iter,[],0⟩] scope pos) (pi is wi g te):=by
 intro pins s σ H Q k0 I h;rw[eval_ListComp];refine kT (use:=none) hc B hg he hs I (hi pins s σ H _ k0 I h) λl C H' s' m I' hn h1 h2 h3 h4 h5 h6 q=>⟨m,hn,λh' S6=>?_⟩
 exact⟨.ref l,H',I'.turned (t':=s'.toks) (λb o hb e=>S6.extBut b o hb e) h1 (Ne.symm h2.symm) (.inr h4) h5 h6,rfl,q⟩
end
def WsT(X:Cx)(H0:Hp)(O0:List GE)(E:XK)(ss:List Iy)(D:PD)(ps:PSt):Prop:=jY X ss λD' σ H=>Lf X.K H0 O0 E D D'/\∃O,Rs X.K H0 O0 ps σ H O
def W1t(X:Cx)(H0:Hp)(O0:List GE)(E:XK)(s:Iy)(D:PD)(ps:PSt):Prop:=oz X s λD' σ H=>Lf X.K H0 O0 E D D'/\∃O,Rs X.K H0 O0 ps σ H O
def Evt(X:Cx)(H0:Hp)(O0:List GE)(ps:PSt)(e:Expr)(u:U):Prop:=PEt X e λσ H Q=>∃O,Rs X.K H0 O0 ps σ H O/\∀v H',aH H H'->Rp X.K (hid H' O) v u->Q v H'
def pV(X:Cx)(H0:Hp)(O0:List GE)(ps:PSt)(e:Expr)(xs:List U):Prop:=PEt X e λσ H Q=>∃O,Rs X.K H0 O0 ps σ H O/\∀a vs H',aH H H'->H a=none->H' a=some (.lst vs)->Rps X.K (hid H' (a::O)) vs xs->Q (.ref a) H'
def Ev1(X:Cx)(H0:Hp)(O0:List GE)(ps:PSt)(e:Expr)(u:U):Prop:=PE1 X e λσ H Q=>∃O,Rs X.K H0 O0 ps σ H O/\∀v H',aH H H'->Rp X.K (hid H' O) v u->Q v H'
def Eg(X:Cx)(H0:Hp)(O0:List GE)(ps:PSt)(es:List Expr)(us:List U):Prop:=PA1 X es λσ H Q=>∃O,Rs X.K H0 O0 ps σ H O/\∀vs H',aH H H'->Rps X.K (hid H' O) vs us->Q vs H'
section
variable {ps Su:PSt}{s:Iy}{ss:List Iy}{a b c e:Expr}{p:Pos}{x y:U}{ys:List U}{n:Nat}{f d':GE}{RH:List U→Out→Prop}{nm:Str}
theorem F8(h:W1 X H0 O0 E s {D with nx:=λp=>WsT X H0 O0 E ss D p } ps):WsT X H0 O0 E (s::ss) D ps:=by
 have h2:jY X ss λD' σ H=>∃p,WsT X H0 O0 E ss D p/\Lf X.K H0 O0 E D D'/\∃O,Rs X.K H0 O0 p σ H O:=λpins s σ H D' k I ⟨p,w,l,r⟩=>w pins s σ H D' k I ⟨l,r⟩
 exact jY.mono (vK h h2) λD' σ H ⟨L,O,R⟩=>⟨⟨λp σ H O R q=>⟨p,q,L,O,R⟩,L.bk,L.ct,L.rt⟩,O,R⟩
theorem uV(h:W1t X H0 O0 E s {D with nx:=λp=>Ws X H0 O0 E ss D p } ps):WsT X H0 O0 E (s::ss) D ps:=by
 have h2:PSs X ss λD' σ H=>∃p,Ws X H0 O0 E ss D p/\Lf X.K H0 O0 E D D'/\∃O,Rs X.K H0 O0 p σ H O:=λpins s σ H D' I ⟨p,w,l,r⟩=>w pins s σ H D' I ⟨l,r⟩
 exact jY.mono (wK h h2) λD' σ H ⟨L,O,R⟩=>⟨⟨λp σ H O R q=>⟨p,q,L,O,R⟩,L.bk,L.ct,L.rt⟩,O,R⟩
theorem pV.ev(h:pV X H0 O0 ps e xs):Evt X H0 O0 ps e (.lst xs):=PEt.mono h λσ H Q ⟨O,R,q⟩=>⟨O,R,λa vs H' s n h' r=>by
 have na:a ∉ O:=λz=>R.dom a z n
 have r':=r.same (aI λb hb=>Gq a hb)
 exact q _ H' s (.lst (b4 h' na) r'.len r'.at_)⟩
theorem DI{i:Nat}{x:Str}{RN:Pos}(hN:X.N.Nodup)(hi:X.N[i]?=some x)(hx:Loc X.env.scope x)(he:Evt X H0 O0 ps e u)(h:D.nx (ps.set i (some (.val u))))(hs:Ip e (some (.Name x RN)) pos.line X.env=pure false:=by rfl)(hf:X.fn x=true\/X.env.scope.names.lookup x=some .local:=by first |exact .inl rfl |exact .inr rfl |assumption):
  W1t X H0 O0 E (.Assign [.Name x RN] e pos) D ps:=oz.mono (AZ hN hi hx he hs hf) λD' σ H ⟨L,O,R⟩=>⟨O,R,λv H' s r=>L.nx _ _ _ O ((R.go s).set r) h⟩
theorem BJ(he:pV X H0 O0 ps e xs)(h:D.rt (.new xs)):W1t X H0 O0 E (.Return (some e) pos) D ps:=
 oz.mono (Bn he) λD' σ H ⟨L,O,R⟩=>⟨O,R,λa vs H' s n q r=>L.rt _ h a vs H' (R.same.trans s) (R.same.free n) q (r.same (aI λb hb=>by
  rcases Gx.mp hb with y |y
  ·subst y;exact Gy
  ·exact Gq _ (R.old b y)))⟩
theorem A0(F:eZ X.prog X.w X.K X.mg X.base CX n f fd pn (spU X.K RH))(hr:bB n X.A)(hg:Gl X nm)(hm:X.mg nm=some (.ref f))(hk:HA X.K (.ref f)=true)(hb:bq X.K fd pn [])(hx:bj CX X E0)
  (ha:EvA X H0 O0 ps (e::es) us) (h:RH us (.new xs)) (Sr:(nm==("__debug__":Str))=false:=by decide) (he:Gv (e::es) X.env=(false,HY e X.env)::Gv es X.env:=by rfl) (R3:(Hx pos (Gv es X.env)).any (·.1)=false:=by rfl):
  pV X H0 O0 ps (.Call (.Name nm p) (e::es) [] pos) xs:=
 PEt.mono (zF F hr hg hm hk hb .nil hx ha Sr he R3) λσ H Q ⟨O,R,q⟩=>⟨O,R,λvs H1 s1 r1=>by
  show spU X.K RH (vs++[]) H1 Q _;rw[HE];exact⟨us,O,.new xs,(R.go s1).dom,r1,h,λa vs H2 s2 n2 h2 r2=>q a vs H2 (s1.trans s2) (s1.free n2) h2 r2⟩⟩
theorem lF(F:eZ X.prog X.w X.K X.mg X.base CX n f fd pn (spU X.K RH))(hr:bB n X.A)(hg:Gl X nm)(hm:X.mg nm=some (.ref f))(hk:HA X.K (.ref f)=true)(hb:bq X.K fd pn [])(hx:bj CX X E0)
  (ha:Eg X H0 O0 ps (e::es) us) (h:RH us (.new xs)) (Sr:(nm==("__debug__":Str))=false:=by decide) (he:Gv (e::es) X.env=(false,HY e X.env)::Gv es X.env:=by rfl) (R3:(Hx pos (Gv es X.env)).any (·.1)=false:=by rfl):
  EvN X H0 O0 ps (.Call (.Name nm p) (e::es) [] pos) xs:=
 PE.mono (yE F hr hg hm hk hb .nil hx ha Sr he R3) λσ H Q ⟨O,R,q⟩=>⟨O,R,λvs H1 s1 r1=>by
  show spU X.K RH (vs++[]) H1 Q _;rw[HE];exact⟨us,O,.new xs,(R.go s1).dom,r1,h,λa vs H2 s2 n2 h2 r2=>q a vs H2 (s1.trans s2) (s1.free n2) h2 r2⟩⟩
theorem wU{l:List Nat}{z:Str}{c:Nat}(ha:Evt X H0 O0 ps a (.str (T' l)))(hb:Ev X H0 O0 ps e (.str z))(Te:Gv [e] X.env=(false,HY e X.env)::Gv [] X.env)(hz:(T' l).length+2<=sizeLine)(hy:z=⟨#[c]⟩)
  (RS:HR a "split" X.env (HY a X.env)=HY a X.env:=by rfl)
  (Sw:((Hx RD (Gv [e] X.env)).all (λx=>!x.1) && (JA RD (HZ [] X.env)).all (λx=>x.1.isSome) && decide (([e]:List Expr).length+([]:List JP).length+(if ([]:List JP).isEmpty then 0 else 1)<30))=true:=by rfl)
  (RT:(RE.endLine==RD.line)=true:=by rfl) (RY:(Hx RD (Gv [] X.env)).any (·.1)=false:=by rfl):
  pV X H0 O0 ps (.Call (.Attribute a "split" RE) [e] [] RD) ((spl c l).map λp=>U.str (T' p)):=by
 subst hy;refine PEt.mono (Ef I0 Im Ll qu ha (bu hb cY Te) RS Sw RT Te RY) λσ H Q ⟨O,R,q⟩=>⟨O,R,λv H1 s1 r1=>?_⟩
 cases r1;refine⟨rfl,O,R.go s1,λw H2 s2 r2=>?_⟩
 cases r2;have e1:(Txt.split (T' l) ⟨#[c]⟩).map U.str=(spl c l).map λp=>U.str (T' p):=by rw[rM,G3];rfl
 refine⟨_,_,rfl,rfl,rfl,hz,λp hp=>q p _ _ ((s1.trans s2).trans (aT hp _)) ((s1.trans s2).free hp) aF ?_⟩
 rw[<-e1];exact lN _
theorem AE{tg iter R6:Expr}{scope:Ke}{cl:List (Str×GE)}{is:List Nat}{g:TG}{f:PSt->U->PSt}{dom:U->Prop}(hc:X.calm=true)(B:bQ X scope cl is)(hi:pV X H0 O0 ps iter xs)(hg:∀C s H fp,PG (ap X scope cl C s H fp) tg g)(gk:GOk g X.K is f dom)
  (RM:ys.length=xs.length) (hz:xs.length<=sizeLine) (SD:∀x∈xs,dom x) (he:∀C s H fp (i:Nat) (x y:U),xs[i]?=some x->ys[i]?=some y->Ev (ap X scope cl C s H fp) H0 O0 (f (cw is ps) x) R6 y)
  (hs:∀x,Hg iter X.env x=pure x:=by intro _;rfl):pV X H0 O0 ps (.ListComp R6 [⟨tg,iter,[],0⟩] scope pos) ys:=by
 have Tv:∀C s H fp,PE (ap X scope cl C s H fp) R6 λσ H Q=>∃i x y,xs[i]?=some x/\ys[i]?=some y/\∃O',Rs X.K H0 O0 (f (cw is ps) x) σ H O'/\∀v H',aH H H'->Rp X.K (hid H' O') v y->Q v H':=
  λC s H fp pins s' σ H' Q I ⟨i,x,y,h1,h2,z⟩=>he C s H fp i x y h1 h2 pins s' σ H' Q I z
 have RW:PIt X tg iter λσ H R=>∃O,Rs X.K H0 O0 ps σ H O/\∀J H',aH H H'->Yl X.K J (hid H' O) xs->R J H':=PIt.mono (zD hi.ev) λσ H Q ⟨O,R,q⟩=>⟨O,R,λv H' s r=>?_⟩
 ·refine PEt.mono (w8 hc B RW hg Tv hs) λσ H Q ⟨O,R,q⟩=>⟨O,R,λJ H1 s1 Y=>?_⟩
  exact jf gk (R.go s1) Y RM hz SD (λi x y σ H O' Q h1 h2 R' z=>⟨i,x,y,h1,h2,O',R',z⟩) λa vs H' s n h r=>q a vs H' (s1.trans s) (s1.free n) h r
 ·obtain⟨a,vs,rfl,hq,rs⟩:∃a vs,v=.ref a/\SqL X.K (hid H' O) a vs/\Rps X.K (hid H' O) vs xs:=by
   cases r with
   |lst hq hl hh=>exact⟨_,_,rfl,SqL.of hq,hl,hh⟩
  refine⟨a,rfl,⟨vs,aB.seq hq⟩,q _ H' s λH2 s2=>⟨λi hi=>?_,⟨vs,s2.seq hq,by rw[rs.len];exact GA _⟩⟩⟩
  have SA:i<vs.length:=by rw[rs.len];exact hi
  exact⟨⟨vs,vs[i],s2.seq hq,Gm SA⟩,λz H3 y=>⟨y.1,xs[i],Gm hi,rs.at_ i z _ (y.2 vs (s2.seq hq)) (Gm hi)⟩⟩
theorem oH{i:Nat}{w:Bool}{d C':GE}{kvs:List (Str×U)}{m xx:Str}{k:Nat}{UU:GE->List (Str×U)->List U->Out->Prop}{pl:Sem Bool}(hp:ps[i]?=some (some (.dsk w C' d' d kvs)))(hc:Cls X.K C')(hm:kF X.K C' m f)(F:aL X.prog X.w X.K X.mg X.base CX k f fd pn (spD X.K false C' UU))(hr:bB k X.A)(hb:bq X.K fd pn [])(hx:bj CX X E0)(ha:Eg X H0 O0 ps (e::es) us)(h:UU d kvs us (.val u))
  (TF:(m==("lands":Str))=false:=by decide) (hN:X.N[i]?=some xx:=by rfl) (hv:Vis X.env.scope xx:=by first |exact Or.inl rfl |exact Or.inr (Or.inl rfl) |exact Or.inr (Or.inr rfl)) (hd:(xx==("__debug__":Str))=false:=by decide) (R8:(xx==("__classdict__":Str))=false:=by decide)
  (R9:Gv (e::es) X.env=(false,HY e X.env)::Gv es X.env:=by rfl) (R3:(Hx pos (Gv es X.env)).any (·.1)=false:=by rfl)
  (ht:HY (.Call (.Attribute (.Name xx p) m RE) (e::es) [] pos) X.env=(do
   let ov <-HY (.Name xx p) X.env
   Mt RE.atName
   let (f,first) <-Ln [ov] (KB ov m pl)
   Mm pos f first (Hx pos (Gv (e::es) X.env)) (JA pos (HZ [] X.env))):=by rfl):
  Ev1 X H0 O0 ps (.Call (.Attribute (.Name xx p) m RE) (e::es) [] pos) u:=
 PE1.mono (BP (pl:=pl) (cy hN hv hd R8) hc hm F hr hb .nil hx ha R9 R3 ht) λσ H Q ⟨O,R,q⟩=>by
  obtain⟨v,h1,dx,kv,rfl,h3,h4,h5,h6,h7⟩:=R.at_ i _ hp;refine⟨_,h1,d',dx,_,rfl,h5,by rw[IA,TF];rfl,O,R,λvs H' s r=>?_⟩
  have sub:∀b∈d::O,b∈O:=λb hb=>by
   rcases Gx.mp hb with y |y
   ·subst y;exact h3
   ·exact y
  show spD X.K false C' UU (V.ref d'::(vs++[])) H' Q E0;rw[HE];exact⟨d',dx,d,kv,kvs,vs,us,O,.val u,rfl,s _ _ h5,s _ _ h6,(R.go s).dom,nofun,(h7.same (aD s)).same (aI sub),r.same (aI sub),h,λv H2 s2 r2=>q v H2 (s.trans s2) (r2.same (aI λb hb=>Gq _ hb))⟩
theorem qR{z:Str}{j:Nat}:Ev1 X H0 O0 ps (.Constant (.str z) j pos) (.str z):=PE1.mono D4 λσ H Q ⟨O,R,q⟩=>q (.str z) H (.refl H) (.str z)
theorem gF(ha:Ev1 X H0 O0 ps e u)(hr:EvA X H0 O0 ps es us)(hs:Gv (e::es) X.env=(false,HY e X.env)::Gv es X.env:=by rfl):Eg X H0 O0 ps (e::es) (u::us):=
 PA1.mono (zq ha hr hs) λσ H Q ⟨O,R,q⟩=>⟨O,R,λv H1 s1 r1=>⟨O,R.go s1,λvs H2 s2 r2=>q _ H2 (s1.trans s2) (.cons (r1.same (aD s2)) r2)⟩⟩
theorem Eo{x:Str}{z a b:Str}{i j2 j3:Nat}{p4 p5 p6 p7 p9:Pos}(hx:ps[i]?=some (some (.val (.str z))))(Uy:(a==b)=false)(hz:z.length+(z.length+1) *b.length<=16777216)
  (hN:X.N[i]?=some x:=by rfl) (hv:Vis X.env.scope x:=by first |exact Or.inl rfl |exact Or.inr (Or.inl rfl) |exact Or.inr (Or.inr rfl)) (hd:(x==("__debug__":Str))=false:=by decide) (R8:(x==("__classdict__":Str))=false:=by decide)
  (RS:HR (.Name x p4) "replace" X.env (HY (.Name x p4) X.env)=HY (.Name x p4) X.env:=by rfl)
  (Sw:((Hx p9 (Gv [.Constant (.str a) j2 p6,.Constant (.str b) j3 p7] X.env)).all (λx=>!x.1) && (JA p9 (HZ [] X.env)).all (λx=>x.1.isSome) && decide (([.Constant (.str a) j2 p6,.Constant (.str b) j3 p7]:List Expr).length+([]:List JP).length+(if ([]:List JP).isEmpty then 0 else 1)<30))=true:=by rfl)
  (RT:(p5.endLine==p9.line)=true:=by rfl):
  Evt X H0 O0 ps (.Call (.Attribute (.Name x p4) "replace" p5) [.Constant (.str a) j2 p6,.Constant (.str b) j3 p7] [] p9) (.str (Txt.replace z a b)):=by
 intro pins s σ H Q k0 I ⟨O,R,q⟩;obtain⟨v2,g2,r2⟩:=R.at_ i _ hx;cases r2;refine Le RS Sw RT rfl (vL I hN hv hd R8 g2 λw2 q2=>?_)
 obtain⟨t2,rfl⟩:=q2;refine⟨"str",_,I0,PySem.F.slot_str_replace,PySem.F.type_str_replace,QD _ _ _,λa e=>(nomatch e),?_⟩
 rw[show Gv [.Constant (.str a) j2 p6,.Constant (.str b) j3 p7] X.env=(false,HY (.Constant (.str a) j2 p6) X.env)::Gv [.Constant (.str b) j3 p7] X.env from ay]
 rw[show Gv [.Constant (.str b) j3 p7] X.env=(false,HY (.Constant (.str b) j3 p7) X.env)::Gv [] X.env from ay]
 refine J9 rfl (Kv ?_);refine Ik ?_;refine KZ (k:=j2) (pos:=p6) ?_;refine Ik ?_;refine KZ (k:=j3) (pos:=p7) ?_;refine Jo ?_;refine SC.replace (by show s.toks≠0;lia) (by show s.toks+1≠0;lia) (by show s.toks≠s.toks+1;lia) Uy hz λt' m=>?_
 exact⟨.str (Txt.replace z a b),H,I.tok m,⟨_,rfl⟩,q (.str _) H (.refl H) (.str _)⟩
end
section
variable {w:G5}{K:Gn}{mg:Str→Option Gr}{base:H_}{N:List Str}{nm:Str}{scope:Ke}{f:GE}{cd:Gr}{A:Ha}{outer:List Env}{s:Gs}{ps:PSt}
theorem Ac{st:Iy}{fd:Hw}{k:Nat}{RH:List U->Out->Prop}(F:Fun K nm RC st f fd)(S:aq N pn (ag st))(len:∀us o,RH us o->us.length=pn.length)
  (Si:∀(RF:Gr) (A:Ha) (outer:List Env) (s:Gs) (H:Hp) (E:XK) (O:List GE) (us:List U) (o:Out),bB k (A.deeper (JH RC (ag st) s.heap.objs.size f RF))->RH us o->
   WsT (cR (CXF P w) P w K mg base N RC (ag st) f RF A outer s H E) H O E (bi st) ⟨λ_=>o=.val .non,λo'=>o'=o,λ_=>False,λ_=>False⟩ (dB N us)):eZ P w K mg base (CXF P w) (k+1) f fd pn (spU K RH):=by
 refine F.okFT S (λvs H Q E h=>?_) λRF A outer s H vs Q E hr h=>?_
 ·obtain⟨us,O,o,_,r,SH,_⟩:=h;rw[r.len];exact len us o SH
 ·obtain⟨us,O,o,d,r,SH,q⟩:=h;refine⟨_,Si RF A outer s H E O us o hr SH,⟨λps σ H' O' R e=>?_,λ_ _ _ _ _ e=>e.elim,λ_ _ _ _ _ e=>e.elim,λo' e=>by subst e;exact q⟩,O,?_⟩
  ·subst e;exact q .non H' R.same .non
  ·refine⟨.refl H,λa h=>h,λa h=>.inl h,d,?_,λi sl e=>?_,λi j xs ys a e1 e2 _ _=>?_⟩
   ·unfold start dB;rw[Hb,Hb,Gp,Gp,HN,HN,r.len]
   ·unfold dB at e;by_cases hi:i<us.length
    ·rw[GG (by simpa using hi),Gz,Gm hi]at e
     cases e;obtain⟨v,h1,h2⟩:=r.get (Gm hi);refine⟨v,?_,h2⟩;unfold start;rw[GG (by simpa [r.len] using hi),Gz,h1];rfl
    ·rw[GK (by simpa using hi),HG]at e
     split at e <;>cases e
   ·exfalso
    unfold dB at e1;by_cases hi:i<us.length
    ·rw[GG (by simpa using hi),Gz,Gm hi]at e1
     cases e1
    ·rw[GK (by simpa using hi),HG]at e1
     split at e1 <;>cases e1
end
theorem A_{X:Cx}{H0:Hp}{O0:List GE}{ps:PSt}{a b c:Expr}{x y z:U}{k m:Bool}{pos:Pos}{op TU:Ox}(ho:OpS X (Hh op) x y (.bl k))(S9:OpS X (Hh TU) y z (.bl m))(ha:Ev X H0 O0 ps a x)(hb:Ev X H0 O0 ps b y)(hc:Ev X H0 O0 ps c z)
  (hm:Ph [op,TU] [b,c]=false:=by with_unfolding_all rfl):Tt X H0 O0 ps (.Compare a [op,TU] [b,c] pos) (k && m):=
 PT.mono (xt ho S9 ha hb hc hm) λσ H Q ⟨O,R,q⟩=>⟨O,R,λv1 H1 s1 r1=>⟨O,R.go s1,λv2 H2 s2 r2=>⟨(r1.same (aD s2)).out,r2.out,k,rfl,by
  cases k with
  |false=>exact jV ⟨_,rfl,q H2 (s1.trans s2)⟩
  |true=>exact mm ⟨O,(R.go s1).go s2,λv3 H3 s3 r3=>⟨(r2.same (aD s3)).out,r3.out,_,rfl,q H3 ((s1.trans s2).trans s3)⟩⟩⟩⟩⟩
theorem Ek{X:Cx}{x y:Str}:OpS X (Hh .NotIn) (.str x) (.str y) (.bl (!(!(Builtin.Str.occurrences y x 0 y.length 1).isEmpty))):=by
 intro pins s σ H v w p q Q I r1 r2 h;obtain⟨k1,k2,k3⟩:=h;cases k1;cases k2;obtain⟨t,rfl⟩:=r1;obtain⟨t',rfl⟩:=r2;exact PyProof.Rows.notIn_str ⟨.bl _,H,I,rfl,k3⟩
theorem iY{X:Cx}{H0:Hp}{O0:List GE}{ps TM:PSt}{e:Expr}{c c':Bool}(h:c=c')(t:TtK X H0 O0 ps e c TM):TtK X H0 O0 ps e c' TM:=h ▸ t
theorem yj{X:Cx}{H0:Hp}{O0:List GE}{ps:PSt}{e:Expr}{u u':U}(h:u=u')(t:Evt X H0 O0 ps e u):Evt X H0 O0 ps e u':=h ▸ t
end L2
namespace L2
open PySem PySem.Spec PySem.W PyProof.Rows
structure Dfn(K:Gn)(mg:Str->Option Gr)(x:Str)(st:Iy)(ps:List Str) where
 a:GE
 d:Hw
 F:Fun K x x st a d
 b:bq K d ps []
 m:mg x=some (.ref a)
structure DfD(K:Gn)(mg:Str->Option Gr)(x:Str)(st:Iy)(ps:List Str)(j:Int) where
 a:GE
 d:Hw
 D:GE
 F:y_ K x x st a d D
 b:bq K d ps []
 bd:∃t,bq K d ps [.int j t]
 m:mg x=some (.ref a)
structure MDf(K:Gn)(C:GE)(x q:Str)(st:Iy)(ps:List Str) where
 a:GE
 d:Hw
 F:Fun K x q st a d
 b:bq K d ps []
 m:kF K C x a
structure IDf(K:Gn)(C:GE)(x q:Str)(st:Iy)(ps:List Str) where
 a:GE
 d:Hw
 F:Fun K x q st a d
 b:bq K d ps []
 m:Mk K C a
structure Exn(mg:Str->Option Gr)(x:Str) where
 c:GE
 m:mg x=some (.ref c)
abbrev qY(x q:Str)(st:Iy)(ps:List Str):Prop:=∀(kV SN pm:Gr) (an:Option GE) (RF ct:Gr) (us:List Gr),us.length=ps.length->Ml (fnOf x q (bR st) (bi st) (ag st) .none kV SN pm an RF ct) ⟨us,[]⟩=pure (ps.zip us)
section
variable {K:Gn}{h:H_}{mg:Str→Option Gr}{x q:Str}{st:Iy}{ps:List Str}{f C D:GE}{j:Int}{oc:Gr}{od an:Option GE}{kV dc pm cd ct:Gr}{sl:Array (Option Gr)}{x1 x2 x3 t:_}
def dfn(X:K.In h)(G:h.Ns HB mg)(hb:qY x x st ps)(a:nsIn K HB x=some (some (.ref f)))(l:K.lookup f=some ⟨oc,od,.func (fnOf x x (bR st) (bi st) (ag st) .none kV dc pm an cd ct),sl⟩)(c:codeIn K cd x=true)(k:keepIn K (.ref f)=true):Dfn K mg x st ps:=⟨f,_,jm l c k,(jm l c k).binds hb,mg_of X G a⟩
def dfD(X:K.In h)(G:h.Ns HB mg)(hb:K.lookup D=some ⟨.type "tuple",x1,.seq #[.int j t] x2,x3⟩→∀(kV dc pm:Gr) (an:Option GE) (cd ct:Gr),bq K (fnOf x x (bR st) (bi st) (ag st) (.ref D) kV dc pm an cd ct) ps []∧∃t,bq K (fnOf x x (bR st) (bi st) (ag st) (.ref D) kV dc pm an cd ct) ps [.int j t])(a:nsIn K HB x=some (some (.ref f)))(l:K.lookup f=some ⟨oc,od,.func (fnOf x x (bR st) (bi st) (ag st) (.ref D) kV dc pm an cd ct),sl⟩)(c:codeIn K cd x=true)(k:keepIn K (.ref f)=true)(q:K.lookup D=some ⟨.type "tuple",x1,.seq #[.int j t] x2,x3⟩):DfD K mg x st ps j:=⟨f,_,D,Bo l c k,(hb q kV dc pm an cd ct).1,(hb q kV dc pm an cd ct).2,mg_of X G a⟩
def mdf(hb:qY x q st ps)(a:findIn K (.ref C) x=some (some (.ref f)))(l:K.lookup f=some ⟨oc,od,.func (fnOf x q (bR st) (bi st) (ag st) .none kV dc pm an cd ct),sl⟩)(c:codeIn K cd q=true)(k:keepIn K (.ref f)=true)(n:isFn K (.ref f)=true):MDf K C x q st ps:=⟨f,_,jm l c k,(jm l c k).binds hb,⟨a,n,k⟩⟩
def idf(hb:qY "__init__" q st ps)(a:findIn K (.ref C) "__init__"=some (some (.ref f)))(l:K.lookup f=some ⟨oc,od,.func (fnOf "__init__" q (bR st) (bi st) (ag st) .none kV dc pm an cd ct),sl⟩)(c:codeIn K cd q=true)(k:keepIn K (.ref f)=true)(n:isFn K (.ref f)=true)(cg:makesIn K C=true)(ch:keepIn K (.ref C)=true):IDf K C "__init__" q st ps:=⟨f,_,jm l c k,(jm l c k).binds hb,⟨cg,a,n,ch⟩⟩
def exn(X:K.In h)(G:h.Ns HB mg)(a:nsIn K HB x=some (some (.ref f))):Exn mg x:=⟨f,mg_of X G a⟩
theorem c_m(X:K.In h)(G:h.Ns HB mg)(a:nsIn K HB x=some (some (.ref f))):mg x=some (.ref f):=mg_of X G a
theorem g_i{t:_}(X:K.In h)(G:h.Ns HB mg)(a:nsIn K HB x=some (some (.int j t))):∃t,mg x=some (.int j t):=⟨t,mg_of X G a⟩
theorem g_s{t:_}(X:K.In h)(G:h.Ns HB mg)(a:nsIn K HB x=some (some (.str q t))):∃t,mg x=some (.str q t):=⟨t,mg_of X G a⟩
end
end L2
namespace SG
open PySem PySem.W PySem.Calls PyProof.Rows ST
abbrev rfs{α:Type}(pb:List (α×GE)):List Gr:=pb.map λp=>GR p.2
structure Ky(α:Type) where
 lt:α->α->Bool
 tr:∀{a b c:α},lt a b=true->lt b c=true->lt a c=true
 tot:∀{a b:α},a≠b->lt a b=false->lt b a=true
 asy:∀{a b:α},lt a b=true->lt b a=false
 is:GF->G5->H_->α->GE->Prop
 kd:Om
 grow:∀{prog:GF}{w:G5}{h h':H_}{a:α}{b:GE},is prog w h a b→(∀b o,o.cls=.type "tuple"→h.get? b=some o→h'.get? b=some o)→is prog w h' a b
 ask:∀{prog:GF}{w:G5}{A:Ha}{E:Gr->Gs->Prop}{s:Gs}{x y:GE}{a b:α}{Q:Bool->Gs->Prop},A.units+1<Ku->is prog w s.heap a x->is prog w s.heap b y->Q (lt a b) s->GQ (G1 prog w) A (keyLt' kd (.ref x) (.ref y)) Q E s
 kind:∀{prog:GF}{w:G5}{A:Ha}{E:Gr->Gs->Prop}{s:Gs}{pb:List (α×GE)}{Q:Om->Gs->Prop},(∀p∈pb,is prog w s.heap p.1 p.2)->0<pb.length->Q kd s->GQ (G1 prog w) A (keyKind' (rfs pb).toArray) Q E s
section
variable {α:Type} [DecidableEq α] (S:Ky α)
def ins(x:α):List α->List α
 |[]=>[x]
 |y::r=>if x=y then y::r else if S.lt x y=true then x::y::r else y::ins x r
def srt(l:List α):List α:=l.foldr (ins S) []
abbrev Asc(l:List α):Prop:=l.Pairwise (λx y=>S.lt x y=true)
end
end SG
namespace ST3
open PySem PySem.W PySem.Calls PyProof.Rows ST
abbrev PQ:=(Int×Int)×Int
section
variable {prog:GF}{w:G5}{A:Ha}{E:Gr→Gs→Prop}{s:Gs}
def TQ(prog:GF)(w:G5)(h:H_)(t:PQ)(b:GE):Prop:=∃o items n a1 u,h.get? b=some o∧o.cls=.type "tuple"∧o.data=.seq items n∧items.toList=[.ref a1,.int t.2 u]∧TK prog w h (lq t.1) a1
end
end ST3
namespace L2
open PySem PySem.Spec PySem.W PyProof.Rows
variable {es:List Expr}{kvs:List (Str×U)}{Th:List (Str×U)}{RH:GE→List (Str×U)→List U→Out→Prop}
section
variable {X:Cx}{H0:Hp}{O0:List GE}{E:XK}{ps:PSt}{D:PD}{e:Expr}{pos p RE:Pos}{u:U}{us:List U}{x m nm:Str}{w:Bool}{C C' a d f:GE}{i k:Nat}{fd:Hw}{pn:List Str}{CX:CXT}{nx:PSt→Prop}{ex:PSt→GE→Prop}{rest:List Iy}
theorem Ar{pl:Sem Bool}{sp:Sp}{ta:TA}{t2}{RD UW:Pos}(c:Cls X.K C)(hm:kF X.K C m f)(F:aL X.prog X.w X.K X.mg X.base (CXF X.prog X.w) k f fd pn sp)(hr:bB k X.A)(hb:bq X.K fd pn [])(ha:PA X.nox (e::es) ta)(h2:TB X rest t2)
  (hN:X.N[i]?=some x) (hv:Vis X.env.scope x) (hd:(x==("__debug__":Str))=false:=by decide) (R8:(x==("__classdict__":Str))=false:=by decide)
  (R9:Gv (e::es) X.env=(false,HY e X.env)::Gv es X.env:=by rfl) (R3:(Hx RD (Gv es X.env)).any (·.1)=false:=by rfl)
  (ht:HY (.Call (.Attribute (.Name x p) m RE) (e::es) [] RD) X.env=(do
   let ov <-HY (.Name x p) X.env
   Mt RE.atName
   let (f,first) <-Ln [ov] (KB ov m pl)
   Mm RD f first (Hx RD (Gv (e::es) X.env)) (JA RD (HZ [] X.env))):=by rfl)
  (Tu:Ip (.Call (.Attribute (.Name x p) m RE) (e::es) [] RD) none UW.line X.env=pure false:=by rfl):
  TB X (.Expr (.Call (.Attribute (.Name x p) m RE) (e::es) [] RD) UW::rest) (λN EX σ H=>∃v,σ[i]?=some (some v)/\∃a dx fs,v=.ref a/\H a=some (.ins C dx fs)/\fs.lookup m=none/\ta σ H λvs H1=>sp (.ref a::vs) H1 (λ_ H2=>t2 N EX σ H2) (EX σ)):=by
 intro pins s σ H N EX Q E' I h q xx;refine KH (PV ?_ I.quiet Tu);obtain⟨v,hv1,a,dx,fs,rfl,ea0,l,q0⟩:=h;refine LD (pl:=pl) (HC (cy (X:=X.nox) hN hv hd R8 pins s σ H (λv H1=>v=.ref a/\H1=H) (I.wish _) ⟨.ref a,hv1,rfl,rfl⟩) (λu s1 ⟨xv,H1,I1,rx,e1,e2⟩=>?_) λ_ _ z=>z.elim) ht
 subst e1 e2;obtain rfl:u=GR a:=rx;have J1:Inv X pins σ H1 s1:=I1.unwish;refine il J1 ea0 c hm l ?_;refine JG (first:=[.ref a]) (h₀:=X.base) I.ok.mod.kin hm.kp (HC (ha RD pins s1 σ H1 _ (J1.wish _) q0) (λus s2 ⟨vs,H2,I2,r,q2⟩=>⟨I2.kIn,?_⟩) λ_ _ z=>z.elim) R9 R3
 have J2:Inv X pins σ H2 s2:=I2.unwish;have r':aK (V.ref a::vs) (GR a::us):=.cons rfl r;have RM:(GR a::us).length=pn.length:=by rw[<-r'.length];exact F.len _ _ _ _ q2
 have hbd:=hb s2 (.ref a::us) J2.kIn (by rw[HE];exact RM)
 rw[HE]at hbd;refine LY (JV (F.run X.A X.stack s2 H2 ⟨.ref a::us,[]⟩ (.ref a::us) (.ref a::vs) _ _ hr J2.env0 hbd r' q2) λres s' hq=>?_)
 cases res with
 |ok fl=>
  cases fl with
  |ret u=>
   obtain⟨v,H3,I3,_,q3⟩:=J2.after hq;exact h2 pins s' σ H3 N EX Q E' I3 q3 q xx
  |next=>exact False.elim hq
  |brk=>exact False.elim hq
  |cont=>exact False.elim hq
 |error ev=>exact xx σ s2 H2 ev s' J2 hq
theorem Cu{pl:Sem Bool}{RD UW:Pos}(hp:ps[i]?=some (some (.dsk w C a d kvs)))(hc:Cls X.K C)(hm:kF X.K C m f)(F:aL X.prog X.w X.K X.mg X.base (CXF X.prog X.w) k f fd pn (spD X.K false C RH))(hr:bB k X.A)(hb:bq X.K fd pn [])(ha:EvA X.nox H0 O0 ps (e::es) us)(SH:RH d kvs us (.exc C'))(h:ex ps C')
  (TF:(m==("lands":Str))=false:=by decide) (hN:X.N[i]?=some x:=by rfl) (hv:Vis X.env.scope x:=by first |exact Or.inl rfl |exact Or.inr (Or.inl rfl) |exact Or.inr (Or.inr rfl)) (hd:(x==("__debug__":Str))=false:=by decide) (R8:(x==("__classdict__":Str))=false:=by decide)
  (R9:Gv (e::es) X.env=(false,HY e X.env)::Gv es X.env:=by rfl) (R3:(Hx RD (Gv es X.env)).any (·.1)=false:=by rfl)
  (ht:HY (.Call (.Attribute (.Name x p) m RE) (e::es) [] RD) X.env=(do
   let ov <-HY (.Name x p) X.env
   Mt RE.atName
   let (f,first) <-Ln [ov] (KB ov m pl)
   Mm RD f first (Hx RD (Gv (e::es) X.env)) (JA RD (HZ [] X.env))):=by rfl)
  (Tu:Ip (.Call (.Attribute (.Name x p) m RE) (e::es) [] RD) none UW.line X.env=pure false:=by rfl):
  Tb X H0 O0 (.Expr (.Call (.Attribute (.Name x p) m RE) (e::es) [] RD) UW::rest) nx ex ps:=
 TB.mono (Ar (pl:=pl) (t2:=λ_ _ _ _=>False) hc hm F hr hb ha (λ_ _ _ _ _ _ _ _ _ h=>h.elim) hN hv hd R8 R9 R3 ht Tu) λN EX σ H ⟨_,b,O,R⟩=>by
  obtain⟨v,h1,dx,kv,rfl,h3,h4,h5,h6,h7⟩:=R.at_ i _ hp;refine⟨_,h1,a,dx,_,rfl,h5,by rw[IA,TF];rfl,O,R,λvs H' s r=>?_⟩
  have sub:∀b∈d::O,b∈O:=λb hb=>by
   rcases Gx.mp hb with y |y
   ·subst y;exact h3
   ·exact y
  exact⟨a,dx,d,kv,kvs,vs,us,O,.exc C',rfl,s _ _ h5,s _ _ h6,(R.go s).dom,nofun,(h7.same (aD s)).same (aI sub),r.same (aI sub),SH,λH2 s2=>b _ _ _ O C' (R.go (s.trans s2)) h⟩
theorem tT{px:Pos}(hp:ps[i]?=some (some (.dsk w C a d kvs)))(F:aL X.prog X.w X.K X.mg X.base CX k f fd pn (spD X.K false C RH))(hr:bB k X.A)(hg:Gl X nm)(hm:X.mg nm=some (.ref f))(hk:HA X.K (.ref f)=true)(hb:bq X.K fd pn [])(hx:bj CX X E0)(ha:EvA X H0 O0 ps (e::es) us)(h:RH d kvs us (.val u))
  (hN:X.N[i]?=some x:=by rfl) (hv:Vis X.env.scope x:=by first |exact Or.inl rfl |exact Or.inr (Or.inl rfl) |exact Or.inr (Or.inr rfl)) (hd:(x==("__debug__":Str))=false:=by decide) (R8:(x==("__classdict__":Str))=false:=by decide)
  (Sr:(nm==("__debug__":Str))=false:=by decide) (he:Gv (.Name x px::e::es) X.env=(false,HY (.Name x px) X.env)::Gv (e::es) X.env:=by rfl) (R3:(Hx pos (Gv (e::es) X.env)).any (·.1)=false:=by rfl):
  Ev X H0 O0 ps (.Call (.Name nm p) (.Name x px::e::es) [] pos) u:=
 PE.mono (gD F hr hg hm hk hb .nil hx (bu (cy hN hv hd R8) ha he) Sr he R3) λσ H Q ⟨O,R,q⟩=>by
  obtain⟨v,h1,dx,kv,rfl,h3,h4,h5,h6,h7⟩:=R.at_ i _ hp;refine⟨_,h1,O,R,λvs H' s r=>?_⟩
  have sub:∀b∈d::O,b∈O:=λb hb=>by
   rcases Gx.mp hb with y |y
   ·subst y;exact h3
   ·exact y
  show spD X.K false C RH (V.ref a::(vs++[])) H' Q E0;rw[HE];exact⟨a,dx,d,kv,kvs,vs,us,O,.val u,rfl,s _ _ h5,s _ _ h6,(R.go s).dom,nofun,(h7.same (aD s)).same (aI sub),r.same (aI sub),h,λv H2 s2 r2=>q v H2 (s.trans s2) (r2.same (aI λb hb=>Gq _ hb))⟩
end
section
variable {X:Cx}{E:XK}
theorem pH{R6 iter tg:Expr}{scope:Ke}{cl:List (Str×GE)}{pos Ss py:Pos}{y:Str}{j:Nat}{is:List Nat}{wi:TI}{g:TG}{te:TE}(hc:X.calm=true)(SW:X.stack=X.env::X.outer)(Uj:X.env.frame=some X.env.locals)(hx:iH X E)(hex:X.ex=[])(hN:X.N.Nodup)(hj:X.N[j]?=some y)(hy:Loc X.env.scope y)(B:bQ X scope cl is)
  (hi:PI X tg iter wi) (hg:∀C s H fp,PG (ap X scope cl C s H fp) tg g) (he:∀C s H fp EE,bj (CXF X.prog X.w) ((ap X scope cl C s H fp).wish EE) E->PE ((ap X scope cl C s H fp).wish EE) R6 te) (hs:∀x,Hg iter X.env x=pure x:=by intro _;rfl)
  (Tu:Ip (.ListComp R6 [⟨tg,iter,[],0⟩] scope pos) (some (.Name y py)) Ss.line X.env=pure true:=by rfl) (hf:X.fn y=true\/X.env.scope.names.lookup y=some .local:=by first |exact .inl rfl |exact .inr rfl |assumption):
  PS X (.Assign [.Name y py] (.ListComp R6 [⟨tg,iter,[],0⟩] scope pos) Ss) (vf (pi is wi g te) (jE j)):=by
 intro pins s σ H D I h;rw[LF _ _ _ _ Tu];refine Gk (Km (Gk ?_));show GQ _ X.A (do let _ <-K6 (.ListComp R6 [⟨tg,iter,[],0⟩] scope pos) scope X.env _ (Pq []) false (HY iter X.env) (some (M0 (.Name y py) X.env))) _ _ s
 refine Gk (HC (vv (Q0:=λv H'=>D.nx (σ.set j (some v)) H') (use:=some (M0 (.Name y py) X.env)) (Q:=λ_ s'=>SP X pins D .next s') hc SW Uj hx hex B hi hg he hs I h λl C H' s' m I' hn h1 h2 h3 h4 h5 h6 q=>?_) (λ_ s' hq=>Gw (Gw hq)) λ_ _ e=>e)
 show GQ _ X.A (M0 (.Name y py) X.env (.ref l)) _ _ _;refine Lo (eY I' hN hj hy (v:=.ref l) rfl (λs2 I2 ⟨a,S6,ha⟩=>?_) hf)
 have hCa:C≠a:=by
  rcases ha with e |e
  ·rw[e];exact h2
  ·exact Ne.symm (h5 _ _ e)
 refine⟨m,hn.sameBut S6 hCa,λh' TX=>⟨_,H',I2.turned (t':=s2.toks) (λb o hb e=>TX.extBut b o hb e) h1 h2 (.inr h4) h5 h6,q⟩⟩
variable {H0:Hp}{O0:List GE}{ps:PSt}{D:PD}{iter tg R6 e e0:Expr}{pos p RE:Pos}{u:U}{xs ys us:List U}{x m nm:Str}{w:Bool}{C C' C0 a d f:GE}{i k:Nat}{fd:Hw}{pn:List Str}{CX:CXT}
theorem rD{scope:Ke}{cl:List (Str×GE)}{Ss py:Pos}{y:Str}{j:Nat}{is:List Nat}{g:TG}{f:PSt->U->PSt}{dom:U->Prop}{k:Nat}(hc:X.calm=true)(SW:X.stack=X.env::X.outer)(Uj:X.env.frame=some X.env.locals)(hx:iH X E)(hex:X.ex=[])(hN:X.N.Nodup)(hj:X.N[j]?=some y)(hy:Loc X.env.scope y)(B:bQ X scope cl is)
  (hi:EvZ X H0 O0 ps tg iter xs) (hg:∀C s H fp,PG (ap X scope cl C s H fp) tg g) (gk:GOk g X.K is f dom) (hk:k<xs.length) (RM:k<=ys.length) (hz:xs.length<=sizeLine) (SD:∀x∈xs,dom x)
  (he:∀C s H fp EE (i:Nat) (x y:U),i<k->xs[i]?=some x->ys[i]?=some y->Ev ((ap X scope cl C s H fp).wish EE) H0 O0 (f (cw is ps) x) R6 y)
  (hv:∀C s H fp EE (x:U),xs[k]?=some x->bj (CXF X.prog X.w) ((ap X scope cl C s H fp).wish EE) E->Xv ((ap X scope cl C s H fp).wish EE) H0 O0 E (f (cw is ps) x) R6 C0)
  (h:D.rt (.exc C0)) (hs:∀x,Hg iter X.env x=pure x:=by intro _;rfl)
  (Tu:Ip (.ListComp R6 [⟨tg,iter,[],0⟩] scope pos) (some (.Name y py)) Ss.line X.env=pure true:=by rfl) (hf:X.fn y=true\/X.env.scope.names.lookup y=some .local:=by first |exact .inl rfl |exact .inr rfl |assumption):
  W1 X H0 O0 E (.Assign [.Name y py] (.ListComp R6 [⟨tg,iter,[],0⟩] scope pos) Ss) D ps:=by
 have Tv:∀C s H fp EE,bj (CXF X.prog X.w) ((ap X scope cl C s H fp).wish EE) E->PE ((ap X scope cl C s H fp).wish EE) R6 (λσ H Q=>(∃i x y,i<k/\xs[i]?=some x/\ys[i]?=some y/\∃O',Rs X.K H0 O0 (f (cw is ps) x) σ H O'/\∀v H',aH H H'->Rp X.K (hid H' O') v y->Q v H')\/∃x,xs[k]?=some x/\∃O',Rs X.K H0 O0 (f (cw is ps) x) σ H O'/\∀H',aH H H'->E (.ref C0) none H'):=by
  intro C s H fp EE pa pins s' σ H' Q I h;rcases h with ⟨i,x,y,h1,h2,h3,z⟩ |⟨x,h1,z⟩
  ·exact he C s H fp EE i x y h1 h2 h3 pins s' σ H' Q I z
  ·exact hv C s H fp EE x h1 pa pins s' σ H' Q I z
 refine PS.mono (pH hc SW Uj hx hex hN hj hy B hi hg Tv hs Tu hf) λD' σ H ⟨L,O,R⟩=>⟨O,R,λJ H1 s1 Y=>?_⟩
 have R1:=R.go s1;intro l hl;refine⟨λi m H2=>m=xs.length-i/\i<=k/\aH H1 H2/\∃vs,H2 l=some (.lst vs)/\vs.length=i/\Rps X.K (hid H2 (l::O)) vs (ys.take i),⟨_,rfl,Hf _,aT hl _,[],aF,rfl,by rw[KD];exact .nil⟩,?_⟩
 rintro i m H2 ⟨rfl,hi,s2,vs,h2,hv,rs⟩;have seen:aH (hid H1 O) (hid H2 (l::O)):=bh s2 hl;obtain⟨y1,y2⟩:=Y H2 (seen.trans aB);obtain⟨g1,g2⟩:=y1 i (by lia)
 refine .inr ⟨g1,λx H3 y=>?_⟩
 obtain⟨s3,u,hu,r⟩:=g2 x H3 y;have R2:=((R1.mask (is:=is)).hide s2 hl (by rw[h2];intro z;cases z)).go s3
 have h3:=s3 _ _ h2;refine gk H0 O0 _ _ H3 (l::O) x u _ (SD u (GJ hu)) R2 (r (l::O) (λb hb z=>by rcases Gx.mp hb with k |k;(rw[k,h2]at z;cases z);exact R1.dom b k (s2.free z)) seen) λUc R4 keep=>?_
 by_cases hik:i<k
 ·have hy:ys[i]?=some (ys[i]'(by lia)):=Gm _
  refine .inl ⟨i,u,_,hik,hu,hy,l::O,R4,λv H5 s5 r5=>⟨λj w e=>keep j w (eS is σ j w e).2 e,vs,s5 _ _ h3,?_,xs.length-(i+1),by lia,rfl,hik,((s2.trans s3).trans s5).put hl _,vs++[v],aF,by simp[hv],?_⟩⟩
  ·rw[hv];lia
  ·rw[gC Gy,IR,hy];exact ((rs.same (aD s3)).same (aD s5)).snoc (.cons r5 .nil)
 ·have e:i=k:=by lia
  subst e;exact .inr ⟨u,hu,l::O,R4,λH' s'=>L.rt _ h H' (R.same.trans (((s1.trans s2).trans s3).trans s'))⟩
theorem Ej{pl:Sem Bool}{u0:U}(hp:ps[i]?=some (some (.dsk w C a d kvs)))(hc:Cls X.K C)(hm:kF X.K C m f){ww:Bool}(F:aL X.prog X.w X.K X.mg X.base CX k f fd pn (spD X.K ww C RH))(hr:bB k X.A)(hb:bq X.K fd pn [])(hx:bj CX X E0)(h0:Ev X H0 O0 ps e0 u0)(h:Xv X H0 O0 E ps e C')
  (TF:(m==("lands":Str))=false:=by decide) (hN:X.N[i]?=some x:=by rfl) (hv:Vis X.env.scope x:=by first |exact Or.inl rfl |exact Or.inr (Or.inl rfl) |exact Or.inr (Or.inr rfl)) (hd:(x==("__debug__":Str))=false:=by decide) (R8:(x==("__classdict__":Str))=false:=by decide)
  (hst0:Gv (e0::e::es) X.env=(false,HY e0 X.env)::Gv (e::es) X.env:=by rfl) (R9:Gv (e::es) X.env=(false,HY e X.env)::Gv es X.env:=by rfl) (R3:(Hx pos (Gv (e::es) X.env)).any (·.1)=false:=by rfl)
  (ht:HY (.Call (.Attribute (.Name x p) m RE) (e0::e::es) [] pos) X.env=(do
   let ov <-HY (.Name x p) X.env
   Mt RE.atName
   let (f,first) <-Ln [ov] (KB ov m pl)
   Mm pos f first (Hx pos (Gv (e0::e::es) X.env)) (JA pos (HZ [] X.env))):=by rfl):
  Xv X H0 O0 E ps (.Call (.Attribute (.Name x p) m RE) (e0::e::es) [] pos) C':=
 PE.mono (kg (pl:=pl) (cy hN hv hd R8) hc hm F hr hb .nil hx (bu h0 (bu h DC R9) hst0) hst0 R3 ht) λσ H Q ⟨O,R,q⟩=>by
  obtain⟨v,h1,dx,kv,rfl,h3,h4,h5,h6,h7⟩:=R.at_ i _ hp;exact⟨_,h1,a,dx,_,rfl,h5,by rw[IA,TF];rfl,O,R,λv H' s r=>⟨O,R.go s,λH2 s2=>q H2 (s.trans s2)⟩⟩
end
end L2
local macro_rules | `(tactic|walk_at"sz")=>`(tactic|first |with_reducible assumption | ((with_reducible apply L2.Sz.sub') <;>walk_at"sz") | ((with_reducible apply L2.Sz.add') <;>walk_at"sz") | ((with_reducible apply L2.Sz.mul) <;>walk_at"sz") | ((with_reducible apply L2.Sz.neg) <;>walk_at"sz") | ((with_reducible apply L2.Sz.ediv) <;>walk_at"sz") | ((with_reducible apply L2.Sz.abs) <;>walk_at"sz") |exact L2.Sz.lit (m:=8) (by decide) |exact L2.Sz.emod (m:=250) (by decide) (by decide) |exact L2.Sz.lit (m:=250) (by decide))
local macro_rules | `(tactic|walk_at"mul")=>`(tactic|exact L2.Sz.ok (by walk_at"sz") (by walk_at"sz") (by decide))
local macro_rules | `(tactic|walk_at"div")=>`(tactic|first |exact⟨by decide,L2.Sz.mono (m:=250) (by decide) (by decide)⟩ |exact⟨by lia,L2.Sz.mono (by walk_at"sz") (by decide)⟩)
local macro_rules | `(tactic|walk_at"mod")=>`(tactic|first |decide |lia)
local macro_rules | `(tactic|walk_at"szb")=>`(tactic|exact L2.Sz.mono (by walk_at"sz") (by decide))
local macro_rules | `(tactic|walk_at"kit")=>`(tactic|first |exact L2.kit_int_int _ |exact L2.kit_int_bool _ |exact L2.kit_tuple_tuple _ |exact L2.kit_list_list _ |exact L2.kit_bool_int _ |exact L2.kit_list_tuple _ |rfl)
local macro_rules | `(tactic|walk_at"ok")=>`(tactic|first |rfl |decide)
local macro_rules | `(tactic|walk_at"sub")=>`(tactic|first |exact trivial | (refine⟨rfl,?_⟩;walk_at"sub") | (with_reducible apply L2.SubP.skip;walk_at"sub"))
local macro_rules | `(tactic|walk_at"len")=>`(tactic|first |decide | (simp only[List.length_append,List.length_cons,List.length_nil,List.length_map];decide))
namespace My
open PySem PySem.Spec PyProof.Rows L2
def top(i:Nat):Iy:=PySem.Challenge.pw_stakefield_k85_whole_twelve_by_text.main.body.getD i (.Pass ⟨0,0,0,0⟩)
def BA:Iy->List Iy
 | .ClassDef _ _ _ b _ _ _ _ _ _ _=>b
 |_=>[]
abbrev zi:Iy:=top 15
abbrev qg:Iy:=top 16
abbrev uh:Iy:=top 26
abbrev zo:Iy:=top 29
abbrev iD:Iy:=top 30
abbrev tF:Iy:=top 31
abbrev uN:Iy:=top 32
abbrev fW:Iy:=top 33
abbrev nS:Iy:=top 34
abbrev eJ:Iy:=top 35
abbrev xR:Iy:=top 36
abbrev rq:Iy:=top 39
abbrev lJ:Iy:=top 47
abbrev jF:Iy:=top 48
abbrev bC:Iy:=top 49
abbrev kA:Iy:=top 63
abbrev uK:Iy:=top 64
abbrev lf:Iy:=top 65
abbrev jN:Iy:=top 81
abbrev cx:Iy:=top 82
abbrev ic:Iy:=top 83
abbrev iZ:Iy:=top 84
abbrev hG:Iy:=top 85
abbrev iM:Iy:=top 86
abbrev eM:Iy:=top 87
abbrev jI:Iy:=top 101
abbrev pj:Iy:=top 102
abbrev fU:Iy:=top 103
abbrev dW:Iy:=top 104
abbrev zL:Iy:=top 105
abbrev kM:Iy:=top 106
abbrev i5:Iy:=top 107
abbrev qG:Iy:=top 111
abbrev jM:Iy:=top 114
abbrev jL:Iy:=top 115
abbrev jv:Iy:=top 116
abbrev gc:Iy:=top 117
abbrev iV:Iy:=top 118
abbrev gW:Iy:=top 119
abbrev dU:Iy:=top 120
abbrev fj:Iy:=top 121
abbrev jG:Iy:=top 122
abbrev hX:Iy:=top 123
abbrev fE:Iy:=top 124
abbrev fk:Iy:=top 125
abbrev dX:Iy:=top 126
abbrev fM:Iy:=top 127
abbrev xE:Iy:=top 128
abbrev jJ:Iy:=(BA (top 112)).getD 0 (.Pass ⟨0,0,0,0⟩)
abbrev jP:Iy:=(BA (top 112)).getD 1 (.Pass ⟨0,0,0,0⟩)
abbrev jQ:Iy:=(BA (top 112)).getD 2 (.Pass ⟨0,0,0,0⟩)
abbrev dQ:Iy:=(BA (top 112)).getD 4 (.Pass ⟨0,0,0,0⟩)
def ft:List (Str×Str):=[("field","NEW P"),("move","NEW ONE A B C D E F"),("fold","NEW ONE K"),("sum","NEW ONE OTHER"),("form","NEW ONE"),("facing","NEW ONE"),("drop","ONE"),("names",""),("show","ONE"),("area","ONE"),("rim","ONE"),("count","ONE K"),("inner","ONE K"),("mixed","ONE OTHER"),("share","ONE A B C"),("where","ONE P"),("tell","ONE K P"),("alike","ONE OTHER"),("thin","ONE")]
theorem Ax:aq ["number"] ["number"] (ag zi):=by walk_at"sC"
theorem bD:aq ["a","b","high","high_times","low","low_times","fits","rest","rest_times","s"] ["a","b"] (ag qg):=by walk_at"sC"
theorem Ao:aq ["P","Q"] ["P","Q"] (ag uh):=by walk_at"sC"
theorem Bg:aq ["P","Q","R"] ["P","Q","R"] (ag zo):=by walk_at"sC"
theorem eK:aq ["row","kept","P"] ["row"] (ag iD):=by walk_at"sC"
theorem gq:aq ["points","row","there","back"] ["points"] (ag tF):=by walk_at"sC"
theorem yA:aq ["land"] ["land"] (ag uN):=by walk_at"sC"
theorem jX:aq ["P","Q","R"] ["P","Q","R"] (ag fW):=by walk_at"sC"
theorem ly:aq ["land","P","A","B"] ["land","P"] (ag nS):=by walk_at"sC"
theorem d0:aq ["land","A","B"] ["land"] (ag eJ):=by walk_at"sC"
theorem rB:aq ["land","A","B"] ["land"] (ag xR):=by walk_at"sC"
theorem tX:aq ["land","k","P"] ["land","k"] (ag rq):=by walk_at"sC"
theorem qz:aq ["land","k"] ["land","k"] (ag lJ):=by walk_at"sC"
theorem nI:aq ["land"] ["land"] (ag jF):=by walk_at"sC"
theorem kU:aq ["land","k"] ["land","k"] (ag bC):=by walk_at"sC"
theorem ph:aq ["land"] ["land"] (ag kA):=by walk_at"sC"
theorem qw:aq ["A","B","far"] ["A","B"] (ag uK):=by walk_at"sC"
theorem jr:aq ["land","A","B"] ["land"] (ag lf):=by walk_at"sC"
theorem nW:aq ["thing"] ["thing"] (ag jN):=by walk_at"sC"
theorem ce:aq ["text","figures","sign"] ["text"] (ag cx):=by walk_at"sC"
theorem l0:aq ["text"] ["text"] (ag ic):=by walk_at"sC"
theorem hJ:aq ["text","parts"] ["text"] (ag iZ):=by walk_at"sC"
theorem kC:aq ["number"] ["number"] (ag hG):=by walk_at"sC"
theorem md:aq ["P"] ["P"] (ag iM):=by walk_at"sC"
theorem gy:aq ["points","P"] ["points"] (ag eM):=by walk_at"sC"
theorem iW:aq ["row","words"] ["row"] (ag jI):=by walk_at"sC"
theorem df:aq ["words","kinds","many","more"] ["words"] (ag pj):=by walk_at"sC"
theorem fz:aq ["word","letters","sign"] ["word"] (ag fU):=by walk_at"sC"
theorem dw:aq ["land","numbers","P","number"] ["land"] (ag dW):=by walk_at"sC"
theorem Bm:aq ["deed","given"] ["deed","given"] (ag zL):=by walk_at"sC"
theorem pz:aq ["deed","given"] ["deed","given"] (ag kM):=by walk_at"sC"
theorem gX:aq ["land","P","side"] ["land","P"] (ag i5):=by walk_at"sC"
theorem wy:aq ["deed","given"] ["deed","given"] (ag qG):=by walk_at"sC"
theorem oj:aq ["script","k"] ["script","k"] (ag jM):=by walk_at"sC"
theorem oJ:aq ["a","b","p"] ["a","b","p"] (ag jL):=by walk_at"sC"
theorem fi:aq ["points","way","p"] ["points"] (ag jv):=by walk_at"sC"
theorem dz:aq ["points","some"] ["points"] (ag gc):=by walk_at"sC"
theorem eL:aq ["script","m","n"] ["script"] (ag iV):=by walk_at"sC"
theorem dO:aq ["word","figures","sign_v"] ["word"] (ag gW):=by walk_at"sC"
theorem fH:aq ["answer_v","word"] ["answer_v"] (ag dU):=by walk_at"sC"
theorem eG:aq ["points","x","y"] ["points"] (ag fj):=by walk_at"sC"
theorem bX:aq ["bits","round_about","named","p","land","k"] ["bits"] (ag jG):=by walk_at"sC"
theorem bT:aq ["land","points","k","p","q","many"] ["land"] (ag hX):=by walk_at"sC"
theorem aW:aq ["script","bits","k","land","a","b","c","d","x","y"] ["script"] (ag fE):=by walk_at"sC"
theorem eI:aq ["answer_v","flat","k"] ["answer_v"] (ag fk):=by walk_at"sC"
theorem bL:aq ["land","found","u","v","worths","x","y"] ["land","found"] (ag dX):=by walk_at"sC"
theorem bx:aq ["desk","row","kinds","e"] ["desk","row"] (ag fM):=by walk_at"sC"
theorem ii:aq ["script","land","desk","rims","aside_v","x","y"] ["script"] (ag xE):=by walk_at"sC"
theorem oX:aq ["self"] ["self"] (ag jJ):=by walk_at"sC"
theorem oR:aq ["self","kind","word"] ["self","kind","word"] (ag jP):=by walk_at"sC"
theorem nX:aq ["self","name","land"] ["self","name","land"] (ag jQ):=by walk_at"sC"
theorem aP:aq ["self","row","words","kinds","given","kind","word"] ["self","row"] (ag dQ):=by walk_at"sC"
set_option genInjectivity false in
set_option genSizeOf false in
set_option genSizeOfSpec false in
structure Txt(w:G5)(K:Gn)(mg:Str->Option Gr) where
 aaH:GE
 abC:mg "Desk"=some (.ref aaH)
 aan:Cls K aaH
 abe:fD K aaH "lands"
 abx:∃a,mg "ROWS"=some (.ref a)∧vO w K a ft
 aa5:Dfn K mg "sign" zi ["number"]
 aa1:Dfn K mg "shares" qg ["a","b"]
 aaX:Dfn K mg "steps" uh ["P","Q"]
 aaY:Dfn K mg "turn" zo ["P","Q","R"]
 aaq:Dfn K mg "left_bends" iD ["row"]
 aaw:Dfn K mg "field" tF ["points"]
 aaF:Dfn K mg "sides" uN ["land"]
 aau:Dfn K mg "lies_between" fW ["P","Q","R"]
 aaT:Dfn K mg "where" nS ["land","P"]
 aay:Dfn K mg "double_area" eJ ["land"]
 abc:Dfn K mg "rim" xR ["land"]
 abh:Dfn K mg "fold" rq ["land","k"]
 aaU:Dfn K mg "multiple" lJ ["land","k"]
 aaQ:Dfn K mg "points_in" jF ["land"]
 aao:DfD K mg "inner_count" bC ["land","k"] 1
 aaz:Dfn K mg "is_heart" kA ["land"]
 aba:Dfn K mg "faced" uK ["A","B"]
 aaP:Dfn K mg "facing" lf ["land"]
 aar:Dfn K mg "need_text" jN ["thing"]
 aaj:Dfn K mg "is_written_number" cx ["text"]
 aag:Dfn K mg "read_number" ic ["text"]
 aaI:Dfn K mg "read_point" iZ ["text"]
 aad:Dfn K mg "show_number" hG ["number"]
 aaJ:Dfn K mg "show_point" iM ["P"]
 aaA:Dfn K mg "show_points" eM ["points"]
 aal:Dfn K mg "row_words" jI ["row"]
 aaE:Dfn K mg "wanted" pj ["words"]
 aaR:Dfn K mg "need_name" fU ["word"]
 aaV:Dfn K mg "need_fit" dW ["land"]
 aa6:Dfn K mg "made" zL ["deed","given"]
 aaB:Dfn K mg "reckoned" kM ["deed","given"]
 aaK:Dfn K mg "show_where" i5 ["land","P"]
 aa2:Dfn K mg "answer" qG ["deed","given"]
 aab:Dfn K mg "_law_cell" jM ["script","k"]
 aam:Dfn K mg "_law_side" jL ["a","b","p"]
 aas:Dfn K mg "_law_half" jv ["points"]
 aac:Dfn K mg "_law_corners" gc ["points"]
 aaL:Dfn K mg "_law_table" iV ["script"]
 aaC:Dfn K mg "_law_number" gW ["word"]
 aaf:Dfn K mg "_law_numbers" dU ["answer_v"]
 aah:Dfn K mg "_law_shown" fj ["points"]
 aaS:Dfn K mg "_law_ring" jG ["bits"]
 aaD:Dfn K mg "_law_facing" hX ["land"]
 aaM:Dfn K mg "_law_heart" fE ["script"]
 aaN:Dfn K mg "_law_pairs" fk ["answer_v"]
 aav:Dfn K mg "_law_touches" dX ["land","found"]
 aak:Dfn K mg "_law_refused" fM ["desk","row"]
 abl:Dfn K mg "law" xE ["script"]
 aaW:IDf K aaH "__init__" "Desk.__init__" jJ ["self"]
 aat:MDf K aaH "read" "Desk.read" jP ["self","kind","word"]
 aaG:MDf K aaH "keep" "Desk.keep" jQ ["self","name","land"]
 aaa:MDf K aaH "say" "Desk.say" dQ ["self","row"]
 aae:Exn mg "NoHeart"
 abo:Of K aae.c [.type "ValueError",.type "Exception",.type "BaseException",.type "object"] "ValueError.__new__"=true
 aai:Exn mg "NoName"
 abt:Of K aai.c [.type "ValueError",.type "Exception",.type "BaseException",.type "object"] "ValueError.__new__"=true
 aaO:Exn mg "StakeError"
 abu:mg "abs"=none
 abD:mg "all"=none
 abv:mg "int"=none
 aax:mg "isinstance"=none
 aap:mg "len"=none
 aby:mg "list"=none
 abz:mg "max"=none
 abA:mg "min"=none
 abi:mg "range"=none
 abm:mg "reversed"=none
 abp:mg "set"=none
 abd:mg "sorted"=none
 abk:mg "str"=none
 abB:mg "sum"=none
 abw:mg "zip"=none
 aa7:MU K aaO.c (.type "BaseException")=some true
 aa4:J5 K (.ref aae.c) (.ref aae.c)=some true
 aa8:J5 K (.ref aae.c) (.ref aai.c)=some false
 aa9:J5 K (.ref aai.c) (.ref aae.c)=some false
 abb:J5 K (.ref aai.c) (.ref aai.c)=some true
 aaZ:MU K aae.c (.ref aaO.c)=some true
 aa0:MU K aai.c (.ref aaO.c)=some true
 aa_:P9 K (.ref aaO.c)=some (.type "type")
 abn:PySem.W.XcOk K aae.c
 abq:PySem.W.XcOk K aai.c
 abr:∃t,mg "FIGURES"=some (.str "0123456789" t)
 abf:∃t,mg "MOST_CORNERS"=some (.int 60 t)
 aa3:∃t,mg "MOST_FIGURES"=some (.int 60 t)
 abg:∃t,mg "MOST_LETTERS"=some (.int 8 t)
 abj:∃t,mg "MOST_POINTS"=some (.int 60 t)
section
variable {P:GF}{w:G5}{K:Gn}{mg:Str→Option Gr}{base:H_}
def sgn(n:Int):Int:=if 0<n then 1 else if n<0 then -1 else 0
def b5(b:Int):Int:=if b<0 then -b else b
theorem eu(b:Int):b5 b=(b.natAbs:Int):=by unfold b5;split <;>lia
theorem ls{b:Int}(h:b≠0):0<b5 b:=by unfold b5;split <;>lia
theorem dk(d b:Int):d ∣ b5 b↔d ∣ b:=by
 unfold b5;split
 ·exact Mc
 ·exact Iff.rfl
theorem xI(d b:Int):b5 b ∣ d↔b ∣ d:=by
 unfold b5;split
 ·exact Int.neg_dvd
 ·exact Iff.rfl
structure jR(a b high ht low lt:Int):Prop where
 hp:0<high
 lo0:0<=low
 lolt:low<high
 dv:∀d,(d ∣ high/\d ∣ low)↔(d ∣ a/\d ∣ b)
 ch:b ∣ ht*a-high
 cl:b ∣ lt*a-low
 bd:ht.natAbs*low.natAbs+lt.natAbs*high.natAbs<=b.natAbs
 hi:high.natAbs<=b.natAbs
theorem pQ{a b:Int}(hb:b≠0):jR a b (b5 b) 0 (a%b5 b) 1:=by
 have h0:=ls hb;refine⟨h0,L_ _ (by lia),K_ _ h0,λd=>?_,?_,?_,?_,by rw[eu];simp⟩
 ·rw[dk];constructor
  ·rintro ⟨h1,h2⟩;refine⟨?_,h1⟩;have e:=JJ a (b5 b);rw[<-e];exact Kk h2 (G_ ((dk d b).mpr h1) (IP _ _))
  ·rintro ⟨h1,h2⟩;refine⟨h2,?_⟩;have e:a%b5 b=a-b5 b*(a/b5 b):=by have:=JJ a (b5 b);lia
   rw[e];exact Md h1 (G_ ((dk d b).mpr h2) (IP _ _))
 ·rw[Mq,Int.zero_sub,Mc];exact (dk b b).mpr (Mr b)
 ·have e:1*a-a%b5 b=b5 b*(a/b5 b):=by have:=JJ a (b5 b);lia
  rw[e];exact G_ ((dk b b).mpr (Mr b)) (IP _ _)
 ·rw[eu];simp
theorem tL{a b high ht low lt:Int}(I:jR a b high ht low lt)(h:low≠0):jR a b low lt (high-high/low*low) (ht-high/low*lt)/\high-high/low*low<low:=by
 obtain⟨hp,lo0,lolt,dv,ch,cl,bd,hi⟩:=I;have hl:0<low:=by lia
 have e:=JJ high low;have r0:=L_ high h;have r1:=K_ high hl;have hf:0<=high/low:=Int.ediv_nonneg (by lia) (by lia)
 have er:high-high/low*low=high%low:=by rw[Q7];lia
 rw[er];refine⟨⟨hl,r0,r1,λd=>?_,cl,?_,?_,by lia⟩,r1⟩
 ·rw[<-dv d];constructor
  ·rintro ⟨h1,h2⟩;refine⟨?_,h1⟩;rw[<-e];exact Kk h2 (G_ h1 (IP _ _))
  ·rintro ⟨h1,h2⟩;refine⟨h2,?_⟩;rw[show high%low=high-low*(high/low) by lia]
   exact Md h1 (G_ h2 (IP _ _))
 ·have e2:(ht-high/low*lt) *a-high%low=(ht*a-high)-(high/low) *(lt*a-low):=by grind
  rw[e2];exact Md ch (G_ cl (Hm _ _))
 ·have n1:(ht-high/low*lt).natAbs<=ht.natAbs+(high/low).natAbs*lt.natAbs:=by
   have:=Int.natAbs_sub_le ht (high/low*lt);rw[Mv]at this;exact this
  have n2:high.natAbs=(high%low).natAbs+low.natAbs*(high/low).natAbs:=by
   have:(high.natAbs:Int)=((high%low).natAbs+low.natAbs*(high/low).natAbs:Nat):=by
    push_cast
    rw[Kz r0,Kz hf,Kz (by lia:0<=high),Kz lo0]
    lia
   lia
  have n3:(ht-high/low*lt).natAbs*low.natAbs<=(ht.natAbs+(high/low).natAbs*lt.natAbs) *low.natAbs:=Kx _ n1;rw[n2]at bd;refine HD ?_ bd;generalize (ht-high/low*lt).natAbs=A at *;generalize ht.natAbs=B at *;generalize lt.natAbs=C at *;generalize low.natAbs=D at *;generalize (high/low).natAbs=E at *;generalize (high%low).natAbs=F at *;grind
structure l5(a b g s t:Int):Prop where
 g0:0<=g
 eq:s*a+t*b=g
 da:g ∣ a
 db:g ∣ b
 z:b=0->t=0/\s=sgn a/\g=b5 a
 nz:b≠0->0<g/\0<=s/\s<b5 b/g
theorem nj(a:Int):l5 a 0 (b5 a) (sgn a) 0:=by
 refine⟨by unfold b5;split <;>lia,?_,(xI a a).mpr (Mr a),Q8 _,λ_=>⟨rfl,rfl,rfl⟩,λh=>absurd rfl h⟩
 unfold sgn b5;split
 ·split <;>lia
 ·split
  ·lia
  ·lia
theorem zn{a b high ht lt:Int}(hb:b≠0)(I:jR a b high ht 0 lt):l5 a b high (ht%(b5 b/high)) ((high-ht%(b5 b/high) *a).fdiv b):=by
 obtain⟨hp,lo0,lolt,dv,ch,cl,bd,hi⟩:=I;obtain⟨ga,gb⟩:=(dv high).mp ⟨Mr _,Q8 _⟩;obtain⟨a',rfl⟩:=ga;have gb2:high ∣ b5 b:=(dk _ _).mpr gb;obtain⟨b',To⟩:=gb2;have hb0:=ls hb;have hq:b5 b/high=b':=by rw[To,Jj _ (by lia)]
 have hb1:0<b':=by
  have:0<high*b':=by lia
  exact KW this (by lia)
 rw[hq];have es:=JJ ht b'
 have key:b ∣ high-ht%b'*(high*a'):=by
  have e:high-ht%b'*(high*a')=-(ht*(high*a')-high)+b5 b*(a'*(ht/b')):=by
   rw[To,show ht%b'=ht-b'*(ht/b') by lia];grind
  rw[e];refine Kk (Mc.mpr ch) (G_ ((dk b b).mpr (Mr b)) (IP _ _))
 refine⟨by lia,?_,IP _ _,gb,λh=>absurd h hb,λ_=>⟨hp,L_ _ (by lia),?_⟩⟩
 ·obtain⟨c,hc⟩:=key;rw[hc,Int.mul_fdiv_cancel_left _ hb,Q7 c b];lia
 ·rw[hq];exact K_ _ hb1
theorem FJ{a b high ht low lt:Int}(I:jR a b high ht low lt):lt.natAbs<=b.natAbs:=by
 have h1:1<=high.natAbs:=by have:=I.hp;lia
 have h2:lt.natAbs*1<=lt.natAbs*high.natAbs:=Nat.mul_le_mul_left _ h1;have:=I.bd;lia
theorem xS{a b g s t g' s' t':Int}(h:l5 a b g s t)(h':l5 a b g' s' t'):g=g'/\s=s'/\t=t':=by
 have d1:g ∣ g':=by rw[<-h'.eq];exact Kk (G_ h.da (Hm _ _)) (G_ h.db (Hm _ _))
 have d2:g' ∣ g:=by rw[<-h.eq];exact Kk (G_ h'.da (Hm _ _)) (G_ h'.db (Hm _ _))
 have eg:g=g':=Pe h.g0 h'.g0 d1 d2;subst eg;by_cases hb:b=0
 ·obtain⟨h1,h2,_⟩:=h.z hb;obtain⟨k1,k2,_⟩:=h'.z hb;exact⟨rfl,by lia,by lia⟩
 ·obtain⟨p,s0,s1⟩:=h.nz hb;obtain⟨_,s0',s1'⟩:=h'.nz hb;obtain⟨a',ha⟩:=h.da;obtain⟨b',To⟩:=(dk g b).mpr h.db;obtain⟨b'',UX⟩:=h.db;have hq:b5 b/g=b':=by rw[To,Jj _ (by lia)]
  rw[hq]at s1 s1';have e1:=h.eq;have e2:=h'.eq;have bz:b''≠0:=by intro z;rw[z,Int.mul_zero]at UX;exact hb UX
  have k1:s*a'+t*b''=1:=by
   have:g*(s*a'+t*b'')=g*1:=by rw[ha,UX]at e1;grind
   exact Jf (by lia) this
  have k2:s'*a'+t'*b''=1:=by
   have:g*(s'*a'+t'*b'')=g*1:=by rw[ha,UX]at e2;grind
   exact Jf (by lia) this
  have k3:b'' ∣ s-s':=by
   refine⟨s*(t'-t)+t*(s-s'),?_⟩;grind
  have k4:b' ∣ s-s':=by
   have:b'.natAbs=b''.natAbs:=by
    have q1:(b5 b).natAbs=b.natAbs:=by rw[eu];simp
    rw[To,UX]at q1;rw[Mv,Mv]at q1;exact Nat.eq_of_mul_eq_mul_left (by lia) q1
   exact ND.mp (by rw[this];exact ND.mpr k3)
  have k5:s=s':=by
   have:s-s'=0:=Int.eq_zero_of_dvd_of_natAbs_lt_natAbs k4 (by lia)
   lia
  subst k5;refine⟨rfl,rfl,?_⟩;have:b*t=b*t':=by grind
  exact Jf hb this
theorem CG{a b:Int}(hb:b≠0):∀(n:Nat) (high ht low lt:Int),low.toNat<=n->jR a b high ht low lt->∃high' ht' lt',jR a b high' ht' 0 lt'
 |0,high,ht,low,lt,hn,I=>by
  have:low=0:=by have:=I.lo0;lia
  subst this;exact⟨_,_,_,I⟩
 |n+1,high,ht,low,lt,hn,I=>by
  by_cases h:low=0
  ·subst h;exact⟨_,_,_,I⟩
  ·obtain⟨I2,less⟩:=tL I h;have:=I2.lo0;exact CG hb n _ _ _ _ (by have:=I.lo0;lia) I2
theorem BL(a b:Int):∃g s t,l5 a b g s t:=by
 by_cases hb:b=0
 ·subst hb;exact⟨_,_,_,nj a⟩
 ·obtain⟨h,ht,lt,I⟩:=CG hb _ _ _ _ _ (GA _) (pQ (a:=a) hb);exact⟨_,_,_,zn hb I⟩
def vP:List U->Out->Prop:=λus o=>∃n:Int,us=[.int n]/\o=.val (.int (sgn n))
theorem tH(T:Txt w K mg):aL P w K mg base (CXF P w) 1 T.aa5.a T.aa5.d ["number"] (spU K (vP)):=by
 refine a_ T.aa5.F Ax (λus o h=>?_) (λRF A outer s H E O us o hr h=>?_)
 ·obtain⟨n,rfl,rfl⟩:=h;rfl
 obtain⟨n,rfl,rfl⟩:=h;refine Ws.nox ?_;refine ac (k9 (ao jo (aa 0 rfl) af) (λhT=>?_) (λhF=>(au ?_)))
 ·refine ac (aQ af ?_);exact vIO (by unfold sgn;rw[if_pos (dTb hT)])
 ·refine ac (k9 (ao e7 (aa 0 rfl) af) (λhT=>?_) (λhF=>(au ?_)))
  ·refine ac (aQ (cQ af) ?_);exact vIO (by unfold sgn;rw[if_neg (dFb hF),if_pos (dTb hT)])
  ·rename_i hF2
   refine ac (aQ af ?_);exact vIO (by unfold sgn;rw[if_neg (dFb hF),if_neg (dFb hF2)])
def pZ:List U->Out->Prop:=λus o=>∃a b g s t:Int,us=[.int a,.int b]/\Sz 4000 a/\Sz 4000 b/\l5 a b g s t/\o=.val (.tup [.int g,.int s,.int t])
theorem pw{a b g s t g' s' t':Int}(G:l5 a b g s t)(G':l5 a b g' s' t'):Out.val (.tup [.int g,.int s,.int t])=Out.val (.tup [.int g',.int s',.int t']):=by
 obtain⟨rfl,rfl,rfl⟩:=xS G G';rfl
theorem wD(T:Txt w K mg):aL P w K mg base (CXF P w) 2 T.aa1.a T.aa1.d ["a","b"] (spU K (pZ)):=by
 refine a_ T.aa1.F bD (λus o h=>?_) (λRF A outer s H E O us o hr h=>?_)
 ·obtain⟨a,b,g,s,t,rfl,sa,sb,G,rfl⟩:=h;rfl
 obtain⟨a,b,g,s,t,rfl,sa,sb,G,rfl⟩:=h;refine Ws.nox ?_;refine ac (k9 (ao fK (aa 1 rfl) af) (λhT=>?_) (λhF=>(au ?_)))
 ·have hb:b=0:=dTb hT;subst hb;refine ac (aQ (bp (ak (aw tY rfl T.abu PyProof.Rows.boot_abs (ae (aa 0 rfl) ai ah)) (ak (aC ((tH T).mono (by decide)) hr rfl T.aa5.m T.aa5.F.kp T.aa5.b ar (ae (aa 0 rfl) ai ah) ⟨_,rfl,rfl⟩) (ak af aZ ay) bg) bg)) ?_)
  exact pw (nj a) G
 ·have hb:b≠0:=dFb hF;have hp0:=ls hb;have sab:Sz 4000 (b5 b):=Sz.abs sb;refine ac (aO (i:=2) bD.nd rfl (Or.inl rfl) (aw tY rfl T.abu PyProof.Rows.boot_abs (ae (aa 1 rfl) ai ah)) ?_);refine ac (aO (i:=3) bD.nd rfl (Or.inl rfl) af ?_);refine ac (aO (i:=4) bD.nd rfl (Or.inl rfl) (d9 (aa 0 rfl) (aa 2 rfl) hp0) ?_);refine ac (aO (i:=5) bD.nd rfl (Or.inl rfl) af ?_);refine ac (kz (λm:Int×Int×Int×Int=>[some (.val (.int a)),some (.val (.int b)),some (.val (.int m.1)),some (.val (.int m.2.1)),some (.val (.int m.2.2.1)),some (.val (.int m.2.2.2)),none,none,none,none]) (λn m=>n=m.2.2.1.toNat/\jR a b m.1 m.2.1 m.2.2.1 m.2.2.2) PassesOwn.never ?h0 ?hs)
  case h0=>exact⟨_,(_,_,_,_),⟨rfl,pQ hb⟩,rfl,rfl,rfl,rfl,rfl,rfl,trivial⟩
  case hs=>
   rintro m ⟨high,ht,low,lt⟩ ⟨rfl,I⟩;dsimp only at I |-;have hl0:=I.lo0;have SJ:=I.lolt;have sh:Sz 4000 high:=sb.natle I.hi;have sl:Sz 4000 low:=sh.natle (by lia)
   have slt:Sz 4000 lt:=sb.natle (FJ I);refine⟨_,(ao gZ (aa 4 rfl) af),λh=>?_,λh ps Sv=>?_⟩
   ·have hl:low≠0:=nTb h;obtain⟨I2,less⟩:=tL I hl;have RU:(high-high/low*low).toNat<low.toNat:=by clear h;lia
    refine ac (aO (i:=6) bD.nd rfl (Or.inl rfl) (iw (aa 2 rfl) (aa 4 rfl) (by walk_at"div")) ?_)
    have sf:Sz 4000 (high/low):=sh.ediv;refine ac (aO (i:=7) bD.nd rfl (Or.inl rfl) (bP (aa 2 rfl) (bH (aa 6 rfl) (aa 4 rfl) (by walk_at"mul"))) ?_)
    refine ac (aO (i:=8) bD.nd rfl (Or.inl rfl) (bP (aa 3 rfl) (bH (aa 6 rfl) (aa 5 rfl) (by walk_at"mul"))) ?_)
    refine ac (aO (i:=2) bD.nd rfl (Or.inl rfl) (aa 4 rfl) ?_);refine ac (aO (i:=3) bD.nd rfl (Or.inl rfl) (aa 5 rfl) ?_);refine ac (aO (i:=4) bD.nd rfl (Or.inl rfl) (aa 7 rfl) ?_);refine ac (aO (i:=5) bD.nd rfl (Or.inl rfl) (aa 8 rfl) (au ?_));exact⟨_,(_,_,_,_),RU,⟨rfl,I2⟩,rfl,rfl,rfl,rfl,rfl,rfl,trivial⟩
   ·have hl:low=0:=nFb h;subst hl;refine dL ?_ Sv;have G2:=zn hb I;obtain⟨g0,s0,s1⟩:=G2.nz hb;have hm:0<b5 b/high:=by lia
    have hg:0<high:=I.hp
    have ss:Sz 4000 (ht%(b5 b/high)):=by
     refine sb.natle ?_;have h1:b5 b/high<=b5 b:=Int.ediv_le_self _ (by lia)
     have h2:=eu b;lia
    refine ac (aO (i:=9) bD.nd rfl (Or.inl rfl) (d9 (aa 3 rfl) (iw (aw tY rfl T.abu PyProof.Rows.boot_abs (ae (aa 1 rfl) ai ah)) (aa 2 rfl) ⟨hg,sh.mono (by decide)⟩) hm) ?_)
    refine ac (aQ (bp (ak (aa 2 rfl) (ak (aa 9 rfl) (ak (C3 (bP (aa 2 rfl) (bH (aa 9 rfl) (aa 0 rfl) (Sz.ok ss sa (by decide)))) (aa 1 rfl) ⟨hb,sb.mono (by decide)⟩) aZ bK) ah) ah)) ?_)
    exact pw G2 G
theorem zu{a b g s t:Int}(G:l5 a b g s t):g=((LP a b:Nat):Int):=by
 have h1:g ∣ ((LP a b:Nat):Int):=Me G.da G.db
 have h2:((LP a b:Nat):Int) ∣ g:=by
  rw[<-G.eq];exact Kk (G_ (JE ..) (Hm _ _)) (G_ (Jt ..) (Hm _ _))
 exact Pe G.g0 (Int.natCast_nonneg _) h1 h2
theorem qk(a b:Int):∃s t,l5 a b ((LP a b:Nat):Int) s t:=by
 obtain⟨g,s,t,G⟩:=BL a b;have e:=zu G;subst e;exact⟨s,t,G⟩
structure F_(x0 y0 x1 y1:Int):Prop where
 s0:Sz 3000 x0
 t0:Sz 3000 y0
 s1:Sz 3000 x1
 t1:Sz 3000 y1
def rP:List U->Out->Prop:=λus o=>∃x0 y0 x1 y1 g s t:Int,us=[pt x0 y0,pt x1 y1]/\F_ x0 y0 x1 y1/\l5 (x1-x0) (y1-y0) g s t/\o=.val (.int g)
theorem qo(T:Txt w K mg):aL P w K mg base (CXF P w) 3 T.aaX.a T.aaX.d ["P","Q"] (spU K (rP)):=by
 refine a_ T.aaX.F Ao (λus o h=>?_) (λRF A outer s H E O us o hr h=>?_)
 ·obtain⟨x0,y0,x1,y1,g,s,t,rfl,⟨s0,t0,s1,t1⟩,G,rfl⟩:=h;rfl
 obtain⟨x0,y0,x1,y1,g,s,t,rfl,⟨s0,t0,s1,t1⟩,G,rfl⟩:=h;refine Ws.nox ?_;refine ac (aQ (aM (aC ((wD T).mono (by decide)) hr rfl T.aa1.m T.aa1.F.kp T.aa1.b ar (ae (bP (aM (aa 1 rfl) af rfl rfl) (aM (aa 0 rfl) af rfl rfl)) (ae (bP (aM (aa 1 rfl) af rfl rfl) (aM (aa 0 rfl) af rfl rfl)) ai bK) bK) ⟨_,_,g,s,t,rfl,by walk_at"szb",by walk_at"szb",G,rfl⟩) af rfl rfl) ?_)
 exact rfl
abbrev Pt:=Int×Int
def plt(p q:Pt):Prop:=p.1<q.1\/(p.1=q.1/\p.2<q.2)
def av(a b p:Pt):Int:=(b.1-a.1) *(p.2-a.2)-(b.2-a.2) *(p.1-a.1)
theorem cm{a b c:Pt}(h1:plt a b)(h2:plt b c):plt a c:=by unfold plt at *;lia
theorem bA(a:Pt):¬ plt a a:=by unfold plt;lia
theorem oV(a b:Pt):plt a b\/a=b\/plt b a:=by
 unfold plt;by_cases h1:a.1=b.1
 ·by_cases h2:a.2=b.2
  ·exact .inr (.inl (Kq h1 h2))
  ·lia
 ·lia
def gQ(x y:Int):Prop:=0<x\/(x=0/\0<y)
theorem bv{a b:Pt}(h:plt a b):gQ (b.1-a.1) (b.2-a.2):=by unfold plt gQ at *;lia
theorem f6{u1 u2 v1 v2 w1 w2:Int}(hu:gQ u1 u2)(hv:gQ v1 v2)(hw:gQ w1 w2)(h1:0<=u1*v2-u2*v1)(h2:0<=v1*w2-v2*w1):0<=u1*w2-u2*w1:=by
 unfold gQ at *;by_cases hv1:v1=0
 ·subst hv1;have Vv:0<v2:=by lia
  have hw1:w1=0:=by
   have:v2*w1<=0:=by rw[Mq]at h2;lia
   by_cases hz:0<w1
   ·have:=IE Vv hz;lia
   ·lia
  subst hw1;have hw2:0<w2:=by lia
  have:=Ht (show 0<=u1 by lia) (show 0<=w2 by lia)
  simp;lia
 ·have Vl:0<v1:=by lia
  have e:v1*(u1*w2-u2*w1)=u1*(v1*w2-v2*w1)+w1*(u1*v2-u2*v1):=by grind
  have p1:=Ht (show 0<=u1 by lia) h2
  have p2:=Ht (show 0<=w1 by lia) h1
  have:0<=v1*(u1*w2-u2*w1):=by lia
  exact Int.nonneg_of_mul_nonneg_right this Vl
theorem lj{u1 u2 v1 v2 w1 w2:Int}(hu:gQ u1 u2)(hv:gQ v1 v2)(hw:gQ w1 w2)(h1:0<u1*v2-u2*v1)(h2:0<=v1*w2-v2*w1):0<u1*w2-u2*w1:=by
 unfold gQ at *;by_cases hv1:v1=0
 ·subst hv1;have Vv:0<v2:=by lia
  have hw1:w1=0:=by
   have:v2*w1<=0:=by rw[Mq]at h2;lia
   by_cases hz:0<w1
   ·have:=IE Vv hz;lia
   ·lia
  subst hw1;have hw2:0<w2:=by lia
  have RQ:0<u1:=by
   rcases hu with h |⟨h,_⟩
   ·exact h
   ·subst h;simp at h1
  have:=IE RQ hw2;simp;lia
 ·have Vl:0<v1:=by lia
  have e:v1*(u1*w2-u2*w1)=u1*(v1*w2-v2*w1)+w1*(u1*v2-u2*v1):=by grind
  have p1:=Ht (show 0<=u1 by lia) h2
  by_cases hw1:w1=0
  ·subst hw1;have hw2:0<w2:=by lia
   have RQ:0<u1:=by
    rcases hu with h |⟨h,h'⟩
    ·exact h
    ·subst h;have:=IE h' Vl;simp at h1;lia
   have:=IE RQ hw2;simp;lia
  ·have p2:=IE (show 0<w1 by lia) h1
   have:0<v1*(u1*w2-u2*w1):=by lia
   exact KW this (by lia)
def oy:List Pt->Prop
 |b::a::r=>plt a b/\oy (a::r)
 |_=>True
def jS:List Pt->Prop
 |c::b::a::r=>0<av a b c/\jS (b::a::r)
 |_=>True
def h_(done:List Pt):List Pt->Prop
 |b::a::r=>(∀q∈done,0<=av a b q)/\h_ done (a::r)
 |_=>True
theorem jS.tail:∀{b:Pt}{st:List Pt},jS (b::st)->jS st
 |_,[],_=>trivial
 |_,[_],_=>trivial
 |_,_::_::_,h=>h.2
theorem oy.tail:∀{b:Pt}{st:List Pt},oy (b::st)->oy st
 |_,[],_=>trivial
 |_,_::_,h=>h.2
theorem h_.tail{done:List Pt}:∀{b:Pt}{st:List Pt},h_ done (b::st)->h_ done st
 |_,[],_=>trivial
 |_,_::_,h=>h.2
def be(P:Pt):List Pt->List Pt
 |b::a::r=>if av a b P<=0 then be P (a::r) else b::a::r
 |st=>st
def aj(row:List Pt):List Pt:=row.foldl (λst P=>P::be P st) []
structure Kept(done st:List Pt):Prop where
 ne:st≠[]
 desc:oy st
 turns:jS st
 cover:h_ done st
 sub:∀p∈st,p∈done
structure vS(done st:List Pt)(P:Pt):Prop extends Kept done st where
 pend:∀h r,st=h::r->∀q∈done,plt h q->0<=av h P q
theorem wv{done:List Pt}{P b a:Pt}{r:List Pt}(hP:∀q∈done,plt q P)(D:vS done (b::a::r) P)(h:av a b P<=0):vS done (a::r) P:=by
 refine⟨⟨by simp,D.desc.tail,D.turns.tail,D.cover.tail,λp hp=>D.sub p (Gq _ hp)⟩,?_⟩
 intro h' r' e q hq RU;cases e;have Uy:=D.desc.1;have R5:=D.cover.1 q hq;have hbP:=hP b (D.sub b Gy);have hqP:=hP q hq;rcases oV q b with z |z |z
 ·have l1:=bv RU;have l2:=bv Uy;have l3:=bv (cm Uy hbP);have:=f6 (u1:=P.1-a.1) (u2:=P.2-a.2) (v1:=b.1-a.1) (v2:=b.2-a.2) (w1:=q.1-a.1) (w2:=q.2-a.2) l3 l2 l1 (by unfold av at h;grind) (by unfold av at R5;grind)
  unfold av;grind
 ·subst z;unfold av at *;grind
 ·have p:=D.pend b _ rfl q hq z;unfold av at *;grind
theorem qA{done:List Pt}{P:Pt}(hP:∀q∈done,plt q P):∀st:List Pt,vS done st P->vS done (be P st) P/\(∀b a r,be P st=b::a::r->0<av a b P)/\(st.getLast?=(be P st).getLast?)
 |[],D=>absurd rfl D.ne
 |[b],D=>⟨D,λ_ _ _ e=>by simp[be]at e,rfl⟩
 |b::a::r,D=>by
  by_cases h:av a b P<=0
  ·rw[be,if_pos h];obtain⟨h1,h2,h3⟩:=qA hP (a::r) (wv hP D h);exact⟨h1,h2,by rw[<-h3];simp⟩
  ·rw[be,if_neg h];refine⟨D,λb' a' r' e=>?_,rfl⟩
   cases e;lia
theorem vx{done st:List Pt}{P:Pt}(hP:∀q∈done,plt q P)(D:vS done st P)(ht:∀b a r,st=b::a::r->0<av a b P)(T4:∀x,st=[x]->∀q∈done,q=x\/plt x q):Kept (done++[P]) (P::st):=by
 have up:∀(b:Pt) (r:List Pt),oy (b::r)->jS (b::r)->h_ done (b::r)->plt b P->(∀a r',r=a::r'->0<=av a b P)->h_ (done++[P]) (b::r):=by
  intro b r
  induction r generalizing b with
  |nil=>intro _ _ _ _ _;trivial
  |cons a r ih=>
   intro hd htn hc hbP hl;refine⟨λq hq=>?_,?_⟩
   ·rcases HU.mp hq with z |z
    ·exact hc.1 q z
    ·rw[G9.mp z];exact hl a r rfl
   ·refine ih a hd.tail htn.tail hc.tail (cm hd.1 hbP) (λc r' e=>?_)
    subst e;have t:=htn.1;have g:=hl a _ rfl;have l1:=bv hd.2.1;have l2:=bv hd.1;have l3:=bv (cm hd.1 hbP);have:=f6 (u1:=a.1-c.1) (u2:=a.2-c.2) (v1:=b.1-a.1) (v2:=b.2-a.2) (w1:=P.1-a.1) (w2:=P.2-a.2) l1 l2 l3 (by unfold av at t;grind) (by unfold av at g;grind)
    unfold av;grind
 obtain⟨h,r,e⟩:∃h r,st=h::r:=by
  cases R9:st with
  |nil=>exact absurd R9 D.ne
  |cons h r=>exact⟨h,r,rfl⟩
 subst e;have hhP:=hP h (D.sub h Gy);refine⟨by simp,⟨hhP,D.desc⟩,?_,⟨λq hq=>?_,?_⟩,λp hp=>?_⟩
 ·cases r with
  |nil=>trivial
  |cons a r'=>exact⟨ht h a r' rfl,D.turns⟩
 ·rcases HU.mp hq with z |z
  ·rcases oV q h with y |y |y
   ·cases r with
    |nil=>
     rcases T4 h rfl q z with w |w
     ·subst w;exact absurd y (bA _)
     ·exact absurd (cm y w) (bA _)
    |cons a r'=>
     have t:=ht h a r' rfl;have c:=D.cover.1 q z;have l1:=bv D.desc.1;have l2:=bv y;have l3:=bv hhP;have:=f6 (u1:=h.1-q.1) (u2:=h.2-q.2) (v1:=h.1-a.1) (v2:=h.2-a.2) (w1:=P.1-h.1) (w2:=P.2-h.2) l2 l1 l3 (by unfold av at c;grind) (by unfold av at t;grind)
     unfold av;grind
   ·subst y;unfold av;grind
   ·exact D.pend h r rfl q z y
  ·rw[G9.mp z];unfold av;grind
 ·exact up h r D.desc D.turns D.cover hhP (λa r' e=>Int.le_of_lt (ht h a r' (by rw[e])))
 ·rcases Gx.mp hp with z |z
  ·subst z;exact GM _ Gy
  ·exact HX _ (D.sub p z)
theorem k_(row:List Pt)(P:Pt):aj (row++[P])=P::be P (aj row):=by
 unfold aj;rw[List.foldl_append];rfl
theorem lM{row:List Pt}(hs:row.Pairwise plt):∀n,0<n->n<=row.length->Kept (row.take n) (aj (row.take n))/\(aj (row.take n)).getLast?=row.head?/\(aj (row.take n)).head?=row[n-1]?
 |0,h,_=>absurd h (by decide)
 |1,_,h=>by
  cases row with
  |nil=>simp at h
  |cons a r=>
   simp only[L8,KD];exact⟨⟨by simp[aj],trivial,trivial,trivial,λp hp=>by simpa [aj,be] using hp⟩,rfl,rfl⟩
 |n+2,_,h=>by
  obtain⟨K,hl,hh⟩:=lM hs (n+1) (by lia) (by lia)
  have hn:n+1<row.length:=by lia
  have et:row.take (n+2)=row.take (n+1)++[row[n+1]]:=by rw[List.take_succ_eq_append_getElem hn]
  have hP:∀q∈row.take (n+1),plt q row[n+1]:=λq hq=>by
   obtain⟨i,hi,e⟩:=KG.mp hq;subst e;exact Hn.mp hs i (n+1) (by lia) hn (by lia)
  have D:vS (row.take (n+1)) (aj (row.take (n+1))) row[n+1]:=⟨K,λh' r e q hq RU=>by
   exfalso
   rw[e]at hh;simp only[PM,Os]at hh;have UB:n<row.length:=by lia
   rw[Gm UB]at hh;have hh':=Hq hh;obtain⟨i,hi,e2⟩:=KG.mp hq;subst e2;rw[hh']at RU;rcases Ki i n with z |z
   ·exact bA _ (cm RU (Hn.mp hs i n (by lia) UB z))
   ·have:i=n:=by lia
    subst this;exact bA _ RU⟩
  obtain⟨D2,ht,SE⟩:=qA hP _ D;rw[et,k_];refine⟨vx hP D2 ht (λx e q hq=>?_),?_,?_⟩
  ·rw[e,hl]at SE;simp at SE;obtain⟨i,hi,e2⟩:=KG.mp hq;have h0:0<row.length:=by lia
   have e3:row[0]=x:=by
    rw[Kc,Gm h0]at SE;exact Hq SE
   subst e2;rcases Mo i with z |z
   ·subst z;exact .inl e3
   ·right;rw[<-e3];exact Hn.mp hs 0 i h0 (by lia) z
  ·rw[List.getLast?_cons,<-SE,hl];cases row with
   |nil=>simp at hn
   |cons a r=>rfl
  ·simp only[PM,Os];rw[show n+2-1=n+1 by lia,Gm hn]
theorem cj{row:List Pt}(hs:row.Pairwise plt)(h:row≠[]):Kept row (aj row)/\(aj row).getLast?=row.head?/\(aj row).head?=row.getLast?:=by
 have h0:0<row.length:=Jx.mpr h;obtain⟨h1,h2,h3⟩:=lM hs row.length h0 (GA _);rw[IX]at h1 h2 h3;exact⟨h1,h2,by rw[h3,Iw]⟩
theorem jU{u1 u2 v1 v2 w1 w2:Int}(hu:gQ u1 u2)(hv:gQ v1 v2)(hw:gQ w1 w2)(h1:0<=u1*v2-u2*v1)(h2:0<v1*w2-v2*w1):0<u1*w2-u2*w1:=by
 unfold gQ at *;by_cases hv1:v1=0
 ·subst hv1;have Vv:0<v2:=by lia
  have:=Ht (show 0<=v2 by lia) (show 0<=w1 by lia)
  simp at h2;lia
 ·have Vl:0<v1:=by lia
  have RQ:0<u1:=by
   rcases hu with h |⟨h,h'⟩
   ·exact h
   ·subst h;have:=IE h' Vl;simp at h1;lia
  have e:v1*(u1*w2-u2*w1)=u1*(v1*w2-v2*w1)+w1*(u1*v2-u2*v1):=by grind
  have p1:=IE RQ h2;have p2:=Ht (show 0<=w1 by lia) h1
  have q:0<v1*(u1*w2-u2*w1):=by lia
  exact KW q Vl
def low(row:List Pt)(p:Pt):Prop:=∀a∈row,∀b∈row,plt a p->plt p b->0<av a p b
theorem Cr{row:List Pt}{p:Pt}:∀(st:List Pt) (n:Pt),oy (n::st)->jS (n::st)->h_ row (n::st)->p∈st->(∀l,(n::st).getLast?=some l->plt l p)->
  ∃n' q,0<av q p n'/\plt q p/\plt p n'/\(∀x∈row,0<=av p n' x)/\(∀x∈row,0<=av q p x)
 |[],n,_,_,_,hp,_=>by simp at hp
 |h::r,n,D,T,C,hp,hl=>by
  by_cases e:h=p
  ·subst e;cases r with
   |nil=>exact absurd (hl h (by simp)) (bA h)
   |cons q r'=>exact⟨n,q,T.1,D.2.1,D.1,C.1,C.2.1⟩
  ·have S2:p∈r:=by
    rcases Gx.mp hp with z |z
    ·exact absurd z.symm e
    ·exact z
   exact Cr r h D.tail T.tail C.tail S2 (λl RZ=>hl l (by rw[J0];exact RZ))
theorem oM{row:List Pt}(hs:row.Pairwise plt){p:Pt}(hp:p∈aj row):low row p:=by
 intro a ha b hb hap hpb;have RL:row≠[]:=λz=>by rw[z]at ha;simp at ha
 obtain⟨K,SE,TH⟩:=cj hs RL
 have mn:∀x∈row,∀m,row.head?=some m->x=m\/plt m x:=λx hx m hm=>by
  cases row with
  |nil=>simp at hx
  |cons y r=>
   cases hm;rcases Gx.mp hx with z |z
   ·exact .inl z
   ·exact .inr ((Il.mp hs).1 x z)
 have mx:∀x∈row,∀m,row.getLast?=some m->x=m\/plt x m:=λx hx m hm=>by
  obtain⟨i,hi⟩:=G7.mp hx;have hil:=(GB.mp hi).1;rw[Iw]at hm;have TF:=(GB.mp hm).1;rcases G4 (show i<=row.length-1 by lia) with z |z
  ·right
   have h1:=Hn.mp hs i (row.length-1) hil TF z;rw[(GB.mp hi).2,(GB.mp hm).2]at h1;exact h1
  ·left;rw[z,hm]at hi;exact (Hq hi).symm
 cases R9:aj row with
 |nil=>exact absurd R9 K.ne
 |cons n st=>
  rw[R9]at K SE TH hp;have hn:row.getLast?=some n:=by rw[<-TH];rfl
  have hpn:p∈st:=by
   rcases Gx.mp hp with z |z
   ·rcases mx b hb n hn with y |y
    ·rw[y,<-z]at hpb;exact absurd hpb (bA p)
    ·rw[z]at hpb;exact absurd (cm hpb y) (bA n)
   ·exact z
  obtain⟨n',q,t,qp,pn,c1,c2⟩:=Cr st n K.desc K.turns K.cover hpn (λl hl=>by
   rw[SE]at hl;rcases mn a ha l hl with y |y
   ·rw[<-y];exact hap
   ·exact cm y hap)
  have g1:=c2 a ha;have g2:=c1 b hb;unfold av at *;have k1:0<=(p.1-a.1) *(p.2-q.2)-(p.2-a.2) *(p.1-q.1):=by grind
  have k2:0<(p.1-q.1) *(n'.2-p.2)-(p.2-q.2) *(n'.1-p.1):=by grind
  have k3:0<=(n'.1-p.1) *(b.2-p.2)-(n'.2-p.2) *(b.1-p.1):=by grind
  have k4:=lj (bv qp) (bv pn) (bv hpb) k2 k3;have k5:=jU (bv hap) (bv qp) (bv hpb) k1 k4;grind
theorem xy{row:List Pt}{p:Pt}:∀(st:List Pt) (h:Pt),oy (h::st)->h_ row (h::st)->p∈row->p ∉ h::st->plt p h->(∀l,(h::st).getLast?=some l->plt l p)->∃a∈h::st,∃b∈h::st,plt a p/\plt p b/\0<=av a b p
 |[],h,_,_,_,_,hp,hl=>absurd (cm hp (hl h (by simp))) (bA p)
 |a::r,h,D,C,hr,SY,hp,hl=>by
  rcases oV p a with z |z |z
  ·obtain⟨x,hx,y,hy,k⟩:=xy r a D.tail C.tail hr (λw=>SY (Gq _ w)) z (λl RZ=>hl l (by rw[J0];exact RZ))
   exact⟨x,Gq _ hx,y,Gq _ hy,k⟩
  ·exact absurd (by rw[z];simp) SY
  ·exact⟨a,by simp,h,by simp,z,hp,C.1 p hr⟩
theorem gap{row:List Pt}(hs:row.Pairwise plt){p:Pt}(hp:p∈row)(SY:p ∉ aj row):∃a∈aj row,∃b∈aj row,plt a p/\plt p b/\av a p b<=0:=by
 have RL:row≠[]:=λz=>by rw[z]at hp;simp at hp
 obtain⟨K,SE,TH⟩:=cj hs RL;cases R9:aj row with
 |nil=>exact absurd R9 K.ne
 |cons n st=>
  rw[R9]at K SE TH SY;have hn:row.getLast?=some n:=by rw[<-TH];rfl
  have pn:plt p n:=by
   obtain⟨i,hi⟩:=G7.mp hp;have hil:=(GB.mp hi).1;rw[Iw]at hn;have TF:=(GB.mp hn).1;rcases G4 (show i<=row.length-1 by lia) with z |z
   ·have h1:=Hn.mp hs i (row.length-1) hil TF z;rw[(GB.mp hi).2,(GB.mp hn).2]at h1;exact h1
   ·rw[z,hn]at hi;exact absurd (by rw[<-Hq hi];simp) SY
  obtain⟨a,ha,b,hb,k1,k2,k3⟩:=xy st n K.desc K.cover hp SY pn (λl hl=>by
   have RZ:=hl;rw[SE]at hl;cases row with
   |nil=>simp at hp
   |cons y r=>
    cases hl;rcases Gx.mp hp with z |z
    ·exact absurd (by rw[z];exact KA RZ) SY
    ·exact (Il.mp hs).1 p z)
  refine⟨a,ha,b,hb,k1,k2,?_⟩;unfold av at *;grind
theorem vF{row SR:List Pt}(hs:row.Pairwise plt)(T3:SR.Pairwise plt)(h1:∀p∈SR,p∈row)(h2:∀p∈aj row,p∈SR)(sub:∀(r:List Pt) (q:Pt),q∈aj r->q∈r)(p:Pt):p∈aj SR↔p∈aj row:=by
 constructor
 ·intro hp;refine Ir λSY=>?_
  obtain⟨a,ha,b,hb,k1,k2,k3⟩:=gap hs (h1 p (sub _ _ hp)) SY;have:=oM T3 hp a (h2 a ha) b (h2 b hb) k1 k2;lia
 ·intro hp;refine Ir λSY=>?_
  obtain⟨a,ha,b,hb,k1,k2,k3⟩:=gap T3 (h2 p hp) SY;have:=oM hs hp a (h1 a (sub _ _ ha)) b (h1 b (sub _ _ hb)) k1 k2;lia
abbrev Szp(m:Nat)(p:P2):Prop:=Sz m p.1/\Sz m p.2
theorem CU(b:P2)(r:List P2):atI ((b::r).reverse.map pu) (-1)=some (pu b):=by
 have h:ixN ((b::r).reverse.map pu).length (-1)=some r.length:=by
  unfold ixN;simp;lia
 unfold atI;rw[h];simp
theorem Cw(b a:P2)(r:List P2):atI ((b::a::r).reverse.map pu) (-2)=some (pu a):=by
 have h:ixN ((b::a::r).reverse.map pu).length (-2)=some r.length:=by
  unfold ixN;simp;lia
 unfold atI;rw[h];simp
theorem ke(P:P2):∀st:List P2,(be P st).length<=st.length
 |[]=>GA _
 |[_]=>GA _
 |b::a::r=>by
  unfold be;split
  ·have:=ke P (a::r);simp only[GI]at *;lia
  ·exact GA _
theorem uZ(P:P2):∀(st:List P2) (q:P2),q∈be P st->q∈st
 |[],_,h=>h
 |[_],_,h=>h
 |b::a::r,q,h=>by
  unfold be at h;split at h
  ·exact Gq _ (uZ P (a::r) q h)
  ·exact h
theorem fv{row:List P2}{i:Nat}{P:P2}(h:row[i]?=some P):aj (row.take (i+1))=P::be P (aj (row.take i)):=by
 rw[IR,h];exact k_ _ _
theorem gL(row:List P2):∀i,(aj (row.take i)).length<=i
 |0=>by simp[aj]
 |i+1=>by
  have ih:=gL row i;cases h:row[i]? with
  |none=>rw[IR,h];simp;lia
  |some P=>
   rw[fv h];have:=ke P (aj (row.take i));simp only[GI];lia
theorem eU(row:List P2):∀i q,q∈aj (row.take i)->q∈row
 |0,q,h=>by simp[aj]at h
 |i+1,q,h=>by
  cases hi:row[i]? with
  |none=>rw[IR,hi]at h;exact eU row i q (by simpa using h)
  |some P=>
   rw[fv hi]at h;rcases Gx.mp h with e |e
   ·rw[e];exact GJ hi
   ·exact eU row i q (uZ P _ q e)
theorem Ai(n:Int):decide (sgn n<1)=decide (n<=0):=by
 have h:sgn n<1↔n<=0:=by
  unfold sgn;split
  ·lia
  ·split <;>lia
 exact decide_eq_decide.mpr h
theorem fT(l:List P2):iB (l.map pu) none (some (-1))=l.dropLast.map pu:=by
 unfold iB HT.sIx;rw[MS,List.dropLast_eq_take];simp
 try lia
def am(pts:List P2):List P2:=if (ST.srt pts).length=1 then ST.srt pts else (aj (ST.srt pts)).reverse.dropLast++(aj (ST.srt pts).reverse).reverse.dropLast
theorem n8(a b:Pt):plt a b↔ST.ltP a b=true:=by unfold plt ST.ltP;simp
theorem iz{l:List Pt}:ST.Asc l↔l.Pairwise plt:=⟨λh=>h.imp λ{a b} k=>(n8 a b).mpr k,λh=>h.imp λ{a b} k=>(n8 a b).mp k⟩
theorem nu:∀{st:List Pt},oy st->st.Pairwise (λx y=>plt y x)
 |[],_=>Ls
 |[_],_=>by simp
 |b::a::r,h=>by
  have ih:=nu h.2;refine Il.mpr ⟨λx hx=>?_,ih⟩
  rcases Gx.mp hx with z |z
  ·rw[z];exact h.1
  ·exact cm ((Il.mp ih).1 x z) h.1
theorem b9(row:List Pt)(q:Pt)(h:q∈aj row):q∈row:=by
 have:=eU row row.length q;rw[IX]at this;exact this h
theorem dH{row:List Pt}(hs:row.Pairwise plt):ST.Asc (aj row).reverse:=by
 by_cases RL:row=[]
 ·subst RL;exact Ls
 ·exact iz.mpr (LJ.mpr (nu (cj hs RL).1.desc))
theorem pB{row SR:List Pt}(hs:row.Pairwise plt)(T3:SR.Pairwise plt)(h1:∀p∈SR,p∈row)(h2:∀p∈aj row,p∈SR):aj SR=aj row:=by
 have e:=ST.asc_one (dH T3) (dH hs) λz=>by
  rw[GP,GP];exact vF hs T3 h1 h2 b9 z
 exact List.reverse_inj.mp e
def ng(p:Pt):Pt:=(-p.1,-p.2)
theorem hV(p:Pt):ng (ng p)=p:=by unfold ng;simp
theorem DJ(l:List Pt):(l.map ng).map ng=l:=by
 rw[G3,show ng ∘ ng=id from funext hV,PN]
theorem kQ(a b c:Pt):av (ng a) (ng b) (ng c)=av a b c:=by unfold av ng;grind
theorem lX{a b:Pt}(h:plt a b):plt (ng b) (ng a):=by unfold plt ng at *;simp;lia
theorem zh(P:Pt):∀st:List Pt,be (ng P) (st.map ng)=(be P st).map ng
 |[]=>rfl
 |[_]=>rfl
 |b::a::r=>by
  show be (ng P) (ng b::ng a::r.map ng)=_;unfold be;rw[kQ];split
  ·exact zh P (a::r)
  ·rfl
theorem gi:∀row:List Pt,aj (row.map ng)=(aj row).map ng:=λrow=>by
 have key:∀(l:List Pt) (st:List Pt),(l.map ng).foldl (λst P=>P::be P st) (st.map ng)=(l.foldl (λst P=>P::be P st) st).map ng:=by
  intro l
  induction l with
  |nil=>intro st;rfl
  |cons p r ih=>
   intro st;rw[GW,Ib,Ib,zh];exact ih (p::be p st)
 exact key row []
theorem c6{row:List Pt}(hs:row.Pairwise plt):(row.reverse.map ng).Pairwise plt:=by
 rw[HV,LJ];exact hs.imp λ{a b} h=>lX h
theorem bV(row:List Pt):aj row.reverse=(aj (row.reverse.map ng)).map ng:=by rw[gi,DJ]
theorem nT{row SR:List Pt}(hs:row.Pairwise plt)(T3:SR.Pairwise plt)(h1:∀p∈SR,p∈row)(h2:∀p∈aj row.reverse,p∈SR):aj SR.reverse=aj row.reverse:=by
 rw[bV row,bV SR];congr 1;refine pB (c6 hs) (c6 T3) (λp hp=>?_) (λp hp=>?_)
 ·obtain⟨q,hq,rfl⟩:=GC.mp hp;exact GC.mpr ⟨q,GP.mpr (h1 q (GP.mp hq)),rfl⟩
 ·rw[gi]at hp;obtain⟨q,hq,rfl⟩:=GC.mp hp;exact GC.mpr ⟨q,GP.mpr (h2 q hq),rfl⟩
theorem AM{row:List Pt}(hs:row.Pairwise plt)(h2:2<=row.length):∃mn mx t1 t2,aj row=mx::t1/\aj row.reverse=mn::t2/\mn∈t1/\mx∈t2/\(∀p∈row,p=mn\/plt mn p)/\(∀p∈row,p=mx\/plt p mx)/\mn∈row/\mx∈row:=by
 have RL:row≠[]:=λz=>by rw[z]at h2;simp at h2
 obtain⟨K,hl,hh⟩:=cj hs RL;have hneR:row.reverse.map ng≠[]:=by simpa using RL
 obtain⟨KR,hlR,hhR⟩:=cj (c6 hs) hneR;have e1:row.head?=some row[0]:=by rw[Kc];exact Gm (by lia)
 have e2:row.getLast?=some row[row.length-1]:=by rw[Iw];exact Gm (by lia)
 have l01:plt row[0] row[row.length-1]:=Hn.mp hs 0 (row.length-1) (by lia) (by lia) (by lia)
 have mnA:∀p∈row,p=row[0]\/plt row[0] p:=λp hp=>by
  obtain⟨i,hi,rfl⟩:=NU.mp hp;rcases Mo i with z |z
  ·left;subst z;rfl
  ·right;exact Hn.mp hs 0 i (by lia) hi z
 have mxA:∀p∈row,p=row[row.length-1]\/plt p row[row.length-1]:=λp hp=>by
  obtain⟨i,hi,rfl⟩:=NU.mp hp;rcases G4 (show i<=row.length-1 by lia) with z |z
  ·right;exact Hn.mp hs i (row.length-1) hi (by lia) z
  ·left;subst z;rfl
 have ne:row[0]≠row[row.length-1]:=λz=>by rw[z]at l01;exact bA _ l01
 generalize row[0]=mn at *;generalize row[row.length-1]=mx at *;have mmn:mn∈row:=List.mem_of_head? e1;have mmx:mx∈row:=KA e2;rw[e1]at hl;rw[e2]at hh
 have UY:(aj row.reverse).getLast?=some mx:=by
  rw[bV,Ly,hlR,MB,Ot,e2];simp[hV]
 have Vf:(aj row.reverse).head?=some mn:=by
  rw[bV,MB,hhR,Ly,LK,e1];simp[hV]
 cases hb:aj row with
 |nil=>rw[hb]at hh;cases hh
 |cons x t1=>
  rw[hb]at hh hl;cases hh;cases hbR:aj row.reverse with
  |nil=>rw[hbR]at Vf;cases Vf
  |cons y t2=>
   rw[hbR]at Vf UY;cases Vf;refine⟨_,_,t1,t2,rfl,rfl,?_,?_,mnA,mxA,mmn,mmx⟩
   ·cases t1 with
    |nil=>simp at hl;exact absurd hl.symm ne
    |cons z r=>rw[J0]at hl;exact KA hl
   ·cases t2 with
    |nil=>simp at UY;exact absurd UY ne
    |cons z r=>rw[J0]at UY;exact KA UY
theorem yS(st:List Pt):st.reverse.dropLast=st.tail.reverse:=by
 cases st with
 |nil=>rfl
 |cons h t=>simp
theorem gN{l:List Pt}:l.reverse.Nodup↔l.Nodup:=by
 unfold List.Nodup;rw[LJ];exact⟨λh=>h.imp λk=>Ne.symm k,λh=>h.imp λk=>Ne.symm k⟩
theorem gK:∀{l m:List Pt},l.Nodup->(∀x∈l,x∈m)->l.length<=m.length
 |[],_,_,_=>Hf _
 |x::l,m,h,hs=>by
  obtain⟨h1,h2⟩:=Jg.mp h;have hx:x∈m:=hs x Gy;have ih:=gK (m:=m.erase x) h2 λy hy=>(NT (λe=>h1 (by rw[<-e];exact hy))).mpr (hs y (Gq _ hy))
  rw[MR hx]at ih;have:=IZ hx;simp only[GI];lia
theorem fo(pts:List Pt):(ST.srt pts).Pairwise plt:=iz.mp (ST.srt_asc pts)
theorem iS{pts:List Pt}(h:2<=(ST.srt pts).length):am pts=(aj (ST.srt pts)).tail.reverse++(aj (ST.srt pts).reverse).tail.reverse:=by
 unfold am;rw[if_neg (by lia),yS,yS]
theorem bo(pts:List Pt):(am pts).Nodup:=by
 have nd:∀{l:List Pt},l.Pairwise plt->l.Nodup:=λh=>h.imp λ{a b} k e=>by rw[e]at k;exact bA b k
 by_cases h2:2<=(ST.srt pts).length
 ·have hs:=fo pts;obtain⟨mn,mx,t1,t2,e1,e2,m1,m2,Vm,hmx,i1,i2⟩:=AM hs h2;have n1:(mx::t1).Nodup:=by rw[<-e1];exact gN.mp (nd (iz.mp (dH hs)))
  have n2:(mn::t2).Nodup:=by
   rw[<-e2,bV];have:=gN.mp (nd (iz.mp (dH (c6 hs))));refine HV.mpr (this.imp λ{a b} Uy e=>Uy ?_)
   rw[<-hV a,e,hV]
  obtain⟨x1,y1⟩:=Jg.mp n1;obtain⟨x2,y2⟩:=Jg.mp n2;rw[iS h2,e1,e2,JL,JL,Lw];refine⟨gN.mpr y1,gN.mpr y2,λp hp q hq=>?_⟩
  rintro rfl;have p1:p∈t1:=GP.mp hp;have p2:p∈t2:=GP.mp hq;have b1:p∈aj (ST.srt pts):=by rw[e1];exact Gq _ p1
  have b2:p∈aj (ST.srt pts).reverse:=by rw[e2];exact Gq _ p2
  have pr:=b9 _ _ b1;have l1:plt mn p:=(Vm p pr).resolve_left λe=>x2 (by rw[<-e];exact p2)
  have l2:plt p mx:=(hmx p pr).resolve_left λe=>x1 (by rw[<-e];exact p1)
  have d1:=oM hs b1 mn i1 mx i2 l1 l2;have b3:ng p∈aj ((ST.srt pts).reverse.map ng):=by rw[gi];exact GC.mpr ⟨p,b2,rfl⟩
  have d2:=oM (c6 hs) b3 (ng mx) (GC.mpr ⟨mx,GP.mpr i2,rfl⟩) (ng mn) (GC.mpr ⟨mn,GP.mpr i1,rfl⟩) (lX l2) (lX l1);rw[kQ]at d2;unfold av at d1 d2;grind
 ·unfold am;split
  ·exact nd (fo pts)
  ·have e:ST.srt pts=[]:=Ih.mp (by lia)
   rw[e];exact Ql
theorem bU(pts:List Pt):∀p∈am pts,p∈pts:=λp hp=>by
 unfold am at hp;split at hp
 ·exact (ST.srt_mem p pts).mp hp
 ·rcases HU.mp hp with h |h
  ·exact (ST.srt_mem p pts).mp (b9 _ _ (GP.mp (NV _ h)))
  ·exact (ST.srt_mem p pts).mp (GP.mp (b9 _ _ (GP.mp (NV _ h))))
theorem um(pts:List Pt):(am pts).length<=pts.length:=gK (bo pts) (bU pts)
theorem eV(pts:List Pt):am (am pts)=am pts:=by
 by_cases h2:2<=(ST.srt pts).length
 ·have hs:=fo pts;obtain⟨mn,mx,t1,t2,e1,e2,m1,m2,Vm,hmx,i1,i2⟩:=AM hs h2;have ec:=iS h2
  have mem1:∀p∈aj (ST.srt pts),p∈am pts:=λp hp=>by
   rw[ec,e1,e2,JL,JL];rw[e1]at hp;rcases Gx.mp hp with z |z
   ·rw[z];exact GM _ (GP.mpr m2)
   ·exact HX _ (GP.mpr z)
  have mem2:∀p∈aj (ST.srt pts).reverse,p∈am pts:=λp hp=>by
   rw[ec,e1,e2,JL,JL];rw[e2]at hp;rcases Gx.mp hp with z |z
   ·rw[z];exact HX _ (GP.mpr m1)
   ·exact GM _ (GP.mpr z)
  have T3:=fo (am pts);have sub:∀p∈ST.srt (am pts),p∈ST.srt pts:=λp hp=>(ST.srt_mem p pts).mpr (bU pts p ((ST.srt_mem p _).mp hp))
  have q1:=pB hs T3 sub λp hp=>(ST.srt_mem p _).mpr (mem1 p hp)
  have q2:=nT hs T3 sub λp hp=>(ST.srt_mem p _).mpr (mem2 p hp)
  have len:2<=(ST.srt (am pts)).length:=by
   have a1:mn∈ST.srt (am pts):=(ST.srt_mem _ _).mpr (mem1 mn (by rw[e1];exact Gq _ m1))
   have a2:mx∈ST.srt (am pts):=(ST.srt_mem _ _).mpr (mem1 mx (by rw[e1];exact Gy))
   have ne:mn≠mx:=λz=>by
    have nd:=bo pts;rw[ec,e1,e2,JL,JL,Lw]at nd;exact nd.2.2 mn (GP.mpr m1) mx (GP.mpr m2) z
   have:=gK (l:=[mn,mx]) (m:=ST.srt (am pts)) (by simp[ne]) (λx hx=>by
    rcases Gx.mp hx with z |z
    ·rw[z];exact a1
    ·rw[G9.mp z];exact a2)
   exact this
  rw[iS len,q1,q2,<-ec]
 ·have e:am pts=ST.srt pts:=by
   unfold am;split
   ·rfl
   ·have e:ST.srt pts=[]:=Ih.mp (by lia)
    rw[e];rfl
  rw[e];have e3:ST.srt (ST.srt pts)=ST.srt pts:=ST.asc_srt (ST.srt_asc pts);unfold am;rw[e3];split
  ·rfl
  ·have e:ST.srt pts=[]:=Ih.mp (by lia)
   rw[e];rfl
def vX:List U->Out->Prop:=λus o=>∃P Q R:P2,us=[pu P,pu Q,pu R]/\Szp 5000 P/\Szp 5000 Q/\Szp 5000 R/\o=.val (.int (sgn (av P Q R)))
theorem nQ(T:Txt w K mg):aL P w K mg base (CXF P w) 2 T.aaY.a T.aaY.d ["P","Q","R"] (spU K (vX)):=by
 refine a_ T.aaY.F Bg (λus o h=>?_) (λRF A outer s H E O us o hr h=>?_)
 ·obtain⟨P,Q,R,rfl,⟨p1,p2⟩,⟨q1,q2⟩,⟨r1,r2⟩,rfl⟩:=h;rfl
 obtain⟨P,Q,R,rfl,⟨p1,p2⟩,⟨q1,q2⟩,⟨r1,r2⟩,rfl⟩:=h;refine Ws.nox ?_;refine ac (aQ (aC ((tH T).mono (by decide)) hr rfl T.aa5.m T.aa5.F.kp T.aa5.b ar (ae (bP (bH (bP (aM (aa 1 rfl) af rfl rfl) (aM (aa 0 rfl) af rfl rfl)) (bP (aM (aa 2 rfl) af rfl rfl) (aM (aa 0 rfl) af rfl rfl)) (by walk_at"mul")) (bH (bP (aM (aa 1 rfl) af rfl rfl) (aM (aa 0 rfl) af rfl rfl)) (bP (aM (aa 2 rfl) af rfl rfl) (aM (aa 0 rfl) af rfl rfl)) (by walk_at"mul"))) ai bK) ⟨_,rfl,rfl⟩) ?_)
 exact rfl
def kr:List U->Out->Prop:=λus o=>∃row:List P2,us=[lp row]/\(∀p∈row,Szp 5000 p)/\row.length<=900/\o=.new ((aj row).reverse.map pu)
theorem g9(T:Txt w K mg):aL P w K mg base (CXF P w) 3 T.aaq.a T.aaq.d ["row"] (spU K (kr)):=by
 refine a_ T.aaq.F eK (λus o h=>?_) (λRF A outer s H E O us o hr h=>?_)
 ·obtain⟨row,rfl,sz,hl,rfl⟩:=h;rfl
 obtain⟨row,rfl,sz,hl,rfl⟩:=h;refine Ws.nox ?_;refine ac (m8 (i:=1) eK.nd rfl (Or.inl rfl) (cf aZ) ?_);refine ac (fN (λst:List P2=>[some (.val (lp row)),some (.own (st.reverse.map pu)),none]) (λi st=>st=aj (row.take i)) rfl PassesOwn.never (b7 (aa 0 rfl) (.inl rfl)) ?h0 ?hs ?hd)
 case h0=>exact⟨[],rfl,rfl,rfl,trivial⟩
 case hs=>
  rintro H0 i x _ hx rfl;obtain⟨P,hP,mP,rfl⟩:=jH hx;have hi:i<row.length:=aR hP;have sP:=sz P mP;refine⟨_,(ie (i:=2) eK.nd rfl (Or.inl rfl)),?_⟩;have len0:=gL row i;refine kN (λps=>SubP [some (.val (lp row)),some (.own ((be P (aj (row.take i))).reverse.map pu)),some (.val (pu P))] ps) (kz (λs2:List P2=>[some (.val (lp row)),some (.own (s2.reverse.map pu)),some (.val (pu P))]) (λm s2=>m=s2.length/\be P s2=be P (aj (row.take i))/\(∀p∈s2,p∈row)/\s2.length<=i) PassesOwn.never ?h0 ?hs) ?hj
  case h0=>exact⟨_,_,⟨rfl,rfl,λq hq=>eU row i q hq,len0⟩,rfl,rfl,rfl,trivial⟩
  case hs=>
   rintro m s2 ⟨rfl,e2,sub,Ti⟩
   match s2,e2,sub,Ti with
   |[],e2,sub,Ti=>
    refine⟨false,?_,λh=>(nomatch h),λh ps Sv=>e2 ▸ Sv⟩
    exact (Tw.t (oN (ao jo (gx 1 rfl rfl T.aap) af) rfl))
   |[b],e2,sub,Ti=>
    refine⟨false,?_,λh=>(nomatch h),λh ps Sv=>e2 ▸ Sv⟩
    exact (Tw.t (oN (ao jo (gx 1 rfl rfl T.aap) af) rfl))
   |b::a::r,e2,sub,Ti=>
    have sa:=sz a (sub a (by simp))
    have sb:=sz b (sub b (by simp))
    have e1:decide ((1:Int)<((((b::a::r).reverse.map pu).length:Nat):Int))=true:=decide_eq_true (by simp;lia)
    refine⟨decide ((1:Int)<((((b::a::r).reverse.map pu).length:Nat):Int)) && decide (sgn (av a b P)<1),?_,λh=>?_,λh ps Sv=>?_⟩
    ·exact (Tw.t (yh (ao jo (gx 1 rfl rfl T.aap) af) (λhz=>(xm (ao e7 (aC ((nQ T).mono (by decide)) hr rfl T.aaY.m T.aaY.F.kp T.aaY.b ar (ae (uS 1 rfl (cQ af) (Cw b a r)) (ae (uS 1 rfl (cQ af) (CU b (a::r))) (ae (aa 2 rfl) ai ah) aX) aX) ⟨a,b,P,rfl,sa,sb,sP,rfl⟩) af)))))
    ·rw[e1,Ko,Ai]at h;have hd:=dTb h;refine ac (CK 1 rfl (by simp) (au ?_))
     refine⟨_,a::r,?_,⟨rfl,?_,λq hq=>sub q (Gq _ hq),?_⟩,rfl,?_,rfl,trivial⟩
     ·simp
     ·rw[←e2];conv=>rhs;unfold be
      rw[if_pos hd]
     ·simp only[GI]at *;lia
     ·exact congrArg (λl=>some (Sl.own l)) (by simp)
    ·rw[e1,Ko,Ai]at h;have hd:=dFb h
     have e3:be P (b::a::r)=b::a::r:=by conv=>lhs;unfold be
                                        rw[if_neg hd]
     rw[<-e2,e3];exact Sv
  case hj=>
   intro ps Sv;refine dL ?_ Sv;have e4:=fv hP;have len3:=ke P (aj (row.take i));refine ac (iK 1 rfl (aa 2 rfl) (by rw[Gp,Hl];exact ax (by lia)) (au ?_))
   refine⟨_,rfl,rfl,?_,trivial⟩;exact congrArg (λl=>some (Sl.own l)) (by rw[e4];simp)
 case hd=>
  rintro st ps R9 Sv;refine dL ?_ Sv;refine ac (kS 1 rfl ?_);rw[R9];simp
theorem yf{m:Nat}{pts:List P2}(h:∀p∈pts,Szp m p):∀p∈ST.srt pts,Szp m p:=λp hp=>h p ((ST.srt_mem p pts).mp hp)
theorem ix(row:List P2):(aj row).length<=row.length:=by
 have:=gL row row.length
 rwa [IX]at this
def rV:List U->Out->Prop:=λus o=>∃pts:List P2,us=[lp pts]/\(∀p∈pts,Szp 5000 p)/\pts.length<64/\pts≠[]/\o=.new ((am pts).map pu)
theorem k7(T:Txt w K mg):aL P w K mg base (CXF P w) 4 T.aaw.a T.aaw.d ["points"] (spU K (rV)):=by
 refine a_ T.aaw.F gq (λus o h=>?_) (λRF A outer s H E O us o hr h=>?_)
 ·obtain⟨pts,rfl,sz,hl,RL,rfl⟩:=h;rfl
 obtain⟨pts,rfl,sz,hl,RL,rfl⟩:=h;refine Ws.nox ?_;have TF:((pts.map pu).length:Int)=(pts.length:Int):=by rw[Gp]
 have Uq:0<pts.length:=Jx.mpr RL;refine ac (aG (ao fK (aw (bF rfl) rfl T.aap GL (ae (aa 0 rfl) ai ah)) af) (by rw[TF];exact decide_eq_false (by lia)) (au ?_))
 have sl:=ST.srt_len pts;have Vd:(((ST.srt pts).map pu).length:Int)=((ST.srt pts).length:Int):=by rw[Gp]
 have szs:=yf sz;by_cases h1:(ST.srt pts).length=1
 ·refine ac (m8 (i:=1) gq.nd rfl (Or.inl rfl) (gE rfl (ba hr) rfl T.abd rfl T.abp (aa 0 rfl) hl ah) ?_);refine ac (cP (ao fK (gx 1 rfl rfl T.aap) af) (by rw[Vd];exact decide_eq_true (by lia)) ?_)
  refine ac (kS 1 rfl ?_);show Out.new _=Out.new _;unfold am;rw[if_pos h1]
 ·refine ac (aO (i:=1) gq.nd rfl (Or.inl rfl) (EvN.ev (gE rfl (ba hr) rfl T.abd rfl T.abp (aa 0 rfl) hl ah)) ?_);refine ac (aG (ao fK (aw (bF rfl) rfl T.aap GL (ae (aa 1 rfl) ai ah)) af) (by rw[Vd];exact decide_eq_false (by lia)) (au ?_))
  have b1:=ix (ST.srt pts);have b2:=ix (ST.srt pts).reverse;rw[Hl]at b2;refine ac (aO (i:=2) gq.nd rfl (Or.inl rfl) (EvN.ev (bO ((g9 T).mono (by decide)) hr rfl T.aaq.m T.aaq.F.kp T.aaq.b ar (ae (aa 1 rfl) ai ah) ⟨ST.srt pts,rfl,szs,by lia,rfl⟩)) ?_)
  refine ac (aO (i:=3) gq.nd rfl (Or.inl rfl) (EvN.ev (bO ((g9 T).mono (by decide)) hr rfl T.aaq.m T.aaq.F.kp T.aaq.b ar (ae (EvN.ev (EI (aa 1 rfl) (cQ af) (.inl rfl))) ai aX) ⟨(ST.srt pts).reverse,by rw[lp,IY],λp hp=>szs p (GP.mp hp),by rw[Hl];lia,rfl⟩)) ?_)
  refine ac (dA (mQ (EvN.ev (cX (aa 2 rfl) cW (c7 (cQ af)) (.inl rfl))) (EvN.ev (cX (aa 3 rfl) cW (c7 (cQ af)) (.inl rfl))) (by rw[fT,fT,Gp,Gp,IU,IU,Hl,Hl];exact GT (ax (by lia)))) ?_)
  show Out.new _=Out.new _;unfold am;rw[if_neg h1,fT,fT,<-Iu]
theorem lW{l m:List Pt}(h:ST.srt l=ST.srt m):am l=am m:=by unfold am;rw[h]
theorem mH{l m:List Pt}(h:∀z,z∈l↔z∈m):ST.srt l=ST.srt m:=ST.asc_one (ST.srt_asc l) (ST.srt_asc m) λz=>by rw[ST.srt_mem,ST.srt_mem];exact h z
theorem ij{pts:List Pt}(h:¬ 2<=(ST.srt pts).length):am pts=ST.srt pts:=by
 unfold am;split
 ·rfl
 ·have e:ST.srt pts=[]:=Ih.mp (by lia)
  rw[e];rfl
section
variable {f:Pt→Pt}
theorem Bp(hf:∀a b,plt a b->plt (f a) (f b))(l:List Pt):ST.srt (l.map f)=(ST.srt l).map f:=by
 refine ST.asc_one (ST.srt_asc _) (iz.mpr (HV.mpr ((fo l).imp λ{a b} h=>hf a b h))) λz=>?_
 rw[ST.srt_mem,GC,GC];exact⟨λ⟨x,hx,e⟩=>⟨x,(ST.srt_mem x l).mpr hx,e⟩,λ⟨x,hx,e⟩=>⟨x,(ST.srt_mem x l).mp hx,e⟩⟩
theorem uE(hd:∀a b c,av (f a) (f b) (f c)<=0↔av a b c<=0)(P:Pt):∀st:List Pt,be (f P) (st.map f)=(be P st).map f
 |[]=>rfl
 |[_]=>rfl
 |b::a::r=>by
  show be (f P) (f b::f a::r.map f)=_;unfold be;by_cases h:av a b P<=0
  ·rw[if_pos h,if_pos ((hd a b P).mpr h)];exact uE hd P (a::r)
  ·rw[if_neg h,if_neg λz=>h ((hd a b P).mp z)];rfl
theorem mK(hd:∀a b c,av (f a) (f b) (f c)<=0↔av a b c<=0)(row:List Pt):aj (row.map f)=(aj row).map f:=by
 have key:∀(l:List Pt) (st:List Pt),(l.map f).foldl (λst P=>P::be P st) (st.map f)=(l.foldl (λst P=>P::be P st) st).map f:=by
  intro l
  induction l with
  |nil=>intro st;rfl
  |cons p r ih=>
   intro st;rw[GW,Ib,Ib,uE hd];exact ih (p::be p st)
 exact key row []
theorem xu(hf:∀a b,plt a b->plt (f a) (f b))(hd:∀a b c,av (f a) (f b) (f c)<=0↔av a b c<=0)(l:List Pt):am (l.map f)=(am l).map f:=by
 unfold am;rw[Bp hf,Gp,<-IY,mK hd,mK hd];split
 ·rfl
 ·rw[Iu,MS,MS,IY,IY]
end
def scl(k:Int)(p:Pt):Pt:=(k*p.1,k*p.2)
theorem tW(p:Pt):scl 1 p=p:=by unfold scl;simp
def wN:List Int->Int
 |[]=>0
 |a::l=>l.foldl min a
theorem gV:∀(l:List Int) (a:Int),l.foldl min a∈a::l
 |[],a=>by simp
 |b::l,a=>by
  have:=gV l (min a b);rw[Ib];rcases Gx.mp this with e |e
  ·rw[e];rcases NF a b with h |h
   ·rw[Int.min_eq_left h];simp
   ·rw[Int.min_eq_right h];simp
  ·exact Gq _ (Gq _ e)
theorem i0:∀(l:List Int) (a:Int),∀x∈a::l,l.foldl min a<=x
 |[],a,x,h=>by simp at h;rw[h];exact Mf _
 |b::l,a,x,h=>by
  have ih:=i0 l (min a b);rw[Ib];have h0:=ih (min a b) Gy;rcases Gx.mp h with rfl |h
  ·lia
  ·rcases Gx.mp h with rfl |h
   ·lia
   ·exact ih x (Gq _ h)
theorem oA{l:List Int}(h:l≠[]):wN l∈l/\∀a∈l,wN l<=a:=by
 cases l with
 |nil=>exact absurd rfl h
 |cons a l=>exact⟨gV l a,i0 l a⟩
theorem zZ{a b:Int}(h:a<=b):sgn a<=sgn b:=by
 unfold sgn;split <;>split <;>(try split) <;>(try split) <;>lia
theorem A2{l:List Int}(h:l≠[]):sgn (wN l)∈l.map sgn/\∀a∈l.map sgn,sgn (wN l)<=a:=by
 obtain⟨h1,h2⟩:=oA h;refine⟨HS h1,λa ha=>?_⟩
 obtain⟨b,hb,rfl⟩:=GC.mp ha;exact zZ (h2 b hb)
abbrev gp(l:List P2)(i:Nat):P2:=l.getD i (0,0)
def nxt(l:List P2)(i:Nat):P2:=gp l ((i+1)%l.length)
def sdl(l:List P2):List (P2×P2):=(HJ l.length).map λi=>(gp l i,nxt l i)
abbrev pq(s:P2×P2):U:=.tup [pu s.1,pu s.2]
theorem dN{l:List P2}{i:Nat}(h:i<l.length):l[i]?=some (gp l i):=by simp[gp,h]
theorem fZ{l:List P2}{i:Nat}(h:i<l.length):gp l i∈l:=GJ (dN h)
theorem zj(l:List U):iB l (some 1) none=l.drop 1:=by
 unfold iB HT.sIx;cases l with
 |nil=>simp
 |cons a l=>simp
theorem Cs(l:List U):iB l none (some 1)=l.take 1:=by
 unfold iB HT.sIx;cases l with
 |nil=>simp
 |cons a l=>simp
theorem yz(l:List P2):Nz (λa b=>U.tup [a,b]) (l.map pu) (iB (l.map pu) (some 1) none++iB (l.map pu) none (some 1))=(sdl l).map pq:=by
 rw[zj,Cs];apply Kr;intro i;unfold sdl;by_cases hi:i<l.length
 ·have e1:(l.map pu)[i]?=some (pu (gp l i)):=by rw[Gz,dN hi];rfl
  have e2:((l.map pu).drop 1++(l.map pu).take 1)[i]?=some (pu (nxt l i)):=by
   unfold nxt;by_cases hj:i+1<l.length
   ·rw[GG (by simp;lia),JI,QW,Hv hj,Gz,dN hj];rfl
   ·have e:i+1=l.length:=by lia
    rw[GK (by simp;lia),e,NG]
    rw[show i-((l.map pu).drop 1).length=0 by simp;lia,IJ (by lia),Gz,dN (by lia)];rfl
  rw[Jk.mpr ⟨_,_,e1,e2,rfl⟩,G3,Gz,Jy hi];rfl
 ·rw[Hr (by simp;lia),Hr (by simp;lia)]
theorem cJ(l:List P2):(sdl l).length=l.length:=by simp[sdl]
theorem cH{l:List P2}{s:P2×P2}(h:s∈sdl l):s.1∈l/\s.2∈l:=by
 obtain⟨i,hi,rfl⟩:=GC.mp h;have RW:=G8.mp hi;exact⟨fZ RW,fZ (Ja _ (by lia))⟩
def sU:List U->Out->Prop:=λus o=>∃l:List P2,us=[lp l]/\l.length<=900/\o=.new ((sdl l).map pq)
theorem iL(T:Txt w K mg):aL P w K mg base (CXF P w) 1 T.aaF.a T.aaF.d ["land"] (spU K (sU)):=by
 refine a_ T.aaF.F yA (λus o h=>?_) (λRF A outer s H E O us o hr h=>?_)
 ·obtain⟨l,rfl,hl,rfl⟩:=h;rfl
 obtain⟨l,rfl,hl,rfl⟩:=h;refine Ws.nox ?_;have RM:(iB (l.map pu) (some 1) none++iB (l.map pu) none (some 1)).length=l.length:=by rw[zj,Cs];simp;lia
 refine ac (dA (vV rfl rfl T.aby rfl T.abw (aa 0 rfl) (.inl rfl) (EvN.ev (mQ (EvN.ev (cX (aa 0 rfl) (c7 af) cW (.inl rfl))) (EvN.ev (cX (aa 0 rfl) cW (c7 af) (.inl rfl))) (by rw[<-Hb,RM];exact GT (ax (by lia))))) (.inl rfl) (by rw[RM,Gp]) (by rw[Gp];lia) ah bK) ?_)
 rw[yz]
def btw(P Q R:P2):Bool:=decide (av P Q R=0) && (ST.leP P R && ST.leP R Q)
def oE:List U->Out->Prop:=λus o=>∃P Q R:P2,us=[pu P,pu Q,pu R]/\Szp 5000 P/\Szp 5000 Q/\Szp 5000 R/\o=.val (.bl (btw P Q R))
theorem zK(n:Int):decide (sgn n=0)=decide (n=0):=decide_eq_decide.mpr (by unfold sgn;split <;>(try split) <;>lia)
theorem j0(T:Txt w K mg):aL P w K mg base (CXF P w) 3 T.aau.a T.aau.d ["P","Q","R"] (spU K (oE)):=by
 refine a_ T.aau.F jX (λus o h=>?_) (λRF A outer s H E O us o hr h=>?_)
 ·obtain⟨P,Q,R,rfl,p,q,r,rfl⟩:=h;rfl
 obtain⟨P,Q,R,rfl,p,q,r,rfl⟩:=h;refine Ws.nox ?_;refine ac (aQ (CH (jK fK (aC ((nQ T).mono (by decide)) hr rfl T.aaY.m T.aaY.F.kp T.aaY.b ar (ae (aa 0 rfl) (ae (aa 1 rfl) (ae (aa 2 rfl) ai ah) ah) ah) ⟨P,Q,R,rfl,p,q,r,rfl⟩) af) (λhz=>(yo (Bt (Cz (ba hr)) (Cz (ba hr)) (aa 0 rfl) (aa 2 rfl) (aa 1 rfl))))) ?_)
 show Out.val (.bl (decide (sgn (av P Q R)=0) && (ST.leP P R && ST.leP R Q)))=_;rw[zK];rfl
def jd(l:List P2)(p:P2):List Int:=(sdl l).map λs=>av s.1 s.2 p
def whr(l:List P2)(p:P2):Int:=if l.length<3 then (if btw (gp l 0) (gp l (l.length-1)) p=true then 0 else -1) else sgn (wN (jd l p))
def sM:List U->Out->Prop:=λus o=>∃(l:List P2) (p:P2),us=[lp l,pu p]/\0<l.length/\l.length<=900/\(∀q∈l,Szp 5000 q)/\Szp 5000 p/\o=.val (.int (whr l p))
theorem FV{l:List P2}(h:0<l.length):atI (l.map pu) 0=some (pu (gp l 0)):=bI (i:=0) rfl (by rw[Gz,dN h];rfl)
theorem Cc{l:List P2}(h:0<l.length):atI (l.map pu) (-1)=some (pu (gp l (l.length-1))):=by
 have e:ixN (l.map pu).length (-1)=some (l.length-1):=by
  unfold ixN;simp;lia
 unfold atI;rw[e];show (l.map pu)[l.length-1]?=_;rw[Gz,dN (by lia)];rfl
theorem pY(T:Txt w K mg):aL P w K mg base (CXF P w) 4 T.aaT.a T.aaT.d ["land","P"] (spU K (sM)):=by
 refine a_ T.aaT.F ly (λus o h=>?_) (λRF A outer s H E O us o hr h=>?_)
 ·obtain⟨l,p,rfl,h0,hl,sz,sp,rfl⟩:=h;rfl
 obtain⟨l,p,rfl,h0,hl,sz,sp,rfl⟩:=h;refine Ws.nox ?_;have hm:((l.map pu).length:Int)=(l.length:Int):=by rw[Gp]
 have z0:=sz _ (fZ h0);have z1:=sz _ (fZ (l:=l) (i:=l.length-1) (by lia))
 by_cases h3:l.length<3
 ·refine ac (cP (ao e7 (aw (bF rfl) rfl T.aap GL (ae (aa 0 rfl) ai ah)) af) (by rw[hm];exact decide_eq_true (by lia)) ?_)
  refine ac (aQ (CN (gY (aC ((j0 T).mono (by decide)) hr rfl T.aau.m T.aau.F.kp T.aau.b ar (ae (aM (aa 0 rfl) af rfl (FV h0)) (ae (aM (aa 0 rfl) (cQ af) rfl (Cc h0)) (ae (aa 1 rfl) ai ah) aX) aX) ⟨_,_,_,rfl,z0,z1,sp,rfl⟩)) af (cQ af)) ?_)
  unfold whr;rw[if_pos h3];by_cases hb:btw (gp l 0) (gp l (l.length-1)) p=true
  ·rw[if_pos hb,if_pos hb]
  ·rw[if_neg hb,if_neg hb]
 ·refine ac (aG (ao e7 (aw (bF rfl) rfl T.aap GL (ae (aa 0 rfl) ai ah)) af) (by rw[hm];exact decide_eq_false (by lia)) (au ?_))
  refine ac (aQ (aw (DY rfl (A2 (l:=jd l p) (by intro e;have:=congrArg Lp e;simp[jd,cJ]at this;rw[this]at h0;simp at h0))) rfl T.abA boot_min (ae (EvN.ev (cU (ys:=((jd l p).map sgn |>.map U.int)) rfl (blk (ag nS) ["land","P","A","B"] [2,3] rfl rfl rfl rfl (by decide+kernel)) (b7 (EvN.ev (bO ((iL T).mono (by decide)) hr rfl T.aaF.m T.aaF.F.kp T.aaF.b ar (ae (aa 0 rfl) ai ah) ⟨l,rfl,hl,rfl⟩)) (.inl rfl)) (λ_ _ _ _=>dE rfl (aN (aJ (i:=2) ly.nd rfl (Or.inl rfl)) (aN (aJ (i:=3) ly.nd rfl (Or.inl rfl)) cn))) (cS (js:=[2,3]) (by decide)) ?clen ?csz ?dom ?celt)) ai cV)) ?_)
  case clen=>simp[jd]
  case csz=>simp only[jd,cJ,Gp];exact GT (ax (by lia))
  case dom=>
   intro x hx;obtain⟨s,_,rfl⟩:=GC.mp hx;exact⟨_,rfl,rfl⟩
  case celt=>
   intro C s' H' fp j x y hx hy;rw[jd,G3,G3]at hy;obtain⟨s,hs,ms,rfl,rfl⟩:=bW hx hy;obtain⟨m1,m2⟩:=cH ms;exact (aC ((nQ T).mono (by decide)) hr rfl T.aaY.m T.aaY.F.kp T.aaY.b ar (ae (aa 2 rfl) (ae (aa 3 rfl) (ae (aa 1 rfl) ai ah) ah) ah) ⟨s.1,s.2,p,rfl,sz _ m1,sz _ m2,sp,rfl⟩)
  unfold whr;rw[if_neg h3]
def gst(s:P2×P2):Int:=((LP (s.2.1-s.1.1) (s.2.2-s.1.2):Nat):Int)
def crs(s:P2×P2):Int:=s.1.1*s.2.2-s.1.2*s.2.1
def area(l:List P2):Int:=((sdl l).map crs).sum
def b6(l:List P2):Int:=((sdl l).map gst).sum
def pin(l:List P2):Int:=if l.length<3 then 0 else (area l-b6 l+2)/2
def hrt(l:List P2):Bool:=decide (∀s∈sdl l,crs s=gst s)
theorem Bv(s:P2×P2):av s.1 s.2 (0,0)=crs s:=by unfold av crs;grind
theorem rK(s:P2×P2):0<=gst s:=by unfold gst;lia
theorem d8{s:P2×P2}(h:s.1≠s.2):0<gst s:=by
 unfold gst
 have:LP (s.2.1-s.1.1) (s.2.2-s.1.2)≠0:=λe=>by
  have:=Int.gcd_eq_zero_iff.mp e;exact h (Kq (by lia) (by lia))
 lia
theorem Bs(s:P2×P2):gst s ∣ crs s:=by
 have h1:gst s ∣ s.2.1-s.1.1:=JE ..;have h2:gst s ∣ s.2.2-s.1.2:=Jt ..;have e:crs s=s.1.1*(s.2.2-s.1.2)-s.1.2*(s.2.1-s.1.1):=by unfold crs;grind
 rw[e];exact Md (G_ h2 (Hm ..)) (G_ h1 (Hm ..))
def ev(p:P2):Int:=if p.1%2=0/\p.2%2=0 then 1 else 0
theorem BT(s:P2×P2):gst s%2=if s.1.1%2=s.2.1%2/\s.1.2%2=s.2.2%2 then 0 else 1:=by
 split
 ·rename_i h
  have h1:(2:Int) ∣ s.2.1-s.1.1:=by lia
  have h2:(2:Int) ∣ s.2.2-s.1.2:=by lia
  have:(2:Int) ∣ gst s:=Me h1 h2;lia
 ·rename_i h
  have h1:gst s ∣ s.2.1-s.1.1:=JE ..;have h2:gst s ∣ s.2.2-s.1.2:=Jt ..;have h0:=rK s;rcases Lb (gst s) with e |e
  ·exfalso
   have e2:(2:Int) ∣ gst s:=by lia
   have:=G_ e2 h1;have:=G_ e2 h2;omega
  ·exact e
theorem Bl(s:P2×P2):crs s%2=((s.1.1%2) *(s.2.2%2)-(s.1.2%2) *(s.2.1%2))%2:=by
 unfold crs;rw[Q9,Q_,Q_ s.1.2,<-Q9]
theorem par(s:P2×P2):(crs s-gst s)%2=(ev s.1+ev s.2)%2:=by
 have h1:=BT s;have h2:=Bl s;unfold ev;rcases Lb s.1.1 with a |a <;>rcases Lb s.1.2 with b |b <;>rcases Lb s.2.1 with c |c <;>rcases Lb s.2.2 with d |d <;>rw[a,b,c,d]at h1 h2 <;>rw[a,b,c,d] <;>simp at h1 h2 |- <;>lia
theorem tJ(l:List P2):(sdl l).map (·.1)=l:=by
 apply Kr;intro i;unfold sdl;rw[G3];by_cases hi:i<l.length
 ·rw[Gz,Jy hi,dN hi];rfl
 ·rw[Hr (by simp;lia),Hr (by lia)]
theorem Ba(l:List P2):(sdl l).map (·.2)=l.drop 1++l.take 1:=by
 apply Kr;intro i;unfold sdl;rw[G3];by_cases hi:i<l.length
 ·rw[Gz,Jy hi];show some (nxt l i)=_;unfold nxt;by_cases hj:i+1<l.length
  ·rw[GG (by simp;lia),JI,show 1+i=i+1 by lia,Hv hj,dN hj]
  ·have e:i+1=l.length:=by lia
   rw[GK (by simp;lia),e,NG]
   rw[show i-(l.drop 1).length=0 by simp;lia,IJ (by lia),dN (by lia)]
 ·rw[Hr (by simp;lia),Hr (by simp;lia)]
theorem kX{α:Type}(f g:α->Int):∀l:List α,(l.map λs=>f s-g s).sum=(l.map f).sum-(l.map g).sum
 |[]=>rfl
 |a::l=>by simp only[GW,J3,kX f g l];lia
theorem pP{α:Type}(f g:α->Int):∀l:List α,(l.map λs=>f s+g s).sum=(l.map f).sum+(l.map g).sum
 |[]=>rfl
 |a::l=>by simp only[GW,J3,pP f g l];lia
theorem sX{α:Type}(f g:α->Int)(h:∀s,f s%2=g s%2):∀l:List α,(l.map f).sum%2=(l.map g).sum%2
 |[]=>rfl
 |a::l=>by
  have:=sX f g h l;have:=h a;simp only[GW,J3];lia
theorem wC(l:List P2):(area l-b6 l)%2=0:=by
 unfold area b6;rw[<-kX,sX _ (λs=>ev s.1+ev s.2) par,pP]
 have e1:(sdl l).map (λs=>ev s.1)=l.map ev:=by
  have:=congrArg (Ru ev) (tJ l)
  rwa [G3]at this
 have e2:(sdl l).map (λs=>ev s.2)=(l.drop 1++l.take 1).map ev:=by
  have:=congrArg (Ru ev) (Ba l)
  rwa [G3]at this
 rw[e1,e2];cases l with
 |nil=>rfl
 |cons a r=>simp;lia
theorem pF:∀l:List Int,(∀x∈l,0<=x)->0<=l.sum/\(l.sum=0->∀x∈l,x=0)
 |[],_=>⟨Mf _,λ_ x hx=>by simp at hx⟩
 |a::l,h=>by
  have ih:=pF l λx hx=>h x (Gq _ hx)
  have h0:=h a Gy;rw[J3];refine⟨by lia,λe x hx=>?_⟩
  rcases Gx.mp hx with rfl |hx
  ·lia
  ·exact ih.2 (by lia) x hx
theorem yb(l:List P2):jd l (0,0)=(sdl l).map crs:=by unfold jd;exact Jc λs _=>Bv s
theorem uH(n:Int):sgn n=1↔0<n:=by unfold sgn;split <;>(try split) <;>lia
theorem DA{l:List P2}(h3:3<=l.length)(Tf:∀s∈sdl l,s.1≠s.2):(decide (whr l (0,0)=1) && decide (pin l=1))=hrt l:=by
 have RL:jd l (0,0)≠[]:=λe=>by have:=congrArg Lp e;simp[jd,cJ]at this;rw[this]at h3;simp at h3
 have hw:whr l (0,0)=sgn (wN ((sdl l).map crs)):=by unfold whr;rw[if_neg (by lia),yb]
 rw[yb]at RL;obtain⟨lm,ll⟩:=oA RL;have hp:pin l=(area l-b6 l+2)/2:=by unfold pin;rw[if_neg (by lia)]
 have hev:=wC l;unfold hrt;rw[hw,hp,Jv,Hu,decide_eq_true_eq,decide_eq_true_eq,decide_eq_true_eq,uH];constructor
 ·rintro ⟨h1,h2⟩ s hs
  have pos:∀t∈sdl l,gst t<=crs t:=λt ht=>by
   have:=ll (crs t) (HS ht);exact QP (by lia) (Bs t)
  have z:=pF ((sdl l).map λt=>crs t-gst t) (λx hx=>by
   obtain⟨t,ht,rfl⟩:=GC.mp hx;have:=pos t ht;lia)
  rw[kX]at z
  have z0:area l-b6 l=0:=by
   have:0<=area l-b6 l:=z.1;lia
  have:=z.2 z0 (crs s-gst s) (GC.mpr ⟨s,hs,rfl⟩);lia
 ·intro h;constructor
  ·obtain⟨t,ht,e⟩:=GC.mp lm;rw[<-e,h t ht];exact d8 (Tf t ht)
  ·have e:(sdl l).map crs=(sdl l).map gst:=Jc h;have:area l=b6 l:=by unfold area b6;rw[e]
   lia
theorem D6{l:List P2}(h2:l.length=2)(Tf:∀s∈sdl l,s.1≠s.2):(decide (whr l (0,0)=1) && decide (pin l=1))=hrt l:=by
 match l,h2 with
 |[a,b],_=>
  have hs:sdl [a,b]=[(a,b),(b,a)]:=by simp[sdl,nxt,gp,HJ,RA]
  have e1:hrt [a,b]=false:=by
   unfold hrt;rw[decide_eq_false_iff_not,hs];intro h;have k1:=h (a,b) (by simp)
   have k2:=h (b,a) (by simp)
   have p1:=d8 (Tf (a,b) (by rw[hs];simp))
   have p2:=d8 (Tf (b,a) (by rw[hs];simp))
   have:crs (a,b)=- crs (b,a):=by unfold crs;grind
   lia
  have e2:whr [a,b] (0,0)≠1:=by
   unfold whr;rw[if_pos (by simp)]
   split <;>decide
  rw[e1,decide_eq_false e2];rfl
theorem fO{l:List P2}(hn:l.Nodup)(h2:2<=l.length):∀s∈sdl l,s.1≠s.2:=λs hs e=>by
 obtain⟨i,hi,rfl⟩:=GC.mp hs;have RW:=G8.mp hi;have hj:(i+1)%l.length<l.length:=Ja _ (by lia)
 have e':gp l i=gp l ((i+1)%l.length):=e;have:l[i]?=l[(i+1)%l.length]?:=by rw[dN RW,dN hj,e']
 have:=(Lz RW hn).mp this;by_cases hk:i+1<l.length
 ·rw[Hv hk]at this;lia
 ·have e:i+1=l.length:=by lia
  rw[e,NG]at this;lia
theorem pI{l:List P2}(hn:l.Nodup)(h2:2<=l.length):(decide (whr l (0,0)=1) && decide (pin l=1))=hrt l:=by
 have Tf:=fO hn h2;by_cases h3:3<=l.length
 ·exact DA h3 Tf
 ·exact D6 (by lia) Tf
theorem yX{m n:Nat}{k:Int}{p:P2}(sk:Sz n k)(s:Szp m p):Szp (n+m) (scl k p):=⟨L2.Sz.mul sk s.1,L2.Sz.mul sk s.2⟩
def wa:List U->Out->Prop:=λus o=>∃(pts:List P2) (k:Int),us=[lp pts,.int k]/\Sz 1000 k/\(∀p∈pts,Szp 3000 p)/\pts≠[]/\pts.length<64/\o=.new ((am (pts.map (scl k))).map pu)
theorem AC(T:Txt w K mg):aL P w K mg base (CXF P w) 5 T.abh.a T.abh.d ["land","k"] (spU K (wa)):=by
 refine a_ T.abh.F tX (λus o h=>?_) (λRF A outer s H E O us o hr h=>?_)
 ·obtain⟨pts,k,rfl,sk,sz,RL,hl,rfl⟩:=h;rfl
 obtain⟨pts,k,rfl,sk,sz,RL,hl,rfl⟩:=h;refine Ws.nox ?_;refine ac (dA (bO ((k7 T).mono (by decide)) hr rfl T.aaw.m T.aaw.F.kp T.aaw.b ar (ae (EvN.ev (cU (ys:=(pts.map λp=>pu (scl k p))) rfl (blk (ag rq) ["land","k","P"] [2] rfl rfl rfl rfl (by decide+kernel)) (b7 (aa 0 rfl) (.inl rfl)) (λ_ _ _ _=>aJ (i:=2) tX.nd rfl (Or.inl rfl)) (c_ (by decide)) ?clen ?csz (λ_ _=>trivial) ?celt)) ai cV) ⟨pts.map (scl k),by rw[lp,G3];rfl,λp hp=>by obtain⟨q,hq,rfl⟩:=GC.mp hp;have z:=yX sk (sz q hq);exact⟨z.1.mono (by decide),z.2.mono (by decide)⟩,by rw[Gp];exact hl,by simpa using RL,rfl⟩) ?_)
 case clen=>simp
 case csz=>rw[Gp];exact GT (ax (by lia))
 case celt=>
  intro C s' H' fp j x y hx hy;obtain⟨p,hp,mp,rfl,rfl⟩:=bW hx hy;have s1:=(sz p mp).1;have s2:=(sz p mp).2;exact (bp (ak (bH (aa 1 rfl) (aM (aa 2 rfl) af rfl rfl) (by walk_at"mul")) (ak (bH (aa 1 rfl) (aM (aa 2 rfl) af rfl rfl) (by walk_at"mul")) aZ bK) bK))
 exact rfl
theorem dh{m n:Nat}{l:List P2}(h:m<=n)(k:∀p∈l,Szp m p):∀p∈l,Szp n p:=λp hp=>⟨(k p hp).1.mono h,(k p hp).2.mono h⟩
def wE:List U->Out->Prop:=λus o=>∃l:List P2,us=[lp l]/\l.length<=900/\(∀p∈l,Szp 2500 p)/\o=.val (.int (area l))
theorem kW(T:Txt w K mg):aL P w K mg base (CXF P w) 2 T.aay.a T.aay.d ["land"] (spU K (wE)):=by
 refine a_ T.aay.F d0 (λus o h=>?_) (λRF A outer s H E O us o hr h=>?_)
 ·obtain⟨l,rfl,hl,sz,rfl⟩:=h;rfl
 obtain⟨l,rfl,hl,sz,rfl⟩:=h;refine Ws.nox ?_;refine ac (aQ (aw (sN rfl ) rfl T.abB boot_sum (ae (EvN.ev (cU (ys:=(((sdl l).map crs).map U.int)) rfl (blk (ag eJ) ["land","A","B"] [1,2] rfl rfl rfl rfl (by decide+kernel)) (b7 (EvN.ev (bO ((iL T).mono (by decide)) hr rfl T.aaF.m T.aaF.F.kp T.aaF.b ar (ae (aa 0 rfl) ai ah) ⟨l,rfl,hl,rfl⟩)) (.inl rfl)) (λ_ _ _ _=>dE rfl (aN (aJ (i:=1) d0.nd rfl (Or.inl rfl)) (aN (aJ (i:=2) d0.nd rfl (Or.inl rfl)) cn))) (cS (js:=[1,2]) (by decide)) ?clen ?csz ?dom ?celt)) ai cV)) ?_)
 case clen=>simp
 case csz=>simp only[cJ,Gp];exact GT (ax (by lia))
 case dom=>
  intro x hx;obtain⟨s,_,rfl⟩:=GC.mp hx;exact⟨_,rfl,rfl⟩
 case celt=>
  intro C s' H' fp j x y hx hy;rw[G3]at hy;obtain⟨s,hs,ms,rfl,rfl⟩:=bW hx hy;obtain⟨m1,m2⟩:=cH ms;have z1:=(sz _ m1).1;have z2:=(sz _ m1).2;have z3:=(sz _ m2).1;have z4:=(sz _ m2).2;exact (bP (bH (aM (aa 1 rfl) af rfl rfl) (aM (aa 2 rfl) af rfl rfl) (by walk_at"mul")) (bH (aM (aa 1 rfl) af rfl rfl) (aM (aa 2 rfl) af rfl rfl) (by walk_at"mul")))
 exact rfl
def xD:List U->Out->Prop:=λus o=>∃l:List P2,us=[lp l]/\3<=l.length/\l.length<=900/\(∀p∈l,Szp 2500 p)/\o=.val (.int (b6 l))
theorem Aq(T:Txt w K mg):aL P w K mg base (CXF P w) 4 T.abc.a T.abc.d ["land"] (spU K (xD)):=by
 refine a_ T.abc.F rB (λus o h=>?_) (λRF A outer s H E O us o hr h=>?_)
 ·obtain⟨l,rfl,h3,hl,sz,rfl⟩:=h;rfl
 obtain⟨l,rfl,h3,hl,sz,rfl⟩:=h;refine Ws.nox ?_;have hm:((l.map pu).length:Int)=(l.length:Int):=by rw[Gp]
 refine ac (aG (ao e7 (aw (bF rfl) rfl T.aap GL (ae (aa 0 rfl) ai ah)) af) (by rw[hm];exact decide_eq_false (by lia)) (au ?_))
 refine ac (aQ (aw (sN rfl ) rfl T.abB boot_sum (ae (EvN.ev (cU (ys:=(((sdl l).map gst).map U.int)) rfl (blk (ag xR) ["land","A","B"] [1,2] rfl rfl rfl rfl (by decide+kernel)) (b7 (EvN.ev (bO ((iL T).mono (by decide)) hr rfl T.aaF.m T.aaF.F.kp T.aaF.b ar (ae (aa 0 rfl) ai ah) ⟨l,rfl,hl,rfl⟩)) (.inl rfl)) (λ_ _ _ _=>dE rfl (aN (aJ (i:=1) rB.nd rfl (Or.inl rfl)) (aN (aJ (i:=2) rB.nd rfl (Or.inl rfl)) cn))) (cS (js:=[1,2]) (by decide)) ?clen ?csz ?dom ?celt)) ai cV)) ?_)
 case clen=>simp
 case csz=>simp only[cJ,Gp];exact GT (ax (by lia))
 case dom=>
  intro x hx;obtain⟨s,_,rfl⟩:=GC.mp hx;exact⟨_,rfl,rfl⟩
 case celt=>
  intro C s' H' fp j x y hx hy;rw[G3]at hy;obtain⟨s,hs,ms,rfl,rfl⟩:=bW hx hy;obtain⟨m1,m2⟩:=cH ms;obtain⟨cs,ct,G⟩:=qk (s.2.1-s.1.1) (s.2.2-s.1.2);exact (aC ((qo T).mono (by decide)) hr rfl T.aaX.m T.aaX.F.kp T.aaX.b ar (ae (aa 1 rfl) (ae (aa 2 rfl) ai ah) ah) ⟨_,_,_,_,_,cs,ct,rfl,⟨(sz _ m1).1.mono (by decide),(sz _ m1).2.mono (by decide),(sz _ m2).1.mono (by decide),(sz _ m2).2.mono (by decide)⟩,G,rfl⟩)
 exact rfl
def vh:List U->Out->Prop:=λus o=>∃(pts:List P2) (k:Int),us=[lp pts,.int k]/\0<=k/\Sz 1000 k/\(∀p∈pts,Szp 3000 p)/\pts≠[]/\pts.length<64/\o=.new ((am (pts.map (scl k))).map pu)
theorem qc(T:Txt w K mg):aL P w K mg base (CXF P w) 6 T.aaU.a T.aaU.d ["land","k"] (spU K (vh)):=by
 refine a_ T.aaU.F qz (λus o h=>?_) (λRF A outer s H E O us o hr h=>?_)
 ·obtain⟨pts,k,rfl,k0,sk,sz,RL,hl,rfl⟩:=h;rfl
 obtain⟨pts,k,rfl,k0,sk,sz,RL,hl,rfl⟩:=h;refine Ws.nox ?_;refine ac (aG (ao e7 (aa 1 rfl) af) (decide_eq_false (by lia)) (au ?_))
 refine ac (dA (bO ((AC T).mono (by decide)) hr rfl T.abh.m T.abh.F.kp T.abh.b ar (ae (aa 0 rfl) (ae (aa 1 rfl) ai ah) ah) ⟨pts,k,rfl,sk,sz,RL,hl,rfl⟩) ?_)
 exact rfl
def xH:List U->Out->Prop:=λus o=>∃l:List P2,us=[lp l]/\l.length<=900/\(∀p∈l,Szp 2500 p)/\o=.val (.int (pin l))
theorem n5(T:Txt w K mg):aL P w K mg base (CXF P w) 5 T.aaQ.a T.aaQ.d ["land"] (spU K (xH)):=by
 refine a_ T.aaQ.F nI (λus o h=>?_) (λRF A outer s H E O us o hr h=>?_)
 ·obtain⟨l,rfl,hl,sz,rfl⟩:=h;rfl
 obtain⟨l,rfl,hl,sz,rfl⟩:=h;refine Ws.nox ?_;have hm:((l.map pu).length:Int)=(l.length:Int):=by rw[Gp]
 by_cases h3:l.length<3
 ·refine ac (cP (ao e7 (aw (bF rfl) rfl T.aap GL (ae (aa 0 rfl) ai ah)) af) (by rw[hm];exact decide_eq_true (by lia)) ?_)
  refine ac (aQ af ?_);exact vIO (by unfold pin;rw[if_pos h3])
 ·refine ac (aG (ao e7 (aw (bF rfl) rfl T.aap GL (ae (aa 0 rfl) ai ah)) af) (by rw[hm];exact decide_eq_false (by lia)) (au ?_))
  refine ac (aQ (iw (dj (bP (aC ((kW T).mono (by decide)) hr rfl T.aay.m T.aay.F.kp T.aay.b ar (ae (aa 0 rfl) ai ah) ⟨l,rfl,hl,sz,rfl⟩) (aC ((Aq T).mono (by decide)) hr rfl T.abc.m T.abc.F.kp T.abc.b ar (ae (aa 0 rfl) ai ah) ⟨l,rfl,by lia,hl,sz,rfl⟩)) af) af (by walk_at"div")) ?_)
  exact vIO (by unfold pin;rw[if_neg h3])
def sK:List U->Out->Prop:=λus o=>∃(pts:List P2) (k:Int),us=[lp pts,.int k]/\0<=k/\Sz 1000 k/\(∀p∈pts,Szp 1500 p)/\pts≠[]/\pts.length<64/\o=.val (.int (pin (am (pts.map (scl k)))))
theorem fJ(T:Txt w K mg):aL P w K mg base (CXF P w) 7 T.aao.a T.aao.d ["land","k"] (spU K (sK)):=by
 refine Em T.aao.F kU (λus o h=>?_) (λRF A outer s H E O us o hr h=>?_)
 ·obtain⟨pts,k,rfl,k0,sk,sz,RL,hl,rfl⟩:=h;rfl
 obtain⟨pts,k,rfl,k0,sk,sz,RL,hl,rfl⟩:=h;refine Ws.nox ?_;have cl:(am (pts.map (scl k))).length<=900:=HD (um _) (by rw[Gp];lia)
 have cz:∀p∈am (pts.map (scl k)),Szp 2500 p:=λp hp=>by
  obtain⟨q,hq,rfl⟩:=GC.mp (bU _ p hp);exact yX sk (sz q hq)
 refine ac (aQ (aC ((n5 T).mono (by decide)) hr rfl T.aaQ.m T.aaQ.F.kp T.aaQ.b ar (ae (EvN.ev (bO ((qc T).mono (by decide)) hr rfl T.aaU.m T.aaU.F.kp T.aaU.b ar (ae (aa 0 rfl) (ae (aa 1 rfl) ai ah) ah) ⟨pts,k,rfl,k0,sk,dh (by decide) sz,RL,hl,rfl⟩)) ai bg) ⟨_,rfl,cl,cz,rfl⟩) ?_)
 exact rfl
def qe:List U->Out->Prop:=λus o=>∃(l:List P2),us=[lp l]/\(∀p∈l,Szp 1500 p)/\l≠[]/\l.length<64/\o=.val (.bl (decide (whr l (0,0)=1) && decide (pin (am (l.map (scl 1)))=1)))
theorem jx(T:Txt w K mg):aL P w K mg base (CXF P w) 8 T.aaz.a T.aaz.d ["land"] (spU K (qe)):=by
 refine a_ T.aaz.F ph (λus o h=>?_) (λRF A outer s H E O us o hr h=>?_)
 ·obtain⟨l,rfl,sz,RL,hl,rfl⟩:=h;rfl
 obtain⟨l,rfl,sz,RL,hl,rfl⟩:=h;refine Ws.nox ?_;have h0:0<l.length:=Jx.mpr RL;refine ac (aQ (CH (jK fK (aC ((pY T).mono (by decide)) hr rfl T.aaT.m T.aaT.F.kp T.aaT.b ar (ae (aa 0 rfl) (ae (bp (ak af (ak af aZ ay) ay)) ai cO) ah) ⟨l,(0,0),rfl,h0,by lia,dh (by decide) sz,⟨Sz.mono (m:=8) (by decide) (by decide),Sz.mono (m:=8) (by decide) (by decide)⟩,rfl⟩) af) (λhz=>(yo (jK fK (AU ((fJ T).mono (by decide)) hr rfl T.aao.m T.aao.F.kp T.aao.bd ar (ae (aa 0 rfl) ai ah) ⟨l,1,rfl,by decide,Sz.mono (m:=8) (by decide) (by decide),sz,RL,hl,rfl⟩) af)))) ?_)
 exact rfl
theorem ql{done:List Pt}:∀{st:List Pt},h_ done st->∀(k:Nat) {a b:Pt},st[k]?=some b->st[k+1]?=some a->∀q∈done,0<=av a b q
 |[],_,k,_,_,h,_=>by simp at h
 |[_],_,k,_,_,_,h=>by simp at h
 |x::y::r,C,0,a,b,h1,h2=>by
  simp at h1 h2;subst h1;subst h2;exact C.1
 |x::y::r,C,k+1,a,b,h1,h2=>ql C.2 k (by simpa using h1) (by simpa using h2)
theorem qB:∀{st:List Pt},jS st->∀(k:Nat) {a b c:Pt},st[k]?=some c->st[k+1]?=some b->st[k+2]?=some a->0<av a b c
 |[],_,k,_,_,_,h,_,_=>by simp at h
 |[_],_,k,_,_,_,_,h,_=>by simp at h
 |[_,_],_,k,_,_,_,_,_,h=>by simp at h
 |x::y::z::r,C,0,a,b,c,h1,h2,h3=>by
  simp at h1 h2 h3;subst h1;subst h2;subst h3;exact C.1
 |x::y::z::r,C,k+1,a,b,c,h1,h2,h3=>qB C.2 k (by simpa using h1) (by simpa using h2) (by simpa using h3)
theorem yu{st:List Pt}{i:Nat}{a b:Pt}(h1:st.reverse[i]?=some a)(h2:st.reverse[i+1]?=some b):∃k,st[k]?=some b/\st[k+1]?=some a:=by
 have l2:i+1<st.length:=by have:=(GB.mp h2).1;simpa using this
 rw[Ie (by lia)]at h1
 rw[Ie l2]at h2;exact⟨st.length-1-(i+1),h2,by rw[<-h1];congr 1;lia⟩
theorem vy{st:List Pt}{i:Nat}{a b c:Pt}(h1:st.reverse[i]?=some a)(h2:st.reverse[i+1]?=some b)(h3:st.reverse[i+2]?=some c):∃k,st[k]?=some c/\st[k+1]?=some b/\st[k+2]?=some a:=by
 have l3:i+2<st.length:=by have:=(GB.mp h3).1;simpa using this
 rw[Ie (by lia)]at h1
 rw[Ie (by lia)]at h2
 rw[Ie l3]at h3;exact⟨st.length-1-(i+2),h3,by rw[<-h2];congr 1;lia,by rw[<-h1];congr 1;lia⟩
theorem gf{row:List Pt}(hs:row.Pairwise plt)(h:row≠[]){i:Nat}{a b:Pt}(h1:(aj row).reverse[i]?=some a)(h2:(aj row).reverse[i+1]?=some b):∀q∈row,0<=av a b q:=by
 obtain⟨k,e1,e2⟩:=yu h1 h2;exact ql (cj hs h).1.cover k e1 e2
theorem ip{row:List Pt}(hs:row.Pairwise plt)(h:row≠[]){i:Nat}{a b c:Pt}(h1:(aj row).reverse[i]?=some a)(h2:(aj row).reverse[i+1]?=some b)(h3:(aj row).reverse[i+2]?=some c):0<av a b c:=by
 obtain⟨k,e1,e2,e3⟩:=vy h1 h2 h3;exact qB (cj hs h).1.turns k e1 e2 e3
theorem fC{row:List Pt}{i:Nat}{a:Pt}(h1:(aj row.reverse).reverse[i]?=some a):(aj (row.reverse.map ng)).reverse[i]?=some (ng a):=by
 rw[bV,<-IY,Gz]at h1;cases e:(aj (row.reverse.map ng)).reverse[i]? with
 |none=>rw[e]at h1;cases h1
 |some z=>rw[e]at h1;cases h1;rw[hV]
theorem lZ{row:List Pt}(hs:row.Pairwise plt)(h:row≠[]){i:Nat}{a b:Pt}(h1:(aj row.reverse).reverse[i]?=some a)(h2:(aj row.reverse).reverse[i+1]?=some b):∀q∈row,0<=av a b q:=λq hq=>by
 have:=gf (c6 hs) (by simpa using h) (fC h1) (fC h2) (ng q) (HS (GP.mpr hq))
 rwa [kQ]at this
theorem my{row:List Pt}(hs:row.Pairwise plt)(h:row≠[]){i:Nat}{a b c:Pt}(h1:(aj row.reverse).reverse[i]?=some a)(h2:(aj row.reverse).reverse[i+1]?=some b)(h3:(aj row.reverse).reverse[i+2]?=some c):0<av a b c:=by
 have:=ip (c6 hs) (by simpa using h) (fC h1) (fC h2) (fC h3)
 rwa [kQ]at this
theorem xN{u1 u2 v1 v2 w1 w2:Int}(hu:gQ u1 u2)(hv:gQ v1 v2)(h0:u1*v2-u2*v1=0)(h1:u1*w2-u2*w1<=0)(h2:0<=v1*w2-v2*w1):u1*w2-u2*w1=0/\v1*w2-v2*w1=0:=by
 have e1:v1*(u1*w2-u2*w1)=u1*(v1*w2-v2*w1):=by grind
 have e2:v2*(u1*w2-u2*w1)=u2*(v1*w2-v2*w1):=by grind
 have RR:∀{s t A B:Int},0<s->0<t->s*A=t*B->A<=0->0<=B->A=0/\B=0:=λ{s t A B} hs ht e ha hb=>by
  have k1:s*A<=0:=Int.mul_nonpos_of_nonneg_of_nonpos (by lia) ha
  have k2:0<=t*B:=Ht (by lia) hb
  have z1:s*A=0:=by lia
  have z2:t*B=0:=by lia
  refine⟨(Jz.mp z1).resolve_left (by lia),(Jz.mp z2).resolve_left (by lia)⟩
 rcases hu with hu |⟨hu,hu2⟩
 ·rcases hv with hv |⟨hv,Vv⟩
  ·exact RR hv hu e1 h1 h2
  ·rw[hv]at h0;have:=IE hu Vv;lia
 ·rcases hv with hv |⟨hv,Vv⟩
  ·rw[hu]at h0;have:=IE hu2 hv;lia
  ·exact RR Vv hu2 e2 h1 h2
theorem v5{a m c:Pt}(ha:plt a m)(hc:plt c m)(h:av a m c=0){q:Pt}(h1:0<=av a m q)(h2:0<=av m c q):av a m q=0/\av m c q=0:=by
 have k:=xN (w1:=m.1-q.1) (w2:=m.2-q.2) (bv ha) (bv hc) (by unfold av at h;grind) (by unfold av at h1;grind) (by unfold av at h2;grind)
 unfold av;exact⟨by grind,by grind⟩
theorem Bd(a b c:Pt):av a b c=av b c a:=by unfold av;grind
theorem EC{row:List Pt}(hs:row.Pairwise plt)(RL:row≠[]){i:Nat}{a m c:Pt}(h1:(aj row).reverse[i]?=some a)(h2:(aj row).reverse[i+1]?=some m)(hl:(aj row).length=i+2)
  (h3:(aj row.reverse).reverse[0]?=some m) (h4:(aj row.reverse).reverse[1]?=some c) (ha:plt a m) (hc:plt c m) (big:2<(aj row).length\/2<(aj row.reverse).length):0<av a m c:=by
 have mem:∀{j:Nat}{p:Pt},(aj row).reverse[j]?=some p->p∈row:=λh=>b9 row _ (GP.mp (GJ h))
 have memR:∀{j:Nat}{p:Pt},(aj row.reverse).reverse[j]?=some p->p∈row:=λh=>GP.mp (b9 _ _ (GP.mp (GJ h)))
 have cv:=gf hs RL h1 h2;have cb:=lZ hs RL h3 h4;have h0:=cv c (memR h4);rcases Ou h0 with z |z
 ·exact z
 ·exfalso
  have flat:∀q∈row,av a m q=0/\av m c q=0:=λq hq=>v5 ha hc z.symm (cv q hq) (cb q hq)
  rcases big with b |b
  ·have hi:0<i:=by lia
   have hx:i-1<(aj row).reverse.length:=by simp;lia
   have e:=Gm hx;have t:=ip hs RL e (by rw[Nat.sub_add_cancel hi];exact h1) (by rw[show i-1+2=i+1 by lia];exact h2)
   rw[Bd,(flat _ (mem e)).1]at t;lia
  ·have hx:2<(aj row.reverse).reverse.length:=by simpa using b
   have e:=Gm hx;have t:=my hs RL h3 h4 e;rw[(flat _ (memR e)).2]at t;lia
structure DN(row T B:List Pt)(mn mx:Pt):Prop where
 t0:T[0]?=some mn
 t1:T[T.length-1]?=some mx
 b0:B[0]?=some mx
 b1:B[B.length-1]?=some mn
 lt:2<=T.length
 lb:2<=B.length
 least:∀p∈row,p=mn\/plt mn p
 most:∀p∈row,p=mx\/plt p mx
theorem CF{l:List Pt}:l.reverse[0]?=l.getLast?:=by rw[List.getLast?_eq_head?_reverse,Kc]
theorem Cj{l:List Pt}:l.reverse[l.reverse.length-1]?=l.head?:=by rw[<-Iw,LK]
theorem Ge{row:List Pt}(hs:row.Pairwise plt)(h2:2<=row.length):∃mn mx,DN row (aj row).reverse (aj row.reverse).reverse mn mx:=by
 have RL:row≠[]:=λz=>by rw[z]at h2;simp at h2
 obtain⟨mn,mx,t1,t2,e1,e2,m1,m2,least,most,_,_⟩:=AM hs h2;obtain⟨K,hl,hh⟩:=cj hs RL;obtain⟨KR,hlR,hhR⟩:=cj (c6 hs) (by simpa using RL)
 have l1:2<=(aj row).length:=by rw[e1];have:=IZ m1;simp;lia
 have l2:2<=(aj row.reverse).length:=by rw[e2];have:=IZ m2;simp;lia
 have hd:row.head?=some row[0]:=by rw[Kc];exact Gm (by lia)
 have ld:row.getLast?=some row[row.length-1]:=by rw[Iw];exact Gm (by lia)
 have q1:row[0]=mn:=by
  have hb:=hhR;rw[Ly,LK,hd]at hb;have:(aj row.reverse).head?=some row[0]:=by rw[bV,MB,hb];simp[hV]
  rw[e2]at this;exact (Hq this).symm
 have q2:row[row.length-1]=mx:=by
  rw[ld,e1]at hh;exact (Hq hh).symm
 refine⟨mn,mx,?_,?_,?_,?_,by simpa using l1,by simpa using l2,least,most⟩
 ·rw[CF,hl,hd,q1]
 ·rw[Cj,hh,ld,q2]
 ·rw[CF,bV,Ly,hlR,MB,Ot,ld,q2];simp[hV]
 ·rw[Cj,e2];rfl
section
variable {row T B:List Pt}{mn mx:Pt}
theorem gw(W:DN row T B mn mx){k:Nat}(hk:k<=T.length-1):(T.dropLast++B.dropLast)[k%(T.dropLast++B.dropLast).length]?=T[k]?:=by
 have h1:=W.lt;have h2:=W.lb;have hn:(T.dropLast++B.dropLast).length=T.length-1+(B.length-1):=by simp
 rw[hn,Hv (by lia)]
 by_cases h:k<T.length-1
 ·rw[GG (by simpa using h),J_,if_pos h]
 ·obtain rfl:k=T.length-1:=by lia
  rw[GK (by simp),IU,Q4,J_,if_pos (by lia),W.b0,W.t1]
theorem j8(W:DN row T B mn mx){k:Nat}(h0:T.length-1<=k)(hk:k<=T.length-1+(B.length-1)):(T.dropLast++B.dropLast)[k%(T.dropLast++B.dropLast).length]?=B[k-(T.length-1)]?:=by
 have h1:=W.lt;have h2:=W.lb;have hn:(T.dropLast++B.dropLast).length=T.length-1+(B.length-1):=by simp
 by_cases h:k<T.length-1+(B.length-1)
 ·rw[hn,Hv h,GK (by simpa using h0),IU,J_,if_pos (by lia)]
 ·obtain rfl:k=T.length-1+(B.length-1):=by lia
  have:=gw W (k:=0) (by lia)
  rw[Nat.zero_mod]at this;rw[hn,NG,this,W.t0,show T.length-1+(B.length-1)-(T.length-1)=B.length-1 by lia,W.b1]
end
theorem some_of{l:List Pt}{i:Nat}(h:i<l.length):∃a,l[i]?=some a:=⟨_,Gm h⟩
theorem lE{pts:List Pt}(h2:2<=(ST.srt pts).length){i:Nat}(hi:i<(am pts).length):∃a b,(am pts)[i]?=some a/\(am pts)[(i+1)%(am pts).length]?=some b/\(∀p∈pts,0<=av a b p)/\(2<(am pts).length->∃c,(am pts)[(i+2)%(am pts).length]?=some c/\0<av a b c):=by
 have hs:=fo pts;have RL:ST.srt pts≠[]:=λz=>by rw[z]at h2;simp at h2
 obtain⟨mn,mx,W⟩:=Ge hs h2;have UZ:∀p∈pts,p∈ST.srt pts:=λp hp=>(ST.srt_mem p pts).mpr hp
 have hc:am pts=(aj (ST.srt pts)).reverse.dropLast++(aj (ST.srt pts).reverse).reverse.dropLast:=by
  unfold am;rw[if_neg (by lia)]
 have tc:∀{j:Nat}{a b:Pt},(aj (ST.srt pts)).reverse[j]?=some a->(aj (ST.srt pts)).reverse[j+1]?=some b->∀q∈ST.srt pts,0<=av a b q:=λh h'=>gf hs RL h h'
 have tt:∀{j:Nat}{a b c:Pt},(aj (ST.srt pts)).reverse[j]?=some a->(aj (ST.srt pts)).reverse[j+1]?=some b->(aj (ST.srt pts)).reverse[j+2]?=some c->0<av a b c:=λh h' h''=>ip hs RL h h' h''
 have bc:∀{j:Nat}{a b:Pt},(aj (ST.srt pts).reverse).reverse[j]?=some a->(aj (ST.srt pts).reverse).reverse[j+1]?=some b->∀q∈ST.srt pts,0<=av a b q:=λh h'=>lZ hs RL h h'
 have bt:∀{j:Nat}{a b c:Pt},(aj (ST.srt pts).reverse).reverse[j]?=some a->(aj (ST.srt pts).reverse).reverse[j+1]?=some b->(aj (ST.srt pts).reverse).reverse[j+2]?=some c->0<av a b c:=λh h' h''=>my hs RL h h' h''
 have memT:∀{j:Nat}{p:Pt},(aj (ST.srt pts)).reverse[j]?=some p->p∈ST.srt pts:=λh=>b9 _ _ (GP.mp (GJ h))
 have memB:∀{j:Nat}{p:Pt},(aj (ST.srt pts).reverse).reverse[j]?=some p->p∈ST.srt pts:=λh=>GP.mp (b9 _ _ (GP.mp (GJ h)))
 have ndT:(aj (ST.srt pts)).reverse.Nodup:=(dH hs).imp λ{a b} h e=>by subst e;exact bA _ ((n8 _ _).mpr h)
 have ndB:(aj (ST.srt pts).reverse).reverse.Nodup:=by
  rw[bV,<-IY];have ndR:(aj ((ST.srt pts).reverse.map ng)).reverse.Nodup:=(dH (c6 hs)).imp λ{a b} h e=>by subst e;exact bA _ ((n8 _ _).mpr h)
  exact Ks _ (λa b (h:a≠b) e=>h (by have:=congrArg ng e;rwa [hV,hV]at this)) ndR
 have m1:∀{j:Nat}{a m c:Pt},(aj (ST.srt pts)).reverse[j]?=some a->(aj (ST.srt pts)).reverse[j+1]?=some m->(aj (ST.srt pts)).length=j+2->(aj (ST.srt pts).reverse).reverse[0]?=some m->(aj (ST.srt pts).reverse).reverse[1]?=some c->plt a m->plt c m->2<(aj (ST.srt pts)).length\/2<(aj (ST.srt pts).reverse).length->0<av a m c:=λa1 a2 a3 a4 a5 a6 a7 a8=>EC hs RL a1 a2 a3 a4 a5 a6 a7 a8
 have m2:∀{j:Nat}{a m c:Pt},(aj (ST.srt pts).reverse).reverse[j]?=some a->(aj (ST.srt pts).reverse).reverse[j+1]?=some m->(aj (ST.srt pts).reverse).length=j+2->(aj (ST.srt pts)).reverse[0]?=some m->(aj (ST.srt pts)).reverse[1]?=some c->plt m a->plt m c->2<(aj (ST.srt pts)).length\/2<(aj (ST.srt pts).reverse).length->0<av a m c:=λ{j a m c} a1 a2 a3 a4 a5 a6 a7 a8=>by
  have er:((ST.srt pts).reverse.map ng).reverse=(ST.srt pts).map ng:=by rw[<-IY,List.reverse_reverse]
  have fw:∀{k:Nat}{p:Pt},(aj (ST.srt pts)).reverse[k]?=some p->(aj ((ST.srt pts).reverse.map ng).reverse).reverse[k]?=some (ng p):=λ{k p} h=>by
   rw[er,gi,<-IY,Gz,h];rfl
  have lb:(aj ((ST.srt pts).reverse.map ng)).length=(aj (ST.srt pts).reverse).length:=by rw[bV,Gp]
  have lt:(aj ((ST.srt pts).reverse.map ng).reverse).length=(aj (ST.srt pts)).length:=by rw[er,gi,Gp]
  have:=EC (c6 hs) (by simpa using RL) (fC a1) (fC a2) (by rw[lb];exact a3) (fw a4) (fw a5) (lX a6) (lX a7) (by rw[lb,lt];exact a8.symm)
  rwa [kQ]at this
 rw[hc]at hi |-;have lT:(aj (ST.srt pts)).reverse.length=(aj (ST.srt pts)).length:=Hl;have lB:(aj (ST.srt pts).reverse).reverse.length=(aj (ST.srt pts).reverse).length:=Hl;generalize (aj (ST.srt pts)).reverse=T at *;generalize (aj (ST.srt pts).reverse).reverse=B at *;have h1:=W.lt;have h3:=W.lb;have hn:(T.dropLast++B.dropLast).length=T.length-1+(B.length-1):=by simp
 have own:∀k,k<(T.dropLast++B.dropLast).length->(T.dropLast++B.dropLast)[k]?=(T.dropLast++B.dropLast)[k%(T.dropLast++B.dropLast).length]?:=λk hk=>by rw[Hv hk]
 have tne:∀{j k:Nat}{p q:Pt},T[j]?=some p->T[k]?=some q->j≠k->p≠q:=λ{j k p q} a1 a2 a3 e=>a3 ((Lz (aR a1) ndT).mp (by rw[a1,a2,e]))
 have bne:∀{j k:Nat}{p q:Pt},B[j]?=some p->B[k]?=some q->j≠k->p≠q:=λ{j k p q} a1 a2 a3 e=>a3 ((Lz (aR a1) ndB).mp (by rw[a1,a2,e]))
 by_cases c1:i<T.length-1
 ·obtain⟨a,ea⟩:=some_of (l:=T) (i:=i) (by lia)
  obtain⟨b,eb⟩:=some_of (l:=T) (i:=i+1) (by lia)
  refine⟨a,b,by rw[own i hi,gw W (by lia)];exact ea,by rw[gw W (by lia)];exact eb,λp hp=>tc ea eb p (UZ p hp),λbig=>?_⟩
  by_cases c2:i+2<=T.length-1
  ·obtain⟨c,ec⟩:=some_of (l:=T) (i:=i+2) (by lia)
   exact⟨c,by rw[gw W c2];exact ec,tt ea eb ec⟩
  ·have e:i+1=T.length-1:=by lia
   obtain⟨c,ec⟩:=some_of (l:=B) (i:=1) (by lia)
   have emx:b=mx:=by have:=W.t1;rw[<-e,eb]at this;exact Hq this
   subst emx;refine⟨c,by rw[j8 W (by lia) (by lia),show i+2-(T.length-1)=1 by lia];exact ec,m1 ea eb (by lia) W.b0 ec ?_ ?_ (by lia)⟩
   ·exact (W.most a (memT ea)).resolve_left (tne ea eb (by lia))
   ·exact (W.most c (memB ec)).resolve_left (bne ec W.b0 (by lia))
 ·obtain⟨a,ea⟩:=some_of (l:=B) (i:=i-(T.length-1)) (by lia)
  obtain⟨b,eb⟩:=some_of (l:=B) (i:=i-(T.length-1)+1) (by lia)
  refine⟨a,b,by rw[own i hi,j8 W (by lia) (by lia)];exact ea,by rw[j8 W (by lia) (by lia),show i+1-(T.length-1)=i-(T.length-1)+1 by lia];exact eb,λp hp=>bc ea eb p (UZ p hp),λbig=>?_⟩
  by_cases c2:i+2<=T.length-1+(B.length-1)
  ·obtain⟨c,ec⟩:=some_of (l:=B) (i:=i-(T.length-1)+2) (by lia)
   exact⟨c,by rw[j8 W (by lia) c2,show i+2-(T.length-1)=i-(T.length-1)+2 by lia];exact ec,bt ea eb ec⟩
  ·have e:i-(T.length-1)+1=B.length-1:=by lia
   obtain⟨c,ec⟩:=some_of (l:=T) (i:=1) (by lia)
   have emn:b=mn:=by have:=W.b1;rw[<-e,eb]at this;exact Hq this
   subst emn;refine⟨c,?_,m2 ea eb (by lia) W.t0 ec ?_ ?_ (by lia)⟩
   ·have:=gw W (k:=1) (by lia)
    rw[show (i+2)%(T.dropLast++B.dropLast).length=1%(T.dropLast++B.dropLast).length by rw[hn,show i+2=1+(T.length-1+(B.length-1)) by lia,OR],this]
    exact ec
   ·exact (W.least a (memB ea)).resolve_left (bne ea eb (by lia))
   ·exact (W.least c (memT ec)).resolve_left (tne ec W.t0 (by lia))
def wth(a b:Int)(p:Pt):Int:=a*p.1+b*p.2
theorem Dh{a b:Int}{u p v:Pt}(hb:b<=0)(h1:plt u p)(h2:plt p v)(h:av u p v<=0):wth a b p<=wth a b u\/wth a b p<=wth a b v:=by
 rcases Jn (wth a b u) (wth a b p) with c1 |c1
 ·rcases Jn (wth a b v) (wth a b p) with c2 |c2
  ·exfalso
   have e:(v.1-p.1) *(wth a b p-wth a b u)+(p.1-u.1) *(wth a b p-wth a b v)=-((-b) *(-(av u p v))):=by unfold wth av;grind
   have n1:0<=(-b) *(-(av u p v)):=Ht (by lia) (by lia)
   have d1:0<=p.1-u.1:=by unfold plt at h1;lia
   have d2:0<=v.1-p.1:=by unfold plt at h2;lia
   have m1:0<=(v.1-p.1) *(wth a b p-wth a b u):=Ht d2 (by lia)
   have m2:0<=(p.1-u.1) *(wth a b p-wth a b v):=Ht d1 (by lia)
   rcases Jn 0 (p.1-u.1) with d |d
   ·have:=IE d (show 0<wth a b p-wth a b v by lia)
    lia
   ·have ex:u.1=p.1:=by lia
    have ey:u.2<p.2:=by unfold plt at h1;lia
    have:0<=(-b) *(p.2-u.2):=Ht (by lia) (by lia)
    have e2:wth a b p-wth a b u=-((-b) *(p.2-u.2)):=by unfold wth;rw[ex];grind
    lia
  ·exact .inr c2
 ·exact .inl c1
theorem uU{row:List Pt}(hs:row.Pairwise plt){a b:Int}(hb:b<=0){p:Pt}(hp:p∈row):∃c∈aj row,wth a b p<=wth a b c:=by
 by_cases h:p∈aj row
 ·exact⟨p,h,Mf _⟩
 ·obtain⟨u,hu,v,hv,k1,k2,k3⟩:=gap hs hp h;rcases Dh (a:=a) hb k1 k2 k3 with e |e
  ·exact⟨u,hu,e⟩
  ·exact⟨v,hv,e⟩
theorem Dd(a b:Int)(p:Pt):wth (-a) (-b) (ng p)=wth a b p:=by unfold wth ng;grind
theorem BR(a b:Int)(p:Pt):wth a b (ng p)=wth (-a) (-b) p:=by unfold wth ng;grind
theorem xw{row:List Pt}(hs:row.Pairwise plt){a b:Int}(hb:0<=b){p:Pt}(hp:p∈row):∃c∈aj row.reverse,wth a b p<=wth a b c:=by
 obtain⟨c,hc,k⟩:=uU (c6 hs) (a:=-a) (b:=-b) (by lia) (p:=ng p) (GC.mpr ⟨p,GP.mpr hp,rfl⟩)
 refine⟨ng c,by rw[bV];exact GC.mpr ⟨c,hc,rfl⟩,?_⟩
 rw[Dd]at k;rw[BR];exact k
theorem y4{pts:List Pt}(a b:Int){p:Pt}(hp:p∈pts):∃c∈am pts,wth a b p<=wth a b c:=by
 have S2:p∈ST.srt pts:=(ST.srt_mem p pts).mpr hp;by_cases h2:2<=(ST.srt pts).length
 ·have hs:=fo pts;obtain⟨mn,mx,t1,t2,e1,e2,m1,m2,_⟩:=AM hs h2;have big:=iS h2;rw[e1,e2]at big;rcases NF b 0 with hb |hb
  ·obtain⟨c,hc,k⟩:=uU hs (a:=a) hb S2;refine⟨c,?_,k⟩;rw[big];rw[e1]at hc;rcases Gx.mp hc with rfl |hc
   ·exact GM _ (GP.mpr m2)
   ·exact HX _ (GP.mpr hc)
  ·obtain⟨c,hc,k⟩:=xw hs (a:=a) hb S2;refine⟨c,?_,k⟩;rw[big];rw[e2]at hc;rcases Gx.mp hc with rfl |hc
   ·exact HX _ (GP.mpr m1)
   ·exact GM _ (GP.mpr hc)
 ·exact⟨p,by rw[ij h2];exact S2,Mf _⟩
def hiL:List Int->Int
 |[]=>0
 |a::l=>l.foldl max a
theorem hU:∀(l:List Int) (a:Int),l.foldl max a∈a::l
 |[],a=>by simp
 |b::l,a=>by
  have:=hU l (max a b);rw[Ib];rcases Gx.mp this with e |e
  ·rw[e];rcases NF a b with h |h
   ·rw[Int.max_eq_right h];simp
   ·rw[Int.max_eq_left h];simp
  ·exact Gq _ (Gq _ e)
theorem i8:∀(l:List Int) (a:Int),∀x∈a::l,x<=l.foldl max a
 |[],a,x,h=>by simp at h;rw[h];exact Mf _
 |b::l,a,x,h=>by
  have ih:=i8 l (max a b);rw[Ib];have h0:=ih (max a b) Gy;rcases Gx.mp h with rfl |h
  ·lia
  ·rcases Gx.mp h with rfl |h
   ·lia
   ·exact ih x (Gq _ h)
def hiW(a b:Int)(l:List Pt):Int:=hiL (l.map (wth a b))
theorem nO{l:List Pt}(a b:Int)(h:l≠[]):(∃p∈l,wth a b p=hiW a b l)/\∀p∈l,wth a b p<=hiW a b l:=by
 cases l with
 |nil=>exact absurd rfl h
 |cons q l=>
  refine⟨?_,λp hp=>?_⟩
  ·have:=hU (l.map (wth a b)) (wth a b q);rw[<-GW]at this;obtain⟨p,hp,e⟩:=GC.mp this;exact⟨p,hp,e⟩
  ·exact i8 (l.map (wth a b)) (wth a b q) _ (by rw[<-GW];exact HS hp)
theorem Ei{l:List Pt}{a b M:Int}(h1:∃p∈l,wth a b p=M)(h2:∀p∈l,wth a b p<=M):hiW a b l=M:=by
 obtain⟨p,hp,rfl⟩:=h1;obtain⟨⟨q,hq,e⟩,k⟩:=nO a b (l:=l) (λz=>by rw[z]at hp;simp at hp)
 have:=k p hp;have:=h2 q hq;lia
def sft(f g:Int)(p:Pt):Pt:=(p.1+f,p.2+g)
theorem C9{l:List Pt}(a b:Int)(h:l≠[]):hiW a b l∈l.map (wth a b)/\∀x∈l.map (wth a b),x<=hiW a b l:=by
 obtain⟨⟨q,hq,e⟩,k⟩:=nO a b h;refine⟨by rw[<-e];exact HS hq,λx hx=>?_⟩
 obtain⟨p,hp,rfl⟩:=GC.mp hx;exact k p hp
theorem mS{l:List P2}(h3:3<=(am l).length):2<=(ST.srt l).length:=by
 rcases Ki (ST.srt l).length 2 with h |h
 ·rw[ij (by lia)]at h3;lia
 ·exact h
theorem zb{l:List P2}{i:Nat}(h:i<l.length):(gp l i,gp l ((i+1)%l.length))∈sdl l:=GC.mpr ⟨i,G8.mpr h,rfl⟩
theorem i4{l:List P2}{i:Nat}{a:P2}(h:l[i]?=some a):gp l i=a:=by simp[gp,h]
theorem xf{n i:Nat}:((i+1)%n+1)%n=(i+2)%n:=by rw[Np]
theorem eR{l:List P2}(h3:3<=(am l).length){s:P2×P2}(hs:s∈sdl (am l)):∀q∈l,0<=av s.1 s.2 q:=by
 obtain⟨i,hi,rfl⟩:=GC.mp hs;obtain⟨a,b,e1,e2,cov,_⟩:=lE (mS h3) (G8.mp hi);show ∀q∈l,0<=av (gp (am l) i) (gp (am l) ((i+1)%(am l).length)) q;rw[i4 e1,i4 e2];exact cov
theorem j6{l:List P2}(h3:3<=(am l).length){A B:P2}(hs:(A,B)∈sdl (am l)):∃C,(B,C)∈sdl (am l)/\0<av A B C:=by
 obtain⟨i,hi,e⟩:=GC.mp hs;have RW:=G8.mp hi;obtain⟨a,b,e1,e2,_,tu⟩:=lE (mS h3) RW;obtain⟨c,e3,pos⟩:=tu (by lia)
 have ea:A=a:=by rw[<-i4 e1];exact (congrArg Ov e).symm
 have eb:B=b:=by rw[<-i4 e2];exact (congrArg Ow e).symm
 refine⟨c,?_,by rw[ea,eb];exact pos⟩
 have:=zb (l:=am l) (i:=(i+1)%(am l).length) (Ja _ (by lia))
 rw[xf,i4 e2,i4 e3]at this;rw[eb];exact this
theorem Fv{l:List P2}{A:P2}(h:A∈l):∃B,(A,B)∈sdl l:=by
 obtain⟨i,hi⟩:=G7.mp h;have RW:=(GB.mp hi).1;have:=zb RW;rw[i4 hi]at this;exact⟨_,this⟩
theorem w_{l:List P2}{A:P2}(h:A∈l):∃Z,(Z,A)∈sdl l:=by
 obtain⟨i,hi⟩:=G7.mp h;have RW:=(GB.mp hi).1;have hj:(i+l.length-1)%l.length<l.length:=Ja _ (by lia)
 have:=zb hj
 have e:((i+l.length-1)%l.length+1)%l.length=i:=by
  rw[Np,show i+l.length-1+1=i+l.length by lia,OR,Hv RW]
 rw[e,i4 hi]at this;exact⟨_,this⟩
theorem DD{l:List P2}(hn:l.Nodup){A B C:P2}(h1:(A,B)∈sdl l)(h2:(A,C)∈sdl l):B=C:=by
 obtain⟨i,hi,e⟩:=GC.mp h1;obtain⟨j,hj,e'⟩:=GC.mp h2;have RW:=G8.mp hi;have hj':=G8.mp hj;have ea:gp l i=gp l j:=(congrArg Ov e).trans (congrArg Ov e').symm;have:i=j:=(Lz RW hn).mp (by rw[dN RW,dN hj',ea])
 subst this;exact (congrArg Ow e).symm.trans (congrArg Ow e')
theorem DP{u1 u2 v1 v2 w1 w2:Int}(hd:0<u1*v2-u2*v1)(h1:u1*w2-u2*w1=0)(h2:v1*w2-v2*w1=0):w1=0/\w2=0:=by
 have e1:(u1*v2-u2*v1) *w1=0:=by
  have:(u1*v2-u2*v1) *w1=v1*(u1*w2-u2*w1)-u1*(v1*w2-v2*w1):=by grind
  rw[this,h1,h2];simp
 have e2:(u1*v2-u2*v1) *w2=0:=by
  have:(u1*v2-u2*v1) *w2=v2*(u1*w2-u2*w1)-u2*(v1*w2-v2*w1):=by grind
  rw[this,h1,h2];simp
 refine⟨?_,?_⟩
 ·rcases Jz.mp e1 with h |h
  ·lia
  ·exact h
 ·rcases Jz.mp e2 with h |h
  ·lia
  ·exact h
def wt(l:List P2)(p:P2):Prop:=p∈l/\∃a b:Int,∀q∈l,q≠p->wth a b q<wth a b p
theorem gA{l:List P2}{p:P2}(h:wt l p):p∈am l:=by
 obtain⟨hp,a,b,k⟩:=h;obtain⟨c,hc,e⟩:=y4 a b hp;by_cases hcp:c=p
 ·rw[<-hcp];exact hc
 ·have:=k c (bU _ c hc) hcp;lia
theorem d7{l:List P2}(h3:3<=(am l).length){p:P2}(hp:p∈am l):wt l p:=by
 obtain⟨Z,hZ⟩:=w_ hp;obtain⟨B,hB,pos⟩:=j6 h3 hZ;refine⟨bU _ p hp,B.2-Z.2,Z.1-B.1,λq hq RL=>?_⟩
 have c1:=eR h3 hZ q hq;have c2:=eR h3 hB q hq;dsimp only at c1 c2;have e:wth (B.2-Z.2) (Z.1-B.1) q-wth (B.2-Z.2) (Z.1-B.1) p=-(av Z p q+av p B q):=by unfold wth av;grind
 rcases Ou (Int.add_nonneg c1 c2) with h |h
 ·lia
 ·exfalso
  have z1:av Z p q=0:=by lia
  have z2:av p B q=0:=by lia
  have:=DP (u1:=p.1-Z.1) (u2:=p.2-Z.2) (v1:=B.1-p.1) (v2:=B.2-p.2) (w1:=q.1-p.1) (w2:=q.2-p.2) (by rw[<-(show av Z p B=(p.1-Z.1) *(B.2-p.2)-(p.2-Z.2) *(B.1-p.1) by unfold av;grind)];exact pos) (by rw[<-z1];unfold av;grind) (by rw[<-z2];unfold av;grind)
  exact RL (Kq (by lia) (by lia))
theorem Eu{u1 u2 v1 v2 w1 w2:Int}(h:u1*w2-u2*w1=0):(u1*v2-u2*v1) *w1=(w1*v2-w2*v1) *u1/\(u1*v2-u2*v1) *w2=(w1*v2-w2*v1) *u2:=by
 constructor
 ·have:(u1*v2-u2*v1) *w1-(w1*v2-w2*v1) *u1=v1*(u1*w2-u2*w1):=by grind
  rw[h]at this;simp at this;lia
 ·have:(u1*v2-u2*v1) *w2-(w1*v2-w2*v1) *u2=v2*(u1*w2-u2*w1):=by grind
  rw[h]at this;simp at this;lia
theorem jt{l:List P2}(h3:3<=(am l).length){A B:P2}:(A,B)∈sdl (am l)↔A∈am l/\B∈am l/\A≠B/\∀q∈am l,0<=av A B q:=by
 constructor
 ·intro h;exact⟨(cH h).1,(cH h).2,fO (bo l) (by lia) _ h,λq hq=>eR h3 h q (bU _ q hq)⟩
 ·rintro ⟨hA,hB,RL,cov⟩;obtain⟨C,hC⟩:=Fv hA;obtain⟨Z,hZ⟩:=w_ hA;by_cases hBC:B=C
  ·rw[hBC];exact hC
  ·exfalso
   obtain⟨D,hD,pD⟩:=j6 h3 hC;obtain⟨C',hC',pC⟩:=j6 h3 hZ;have:C'=C:=DD (bo l) hC' hC;subst this;have mC:=(cH hC).2;have mD:=(cH hD).2;have lB:=bU _ B hB;have k1:=eR h3 hC B lB;have k2:=cov C' mC;have k3:=eR h3 hZ B lB;have k4:=eR h3 hD B lB;dsimp only at k1 k3 k4 mC mD
   have z:(C'.1-A.1) *(B.2-A.2)-(C'.2-A.2) *(B.1-A.1)=0:=by
    have e1:av A C' B=(C'.1-A.1) *(B.2-A.2)-(C'.2-A.2) *(B.1-A.1):=rfl;have e2:av A B C'=-((C'.1-A.1) *(B.2-A.2)-(C'.2-A.2) *(B.1-A.1)):=by unfold av;grind
    omega
   obtain⟨p1,p2⟩:=Eu (v1:=Z.1-A.1) (v2:=Z.2-A.2) z
   have dpos:0<(C'.1-A.1) *(Z.2-A.2)-(C'.2-A.2) *(Z.1-A.1):=by
    rw[<-(show av Z A C'=(C'.1-A.1) *(Z.2-A.2)-(C'.2-A.2) *(Z.1-A.1) by unfold av;grind)];exact pC
   have Ss:0<=(B.1-A.1) *(Z.2-A.2)-(B.2-A.2) *(Z.1-A.1):=by
    rw[<-(show av Z A B=(B.1-A.1) *(Z.2-A.2)-(B.2-A.2) *(Z.1-A.1) by unfold av;grind)];exact k3
   generalize (C'.1-A.1) *(Z.2-A.2)-(C'.2-A.2) *(Z.1-A.1)=d at *;generalize (B.1-A.1) *(Z.2-A.2)-(B.2-A.2) *(Z.1-A.1)=s at *
   have s0:s≠0:=λe=>by
    rw[e,Mq]at p1 p2;have q1:=(Jz.mp p1).resolve_left (by lia)
    have q2:=(Jz.mp p2).resolve_left (by lia)
    exact RL (Kq (by lia) (by lia))
   have s1:s≠d:=λe=>by
    rw[e]at p1 p2;have q1:=Jf (by lia) p1
    have q2:=Jf (by lia) p2
    exact hBC (Kq (by lia) (by lia))
   have s2:s<=d:=by
    have e:d*av C' D B=(d-s) *av A C' D:=by
     have e1:d*av C' D B=(D.1-C'.1) *(d*(B.2-A.2)-d*(C'.2-A.2))-(D.2-C'.2) *(d*(B.1-A.1)-d*(C'.1-A.1)):=by unfold av;grind
     rw[e1,p1,p2];unfold av;grind
    have:0<=d*av C' D B:=Ht (by lia) k4
    rcases Jn d s with h |h
    ·have:0<(s-d) *av A C' D:=IE (by lia) pD
     have e3:(d-s) *av A C' D=-((s-d) *av A C' D):=by grind
     lia
    ·exact h
   obtain⟨_,a,b,top⟩:=d7 h3 hB;have t1:=top A (bU _ A hA) RL;have t2:=top C' (bU _ C' mC) (λe=>hBC e.symm)
   have w1:d*(wth a b B-wth a b A)=s*(wth a b C'-wth a b A):=by
    have e1:d*(wth a b B-wth a b A)=a*(d*(B.1-A.1))+b*(d*(B.2-A.2)):=by unfold wth;grind
    rw[e1,p1,p2];unfold wth;grind
   have g1:0<d*(wth a b B-wth a b A):=IE (by lia) (by lia)
   have g2:0<wth a b C'-wth a b A:=by
    rcases Jn 0 (wth a b C'-wth a b A) with h |h
    ·exact h
    ·have:0<=s* -(wth a b C'-wth a b A):=Ht (by lia) (by lia)
     have e3:s*(wth a b C'-wth a b A)=-(s* -(wth a b C'-wth a b A)):=by grind
     lia
   have g3:0<(d-s) *(wth a b C'-wth a b A):=IE (by lia) g2
   have w2:d*(wth a b B-wth a b C')=-((d-s) *(wth a b C'-wth a b A)):=by
    have:d*(wth a b B-wth a b C')=d*(wth a b B-wth a b A)-d*(wth a b C'-wth a b A):=by grind
    rw[this,w1];grind
   have g4:0<d*(wth a b B-wth a b C'):=IE (by lia) (by lia)
   lia
structure Lin(f:P2->P2)(d:Int):Prop where
 one:d=1\/d=-1
 ex:∃a b c e:Int,a*e-b*c=d/\∀p,f p=(a*p.1+b*p.2,c*p.1+e*p.2)
theorem Lin.det{f:P2->P2}{d:Int}(L:Lin f d)(A B q:P2):av (f A) (f B) (f q)=d*av A B q:=by
 obtain⟨a,b,c,e,h,k⟩:=L.ex;rw[k,k,k,<-h];unfold av;grind
theorem uj{f:P2->P2}{d:Int}(L:Lin f d)(A B:P2):crs (f A,f B)=d*crs (A,B):=by
 obtain⟨a,b,c,e,h,k⟩:=L.ex;rw[k,k,<-h];unfold crs;grind
theorem oO{f:P2->P2}{d:Int}(L:Lin f d)(x y:Int):∃x' y':Int,∀p,wth x' y' (f p)=wth x y p:=by
 obtain⟨a,b,c,e,h,k⟩:=L.ex;refine⟨d*(x*e-y*c),d*(y*a-x*b),λp=>?_⟩
 rw[k];have dd:d*d=1:=by rcases L.one with z |z <;>rw[z] <;>rfl
 have:wth (d*(x*e-y*c)) (d*(y*a-x*b)) (a*p.1+b*p.2,c*p.1+e*p.2)=d*(a*e-b*c) *wth x y p:=by unfold wth;grind
 rw[this,h,dd,KN]
theorem Lin.inj{f:P2->P2}{d:Int}(L:Lin f d){p q:P2}(e:f p=f q):p=q:=by
 obtain⟨x,y,h⟩:=oO L 1 0;obtain⟨x',y',h'⟩:=oO L 0 1;have h1:wth 1 0 p=wth 1 0 q:=by rw[<-h,<-h,e]
 have h2:wth 0 1 p=wth 0 1 q:=by rw[<-h',<-h',e]
 unfold wth at h1 h2;exact Kq (by lia) (by lia)
theorem uQ{f:P2->P2}{d:Int}(L:Lin f d){l:List P2}{p:P2}(h:wt l p):wt (l.map f) (f p):=by
 obtain⟨hp,a,b,k⟩:=h;obtain⟨x,y,e⟩:=oO L a b;refine⟨HS hp,x,y,λq hq RL=>?_⟩
 obtain⟨r,hr,rfl⟩:=GC.mp hq;rw[e,e];exact k r hr λz=>RL (by rw[z])
theorem zV{f:P2->P2}{d:Int}(L:Lin f d){l:List P2}{p:P2}(hp:p∈l)(h:wt (l.map f) (f p)):wt l p:=by
 obtain⟨_,a,b,k⟩:=h;obtain⟨u,v,w,z,_,kf⟩:=L.ex;refine⟨hp,a*u+b*w,a*v+b*z,λq hq RL=>?_⟩
 have e:∀r:P2,wth (a*u+b*w) (a*v+b*z) r=wth a b (f r):=λr=>by rw[kf];unfold wth;grind
 rw[e,e];exact k (f q) (HS hq) λz=>RL (L.inj z)
theorem gJ{f:P2->P2}{d:Int}(L:Lin f d){l:List P2}(h3:3<=(am l).length):3<=(am (l.map f)).length:=by
 have nd:((am l).map f).Nodup:=Ks _ (λa b (h:a≠b) e=>h (L.inj e)) (bo l)
 have:=gK nd (m:=am (l.map f)) λx hx=>by
  obtain⟨p,hp,rfl⟩:=GC.mp hx;exact gA (uQ L (d7 h3 hp))
 rw[Gp]at this;lia
theorem b8{f:P2->P2}{d:Int}(L:Lin f d){l:List P2}(h3:3<=(am l).length)(x:P2):x∈am (l.map f)↔∃p∈am l,f p=x:=by
 constructor
 ·intro h;obtain⟨p,hp,rfl⟩:=GC.mp (bU _ x h);exact⟨p,gA (zV L hp (d7 (gJ L h3) h)),rfl⟩
 ·rintro ⟨p,hp,rfl⟩;exact gA (uQ L (d7 h3 hp))
def sdf(f:P2->P2)(d:Int)(s:P2×P2):P2×P2:=if d=1 then (f s.1,f s.2) else (f s.2,f s.1)
theorem oQ{f:P2->P2}{d:Int}(L:Lin f d){l:List P2}(h3:3<=(am l).length)(t:P2×P2):t∈sdl (am (l.map f))↔∃s∈sdl (am l),sdf f d s=t:=by
 have h3':=gJ L h3;have sw:∀A B q:P2,av B A q=-av A B q:=λA B q=>by unfold av;grind
 constructor
 ·intro h;obtain⟨x,y⟩:=t;obtain⟨hx,hy,ne,cov⟩:=(jt h3').mp h;obtain⟨A,hA,rfl⟩:=(b8 L h3 x).mp hx;obtain⟨B,hB,rfl⟩:=(b8 L h3 y).mp hy
  have cv:∀q∈am l,0<=d*av A B q:=λq hq=>by
   have:=cov (f q) ((b8 L h3 _).mpr ⟨q,hq,rfl⟩)
   rwa [L.det]at this
  rcases L.one with z |z
  ·refine⟨(A,B),(jt h3).mpr ⟨hA,hB,λe=>ne (by rw[e]),λq hq=>?_⟩,by unfold sdf;rw[if_pos z]⟩
   have:=cv q hq;rw[z]at this;lia
  ·refine⟨(B,A),(jt h3).mpr ⟨hB,hA,λe=>ne (by rw[e]),λq hq=>?_⟩,by unfold sdf;rw[if_neg (by lia)]⟩
   have:=cv q hq;rw[sw];rw[z]at this;lia
 ·rintro ⟨⟨A,B⟩,hs,rfl⟩;obtain⟨hA,hB,ne,cov⟩:=(jt h3).mp hs
  have cv:∀q∈am (l.map f),0<=d*av (f A) (f B) q:=λq hq=>by
   obtain⟨p,hp,rfl⟩:=(b8 L h3 q).mp hq;have:=cov p hp;rw[L.det,<-QQ,show d*d=1 by rcases L.one with z |z <;>rw[z] <;>rfl]
   lia
  unfold sdf;rcases L.one with z |z
  ·rw[if_pos z];refine (jt h3').mpr ⟨(b8 L h3 _).mpr ⟨A,hA,rfl⟩,(b8 L h3 _).mpr ⟨B,hB,rfl⟩,λe=>ne (L.inj e),λq hq=>?_⟩
   have:=cv q hq;dsimp only;rw[z]at this;lia
  ·rw[if_neg (by lia)]
   refine (jt h3').mpr ⟨(b8 L h3 _).mpr ⟨B,hB,rfl⟩,(b8 L h3 _).mpr ⟨A,hA,rfl⟩,λe=>ne (L.inj e.symm),λq hq=>?_⟩
   have:=cv q hq;dsimp only;rw[sw];rw[z]at this;lia
theorem yB{l:List P2}(hn:l.Nodup):(sdl l).Nodup:=by
 have h:((sdl l).map (·.1)).Nodup:=by rw[tJ];exact hn
 exact (HV.mp h).imp λ{a b} k e=>k (by rw[e])
theorem Bh{f:P2->P2}{d:Int}(L:Lin f d){s t:P2×P2}(e:sdf f d s=sdf f d t):s=t:=by
 unfold sdf at e;split at e
 ·exact Kq (L.inj (congrArg Ov e)) (L.inj (congrArg Ow e))
 ·exact Kq (L.inj (congrArg Ow e)) (L.inj (congrArg Ov e))
theorem BU{f:P2->P2}{d:Int}(L:Lin f d){l:List P2}(h3:3<=(am l).length):LI (sdl (am (l.map f))) ((sdl (am l)).map (sdf f d)):=by
 refine (Kt (yB (bo _)) ?_).mpr λt=>?_
 ·exact Ks _ (λa b (h:a≠b) e=>h (Bh L e)) (yB (bo l))
 ·rw[oQ L h3,GC]
theorem gM{f:P2->P2}{d:Int}(L:Lin f d){l:List P2}(h3:3<=(am l).length):LI (am (l.map f)) ((am l).map f):=by
 refine (Kt (bo _) ?_).mpr λt=>?_
 ·exact Ks _ (λa b (h:a≠b) e=>h (L.inj e)) (bo l)
 ·rw[b8 L h3,GC]
def iG(s:P2×P2):P2:=((s.2.2-s.1.2)/gst s,(s.1.1-s.2.1)/gst s)
def fcs(l:List P2):List P2:=(sdl l).map iG
theorem Av{a b c e x y:Int}(h:a*e-b*c=1\/a*e-b*c=-1):LP (a*x+b*y) (c*x+e*y)=LP x y:=by
 apply Nat.dvd_antisymm
 ·have h1:((LP (a*x+b*y) (c*x+e*y):Nat):Int) ∣ a*x+b*y:=JE ..;have h2:((LP (a*x+b*y) (c*x+e*y):Nat):Int) ∣ c*x+e*y:=Jt ..;generalize LP (a*x+b*y) (c*x+e*y)=g at *
  have k1:(g:Int) ∣ (a*e-b*c) *x:=by
   have:(a*e-b*c) *x=e*(a*x+b*y)-b*(c*x+e*y):=by grind
   rw[this];exact Md (G_ h1 (Hm ..)) (G_ h2 (Hm ..))
  have k2:(g:Int) ∣ (a*e-b*c) *y:=by
   have:(a*e-b*c) *y=a*(c*x+e*y)-c*(a*x+b*y):=by grind
   rw[this];exact Md (G_ h2 (Hm ..)) (G_ h1 (Hm ..))
  have up:∀z:Int,(g:Int) ∣ (a*e-b*c) *z->(g:Int) ∣ z:=λz k=>by
   rcases h with w |w <;>rw[w]at k
   ·rwa [KN]at k
   ·rw[Int.neg_one_mul]at k;exact Mc.mp k
  exact QR.mp (Me (up x k1) (up y k2))
 ·have h1:((LP x y:Nat):Int) ∣ x:=JE ..;have h2:((LP x y:Nat):Int) ∣ y:=Jt ..;exact QR.mp (Me (Kk (G_ h1 (Hm ..)) (G_ h2 (Hm ..))) (Kk (G_ h1 (Hm ..)) (G_ h2 (Hm ..))))
theorem xY(A B:P2):gst (B,A)=gst (A,B):=by
 unfold gst;dsimp only;rw[show A.1-B.1=-(B.1-A.1) by lia,show A.2-B.2=-(B.2-A.2) by lia,Int.gcd_neg,Int.neg_gcd]
theorem oS{f:P2->P2}{d:Int}(L:Lin f d)(s:P2×P2):gst (sdf f d s)=gst s:=by
 obtain⟨A,B⟩:=s
 have key:gst (f A,f B)=gst (A,B):=by
  obtain⟨a,b,c,e,h,k⟩:=L.ex;unfold gst;rw[k,k];dsimp only;rw[show a*B.1+b*B.2-(a*A.1+b*A.2)=a*(B.1-A.1)+b*(B.2-A.2) by grind,show c*B.1+e*B.2-(c*A.1+e*A.2)=c*(B.1-A.1)+e*(B.2-A.2) by grind]
  rw[Av (by rw[h];exact L.one)]
 unfold sdf;split
 ·exact key
 ·exact (xY _ _).trans key
theorem B3{f:P2->P2}{d:Int}(L:Lin f d)(s:P2×P2):crs (sdf f d s)=crs s:=by
 obtain⟨A,B⟩:=s;unfold sdf;rcases L.one with z |z
 ·rw[if_pos z,uj L];rw[z];exact KN _
 ·rw[if_neg (by lia),uj L,z];unfold crs;grind
theorem zQ{l m:List Int}(h:LI l m):l.sum=m.sum:=by
 induction h with
 |nil=>rfl
 |cons _ _ ih=>rw[J3,J3,ih]
 |swap=>simp only[J3];lia
 |trans _ _ h1 h2=>exact h1.trans h2
theorem tP{f:P2->P2}{d:Int}(L:Lin f d){l:List P2}(h3:3<=(am l).length):b6 (am (l.map f))=b6 (am l):=by
 unfold b6;rw[zQ ((BU L h3).map gst),G3];exact congrArg List.sum (Jc λs _=>oS L s)
theorem tx{f:P2->P2}{d:Int}(L:Lin f d){l:List P2}(h3:3<=(am l).length)(h:hrt (am l)=true):hrt (am (l.map f))=true:=by
 unfold hrt at *;refine decide_eq_true λt ht=>?_
 obtain⟨s,hs,rfl⟩:=(oQ L h3 t).mp ht;rw[B3 L,oS L];exact of_decide_eq_true h s hs
def dY(a b c e d:Int)(p:P2):P2:=(d*(e*p.1-c*p.2),d*(a*p.2-b*p.1))
def dq(a b c e:Int)(p:P2):P2:=(a*p.1+b*p.2,c*p.1+e*p.2)
theorem kq{a b c e d:Int}(h:a*e-b*c=d)(o:d=1\/d=-1):Lin (dq a b c e) d:=⟨o,a,b,c,e,h,λ_=>rfl⟩
theorem uB(a b c e d:Int)(p:P2):dY a b c e d p=dq (d*e) (-(d*c)) (-(d*b)) (d*a) p:=by unfold dY dq;refine Kq ?_ ?_ <;>grind
theorem dd1{d:Int}(o:d=1\/d=-1):d*d=1:=by rcases o with z |z <;>rw[z] <;>rfl
theorem Bx{a b c e d:Int}(h:a*e-b*c=d)(o:d=1\/d=-1):Lin (dY a b c e d) d:=⟨o,d*e,-(d*c),-(d*b),d*a,by
 have:d*e*(d*a) - -(d*c) * -(d*b)=d*d*(a*e-b*c):=by grind
 rw[this,h,dd1 o,KN],λp=>uB a b c e d p⟩
theorem vN{a b c e d:Int}(o:d=1\/d=-1)(p:P2):dY (d*e) (-(d*c)) (-(d*b)) (d*a) d p=dq a b c e p:=by
 have:=dd1 o;unfold dY dq;refine Kq ?_ ?_
 ·show d*(d*a*p.1 - -(d*b) *p.2)=a*p.1+b*p.2;have:d*(d*a*p.1 - -(d*b) *p.2)=d*d*(a*p.1+b*p.2):=by grind
  rw[this,dd1 o,KN]
 ·show d*(d*e*p.2 - -(d*c) *p.1)=c*p.1+e*p.2;have:d*(d*e*p.2 - -(d*c) *p.1)=d*d*(c*p.1+e*p.2):=by grind
  rw[this,dd1 o,KN]
theorem uI{g x y a b:Int}(hg:0<g)(hx:g ∣ x)(hy:g ∣ y):(a*x+b*y)/g=a*(x/g)+b*(y/g):=by
 obtain⟨u,rfl⟩:=hx;obtain⟨v,rfl⟩:=hy;rw[Jj _ (by lia),Jj _ (by lia),show a*(g*u)+b*(g*v)=g*(a*u+b*v) by grind,Jj _ (by lia)]
theorem qI{a b c e d:Int}(h:a*e-b*c=d)(o:d=1\/d=-1)(s:P2×P2)(RL:s.1≠s.2):iG (sdf (dq a b c e) d s)=dY a b c e d (iG s):=by
 have L:=kq h o;have g0:=d8 RL;have e1:=oS L s;obtain⟨A,B⟩:=s;have d1:gst (A,B) ∣ B.2-A.2:=Jt ..;have d2:gst (A,B) ∣ A.1-B.1:=by rw[<-Mc,Rn];exact JE ..
 unfold iG;rw[e1];generalize gst (A,B)=g at *;unfold dY sdf dq;dsimp only at *;have k1:=uI (a:=d*e) (b:=-(d*c)) g0 d1 d2;have k2:=uI (a:=-(d*b)) (b:=d*a) g0 d1 d2;rcases o with z |z
 ·rw[if_pos z];rw[z]at k1 k2 |-;refine Kq ?_ ?_
  ·dsimp only;rw[show c*B.1+e*B.2-(c*A.1+e*A.2)=1*e*(B.2-A.2)+-(1*c) *(A.1-B.1) by grind,k1];grind
  ·dsimp only;rw[show a*A.1+b*A.2-(a*B.1+b*B.2)=-(1*b) *(B.2-A.2)+1*a*(A.1-B.1) by grind,k2];grind
 ·rw[if_neg (by lia)]
  rw[z]at k1 k2 |-;refine Kq ?_ ?_
  ·dsimp only;rw[show c*A.1+e*A.2-(c*B.1+e*B.2)=-1*e*(B.2-A.2)+-(-1*c) *(A.1-B.1) by grind,k1];grind
  ·dsimp only;rw[show a*B.1+b*B.2-(a*A.1+b*A.2)=-(-1*b) *(B.2-A.2)+-1*a*(A.1-B.1) by grind,k2];grind
theorem wM{l m:List P2}(h:∀x,x∈am l↔x∈am m):am l=am m:=by rw[<-eV l,<-eV m];exact lW (mH h)
theorem nA{a b c e d:Int}(h:a*e-b*c=d)(o:d=1\/d=-1){l:List P2}(h3:3<=(am l).length):am (fcs (am (l.map (dq a b c e))))=am ((fcs (am l)).map (dY a b c e d)):=by
 refine lW (mH λx=>?_)
 have L:=kq h o;unfold fcs;rw[GC,GC];constructor
 ·rintro ⟨t,ht,rfl⟩;obtain⟨s,hs,rfl⟩:=(oQ L h3 t).mp ht;exact⟨_,HS hs,(qI h o s (fO (bo l) (by lia) s hs)).symm⟩
 ·rintro ⟨y,hy,rfl⟩;obtain⟨s,hs,rfl⟩:=GC.mp hy;exact⟨_,(oQ L h3 _).mpr ⟨s,hs,rfl⟩,qI h o s (fO (bo l) (by lia) s hs)⟩
theorem eC{f:P2->P2}{d:Int}(L:Lin f d){l:List P2}(h3:3<=(am l).length):am ((am l).map f)=am (l.map f):=by
 have e:am (am l)=am l:=eV l;refine wM λx=>?_
 rw[b8 L h3,b8 L (by rw[e];exact h3),e]
theorem zd{m:Nat}{A B:P2}(ha:Szp m A)(hb:Szp m B):Sz (m+1) (gst (A,B)):=by
 have s1:Sz (m+1) (B.1-A.1):=hb.1.sub ha.1;have s2:Sz (m+1) (B.2-A.2):=hb.2.sub ha.2;unfold gst;dsimp only;by_cases e:B.1-A.1=0
 ·rw[e,Int.gcd_zero_left];exact s2.natle (by simp)
 ·refine s1.natle ?_;rw[Int.natAbs_natCast];exact Nat.gcd_le_left _ (by lia)
theorem AV{m:Nat}{A B:P2}(ha:Szp m A)(hb:Szp m B):Szp (m+1) (iG (A,B)):=⟨(hb.2.sub ha.2).ediv,(ha.1.sub hb.1).ediv⟩
theorem xJ{m:Nat}{l:List P2}(h:∀p∈l,Szp m p):∀p∈fcs l,Szp (m+1) p:=λp hp=>by
 obtain⟨s,hs,rfl⟩:=GC.mp hp;exact AV (h _ (cH hs).1) (h _ (cH hs).2)
theorem n_(l:List P2):(fcs l).length=l.length:=by unfold fcs;rw[Gp,cJ]
def rT:List U->Out->Prop:=λus o=>∃A B:P2,us=[pu A,pu B]/\A≠B/\Szp 1000 A/\Szp 1000 B/\o=.val (pu (iG (A,B)))
theorem zm(T:Txt w K mg):aL P w K mg base (CXF P w) 4 T.aba.a T.aba.d ["A","B"] (spU K (rT)):=by
 refine a_ T.aba.F qw (λus o h=>?_) (λRF A outer s H E O us o hr h=>?_)
 ·obtain⟨A,B,rfl,RL,ha,hb,rfl⟩:=h;rfl
 obtain⟨A,B,rfl,RL,ha,hb,rfl⟩:=h;refine Ws.nox ?_;obtain⟨cs,ct,G⟩:=qk (B.1-A.1) (B.2-A.2);have g0:0<gst (A,B):=d8 RL;have gz:Sz 1001 (gst (A,B)):=zd ha hb;refine ac (aO (i:=2) qw.nd rfl (Or.inl rfl) (aC ((qo T).mono (by decide)) hr rfl T.aaX.m T.aaX.F.kp T.aaX.b ar (ae (aa 0 rfl) (ae (aa 1 rfl) ai ah) ah) ⟨_,_,_,_,_,cs,ct,rfl,⟨ha.1.mono (by decide),ha.2.mono (by decide),hb.1.mono (by decide),hb.2.mono (by decide)⟩,G,rfl⟩) ?_)
 refine ac (aQ (bp (ak (iw (bP (aM (aa 1 rfl) af rfl rfl) (aM (aa 0 rfl) af rfl rfl)) (aa 2 rfl) ⟨g0,gz.mono (by decide)⟩) (ak (iw (bP (aM (aa 0 rfl) af rfl rfl) (aM (aa 1 rfl) af rfl rfl)) (aa 2 rfl) ⟨g0,gz.mono (by decide)⟩) aZ bK) bK)) ?_)
 exact rfl
structure Hrt(m:Nat)(l:List P2):Prop where
 sz:∀p∈l,Szp m p
 three:3<=l.length
 len:l.length<64
 self:am l=l
 hrt:hrt l=true
theorem Hrt.nd{m:Nat}{l:List P2}(h:Hrt m l):l.Nodup:=by rw[<-h.self];exact bo _
theorem Hrt.ish{m:Nat}{l:List P2}(h:Hrt m l)(hm:m<=1500):qe [lp l] (.val (.bl true)):=by
 have one:am (l.map (scl 1))=l:=by rw[show scl 1=id from funext tW,PN];exact h.self
 refine⟨l,rfl,dh hm h.sz,λe=>by have:=h.three;rw[e]at this;simp at this,h.len,?_⟩
 rw[one,pI h.nd (by have:=h.three;lia),h.hrt]
def hbt(l:List P2):Bool:=decide (whr l (0,0)=1) && decide (pin (am (l.map (scl 1)))=1)
def pX(C:GE):List U->Out->Prop:=λus o=>∃l:List P2,us=[lp l]/\((Hrt 1000 l/\o=.new ((am (fcs l)).map pu))\/((∀p∈l,Szp 1500 p)/\l≠[]/\l.length<64/\hbt l=false/\o=.exc C))
theorem mV(T:Txt w K mg):aL P w K mg base (CXF P w) 9 T.aaP.a T.aaP.d ["land"] (spU K (pX T.aae.c)):=by
 refine a_ T.aaP.F jr (by rintro us o ⟨_,rfl,_⟩;rfl) (λRF A outer s H E O us o hr h=>?_)
 obtain⟨l,rfl,h⟩:=h;rcases h with ⟨h,rfl⟩ |⟨sz,RL,hl,hb,rfl⟩
 ·have h64:=h.len;have h3:=h.three;refine ac (aG (jy (gY (aC ((jx T).mono (by decide)) hr rfl T.aaz.m T.aaz.F.kp T.aaz.b ar (ae (aa 0 rfl) ai ah) (h.ish (by decide))))) (show (!true)=false from rfl) (au ?_))
  refine ac (dA (bO ((k7 T).mono (by decide)) hr rfl T.aaw.m T.aaw.F.kp T.aaw.b ar (ae (EvN.ev (cU (ys:=((sdl l).map λs=>pu (iG s))) rfl (blk (ag lf) ["land","A","B"] [1,2] rfl rfl rfl rfl (by decide+kernel)) (b7 (EvN.ev (bO ((iL T).mono (by decide)) hr rfl T.aaF.m T.aaF.F.kp T.aaF.b ar (ae (aa 0 rfl) ai ah) ⟨l,rfl,by lia,rfl⟩)) (.inl rfl)) (λ_ _ _ _=>dE rfl (aN (aJ (i:=1) jr.nd rfl (Or.inl rfl)) (aN (aJ (i:=2) jr.nd rfl (Or.inl rfl)) cn))) (cS (js:=[1,2]) (by decide)) ?clen ?csz ?dom ?celt)) ai cV) ⟨fcs l,by unfold fcs;rw[lp,G3];rfl,dh (by decide) (xJ h.sz),by rw[n_];lia,λe=>by have:=congrArg Lp e;rw[n_]at this;simp at this;rw[this]at h3;simp at h3,rfl⟩) ?_)
  case clen=>simp
  case csz=>simp only[cJ,Gp];exact GT (ax (by lia))
  case dom=>
   intro x hx;obtain⟨s,_,rfl⟩:=GC.mp hx;exact⟨_,rfl,rfl⟩
  case celt=>
   intro C s' H' fp j x y hx hy;obtain⟨s,hs,ms,rfl,rfl⟩:=bW hx hy;obtain⟨m1,m2⟩:=cH ms;exact (aC ((zm T).mono (by decide)) hr rfl T.aba.m T.aba.F.kp T.aba.b ar (ae (aa 1 rfl) (ae (aa 2 rfl) ai ah) ah) ⟨s.1,s.2,rfl,fO h.nd (by lia) s ms,h.sz _ m1,h.sz _ m2,rfl⟩)
  exact rfl
 ·refine ac (cP (jy (gY (aC ((jx T).mono (by decide)) hr rfl T.aaz.m T.aaz.F.kp T.aaz.b ar (ae (aa 0 rfl) ai ah) ⟨l,rfl,sz,RL,hl,rfl⟩))) (show (!hbt l)=true by rw[hb];rfl) ?_)
  refine ac (tU T.abo rfl T.aae.m aA ?_);exact rfl
theorem mJ{l:List P2}{k:Int}{i:Nat}(e:k=(i:Int))(h:i<l.length):atI (l.map pu) k=some (pu (gp l i)):=bI e (by rw[Gz,dN h];rfl)
theorem xa{a b c e d:Int}(h:a*e-b*c=d)(o:d=1\/d=-1)(n p:P2):wth (dY a b c e d n).1 (dY a b c e d n).2 (dq a b c e p)=wth n.1 n.2 p:=by
 have e1:wth (dY a b c e d n).1 (dY a b c e d n).2 (dq a b c e p)=d*(a*e-b*c) *wth n.1 n.2 p:=by unfold wth dY dq;grind
 rw[e1,h,dd1 o,KN]
theorem y9{x y x' y':Int}{l m:List P2}(RL:m≠[])(h:LI (l.map (wth x y)) (m.map (wth x' y'))):hiW x y l=hiW x' y' m:=by
 obtain⟨⟨p,hp,e⟩,k⟩:=nO x' y' RL;refine Ei ?_ λq hq=>?_
 ·have:wth x' y' p∈l.map (wth x y):=h.mem_iff.mpr (HS hp);obtain⟨q,hq,e2⟩:=GC.mp this;exact⟨q,hq,by rw[e2,e]⟩
 ·have:wth x y q∈m.map (wth x' y'):=h.mem_iff.mp (HS hq);obtain⟨r,hr,e2⟩:=GC.mp this;rw[<-e2];exact k r hr
def ou(T5 Sq:List P2):Bool:=T5.all λn=>decide (hiW n.1 n.2 Sq=1) && decide ((Sq.map (wth n.1 n.2)).count 1=2)
theorem CA{T5 Sq:List P2}(h:ou T5 Sq=true):∀n∈T5,hiW n.1 n.2 Sq=1/\(Sq.map (wth n.1 n.2)).count 1=2:=λn hn=>by
 have:=Ig.mp h n hn;simpa using this
theorem B7{T5 Sq Vw Tj:List P2}{f g:P2->P2}(RL:Sq≠[])(h:ou T5 Sq=true)(h1:LI Vw (T5.map f))(h2:LI Tj (Sq.map g))(hd:∀n p,wth (f n).1 (f n).2 (g p)=wth n.1 n.2 p):ou Vw Tj=true:=by
 refine Ig.mpr λn' UB=>?_
 obtain⟨n,hn,rfl⟩:=GC.mp (h1.mem_iff.mp UB);obtain⟨k1,k2⟩:=CA h n hn
 have pm:LI (Tj.map (wth (f n).1 (f n).2)) (Sq.map (wth n.1 n.2)):=by
  have:=h2.map (wth (f n).1 (f n).2);rw[G3,show wth (f n).1 (f n).2 ∘ g=wth n.1 n.2 from funext λp=>hd n p]at this
  exact this
 rw[Hu,decide_eq_true_eq,decide_eq_true_eq];exact⟨by rw[y9 RL pm];exact k1,by rw[pm.count_eq];exact k2⟩
theorem BD(Z P B q:P2)(a b:Int):av Z P B*(wth a b q-wth a b P)=-(av P B q*(wth a b P-wth a b Z))-av Z P q*(wth a b P-wth a b B):=by unfold av wth;grind
theorem B5{l:List P2}(h3:3<=(am l).length)(a b:Int):∃Z P B,(Z,P)∈sdl (am l)/\(P,B)∈sdl (am l)/\0<av Z P B/\wth a b P=hiW a b (am l)/\wth a b Z<=wth a b P/\wth a b B<=wth a b P:=by
 obtain⟨⟨P,hP,e⟩,k⟩:=nO a b (l:=am l) (λz=>by rw[z]at h3;simp at h3)
 obtain⟨Z,hZ⟩:=w_ hP;obtain⟨B,hB,pos⟩:=j6 h3 hZ;refine⟨Z,P,B,hZ,hB,pos,e,?_,?_⟩
 ·rw[e];exact k Z (cH hZ).1
 ·rw[e];exact k B (cH hB).2
theorem Fr{l:List P2}(h3:3<=(am l).length)(a b:Int){q:P2}(hq:∀s∈sdl (am l),0<=av s.1 s.2 q):wth a b q<=hiW a b (am l):=by
 obtain⟨Z,P,B,hZ,hB,pos,e,k1,k2⟩:=B5 h3 a b;rw[<-e];have i1:0<=av P B q*(wth a b P-wth a b Z):=Ht (hq _ hB) (by lia)
 have i2:0<=av Z P q*(wth a b P-wth a b B):=Ht (hq _ hZ) (by lia)
 have pe:=BD Z P B q a b;rcases Jn (wth a b P) (wth a b q) with h |h
 ·have:=IE pos (show 0<wth a b q-wth a b P by lia)
  lia
 ·exact h
theorem sqn(x:Int):0<=x*x:=by
 rcases NF 0 x with h |h
 ·exact Ht h h
 ·have:=Ht (show 0<=-x by lia) (show 0<=-x by lia)
  rwa [Int.neg_mul_neg]at this
def inn(l:List P2)(p:P2):Prop:=∀s∈sdl l,0<av s.1 s.2 p
theorem Cp(s:P2×P2)(p:P2):av s.1 s.2 p=crs s-((s.2.2-s.1.2) *p.1+(s.1.1-s.2.1) *p.2):=by unfold av crs;grind
theorem yH{l:List P2}(h3:3<=l.length)(hc:am l=l)(h:hrt l=true){p:P2}(hp:inn l p):p=(0,0):=by
 have hn:l.Nodup:=by rw[<-hc];exact bo l
 have hh:=of_decide_eq_true h
 have ray:∀t:Int,0<=t->∀s∈sdl (am l),0<=av s.1 s.2 (t*p.1,t*p.2):=λt ht s hs=>by
  rw[hc]at hs;have k:=hp s hs;have g0:=d8 (fO hn (by lia) s hs)
  have d1:gst s ∣ (s.2.2-s.1.2) *p.1+(s.1.1-s.2.1) *p.2:=by
   have e1:gst s ∣ s.2.2-s.1.2:=Jt ..;have e2:gst s ∣ s.1.1-s.2.1:=by rw[<-Mc,Rn];exact JE ..
   exact Kk (G_ e1 (IP ..)) (G_ e2 (IP ..))
  rw[Cp,hh s hs]at k
  have le:(s.2.2-s.1.2) *p.1+(s.1.1-s.2.1) *p.2<=0:=by
   rcases Jn 0 ((s.2.2-s.1.2) *p.1+(s.1.1-s.2.1) *p.2) with z |z
   ·have:=QP z d1;lia
   ·exact z
  have e:av s.1 s.2 (t*p.1,t*p.2)=gst s+t* -((s.2.2-s.1.2) *p.1+(s.1.1-s.2.1) *p.2):=by
   rw[Cp,hh s hs];grind
  rw[e];have:=Ht ht (show 0<=-((s.2.2-s.1.2) *p.1+(s.1.1-s.2.1) *p.2) by lia)
  lia
 have c3:3<=(am l).length:=by rw[hc];exact h3
 have w:∀t:Int,wth p.1 p.2 (t*p.1,t*p.2)=t*(p.1*p.1+p.2*p.2):=λt=>by unfold wth;grind
 have h0:=Fr c3 p.1 p.2 (ray 0 (by decide))
 rw[w,Mq]at h0;have hH:=Fr c3 p.1 p.2 (ray (hiW p.1 p.2 (am l)+1) (by lia))
 rw[w]at hH;generalize hiW p.1 p.2 (am l)=H at *;have n1:0<=p.1*p.1:=sqn _;have n2:0<=p.2*p.2:=sqn _
 have z:p.1*p.1+p.2*p.2=0:=by
  rcases Jn 0 (p.1*p.1+p.2*p.2) with q |q
  ·have:(H+1) *1<=(H+1) *(p.1*p.1+p.2*p.2):=Int.mul_le_mul_of_nonneg_left (by lia) (by lia)
   lia
  ·lia
 have z1:p.1*p.1=0:=by omega
 have z2:p.2*p.2=0:=by omega
 exact Kq ((Jz.mp z1).elim id id) ((Jz.mp z2).elim id id)
theorem wc{l:List P2}(h:l.length<3):hbt l=false:=by
 have:¬ whr l (0,0)=1:=by unfold whr;rw[if_pos h];split <;>decide
 unfold hbt;rw[decide_eq_false this];rfl
theorem Dy{l:List P2}{p:P2}(h3:3<=l.length)(h:whr l p=1):inn l p:=λs hs=>by
 unfold whr at h;rw[if_neg (by lia),uH]at h
 have ne:jd l p≠[]:=λe=>by have:=congrArg Lp e;simp[jd,cJ]at this;rw[this]at h3;simp at h3
 have:=(oA ne).2 (av s.1 s.2 p) (GC.mpr ⟨s,hs,rfl⟩);lia
theorem B2{l:List P2}(h:¬ inn l (0,0)):hbt l=false:=by
 by_cases h3:l.length<3
 ·exact wc h3
 ·have:¬ whr l (0,0)=1:=λe=>h (Dy (by lia) e)
  unfold hbt;rw[decide_eq_false this];rfl
theorem yx(f:P2->P2){l:List P2}{i:Nat}(h:i<l.length):gp (l.map f) i=f (gp l i):=i4 (by rw[Gz,dN h];rfl)
theorem zA(f:P2->P2)(l:List P2):sdl (l.map f)=(sdl l).map λs=>(f s.1,f s.2):=by
 unfold sdl;rw[G3,Gp];refine Jc λi hi=>?_
 have RW:=G8.mp hi;show (gp (l.map f) i,gp (l.map f) ((i+1)%(l.map f).length))=(f (gp l i),f (gp l ((i+1)%l.length)));rw[Gp,yx f RW,yx f (Ja _ (by lia))]
theorem BX{l:List P2}(h3:3<=l.length)(hc:am l=l)(h:hrt l=true){f g:Int}(ne:¬ (f=0/\g=0)):hbt (l.map (sft f g))=false:=B2 λk=>by
 have:inn l (-f,-g):=λs hs=>by
  have q:=k (sft f g s.1,sft f g s.2) (by rw[zA];exact GC.mpr ⟨s,hs,rfl⟩)
  have e:av (sft f g s.1) (sft f g s.2) (0,0)=av s.1 s.2 (-f,-g):=by unfold av sft;grind
  rw[<-e];exact q
 have z:=yH h3 hc h this;have z1:-f=0:=congrArg Ov z;have z2:-g=0:=congrArg Ow z;exact ne ⟨by lia,by lia⟩
structure sI(l c:List P2):Prop where
 h3:3<=l.length
 hl:l.length<=12
 self:am l=l
 hrt:hrt l=true
 fc:am (fcs l)=c
 rim:b6 l+b6 c=12
def bY:List P2:=[(1,0),(1,1),(0,1),(-1,1),(-1,0),(-1,-1),(0,-1),(1,-1)]
def eQ:Nat->List P2->List P2
 |_,[]=>[]
 |n,p::r=>if n%2=1 then p::eQ (n/2) r else eQ (n/2) r
def nJ(l:List P2):Bool:=decide (3<=l.length) && (sdl l).all λs=>decide (0<av s.1 s.2 (0,0))
def jk(n:Nat):List P2:=if nJ (am (eQ n bY))=true then am (eQ n bY) else am bY
def oK(l c:List P2):Bool:=decide (3<=l.length) && decide (l.length<=12) && decide (am l=l) && hrt l && decide (am (fcs l)=c) && decide (b6 l+b6 c=12)
def sQ(l m:List P2):Bool:=oK l m && oK m l && decide (l.length=m.length) && ou l m && ou m l && decide (∀p∈l++m,p.1.natAbs<=100/\p.2.natAbs<=100)
set_option maxRecDepth 100000 in
theorem zw:((HJ 256).all λn=>sQ (jk n) (am (fcs (jk n))))=true:=by decide+kernel
theorem ua{l c:List P2}(h:oK l c=true):sI l c:=by
 unfold oK at h;simp only[Hu,decide_eq_true_eq]at h;obtain⟨⟨⟨⟨⟨h1,h2⟩,h3⟩,h4⟩,h5⟩,h6⟩:=h;exact⟨h1,h2,h3,h4,h5,h6⟩
structure vQ(l m:List P2):Prop where
 p1:sI l m
 p2:sI m l
 le:l.length=m.length
 m1:ou l m=true
 m2:ou m l=true
 s1:∀p∈l,Szp 8 p
 s2:∀p∈m,Szp 8 p
theorem base_of{l m:List P2}(h:sQ l m=true):vQ l m:=by
 unfold sQ at h;simp only[Hu,decide_eq_true_eq]at h;obtain⟨⟨⟨⟨⟨h1,h2⟩,h3⟩,h4⟩,h5⟩,h6⟩:=h
 have key:∀p∈l++m,Szp 8 p:=λp hp=>by
  have:=h6 p hp;unfold Szp Sz;lia
 exact⟨ua h1,ua h2,h3,h4,h5,λp hp=>key p (HX _ hp),λp hp=>key p (GM _ hp)⟩
theorem je{n:Nat}(h:n<256):vQ (jk n) (am (fcs (jk n))):=base_of (Ig.mp zw n (G8.mpr h))
theorem vQ.swap{l m:List P2}(B:vQ l m):vQ m l:=⟨B.p2,B.p1,B.le.symm,B.m2,B.m1,B.s2,B.s1⟩
theorem tV{m:Nat}{a b c e:Int}{p:P2}(sa:Sz 50 a)(sb:Sz 50 b)(sc:Sz 50 c)(se:Sz 50 e)(sp:Szp m p):Szp (50+m+1) (dq a b c e p):=
 ⟨(L2.Sz.mul sa sp.1).add (L2.Sz.mul sb sp.2),(L2.Sz.mul sc sp.1).add (L2.Sz.mul se sp.2)⟩
theorem Cd{m:Nat}{a b c e d:Int}{p:P2}(sd:Sz 8 d)(sa:Sz 50 a)(sb:Sz 50 b)(sc:Sz 50 c)(se:Sz 50 e)(sp:Szp m p):Szp (8+(50+m+1)) (dY a b c e d p):=
 ⟨L2.Sz.mul sd ((L2.Sz.mul se sp.1).sub (L2.Sz.mul sc sp.2)),L2.Sz.mul sd ((L2.Sz.mul sa sp.2).sub (L2.Sz.mul sb sp.1))⟩
structure HF(l m:List P2):Prop where
 hl:Hrt 100 l
 hm:Hrt 100 m
 fl:am (fcs l)=m
 fm:am (fcs m)=l
 mt:ou m l=true
 le:m.length=l.length
 l12:l.length<=12
 rm:b6 l+b6 m=12
theorem Ci{l1 c1:List P2}(B:vQ l1 c1){a b c e d:Int}(U0:a*e-b*c=d)(hh:d=1\/d=-1)(sa:Sz 50 a)(sb:Sz 50 b)(sc:Sz 50 c)(se:Sz 50 e):HF (am (l1.map (dq a b c e))) (am (fcs (am (l1.map (dq a b c e))))):=by
 obtain⟨p1,p2,ple,m1,m2,lz,cz⟩:=B;have L:=kq U0 hh;have D:=Bx U0 hh;have fc:=p1.fc;have cl1:3<=(am l1).length:=by rw[p1.self];exact p1.h3
 have cf3:3<=(am (fcs l1)).length:=by rw[fc];exact p2.h3
 have sd:Sz 8 d:=by unfold Sz;lia
 have fl:(am (l1.map (dq a b c e))).length=l1.length:=by
  have:=(gM L cl1).length_eq;rw[Gp,p1.self]at this;exact this
 have l12:=p1.hl
 have fh:Hrt 100 (am (l1.map (dq a b c e))):=⟨λp hp=>by
  obtain⟨q,hq,rfl⟩:=GC.mp (bU _ p hp);have z:=tV sa sb sc se (lz q hq);exact⟨z.1.mono (by decide),z.2.mono (by decide)⟩,gJ L cl1,by lia,eV _,tx L cl1 (by rw[p1.self];exact p1.hrt)⟩
 have fe:am (fcs (am (l1.map (dq a b c e))))=am ((fcs l1).map (dY a b c e d)):=by rw[nA U0 hh cl1,p1.self]
 have ge:am ((fcs l1).map (dY a b c e d))=am (c1.map (dY a b c e d)):=by rw[<-eC D cf3,fc]
 have cc:3<=(am c1).length:=by rw[p2.self];exact p2.h3
 have gl:(am (c1.map (dY a b c e d))).length=l1.length:=by
  have:=(gM D cc).length_eq;rw[Gp,p2.self]at this;rw[this,ple]
 rw[fe,ge]
 have gh:Hrt 100 (am (c1.map (dY a b c e d))):=⟨λp hp=>by
  obtain⟨q,hq,rfl⟩:=GC.mp (bU _ p hp);have z:=Cd sd sa sb sc se (cz q hq);exact⟨z.1.mono (by decide),z.2.mono (by decide)⟩,gJ D cc,by lia,eV _,tx D cc (by rw[p2.self];exact p2.hrt)⟩
 have hdet2:d*e*(d*a) - -(d*c) * -(d*b)=d:=by
  have:d*e*(d*a) - -(d*c) * -(d*b)=d*d*(a*e-b*c):=by grind
  rw[this,U0,dd1 hh,KN]
 have back:am (fcs (am (c1.map (dY a b c e d))))=am (l1.map (dq a b c e)):=by
  have dd:c1.map (dY a b c e d)=c1.map (dq (d*e) (-(d*c)) (-(d*b)) (d*a)):=Jc λp _=>uB a b c e d p
  rw[dd,nA hdet2 hh cc,p2.self];have:(fcs c1).map (dY (d*e) (-(d*c)) (-(d*b)) (d*a) d)=(fcs c1).map (dq a b c e):=Jc λp _=>vN hh p
  rw[this,<-eC L (by rw[p2.fc];exact p1.h3),p2.fc]
 refine⟨fh,gh,by rw[fe,ge],back,?_,by lia,by lia,?_⟩
 ·refine B7 (f:=dY a b c e d) (g:=dq a b c e) ?_ m2 ?_ ?_ (xa U0 hh)
  ·intro z;have:=p1.h3;rw[z]at this;simp at this
  ·have:=gM D cc
   rwa [p2.self]at this
  ·have:=gM L cl1
   rwa [p1.self]at this
 ·rw[tP L cl1,tP D cc,p1.self,p2.self];exact p1.rim
theorem w6{l:List P2}(h:l.Nodup)(h3:3<=l.length):3<=b6 l:=by
 have key:∀L:List (P2×P2),(∀s∈L,0<gst s)->(L.length:Int)<=(L.map gst).sum:=λL=>by
  induction L with
  |nil=>intro _;simp
  |cons s L ih=>
   intro h;have:=ih λy hy=>h y (Gq _ hy)
   have:=h s Gy;simp only[GI,GW,J3];lia
 have:=key (sdl l) λs hs=>d8 (fO h (by lia) s hs)
 rw[cJ]at this;unfold b6;lia
theorem yw(f g:Int)(l:List P2):am (l.map (sft f g))=(am l).map (sft f g):=xu (f:=sft f g) (λp q h=>by unfold plt sft at *;dsimp only;lia) (λp q r=>by
 have:av (sft f g p) (sft f g q) (sft f g r)=av p q r:=by unfold av sft;grind
 rw[this]) l
def D10:List Nat:=[48,49,50,51,52,53,54,55,56,57]
theorem nK(c:Nat):c∈D10↔48<=c/\c<=57:=by unfold D10;simp;omega
def bw(l:List Nat):List Nat:=if l.head?=some 45 then l.drop 1 else l
theorem iA{l:List Nat}(h:l.head?=some 45):l=45::bw l:=by
 unfold bw;rw[if_pos h];cases l with
 |nil=>simp at h
 |cons a r=>simp at h;subst h;rfl
theorem fP{l:List Nat}(h:¬ l.head?=some 45):bw l=l:=if_neg h
theorem pO(l:List Nat):(bw l).length<=l.length:=by unfold bw;split <;>simp
def r_(l:List Nat):Bool:=l.all λc=>decide (c∈D10)
theorem o0(l:List Nat):r_ l=true↔NumText.AllDigits l:=by
 unfold r_ NumText.AllDigits;rw[Ig];exact⟨λh c hc=>(nK c).mp (of_decide_eq_true (h c hc)),λh c hc=>decide_eq_true ((nK c).mpr (h c hc))⟩
def okL(l:List Nat):Bool:=(decide (1<=(bw l).length) && decide ((bw l).length<=60)) && (r_ (bw l) && !(decide ((bw l).head?=some 48) && (decide (1<(bw l).length) ||decide (l≠bw l))))
structure Num(l:List Nat):Prop where
 l1:1<=(bw l).length
 l2:(bw l).length<=60
 ad:NumText.AllDigits (bw l)
 h0:(bw l).head?=some 48->(bw l).length=1/\l=bw l
theorem ko(l:List Nat):okL l=true↔Num l:=by
 unfold okL;simp only[Hu,decide_eq_true_eq,OF,o0];constructor
 ·rintro ⟨⟨a,b⟩,c,d⟩;refine⟨a,b,c,λh=>?_⟩
  rw[decide_eq_true h,Ko,Bool.or_eq_false_iff]at d;have d1:=of_decide_eq_false d.1;have d2:=of_decide_eq_false d.2;exact⟨by lia,Classical.not_not.mp d2⟩
 ·intro h;refine⟨⟨h.l1,h.l2⟩,h.ad,?_⟩;by_cases z:(bw l).head?=some 48
  ·obtain⟨e1,e2⟩:=h.h0 z;rw[decide_eq_false (show ¬ 1<(bw l).length by lia),decide_eq_false (show ¬ l≠bw l from λk=>k e2)]
   simp
  ·rw[decide_eq_false z];rfl
def zN(l:List Nat):Int:=if l.head?=some 45 then -((NumText.digitsVal (bw l):Nat):Int) else ((NumText.digitsVal (bw l):Nat):Int)
theorem uy:∀(cs:List Nat) (a:Nat),NumText.AllDigits cs->cs.foldl (λacc c=>acc*10+(c-48)) a<(a+1) *10 ^ cs.length
 |[],a,_=>by simp
 |c::cs,a,h=>by
  have h1:=h c Gy;have ih:=uy cs (a*10+(c-48)) λd hd=>h d (Gq _ hd)
  rw[Ib,GI,IW];refine GV ih ?_;rw[OX (10 ^ cs.length) 10,<-Nat.mul_assoc];exact Kx _ (by lia)
theorem zt{m:Nat}(h:m<10 ^ 62):m.log2<1920:=by
 by_cases z:m=0
 ·subst z;decide
 ·rw[Pn z];exact Jm h (by decide+kernel)
theorem Num.text{l:List Nat}(h:Num l):N0 (T' l)=some (zN l):=by
 have hl:=pO l;have ne:bw l≠[]:=λe=>by have:=h.l1;rw[e]at this;simp at this
 unfold zN;by_cases z:l.head?=some 45
 ·rw[if_pos z];have e:=iA z;refine intText_neg (x:=T' l) (cs:=bw l) (by simpa using e) h.ad ne ?_
  rw[br];have:=congrArg Lp e;rw[GI]at this;have:=h.l2;lia
 ·rw[if_neg z,fP z];have a:=h.ad;have b:=h.l2;rw[fP z]at a b ne;have:=Qo (x:=T' l) (by simpa using a) (by simpa using ne) (by rw[br];lia)
  simpa using this
def ds(n:Int):List Nat:=(Str.ofString (NI n)).cps.toList
theorem qZ(n:Int):Str.ofString (NI n)=T' (ds n):=zR _
theorem e_(m:Nat):ds (m:Int)=(NH 10 m).map Char.toNat:=Ra m
theorem qP{m:Nat}(h:0<m):ds (-(m:Int))=45::ds (m:Int):=by
 unfold ds;rw[toString_neg (show (-(m:Int))<0 by lia),Qp,Qp,show (0:Int) - -(m:Int)=(m:Int) by lia,String.toList_append,Iu]
 rfl
theorem dC{n:Int}{k:Nat}(hk:1<=k)(h:n.natAbs<10 ^ k):(ds n).length<=k+1:=by
 rcases Jn n 0 with z |z
 ·obtain⟨m,rfl⟩:∃m:Nat,n=-(m:Int):=⟨n.natAbs,by lia⟩
  rw[qP (by lia),GI,e_,Gp]
  have:=PR hk (n:=m) (by lia)
  lia
 ·obtain⟨m,rfl⟩:∃m:Nat,n=(m:Int):=⟨n.toNat,by lia⟩
  rw[e_,Gp];have:=PR hk (n:=m) (by lia)
  lia
theorem Du:∀d:Nat,d<10->48<=(QS d).toNat/\(QS d).toNat<=57:=by decide
theorem gg(m:Nat):NumText.AllDigits (ds (m:Int)):=by
 induction m using Pw with
 |_ m ih=>
  by_cases h:m<10
  ·rw[e_,Nat.toDigits_of_lt_base h];intro c hc;simp at hc;rw[hc];exact Du m h
  ·have hm:m%10<10:=Ja m (by decide)
   have t:NH 10 (m/10)++NH 10 (m%10)=NH 10 (10*(m/10)+m%10):=Nat.toDigits_append_toDigits (by decide) (by lia) hm
   rw[Nat.div_add_mod]at t;rw[e_,<-t,Iu];intro c hc;rcases HU.mp hc with k |k
   ·exact ih (m/10) (by lia) c (by rw[e_];exact k)
   ·exact ih (m%10) (by lia) c (by rw[e_];exact k)
theorem oW(m:Nat):NumText.digitsVal (ds (m:Int))=m:=by rw[e_];exact Rb m
theorem qM(m:Nat):ds (m:Int)≠[]:=λe=>by
 have h:=e_ m;rw[e]at h;have:=Nat.toDigits_ne_nil (b:=10) (n:=m);exact this (by simpa using h.symm)
theorem oF{m k:Nat}(hk:1<=k)(h:m<10 ^ k):(ds (m:Int)).length<=k:=by
 rw[e_,Gp];exact PR hk h
theorem Az{m:Nat}(h:(ds (m:Int)).head?=some 48):m=0:=by
 cases e:ds (m:Int) with
 |nil=>rw[e]at h;simp at h
 |cons c r=>
  rw[e]at h;simp at h;subst h;have d:=gg m;have v:=oW m;rw[e]at d v;have v2:NumText.digitsVal r=m:=v;cases r with
  |nil=>rw[<-v2];rfl
  |cons a r=>
   have:=uy (a::r) 0 (λc hc=>d c (Gq _ hc))
   rw[Nat.zero_add,PU]at this;have l:=oF (m:=m) (k:=(a::r).length) (by simp) (by rw[<-v2];exact this)
   rw[e]at l;simp at l;lia
theorem kh(n:Int):bw (ds n)=ds (n.natAbs:Int)/\((ds n).head?=some 45↔n<0):=by
 rcases Jn n 0 with z |z
 ·obtain⟨m,rfl⟩:∃m:Nat,n=-(m:Int):=⟨n.natAbs,by lia⟩
  have e:=qP (m:=m) (by lia)
  rw[e];refine⟨?_,by simp;lia⟩
  unfold bw;rw[if_pos (show (45::ds (m:Int)).head?=some 45 from rfl)]
  simp
 ·obtain⟨m,rfl⟩:∃m:Nat,n=(m:Int):=⟨n.natAbs,by lia⟩
  have hh:(ds (m:Int)).head?≠some 45:=λh=>by
   cases e:ds (m:Int) with
   |nil=>exact qM m e
   |cons c r=>
    rw[e]at h;simp at h;have:=gg m c (by rw[e];exact Gy)
    lia
  refine⟨?_,by simp[hh]⟩
  rw[fP hh];simp
theorem oG(n:Int):zN (ds n)=n:=by
 obtain⟨e,h⟩:=kh n;unfold zN;rw[e,oW];by_cases z:n<0
 ·rw[if_pos (h.mpr z)];lia
 ·rw[if_neg λk=>z (h.mp k)];lia
theorem xL{n:Int}(h:n.natAbs<10 ^ 60):okL (ds n)=true:=by
 refine (ko _).mpr ?_;obtain⟨e,hh⟩:=kh n;refine⟨?_,?_,?_,λk=>?_⟩
 ·rw[e];exact Jx.mpr (qM _)
 ·rw[e];exact oF (by decide) h
 ·rw[e];exact gg _
 ·rw[e]at k |-;have z:=Az k;have n0:n=0:=by lia
  subst n0;exact⟨by decide+kernel,by rfl⟩
theorem uf{n:Int}(h:n.natAbs<10 ^ 300):N0 (T' (ds n))=some n:=by
 obtain⟨e,hh⟩:=kh n;have l:=dC (n:=n) (k:=300) (by decide) h
 by_cases z:n<0
 ·have e2:=iA (hh.mpr z);rw[e]at e2;have:=intText_neg (x:=T' (ds n)) (cs:=ds (n.natAbs:Int)) (by simpa using e2) (gg _) (qM _) (by rw[br];lia)
  rw[this,oW];congr 1;lia
 ·obtain⟨m,rfl⟩:∃m:Nat,n=(m:Int):=⟨n.natAbs,by lia⟩
  have:=Qo (x:=T' (ds (m:Int))) (by simpa using gg m) (by simpa using qM m) (by rw[br];lia)
  rw[this];simp[oW]
theorem cZ(n:Int){c:Nat}(hc:c<45\/57<c\/c=47\/c=46):c ∉ ds n:=λh=>by
 rcases Jn n 0 with z |z
 ·obtain⟨m,rfl⟩:∃m:Nat,n=-(m:Int):=⟨n.natAbs,by lia⟩
  rw[qP (by lia)]at h
  rcases Gx.mp h with k |k
  ·lia
  ·have:=gg m c k;lia
 ·obtain⟨m,rfl⟩:∃m:Nat,n=(m:Int):=⟨n.natAbs,by lia⟩
  have:=gg m c h;lia
def ptD(p:P2):List Nat:=ds p.1++44::ds p.2
def B60(p:P2):Prop:=p.1.natAbs<10 ^ 60/\p.2.natAbs<10 ^ 60
theorem l4(p:P2):32 ∉ ptD p:=λh=>by
 unfold ptD at h;rcases HU.mp h with k |k
 ·exact cZ p.1 (by lia) k
 ·rcases Gx.mp k with k |k
  ·lia
  ·exact cZ p.2 (by lia) k
theorem gB{p:P2}(h:B60 p):(ptD p).length<=123:=by
 have h1:(ds p.1).length<=61:=dC (by decide) h.1
 have h2:(ds p.2).length<=61:=dC (by decide) h.2
 unfold ptD;simp;lia
def jn:List (List Nat)->List Nat
 |[]=>[]
 |[w]=>w
 |w::r=>w++32::jn r
theorem di(w:List Nat){r:List (List Nat)}(h:r≠[]):jn (w::r)=w++32::jn r:=by
 cases r with
 |nil=>exact absurd rfl h
 |cons a r=>rfl
theorem nV:∀{ws:List (List Nat)},ws≠[]->(∀w∈ws,32 ∉ w)->spl 32 (jn ws)=ws
 |[],h,_=>absurd rfl h
 |[w],_,h=>iC (h w Gy)
 |w::a::r,_,h=>by
  rw[di w (by simp),kl _ (h w Gy),nV (by simp) λx hx=>h x (Gq _ hx)]
theorem Eb:∀ws:List (List Nat),Txt.join (T' [32]) (ws.map T')=T' (jn ws):=λws=>by
 show Builtin.Str.glued _ _=_;rw[StrLaws.glued_eq_join]
 induction ws with
 |nil=>rfl
 |cons w r ih=>
  cases r with
  |nil=>rfl
  |cons a r=>
   rw[di w (by simp)]
   show T' w++T' [32]++Str.join (T' [32]) ((a::r).map T')=_;rw[ih,lx,lx];refine congrArg T' ?_;simp
theorem xP{c:Nat}:∀ws:List (List Nat),(∀w∈ws,w.length<=c)->(jn ws).length<=ws.length*(c+1)
 |[],_=>by simp[jn]
 |[w],h=>by have:=h w Gy;simp[jn];lia
 |w::a::r,h=>by
  have ih:=xP (a::r) λx hx=>h x (Gq _ hx)
  have:=h w Gy;rw[di w (by simp),Hb,GI,GI (a:=w),Ro,PU]
  lia
def cD(l:List Nat):List Nat:=l.map λc=>if c=44 then 32 else c
theorem zS:∀l:List Nat,jn (spl 44 l)=cD l
 |[]=>by simp[spl,jn,cD]
 |c::l=>by
  have ih:=zS l;obtain⟨p,r,e⟩:=DL 44 l;unfold spl;rw[e]at ih |-;by_cases h:c=44
  ·subst h;simp only[if_true,beq_self_eq_true];rw[di _ (by simp),ih]
   simp[cD]
  ·simp only[beq_iff_eq,h,if_false];cases r with
   |nil=>unfold jn at ih |-;rw[ih];simp[cD,h]
   |cons a r=>
    rw[di _ (by simp)]at ih |-
    show c::(p++32::jn (a::r))=_;rw[ih];simp[cD,h]
theorem Fg(l:List Nat):Txt.replace (T' l) (Str.ofString ",") (Str.ofString " ")=T' (cD l):=by
 rw[show (Str.ofString ",":Str)=⟨#[44]⟩ from rfl,StrLaws.replace_one,rM,←StrLaws.glued_eq_join]
 show Txt.join (T' [32]) _=_;rw[Eb,zS]
theorem kH{l:List Nat}(h:44 ∉ l):cD l=l:=by
 unfold cD
 induction l with
 |nil=>rfl
 |cons a r ih=>
  rw[GW,ih λz=>h (Gq _ z),if_neg λz=>h (by rw[z];exact Gy)]
theorem gu(K:Gn):J5 K (.type "str") (.type "str")=some true:=rfl
def sq:List U->Out->Prop:=λus o=>∃x,us=[.str x]/\o=.val .non
theorem iI(T:Txt w K mg):aL P w K mg base (CXF P w) 1 T.aar.a T.aar.d ["thing"] (spU K (sq)):=by
 refine a_ T.aar.F nW (λus o h=>?_) (λRF A outer s H E O us o hr h=>?_)
 ·obtain⟨x,rfl,rfl⟩:=h;rfl
 obtain⟨x,rfl,rfl⟩:=h;refine Ws.nox ?_;refine ac (aG (jy (gY (aw (lv (by intro _ h;cases h) (gu _)) rfl T.aax JU (ae (aa 0 rfl) (ae (Ds rfl T.abk NM) ai ah) ah)))) rfl (au (au ?_)))
 exact rfl
theorem sz1{l:List Nat}(h:l.length<=8200):(T' l).length<=sizeLine:=by rw[br];exact GT (nZ (by lia))
theorem hy:((Str.ofString "-"):Str)=⟨#[45]⟩:=rfl
theorem fg:((Str.ofString "0123456789"):Str)=T' D10:=rfl
theorem eqS(x y:Str):eqW (.str x) (.str y)=decide (x=y):=by
 show (x==y)=_;by_cases h:x=y
 ·subst h;simp
 ·rw[decide_eq_false h];simpa using h
theorem n9{l m:List Nat}(h:T' l=T' m):l=m:=by
 have:=congrArg (λx:Str=>x.cps.toList) h
 simpa using this
def vm:List U->Out->Prop:=λus o=>∃l:List Nat,us=[.str (T' l)]/\l.length<=8200/\o=.val (.bl (okL l))
theorem f9(T:Txt w K mg):aL P w K mg base (CXF P w) 1 T.aaj.a T.aaj.d ["text"] (spU K (vm)):=by
 refine a_ T.aaj.F ce (λus o h=>?_) (λRF A outer s H E O us o hr h=>?_)
 ·obtain⟨l,rfl,hl,rfl⟩:=h;rfl
 obtain⟨l,rfl,hl,rfl⟩:=h;refine Ws.nox ?_;have fl:=pO l;have st:=BQ l 45;have Vg:∀{X:Cx}{H0:Hp}{O0:List GE}{ps:PSt}{e:Expr} (x y:Str),x=y->Ev X H0 O0 ps e (.str x)->Ev X H0 O0 ps e (.str y):=λx y h=>by subst h;exact id
 have k1:Txt.startswith (T' l) (Str.ofString "-")=true→StrLaws.sliceText (T' l) (some 1) none=T' (bw l):=λh=>by
  rw[hy,st]at h;rw[show (1:Int)=((1:Nat):Int) from rfl,lh]
  unfold bw;rw[if_pos (of_decide_eq_true h)]
 have k2:Txt.startswith (T' l) (Str.ofString "-")=false→T' l=T' (bw l):=λh=>by
  rw[hy,st]at h;rw[fP (of_decide_eq_false h)]
 refine ac (aO (i:=1) ce.nd rfl (Or.inl rfl) (xl (gY (xn (aa 0 rfl) aA ay)) (λhz=>(Vg _ _ (k1 hz) (lH (aa 0 rfl) (c7 af) cW (sz1 hl)))) (λhz=>(Vg _ _ (k2 hz) (aa 0 rfl)))) ?_)
 have hm:((T' (bw l)).length:Int)=((bw l).length:Int):=by rw[br]
 by_cases h1:1<=(bw l).length/\(bw l).length<=60
 ·refine ac (aG (Tw.t (iX (ao e7 (aw (fR (sz1 (by lia))) rfl T.aap GL (ae (aa 1 rfl) ai ah)) af) (λhz=>(iF (ao jo (aw (fR (sz1 (by lia))) rfl T.aap GL (ae (aa 1 rfl) ai ah)) (qE rfl T.aa3)))))) (by rw[hm,decide_eq_false (show ¬ ((bw l).length:Int)<1 by lia),decide_eq_false (show ¬ ((bw l).length:Int) >60 by lia)];rfl) (au ?_))
  have Ur:∀c:Nat,(!(Builtin.Str.occurrences (Str.ofString "0123456789") ⟨#[c]⟩ 0 (Str.ofString "0123456789").length 1).isEmpty)=decide (c∈D10):=λc=>by rw[fg];exact in1 D10 c
  have eall:((bw l).map λc=>decide (c∈D10)).all id=r_ (bw l):=by unfold r_;rw[QY];rfl
  refine ac (k9 (jy (gY (aw (EM rfl (bs:=(bw l).map λc=>decide (c∈D10))) rfl T.abD boot_all (ae (EvN.ev (cU (ys:=(((bw l).map λc=>decide (c∈D10)).map U.bl)) rfl (blk (ag cx) ["text","figures","sign"] [2] rfl rfl rfl rfl (by decide+kernel)) (zE (aa 1 rfl)) (λ_ _ _ _=>aJ (i:=2) ce.nd rfl (Or.inl rfl)) (c_ (by decide)) ?clen ?csz (λ_ _=>trivial) ?celt)) ai cV)))) (λhT=>?_) (λhF=>(au ?_)))
  case clen=>simp
  case csz=>simp;exact GT (nZ (by lia))
  case celt=>
   intro C s' H' fp j x y hx U3;have e1:(T' (bw l)).cps.toList=bw l:=by simp
   rw[e1]at hx;rw[G3]at U3;obtain⟨c,hc,mc,rfl,rfl⟩:=bW hx U3;show Ev _ _ _ _ _ (.bl (decide (c∈D10)));rw[<-Ur c];exact (jK E_ (aa 2 rfl) (Ff rfl T.abr))
  ·refine ac (aQ ro ?_);refine vB ?_
   symm
   rw[eall]at hT;unfold okL;have:r_ (bw l)=false:=by simpa using hT
   rw[this];simp
  ·rw[eall]at hF;have ha:r_ (bw l)=true:=by simpa using hF
   obtain⟨c,r,hcr⟩:∃c r,bw l=c::r:=by
    cases e:bw l with
    |nil=>rw[e]at h1;simp at h1
    |cons c r=>exact⟨c,r,rfl⟩
   have at0:atI (T' (bw l)).cps.toList 0=some c:=bI (i:=0) rfl (by simp[hcr])
   refine ac (aQ (F2 (jK (bJ (ba hr) (by walk_at"ok") (by walk_at"ok")) (aa 0 rfl) aA) (λhz=>(yo (jK (mf (ba hr) (by walk_at"ok") (by walk_at"ok")) (E1 (aa 1 rfl) af (sz1 (by lia)) at0) aA)))) ?_)
   refine vB ?_
   have e1:eqW (.str (T' l)) (.str (Str.ofString "0"))=decide (l=[48]):=by
    rw[eqS];refine decide_eq_decide.mpr ⟨λh=>n9 (m:=[48]) h,λh=>by rw[h];rfl⟩
   have e2:eqW (sg c) (.str (Str.ofString "0"))=decide (c=48):=by
    rw[eqS];refine decide_eq_decide.mpr ⟨λh=>?_,λh=>by rw[h];rfl⟩
    have:=n9 (l:=[c]) (m:=[48]) h;simpa using this
   rw[e1,e2,Jv,ko];have hd:(bw l).head?=some c:=by rw[hcr];rfl
   constructor
   ·intro h;refine⟨h1.1,h1.2,(o0 _).mp ha,λk=>?_⟩
    rw[hd]at k;cases k;have h2:l=[48]:=by simpa using h
    subst h2;exact⟨rfl,rfl⟩
   ·intro N;by_cases z:c=48
    ·subst z;obtain⟨n1,n2⟩:=N.h0 hd
     have:l=[48]:=by
      rw[n2,hcr];rw[hcr]at n1;simp at n1;rw[n1]
     rw[decide_eq_true this];rfl
    ·rw[decide_eq_false z];simp
 ·have hT1:(decide (((bw l).length:Int)<1) ||decide (((bw l).length:Int) >60))=true:=by
   by_cases z:((bw l).length:Int)<1
   ·rw[decide_eq_true z];rfl
   ·rw[decide_eq_true (show ((bw l).length:Int) >60 by lia)];simp
  refine ac (cP (Tw.t (iX (ao e7 (aw (fR (sz1 (by lia))) rfl T.aap GL (ae (aa 1 rfl) ai ah)) af) (λhz=>(iF (ao jo (aw (fR (sz1 (by lia))) rfl T.aap GL (ae (aa 1 rfl) ai ah)) (qE rfl T.aa3)))))) (by rw[hm];exact hT1) ?_)
  refine ac (aQ ro ?_);refine vB ?_
  symm
  cases e:okL l with
  |false=>rfl
  |true=>
   have N:=(ko l).mp e;exact absurd ⟨N.l1,N.l2⟩ h1
theorem wS{l:List Nat}(N:Num l):l.length<=61:=by
 have h:=N.l2;by_cases z:l.head?=some 45
 ·have e:=congrArg Lp (iA z);rw[GI]at e;lia
 ·rw[fP z]at h;lia
def wF:List U->Out->Prop:=λus o=>∃l:List Nat,us=[.str (T' l)]/\l.length<=8200/\okL l=true/\o=.val (.int (zN l))
theorem d6(T:Txt w K mg):aL P w K mg base (CXF P w) 2 T.aag.a T.aag.d ["text"] (spU K (wF)):=by
 refine a_ T.aag.F l0 (λus o h=>?_) (λRF A outer s H E O us o hr h=>?_)
 ·obtain⟨l,rfl,hl,ho,rfl⟩:=h;rfl
 obtain⟨l,rfl,hl,ho,rfl⟩:=h;refine Ws.nox ?_;have N:=(ko l).mp ho;refine ac (oZ (aC ((iI T).mono (by decide)) hr rfl T.aar.m T.aar.F.kp T.aar.b ar (ae (aa 0 rfl) ai ah) ⟨_,rfl,rfl⟩) ?_)
 refine ac (aG (jy (gY (aC ((f9 T).mono (by decide)) hr rfl T.aaj.m T.aaj.F.kp T.aaj.b ar (ae (aa 0 rfl) ai ah) ⟨l,rfl,hl,rfl⟩))) (by rw[ho];rfl) (au ?_))
 refine ac (aQ (d_ (rc N.text (by rw[br];exact HD (wS N) (by decide))) rfl T.abv QT (ae (aa 0 rfl) ai ah)) ?_)
 exact rfl
def q_:List U->Out->Prop:=λus o=>∃n:Int,us=[.int n]/\n.natAbs<10 ^ 300/\o=.val (.str (T' (ds n)))
theorem Fq{m:Nat}(h:m<10 ^ 300):m.log2<1920:=by
 by_cases z:m=0
 ·subst z;decide
 ·rw[Pn z];exact Jm h (by decide+kernel)
theorem cT(T:Txt w K mg):aL P w K mg base (CXF P w) 1 T.aad.a T.aad.d ["number"] (spU K (q_)):=by
 refine a_ T.aad.F kC (λus o h=>?_) (λRF A outer s H E O us o hr h=>?_)
 ·obtain⟨n,rfl,hn,rfl⟩:=h;rfl
 obtain⟨n,rfl,hn,rfl⟩:=h;refine Ws.nox ?_;refine ac (aQ (d_ (oa (Fq hn)) rfl T.abk NM (ae (aa 0 rfl) ai ah)) ?_);rw[qZ]
theorem tf(x y:Str):(x++y).length=x.length+y.length:=by
 show (x.cps++y.cps).size=_;rw[Array.size_append];rfl
theorem qb(a b:List Nat):T' a++(Str.ofString ",":Str)++T' b=T' (a++44::b):=by
 rw[show (Str.ofString ",":Str)=T' [44] from rfl,lx,lx]
 refine congrArg T' ?_;simp
theorem sz2{l:List Nat}(h:l.length<=8200):(T' l).length+2<=sizeLine:=by rw[br];exact GT (nZ (by lia))
def zX:List U->Out->Prop:=λus o=>∃p:P2,us=[.str (T' (ptD p))]/\B60 p/\o=.val (pu p)
theorem mq(T:Txt w K mg):aL P w K mg base (CXF P w) 3 T.aaI.a T.aaI.d ["text"] (spU K (zX)):=by
 refine a_ T.aaI.F hJ (λus o h=>?_) (λRF A outer s H E O us o hr h=>?_)
 ·obtain⟨p,rfl,hb,rfl⟩:=h;rfl
 obtain⟨p,rfl,hb,rfl⟩:=h;refine Ws.nox ?_;have hl:=gB hb;have e:spl 44 (ptD p)=[ds p.1,ds p.2]:=by unfold ptD;rw[kl _ (cZ p.1 (by lia)),iC (cZ p.2 (by lia))]
 have l1:(ds p.1).length<=61:=dC (by decide) hb.1
 have l2:(ds p.2).length<=61:=dC (by decide) hb.2
 refine ac (oZ (aC ((iI T).mono (by decide)) hr rfl T.aar.m T.aar.F.kp T.aar.b ar (ae (aa 0 rfl) ai ah) ⟨_,rfl,rfl⟩) ?_)
 refine ac (aO (i:=1) hJ.nd rfl (Or.inl rfl) (EvN.ev (qL (c:=44) (aa 0 rfl) aA ay (sz2 (by lia)) rfl)) ?_)
 rw[e];show Ws _ _ _ _ _ _ [some (.val (.str (T' (ptD p)))),some (.val (.lst [.str (T' (ds p.1)),.str (T' (ds p.2))]))];refine ac (aG (ao gZ (aw (bF rfl) rfl T.aap GL (ae (aa 1 rfl) ai ah)) af) rfl (au ?_));refine ac (aQ (bp (ak (aC ((d6 T).mono (by decide)) hr rfl T.aag.m T.aag.F.kp T.aag.b ar (ae (aM (aa 1 rfl) af rfl rfl) ai aX) ⟨ds p.1,rfl,by lia,xL hb.1,rfl⟩) (ak (aC ((d6 T).mono (by decide)) hr rfl T.aag.m T.aag.F.kp T.aag.b ar (ae (aM (aa 1 rfl) af rfl rfl) ai aX) ⟨ds p.2,rfl,by lia,xL hb.2,rfl⟩) aZ bg) bg)) ?_)
 rw[oG,oG]
def vY:List U->Out->Prop:=λus o=>∃p:P2,us=[pu p]/\p.1.natAbs<10 ^ 300/\p.2.natAbs<10 ^ 300/\o=.val (.str (T' (ptD p)))
theorem mv(T:Txt w K mg):aL P w K mg base (CXF P w) 2 T.aaJ.a T.aaJ.d ["P"] (spU K (vY)):=by
 refine a_ T.aaJ.F md (λus o h=>?_) (λRF A outer s H E O us o hr h=>?_)
 ·obtain⟨p,rfl,h1,h2,rfl⟩:=h;rfl
 obtain⟨p,rfl,h1,h2,rfl⟩:=h;refine Ws.nox ?_;have l1:(ds p.1).length<=301:=dC (by decide) h1
 have l2:(ds p.2).length<=301:=dC (by decide) h2
 have lc:(Str.ofString ",":Str).length=1:=rfl;refine ac (aQ (jh (jh (aC ((cT T).mono (by decide)) hr rfl T.aad.m T.aad.F.kp T.aad.b ar (ae (aM (aa 0 rfl) af rfl rfl) ai aX) ⟨p.1,rfl,h1,rfl⟩) aA (by rw[lc,br];exact GT (ax (by lia)))) (aC ((cT T).mono (by decide)) hr rfl T.aad.m T.aad.F.kp T.aad.b ar (ae (aM (aa 0 rfl) af rfl rfl) ai aX) ⟨p.2,rfl,h2,rfl⟩) (by rw[tf,lc,br,br];exact GT (ax (by lia)))) ?_)
 rw[qb];rfl
abbrev sT(x:List Nat):U:=.str (T' x)
def cL:List Nat:=[102,105,101,108,100]
def cG:List Nat:=[102,97,99,105,110,103]
def dl:List Nat:=[115,104,111,119]
def pT:List Nat:=[114,105,109]
def gv:List Nat:=[105,110,110,101,114]
def ir:List Nat:=[119,104,101,114,101]
def BG:List U->Out->Prop:=λus o=>∃(w:List Nat) (ws:List (List Nat)),us=[sT (jn (w::ws))]/\(∀x∈w::ws,32 ∉ x)/\(jn (w::ws)).length<=8200/\(gm ft (T' w)).isSome=true/\o=.val (.lst ((w::ws).map sT))
theorem fF(T:Txt w K mg):aL P w K mg base (CXF P w) 1 T.aal.a T.aal.d ["row"] (spU K (BG)):=by
 refine a_ T.aal.F iW (λus o h=>?_) (λRF A outer s H E O us o hr h=>?_)
 ·obtain⟨w,ws,rfl,hf,hl,ht,rfl⟩:=h;rfl
 obtain⟨w,ws,rfl,hf,hl,ht,rfl⟩:=h;refine Ws.nox ?_;obtain⟨ra,rm,rt⟩:=T.abx;refine ac (aG (jy (gY (aw (lv (by intro _ h;cases h) (gu _)) rfl T.aax JU (ae (aa 0 rfl) (ae (Ds rfl T.abk NM) ai ah) ah)))) rfl (au ?_))
 refine ac (aO (i:=1) iW.nd rfl (Or.inl rfl) (EvN.ev (qL (c:=32) (aa 0 rfl) aA ay (sz2 hl) rfl)) ?_);rw[nV (by simp) hf]
 refine ac (aG (yg rt rfl rm (aM (aa 1 rfl) af rfl (bI (i:=0) rfl rfl))) (by rw[ht];rfl) (au ?_))
 refine ac (aQ (aa 1 rfl) ?_);exact rfl
structure jw(w:List Nat)(ks:List Str):Prop where
 nf:eqW (sT w) (.str "field")=false
 ex:∃x:Str,gm ft (T' w)=some x/\Txt.words x=ks/\x.length<=sizeLine/\(Builtin.Str.spaceWords x (x.length+1)).length<=sizeLine
def kP:Str:=Str.ofString "P"
def f7:Str:=Str.ofString "NEW"
def dZ:Str:=Str.ofString "ONE"
def kK:Str:=Str.ofString "K"
theorem w4:jw cG [f7,dZ]:=⟨by decide+kernel,Str.ofString "NEW ONE",by decide+kernel,by decide+kernel,by decide+kernel,by decide+kernel⟩
theorem sL:jw dl [dZ]:=⟨by decide+kernel,Str.ofString "ONE",by decide+kernel,by decide+kernel,by decide+kernel,by decide+kernel⟩
theorem CP:jw pT [dZ]:=⟨by decide+kernel,Str.ofString "ONE",by decide+kernel,by decide+kernel,by decide+kernel,by decide+kernel⟩
theorem uT:jw gv [dZ,kK]:=⟨by decide+kernel,Str.ofString "ONE K",by decide+kernel,by decide+kernel,by decide+kernel,by decide+kernel⟩
theorem uG:jw ir [dZ,kP]:=⟨by decide+kernel,Str.ofString "ONE P",by decide+kernel,by decide+kernel,by decide+kernel,by decide+kernel⟩
def tQ:List U->Out->Prop:=λus o=>(∃(w:List Nat) (ws:List (List Nat)) (ks:List Str),us=[.lst ((w::ws).map sT)]/\jw w ks/\ks.length=ws.length/\o=.val (.lst (ks.map U.str)))\/∃ws:List (List Nat),us=[.lst ((cL::ws).map sT)]/\2<=ws.length/\ws.length<=61/\o=.val (.lst (.str f7::G6 (ws.length-1) (.str kP)))
theorem jj(T:Txt w K mg):aL P w K mg base (CXF P w) 1 T.aaE.a T.aaE.d ["words"] (spU K (tQ)):=by
 refine a_ T.aaE.F df (by rintro us o (⟨_,_,_,rfl,_⟩ |⟨_,rfl,_⟩) <;>rfl) (λRF A outer s H E O us o hr h=>?_)
 refine Ws.nox ?_;obtain⟨ra,rm,rt⟩:=T.abx;rcases h with ⟨w,ws,ks,rfl,⟨nf,x,hx,hk,z1,z2⟩,hl,rfl⟩ |⟨ws,rfl,h2,h61,rfl⟩
 ·refine ac (aO (i:=1) df.nd rfl (Or.inl rfl) (EvN.ev (o9 (CL rt rfl rm (aM (aa 0 rfl) af rfl (bI (i:=0) rfl rfl)) hx) z1 z2)) ?_);rw[hk];have hm:(((w::ws).map sT).length:Int)=(ws.length:Int)+1:=by simp
  have hm2:((ks.map U.str).length:Int)=(ws.length:Int):=by rw[Gp,hl]
  refine ac (aO (i:=2) df.nd rfl (Or.inl rfl) (bP (aw (bF rfl) rfl T.aap GL (ae (aa 0 rfl) ai ah)) af) ?_);refine ac (aG (ao (bJ (ba hr) (by walk_at"ok") (by walk_at"ok")) (aM (aa 0 rfl) af rfl (bI (i:=0) rfl rfl)) aA) nf (au ?_))
  refine ac (aG (ao gZ (aw (bF rfl) rfl T.aap GL (ae (aa 1 rfl) ai ah)) (aa 2 rfl)) (by rw[hm,hm2];simp) (au ?_))
  refine ac (aQ (aa 1 rfl) ?_);exact rfl
 ·have hx:gm ft (T' cL)=some (Str.ofString "NEW P"):=by decide+kernel
  have hk:Txt.words (Str.ofString "NEW P")=[f7,kP]:=by decide+kernel
  refine ac (aO (i:=1) df.nd rfl (Or.inl rfl) (EvN.ev (o9 (CL rt rfl rm (aM (aa 0 rfl) af rfl (bI (i:=0) rfl rfl)) hx) (by decide+kernel) (by decide+kernel))) ?_)
  rw[hk];have hm:(((cL::ws).map sT).length:Int)=(ws.length:Int)+1:=by simp
  have hm2:((([f7,kP]:List Str).map U.str).length:Int)=2:=rfl;refine ac (aO (i:=2) df.nd rfl (Or.inl rfl) (bP (aw (bF rfl) rfl T.aap GL (ae (aa 0 rfl) ai ah)) af) ?_);rw[hm]
  have T4:(if (60:Int)-1<(ws.length:Int)+1-1-((([f7,kP]:List Str).map U.str).length:Int) then (60:Int)-1 else (ws.length:Int)+1-1-((([f7,kP]:List Str).map U.str).length:Int))=((ws.length-2:Nat):Int):=by
   rw[hm2,if_neg (by lia)];lia
  have hcat:([f7,kP]:List Str).map U.str++G6 (ws.length-2) (.str kP)=.str f7::G6 (ws.length-1) (.str kP):=by
   rw[show ws.length-1=(ws.length-2)+1 by lia,Ia];rfl
  refine kN (λps=>SubP [some (.val (.lst ((cL::ws).map sT))),some (.val (.lst (.str f7::G6 (ws.length-1) (.str kP)))),some (.val (.int ((ws.length:Int)+1-1))),none] ps) (k9 (ao (bJ (ba hr) (by walk_at"ok") (by walk_at"ok")) (aM (aa 0 rfl) af rfl (bI (i:=0) rfl rfl)) aA) (λhT=>?_) (λhF=>(au ?_))) ?hj
  ·refine ac (aO (i:=3) df.nd rfl (Or.inl rfl) (bP (aa 2 rfl) (aw (bF rfl) rfl T.aap GL (ae (aa 1 rfl) ai ah))) ?_);refine ac (aO (i:=1) df.nd rfl (Or.inl rfl) (EvN.ev (mQ (aa 1 rfl) (EvN.ev (Ec (EvN.ev (cf (ak aA aZ ay))) (aw (Ck rfl) rfl T.abA boot_min (ae (aa 3 rfl) (ae (bP (qE rfl T.abj) af) ai bK) ah)) (by rw[T4];lia) (by rw[T4];lia) (by rw[T4];exact GT (ax (by lia))))) (by rw[HN,T4];exact GT (ax (by simp;lia))))) (au ?_))
   refine⟨rfl,?_,rfl,trivial⟩;refine congrArg (λz=>some (Sl.val (.lst z))) ?_
   rw[T4,Ii];exact hcat
  ·exact absurd hF (by decide+kernel)
  case hj=>
   intro ps Sv;refine dL ?_ Sv;have hm3:((U.str f7::G6 (ws.length-1) (U.str kP)).length:Int)=(ws.length:Int)+1-1:=by simp;lia
   refine ac (aG (ao gZ (aw (bF rfl) rfl T.aap GL (ae (aa 1 rfl) ai ah)) (aa 2 rfl)) (by rw[hm3];simp) (au ?_))
   refine ac (aQ (aa 1 rfl) ?_);exact rfl
structure Nm(l:List Nat):Prop where
 h1:1<=l.length
 h8:l.length<=8
 az:∀c∈l,97<=c/\c<=122
theorem Nm.free{l:List Nat}(h:Nm l):32 ∉ l:=λz=>by have:=h.az 32 z;lia
theorem lt1(c d:Nat):decide (([c]:List Nat) < [d])=decide (c<d):=by
 refine decide_eq_decide.mpr ⟨λh=>?_,λh=>?_⟩
 ·cases h with
  |rel h=>exact h
  |cons h=>cases h
 ·exact .rel h
theorem rX{α β:Type}{f:α->β}{l:List α}{j:Nat}{x:β}(h:(l.map f)[j]?=some x):∃c,l[j]?=some c/\c∈l/\x=f c:=by
 rw[Gz]at h;obtain⟨c,hc,rfl⟩:=Kb.mp h;exact⟨c,hc,GJ hc,rfl⟩
def BM:List U->Out->Prop:=λus o=>∃l:List Nat,us=[sT l]/\Nm l/\o=.val .non
theorem n6(T:Txt w K mg):aL P w K mg base (CXF P w) 1 T.aaR.a T.aaR.d ["word"] (spU K (BM)):=by
 refine a_ T.aaR.F fz (λus o h=>?_) (λRF A outer s H E O us o hr h=>?_)
 ·obtain⟨l,rfl,hN,rfl⟩:=h;rfl
 obtain⟨l,rfl,hN,rfl⟩:=h;refine Ws.nox ?_;have h1:=hN.h1;have h8:=hN.h8;have e1:(T' l).cps.toList=l:=by simp
 have hl:(T' l).length=l.length:=br l;refine ac (rn ((T' l).cps.toList.map λc=>some (sg c)) (j:=1) false rfl fz.nd rfl (Or.inl rfl) (blk (ag fU) ["word","letters","sign"] [2] rfl rfl rfl rfl (by decide+kernel)) (zE (aa 0 rfl)) (λ_ _ _ _=>aJ (i:=2) fz.nd rfl (Or.inl rfl)) (c_ (by decide)) ?clen ?csz (λ_ _=>trivial) ?ctest ?celt ?_)
 case clen=>simp
 case csz=>simp[e1];exact GT (ax (by lia))
 case ctest=>
  intro C s' H' fp j x o hx ho;rw[e1]at hx ho;obtain⟨c,hc,mc,rfl⟩:=rX hx;rw[Gz,hc]at ho;cases ho;have z:=hN.az c mc
  have k1:(!decide ((⟨#[c]⟩:Str).cps.toList<(Str.ofString "a":Str).cps.toList))=true:=by
   show (!decide (([c]:List Nat) < [97]))=true;rw[lt1,decide_eq_false (by lia)];rfl
  have k2:(!decide ((Str.ofString "z":Str).cps.toList<(⟨#[c]⟩:Str).cps.toList))=true:=by
   show (!decide (([122]:List Nat) < [c]))=true;rw[lt1,decide_eq_false (by lia)];rfl
  rw[show (some (sg c)).isSome=((!decide ((⟨#[c]⟩:Str).cps.toList<(Str.ofString "a":Str).cps.toList)) && (!decide ((Str.ofString "z":Str).cps.toList<(⟨#[c]⟩:Str).cps.toList))) by rw[k1,k2];rfl]
  exact (A_ CI CI aA (aa 2 rfl) aA)
 case celt=>
  intro C s' H' fp j x y hx hy;rw[e1]at hx hy;obtain⟨c,hc,mc,rfl⟩:=rX hx;rw[Gz,hc]at hy;cases hy;exact (aa 2 rfl)
 have hm:((((T' l).cps.toList.map λc=>some (sg c)).filterMap id).length:Int)=(l.length:Int):=by rw[e1];simp[List.filterMap_map]
 refine ac (aG (Tw.t (iX (ao e7 (aw (fR (by rw[hl];exact GT (ax (by lia)))) rfl T.aap GL (ae (aa 0 rfl) ai ah)) af) (λhz=>(iX (ao jo (aw (fR (by rw[hl];exact GT (ax (by lia)))) rfl T.aap GL (ae (aa 0 rfl) ai ah)) (qE rfl T.abg)) (λhz=>(iF (ao e7 (aw (bF rfl) rfl T.aap GL (ae (aa 1 rfl) ai ah)) (aw (fR (by rw[hl];exact GT (ax (by lia)))) rfl T.aap GL (ae (aa 0 rfl) ai ah))))))))) (by rw[hm,hl,decide_eq_false (by lia),decide_eq_false (by lia),decide_eq_false (by lia)];rfl) (au (au ?_)))
 exact rfl
theorem yQ:∀{l:List Int},l≠[]->∃M,M∈l/\∀a∈l,a<=M
 |[],h=>absurd rfl h
 |[a],_=>⟨a,Gy,λb hb=>by simp at hb;lia⟩
 |a::b::r,_=>by
  obtain⟨M,h1,h2⟩:=yQ (l:=b::r) (by simp)
  by_cases h:a<=M
  ·exact⟨M,Gq _ h1,λc hc=>by
    rcases Gx.mp hc with k |k
    ·rw[k];exact h
    ·exact h2 c k⟩
  ·exact⟨a,Gy,λc hc=>by
    rcases Gx.mp hc with k |k
    ·rw[k];exact Mf _
    ·have:=h2 c k;lia⟩
def BH:List U->Out->Prop:=λus o=>∃l:List P2,us=[lp l]/\l≠[]/\l.length<=60/\(∀p∈l,B60 p)/\o=.val .non
theorem pE(T:Txt w K mg):aL P w K mg base (CXF P w) 1 T.aaV.a T.aaV.d ["land"] (spU K (BH)):=by
 refine a_ T.aaV.F dw (λus o h=>?_) (λRF A outer s H E O us o hr h=>?_)
 ·obtain⟨l,rfl,RL,hl,hb,rfl⟩:=h;rfl
 obtain⟨l,rfl,RL,hl,hb,rfl⟩:=h;refine Ws.nox ?_;refine ac (aO (i:=1) dw.nd rfl (Or.inl rfl) (EvN.ev (mQ (xs:=l.map λp=>U.int p.1) (ys:=l.map λp=>U.int p.2) ?eA ?eB (by rw[Gp,Gp];exact GT (ax (by lia))))) ?_)
 case eA=>
  refine EvN.ev ?_;refine (cU (ys:=(l.map λ(p:P2)=>U.int p.1)) rfl (blk (ag dW) ["land","numbers","P","number"] [2] rfl rfl rfl rfl (by decide+kernel)) (b7 (aa 0 rfl) (.inl rfl)) (λ_ _ _ _=>aJ (i:=2) dw.nd rfl (Or.inl rfl)) (c_ (by decide)) ?clen ?csz (λ_ _=>trivial) ?celt)
  case clen=>simp
  case csz=>rw[Gp];exact GT (ax (by lia))
  case celt=>
   intro C s' H' fp j x y hx hy;obtain⟨p,hp,mp,rfl,rfl⟩:=bW hx hy;exact (aM (aa 2 rfl) af rfl rfl)
 case eB=>
  refine EvN.ev ?_;refine (cU (ys:=(l.map λ(p:P2)=>U.int p.2)) rfl (blk (ag dW) ["land","numbers","P","number"] [2] rfl rfl rfl rfl (by decide+kernel)) (b7 (aa 0 rfl) (.inl rfl)) (λ_ _ _ _=>aJ (i:=2) dw.nd rfl (Or.inl rfl)) (c_ (by decide)) ?clen ?csz (λ_ _=>trivial) ?celt)
  case clen=>simp
  case csz=>rw[Gp];exact GT (ax (by lia))
  case celt=>
   intro C s' H' fp j x y hx hy;obtain⟨p,hp,mp,rfl,rfl⟩:=bW hx hy;exact (aM (aa 2 rfl) af rfl rfl)
 have hcat:(l.map λp=>U.int p.1)++(l.map λp=>U.int p.2)=(l.map (·.1)++l.map (·.2)).map U.int:=by rw[Iu,G3,G3];rfl
 rw[hcat]
 have hB:∀n∈l.map (·.1)++l.map (·.2),n.natAbs<10 ^ 60:=λn hn=>by
  rcases HU.mp hn with k |k
  ·obtain⟨p,hp,rfl⟩:=GC.mp k;exact (hb p hp).1
  ·obtain⟨p,hp,rfl⟩:=GC.mp k;exact (hb p hp).2
 have hL:(l.map (·.1)++l.map (·.2)).length<=120:=by simp;lia
 have hn:l.map (·.1)++l.map (·.2)≠[]:=by simp[RL]
 generalize l.map (·.1)++l.map (·.2)=L at *;obtain⟨M,hM,hM2⟩:=yQ (l:=L.map λn=>(n.natAbs:Int)) (by simp[hn])
 have hM3:M<10 ^ 60:=by
  obtain⟨n,hn,rfl⟩:=GC.mp hM;have:=hB n hn
  exact_mod_cast this
 have hm:((l.map pu).length:Int)=(l.length:Int):=by rw[Gp]
 have e60:(10:Int) ^ (60:Int).toNat=10 ^ 60:=rfl;refine ac (aG (Tw.t (iX (ao jo (aw (bF rfl) rfl T.aap GL (ae (aa 0 rfl) ai ah)) (qE rfl T.abf)) (λhz=>(iF (ao FW (aw (yG rfl (ns:=L.map λn=>(n.natAbs:Int)) ⟨hM,hM2⟩) rfl T.abz boot_max (ae (EvN.ev (cU (ys:=((L.map λn=>(n.natAbs:Int)).map U.int)) rfl (blk (ag dW) ["land","numbers","P","number"] [3] rfl rfl rfl rfl (by decide+kernel)) (b7 (aa 1 rfl) (.inl rfl)) (λ_ _ _ _=>aJ (i:=3) dw.nd rfl (Or.inl rfl)) (c_ (by decide)) ?clen ?csz (λ_ _=>trivial) ?celt)) ai cV)) (o5 af af ⟨by decide,by decide,by decide⟩)))))) (by rw[hm,decide_eq_false (show ¬ (l.length:Int) >60 by lia),e60,decide_eq_false (show ¬ M ≥ 10 ^ 60 by lia)];rfl) (au (au ?_)))
 case clen=>simp
 case csz=>rw[Gp];exact GT (ax (by lia))
 case celt=>
  intro C s' H' fp j x y hx hy;rw[G3]at hy;obtain⟨n,hn,mn,rfl,rfl⟩:=bW hx hy;show Ev _ _ _ _ _ (.int (n.natAbs:Int));rw[show (n.natAbs:Int)=(if n<0 then -n else n) by split <;>lia]
  exact (aw tY rfl T.abu PyProof.Rows.boot_abs (ae (aa 3 rfl) ai ah))
 exact rfl
def nB(C:GE):List U->Out->Prop:=λus o=>(∃pts:List P2,us=[sT cL,lp pts]/\(∀p∈pts,Szp 5000 p)/\pts.length<64/\pts≠[]/\o=.new ((am pts).map pu))\/∃l:List P2,us=[sT cG,.lst [lp l]]/\((Hrt 1000 l/\o=.new ((am (fcs l)).map pu))\/((∀p∈l,Szp 1500 p)/\l≠[]/\l.length<64/\hbt l=false/\o=.exc C))
theorem uY(T:Txt w K mg):aL P w K mg base (CXF P w) 10 T.aa6.a T.aa6.d ["deed","given"] (spU K (nB T.aae.c)):=by
 refine a_ T.aa6.F Bm (by rintro us o (⟨_,rfl,_⟩ |⟨_,rfl,_⟩) <;>rfl) (λRF A outer s H E O us o hr h=>?_)
 rcases h with ⟨pts,rfl,sz,hl,RL,rfl⟩ |⟨l,rfl,h⟩
 ·refine Ws.nox ?_;refine ac (cP (ao (bJ (ba hr) (by walk_at"ok") (by walk_at"ok")) (aa 0 rfl) aA) (by decide+kernel) ?_)
  refine ac (dA (bO ((k7 T).mono (by decide)) hr rfl T.aaw.m T.aaw.F.kp T.aaw.b ar (ae (aa 1 rfl) ai ah) ⟨pts,rfl,sz,hl,RL,rfl⟩) ?_)
  exact rfl
 ·refine ac (aG (ao (bJ (ba hr) (by walk_at"ok") (by walk_at"ok")) (aa 0 rfl) aA) (by decide+kernel) (au ?_))
  refine ac (aG (ao (bJ (ba hr) (by walk_at"ok") (by walk_at"ok")) (aa 0 rfl) aA) (by decide+kernel) (au ?_))
  refine ac (aG (ao (bJ (ba hr) (by walk_at"ok") (by walk_at"ok")) (aa 0 rfl) aA) (by decide+kernel) (au ?_))
  refine ac (aG (ao (bJ (ba hr) (by walk_at"ok") (by walk_at"ok")) (aa 0 rfl) aA) (by decide+kernel) (au ?_))
  refine ac (aG (ao (bJ (ba hr) (by walk_at"ok") (by walk_at"ok")) (aa 0 rfl) aA) (by decide+kernel) (au ?_))
  rcases h with ⟨h,rfl⟩ |⟨sz,RL,hl,hb,rfl⟩
  ·refine Ws.nox ?_;refine ac (dA (bO ((mV T).mono (by decide)) hr rfl T.aaP.m T.aaP.F.kp T.aaP.b ar (ae (aM (aa 1 rfl) af rfl rfl) ai aX) ⟨l,rfl,.inl ⟨h,rfl⟩⟩) ?_)
   exact rfl
  ·refine ac (zJ (C:=T.aae.c) (yp ((mV T).mono (by decide)) hr rfl T.aaP.m T.aaP.F.kp T.aaP.b uX (ae (aM (aa 1 rfl) af rfl rfl) ai aX) ⟨l,rfl,.inr ⟨sz,RL,hl,hb,rfl⟩⟩) ?_)
   exact rfl
structure Fit(l:List P2):Prop where
 h3:3<=l.length
 hl:l.length<=60
 sz:∀p∈l,Szp 150 p
 b:∀p∈l,B60 p
def xk:List U->Out->Prop:=λus o=>∃l:List P2,Fit l/\((us=[sT pT,.lst [lp l]]/\o=.val (.int (b6 l)))\/(us=[sT gv,.lst [lp l,.int 1]]/\o=.val (.int (pin (am (l.map (scl 1)))))))
theorem jC(T:Txt w K mg):aL P w K mg base (CXF P w) 8 T.aaB.a T.aaB.d ["deed","given"] (spU K (xk)):=by
 refine a_ T.aaB.F pz (by rintro us o ⟨_,_,(⟨rfl,_⟩ |⟨rfl,_⟩)⟩ <;>rfl) (λRF A outer s H E O us o hr h=>?_)
 refine Ws.nox ?_;obtain⟨l,hF,h⟩:=h;have h3:=hF.h3;have hl:=hF.hl;rcases h with ⟨rfl,rfl⟩ |⟨rfl,rfl⟩
 ·refine ac (aG (ao (bJ (ba hr) (by walk_at"ok") (by walk_at"ok")) (aa 0 rfl) aA) (by decide+kernel) (au ?_))
  refine ac (cP (ao (bJ (ba hr) (by walk_at"ok") (by walk_at"ok")) (aa 0 rfl) aA) (by decide+kernel) ?_)
  refine ac (aQ (aC ((Aq T).mono (by decide)) hr rfl T.abc.m T.abc.F.kp T.abc.b ar (ae (aM (aa 1 rfl) af rfl rfl) ai aX) ⟨l,rfl,h3,by lia,dh (by decide) hF.sz,rfl⟩) ?_)
  exact rfl
 ·refine ac (aG (ao (bJ (ba hr) (by walk_at"ok") (by walk_at"ok")) (aa 0 rfl) aA) (by decide+kernel) (au ?_))
  refine ac (aG (ao (bJ (ba hr) (by walk_at"ok") (by walk_at"ok")) (aa 0 rfl) aA) (by decide+kernel) (au ?_))
  refine ac (aG (ao (bJ (ba hr) (by walk_at"ok") (by walk_at"ok")) (aa 0 rfl) aA) (by decide+kernel) (au ?_))
  refine ac (cP (ao (bJ (ba hr) (by walk_at"ok") (by walk_at"ok")) (aa 0 rfl) aA) (by decide+kernel) ?_)
  refine ac (aQ (aC ((fJ T).mono (by decide)) hr rfl T.aao.m T.aao.F.kp T.aao.b ar (ae (aM (aa 1 rfl) af rfl rfl) (ae (aM (aa 1 rfl) af rfl rfl) ai aX) aX) ⟨l,1,rfl,by decide,Sz.mono (m:=8) (by decide) (by decide),dh (by decide) hF.sz,λe=>by rw[e]at h3;simp at h3,by lia,rfl⟩) ?_)
  exact rfl
def ze:List U→Out→Prop:=λus o=>∃l:List P2,us=[lp l,pu (0,0)]∧Fit l∧whr l (0,0)=1∧o=.val (.str "in")
theorem l9(T:Txt w K mg):aL P w K mg base (CXF P w) 5 T.aaK.a T.aaK.d ["land","P"] (spU K (ze)):=by
 refine a_ T.aaK.F gX (λus o h=>?_) (λRF A outer s H E O us o hr h=>?_)
 ·obtain⟨l,rfl,hF,hw,rfl⟩:=h;rfl
 obtain⟨l,rfl,hF,hw,rfl⟩:=h;refine Ws.nox ?_;have h3:=hF.h3;have hl:=hF.hl;refine ac (aO (i:=2) gX.nd rfl (Or.inl rfl) (aC ((pY T).mono (by decide)) hr rfl T.aaT.m T.aaT.F.kp T.aaT.b ar (ae (aa 0 rfl) (ae (aa 1 rfl) ai ah) ah) ⟨l,(0,0),rfl,by lia,by lia,dh (by decide) hF.sz,⟨Sz.mono (m:=8) (by decide) (by decide),Sz.mono (m:=8) (by decide) (by decide)⟩,rfl⟩) ?_)
 rw[hw];refine ac (aG (ao e7 (aa 2 rfl) af) (by decide) (au ?_))
 refine ac (aQ (CN (ao jo (aa 2 rfl) af) aA aA) ?_);exact rfl
theorem ul(c:Nat):∀(l:List Str) (a:Nat),(∀x∈l,x.length≤c)→l.foldl (λ(n:Nat) (x:Str)=>n+x.length+(Str.ofString " ":Str).length) a≤a+l.length*(c+1)
 |[],a,_=>by simp
 |x::l,a,h=>by
  have h1:=h x Gy;have ih:=ul c l (a+x.length+(Str.ofString " ":Str).length) λy hy=>h y (Gq _ hy)
  have s1:(Str.ofString " ":Str).length=1:=rfl;rw[Ib,GI,Ro,PU];rw[s1]at ih |-;generalize l.length*(c+1)=z at *;exact HD ih (by lia)
theorem tO{pts:List P2}(h:∀p∈pts,B60 p)(hl:pts.length≤61):JoinOk (Str.ofString " ") (pts.map λp=>T' (ptD p))=true:=by
 have hx:∀x∈pts.map (λp=>T' (ptD p)),x.length<=123:=λx hx=>by
  obtain⟨p,hp,rfl⟩:=GC.mp hx;have:=gB (h p hp);rw[br];exact this
 have:=ul 123 (pts.map λp=>T' (ptD p)) 0 hx
 unfold JoinOk;rw[<-Oi];have h2:(pts.map λp=>T' (ptD p)).length*(123+1)<=61*124:=Nat.mul_le_mul (by rw[Gp];exact hl) (GA _)
 have h3:Builtin.Str.tooLong ((pts.map λp=>T' (ptD p)).foldl (λ(n:Nat) (x:Str)=>n+x.length+(Str.ofString " ":Str).length) 0)=false:=by
  unfold Builtin.Str.tooLong;rw[Ij];exact decide_eq_false (by lia)
 show (!Builtin.Str.tooLong _)=true;rw[h3];rfl
theorem EZ(pts:List P2):(pts.map λp=>sT (ptD p))=(pts.map λp=>T' (ptD p)).map U.str:=by rw[G3];rfl
theorem C8{p:P2}(h:B60 p):p.1.natAbs<10 ^ 300/\p.2.natAbs<10 ^ 300:=⟨Jm h.1 (by decide+kernel),Jm h.2 (by decide+kernel)⟩
def rA:List U->Out->Prop:=λus o=>∃pts:List P2,us=[lp pts]/\(∀p∈pts,B60 p)/\pts.length<=61/\o=.val (sT (jn (pts.map ptD)))
theorem kL(T:Txt w K mg):aL P w K mg base (CXF P w) 3 T.aaA.a T.aaA.d ["points"] (spU K (rA)):=by
 refine a_ T.aaA.F gy (λus o h=>?_) (λRF A outer s H E O us o hr h=>?_)
 ·obtain⟨pts,rfl,hb,hl,rfl⟩:=h;rfl
 obtain⟨pts,rfl,hb,hl,rfl⟩:=h;refine Ws.nox ?_;refine ac (aQ (xK (l:=pts.map λp=>T' (ptD p)) aA ?ej cV (tO hb hl)) ?_)
 case ej=>
  rw[<-EZ];refine EvN.ev ?_;refine (cU (ys:=(pts.map λp=>sT (ptD p))) rfl (blk (ag eM) ["points","P"] [1] rfl rfl rfl rfl (by decide+kernel)) (b7 (aa 0 rfl) (.inl rfl)) (λ_ _ _ _=>aJ (i:=1) gy.nd rfl (Or.inl rfl)) (c_ (by decide)) ?clen ?csz (λ_ _=>trivial) ?celt)
  case clen=>simp
  case csz=>rw[Gp];exact GT (ax (by lia))
  case celt=>
   intro C s' H' fp j x y hx hy;obtain⟨p,hp,mp,rfl,rfl⟩:=bW hx hy;exact (aC ((mv T).mono (by decide)) hr rfl T.aaJ.m T.aaJ.F.kp T.aaJ.b ar (ae (aa 1 rfl) ai ah) ⟨p,rfl,(C8 (hb p mp)).1,(C8 (hb p mp)).2,rfl⟩)
 rw[show (pts.map λp=>T' (ptD p))=(pts.map ptD).map T' by rw[G3];rfl]
 refine congrArg (λz=>Out.val (.str z)) ?_
 exact Eb (pts.map ptD)
inductive Ans:List U->List Nat->Prop
 |show_ (l:List P2):Fit l->Ans [sT dl,.lst [lp l]] (jn (l.map ptD))
 |where_ (l:List P2):Fit l->whr l (0,0)=1->Ans [sT ir,.lst [lp l,pu (0,0)]] [105,110]
 |rim (l:List P2):Fit l->(b6 l).natAbs<10 ^ 300->Ans [sT pT,.lst [lp l]] (ds (b6 l))
 |inner (l:List P2):Fit l->pin (am (l.map (scl 1)))=1->Ans [sT gv,.lst [lp l,.int 1]] [49]
def xW:List U->Out->Prop:=λus o=>∃t:List Nat,Ans us t/\o=.val (sT t)
theorem wj(T:Txt w K mg):aL P w K mg base (CXF P w) 9 T.aa2.a T.aa2.d ["deed","given"] (spU K (xW)):=by
 refine a_ T.aa2.F wy (by rintro us o ⟨_,h,_⟩;cases h <;>rfl) (λRF A outer s H E O us o hr h=>?_)
 refine Ws.nox ?_;obtain⟨t,h,rfl⟩:=h;cases h with
 |show_ l hF=>
  have hl:=hF.hl;refine ac (cP (ao (bJ (ba hr) (by walk_at"ok") (by walk_at"ok")) (aa 0 rfl) aA) (by decide+kernel) ?_)
  refine ac (aQ (aC ((kL T).mono (by decide)) hr rfl T.aaA.m T.aaA.F.kp T.aaA.b ar (ae (aM (aa 1 rfl) af rfl rfl) ai aX) ⟨l,rfl,hF.b,by lia,rfl⟩) ?_)
  exact rfl
 |where_ l hF hw=>
  refine ac (aG (ao (bJ (ba hr) (by walk_at"ok") (by walk_at"ok")) (aa 0 rfl) aA) (by decide+kernel) (au ?_))
  refine ac (cP (ao (bJ (ba hr) (by walk_at"ok") (by walk_at"ok")) (aa 0 rfl) aA) (by decide+kernel) ?_)
  refine ac (aQ (aC ((l9 T).mono (by decide)) hr rfl T.aaK.m T.aaK.F.kp T.aaK.b ar (ae (aM (aa 1 rfl) af rfl rfl) (ae (aM (aa 1 rfl) af rfl rfl) ai aX) aX) ⟨l,rfl,hF,hw,rfl⟩) ?_)
  exact rfl
 |rim l hF hn=>
  refine ac (aG (ao (bJ (ba hr) (by walk_at"ok") (by walk_at"ok")) (aa 0 rfl) aA) (by decide+kernel) (au ?_))
  refine ac (aG (ao (bJ (ba hr) (by walk_at"ok") (by walk_at"ok")) (aa 0 rfl) aA) (by decide+kernel) (au ?_))
  refine ac (aG (ao (bJ (ba hr) (by walk_at"ok") (by walk_at"ok")) (aa 0 rfl) aA) (by decide+kernel) (au ?_))
  refine ac (aG (ao (bJ (ba hr) (by walk_at"ok") (by walk_at"ok")) (aa 0 rfl) aA) (by decide+kernel) (au ?_))
  refine ac (aG (ao (bJ (ba hr) (by walk_at"ok") (by walk_at"ok")) (aa 0 rfl) aA) (by decide+kernel) (au ?_))
  refine ac (aQ (aC ((cT T).mono (by decide)) hr rfl T.aad.m T.aad.F.kp T.aad.b ar (ae (aC ((jC T).mono (by decide)) hr rfl T.aaB.m T.aaB.F.kp T.aaB.b ar (ae (aa 0 rfl) (ae (aa 1 rfl) ai ah) ah) ⟨l,hF,.inl ⟨rfl,rfl⟩⟩) ai bg) ⟨_,rfl,hn,rfl⟩) ?_)
  exact rfl
 |inner l hF hp=>
  refine ac (aG (ao (bJ (ba hr) (by walk_at"ok") (by walk_at"ok")) (aa 0 rfl) aA) (by decide+kernel) (au ?_))
  refine ac (aG (ao (bJ (ba hr) (by walk_at"ok") (by walk_at"ok")) (aa 0 rfl) aA) (by decide+kernel) (au ?_))
  refine ac (aG (ao (bJ (ba hr) (by walk_at"ok") (by walk_at"ok")) (aa 0 rfl) aA) (by decide+kernel) (au ?_))
  refine ac (aG (ao (bJ (ba hr) (by walk_at"ok") (by walk_at"ok")) (aa 0 rfl) aA) (by decide+kernel) (au ?_))
  refine ac (aG (ao (bJ (ba hr) (by walk_at"ok") (by walk_at"ok")) (aa 0 rfl) aA) (by decide+kernel) (au ?_))
  refine ac (aQ (aC ((cT T).mono (by decide)) hr rfl T.aad.m T.aad.F.kp T.aad.b ar (ae (aC ((jC T).mono (by decide)) hr rfl T.aaB.m T.aaB.F.kp T.aaB.b ar (ae (aa 0 rfl) (ae (aa 1 rfl) ai ah) ah) ⟨l,hF,.inr ⟨rfl,rfl⟩⟩) ai bg) ⟨_,rfl,by rw[hp];decide+kernel,rfl⟩) ?_)
  rw[hp];exact congrArg (λz=>Out.val (sT z)) (by decide+kernel)
inductive Rd (C:GE) (kvs:List (Str×U)):Str->Str->Out->Prop
 |new (l:List Nat):Nm l->Rd C kvs f7 (T' l) (.val (sT l))
 |one (n:Str) (u:U):L2.valU kvs n=some u->Rd C kvs dZ n (.val u)
 |none_ (n:Str):L2.valU kvs n=none->Rd C kvs dZ n (.exc C)
 |pnt (p:P2):B60 p->Rd C kvs kP (T' (ptD p)) (.val (pu p))
 |num (k:Int):k.natAbs<10 ^ 60->Rd C kvs kK (T' (ds k)) (.val (.int k))
def vC(C:GE):GE->List (Str×U)->List U->Out->Prop:=λ_ kvs us o=>∃kind word,us=[.str kind,.str word]/\Rd C kvs kind word o
theorem eF(T:Txt w K mg):aL P w K mg base (CXF P w) 4 T.aat.a T.aat.d ["self","kind","word"] (spD K false T.aaH (vC T.aai.c)):=by
 refine fL T.aat.F oR (λd kvs us o h=>?_) (λRF A outer s H H1 E O a d kvs us o hr h=>?_)
 ·obtain⟨kind,word,rfl,hR⟩:=h;rfl
 obtain⟨kind,word,rfl,hR⟩:=h;cases hR with
 |new l hN=>
  refine Ws.nox ?_;refine ac (cP (ao (bJ (ba hr) (by walk_at"ok") (by walk_at"ok")) (aa 1 rfl) aA) (by decide+kernel) ?_)
  refine ac (oZ (aC ((n6 T).mono (by decide)) hr rfl T.aaR.m T.aaR.F.kp T.aaR.b ar (ae (aa 2 rfl) ai ah) ⟨l,rfl,hN,rfl⟩) ?_)
  refine ac (aQ (aa 2 rfl) ?_);exact rfl
 |one n u hv=>
  refine Ws.nox ?_;refine ac (aG (ao (bJ (ba hr) (by walk_at"ok") (by walk_at"ok")) (aa 1 rfl) aA) (by decide+kernel) (au ?_))
  refine ac (cP (ao (wb rfl rfl rfl) (aa 1 rfl) (bp (ak aA (ak aA aZ ay) ay))) (by decide+kernel) ?_)
  refine ac (aG (yW (i:=0) rfl (iU (i:=0) rfl T.aan T.abe) (aa 2 rfl) (ba hr)) (by rw[hv];rfl) (au ?_))
  refine ac (aQ (C6 (i:=0) rfl (iU (i:=0) rfl T.aan T.abe) (aa 2 rfl) (ba hr) hv) ?_);exact rfl
 |none_ n hv=>
  refine ac (aG (ao (bJ (ba hr) (by walk_at"ok") (by walk_at"ok")) (aa 1 rfl) aA) (by decide+kernel) (au ?_))
  refine ac (cP (ao (wb rfl rfl rfl) (aa 1 rfl) (bp (ak aA (ak aA aZ ay) ay))) (by decide+kernel) ?_)
  refine ac (cP (yW (i:=0) rfl (iU (i:=0) rfl T.aan T.abe) (aa 2 rfl) (ba hr)) (by rw[hv];rfl) ?_)
  refine ac (tU T.abt rfl T.aai.m aA ?_);exact rfl
 |pnt p hb=>
  refine Ws.nox ?_;refine ac (aG (ao (bJ (ba hr) (by walk_at"ok") (by walk_at"ok")) (aa 1 rfl) aA) (by decide+kernel) (au ?_))
  refine ac (aG (ao (wb rfl rfl rfl) (aa 1 rfl) (bp (ak aA (ak aA aZ ay) ay))) (by decide+kernel) (au ?_))
  refine ac (cP (ao (bJ (ba hr) (by walk_at"ok") (by walk_at"ok")) (aa 1 rfl) aA) (by decide+kernel) ?_)
  refine ac (aQ (aC ((mq T).mono (by decide)) hr rfl T.aaI.m T.aaI.F.kp T.aaI.b ar (ae (aa 2 rfl) ai ah) ⟨p,rfl,hb,rfl⟩) ?_)
  exact rfl
 |num k hk=>
  refine Ws.nox ?_;have hl:(ds k).length<=61:=dC (by decide) hk
  refine ac (aG (ao (bJ (ba hr) (by walk_at"ok") (by walk_at"ok")) (aa 1 rfl) aA) (by decide+kernel) (au ?_))
  refine ac (aG (ao (wb rfl rfl rfl) (aa 1 rfl) (bp (ak aA (ak aA aZ ay) ay))) (by decide+kernel) (au ?_))
  refine ac (aG (ao (bJ (ba hr) (by walk_at"ok") (by walk_at"ok")) (aa 1 rfl) aA) (by decide+kernel) (au ?_))
  refine ac (aQ (aC ((d6 T).mono (by decide)) hr rfl T.aag.m T.aag.F.kp T.aag.b ar (ae (aa 2 rfl) ai ah) ⟨ds k,rfl,by lia,xL hk,rfl⟩) ?_)
  rw[oG]
def v_:GE→List (Str×U)→List U→Out→Prop:=λd kvs us o=>∃(n:Str) (l:List P2),us=[.str n,lp l]∧l≠[]∧l.length≤60∧(∀p∈l,B60 p)∧kvs.length<1000∧o=.dsk d (.str "ok") (eX kvs n (lp l))
theorem iE(T:Txt w K mg):aL P w K mg base (CXF P w) 2 T.aaG.a T.aaG.d ["self","name","land"] (spD K true T.aaH (v_)):=by
 refine fL T.aaG.F nX (λd kvs us o h=>?_) (λRF A outer s H H1 E O a d kvs us o hr h=>?_)
 ·obtain⟨n,l,rfl,RL,hl,hb,hk,rfl⟩:=h;rfl
 obtain⟨n,l,rfl,RL,hl,hb,hk,rfl⟩:=h;refine Ws.nox ?_;refine ac (oZ (aC ((pE T).mono (by decide)) hr rfl T.aaV.m T.aaV.F.kp T.aaV.b ar (ae (aa 2 rfl) ai ah) ⟨l,rfl,RL,hl,hb,rfl⟩) ?_)
 refine ac (C_ (i:=0) rfl (iU (i:=0) rfl T.aan T.abe) (aa 1 rfl) (aa 2 rfl) (ba hr) (ax (by lia)) ?_)
 refine ac (Dk (i:=0) rfl aA ?_);exact rfl
theorem mF{ws:List (List Nat)}(h:∀w∈ws,w.length<=123)(hl:ws.length<=62):(jn ws).length<=8200:=by
 have:=xP ws h;have:ws.length*(123+1)<=62*124:=Kx _ hl;lia
structure Row(C:GE)(kvs:List (Str×U))(w:List Nat)(ws:List (List Nat))(ks:List Str)(gs:List U):Prop where
 kn:tQ [.lst ((w::ws).map sT)] (.val (.lst (ks.map U.str)))
 fr:∀x∈w::ws,32 ∉ x
 ln:∀x∈w::ws,x.length<=123
 nw:ws.length<=61
 l1:ks.length=ws.length
 l2:gs.length=ws.length
 rd:∀(i:Nat) (k:Str) (wd:List Nat) (g:U),ks[i]?=some k->ws[i]?=some wd->gs[i]?=some g->Rd C kvs k (T' wd) (.val g)
 tb:(gm ft (T' w)).isSome=true
 nn:eqW (sT w) (.str "names")=false
 nd:eqW (sT w) (.str "drop")=false
theorem fS:∀xs ys:List U,xs.length=ys.length->(dP xs ys).length=xs.length
 |[],[],_=>rfl
 |_::xs,_::ys,h=>by rw[dP,GI,fS xs ys (by simpa using h),GI]
theorem gd:∀(xs ys:List U) (i:Nat) (x:U),(dP xs ys)[i]?=some x->∃a b,xs[i]?=some a/\ys[i]?=some b/\x=.tup [a,b]
 |[],_,i,x,h=>by simp[dP]at h
 |_::_,[],i,x,h=>by simp[dP]at h
 |a::xs,b::ys,0,x,h=>by cases h;exact⟨a,b,rfl,rfl,rfl⟩
 |a::xs,b::ys,i+1,x,h=>gd xs ys i x h
theorem gr(a:U)(r:List U):iB (a::r) (some 1) none=r:=by rw[zj];rfl
structure Rf(l:List P2):Prop where
 sz:∀p∈l,Szp 1500 p
 ne:l≠[]
 hl:l.length<64
 no:hbt l=false
def dg(C1 C2:GE):GE->List (Str×U)->List U->Out->Prop:=λ_ kvs us o=>∃(w:List Nat) (ws:List (List Nat)),us=[sT (jn (w::ws))]/\
 ((∃(k0:Str) (ks:List Str) (gs:List U),Row C2 kvs w ws (k0::ks) gs∧((∃t,eqW (.str k0) (.str "NEW")=false∧Ans [sT w,.lst gs] t∧o=.val (sT t))∨(∃(y nm:List Nat) (l:List P2),k0=f7∧w=cG∧ws=[y,nm]∧gs=[sT y,lp l]∧Rf l∧o=.exc C1)))∨
  ∃nm:List Nat,w=dl/\ws=[nm]/\Nm nm/\L2.valU kvs (T' nm)=none/\o=.exc C2)
theorem cC(T:Txt w K mg):aL P w K mg base (CXF P w) 11 T.aaa.a T.aaa.d ["self","row"] (spD K false T.aaH (dg T.aae.c T.aai.c)):=by
 refine fL T.aaa.F aP (λd kvs us o h=>?_) (λRF A outer s H H1 E O a d kvs us o hr h=>?_)
 ·obtain⟨w,ws,rfl,h⟩:=h;rfl
 obtain⟨w,ws,rfl,h⟩:=h;rcases h with ⟨k0,ks,gs,R,h⟩ |⟨nm,rfl,rfl,hN,hv,rfl⟩
 ·have nw:=R.nw;have l1:=R.l1;have l2:=R.l2;refine ac (aO (i:=2) aP.nd rfl (Or.inl rfl) (aC ((fF T).mono (by decide)) hr rfl T.aal.m T.aal.F.kp T.aal.b ar (ae (aa 1 rfl) ai ah) ⟨w,ws,rfl,R.fr,mF R.ln (by simp;lia),R.tb,rfl⟩) ?_)
  refine ac (aO (i:=3) aP.nd rfl (Or.inl rfl) (aC ((jj T).mono (by decide)) hr rfl T.aaE.m T.aaE.F.kp T.aaE.b ar (ae (aa 2 rfl) ai ah) R.kn) ?_)
  show Ws _ _ _ _ _ _ [some (.dsk false T.aaH a d kvs),some (.val (sT (jn (w::ws)))),some (.val (.lst (sT w::ws.map sT))),some (.val (.lst ((k0::ks).map U.str))),none,none,none];refine ac (kR (ys:=gs) (j:=4) false rfl aP.nd rfl (Or.inl rfl) (blk (ag dQ) ["self","row","words","kinds","given","kind","word"] [5,6] rfl rfl rfl rfl (by decide+kernel)) (su rfl T.abw (aa 3 rfl) (.inl rfl) (EvN.ev (cX (aa 2 rfl) (c7 af) cW (.inl rfl))) (.inl rfl) ?l12 ah aX) (λ_ _ _ _=>dE rfl (aN (aJ (i:=5) aP.nd rfl (Or.inl rfl)) (aN (aJ (i:=6) aP.nd rfl (Or.inl rfl)) cn))) (cS (js:=[5,6]) (by decide)) ?clen ?csz ?dom ?celt ?_)
  case l12=>rw[gr,Gp,Gp,l1]
  case clen=>rw[gr,fS _ _ (by rw[Gp,Gp,l1]),Gp,l1,l2]
  case csz=>rw[gr,fS _ _ (by rw[Gp,Gp,l1]),Gp,l1];exact GT (ax (by lia))
  case dom=>
   rw[gr];intro x hx;obtain⟨i,hi⟩:=G7.mp hx;obtain⟨_,_,_,_,rfl⟩:=gd _ _ _ _ hi;exact⟨_,rfl,rfl⟩
  case celt=>
   rw[gr];intro C s' H' fp j x y hx hy;obtain⟨_,_,ha,hb,rfl⟩:=gd _ _ _ _ hx;obtain⟨k,hk,_,rfl⟩:=rX ha;obtain⟨wd,hwd,_,rfl⟩:=rX hb;exact iu (i:=0) rfl T.aan T.aat.m ((eF T).mono (by decide)) hr T.aat.b ar (ae (aa 5 rfl) (ae (aa 6 rfl) ai ah) ah) ⟨k,T' wd,rfl,R.rd j k wd y hk hwd hy⟩
  refine ac (aG (ao (bJ (ba hr) (by walk_at"ok") (by walk_at"ok")) (aM (aa 2 rfl) af rfl (bI (i:=0) rfl rfl)) aA) R.nn (au ?_))
  refine ac (aG (ao (bJ (ba hr) (by walk_at"ok") (by walk_at"ok")) (aM (aa 2 rfl) af rfl (bI (i:=0) rfl rfl)) aA) R.nd (au ?_))
  rcases h with ⟨t,hk0,hA,rfl⟩ |⟨y,nm,l,rfl,rfl,rfl,rfl,hR,rfl⟩
  ·refine Ws.nox ?_;refine ac (aG (ao (bJ (ba hr) (by walk_at"ok") (by walk_at"ok")) (aM (aa 3 rfl) af rfl (bI (i:=0) rfl rfl)) aA) hk0 (au ?_))
   refine ac (aQ (aC ((wj T).mono (by decide)) hr rfl T.aa2.m T.aa2.F.kp T.aa2.b ar (ae (aM (aa 2 rfl) af rfl (bI (i:=0) rfl rfl)) (ae (aa 4 rfl) ai ah) aX) ⟨t,hA,rfl⟩) ?_)
   exact rfl
  ·refine ac (cP (ao (bJ (ba hr) (by walk_at"ok") (by walk_at"ok")) (aM (aa 3 rfl) af rfl (bI (i:=0) rfl rfl)) aA) (by decide+kernel) ?_)
   refine ac (zJ (C:=T.aae.c) (Ej (i:=0) rfl T.aan T.aaG.m ((iE T).mono (by decide)) hr T.aaG.b ar (aM (aa 2 rfl) af rfl (bI (i:=1) rfl rfl)) (yp ((uY T).mono (by decide)) hr rfl T.aa6.m T.aa6.F.kp T.aa6.b uX (ae (aM (aa 2 rfl) af rfl (bI (i:=0) rfl rfl)) (ae (EvN.ev (cX (aa 4 rfl) (c7 af) cW (.inl rfl))) ai aX) aX) (.inr ⟨l,by rw[gr],.inr ⟨hR.sz,hR.ne,hR.hl,hR.no,rfl⟩⟩))) ?_)
   exact rfl
 ·have h8:=hN.h8
  have T8:∀x∈[dl,nm],32 ∉ x:=λx hx=>by
   simp only[Gx,HK,or_false]at hx;rcases hx with rfl |rfl
   ·decide
   ·exact hN.free
  have RM:∀w∈[dl,nm],w.length<=123:=λx hx=>by
   simp only[Gx,HK,or_false]at hx;rcases hx with rfl |rfl
   ·decide
   ·lia
  refine ac (aO (i:=2) aP.nd rfl (Or.inl rfl) (aC ((fF T).mono (by decide)) hr rfl T.aal.m T.aal.F.kp T.aal.b ar (ae (aa 1 rfl) ai ah) ⟨dl,[nm],rfl,T8,mF RM (by simp),by decide+kernel,rfl⟩) ?_)
  refine ac (aO (i:=3) aP.nd rfl (Or.inl rfl) (aC ((jj T).mono (by decide)) hr rfl T.aaE.m T.aaE.F.kp T.aaE.b ar (ae (aa 2 rfl) ai ah) (.inl ⟨dl,[nm],[dZ],rfl,sL,rfl,rfl⟩)) ?_)
  show Ws _ _ _ _ _ _ [some (.dsk false T.aaH a d kvs),some (.val (sT (jn [dl,nm]))),some (.val (.lst [sT dl,sT nm])),some (.val (.lst [.str dZ])),none,none,none];refine ac (rD (k:=0) (ys:=[]) (j:=4) (C0:=T.aai.c) rfl rfl rfl zx rfl aP.nd rfl (Or.inl rfl) (blk (ag dQ) ["self","row","words","kinds","given","kind","word"] [5,6] rfl rfl rfl rfl (by decide+kernel)) (su rfl T.abw (aa 3 rfl) (.inl rfl) (EvN.ev (cX (aa 2 rfl) (c7 af) cW (.inl rfl))) (.inl rfl) ?l12 ah aX) (λ_ _ _ _=>dE rfl (aN (aJ (i:=5) aP.nd rfl (Or.inl rfl)) (aN (aJ (i:=6) aP.nd rfl (Or.inl rfl)) cn))) (cS (js:=[5,6]) (by decide)) ?hk (Hf _) ?csz ?dom (λ_ _ _ _ _ _ _ _ z=>absurd z (Nn _)) ?hv ?_)
  case l12=>rw[gr];rfl
  case hk=>rw[gr];exact Nat.one_pos
  case csz=>rw[gr];exact GT (ax (by simp[dP]))
  case dom=>
   rw[gr];intro x hx;simp only[dP,Gx,HK,or_false]at hx;rw[hx];exact⟨_,rfl,rfl⟩
  case hv=>
   rw[gr];intro C s' H' fp EE x hx pa;cases hx;exact Di (i:=0) rfl T.aan T.aat.m ((eF T).mono (by decide)) hr T.aat.b pa (ae (aa 5 rfl) (ae (aa 6 rfl) ai ah) ah) ⟨dZ,T' nm,rfl,.none_ _ hv⟩
  exact rfl
def wY(C1 C2:GE):GE→List (Str×U)→List U→Out→Prop:=λd kvs us o=>∃(w y:List Nat) (ws:List (List Nat)) (ks:List Str) (gs:List U) (l:List P2),us=[sT (jn (w::y::ws))]∧Row C2 kvs w (y::ws) (f7::ks) (sT y::gs)∧kvs.length<1000∧nB C1 [sT w,.lst gs] (.new (l.map pu))∧l≠[]∧l.length≤60∧(∀p∈l,B60 p)∧o=.dsk d (.str "ok") (eX kvs (T' y) (lp l))
theorem j4(T:Txt w K mg):aL P w K mg base (CXF P w) 11 T.aaa.a T.aaa.d ["self","row"] (spD K true T.aaH (wY T.aae.c T.aai.c)):=by
 refine fL T.aaa.F aP (λd kvs us o h=>?_) (λRF A outer s H H1 E O a d kvs us o hr h=>?_)
 ·obtain⟨w,y,ws,ks,gs,l,rfl,R,hk,hM,RL,hl,hb,rfl⟩:=h;rfl
 obtain⟨w,y,ws,ks,gs,l,rfl,R,hk,hM,RL,hl,hb,rfl⟩:=h;refine Ws.nox ?_;have nw:=R.nw;have l1:=R.l1;have l2:=R.l2;refine ac (aO (i:=2) aP.nd rfl (Or.inl rfl) (aC ((fF T).mono (by decide)) hr rfl T.aal.m T.aal.F.kp T.aal.b ar (ae (aa 1 rfl) ai ah) ⟨w,y::ws,rfl,R.fr,mF R.ln (by simp;simp at nw;lia),R.tb,rfl⟩) ?_)
 refine ac (aO (i:=3) aP.nd rfl (Or.inl rfl) (aC ((jj T).mono (by decide)) hr rfl T.aaE.m T.aaE.F.kp T.aaE.b ar (ae (aa 2 rfl) ai ah) R.kn) ?_)
 show Ws _ _ _ _ _ _ [some (.dsk true T.aaH a d kvs),some (.val (sT (jn (w::y::ws)))),some (.val (.lst (sT w::(y::ws).map sT))),some (.val (.lst ((f7::ks).map U.str))),none,none,none];refine ac (kR (ys:=sT y::gs) (j:=4) false rfl aP.nd rfl (Or.inl rfl) (blk (ag dQ) ["self","row","words","kinds","given","kind","word"] [5,6] rfl rfl rfl rfl (by decide+kernel)) (su rfl T.abw (aa 3 rfl) (.inl rfl) (EvN.ev (cX (aa 2 rfl) (c7 af) cW (.inl rfl))) (.inl rfl) ?l12 ah aX) (λ_ _ _ _=>dE rfl (aN (aJ (i:=5) aP.nd rfl (Or.inl rfl)) (aN (aJ (i:=6) aP.nd rfl (Or.inl rfl)) cn))) (cS (js:=[5,6]) (by decide)) ?clen ?csz ?dom ?celt ?_)
 case l12=>rw[gr,Gp,Gp,l1]
 case clen=>rw[gr,fS _ _ (by rw[Gp,Gp,l1]),Gp,l1,l2]
 case csz=>rw[gr,fS _ _ (by rw[Gp,Gp,l1]),Gp,l1];exact GT (ax (by lia))
 case dom=>
  rw[gr];intro x hx;obtain⟨i,hi⟩:=G7.mp hx;obtain⟨_,_,_,_,rfl⟩:=gd _ _ _ _ hi;exact⟨_,rfl,rfl⟩
 case celt=>
  rw[gr];intro C s' H' fp j x y' hx hy;obtain⟨_,_,ha,hb,rfl⟩:=gd _ _ _ _ hx;obtain⟨k,hk,_,rfl⟩:=rX ha;obtain⟨wd,hwd,_,rfl⟩:=rX hb;exact iu (i:=0) rfl T.aan T.aat.m ((eF T).mono (by decide)) hr T.aat.b ar (ae (aa 5 rfl) (ae (aa 6 rfl) ai ah) ah) ⟨k,T' wd,rfl,R.rd j k wd y' hk hwd hy⟩
 refine ac (aG (ao (bJ (ba hr) (by walk_at"ok") (by walk_at"ok")) (aM (aa 2 rfl) af rfl (bI (i:=0) rfl rfl)) aA) R.nn (au ?_))
 refine ac (aG (ao (bJ (ba hr) (by walk_at"ok") (by walk_at"ok")) (aM (aa 2 rfl) af rfl (bI (i:=0) rfl rfl)) aA) R.nd (au ?_))
 refine ac (cP (ao (bJ (ba hr) (by walk_at"ok") (by walk_at"ok")) (aM (aa 3 rfl) af rfl (bI (i:=0) rfl rfl)) aA) (by decide+kernel) ?_)
 refine ac (AN (i:=0) rfl (lK (i:=0) rfl T.aan T.aaG.m ((iE T).mono (by decide)) hr T.aaG.b ar (ae (aM (aa 2 rfl) af rfl (bI (i:=1) rfl rfl)) (ae (EvN.ev (bO ((uY T).mono (by decide)) hr rfl T.aa6.m T.aa6.F.kp T.aa6.b ar (ae (aM (aa 2 rfl) af rfl (bI (i:=0) rfl rfl)) (ae (EvN.ev (cX (aa 4 rfl) (c7 af) cW (.inl rfl))) ai aX) aX) (by rw[gr];exact hM))) ai bg) aX) ⟨T' y,l,rfl,RL,hl,hb,hk,rfl⟩) ?_)
 exact rfl
theorem Bj(T:Txt w K mg):aL P w K mg base (CXF P w) 1 T.aaW.a T.aaW.d ["self"] (spI T.aaH):=
 AK T.aaW.F oX rfl rfl rfl T.aan T.abe rfl
def cel(ns:List Int)(k:Int):Int:=if k<(ns.length:Int) then ns.getD k.toNat 0 else 7*k*k+3*k+1
theorem jq{ns:List Int}(h:∀m∈ns,Sz 1048576 m){k:Int}(h0:0<=k)(h1:k<1000):Sz 1048576 (cel ns k):=by
 unfold cel;split
 ·exact Ca h _
 ·refine Sz.mono (m:=100) ?_ (by decide)
  have:7*k*k<=7*1000*1000:=by
   have:k*k<=1000*1000:=Int.mul_le_mul (by lia) (by lia) h0 (by lia)
   rw[QQ];lia
  have h2:0<=7*k*k:=Ht (by lia) h0
  unfold Sz;lia
def vG:List U->Out->Prop:=λus o=>∃(ns:List Int) (k:Int),us=[.scr (ns.map U.int),.int k]/\ns.length<=63/\0<=k/\k<1000/\o=.val (.int (cel ns k))
theorem cp(T:Txt w K mg):aL P w K mg base (CXF P w) 1 T.aab.a T.aab.d ["script","k"] (spU K (vG)):=by
 refine a_ T.aab.F oj (λus o h=>?_) (λRF A outer s H E O us o hr h=>?_)
 ·obtain⟨ns,k,rfl,hl,h0,h1,rfl⟩:=h;rfl
 obtain⟨ns,k,rfl,hl,h0,h1,rfl⟩:=h;refine Ws.nox ?_;have sk:Sz 64 k:=by unfold Sz;lia
 have hm:((ns.map U.int).length:Int)=(ns.length:Int):=by rw[Gp]
 refine ac (k9 (ao e7 (aa 1 rfl) (aw (bF rfl) rfl T.aap GL (ae (aa 0 rfl) ai ah))) (λhT=>?_) (λhF=>(au ?_)))
 ·rw[hm]at hT;have hk:=dTb hT;refine ac (aQ (aM (aa 0 rfl) (aa 1 rfl) rfl (zP h0 hk)) ?_);exact vIO (by unfold cel;rw[if_pos hk])
 ·rw[hm]at hF;have hk:=dFb hF;refine ac (aQ (dj (dj (bH (bH af (aa 1 rfl) (by walk_at"mul")) (aa 1 rfl) (by walk_at"mul")) (bH af (aa 1 rfl) (by walk_at"mul"))) af) ?_)
  exact vIO (by unfold cel;rw[if_neg hk])
def v7:List U->Out->Prop:=λus o=>∃P Q R:P2,us=[pu P,pu Q,pu R]/\Szp 5000 P/\Szp 5000 Q/\Szp 5000 R/\o=.val (.int (av P Q R))
theorem fq(T:Txt w K mg):aL P w K mg base (CXF P w) 1 T.aam.a T.aam.d ["a","b","p"] (spU K (v7)):=by
 refine a_ T.aam.F oJ (λus o h=>?_) (λRF A outer s H E O us o hr h=>?_)
 ·obtain⟨P,Q,R,rfl,⟨p1,p2⟩,⟨q1,q2⟩,⟨r1,r2⟩,rfl⟩:=h;rfl
 obtain⟨P,Q,R,rfl,⟨p1,p2⟩,⟨q1,q2⟩,⟨r1,r2⟩,rfl⟩:=h;refine Ws.nox ?_;refine ac (aQ (bP (bH (bP (aM (aa 1 rfl) af rfl rfl) (aM (aa 0 rfl) af rfl rfl)) (bP (aM (aa 2 rfl) af rfl rfl) (aM (aa 0 rfl) af rfl rfl)) (by walk_at"mul")) (bH (bP (aM (aa 1 rfl) af rfl rfl) (aM (aa 0 rfl) af rfl rfl)) (bP (aM (aa 2 rfl) af rfl rfl) (aM (aa 0 rfl) af rfl rfl)) (by walk_at"mul"))) ?_)
 exact rfl
theorem iP(T:Txt w K mg):aL P w K mg base (CXF P w) 2 T.aas.a T.aas.d ["points"] (spU K (kr)):=by
 refine a_ T.aas.F fi (λus o h=>?_) (λRF A outer s H E O us o hr h=>?_)
 ·obtain⟨row,rfl,sz,hl,rfl⟩:=h;rfl
 obtain⟨row,rfl,sz,hl,rfl⟩:=h;refine Ws.nox ?_;refine ac (m8 (i:=1) fi.nd rfl (Or.inl rfl) (cf aZ) ?_);refine ac (fN (λst:List P2=>[some (.val (lp row)),some (.own (st.reverse.map pu)),none]) (λi st=>st=aj (row.take i)) rfl PassesOwn.never (b7 (aa 0 rfl) (.inl rfl)) ?h0 ?hs ?hd)
 case h0=>exact⟨[],rfl,rfl,rfl,trivial⟩
 case hs=>
  rintro H0 i x _ hx rfl;obtain⟨P,hP,mP,rfl⟩:=jH hx;have hi:i<row.length:=aR hP;have sP:=sz P mP;refine⟨_,(ie (i:=2) fi.nd rfl (Or.inl rfl)),?_⟩;have len0:=gL row i;refine kN (λps=>SubP [some (.val (lp row)),some (.own ((be P (aj (row.take i))).reverse.map pu)),some (.val (pu P))] ps) (kz (λs2:List P2=>[some (.val (lp row)),some (.own (s2.reverse.map pu)),some (.val (pu P))]) (λm s2=>m=s2.length/\be P s2=be P (aj (row.take i))/\(∀p∈s2,p∈row)/\s2.length<=i) PassesOwn.never ?h0 ?hs) ?hj
  case h0=>exact⟨_,_,⟨rfl,rfl,λq hq=>eU row i q hq,len0⟩,rfl,rfl,rfl,trivial⟩
  case hs=>
   rintro m s2 ⟨rfl,e2,sub,Ti⟩
   match s2,e2,sub,Ti with
   |[],e2,sub,Ti=>
    refine⟨false,?_,λh=>(nomatch h),λh ps Sv=>e2 ▸ Sv⟩
    exact (Tw.t (oN (ao jo (gx 1 rfl rfl T.aap) af) rfl))
   |[b],e2,sub,Ti=>
    refine⟨false,?_,λh=>(nomatch h),λh ps Sv=>e2 ▸ Sv⟩
    exact (Tw.t (oN (ao jo (gx 1 rfl rfl T.aap) af) rfl))
   |b::a::r,e2,sub,Ti=>
    have sa:=sz a (sub a (by simp))
    have sb:=sz b (sub b (by simp))
    have e1:decide ((1:Int)<((((b::a::r).reverse.map pu).length:Nat):Int))=true:=decide_eq_true (by simp;lia)
    refine⟨decide ((1:Int)<((((b::a::r).reverse.map pu).length:Nat):Int)) && decide (av a b P<=0),?_,λh=>?_,λh ps Sv=>?_⟩
    ·exact (Tw.t (yh (ao jo (gx 1 rfl rfl T.aap) af) (λhz=>(xm (ao Dg (aC ((fq T).mono (by decide)) hr rfl T.aam.m T.aam.F.kp T.aam.b ar (ae (uS 1 rfl (cQ af) (Cw b a r)) (ae (uS 1 rfl (cQ af) (CU b (a::r))) (ae (aa 2 rfl) ai ah) aX) aX) ⟨a,b,P,rfl,sa,sb,sP,rfl⟩) af)))))
    ·rw[e1,Ko]at h;have hd:=dTb h;refine ac (CK 1 rfl (by simp) (au ?_))
     refine⟨_,a::r,?_,⟨rfl,?_,λq hq=>sub q (Gq _ hq),?_⟩,rfl,?_,rfl,trivial⟩
     ·simp
     ·rw[←e2];conv=>rhs;unfold be
      rw[if_pos hd]
     ·simp only[GI]at *;lia
     ·exact congrArg (λl=>some (Sl.own l)) (by simp)
    ·rw[e1,Ko]at h;have hd:=dFb h
     have e3:be P (b::a::r)=b::a::r:=by conv=>lhs;unfold be
                                        rw[if_neg hd]
     rw[<-e2,e3];exact Sv
  case hj=>
   intro ps Sv;refine dL ?_ Sv;have e4:=fv hP;have len3:=ke P (aj (row.take i));refine ac (iK 1 rfl (aa 2 rfl) (by rw[Gp,Hl];exact ax (by lia)) (au ?_))
   refine⟨_,rfl,rfl,?_,trivial⟩;exact congrArg (λl=>some (Sl.own l)) (by rw[e4];simp)
 case hd=>
  rintro st ps R9 Sv;refine dL ?_ Sv;refine ac (kS 1 rfl ?_);rw[R9];simp
def i6:List U->Out->Prop:=λus o=>∃pts:List P2,us=[lp pts]/\(∀p∈pts,Szp 5000 p)/\pts.length<64/\o=.new ((am pts).map pu)
theorem x6{pts:List P2}(h:(ST.srt pts).length=2):am pts=ST.srt pts:=by
 match e:ST.srt pts,h with
 |[a,b],_=>
  unfold am;rw[e];simp[aj,be]
theorem cI(T:Txt w K mg):aL P w K mg base (CXF P w) 3 T.aac.a T.aac.d ["points"] (spU K (i6)):=by
 refine a_ T.aac.F dz (λus o h=>?_) (λRF A outer s H E O us o hr h=>?_)
 ·obtain⟨pts,rfl,sz,hl,rfl⟩:=h;rfl
 obtain⟨pts,rfl,sz,hl,rfl⟩:=h;refine Ws.nox ?_;have sl:=ST.srt_len pts;have Vd:(((ST.srt pts).map pu).length:Int)=((ST.srt pts).length:Int):=by rw[Gp]
 have szs:=yf sz;by_cases h1:(ST.srt pts).length<3
 ·refine ac (m8 (i:=1) dz.nd rfl (Or.inl rfl) (gE rfl (ba hr) rfl T.abd rfl T.abp (aa 0 rfl) hl ah) ?_);refine ac (cP (ao e7 (gx 1 rfl rfl T.aap) af) (by rw[Vd];exact decide_eq_true (by lia)) ?_)
  refine ac (kS 1 rfl ?_)
  have ec:am pts=ST.srt pts:=by
   by_cases h2:(ST.srt pts).length=2
   ·exact x6 h2
   ·exact ij (by lia)
  rw[ec]
 ·refine ac (aO (i:=1) dz.nd rfl (Or.inl rfl) (EvN.ev (gE rfl (ba hr) rfl T.abd rfl T.abp (aa 0 rfl) hl ah)) ?_);refine ac (aG (ao e7 (aw (bF rfl) rfl T.aap GL (ae (aa 1 rfl) ai ah)) af) (by rw[Vd];exact decide_eq_false (by lia)) (au ?_))
  have b1:=ix (ST.srt pts);have b2:=ix (ST.srt pts).reverse;rw[Hl]at b2;refine ac (dA (mQ (EvN.ev (cX (EvN.ev (bO ((iP T).mono (by decide)) hr rfl T.aas.m T.aas.F.kp T.aas.b ar (ae (aa 1 rfl) ai ah) ⟨ST.srt pts,rfl,szs,by lia,rfl⟩)) cW (c7 (cQ af)) (.inl rfl))) (EvN.ev (cX (EvN.ev (bO ((iP T).mono (by decide)) hr rfl T.aas.m T.aas.F.kp T.aas.b ar (ae (EvN.ev (wn rfl rfl T.aby rfl T.abm (aa 1 rfl) ah)) ai bg) ⟨(ST.srt pts).reverse,by rw[lp,IY],λp hp=>szs p (GP.mp hp),by rw[Hl];lia,rfl⟩)) cW (c7 (cQ af)) (.inl rfl))) (by rw[fT,fT,Gp,Gp,IU,IU,Hl,Hl];exact GT (ax (by lia)))) ?_)
  show Out.new _=Out.new _;unfold am;rw[if_neg (by lia),fT,fT,<-Iu]
def tM(c f:Int):Int:=c*f%(2*10 ^ (6:Int).toNat+1)-10 ^ (6:Int).toNat
theorem tG(c f:Int):Sz 21 (tM c f):=by
 have e:(10:Int) ^ (6:Int).toNat=1000000:=by decide+kernel
 unfold tM Sz;rw[e];generalize c*f=z;lia
def Cg(m n q:Int):List U:=if q%2=1 then [.int m,.int (1+m*n),.int 1,.int n] else [.int (1+m*n),.int m,.int n,.int 1]
def Aj(ns:List Int):List U:=Cg (tM (cel ns 1) 48271) (tM (cel ns 2) 16807) (cel ns 3)
structure Tb4(a b c d:Int):Prop where
 sa:Sz 50 a
 sb:Sz 50 b
 sc:Sz 50 c
 sd:Sz 50 d
 dt:a*d-b*c=1\/a*d-b*c=-1
theorem Dp(ns:List Int):∃a b c d:Int,Aj ns=[.int a,.int b,.int c,.int d]/\Tb4 a b c d:=by
 have m:=tG (cel ns 1) 48271;have n:=tG (cel ns 2) 16807;have o:Sz 8 1:=by decide
 have mn:Sz 50 (1+tM (cel ns 1) 48271*tM (cel ns 2) 16807):=(L2.Sz.add' o (L2.Sz.mul m n)).mono (by decide)
 unfold Aj Cg;split
 ·exact⟨_,_,_,_,rfl,m.mono (by decide),mn,o.mono (by decide),n.mono (by decide),.inr (by grind)⟩
 ·exact⟨_,_,_,_,rfl,mn,m.mono (by decide),n.mono (by decide),o.mono (by decide),.inl (by grind)⟩
def yV:List U->Out->Prop:=λus o=>∃(ns:List Int) (a b c d:Int),us=[.scr (ns.map U.int)]/\ns.length<=63/\(∀m∈ns,Sz 1048576 m)/\Aj ns=[.int a,.int b,.int c,.int d]/\o=.new [.int a,.int b,.int c,.int d]
theorem ma(T:Txt w K mg):aL P w K mg base (CXF P w) 2 T.aaL.a T.aaL.d ["script"] (spU K (yV)):=by
 refine a_ T.aaL.F eL (λus o h=>?_) (λRF A outer s H E O us o hr h=>?_)
 ·obtain⟨ns,a,b,c,d,rfl,hl,hB,he,rfl⟩:=h;rfl
 obtain⟨ns,a,b,c,d,rfl,hl,hB,he,rfl⟩:=h;refine Ws.nox ?_;have c1:=jq hB (k:=1) (by decide) (by decide)
 have c2:=jq hB (k:=2) (by decide) (by decide)
 have c3:=jq hB (k:=3) (by decide) (by decide)
 refine ac (aO (i:=1) eL.nd rfl (Or.inl rfl) (bP (d9 (bH (aC ((cp T).mono (by decide)) hr rfl T.aab.m T.aab.F.kp T.aab.b ar (ae (aa 0 rfl) (ae af ai ay) ah) ⟨ns,_,rfl,hl,by decide,by decide,rfl⟩) af (by walk_at"mul")) (dj (bH af (o5 af af ⟨by decide,by decide,by decide⟩) (by walk_at"mul")) af) (by decide+kernel)) (o5 af af ⟨by decide,by decide,by decide⟩)) ?_)
 refine ac (aO (i:=2) eL.nd rfl (Or.inl rfl) (bP (d9 (bH (aC ((cp T).mono (by decide)) hr rfl T.aab.m T.aab.F.kp T.aab.b ar (ae (aa 0 rfl) (ae af ai ay) ah) ⟨ns,_,rfl,hl,by decide,by decide,rfl⟩) af (by walk_at"mul")) (dj (bH af (o5 af af ⟨by decide,by decide,by decide⟩) (by walk_at"mul")) af) (by decide+kernel)) (o5 af af ⟨by decide,by decide,by decide⟩)) ?_)
 show Ws _ _ _ _ _ _ [some (.val (.scr (ns.map U.int))),some (.val (.int (tM (cel ns 1) 48271))),some (.val (.int (tM (cel ns 2) 16807)))];have m1:=tG (cel ns 1) 48271;have n1:=tG (cel ns 2) 16807;unfold Aj at he;generalize tM (cel ns 1) 48271=m at *;generalize tM (cel ns 2) 16807=n at *;rw[<-he];refine ac (k9 (ao fK (d9 (aC ((cp T).mono (by decide)) hr rfl T.aab.m T.aab.F.kp T.aab.b ar (ae (aa 0 rfl) (ae af ai ay) ah) ⟨ns,_,rfl,hl,by decide,by decide,rfl⟩) af (by walk_at"mod")) af) (λhT=>?_) (λhF=>(au ?_)))
 ·refine ac (dA (cf (ak (aa 1 rfl) (ak (dj af (bH (aa 1 rfl) (aa 2 rfl) (by walk_at"mul"))) (ak af (ak (aa 2 rfl) aZ ah) ay) bK) ah)) ?_)
  unfold Cg;rw[if_pos (dTb hT)]
 ·refine ac (dA (cf (ak (dj af (bH (aa 1 rfl) (aa 2 rfl) (by walk_at"mul"))) (ak (aa 1 rfl) (ak (aa 2 rfl) (ak af aZ ay) ah) ah) bK)) ?_)
  unfold Cg;rw[if_neg (dFb hF)]
def vE:List U->Out->Prop:=λus o=>∃n:Int,us=[sT (ds n)]/\n.natAbs<10 ^ 300/\o=.val (.int n)
theorem F0:(Str.ofString "0123456789":Str)=T' D10:=rfl
theorem kD(T:Txt w K mg):aL P w K mg base (CXF P w) 1 T.aaC.a T.aaC.d ["word"] (spU K (vE)):=by
 refine a_ T.aaC.F dO (λus o h=>?_) (λRF A outer s H E O us o hr h=>?_)
 ·obtain⟨n,rfl,hn,rfl⟩:=h;rfl
 obtain⟨n,rfl,hn,rfl⟩:=h;refine Ws.nox ?_;have ll:(ds n).length<=301:=dC (by decide) hn
 have lm:(ds (n.natAbs:Int)).length<=300:=oF (by decide) hn
 obtain⟨hf,hneg⟩:=kh n
 have Vg:StrLaws.sliceText (T' (ds n)) (some (if eqW (.str (StrLaws.sliceText (T' (ds n)) none (some 1))) (.str (Str.ofString "-"))=true then 1 else 0)) none=T' (ds (n.natAbs:Int)):=by
  have e1:StrLaws.sliceText (T' (ds n)) none (some 1)=T' ((ds n).take 1):=C5 (ds n) 1
  have e2:eqW (.str (T' ((ds n).take 1))) (.str (Str.ofString "-"))=decide (n<0):=by
   rw[eqS];refine decide_eq_decide.mpr ⟨λh=>hneg.mp ?_,λh=>?_⟩
   ·have:=n9 (m:=[45]) h;cases e:ds n with
    |nil=>rw[e]at this;cases this
    |cons c r=>rw[e]at this;simp at this;rw[this];rfl
   ·have:=hneg.mpr h;cases e:ds n with
    |nil=>rw[e]at this;cases this
    |cons c r=>rw[e]at this;simp at this;rw[this];rfl
  rw[e1,e2];by_cases z:n<0
  ·rw[decide_eq_true z,if_pos rfl];have:=lh (ds n) 1;rw[show ((1:Nat):Int)=1 from rfl]at this
   rw[this,<-hf,iA (hneg.mpr z)];simp[bw]
  ·rw[decide_eq_false z,if_neg (by simp)]
   have:=lh (ds n) 0;rw[show ((0:Nat):Int)=0 from rfl]at this
   rw[this,NX,show n=(n.natAbs:Int) by lia]
   simp
 have tz:(T' (ds n)).length<=sizeLine:=by rw[br];exact GT (ax (by lia))
 refine ac (aO (i:=1) dO.nd rfl (Or.inl rfl) (lH (aa 0 rfl) (c7 (d_ Ep rfl T.abv QT (ae (jK (bJ (ba hr) (by walk_at"ok") (by walk_at"ok")) (lH (aa 0 rfl) cW (c7 af) tz) aA) ai DS))) cW tz) ?_)
 rw[Vg];have tz2:(T' (ds (n.natAbs:Int))).length<=sizeLine:=by rw[br];exact GT (ax (by lia))
 have e1:(T' (ds (n.natAbs:Int))).cps.toList=ds (n.natAbs:Int):=by simp
 refine ac (fN (λ_:Unit=>[some (.val (sT (ds n))),some (.val (sT (ds (n.natAbs:Int)))),none]) (λ_ _=>True) rfl PassesOwn.never (zE (aa 1 rfl)) ?h0 ?hs ?hd)
 case h0=>exact⟨(),trivial,rfl,rfl,trivial⟩
 case hs=>
  intro H0 i x _ hx _;rw[e1]at hx;obtain⟨c,hc,mc,rfl⟩:=rX hx;refine⟨_,(ie (i:=2) dO.nd rfl (Or.inl rfl)),?_⟩
  have Ur:(!(!(Builtin.Str.occurrences (Str.ofString "0123456789") ⟨#[c]⟩ 0 (Str.ofString "0123456789").length 1).isEmpty))=false:=by
   rw[F0,in1 D10 c,decide_eq_true ((nK c).mpr (gg _ c mc))];rfl
  refine ac (aG (ao Ek (aa 2 rfl) aA) Ur (au (au ?_)));exact⟨(),trivial,rfl,rfl,trivial⟩
 case hd=>
  intro _ ps _ Sv;refine dL ?_ Sv
  have RL:eqW (sT (ds (n.natAbs:Int))) (.str (Str.ofString ""))=false:=by
   rw[eqS];exact decide_eq_false λh=>qM n.natAbs (n9 (m:=[]) h)
  have hm:((T' (ds (n.natAbs:Int))).length:Int)=((ds (n.natAbs:Int)).length:Int):=by rw[br]
  have hstr:eqW (.str (Str.ofString (NI n))) (sT (ds n))=true:=by rw[qZ,eqS];exact decide_eq_true rfl
  refine ac (aG (Tw.t (iX (ao (bJ (ba hr) (by walk_at"ok") (by walk_at"ok")) (aa 1 rfl) aA) (λhz=>(iX (ao jo (aw (fR tz2) rfl T.aap GL (ae (aa 1 rfl) ai ah)) af) (λhz=>(iF (ao (mf (ba hr) (by walk_at"ok") (by walk_at"ok")) (d_ (oa (Fq hn)) rfl T.abk NM (ae (d_ (rc (uf hn) (by rw[br];lia)) rfl T.abv QT (ae (aa 0 rfl) ai ah)) ai bg)) (aa 0 rfl)))))))) (by rw[RL,hm,decide_eq_false (by lia),hstr];rfl) (au ?_))
  refine ac (aQ (d_ (rc (uf hn) (by rw[br];lia)) rfl T.abv QT (ae (aa 0 rfl) ai ah)) ?_)
  exact rfl
def x5:List U->Out->Prop:=λus o=>∃l:List P2,us=[lp l]/\(∀p∈l,B60 p)/\l.length<=61/\o=.val (sT (jn (l.map ptD)))
theorem eE(T:Txt w K mg):aL P w K mg base (CXF P w) 1 T.aah.a T.aah.d ["points"] (spU K (x5)):=by
 refine a_ T.aah.F eG (λus o h=>?_) (λRF A outer s H E O us o hr h=>?_)
 ·obtain⟨l,rfl,hb,hl,rfl⟩:=h;rfl
 obtain⟨l,rfl,hb,hl,rfl⟩:=h;refine Ws.nox ?_;refine ac (aQ (xK (l:=l.map λp=>T' (ptD p)) aA ?ej cV (tO hb hl)) ?_)
 case ej=>
  rw[<-EZ];refine EvN.ev ?_;refine (cU (ys:=(l.map λp=>sT (ptD p))) rfl (blk (ag fj) ["points","x","y"] [1,2] rfl rfl rfl rfl (by decide+kernel)) (b7 (aa 0 rfl) (.inl rfl)) (λ_ _ _ _=>dE rfl (aN (aJ (i:=1) eG.nd rfl (Or.inl rfl)) (aN (aJ (i:=2) eG.nd rfl (Or.inl rfl)) cn))) (cS (js:=[1,2]) (by decide)) ?clen ?csz ?dom ?celt)
  case clen=>simp
  case csz=>rw[Gp];exact GT (ax (by lia))
  case dom=>
   intro x hx;obtain⟨i,hi⟩:=G7.mp hx;obtain⟨p,hp,mp,rfl⟩:=jH hi;exact⟨_,rfl,rfl⟩
  case celt=>
   intro C s' H' fp j x y hx hy;obtain⟨p,hp,mp,rfl,rfl⟩:=bW hx hy;have hb:=hb p mp;have b1:=zt (Jm hb.1 (show 10 ^ 60<10 ^ 62 by decide+kernel))
   have b2:=zt (Jm hb.2 (show 10 ^ 60<10 ^ 62 by decide+kernel))
   have l1:(ds p.1).length<=61:=dC (by decide) hb.1
   have l2:(ds p.2).length<=61:=dC (by decide) hb.2
   have lc:(Str.ofString ",":Str).length=1:=rfl;show Ev _ _ _ _ _ (.str (T' (ptD p)));rw[show T' (ptD p)=Str.ofString (NI p.1)++(Str.ofString ",":Str)++Str.ofString (NI p.2) by rw[qZ,qZ,qb];rfl]
   exact (jh (jh (d_ (oa b1) rfl T.abk NM (ae (aa 1 rfl) ai ah)) aA (by rw[lc,qZ,br];exact GT (ax (by lia)))) (d_ (oa b2) rfl T.abk NM (ae (aa 2 rfl) ai ah)) (by rw[tf,lc,qZ,qZ,br,br];exact GT (ax (by lia))))
 rw[show (l.map λp=>T' (ptD p))=(l.map ptD).map T' by rw[G3];rfl]
 refine congrArg (λz=>Out.val (.str z)) ?_
 exact Eb (l.map ptD)
def lI:List U->Out->Prop:=λus o=>∃(x:List Nat) (ns:List Int),us=[sT x]/\spl 32 (cD x)=ns.map ds/\(∀n∈ns,n.natAbs<10 ^ 300)/\x.length<=8200/\ns.length<=900/\o=.new (ns.map U.int)
theorem dD(T:Txt w K mg):eZ P w K mg base (CXF P w) 2 T.aaf.a T.aaf.d ["answer_v"] (spU K (lI)):=by
 refine Ac T.aaf.F fH (λus o h=>?_) (λRF A outer s H E O us o hr h=>?_)
 ·obtain⟨x,ns,rfl,hs,hb,hl,hn,rfl⟩:=h;rfl
 obtain⟨x,ns,rfl,hs,hb,hl,hn,rfl⟩:=h;have lu:(cD x).length=x.length:=by unfold cD;simp
 refine F8 ?_;refine (aG (jy (gY (aw (lv (by intro _ h;cases h) (gu _)) rfl T.aax JU (ae (aa 0 rfl) (ae (Ds rfl T.abk NM) ai ah) ah)))) rfl (au ?_))
 refine uV (BJ (AE (ys:=ns.map U.int) rfl (blk (ag dU) ["answer_v","word"] [1] rfl rfl rfl rfl (by decide+kernel)) (wU (c:=32) (l:=cD x) (yj (congrArg U.str (Fg x)) (Eo (i:=0) rfl (by decide+kernel) ?hz)) aA ay ?hy rfl) (λ_ _ _ _=>aJ (i:=1) fH.nd rfl (Or.inl rfl)) (c_ (by decide)) ?clen ?csz (λ_ _=>trivial) ?celt) ?_)
 case hz=>rw[br,show (Str.ofString " ":Str).length=1 from rfl];lia
 case hy=>exact sz2 (by lia)
 case clen=>rw[hs];simp
 case csz=>rw[hs];simp;exact GT (ax (by lia))
 case celt=>
  rw[hs,G3];intro C s' H' fp j x y hx hy;obtain⟨n,hn,mn,rfl,rfl⟩:=bW hx hy;exact (aC ((kD T).mono (by decide)) hr rfl T.aaC.m T.aaC.F.kp T.aaC.b ar (ae (aa 1 rfl) ai ah) ⟨n,rfl,hb n mn,rfl⟩)
 exact rfl
theorem mL:∀(l:List P2) (n:Nat) (p:P2),eQ n (l++[p])=eQ n l++(if n/2 ^ l.length%2=1 then [p] else [])
 |[],n,p=>by simp[eQ]
 |q::l,n,p=>by
  rw[List.cons_append,eQ,eQ,mL l (n/2) p,GI,Ka,<-Nat.pow_succ'];split <;>simp
theorem zH:∀p∈bY,Szp 8 p:=by
 intro p hp;simp only[bY,Gx,HK,or_false]at hp;rcases hp with rfl |rfl |rfl |rfl |rfl |rfl |rfl |rfl <;>exact⟨by decide,by decide⟩
theorem lR:∀(l:List P2) (n:Nat),∀p∈eQ n l,p∈l
 |[],n,p,h=>by simp[eQ]at h
 |q::l,n,p,h=>by
  rw[eQ]at h;split at h
  ·rcases Gx.mp h with k |k
   ·rw[k];exact Gy
   ·exact Gq _ (lR l _ p k)
  ·exact Gq _ (lR l _ p h)
theorem lV:∀(l:List P2) (n:Nat),(eQ n l).length<=l.length
 |[],n=>by simp[eQ]
 |q::l,n=>by
  have:=lV l (n/2);rw[eQ];split <;>simp <;>lia
def wg:List U->Out->Prop:=λus o=>∃n:Nat,us=[.int (n:Int)]/\n<256/\o=.val (lp (jk n))
theorem oU(T:Txt w K mg):aL P w K mg base (CXF P w) 4 T.aaS.a T.aaS.d ["bits"] (spU K (wg)):=by
 refine a_ T.aaS.F bX (λus o h=>?_) (λRF A outer s H E O us o hr h=>?_)
 ·obtain⟨n,rfl,hn,rfl⟩:=h;rfl
 obtain⟨n,rfl,hn,rfl⟩:=h;refine Ws.nox ?_;have c8:i6 [lp bY] (.new ((am bY).map pu)):=⟨bY,rfl,dh (by decide) zH,by decide,rfl⟩
 refine ac (aO (i:=1) bX.nd rfl (Or.inl rfl) (EvN.ev (cf (ak (bp (ak af (ak af aZ ay) ay)) (ak (bp (ak af (ak af aZ ay) ay)) (ak (bp (ak af (ak af aZ ay) ay)) (ak (bp (ak (cQ af) (ak af aZ ay) gj)) (ak (bp (ak (cQ af) (ak af aZ ay) gj)) (ak (bp (ak (cQ af) (ak (cQ af) aZ gj) gj)) (ak (bp (ak af (ak (cQ af) aZ gj) ay)) (ak (bp (ak af (ak (cQ af) aZ gj) ay)) aZ cO) cO) cO) cO) cO) cO) cO) cO))) ?_);refine ac (m8 (i:=2) bX.nd rfl (Or.inl rfl) (cf aZ) ?_);refine ac (fN (λi:Nat=>[some (.val (.int ((n/2 ^ i:Nat):Int))),some (.val (lp bY)),some (.own ((eQ n (bY.take i)).map pu)),none,none,none]) (λi j=>i=j) rfl PassesOwn.never (b7 (aa 1 rfl) (.inl rfl)) ?h0 ?hs ?hd)
 case h0=>exact⟨0,rfl,by simp,rfl,rfl,trivial⟩
 case hs=>
  rintro H0 i x _ hx rfl;obtain⟨p,hp,mp,rfl⟩:=jH (l:=bY) hx;have hi:i<8:=(GB.mp hp).1;have ht:bY.take (i+1)=bY.take i++[p]:=by rw[IR,hp];rfl
  have hl:(bY.take i).length=i:=by rw[LM];exact NB (GT hi)
  have hb:=mL (bY.take i) n p;rw[<-ht,hl]at hb;have bl:=lV (bY.take i) n
  have hz:Sz 64 ((n/2 ^ i:Nat):Int):=by
   have:=Nat.div_le_self n (2 ^ i);generalize n/2 ^ i=z at *;unfold Sz;lia
  have h2:((n/2 ^ i:Nat):Int)/2=((n/2 ^ (i+1):Nat):Int):=by
   rw[IW,<-Ka];rfl
  refine⟨_,(ie (i:=3) bX.nd rfl (Or.inl rfl)),?_⟩;refine kN (λps=>SubP [some (.val (.int ((n/2 ^ i:Nat):Int))),some (.val (lp bY)),some (.own ((eQ n (bY.take (i+1))).map pu)),none,none,none] ps) (k9 (ao fK (d9 (aa 0 rfl) af (by walk_at"mod")) af) (λhT=>?_) (λhF=>(au ?_))) ?hj
  ·refine ac (iK 2 rfl (aa 3 rfl) (by rw[Gp];exact ax (by lia)) (au ?_))
   refine⟨rfl,rfl,?_,trivial⟩;have hT':=dTb hT;rw[hb,if_pos (by lia)]
   exact congrArg (λl=>some (Sl.own l)) (by simp)
  ·refine⟨rfl,rfl,?_,trivial⟩;have hF':=dFb hF;rw[hb,if_neg (by lia)]
   exact congrArg (λl=>some (Sl.own l)) (by simp)
  case hj=>
   intro ps Sv;refine dL ?_ Sv;refine ac (aO (i:=0) bX.nd rfl (Or.inl rfl) (iw (aa 0 rfl) af (by walk_at"div")) (au ?_))
   refine⟨i+1,rfl,?_,rfl,rfl,trivial⟩;exact congrArg (λz=>some (Sl.val (.int z))) h2
 case hd=>
  rintro q ps hq Sv;refine dL ?_ Sv;have hq8:q=8:=hq.symm;subst hq8;have e8:bY.take 8=bY:=rfl;rw[e8];have bl:(eQ n bY).length<=8:=lV bY n;have lz:∀p∈eQ n bY,Szp 8 p:=λp hp=>zH p (lR _ _ p hp)
  unfold jk;generalize eQ n bY=l at *;refine ac (aO (i:=4) bX.nd rfl (Or.inl rfl) (EvN.ev (Bb 2 rfl ((cI T).mono (by decide)) hr rfl T.aac.m T.aac.F.kp T.aac.b ar ai ⟨l,rfl,dh (by decide) lz,by lia,rfl⟩)) ?_)
  have hm:(((am l).map pu).length:Int)=((am l).length:Int):=by rw[Gp]
  have cz:∀p∈am l,Szp 5000 p:=λp hp=>by have z:=lz p (bU _ p hp);exact⟨z.1.mono (by decide),z.2.mono (by decide)⟩
  have cl:=um l;generalize am l=c at *;by_cases h3:c.length<3
  ·refine ac (cP (ao e7 (aw (bF rfl) rfl T.aap GL (ae (aa 4 rfl) ai ah)) af) (by rw[hm];exact decide_eq_true (by lia)) ?_)
   refine ac (aQ (EvN.ev (bO ((cI T).mono (by decide)) hr rfl T.aac.m T.aac.F.kp T.aac.b ar (ae (aa 1 rfl) ai ah) c8)) ?_)
   rw[if_neg (by unfold nJ;rw[decide_eq_false (by lia)];simp)]
  ·refine ac (aG (ao e7 (aw (bF rfl) rfl T.aap GL (ae (aa 4 rfl) ai ah)) af) (by rw[hm];exact decide_eq_false (by lia)) (au ?_))
   refine ac (fN (λ_:Unit=>[some (.val (.int ((n/2 ^ 8:Nat):Int))),some (.val (lp bY)),none,none,some (.val (lp c)),none]) (λi _=>∀s∈(sdl c).take i,0<av s.1 s.2 (0,0)) rfl PassesOwn.never (l6 rfl T.abi (ae (aw (bF rfl) rfl T.aap GL (ae (aa 4 rfl) ai ah)) ai bg) (by rw[hm];lia) (by rw[hm];lia)) ?h0 ?hs ?hd)
   case h0=>exact⟨(),by simp,rfl,rfl,rfl,trivial⟩
   case hs=>
    intro H0 i x _ hx hinv;obtain⟨hi,rfl⟩:=fB hx;have RW:i<c.length:=by rw[hm]at hi;lia
    have SA:(i+1)%c.length<c.length:=Ja _ (by lia)
    have hs:(sdl c)[i]?=some (gp c i,gp c ((i+1)%c.length)):=by
     unfold sdl;rw[Gz,Jy RW];rfl
    have z0:=cz _ (fZ RW);have z1:=cz _ (fZ SA);refine⟨_,(ie (i:=5) bX.nd rfl (Or.inl rfl)),?_⟩;have Vh:(0+(i:Int)+1)%((c.map pu).length:Int)=(((i+1)%c.length:Nat):Int):=by rw[hm,show (0+(i:Int)+1)=((i+1:Nat):Int) by lia];exact (Pf _ _).symm
    by_cases hd:av (gp c i) (gp c ((i+1)%c.length)) (0,0)<=0
    ·refine ac (cP (ao Dg (aC ((fq T).mono (by decide)) hr rfl T.aam.m T.aam.F.kp T.aam.b ar (ae (aM (aa 4 rfl) (aa 5 rfl) rfl (mJ (i:=i) (by lia) RW)) (ae (aM (aa 4 rfl) (d9 (dj (aa 5 rfl) af) (aw (bF rfl) rfl T.aap GL (ae (aa 4 rfl) ai ah)) (by rw[hm];lia)) rfl (mJ (i:=(i+1)%c.length) Vh SA)) (ae (bp (ak af (ak af aZ ay) ay)) ai cO) aX) aX) ⟨_,_,(0,0),rfl,z0,z1,⟨Sz.mono (m:=8) (by decide) (by decide),Sz.mono (m:=8) (by decide) (by decide)⟩,rfl⟩) af) (decide_eq_true hd) ?_)
     refine ac (aQ (EvN.ev (bO ((cI T).mono (by decide)) hr rfl T.aac.m T.aac.F.kp T.aac.b ar (ae (aa 1 rfl) ai ah) c8)) ?_)
     rw[if_neg (λz=>by
      unfold nJ at z;rw[Hu]at z;have:=of_decide_eq_true (Ig.mp z.2 _ (GJ hs));dsimp only at this;lia)]
    ·refine ac (aG (ao Dg (aC ((fq T).mono (by decide)) hr rfl T.aam.m T.aam.F.kp T.aam.b ar (ae (aM (aa 4 rfl) (aa 5 rfl) rfl (mJ (i:=i) (by lia) RW)) (ae (aM (aa 4 rfl) (d9 (dj (aa 5 rfl) af) (aw (bF rfl) rfl T.aap GL (ae (aa 4 rfl) ai ah)) (by rw[hm];lia)) rfl (mJ (i:=(i+1)%c.length) Vh SA)) (ae (bp (ak af (ak af aZ ay) ay)) ai cO) aX) aX) ⟨_,_,(0,0),rfl,z0,z1,⟨Sz.mono (m:=8) (by decide) (by decide),Sz.mono (m:=8) (by decide) (by decide)⟩,rfl⟩) af) (decide_eq_false hd) (au (au ?_)))
     refine⟨(),λs T3=>?_,rfl,rfl,rfl,trivial⟩
     rw[IR,hs]at T3;rcases HU.mp T3 with k |k
     ·exact hinv s k
     ·rw[show s=(gp c i,gp c ((i+1)%c.length)) by simpa using k];exact Int.not_le.mp hd
   case hd=>
    intro _ ps Sx Sv;refine dL ?_ Sv;rw[cM,hm,Ii,<-cJ c,IX]at Sx;refine ac (aQ (aa 4 rfl) ?_)
    rw[if_pos (by
     unfold nJ;rw[decide_eq_true (by lia),Ko]
     exact Ig.mpr λs hs=>decide_eq_true (Sx s hs))]
theorem DW{l:List P2}{i:Nat}(h:i<l.length):(sdl l)[i]?=some (gp l i,gp l ((i+1)%l.length)):=by
 unfold sdl;rw[Gz,Jy h];rfl
def wP:List U->Out->Prop:=λus o=>∃l:List P2,us=[lp l]/\3<=l.length/\l.length<=12/\am l=l/\hrt l=true/\(∀p∈l,Szp 8 p)/\o=.new ((fcs l).map pu)
theorem kI(T:Txt w K mg):aL P w K mg base (CXF P w) 1 T.aaD.a T.aaD.d ["land"] (spU K (wP)):=by
 refine a_ T.aaD.F bT (λus o h=>?_) (λRF A outer s H E O us o hr h=>?_)
 ·obtain⟨l,rfl,h3,h12,hc,hh,sz,rfl⟩:=h;rfl
 obtain⟨l,rfl,h3,h12,hc,hh,sz,rfl⟩:=h;refine Ws.nox ?_;have nd:l.Nodup:=by rw[<-hc];exact bo _
 have hm:((l.map pu).length:Int)=(l.length:Int):=by rw[Gp]
 refine ac (m8 (i:=1) bT.nd rfl (Or.inl rfl) (cf aZ) ?_);refine ac (fN (λi:Nat=>[some (.val (lp l)),some (.own ((((sdl l).take i).map iG).map pu)),none,none,none,none]) (λi j=>i=j) rfl PassesOwn.never (l6 rfl T.abi (ae (aw (bF rfl) rfl T.aap GL (ae (aa 0 rfl) ai ah)) ai bg) (by rw[hm];lia) (by rw[hm];lia)) ?h0 ?hs ?hd)
 case h0=>exact⟨0,rfl,rfl,rfl,trivial⟩
 case hs=>
  rintro H0 i x _ hx rfl;obtain⟨hi,rfl⟩:=fB hx;have RW:i<l.length:=by rw[hm]at hi;lia
  have SA:(i+1)%l.length<l.length:=Ja _ (by lia)
  have hs:=DW RW;have ms:=GJ hs;have z0:=sz _ (fZ RW);have z1:=sz _ (fZ SA);have RL:=fO nd (by lia) _ ms
  have Vh:(0+(i:Int)+1)%((l.map pu).length:Int)=(((i+1)%l.length:Nat):Int):=by rw[hm,show (0+(i:Int)+1)=((i+1:Nat):Int) by lia];exact (Pf _ _).symm
  have hcr:=of_decide_eq_true hh _ ms;refine⟨_,(ie (i:=2) bT.nd rfl (Or.inl rfl)),?_⟩;have hx1:atI (l.map pu) (0+(i:Int))=some (pu (gp l i)):=mJ (i:=i) (by lia) RW
  have hx2:=mJ (l:=l) (i:=(i+1)%l.length) Vh SA;have ln:((sdl l).take i).length<=12:=by rw[LM,cJ];lia
  generalize gp l ((i+1)%l.length)=Q at *;generalize gp l i=A at *;refine ac (aO (i:=3) bT.nd rfl (Or.inl rfl) (aM (aa 0 rfl) (aa 2 rfl) rfl hx1) ?_);refine ac (aO (i:=4) bT.nd rfl (Or.inl rfl) (aM (aa 0 rfl) (d9 (dj (aa 2 rfl) af) (aw (bF rfl) rfl T.aap GL (ae (aa 0 rfl) ai ah)) (by rw[hm];lia)) rfl hx2) ?_)
  have a1:=z0.1;have a2:=z0.2;have q1:=z1.1;have q2:=z1.2;refine ac (aO (i:=5) bT.nd rfl (Or.inl rfl) (bP (bH (aM (aa 3 rfl) af rfl rfl) (aM (aa 4 rfl) af rfl rfl) (by walk_at"mul")) (bH (aM (aa 3 rfl) af rfl rfl) (aM (aa 4 rfl) af rfl rfl) (by walk_at"mul"))) ?_)
  have hmany:A.1*Q.2-A.2*Q.1=gst (A,Q):=by rw[<-hcr];unfold crs;grind
  rw[hmany];have g0:0<gst (A,Q):=d8 RL;have gz:Sz 9 (gst (A,Q)):=zd z0 z1;refine ac (iK 1 rfl (bp (ak (iw (bP (aM (aa 4 rfl) af rfl rfl) (aM (aa 3 rfl) af rfl rfl)) (aa 5 rfl) ⟨g0,gz.mono (by decide)⟩) (ak (iw (bP (aM (aa 3 rfl) af rfl rfl) (aM (aa 4 rfl) af rfl rfl)) (aa 5 rfl) ⟨g0,gz.mono (by decide)⟩) aZ bK) bK)) (by simp;exact ax (by lia)) (au ?_))
  refine⟨i+1,rfl,rfl,?_,trivial⟩;refine congrArg (λl=>some (Sl.own l)) ?_
  rw[IR,hs];simp[iG,pu]
 case hd=>
  rintro q ps hq Sv;refine dL ?_ Sv;rw[cM,hm,Ii,<-cJ l]at hq;subst hq;rw[IX];refine ac (kS 1 rfl ?_);exact rfl
def bS(ns:List Int):Nat->Int
 |0=>0
 |i+1=>bS ns i+cel ns (5+(i:Int))%256
theorem yL(ns:List Int):∀i,0<=bS ns i/\bS ns i<=256*(i:Int)
 |0=>by simp[bS]
 |i+1=>by
  have:=yL ns i;unfold bS;lia
def bN(ns:List Int):Nat:=(bS ns (max 8 (min ns.length 59)-5)%256).toNat
theorem uz(ns:List Int):bN ns<256:=by unfold bN;lia
def rg(ns:List Int):List P2:=if cel ns 4%2=1 then fcs (jk (bN ns)) else jk (bN ns)
def wG(ns:List Int)(a b c d:Int):List P2:=am ((rg ns).map (dq a b c d))
theorem ES(ns:List Int):(∀p∈rg ns,Szp 20 p)/\(rg ns).length<=12:=by
 have B:=je (uz ns);unfold rg;split
 ·exact⟨λp hp=>by have z:=xJ B.s1 p hp;exact⟨z.1.mono (by decide),z.2.mono (by decide)⟩,by rw[n_];exact B.p1.hl⟩
 ·exact⟨λp hp=>by have z:=B.s1 p hp;exact⟨z.1.mono (by decide),z.2.mono (by decide)⟩,B.p1.hl⟩
theorem xh(ns:List Int){a b c d:Int}(h:Tb4 a b c d):HF (wG ns a b c d) (am (fcs (wG ns a b c d))):=by
 have B:=je (uz ns);unfold wG rg;split
 ·have e:am ((fcs (jk (bN ns))).map (dq a b c d))=am ((am (fcs (jk (bN ns)))).map (dq a b c d)):=(eC (kq rfl h.dt) B.p2.h3).symm;rw[e];exact Ci B.swap rfl h.dt h.sa h.sb h.sc h.sd
 ·exact Ci B rfl h.dt h.sa h.sb h.sc h.sd
def rG:List U->Out->Prop:=λus o=>∃(ns:List Int) (a b c d:Int),us=[.scr (ns.map U.int)]/\ns.length<=63/\(∀m∈ns,Sz 1048576 m)/\Aj ns=[.int a,.int b,.int c,.int d]/\Tb4 a b c d/\o=.new ((wG ns a b c d).map pu)
theorem FP(ns:List Int):(if (if (59:Int)<((ns.map U.int).length:Int) then (59:Int) else ((ns.map U.int).length:Int)) >8 then (if (59:Int)<((ns.map U.int).length:Int) then (59:Int) else ((ns.map U.int).length:Int)) else 8)=((max 8 (min ns.length 59):Nat):Int):=by
 rw[Gp];split <;>split <;>lia
theorem mr(T:Txt w K mg):aL P w K mg base (CXF P w) 5 T.aaM.a T.aaM.d ["script"] (spU K (rG)):=by
 refine a_ T.aaM.F aW (λus o h=>?_) (λRF A outer s H E O us o hr h=>?_)
 ·obtain⟨ns,a,b,c,d,rfl,hl,hB,he,h4,rfl⟩:=h;rfl
 obtain⟨ns,a,b,c,d,rfl,hl,hB,he,h4,rfl⟩:=h;refine Ws.nox ?_;have hb:=FP ns;have c4:=jq hB (k:=4) (by decide) (by decide)
 refine ac (aO (i:=1) aW.nd rfl (Or.inl rfl) af ?_);refine ac (fN (λi:Nat=>[some (.val (.scr (ns.map U.int))),some (.val (.int (bS ns i))),none,none,none,none,none,none,none,none]) (λi j=>i=j/\i<=54) rfl PassesOwn.never (zg rfl T.abi (ae af (ae (aw (FG rfl) rfl T.abz boot_max (ae af (ae (aw (Ck rfl) rfl T.abA boot_min (ae (aw (bF rfl) rfl T.aap GL (ae (aa 0 rfl) ai ah)) (ae af ai ay) bg)) ai bg) ay)) ai bg) ay) ⟨by decide,by decide,by rw[hb];lia,by rw[hb];lia⟩) ?h0 ?hs ?hd)
 case h0=>exact⟨0,⟨rfl,by decide⟩,rfl,rfl,trivial⟩
 case hs=>
  rintro H0 i x _ hx ⟨rfl,_⟩;rw[hb]at hx;obtain⟨hi,rfl⟩:=fB hx;have RW:i<54:=by lia
  have cz:=jq hB (k:=5+(i:Int)) (by lia) (by lia)
  have bl:=yL ns i;have bz:Sz 64 (bS ns i):=by unfold Sz;lia
  refine⟨_,(ie (i:=2) aW.nd rfl (Or.inl rfl)),?_⟩;refine ac (aO (i:=1) aW.nd rfl (Or.inl rfl) (dj (aa 1 rfl) (d9 (aC ((cp T).mono (by decide)) hr rfl T.aab.m T.aab.F.kp T.aab.b ar (ae (aa 0 rfl) (ae (aa 2 rfl) ai ah) ah) ⟨ns,_,rfl,hl,by lia,by lia,rfl⟩) af (by walk_at"mod"))) (au ?_))
  exact⟨i+1,⟨rfl,by lia⟩,rfl,rfl,trivial⟩
 case hd=>
  rintro q ps ⟨hq,_⟩ Sv;refine dL ?_ Sv;rw[cM,hb]at hq;have R5:q=max 8 (min ns.length 59)-5:=by lia
  subst R5;have bl:=yL ns (max 8 (min ns.length 59)-5);have eN:bS ns (max 8 (min ns.length 59)-5)%256=((bN ns:Nat):Int):=by unfold bN;lia
  have bz:Sz 64 (bS ns (max 8 (min ns.length 59)-5)):=by unfold Sz;lia
  have B:=je (uz ns);refine ac (aO (i:=3) aW.nd rfl (Or.inl rfl) (aC ((oU T).mono (by decide)) hr rfl T.aaS.m T.aaS.F.kp T.aaS.b ar (ae (d9 (aa 1 rfl) af (by walk_at"mod")) ai bK) ⟨bN ns,by rw[eN],uz ns,rfl⟩) ?_)
  refine kN (λps=>SubP [some (.val (.scr (ns.map U.int))),none,none,some (.val (lp (rg ns))),none,none,none,none,none,none] ps) (k9 (ao fK (d9 (aC ((cp T).mono (by decide)) hr rfl T.aab.m T.aab.F.kp T.aab.b ar (ae (aa 0 rfl) (ae af ai ay) ah) ⟨ns,_,rfl,hl,by decide,by decide,rfl⟩) af (by walk_at"mod")) af) (λhT=>?_) (λhF=>(au ?_))) ?hj
  ·refine ac (aO (i:=3) aW.nd rfl (Or.inl rfl) (EvN.ev (bO ((kI T).mono (by decide)) hr rfl T.aaD.m T.aaD.F.kp T.aaD.b ar (ae (aa 3 rfl) ai ah) ⟨jk (bN ns),rfl,B.p1.h3,B.p1.hl,B.p1.self,B.p1.hrt,B.s1,rfl⟩)) (au ?_))
   refine⟨rfl,?_,trivial⟩;exact congrArg (λz=>some (Sl.val (lp z))) (show fcs (jk (bN ns))=rg ns by unfold rg;rw[if_pos (dTb hT)])
  ·refine⟨rfl,?_,trivial⟩;exact congrArg (λz=>some (Sl.val (lp z))) (show jk (bN ns)=rg ns by unfold rg;rw[if_neg (dFb hF)])
  case hj=>
   intro ps Sv;refine dL ?_ Sv;obtain⟨rz,rl⟩:=ES ns;unfold wG;generalize rg ns=l at *;have sa:=h4.sa;have sb:=h4.sb;have sc:=h4.sc;have sd:=h4.sd;refine ac (Fk (EvN.ev (bO ((ma T).mono (by decide)) hr rfl T.aaL.m T.aaL.F.kp T.aaL.b ar (ae (aa 0 rfl) ai ah) ⟨ns,a,b,c,d,rfl,hl,hB,he,rfl⟩)) (EQ [4,5,6,7] rfl (aN (aJ (i:=4) aW.nd rfl (Or.inr rfl)) (aN (aJ (i:=5) aW.nd rfl (Or.inr rfl)) (aN (aJ (i:=6) aW.nd rfl (Or.inr rfl)) (aN (aJ (i:=7) aW.nd rfl (Or.inr rfl)) cn)))) (.inl rfl) rfl) ?_)
   refine ac (dA (bO ((cI T).mono (by decide)) hr rfl T.aac.m T.aac.F.kp T.aac.b ar (ae (EvN.ev (cU (ys:=(l.map λp=>pu (dq a b c d p))) rfl (blk (ag fE) ["script","bits","k","land","a","b","c","d","x","y"] [8,9] rfl rfl rfl rfl (by decide+kernel)) (b7 (aa 3 rfl) (.inl rfl)) (λ_ _ _ _=>dE rfl (aN (aJ (i:=8) aW.nd rfl (Or.inl rfl)) (aN (aJ (i:=9) aW.nd rfl (Or.inl rfl)) cn))) (cS (js:=[8,9]) (by decide)) ?clen ?csz ?dom ?celt)) ai cV) ⟨l.map (dq a b c d),by rw[lp,G3];rfl,λp hp=>by obtain⟨q,hq,rfl⟩:=GC.mp hp;have z:=tV sa sb sc sd (rz q hq);exact⟨z.1.mono (by decide),z.2.mono (by decide)⟩,by rw[Gp];lia,rfl⟩) ?_)
   case clen=>simp
   case csz=>rw[Gp];exact GT (ax (by lia))
   case dom=>
    intro x hx;obtain⟨i,hi⟩:=G7.mp hx;obtain⟨p,hp,mp,rfl⟩:=jH hi;exact⟨_,rfl,rfl⟩
   case celt=>
    intro C s' H' fp j x y hx hy;obtain⟨p,hp,mp,rfl,rfl⟩:=bW hx hy;have s1:=(rz p mp).1;have s2:=(rz p mp).2;exact (bp (ak (dj (bH (aa 4 rfl) (aa 8 rfl) (by walk_at"mul")) (bH (aa 5 rfl) (aa 9 rfl) (by walk_at"mul"))) (ak (dj (bH (aa 6 rfl) (aa 8 rfl) (by walk_at"mul")) (bH (aa 7 rfl) (aa 9 rfl) (by walk_at"mul"))) aZ bK) bK))
   exact rfl
def flt:List P2->List Int
 |[]=>[]
 |p::r=>p.1::p.2::flt r
theorem s_:∀l:List P2,(flt l).length=2*l.length
 |[]=>rfl
 |p::r=>by unfold flt;rw[GI,GI,s_ r,GI];lia
theorem Aa:∀(l:List P2) (k:Nat) (p:P2),l[k]?=some p->(flt l)[2*k]?=some p.1/\(flt l)[2*k+1]?=some p.2
 |[],k,p,h=>by simp at h
 |q::r,0,p,h=>by cases h;exact⟨rfl,rfl⟩
 |q::r,k+1,p,h=>by
  have:=Aa r k p h;unfold flt;rw[show 2*(k+1)=2*k+1+1 by lia]
  exact this
theorem ud{q:Int->Prop}:∀{l:List P2},(∀p∈l,q p.1/\q p.2)->∀n∈flt l,q n
 |[],_,n,h=>by simp[flt]at h
 |p::r,hq,n,h=>by
  unfold flt at h;rcases Gx.mp h with k |k
  ·rw[k];exact (hq p Gy).1
  ·rcases Gx.mp k with k |k
   ·rw[k];exact (hq p Gy).2
   ·exact ud (λx hx=>hq x (Gq _ hx)) n k
theorem uD(p:P2):cD (ptD p)=ds p.1++32::ds p.2:=by
 have k2:=kH (cZ p.1 (c:=44) (by lia))
 have k3:=kH (cZ p.2 (c:=44) (by lia))
 unfold ptD;unfold cD at *;rw[Iu,GW,k2,k3];rfl
theorem x8:∀l:List P2,l≠[]->cD (jn (l.map ptD))=jn ((flt l).map ds)
 |[],h=>absurd rfl h
 |[p],_=>by
  show cD (ptD p)=jn [ds p.1,ds p.2];rw[uD];rfl
 |p::q::r,_=>by
  have ih:=x8 (q::r) (by simp)
  rw[GW,di _ (by simp)]
  have e:cD (ptD p++32::jn ((q::r).map ptD))=cD (ptD p)++32::cD (jn ((q::r).map ptD)):=by
   unfold cD;rw[Iu,GW];rfl
  rw[e,ih,uD];show _=jn (ds p.1::ds p.2::(flt (q::r)).map ds);rw[di _ (by simp),di _ (by simp[flt])]
  simp
theorem Bc{l:List P2}(h:l≠[]):spl 32 (cD (jn (l.map ptD)))=(flt l).map ds:=by
 rw[x8 l h];refine nV ?_ λw hw=>?_
 ·cases l with
  |nil=>exact absurd rfl h
  |cons p r=>simp[flt]
 ·obtain⟨n,_,rfl⟩:=GC.mp hw;exact cZ _ (by lia)
theorem ya:∀ns:List Int,inV (fl .non) ((ns.map U.int).map fl)=false
 |[]=>rfl
 |n::r=>by
  have:=ya r;simp only[GW,inV]at this |-;rw[JW,this];rfl
theorem E3(ns:List Int):(ns.map U.int).all we=true:=by
 rw[Ig];intro x hx;obtain⟨n,_,rfl⟩:=GC.mp hx;rfl
def sH:List U->Out->Prop:=λus o=>∃l:List P2,us=[sT (jn (l.map ptD))]/\l≠[]/\l.length<=60/\(∀p∈l,B60 p)/\o=.new (l.map pu)
theorem ml(T:Txt w K mg):eZ P w K mg base (CXF P w) 3 T.aaN.a T.aaN.d ["answer_v"] (spU K (sH)):=by
 refine Ac T.aaN.F eI (λus o h=>?_) (λRF A outer s H E O us o hr h=>?_)
 ·obtain⟨l,rfl,RL,hl,hb,rfl⟩:=h;rfl
 obtain⟨l,rfl,RL,hl,hb,rfl⟩:=h;have jl:(jn (l.map ptD)).length<=8200:=mF (λw hw=>by obtain⟨p,hp,rfl⟩:=GC.mp hw;exact gB (hb p hp)) (by simp;lia)
 have Va:=s_ l;refine uV (DI (i:=1) eI.nd rfl (Or.inr rfl) (pV.ev (A0 ((dD T).mono (by decide)) hr rfl T.aaf.m T.aaf.F.kp T.aaf.b ar (ae (aa 0 rfl) ai ah) ⟨jn (l.map ptD),flt l,rfl,Bc RL,ud λp hp=>C8 (hb p hp),jl,by lia,rfl⟩)) ?_)
 show Ws _ _ _ _ _ _ [some (.val (sT (jn (l.map ptD)))),some (.val (.lst ((flt l).map U.int))),none];refine Ws.nox ?_;have hm:(((flt l).map U.int).length:Int)=2*(l.length:Int):=by rw[Gp,Va];lia
 refine ac (aG (Tw.t (iX (ao (wb rfl rfl (E3 _)) ux (aa 1 rfl)) (λhz=>(iF (ao fK (d9 (aw (bF rfl) rfl T.aap GL (ae (aa 1 rfl) ai ah)) af (by walk_at"mod")) af))))) (by rw[ya,hm];simp) (au ?_))
 refine ac (dA (cU (ys:=(l.map pu)) rfl (blk (ag fk) ["answer_v","flat","k"] [2] rfl rfl rfl rfl (by decide+kernel)) (l6 rfl T.abi (ae (iw (aw (bF rfl) rfl T.aap GL (ae (aa 1 rfl) ai ah)) af (by walk_at"div")) ai bK) (by rw[hm];lia) (by rw[hm];lia)) (λ_ _ _ _=>aJ (i:=2) eI.nd rfl (Or.inl rfl)) (c_ (by decide)) ?clen ?csz (λ_ _=>trivial) ?celt) ?_)
 case clen=>rw[cM,hm];simp
 case csz=>rw[cM,hm];exact GT (ax (by lia))
 case celt=>
  intro C s' H' fp j x y hx hy;obtain⟨hj,rfl⟩:=fB hx;rw[Gz]at hy;obtain⟨p,hp,rfl⟩:=Kb.mp hy;obtain⟨f1,f2⟩:=Aa l j p hp;have a1:atI ((flt l).map U.int) (2*(0+(j:Int)))=some (.int p.1):=bI (i:=2*j) (by lia) (by rw[Gz,f1];rfl)
  have a2:atI ((flt l).map U.int) (2*(0+(j:Int))+1)=some (.int p.2):=bI (i:=2*j+1) (by lia) (by rw[Gz,f2];rfl)
  have jz:Sz 64 (0+(j:Int)):=by rw[hm]at hj;unfold Sz;lia
  exact (bp (ak (aM (aa 1 rfl) (bH af (aa 2 rfl) (by walk_at"mul")) rfl a1) (ak (aM (aa 1 rfl) (dj (bH af (aa 2 rfl) (by walk_at"mul")) af) rfl a2) aZ aX) aX))
 exact rfl
def sE:List U->Out->Prop:=λus o=>∃l m:List P2,us=[lp l,lp m]/\Hrt 1000 l/\Hrt 1000 m/\m.length=l.length/\ou m l=true/\o=.val (.bl true)
theorem jZ(T:Txt w K mg):aL P w K mg base (CXF P w) 1 T.aav.a T.aav.d ["land","found"] (spU K (sE)):=by
 refine a_ T.aav.F bL (λus o h=>?_) (λRF A outer s H E O us o hr h=>?_)
 ·obtain⟨l,m,rfl,hL,hM,RM,hk,rfl⟩:=h;rfl
 obtain⟨l,m,rfl,hL,hM,RM,hk,rfl⟩:=h;refine Ws.nox ?_;have l64:=hL.len;have l3:=hL.three;have m64:=hM.len;have nd:=hM.nd;have Vx:l≠[]:=λe=>by rw[e]at l3;simp at l3
 have hm1:((l.map pu).length:Int)=(l.length:Int):=by rw[Gp]
 have hm2:((m.map pu).length:Int)=(l.length:Int):=by rw[Gp,RM]
 refine ac (aG (Tw.t (iX (ao gZ (aw (bF rfl) rfl T.aap GL (ae (aa 1 rfl) ai ah)) (aw (bF rfl) rfl T.aap GL (ae (aa 0 rfl) ai ah))) (λhz=>(iF (ao gZ (yD rfl (ba hr) rfl T.aap rfl T.abp (aa 1 rfl) (by lia) nd ah) (aw (bF rfl) rfl T.aap GL (ae (aa 1 rfl) ai ah))))))) (by rw[hm1,hm2,RM];simp) (au ?_))
 refine ac (fN (λ_:Unit=>[some (.val (lp l)),some (.val (lp m)),none,none,none,none,none]) (λ_ _=>True) rfl PassesOwn.never (b7 (aa 1 rfl) (.inl rfl)) ?h0 ?hs ?hd)
 case h0=>exact⟨(),trivial,rfl,rfl,trivial⟩
 case hs=>
  intro H0 i x _ hx _;obtain⟨p,hp,mp,rfl⟩:=jH hx;obtain⟨k1,k2⟩:=CA hk p mp;obtain⟨a,b⟩:=p;obtain⟨sa,sb⟩:=hM.sz _ mp;dsimp only at sa sb k1 k2;refine⟨_,(Fh [2,3] rfl (aN (aJ (i:=2) bL.nd rfl (Or.inr rfl)) (aN (aJ (i:=3) bL.nd rfl (Or.inr rfl)) cn)) rfl),?_⟩;refine ac (vw (ys:=(l.map λp=>U.int (wth a b p))) (j:=4) false rfl bL.nd rfl (Or.inl rfl) (blk (ag dX) ["land","found","u","v","worths","x","y"] [5,6] rfl rfl rfl rfl (by decide+kernel)) (b7 (aa 0 rfl) (.inl rfl)) (λ_ _ _ _=>dE rfl (aN (aJ (i:=5) bL.nd rfl (Or.inl rfl)) (aN (aJ (i:=6) bL.nd rfl (Or.inl rfl)) cn))) (cS (js:=[5,6]) (by decide)) ?clen ?csz ?dom ?celt ?_)
  case clen=>simp
  case csz=>rw[Gp];exact GT (ax (by lia))
  case dom=>
   intro x hx;obtain⟨i,hi⟩:=G7.mp hx;obtain⟨p,hp,mp,rfl⟩:=jH hi;exact⟨_,rfl,rfl⟩
  case celt=>
   intro C s' H' fp j x y hx hy;obtain⟨p,hp,mp,rfl,rfl⟩:=bW hx hy;have s1:=(hL.sz p mp).1;have s2:=(hL.sz p mp).2;exact (dj (bH (aa 2 rfl) (aa 5 rfl) (by walk_at"mul")) (bH (aa 3 rfl) (aa 6 rfl) (by walk_at"mul")))
  rw[show (l.map λp=>U.int (wth a b p))=(l.map (wth a b)).map U.int by rw[G3];rfl]
  refine ac (aG (Tw.t (iX (ao gZ (aw (yG rfl (C9 a b Vx)) rfl T.abz boot_max (ae (aa 4 rfl) ai ah)) af) (λhz=>(iF (ao gZ (xA (aa 4 rfl) af) af))))) (show (!decide (hiW a b l=1) || !decide ((((l.map (wth a b)).count 1:Nat):Int)=2))=false by rw[k1,k2];rfl) (au (au ?_)))
  exact⟨(),trivial,rfl,rfl,trivial⟩
 case hd=>
  intro _ ps _ Sv;refine dL ?_ Sv;refine ac (aQ ro ?_);exact vB rfl
def kB(C1 C2:GE):GE->List (Str×U)->List U->Out->Prop:=λd kvs us o=>∃x:List Nat,us=[sT x]/\((dg C1 C2 d kvs [sT x] (.exc C1)/\o=.val (.lst [.bl true,.bl false]))\/(dg C1 C2 d kvs [sT x] (.exc C2)/\o=.val (.lst [.bl false,.bl true])))
theorem fI(T:Txt w K mg):aL P w K mg base (CXF P w) 12 T.aak.a T.aak.d ["desk","row"] (spD K false T.aaH (kB T.aae.c T.aai.c)):=by
 refine fL T.aak.F bx (λd kvs us o h=>?_) (λRF A outer s H H1 E O a d kvs us o hr h=>?_)
 ·obtain⟨x,rfl,_⟩:=h;rfl
 obtain⟨x,rfl,⟨hs,rfl⟩ |⟨hs,rfl⟩⟩:=h
 ·
  refine Ws.nox ?_;refine ac (aO (i:=2) bx.nd rfl (Or.inl rfl) ux ?_);refine ac (zG rfl rfl rfl T.aaO.m T.aa_ T.aa7 bx.nd (i:=3) rfl rfl (Cy (C:=T.aae.c) ⟨T.aaZ,T.abn,λea=>?hh⟩ (λhx=>?bb)))
  case bb=>exact Cu (i:=0) rfl T.aan T.aaa.m ((cC T).mono (by decide)) hr T.aaa.b (ae (aa 1 rfl) ai ah) hs hx
  case hh=>
   refine ac (aO (i:=2) bx.nd rfl (Or.inl rfl) (EvN.ev (cf (ak (tR T.aa4 rfl T.aax JU (aa 3 rfl) rfl T.aae.m) (ak (tR T.aa8 rfl T.aax JU (aa 3 rfl) rfl T.aai.m) aZ bg) bg))) (au ?_));refine ac (aQ (aa 2 rfl) ?_);exact rfl
 ·refine Ws.nox ?_;refine ac (aO (i:=2) bx.nd rfl (Or.inl rfl) ux ?_);refine ac (zG rfl rfl rfl T.aaO.m T.aa_ T.aa7 bx.nd (i:=3) rfl rfl (Cy (C:=T.aai.c) ⟨T.aa0,T.abq,λea=>?hh⟩ (λhx=>?bb)))
  case bb=>exact Cu (i:=0) rfl T.aan T.aaa.m ((cC T).mono (by decide)) hr T.aaa.b (ae (aa 1 rfl) ai ah) hs hx
  case hh=>
   refine ac (aO (i:=2) bx.nd rfl (Or.inl rfl) (EvN.ev (cf (ak (tR T.aa9 rfl T.aax JU (aa 3 rfl) rfl T.aae.m) (ak (tR T.abb rfl T.aax JU (aa 3 rfl) rfl T.aai.m) aZ bg) bg))) (au ?_));refine ac (aQ (aa 2 rfl) ?_);exact rfl
theorem nm1(c:Nat)(h1:97<=c)(h2:c<=122):Nm [c]:=⟨GA 1,show 1<=8 by decide,λx hx=>by rw[G9.mp hx];exact⟨h1,h2⟩⟩
structure Fst(w:List Nat):Prop where
 fr:32 ∉ w
 ln:w.length<=123
 tb:(gm ft (T' w)).isSome=true
 nn:eqW (sT w) (.str "names")=false
 nd:eqW (sT w) (.str "drop")=false
theorem aaw:Fst cL:=⟨by decide,by decide,by decide+kernel,by decide+kernel,by decide+kernel⟩
theorem aaP:Fst cG:=⟨by decide,by decide,by decide+kernel,by decide+kernel,by decide+kernel⟩
theorem zM:Fst dl:=⟨by decide,by decide,by decide+kernel,by decide+kernel,by decide+kernel⟩
theorem abc:Fst pT:=⟨by decide,by decide,by decide+kernel,by decide+kernel,by decide+kernel⟩
theorem tI:Fst gv:=⟨by decide,by decide,by decide+kernel,by decide+kernel,by decide+kernel⟩
theorem aaT:Fst ir:=⟨by decide,by decide,by decide+kernel,by decide+kernel,by decide+kernel⟩
theorem j5{C:GE}{kvs:List (Str×U)}{w nm:List Nat}{u:U}(F:Fst w)(k:jw w [dZ])(n:Nm nm)(hv:L2.valU kvs (T' nm)=some u):Row C kvs w [nm] [dZ] [u]:=by
 refine⟨.inl ⟨w,[nm],[dZ],rfl,k,rfl,rfl⟩,λx hx=>?_,λx hx=>?_,by simp,rfl,rfl,λi k wd g h1 h2 h3=>?_,F.tb,F.nn,F.nd⟩
 ·simp only[Gx,HK,or_false]at hx;rcases hx with rfl |rfl
  ·exact F.fr
  ·exact n.free
 ·simp only[Gx,HK,or_false]at hx;rcases hx with rfl |rfl
  ·exact F.ln
  ·have:=n.h8;lia
 ·match i,h1,h2,h3 with
  |0,h1,h2,h3=>cases h1;cases h2;cases h3;exact .one _ _ hv
  |i+1,h1,h2,h3=>simp at h1
theorem iO{C:GE}{kvs:List (Str×U)}{w x1 x2:List Nat}{k1 k2:Str}{u1 u2:U}(F:Fst w)(k:jw w [k1,k2])(f1:32 ∉ x1)(f2:32 ∉ x2)(l1:x1.length<=123)(l2:x2.length<=123)(r1:Rd C kvs k1 (T' x1) (.val u1))(r2:Rd C kvs k2 (T' x2) (.val u2)):Row C kvs w [x1,x2] [k1,k2] [u1,u2]:=by
 refine⟨.inl ⟨w,[x1,x2],[k1,k2],rfl,k,rfl,rfl⟩,λx hx=>?_,λx hx=>?_,by simp,rfl,rfl,λi k wd g h1 h2 h3=>?_,F.tb,F.nn,F.nd⟩
 ·simp only[Gx,HK,or_false]at hx;rcases hx with rfl |rfl |rfl
  ·exact F.fr
  ·exact f1
  ·exact f2
 ·simp only[Gx,HK,or_false]at hx;rcases hx with rfl |rfl |rfl
  ·exact F.ln
  ·exact l1
  ·exact l2
 ·match i,h1,h2,h3 with
  |0,h1,h2,h3=>cases h1;cases h2;cases h3;exact r1
  |1,h1,h2,h3=>cases h1;cases h2;cases h3;exact r2
  |i+2,h1,h2,h3=>simp at h1
theorem io{C:GE}{kvs:List (Str×U)}{y nm:List Nat}{u:U}(hy:Nm y)(hn:Nm nm)(hv:L2.valU kvs (T' nm)=some u):Row C kvs cG [y,nm] [f7,dZ] [sT y,u]:=
 iO aaP w4 hy.free hn.free (by have:=hy.h8;lia) (by have:=hn.h8;lia) (.new _ hy) (.one _ _ hv)
theorem mG{C:GE}{kvs:List (Str×U)}{y:List Nat}{pts:List P2}(hy:Nm y)(RL:pts≠[])(hl:pts.length<=60)(hb:∀p∈pts,B60 p):Row C kvs cL (y::pts.map ptD) (f7::G6 pts.length kP) (sT y::pts.map pu):=by
 have Uq:0<pts.length:=Jx.mpr RL
 have UZ:∀x∈cL::y::pts.map ptD,x=cL\/x=y\/∃p∈pts,x=ptD p:=λx hx=>by
  simp only[Gx,GC]at hx;rcases hx with h |h |⟨p,hp,rfl⟩
  ·exact .inl h
  ·exact .inr (.inl h)
  ·exact .inr (.inr ⟨p,hp,rfl⟩)
 refine⟨.inr ⟨y::pts.map ptD,rfl,by simp;lia,by simp;lia,?_⟩,λx hx=>?_,λx hx=>?_,by simp;lia,by simp,by simp,λi k wd g h1 h2 h3=>?_,aaw.tb,aaw.nn,aaw.nd⟩
 ·rw[GW,List.map_replicate];simp
 ·rcases UZ x hx with rfl |rfl |⟨p,hp,rfl⟩
  ·exact aaw.fr
  ·exact hy.free
  ·exact l4 p
 ·rcases UZ x hx with rfl |rfl |⟨p,hp,rfl⟩
  ·exact aaw.ln
  ·have:=hy.h8;lia
  ·exact gB (hb p hp)
 ·cases i with
  |zero=>cases h1;cases h2;cases h3;exact .new _ hy
  |succ i=>
   rw[HH]at h1 h2 h3;rw[Gz]at h2 h3;obtain⟨p,hp,rfl⟩:=Kb.mp h2;rw[hp]at h3;cases h3;have mp:=GJ hp;have:k=kP:=(List.mem_replicate.mp (GJ h1)).2;rw[this];exact .pnt _ (hb p mp)
theorem yU{m:Nat}{p:P2}(hm:m<=160)(h:Szp m p):B60 p:=by
 have k:∀{n:Int},Sz m n->n.natAbs<10 ^ 60:=λ{n} h=>GV (show n.natAbs<2 ^ 160 from by have:=h.mono hm;unfold Sz at this;lia) (by decide+kernel)
 exact⟨k h.1,k h.2⟩
theorem o3(c:Nat)(pts:List P2)(h:pts≠[]):T' (cL++32::[c,32])++T' (jn (pts.map ptD))=T' (jn (cL::[c]::pts.map ptD)):=by
 rw[di _ (by simp),di _ (by simpa using h),lx]
 refine congrArg T' ?_;simp
theorem Ft:(Str.ofString "field a ":Str)=T' (cL++32::[97,32]):=by decide+kernel
theorem Fi:(Str.ofString "field d ":Str)=T' (cL++32::[100,32]):=by decide+kernel
theorem FK:(Str.ofString "facing b a":Str)=T' (jn [cG,[98],[97]]):=by decide+kernel
theorem EA:(Str.ofString "facing c b":Str)=T' (jn [cG,[99],[98]]):=by decide+kernel
theorem EO:(Str.ofString "facing e d":Str)=T' (jn [cG,[101],[100]]):=by decide+kernel
theorem Fw:(Str.ofString "show c":Str)=T' (jn [dl,[99]]):=by decide+kernel
theorem EY:(Str.ofString "show b":Str)=T' (jn [dl,[98]]):=by decide+kernel
theorem FD:(Str.ofString "show e":Str)=T' (jn [dl,[101]]):=by decide+kernel
theorem ER:(Str.ofString "rim a":Str)=T' (jn [pT,[97]]):=by decide+kernel
theorem EJ:(Str.ofString "rim b":Str)=T' (jn [pT,[98]]):=by decide+kernel
theorem E7:(Str.ofString "inner a 1":Str)=T' (jn [gv,[97],ds 1]):=by decide+kernel
theorem E6:(Str.ofString "inner b 1":Str)=T' (jn [gv,[98],ds 1]):=by decide+kernel
theorem E5:(Str.ofString "where a 0,0":Str)=T' (jn [ir,[97],ptD (0,0)]):=by decide+kernel
theorem Fn:(Str.ofString "where b 0,0":Str)=T' (jn [ir,[98],ptD (0,0)]):=by decide+kernel
def kv1(u:U):List (Str×U):=eX [] (T' [97]) u
def kv2(u v:U):List (Str×U):=eX (kv1 u) (T' [98]) v
def kv3(u v:U):List (Str×U):=eX (kv2 u v) (T' [99]) u
def kv4(u v x:U):List (Str×U):=eX (kv3 u v) (T' [100]) x
theorem m9:¬ (T' [97]:Str)=T' [98]:=by decide+kernel
theorem qO:¬ (T' [97]:Str)=T' [99]:=by decide+kernel
theorem o8:¬ (T' [98]:Str)=T' [99]:=by decide+kernel
theorem CW:¬ (T' [97]:Str)=T' [100]:=by decide+kernel
theorem Cq:¬ (T' [98]:Str)=T' [100]:=by decide+kernel
theorem CJ:¬ (T' [99]:Str)=T' [100]:=by decide+kernel
theorem E8:¬ (T' [97]:Str)=T' [101]:=by decide+kernel
theorem Fp:¬ (T' [98]:Str)=T' [101]:=by decide+kernel
theorem Ez:¬ (T' [99]:Str)=T' [101]:=by decide+kernel
theorem Fs:¬ (T' [100]:Str)=T' [101]:=by decide+kernel
theorem Gh:¬ (T' [98]:Str)=T' [97]:=by decide+kernel
theorem Gi:¬ (T' [99]:Str)=T' [97]:=by decide+kernel
theorem Gj:¬ (T' [99]:Str)=T' [98]:=by decide+kernel
theorem v1a(u:U):L2.valU (kv1 u) (T' [97])=some u:=by simp[kv1,eX,L2.valU]
theorem v2b(u v:U):L2.valU (kv2 u v) (T' [98])=some v:=by simp[kv2,kv1,eX,L2.valU,m9]
theorem v3a(u v:U):L2.valU (kv3 u v) (T' [97])=some u:=by simp[kv3,kv2,kv1,eX,L2.valU,m9,qO,o8]
theorem v3b(u v:U):L2.valU (kv3 u v) (T' [98])=some v:=by simp[kv3,kv2,kv1,eX,L2.valU,m9,qO,o8]
theorem v3c(u v:U):L2.valU (kv3 u v) (T' [99])=some u:=by simp[kv3,kv2,kv1,eX,L2.valU,m9,qO,o8]
theorem v4d(u v x:U):L2.valU (kv4 u v x) (T' [100])=some x:=by simp[kv4,kv3,kv2,kv1,eX,L2.valU,m9,qO,o8,CW,Cq,CJ]
theorem v4e(u v x:U):L2.valU (kv4 u v x) (T' [101])=none:=by simp[kv4,kv3,kv2,kv1,eX,L2.valU,m9,qO,o8,CW,Cq,CJ,E8,Fp,Ez,Fs]
theorem zl{l:List P2}(h:Hrt 100 l)(h12:l.length<=12):Fit l:=⟨h.three,by lia,λp hp=>⟨(h.sz p hp).1.mono (by decide),(h.sz p hp).2.mono (by decide)⟩,λp hp=>yU (by decide) (h.sz p hp)⟩
theorem Hrt.up{l:List P2}(h:Hrt 100 l):Hrt 1000 l:=⟨dh (by decide) h.sz,h.three,h.len,h.self,h.hrt⟩
theorem Hrt.hb{l:List P2}(h:Hrt 100 l):whr l (0,0)=1/\pin (am (l.map (scl 1)))=1:=by
 have e:=pI h.nd (by have:=h.three;lia)
 have one:am (l.map (scl 1))=l:=by rw[show scl 1=id from funext tW,PN];exact h.self
 rw[h.hrt,Hu]at e;rw[one];exact⟨of_decide_eq_true e.1,of_decide_eq_true e.2⟩
def asd(q:Int):P2:=if q%4=0 then (0,1) else if q%4=1 then (1,0) else if q%4=2 then (0,-1) else (-1,0)
theorem D3(q:Int):atI ([pu (0,1),pu (1,0),pu (0,-1),pu (-1,0)]:List U) (q%4)=some (pu (asd q)):=by
 have h:q%4=0\/q%4=1\/q%4=2\/q%4=3:=by lia
 unfold asd;rcases h with h |h |h |h <;>rw[h] <;>rfl
theorem D7(q:Int):¬ ((asd q).1=0/\(asd q).2=0):=by
 unfold asd;split
 ·decide
 ·split
  ·decide
  ·split <;>decide
theorem D5(q:Int):Szp 8 (asd q):=by
 unfold asd;split
 ·exact⟨by decide,by decide⟩
 ·split
  ·exact⟨by decide,by decide⟩
  ·split <;>exact⟨by decide,by decide⟩
theorem Et(T:Txt w K mg):aL P w K mg base (CXF P w) 13 T.abl.a T.abl.d ["script"] (spU K (i7)):=by
 refine a_ T.abl.F ii (λus o h=>?_) (λRF A outer s H E O us o hr h=>?_)
 ·obtain⟨ns,rfl,h63,hB,rfl⟩:=h;rfl
 obtain⟨ns,rfl,h63,hB,rfl⟩:=h;refine Ws.nox ?_;obtain⟨a,b,c,d,he,h4⟩:=Dp ns;have hf:=xh ns h4;have c0:=jq hB (k:=0) (by decide) (by decide)
 refine ac (aO (i:=1) ii.nd rfl (Or.inl rfl) (EvN.ev (bO ((mr T).mono (by decide)) hr rfl T.aaM.m T.aaM.F.kp T.aaM.b ar (ae (aa 0 rfl) ai ah) ⟨ns,a,b,c,d,rfl,h63,hB,he,h4,rfl⟩)) ?_)
 generalize wG ns a b c d=l at *;generalize hmm:am (fcs l)=m at *;obtain⟨hl,hm,fl,fm,mt,le,l12,rm⟩:=hf;have Tc:=zl hl l12;have Ut:=zl hm (by lia)
 have l3:=hl.three;have m3:=hm.three;have Vx:l≠[]:=λe=>by rw[e]at l3;simp at l3
 have mne:m≠[]:=λe=>by rw[e]at m3;simp at m3
 have ln60:l.length<=60:=by lia
 have mn60:m.length<=60:=by lia
 have jl:(jn (l.map ptD)).length<=8200:=mF (λw hw=>by obtain⟨p,hp,rfl⟩:=GC.mp hw;exact gB (Tc.b p hp)) (by simp;lia)
 have ok1:(!eqW (.str "ok") (.str "ok"))=false:=by decide+kernel
 have eqr:∀x:Str,eqW (.str x) (.str x)=true:=λx=>by rw[eqS];exact decide_eq_true rfl
 have na:=nm1 97 (by decide) (by decide)
 have nb:=nm1 98 (by decide) (by decide)
 have nc:=nm1 99 (by decide) (by decide)
 have ndd:=nm1 100 (by decide) (by decide)
 have nee:=nm1 101 (by decide) (by decide)
 refine ac (D_ (i:=2) T.aaW.m ((Bj T).mono (by decide)) hr rfl T.abC T.aaW.b ar ii.nd rfl (Or.inl rfl) (λda dd=>?_))
 show Ws _ _ _ _ _ _ [some (.val (.scr (ns.map U.int))),some (.val (lp l)),some (.dsk true T.aaH da dd []),none,none,none,none];refine ac (ym (TwK.t (Ct (iY ok1 (og (mf (ba hr) (by walk_at"ok") (by walk_at"ok")) (lK (i:=2) rfl T.aan T.aaa.m ((j4 T).mono (by decide)) hr T.aaa.b ar (ae (jh aA (aC ((eE T).mono (by decide)) hr rfl T.aah.m T.aah.F.kp T.aah.b ar (ae (aa 1 rfl) ai ah) ⟨l,rfl,Tc.b,by lia,rfl⟩) (by rw[br];exact HD (N7 jl _) (by decide+kernel))) ai bK) ⟨cL,[97],l.map ptD,_,_,l,by rw[Ft,o3 97 l Vx],mG na Vx ln60 Tc.b,by decide,.inl ⟨l,rfl,dh (by decide) hl.sz,hl.len,Vx,by rw[hl.self]⟩,Vx,ln60,Tc.b,rfl⟩) aA)) (An (iY ok1 (og (mf (ba hr) (by walk_at"ok") (by walk_at"ok")) (lK (i:=2) rfl T.aan T.aaa.m ((j4 T).mono (by decide)) hr T.aaa.b ar (ae aA ai ay) ⟨cG,[98],[[97]],_,_,m,by rw[FK],io nb na (v1a (lp l)),by simp[eX],.inr ⟨l,rfl,.inl ⟨hl.up,by rw[fl]⟩⟩,mne,mn60,Ut.b,rfl⟩) aA))))) ?_)
 refine au ?_;show Ws _ _ _ _ _ _ [some (.val (.scr (ns.map U.int))),some (.val (lp l)),some (.dsk true T.aaH da dd (kv2 (lp l) (lp m))),none,none,none,none]
 refine ac (ym (TwK.t (Ct (iY ok1 (og (mf (ba hr) (by walk_at"ok") (by walk_at"ok")) (lK (i:=2) rfl T.aan T.aaa.m ((j4 T).mono (by decide)) hr T.aaa.b ar (ae aA ai ay) ⟨cG,[99],[[98]],_,_,l,by rw[EA],io nc nb (v2b (lp l) (lp m)),by simp[kv2,kv1,eX],.inr ⟨m,rfl,.inl ⟨hm.up,by rw[fm]⟩⟩,Vx,ln60,Tc.b,rfl⟩) aA)) (An (Fl (by
  refine cast (congrArg (Tt _ _ _ _ _) (show (!eqW (sT (jn (l.map ptD))) (sT (jn (l.map ptD))))=false by rw[eqr];rfl)) ?_
  exact ao (mf (ba hr) (by walk_at"ok") (by walk_at"ok")) (iu (i:=2) (kvs:=kv3 (lp l) (lp m)) rfl T.aan T.aaa.m ((cC T).mono (by decide)) hr T.aaa.b ar (ae aA ai ay) ⟨dl,[[99]],by rw[Fw],.inl ⟨dZ,[],[lp l],j5 zM sL nc (v3c _ _),.inl ⟨_,by decide+kernel,.show_ l Tc,rfl⟩⟩⟩) (aC ((eE T).mono (by decide)) hr rfl T.aah.m T.aah.F.kp T.aah.b ar (ae (aa 1 rfl) ai ah) ⟨l,rfl,Tc.b,by lia,rfl⟩)))))) ?_)
 refine au ?_;show Ws _ _ _ _ _ _ [some (.val (.scr (ns.map U.int))),some (.val (lp l)),some (.dsk true T.aaH da dd (kv3 (lp l) (lp m))),none,none,none,none];have vA:=v3a (lp l) (lp m);have hvB:=v3b (lp l) (lp m);generalize hk3:kv3 (lp l) (lp m)=k3 at *;have k3l:k3.length<1000:=by rw[<-hk3];simp[kv3,kv2,kv1,eX]
 refine ac (aG (jy (gY (aC ((jZ T).mono (by decide)) hr rfl T.aav.m T.aav.F.kp T.aav.b ar (ae (aa 1 rfl) (ae (EvN.ev (lF ((ml T).mono (by decide)) hr rfl T.aaN.m T.aaN.F.kp T.aaN.b ar (gF (oH (i:=2) rfl T.aan T.aaa.m ((cC T).mono (by decide)) hr T.aaa.b ar (gF qR ai ay) ⟨dl,[[98]],by rw[EY],.inl ⟨dZ,[],[lp m],j5 zM sL nb hvB,.inl ⟨_,by decide+kernel,.show_ m Ut,rfl⟩⟩⟩) ai bg) ⟨m,rfl,mne,mn60,Ut.b,rfl⟩)) ai bg) ah) ⟨l,m,rfl,hl.up,hm.up,le,mt,rfl⟩))) rfl (au ?_))
 have r1:=w6 hl.nd l3;have r2:=w6 hm.nd m3;have z1:(b6 l).natAbs<10 ^ 300:=K5 (show _<=12 by lia) (by decide+kernel)
 have z2:(b6 m).natAbs<10 ^ 300:=K5 (show _<=12 by lia) (by decide+kernel)
 have lnum:∀{n:Int},n.natAbs<10 ^ 300->lI [sT (ds n)] (.new [.int n]):=λ{n} h=>⟨ds n,[n],rfl,by
  rw[kH (cZ n (c:=44) (by lia))]
  exact nV (ws:=[ds n]) (by simp) (λw hw=>by rw[G9.mp hw];exact cZ _ (by lia)),λx hx=>by rw[G9.mp hx];exact h,by have:=dC (k:=300) (by decide) h;lia,by simp,rfl⟩
 refine ac (aO (i:=3) (u:=.lst [.int (b6 l),.int (b6 m)]) ii.nd rfl (Or.inl rfl) (EvN.ev (mQ (xs:=[.int (b6 l)]) (ys:=[.int (b6 m)]) (EvN.ev (lF ((dD T).mono (by decide)) hr rfl T.aaf.m T.aaf.F.kp T.aaf.b ar (gF (oH (i:=2) rfl T.aan T.aaa.m ((cC T).mono (by decide)) hr T.aaa.b ar (gF qR ai ay) ⟨pT,[[97]],by rw[ER],.inl ⟨dZ,[],[lp l],j5 abc CP na vA,.inl ⟨_,by decide+kernel,.rim l Tc z1,rfl⟩⟩⟩) ai bg) (lnum z1))) (EvN.ev (lF ((dD T).mono (by decide)) hr rfl T.aaf.m T.aaf.F.kp T.aaf.b ar (gF (oH (i:=2) rfl T.aan T.aaa.m ((cC T).mono (by decide)) hr T.aaa.b ar (gF qR ai ay) ⟨pT,[[98]],by rw[EJ],.inl ⟨dZ,[],[lp m],j5 abc CP nb hvB,.inl ⟨_,by decide+kernel,.rim m Ut z2,rfl⟩⟩⟩) ai bg) (lnum z2))) (show 2<=sizeLine by decide+kernel))) ?_)
 show Ws _ _ _ _ _ _ [some (.val (.scr (ns.map U.int))),some (.val (lp l)),some (.dsk true T.aaH da dd k3),some (.val (.lst [.int (b6 l),.int (b6 m)])),none,none,none];have s1:Sz 64 (b6 l):=by unfold Sz;lia
 have s2:Sz 64 (b6 m):=by unfold Sz;lia
 generalize b6 l=x1 at *;generalize b6 m=x2 at *
 refine ac (aG (Tw.t (iX (ao (wb rfl rfl rfl) ux (aa 3 rfl)) (λhz=>(iX (ao gZ (aw (bF rfl) rfl T.aap GL (ae (aa 3 rfl) ai ah)) af) (λhz=>(iX (ao e7 (aM (aa 3 rfl) af rfl rfl) af) (λhz=>(iX (ao e7 (aM (aa 3 rfl) af rfl rfl) af) (λhz=>(iF (ao gZ (aw (sN rfl (ns:=[x1,x2])) rfl T.abB boot_sum (ae (aa 3 rfl) ai ah)) af))))))))))) (by
   rw[decide_eq_false (show ¬ x1<3 by lia),decide_eq_false (show ¬ x2<3 by lia)]
   have:([x1,x2]:List Int).sum=12:=by simp;lia
   simp[this];rfl) (au ?_))
 have sA:dg T.aae.c T.aai.c dd k3 [.str "inner a 1"] (.val (sT [49])):=⟨gv,[[97],ds 1],by rw[E7],.inl ⟨dZ,[kK],[lp l,.int 1],iO tI uT na.free (cZ 1 (by lia)) (by decide) (by decide+kernel) (.one _ _ vA) (.num 1 (by decide+kernel)),.inl ⟨_,by decide+kernel,.inner l Tc hl.hb.2,rfl⟩⟩⟩
 have sB:dg T.aae.c T.aai.c dd k3 [.str "inner b 1"] (.val (sT [49])):=⟨gv,[[98],ds 1],by rw[E6],.inl ⟨dZ,[kK],[lp m,.int 1],iO tI uT nb.free (cZ 1 (by lia)) (by decide) (by decide+kernel) (.one _ _ hvB) (.num 1 (by decide+kernel)),.inl ⟨_,by decide+kernel,.inner m Ut hm.hb.2,rfl⟩⟩⟩
 have b0:B60 (0,0):=⟨by decide+kernel,by decide+kernel⟩
 have wA:dg T.aae.c T.aai.c dd k3 [.str "where a 0,0"] (.val (sT [105,110])):=⟨ir,[[97],ptD (0,0)],by rw[E5],.inl ⟨dZ,[kP],[lp l,pu (0,0)],iO aaT uG na.free (l4 _) (by decide) (by decide+kernel) (.one _ _ vA) (.pnt (0,0) b0),.inl ⟨_,by decide+kernel,.where_ l Tc hl.hb.1,rfl⟩⟩⟩
 have wB:dg T.aae.c T.aai.c dd k3 [.str "where b 0,0"] (.val (sT [105,110])):=⟨ir,[[98],ptD (0,0)],by rw[Fn],.inl ⟨dZ,[kP],[lp m,pu (0,0)],iO aaT uG nb.free (l4 _) (by decide) (by decide+kernel) (.one _ _ hvB) (.pnt (0,0) b0),.inl ⟨_,by decide+kernel,.where_ m Ut hm.hb.1,rfl⟩⟩⟩
 refine ac (aG (ao (mf (ba hr) (by walk_at"ok") (by walk_at"ok")) (EvN.ev (cf (ak (iu (i:=2) rfl T.aan T.aaa.m ((cC T).mono (by decide)) hr T.aaa.b ar (ae aA ai ay) sA) (ak (iu (i:=2) rfl T.aan T.aaa.m ((cC T).mono (by decide)) hr T.aaa.b ar (ae aA ai ay) sB) aZ bg) bg))) (EvN.ev (cf (ak aA (ak aA aZ ay) ay)))) (by decide+kernel) (au ?_))
 refine ac (aG (ao (mf (ba hr) (by walk_at"ok") (by walk_at"ok")) (EvN.ev (cf (ak (iu (i:=2) rfl T.aan T.aaa.m ((cC T).mono (by decide)) hr T.aaa.b ar (ae aA ai ay) wA) (ak (iu (i:=2) rfl T.aan T.aaa.m ((cC T).mono (by decide)) hr T.aaa.b ar (ae aA ai ay) wB) aZ bg) bg))) (EvN.ev (cf (ak aA (ak aA aZ ay) ay)))) (by decide+kernel) (au ?_))
 refine ac (aO (i:=4) ii.nd rfl (Or.inr rfl) (aM (EvN.ev (cf (ak (bp (ak af (ak af aZ ay) ay)) (ak (bp (ak af (ak af aZ ay) ay)) (ak (bp (ak af (ak (cQ af) aZ gj) ay)) (ak (bp (ak (cQ af) (ak af aZ ay) gj)) aZ cO) cO) cO) cO))) (d9 (aC ((cp T).mono (by decide)) hr rfl T.aab.m T.aab.F.kp T.aab.b ar (ae (aa 0 rfl) (ae af ai ay) ah) ⟨ns,_,rfl,h63,by decide,by decide,rfl⟩) af (by walk_at"mod")) rfl (D3 _)) ?_)
 generalize cel ns 0=q at *;have az:=D5 q;have an:=D7 q;generalize asd q=v at *
 have vz:∀p∈l.map (sft v.1 v.2),Szp 101 p:=λp hp=>by
  obtain⟨r,hr',rfl⟩:=GC.mp hp;exact⟨((hl.sz r hr').1.add (az.1.mono (by decide))),((hl.sz r hr').2.add (az.2.mono (by decide)))⟩
 have vb:∀p∈l.map (sft v.1 v.2),B60 p:=λp hp=>yU (by decide) (vz p hp)
 have vc:am (l.map (sft v.1 v.2))=l.map (sft v.1 v.2):=by rw[yw,hl.self]
 have vno:=BX l3 hl.self hl.hrt an;have vl:(l.map (sft v.1 v.2)).length=l.length:=Gp _;have vne:l.map (sft v.1 v.2)≠[]:=by simpa using Vx
 have hys:(l.map λp=>pu (sft v.1 v.2 p))=(l.map (sft v.1 v.2)).map pu:=by rw[G3];rfl
 have jl2:(jn ((l.map (sft v.1 v.2)).map ptD)).length<=8200:=mF (λw hw=>by obtain⟨p,hp,rfl⟩:=GC.mp hw;exact gB (vb p hp)) (by simp;lia)
 refine ac (ym (iY ok1 (og (mf (ba hr) (by walk_at"ok") (by walk_at"ok")) (lK (i:=2) rfl T.aan T.aaa.m ((j4 T).mono (by decide)) hr T.aaa.b ar (ae (jh aA (aC ((eE T).mono (by decide)) hr rfl T.aah.m T.aah.F.kp T.aah.b ar (ae ?cB ai cV) ⟨l.map (sft v.1 v.2),rfl,vb,by lia,rfl⟩) (by rw[br];exact HD (N7 jl2 _) (by decide+kernel))) ai bK) ⟨cL,[100],(l.map (sft v.1 v.2)).map ptD,_,_,l.map (sft v.1 v.2),by rw[Fi,o3 100 _ vne],mG ndd vne (by lia) vb,k3l,.inl ⟨l.map (sft v.1 v.2),rfl,dh (by decide) vz,by lia,vne,by rw[vc]⟩,vne,by lia,vb,rfl⟩) aA)) ?_)
 case cB=>
  show Ev _ _ _ _ _ (.lst ((l.map (sft v.1 v.2)).map pu));rw[<-hys];refine EvN.ev ?_;refine (cU (ys:=(l.map λp=>pu (sft v.1 v.2 p))) rfl (blk (ag xE) ["script","land","desk","rims","aside_v","x","y"] [5,6] rfl rfl rfl rfl (by decide+kernel)) (b7 (aa 1 rfl) (.inl rfl)) (λ_ _ _ _=>dE rfl (aN (aJ (i:=5) ii.nd rfl (Or.inl rfl)) (aN (aJ (i:=6) ii.nd rfl (Or.inl rfl)) cn))) (cS (js:=[5,6]) (by decide)) ?clen ?csz ?dom ?celt)
  case clen=>simp
  case csz=>rw[Gp];exact GT (ax (by lia))
  case dom=>
   intro x hx;obtain⟨i,hi⟩:=G7.mp hx;obtain⟨p,hp,mp,rfl⟩:=jH hi;exact⟨_,rfl,rfl⟩
  case celt=>
   intro C s' H' fp j x y hx hy;obtain⟨p,hp,mp,rfl,rfl⟩:=bW hx hy;have p1:=(hl.sz p mp).1;have p2:=(hl.sz p mp).2;have v1:=az.1;have v2:=az.2;exact (bp (ak (dj (aa 5 rfl) (aM (aa 4 rfl) af rfl rfl)) (ak (dj (aa 6 rfl) (aM (aa 4 rfl) af rfl rfl)) aZ bK) bK))
 refine au ?_;have hk4:eX k3 (T' [100]) (lp (l.map (sft v.1 v.2)))=kv4 (lp l) (lp m) (lp (l.map (sft v.1 v.2))):=by rw[<-hk3];rfl
 rw[hk4];have rf:Rf (l.map (sft v.1 v.2)):=⟨dh (by decide) vz,vne,by lia,vno⟩
 have x1':kB T.aae.c T.aai.c dd (kv4 (lp l) (lp m) (lp (l.map (sft v.1 v.2)))) [.str "facing e d"] (.val (.lst [.bl true,.bl false])):=⟨jn [cG,[101],[100]],by rw[EO],.inl ⟨⟨cG,[[101],[100]],rfl,.inl ⟨f7,[dZ],[sT [101],lp (l.map (sft v.1 v.2))],io nee ndd (v4d _ _ _),.inr ⟨[101],[100],l.map (sft v.1 v.2),rfl,rfl,rfl,rfl,rf,rfl⟩⟩⟩,rfl⟩⟩
 have x2':kB T.aae.c T.aai.c dd (kv4 (lp l) (lp m) (lp (l.map (sft v.1 v.2)))) [.str "show e"] (.val (.lst [.bl false,.bl true])):=⟨jn [dl,[101]],by rw[FD],.inr ⟨⟨dl,[[101]],rfl,.inr ⟨[101],rfl,rfl,nee,v4e _ _ _,rfl⟩⟩,rfl⟩⟩
 refine ac (aG (ao (mf (ba hr) (by walk_at"ok") (by walk_at"ok")) (tT (i:=2) rfl ((fI T).mono (by decide)) hr rfl T.aak.m T.aak.F.kp T.aak.b ar (ae aA ai ay) x1') (EvN.ev (cf (ak ro (ak ro aZ ay) ay)))) (by decide+kernel) (au ?_))
 refine ac (aQ (jK (bJ (ba hr) (by walk_at"ok") (by walk_at"ok")) (tT (i:=2) rfl ((fI T).mono (by decide)) hr rfl T.aak.m T.aak.F.kp T.aak.b ar (ae aA ai ay) x2') (EvN.ev (cf (ak ro (ak ro aZ ay) ay)))) ?_)
 exact vB (by decide+kernel)
end
theorem ar1{fd:Hw}{ps:List Str}{us:List Gr}(h:us.length=1)(q:∀a0,Ml fd ⟨[a0],[]⟩=pure (ps.zip [a0])):Ml fd ⟨us,[]⟩=pure (ps.zip us):=match us,h with |[a0],_=>q a0
theorem ar2{fd:Hw}{ps:List Str}{us:List Gr}(h:us.length=2)(q:∀a0 a1,Ml fd ⟨[a0,a1],[]⟩=pure (ps.zip [a0,a1])):Ml fd ⟨us,[]⟩=pure (ps.zip us):=match us,h with |[a0,a1],_=>q a0 a1
theorem ar3{fd:Hw}{ps:List Str}{us:List Gr}(h:us.length=3)(q:∀a0 a1 a2,Ml fd ⟨[a0,a1,a2],[]⟩=pure (ps.zip [a0,a1,a2])):Ml fd ⟨us,[]⟩=pure (ps.zip us):=match us,h with |[a0,a1,a2],_=>q a0 a1 a2
theorem bd_inner_count{K:Gn}{D:GE}{x1 x2 x3 t:_}(q:K.lookup D=some ⟨.type "tuple",x1,.seq #[.int 1 t] x2,x3⟩)(kV dc pm:Gr)(an:Option GE)(cd ct:Gr):bq K (IV "inner_count" "inner_count" (bR bC) (bi bC) (ag bC) (.ref D) kV dc pm an cd ct) ["land","k"] []∧∃t,bq K (IV "inner_count" "inner_count" (bR bC) (bi bC) (ag bC) (.ref D) kV dc pm an cd ct) ["land","k"] [.int 1 t]:=
 ⟨λs us X hl=>match us,hl with |[_,_],_=>BindsTo.of_defaults rfl (X _ _ q) rfl rfl rfl,t,λs us X hl=>match us,(show us.length=1 by simpa using hl) with |[_],_=>BindsTo.of_defaults rfl (X _ _ q) rfl rfl rfl⟩
theorem tm_ROWS{w:G5}{K:Gn}{h:H_}{mg:Str→Option Gr}(X:K.In h)(G:h.Ns HB mg){a:GE}{n:Nat}{t0 u0 t1 u1 t2 u2 t3 u3 t4 u4 t5 u5 t6 u6 t7 u7 t8 u8 t9 u9 t10 u10 t11 u11 t12 u12 t13 u13 t14 u14 t15 u15 t16 u16 t17 u17 t18 u18:Tok}(ta:PySem.W.nsIn K HB "ROWS"=some (some (.ref a)))(dR:K.lookup a=some ⟨.type "dict",none,.dict #[⟨PyData.keyHash w.params "field",.str "field" t0,.str "NEW P" u0⟩,⟨PyData.keyHash w.params "move",.str "move" t1,.str "NEW ONE A B C D E F" u1⟩,⟨PyData.keyHash w.params "fold",.str "fold" t2,.str "NEW ONE K" u2⟩,⟨PyData.keyHash w.params "sum",.str "sum" t3,.str "NEW ONE OTHER" u3⟩,⟨PyData.keyHash w.params "form",.str "form" t4,.str "NEW ONE" u4⟩,⟨PyData.keyHash w.params "facing",.str "facing" t5,.str "NEW ONE" u5⟩,⟨PyData.keyHash w.params "drop",.str "drop" t6,.str "ONE" u6⟩,⟨PyData.keyHash w.params "names",.str "names" t7,.str "" u7⟩,⟨PyData.keyHash w.params "show",.str "show" t8,.str "ONE" u8⟩,⟨PyData.keyHash w.params "area",.str "area" t9,.str "ONE" u9⟩,⟨PyData.keyHash w.params "rim",.str "rim" t10,.str "ONE" u10⟩,⟨PyData.keyHash w.params "count",.str "count" t11,.str "ONE K" u11⟩,⟨PyData.keyHash w.params "inner",.str "inner" t12,.str "ONE K" u12⟩,⟨PyData.keyHash w.params "mixed",.str "mixed" t13,.str "ONE OTHER" u13⟩,⟨PyData.keyHash w.params "share",.str "share" t14,.str "ONE A B C" u14⟩,⟨PyData.keyHash w.params "where",.str "where" t15,.str "ONE P" u15⟩,⟨PyData.keyHash w.params "tell",.str "tell" t16,.str "ONE K P" u16⟩,⟨PyData.keyHash w.params "alike",.str "alike" t17,.str "ONE OTHER" u17⟩,⟨PyData.keyHash w.params "thin",.str "thin" t18,.str "ONE" u18⟩] n,#[]⟩)(tc:(a==JN)=false):∃a,mg "ROWS"=some (.ref a)∧vO w K a ft:=
 ⟨a,QK X G ta,tc,[("field",t0,"NEW P",u0),("move",t1,"NEW ONE A B C D E F",u1),("fold",t2,"NEW ONE K",u2),("sum",t3,"NEW ONE OTHER",u3),("form",t4,"NEW ONE",u4),("facing",t5,"NEW ONE",u5),("drop",t6,"ONE",u6),("names",t7,"",u7),("show",t8,"ONE",u8),("area",t9,"ONE",u9),("rim",t10,"ONE",u10),("count",t11,"ONE K",u11),("inner",t12,"ONE K",u12),("mixed",t13,"ONE OTHER",u13),("share",t14,"ONE A B C",u14),("where",t15,"ONE P",u15),("tell",t16,"ONE K P",u16),("alike",t17,"ONE OTHER",u17),("thin",t18,"ONE",u18)],n,rfl,by decide+kernel,dR⟩
abbrev spLaw(K:Gn):Sp:=spU K i7
theorem law_start(K:Gn)(H:Hp)(a:GE)(ns:List Int)(h1:ns.length<=63)(h2:∀m∈ns,Sz 1048576 m)(_:A8 H)(h3:SqL K H a (ns.map V.int)):spLaw K [.ref a] H (λv _=>v=.bl true) λ_ _ _=>False:=vZ h1 h2 h3
theorem law_ok{P:GF}{w:G5}{K:Gn}{mg:Str→Option Gr}{fa:GE}(hfa:mg "law"=some (.ref fa))(T:Txt w K mg):
  ∃fd:Hw,(∀(s:Gs) (u:Gr),Pj s fd ⟨[u],[]⟩ [("script",u)])∧∀base:H_,K.In base→base.Ns HB mg→aL P w K mg base CX0 13 fa fd ["script"] (spLaw K):=by
 cases hfa.symm.trans T.abl.m;obtain⟨_,_,_,_,_,_,_,_,_,hd,_⟩:=T.abl.F.ex;exact⟨T.abl.d,λs v=>by rw[hd];exact .of_eq rfl,λbase _ _=>(Et T).calm xM⟩
end My
namespace PySem.W.Fast
theorem tw10659803774980742972:True:=trivial
theorem tw5606553443427177572:True:=trivial
theorem tw17601965551810495876:True:=trivial
theorem tw15433027223938887696:True:=trivial
theorem tw306501490665007006:True:=trivial
theorem tw749779141145805466:True:=trivial
theorem tw2678648277004198219:True:=trivial
theorem tw6703661134117587394:True:=trivial
theorem tw17399161644640168407:True:=trivial
theorem tw18032506738907537481:True:=trivial
theorem tw6899581567613471115:True:=trivial
theorem tw7204819459214402464:True:=trivial
theorem tw2808015208288081100:True:=trivial
theorem tw413230070564586445:True:=trivial
theorem tw14436605303543078364:True:=trivial
theorem tw2921612091585954431:True:=trivial
theorem tw12826409661666313031:True:=trivial
theorem tw3405166754707628782:True:=trivial
theorem tw9711852075199145794:True:=trivial
theorem tw7239884136235953660:True:=trivial
theorem tw5012548787553587047:True:=trivial
theorem tw6983149537840755070:True:=trivial
theorem tw2327062260720772301:True:=trivial
theorem tw572302996457983717:True:=trivial
theorem tw8902425211920519252:True:=trivial
theorem tw14244277000181561772:True:=trivial
theorem tw4767984164771337615:True:=trivial
theorem tw3613880195086563134:True:=trivial
theorem tw1575441729108401168:True:=trivial
theorem tw1736808464675856868:True:=trivial
theorem tw13605582313247595159:True:=trivial
theorem tw8678926193590377606:True:=trivial
theorem tw8598202355237849614:True:=trivial
theorem tw7915743875296127627:True:=trivial
theorem tw6846323740465412053:True:=trivial
theorem tw7162356300562595942:True:=trivial
theorem tw10830816370291774618:True:=trivial
theorem tw14014641484631567188:True:=trivial
theorem tw15305638955068948968:True:=trivial
theorem tw5712473415185928507:True:=trivial
theorem tw15494270937664134730:True:=trivial
theorem tw1134160611521184530:True:=trivial
theorem tw15747699893215417998:True:=trivial
theorem tw9221885792340259396:True:=trivial
theorem tw937824579152942728:True:=trivial
theorem tw17973648410686271203:True:=trivial
theorem tw13974798837730887422:True:=trivial
theorem tw13232449665560374897:True:=trivial
theorem tw16576042169629955900:True:=trivial
theorem tw956835471401333246:True:=trivial
theorem tw18259150340746883466:True:=trivial
theorem tw7405251725340675111:True:=trivial
theorem tw14309184579423182245:True:=trivial
theorem tw410629155203024302:True:=trivial
theorem tw15664734951333803518:True:=trivial
theorem tw10722451386532593950:True:=trivial
theorem tw14695947945788442233:True:=trivial
theorem tw14862911109419390367:True:=trivial
theorem tw13597545752143367596:True:=trivial
theorem tw2419450295741350974:True:=trivial
theorem tw13964384045037774383:True:=trivial
theorem tw12327649031810098413:True:=trivial
theorem tw1231999890007698390:True:=trivial
theorem tw16109137199111568493:True:=trivial
theorem tw2607131510433671944:True:=trivial
theorem tw11101030682467511116:True:=trivial
theorem tw9721218714308716234:True:=trivial
theorem tw17847585171665160169:True:=trivial
theorem tw11802792127098292227:True:=trivial
theorem tw39149507190066640:True:=trivial
theorem tw13006785082434078969:True:=trivial
theorem tw13666681555338081734:True:=trivial
theorem tw14142574171944820509:True:=trivial
theorem tw2838901326898930171:True:=trivial
theorem tw8419647479593509520:True:=trivial
theorem tw11904064128019343171:True:=trivial
theorem tw7217175844577560677:True:=trivial
theorem tw8759223169815346319:True:=trivial
theorem tw16544082507070495454:True:=trivial
theorem tw4481695368256708711:True:=trivial
theorem tw2696504306806248369:True:=trivial
theorem tw12985257843460144:True:=trivial
theorem tw3791809002417816755:True:=trivial
theorem tw16530285785325257110:True:=trivial
theorem tw6029856021479834015:True:=trivial
theorem tw1525967569614669144:True:=trivial
theorem tw7569353911843677484:True:=trivial
theorem tw3346347939999807044:True:=trivial
theorem tw2964616618262897828:True:=trivial
theorem tw11103616080497172332:True:=trivial
theorem tw16149222795728573201:True:=trivial
theorem tw16975994578478898633:True:=trivial
theorem tw15358997822138874463:True:=trivial
theorem tw921982056955026592:True:=trivial
theorem tw13935243820630292117:True:=trivial
theorem tw4118204104701657655:True:=trivial
theorem tw3706223510692895680:True:=trivial
theorem tw4943826376321792033:True:=trivial
theorem tw11487430283308597524:True:=trivial
theorem tw11486398278667420936:True:=trivial
theorem tw5042558819372262831:True:=trivial
theorem tw4512493900053574977:True:=trivial
theorem tw714374578449731890:True:=trivial
theorem tw18011992138825908708:True:=trivial
theorem tw8485218041212301317:True:=trivial
theorem tw8706374907442385017:True:=trivial
theorem tw734393155171640486:True:=trivial
theorem tw12474415827245489834:True:=trivial
theorem tw7539232066395361893:True:=trivial
theorem tw9643932271352704364:True:=trivial
theorem tw14696562181820951256:True:=trivial
theorem tw11357181268924960549:True:=trivial
theorem tw12882942050538313746:True:=trivial
theorem tw6454196061513851353:True:=trivial
theorem tw15276730844372718674:True:=trivial
theorem tw15463176906572001675:True:=trivial
theorem tw10985368410581606538:True:=trivial
theorem tw5056014508999427574:True:=trivial
theorem tw9273433843868615523:True:=trivial
theorem tw11798251858102370261:True:=trivial
theorem tw10601626539432670289:True:=trivial
theorem tw5291818453955141367:True:=trivial
theorem tw5758667604682135547:True:=trivial
theorem tw16868621650251507140:True:=trivial
theorem tw10225632738458322509:True:=trivial
theorem tw2513209206714533878:True:=trivial
theorem tw16288498910904675364:True:=trivial
theorem tw12900756188269312078:True:=trivial
theorem tw10303276341748681843:True:=trivial
theorem tw6214614384317141761:True:=trivial
theorem tw14518378347753221858:True:=trivial
theorem tw9154353705453333073:True:=trivial
theorem tw12479071472591620254:True:=trivial
theorem tw3046667625487388534:True:=trivial
theorem tw8193685857365784146:True:=trivial
theorem tw11515525850193244621:True:=trivial
theorem tw7904437808910860921:True:=trivial
theorem tw7238028678975336776:True:=trivial
theorem tw12890777386976083369:True:=trivial
theorem tw4879520136013900851:True:=trivial
theorem tw14359577407946485182:True:=trivial
theorem tw6288707675644491139:True:=trivial
theorem tw13037628608248384298:True:=trivial
theorem tw4874738184907433130:True:=trivial
theorem tw14775277093749000425:True:=trivial
theorem tw12908621833586256426:True:=trivial
end PySem.W.Fast
open PySem PySem.W PyProof.Rows L2
set_option maxRecDepth 100000 in
set_option maxHeartbeats 0 in
set_option maxHeartbeats 0 in
theorem PySem.Challenge.cw_stakefield_k85_whole_twelve_by_text_holds : PySem.Challenge.rw_stakefield_k85_whole_twelve_by_text.Holds := by
 w_on;o_law;k_head;(case hw=>w_witness2)
 k_fill
 refine L2.walk_ofB (l:=PySem.Challenge.rw_stakefield_k85_whole_twelve_by_text) (n:=63) (k:=13) (x:="script") (CX:=CX0) (sp:=My.spLaw) rfl (by decide) rfl ⟨rfl,by decide,by decide⟩ (λw h Y=>by first |exact Qa Y |exact PySem.W.km_in_of Y) ?F My.law_start (λ_ _ _ _ z=>z)
 case F=>
  intro w mg fa h KX G hmg
  refine' My.law_ok hmg ⟨_,L2.c_m KX G ?_,⟨?_,?_,?_,?_⟩,(id (α:=IQ _ _ _=_) ?_),My.tm_ROWS KX G ?_ ?_ ?_,L2.dfn KX G (by walk_at"b1") ?_ ?_ ?_ ?_,L2.dfn KX G (by walk_at"b2") ?_ ?_ ?_ ?_,L2.dfn KX G (by walk_at"b2") ?_ ?_ ?_ ?_,L2.dfn KX G (by walk_at"b3") ?_ ?_ ?_ ?_,L2.dfn KX G (by walk_at"b1") ?_ ?_ ?_ ?_,L2.dfn KX G (by walk_at"b1") ?_ ?_ ?_ ?_,L2.dfn KX G (by walk_at"b1") ?_ ?_ ?_ ?_,L2.dfn KX G (by walk_at"b3") ?_ ?_ ?_ ?_,L2.dfn KX G (by walk_at"b2") ?_ ?_ ?_ ?_,L2.dfn KX G (by walk_at"b1") ?_ ?_ ?_ ?_,L2.dfn KX G (by walk_at"b1") ?_ ?_ ?_ ?_,L2.dfn KX G (by walk_at"b2") ?_ ?_ ?_ ?_,L2.dfn KX G (by walk_at"b2") ?_ ?_ ?_ ?_,L2.dfn KX G (by walk_at"b1") ?_ ?_ ?_ ?_,L2.dfD KX G My.bd_inner_count ?_ ?_ ?_ ?_ ?_,L2.dfn KX G (by walk_at"b1") ?_ ?_ ?_ ?_,L2.dfn KX G (by walk_at"b2") ?_ ?_ ?_ ?_,L2.dfn KX G (by walk_at"b1") ?_ ?_ ?_ ?_,L2.dfn KX G (by walk_at"b1") ?_ ?_ ?_ ?_,L2.dfn KX G (by walk_at"b1") ?_ ?_ ?_ ?_,L2.dfn KX G (by walk_at"b1") ?_ ?_ ?_ ?_,L2.dfn KX G (by walk_at"b1") ?_ ?_ ?_ ?_,L2.dfn KX G (by walk_at"b1") ?_ ?_ ?_ ?_,L2.dfn KX G (by walk_at"b1") ?_ ?_ ?_ ?_,L2.dfn KX G (by walk_at"b1") ?_ ?_ ?_ ?_,L2.dfn KX G (by walk_at"b1") ?_ ?_ ?_ ?_,L2.dfn KX G (by walk_at"b1") ?_ ?_ ?_ ?_,L2.dfn KX G (by walk_at"b1") ?_ ?_ ?_ ?_,L2.dfn KX G (by walk_at"b1") ?_ ?_ ?_ ?_,L2.dfn KX G (by walk_at"b2") ?_ ?_ ?_ ?_,L2.dfn KX G (by walk_at"b2") ?_ ?_ ?_ ?_,L2.dfn KX G (by walk_at"b2") ?_ ?_ ?_ ?_,L2.dfn KX G (by walk_at"b2") ?_ ?_ ?_ ?_,L2.dfn KX G (by walk_at"b2") ?_ ?_ ?_ ?_,L2.dfn KX G (by walk_at"b3") ?_ ?_ ?_ ?_,L2.dfn KX G (by walk_at"b1") ?_ ?_ ?_ ?_,L2.dfn KX G (by walk_at"b1") ?_ ?_ ?_ ?_,L2.dfn KX G (by walk_at"b1") ?_ ?_ ?_ ?_,L2.dfn KX G (by walk_at"b1") ?_ ?_ ?_ ?_,L2.dfn KX G (by walk_at"b1") ?_ ?_ ?_ ?_,L2.dfn KX G (by walk_at"b1") ?_ ?_ ?_ ?_,L2.dfn KX G (by walk_at"b1") ?_ ?_ ?_ ?_,L2.dfn KX G (by walk_at"b1") ?_ ?_ ?_ ?_,L2.dfn KX G (by walk_at"b1") ?_ ?_ ?_ ?_,L2.dfn KX G (by walk_at"b1") ?_ ?_ ?_ ?_,L2.dfn KX G (by walk_at"b2") ?_ ?_ ?_ ?_,L2.dfn KX G (by walk_at"b2") ?_ ?_ ?_ ?_,L2.dfn KX G (by walk_at"b1") ?_ ?_ ?_ ?_,L2.idf (by walk_at"b1") ?_ ?_ ?_ ?_ ?_ ?_ ?_,L2.mdf (by walk_at"b3") ?_ ?_ ?_ ?_ ?_,L2.mdf (by walk_at"b3") ?_ ?_ ?_ ?_ ?_,L2.mdf (by walk_at"b2") ?_ ?_ ?_ ?_ ?_,L2.exn KX G ?_,?_,L2.exn KX G ?_,?_,L2.exn KX G ?_,Hk KX G ?_,Hk KX G ?_,Hk KX G ?_,Hk KX G ?_,Hk KX G ?_,Hk KX G ?_,Hk KX G ?_,Hk KX G ?_,Hk KX G ?_,Hk KX G ?_,Hk KX G ?_,Hk KX G ?_,Hk KX G ?_,Hk KX G ?_,Hk KX G ?_,?_,?_,?_,?_,?_,?_,?_,?_,?_,?_,L2.g_s KX G ?_,L2.g_i KX G ?_,L2.g_i KX G ?_,L2.g_i KX G ?_,L2.g_i KX G ?_⟩
  all_goals try first |k_is | (dsimp only[L2.exn];first |k_is |k_exc |kit_is |exact⟨by k_is,by k_is,by k_is,by k_is,by k_is,by k_is,by k_is⟩) |rfl
