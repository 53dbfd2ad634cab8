import PyProof.Rows.All
import Wide.All
import OpenK.AllK
import Wide.FinOn
import Lean
import PyProof.EqAt
import PyProof.EqKinds
import PyProof.NeKinds
import PyProof.TupleCall
import KE.KDictSum
import KE.KSortTup
import KE.KRevIter
import KE.KRevSl
import PySem.Challenge.RW_stakefield_k24_stakes_near
open PySem renaming wpAny_bind → B0, wpAny_pure → B6, Shared → B7, starEach → Ce, mainGlobals → Ck, Program → Cy, FuncData → CN, Around → Dc, boot_len → Do, bindArgs → DF, wpAny_holding → DJ, wpAny_Call_Name_kw → DM, wpAny_call_entry → DT, wpAny_updateSeq → DU, foldedSetIterable → DW, plainId_quiet → D6, codeAny_builtin → D_, argBest → Eb, wpAny_seqItems → Ec, compareOp → El, mem_of_lookup → Et, sizeLine_eq → EB, bootBuiltins → EJ, wpAny_pyIter_list → EM, wpAny_setState_of → EO, intKind_is → ER, builtinLookup_eq_fast → ES, wpAny_callSpecial?_slot → E2, wpAny_mono → E4, wpAny_truthy_bool → E5, wpAny_newObj_type → E6, wpAny_isInstance → Ff, wpAny_tryCatch → Fn, backTo → Fp, swapsWith → Fv, wpAny_passesOwn → Fw, wpAny_ite_split → Fx, wpAny_letGo → FE, wpAny_specialOf → FU, typeLookup_type → FV, codeAny → Gg, pyNext → Gk, updateSeq → Gn, wpAny_askSetting → Gr, wpAny_field → Gs, codeAny_mono → Gv, GenState → GD, wpAny_execs_nil → GE, behindInMarks → GG, wpAny_attempt → GP, wpAny_tupleItemsOf → GS, wpAny_nextOf_list_item → G0, sliceBounds → G8, ofAClassStatement → G_, binaryOp → Hd, isSubtype_type → Hg, ZipApart → Hh, NameKind → HB, attributeBase → HC, assignEach → HG, wpAny_rule → HH, wpAny_setEntries_of → HI, IsPair → HJ, wpAny_richCompare_same_room → HK, rawInt → HY, wpAny_getItem_list_slice → Ij, wpAny_comprehension_free → Il, seqItems? → Im, wpAny_pyIter_slot → Ip, intKind → Iy, setSearchFrom → IB, richCompare → IE, Builtin → IG, wpAny_forIn_list → IL, codeAny_compStart_list → IV, PassesOwn → Ja, letOwnedTupleGo → Jb, wpAny_typeOf → Jg, wpAny_eqIsQuiet_tuple → Jh, wpAny_nextOf_list_end → Jm, isSubtype_tuple_tuple → Jp, typeIs_int → Jv, compEnvC → Jw, wpAny_newFunctionEnv → Jy, codeAny_extend_loopS → JB, wpAny_setField → JJ, isSubtype_stop → JK, BindsTo → JL, Keyword → JM, hashByValue → JN, wpAny_of_eq → JO, wpAny_pyIter_range → JR, evalPart_none → JU, wpAny_standAt → JX, pickOrder → J3, call_function_tree → J5, wpAny_newList → J9, wpAny_assign_Name → Ke, wpAny_Assign_Name → Kf, typeLookup → Kj, callerA → Kk, searchCouldBeSeen → Km, wpAny_storeSet_of → Kn, richCompare_gives → Kt, wpAny_execs_cons → KF, pyIter → KY, IsRangeIter → KZ, Result → K0, cellsFrom → K2, keywordEach → K4, theTreesLotGoes → K7, putSet_of → La, codeAny_of_tree → Lb, recursionLimit → Lx, entryFor_alias → LC, wpAny_fieldsOf → LD, firstArgMember → LF, callType_codes → LG, wpAny_newTuple → LH, builtinsNs → LP, wpAny_Name → LQ, wpAny_call → L6, call_meets → L8, closureFor → L9, setsByText → L_, Operator → Ma, compPost → Me, Within → Ml, Fin → Ms, revObj → MK, call → ML
open List renaming getElem?_eq_getElem → B1, length_map → B3, mem_cons_of_mem → B4, mem_map → B8, getElem?_map → Cb, mem_cons → Cd, getElem?_eq_some_iff → Cg, mem_cons_self → Ci, size_toArray → Cp, mem_reverse → Cq, mem_range → Cr, mem_singleton → Ct, mem_of_getElem? → Cu, pairwise_iff_getElem → Cw, mem_append_right → Cz, append_assoc → CA, getD_eq_getElem?_getD → CC, getElem?_append_left → CF, getElem?_append_right → CG, pairwise_cons → CH, getElem?_set_ne → CQ, mem_filter → CS, mem_map_of_mem → CV, length_append → CW, map_cons → CY, take_append_drop → CZ, getElem?_eq_none → C0, zip → C_, getLast?_cons_cons → Dd, pairwise_map → Df, map_append → Di, map_map → Dj, length_reverse → Dl, getElem_mem → Dm, drop_eq_getElem_cons → Dp, mem_append → Dq, range → Ds, length_cons → Dt, pairwise_append → Dv, mem_append_left → DC, append_nil → DG, mem_iff_getElem? → DI, getElem_of_mem → DP, filter_cons_of_neg → DQ, filter_cons_of_pos → DR, length_pos_of_mem → D4, getElem?_reverse → Ea, length_eq_zero_iff → Ed, getLast?_eq_getElem? → Eo, filterMap_cons → Es, getElem?_take_of_lt → Eu, foldl_cons → ED, zip_cons_cons → EF, mem_of_mem_drop → EI, map_reverse → EK, perm_ext_iff_of_nodup → EL, length_pos_iff → EN, pairwise_reverse → ET, take_length → EX, getElem?_zipWith_eq_some → EY, length_dropLast → EZ, getElem?_replicate → E1, nodup_append → E7, ext_getElem? → E9, nodup_cons → E_, reverse_append → Fb, take_of_length_le → Fc, nodup_range → Fe, length_replicate → Fg, getElem?_drop → Fi, tail_cons → Fo, take_succ_eq_append_getElem → Fq, mem_of_getLast? → Fu, drop_sublist → Fy, getElem_append_left → Fz, getElem?_range → FC, length_drop → FH, mem_flatten → FK, take_succ → FL, getElem?_dropLast → FN, head?_eq_getElem? → FO, forIn_cons → FR, getElem?_toArray → FT, perm_append_comm → FW, length_filter_le → FY, getElem_drop → Gb, getElem?_inj → Gc, mem_of_mem_take → Gi, getElem_append_right → Gp, mem_take_iff_getElem → Gq, mem_filterMap → GF, of_mem_zip → GH, all_cons → GI, length_set → GJ, length_nil → GL, getElem?_cons_succ → GN, range_succ → GW, filter_append → GX, pairwise_lt_range → GZ, getElem_take → Hb, getLast?_map → Hc, forIn_nil → Hi, getLast?_reverse → Ho, pairwise_flatten → Hr, length_take → Hs, lookup_cons → Hu, all_eq_true → Hv, reverse_reverse → HA, take_succ_cons → HL, flatten_append → HS, nodup_iff_pairwise_ne → HV, head?_map → Ig, getElem?_set → Ik, length_range → Io, reverse_perm → Ir, map_dropLast → Iw, getElem_inj → IK, cons_append → IR, getElem?_set_self → IS, length_eq_one_iff → IZ, drop_eq_nil_of_le → I0, length_singleton → Jc, filterMap_append → Jd, zipWith → Jo, set_append_right → Jt, getElem_reverse → JC, mem_iff_getElem → JD, dropLast_subset → JE, take_zero → JH, map_take → J0, map_drop → J2, head?_reverse → Kb, sum_cons → Kd, take_sublist → Ki, reverse_cons → Kr, zip_nil_left → Ku, flatten_cons → Kw, filter_congr → Kx, filter_cons → KJ, perm_middle → KL, drop_length → KP, Perm → Lc, head?_cons → Lk, replicate → Ly, nodup_nil → LI, drop_drop → LJ, any_cons → Mb, map_nil → Mo, all_map → Mq, length → MA, map_id → MF
open PySem.W renaming Frag → B2, keepIn → Cj, nsIn → Co, codeIn → Cv, fnOf → CB, mg_of → CD, mg_none_of → De, kia_one → DS, excIn → Fh, kitOne → Fm, cellsFrom_some → GY, findIn → He, methodObj → Ih, kitx_list → Ii, instObj → I_, lookIn → JG, kitx_tuple → JS, callWith_K → JT, specialIn → Kg, kitx_dict → Kh, plainGet → KG, OpenLaw → K6, kIn_of → Lz, WalkO → Md, isFn → Mn
open PySem.Heap renaming get?_push_of_some → B5, lt_size → Cf, get?_push_size → Cm, get?_update_other → CJ, get?_update_self → Da, size_push → Em, SameBut → Gu, get?_none_of_le → Hy
open Nat renaming le_refl → B9, lt_or_eq_of_le → CI, mod_eq_of_lt → CK, ne_of_lt → CP, lt_of_lt_of_le → CT, lt_irrefl → CU, zero_le → DB, le_of_lt → DE, le_trans → DZ, lt_or_ge → D3, le_of_lt_succ → Ee, lt_succ_self → Ep, lt_succ_of_lt → Ew, mod_lt → EW, pow_succ → E3, zero_add → FB, add_zero → FS, lt_trichotomy → F_, add_mod_right → Gd, pow_le_pow_right → Gh, eq_zero_or_pos → GO, ne_of_gt → Hj, mod_self → Hq, le_of_not_lt → Ht, lt_of_le_of_lt → HZ, mod_eq_sub_mod → H_, div_div_eq_div_mul → IW, lt_trans → Je, mod_add_mod → Jf, sub_zero → Js, mul_le_mul_right → JA, mod_mod_of_dvd → JZ, add_sub_cancel → Ka, lt_of_succ_lt → Ks, le_succ_of_le → Kv, sub_self → Kz, le_max_right → KI, succ_ne_self → KN, not_lt_of_gt → KO, succ_le_succ → KU, le_max_left → K5, not_lt_zero → K9, strongRecOn → K_, min_eq_left → Ll, mul_le_mul → LO, add_assoc → Mf, le_of_eq → Mp, min_self → Mr, zero_mod → Mw, add_mod → MD, one_pos → ME
open PyProof.Rows renaming wpS_pure → B_, wpS_bind → Ca, boot_isinstance → CL, SortSt → En, wpS_forRange → Ez, wpS_mono → EG, pendingOf → EH, wpS_modify → FM, envOfC → Gw, boot_tuple → GC, boot_bool → Hm, wpS_get → Hw, SortKind → HE, failedOf → HF, boot_int → Ia, AllBare → Iz, subscriptTail_builtinR → IT, subscriptTail → JW, boot_list → J4, gallopOf → J6, seqObj → J7, listUpdate_at → J8, boot_max → KW, seqEpoch_at → Lg, entry_list_sort → Lh, slot_list_sort → LK, args_list_sort → LL, sortedHeap_old → LM, boot_range → LR, Subscript_ → L7, IntsAre → Mc, boot_min → Mj
open Array renaming length_toList → Cc, getElem?_eq_getElem → C7, toList_append → C9, getElem?_toList → Dy, getD_eq_getD_getElem? → D9, toList_push → Ex, getElem?_eq_some_iff → Fd, toList_reverse → Fs, forIn_toList → FQ, getD → Ga, getElem?_replicate → Gz, mem_toList_iff → Hz, toList_setIfInBounds → HW, toList_inj → IM, toList_map → IP, append_assoc → JQ, toList_zip → KQ, size_map → LB, toList → Mm
open Bool renaming false_eq_true → Cn, false_ne_true → CM, and_eq_true → DL, not_true → D5, eq_iff_iff → Ek, not_false → Gm, and_true → GK, beq_eq_decide_eq → Hk, true_and → HD, and_false → Ic, and_eq_true_iff → Jz, not_eq_true' → Kl, or_eq_true → K8, or_false → Mg
open Int renaming mul_nonneg → Cs, dvd_trans → C6, dvd_mul_left → Dg, emod_add_mul_ediv → Dr, mul_eq_zero → Dw, eq_of_mul_eq_mul_left → Dz, emod_lt_of_pos → DH, mul_pos → DK, mul_zero → DN, lt_or_le → DO, lt_or_eq_of_le → D7, pos_of_mul_pos_right → D8, dvd_mul_right → Ef, ediv_eq_zero_of_lt → Ej, mul_ediv_cancel_left → EA, emod_nonneg → EC, mul_comm → EU, nonneg_of_mul_nonneg_right → EV, toNat_natCast → E8, add_zero → Fl, mul_ediv_cancel' → Ft, gcd_dvd_right → FA, dvd_add → FF, gcd → FG, gcd_dvd_left → FJ, add_mul_ediv_left → FX, natAbs_of_nonneg → Gj, zero_mul → GA, dvd_refl → GB, dvd_coe_gcd → GU, dvd_of_emod_eq_zero → GV, le_ediv_iff_mul_le → G6, natAbs_mul → Hf, natAbs_dvd_natAbs → Hl, le_of_lt → Hn, mul_le_mul_of_nonneg_left → Hx, dvd_neg → HM, dvd_sub → HN, toNat_of_nonneg → HP, gcd_eq_zero_iff → HQ, one_mul → HR, add_mul_emod_self_left → HX, le_total → Ib, emod_eq_of_lt → Iu, mul_one → IA, le_refl → II, dvd_antisymm → IQ, add_mul_ediv_right → IY, le_trans → Ju, mul_assoc → J_, zero_dvd → KA, sub_self → KB, zero_add → KC, sub_zero → KD, ediv_le_self → KS, ediv_nonneg → Li, mul_add → Lj, add_nonneg → LN, ofNat_dvd → Mi, dvd_zero → Mt, add_comm → Mu, mul_neg → MG
open PySem.Value renaming none → CO, ref → C8, int → Dh, bool → Dk, str → DA, type → DV, isInt_shape → G7, float → Mz
open Option.some renaming inj → Du
open PySem.Obj renaming mapSeq → Dx, data_mapFields → Fk, putSet → Ha, isFreed_of_fields → Jk, cls_mapFields → Kq
open PySem.Around renaming under_plainId → DD
open Classical renaming byContradiction → DX, choose_spec → Jl, choose → KM, em → Mx
open PySem.F renaming plain_extend_loop → DY, plain_min_loop → Eh, plain_max_loop → Ei, slot_zip_next → Ey, called_set → EE, excBase_ValueError → Gf, plainAttrs_list → GM, args_zip_next_1 → GQ, entry_zip_next → G3, entry_min_loop → G4, entry_max_loop → G5, entry_extend_loop → Ie, args_list_init_2 → Iq, typeCall_list_1 → IC, entry_list_init → ID, plain_set_new → Ji, slot_set_iter → Jj, slot_zip_iter → Jn, slot_tuple_lt → Jq, slot_tuple_gt → Jr, called_list → JP
open List.Pairwise renaming map → Eg, imp_of_mem → Gy, nil → G9, filter → JF, imp → MM
open Prod renaming ext → Er, fst → IJ, snd → Kc
open List.Perm renaming append_left → Fj, append_right → IX, refl → JI, trans → Le
open PySem.Heap.SameBut renaming update → FD, refl → Ko
open Option renaming getD_some → FI, isSome_iff_exists → Gx, toList_some → JY, map → Kp, getD_none → KH, none → MC
open PySem.Calls renaming spliced_cons → FP, spliced_nil → FZ, Name_function_global → HU, callWith_builtin → IU, evalArgs_plain → Jx
open ToString renaming toString → GR
open List.cons renaming inj → GT, injEq → Ld
open MonadExcept renaming tryCatch → IF
open PySem.Heap.IsSliceOf renaming new → JV
open List.Nodup renaming length_le_of_subset → Ky
open PySem.EqNone renaming eq_none_none → Lm, eq_none_bool → Ln, eq_bool_none → Lo, ne_none_none → Lr, ne_none_bool → Ls, ne_bool_none → Lu, eq_none_int → LS, eq_none_str → LU, eq_int_none → LV, eq_str_none → LX, ne_none_int → LZ, ne_none_str → L0, ne_int_none → L1, ne_str_none → L4
open PySem.EqMixed renaming eq_bool_str → Lp, eq_str_bool → Lq, ne_bool_str → Lv, ne_str_bool → Lw, eq_int_str → LW, eq_str_int → LY, ne_int_str → L3, ne_str_int → L5
open PySem.Value.type renaming inj → LA
open Prod.mk renaming injEq → Mh
open PySem.W.Dflts renaming none → MH, noKw → MJ
set_option maxHeartbeats 8000000
set_option Elab.async false
set_option linter.all false
set_option maxRecDepth 100000
namespace L2
open PySem PySem.Spec PyProof.Rows
abbrev Key:=Sum Int Str
def zd:Key→Value→Bool
 | .inl k,v=>Value.isInt k v
 | .inr x,v=>Value.isStrOf x v
def BQ (w:World):Key→Int
 | .inl k=>hashInt k
 | .inr x=>hashStr w x
theorem bG:∀{k:Key}{v:Value},zd k v=true→(∃i t,k=Sum.inl i∧v=Dh i t)∨(∃x t,k=Sum.inr x∧v=DA x t)
 | .inl i,v,h=>by
  obtain ⟨t,e⟩:=G7 (k:=i) (v:=v) h
  exact .inl ⟨i,t,rfl,e⟩
 | .inr x,v,h=>by
  obtain ⟨t,e⟩:=Value.isStrOf_shape (x:=x) (v:=v) h
  exact .inr ⟨x,t,rfl,e⟩
theorem AC (a b:Int):decide ((Sum.inl a:Key)=Sum.inl b)=(a==b):=by
 by_cases e:a=b
 ·subst e;simp
 ·have h:¬ (Sum.inl a:Key)=Sum.inl b:=fun q=>e (Sum.inl.inj q)
  rw[decide_eq_false h]
  exact (beq_eq_false_iff_ne.mpr e).symm
theorem Aq (a b:Str):decide ((Sum.inr a:Key)=Sum.inr b)=decide (a=b):=by
 by_cases e:a=b
 ·subst e;simp
 ·have h:¬ (Sum.inr a:Key)=Sum.inr b:=fun q=>e (Sum.inr.inj q)
  rw[decide_eq_false h,decide_eq_false e]
theorem AB (a:Int) (b:Str):decide ((Sum.inl a:Key)=Sum.inr b)=false:=decide_eq_false (fun q=>nomatch q)
theorem zr (a:Str) (b:Int):decide ((Sum.inr a:Key)=Sum.inl b)=false:=decide_eq_false (fun q=>nomatch q)
def rN (prog:Cy) (w:World):PySem.KeyKind prog w Key where
 is:=zd
 hash:=BQ w
 inj:=fun v a b ha hb=>by
  rcases bG ha with ⟨i,t,rfl,rfl⟩ |⟨x,t,rfl,rfl⟩
  ·rcases bG hb with ⟨j,u,rfl,e⟩ |⟨y,u,rfl,e⟩
   ·injection e with e1 _;rw[e1]
   ·exact nomatch e
  ·rcases bG hb with ⟨j,u,rfl,e⟩ |⟨y,u,rfl,e⟩
   ·exact nomatch e
   ·injection e with e1 _;rw[e1]
 byValue:=fun k v h=>by
  rcases bG h with ⟨i,t,rfl,rfl⟩ |⟨x,t,rfl,rfl⟩ <;>rfl
 pyHash:=fun hv h=>by
  rcases bG hv with ⟨i,t,rfl,rfl⟩ |⟨x,t,rfl,rfl⟩
  ·exact wpAny_pyHash_int h
  ·exact wpAny_pyHash_str h
 eqBool:=fun hu hv h=>by
  rcases bG hu with ⟨i,t,rfl,rfl⟩ |⟨x,t,rfl,rfl⟩
  ·rcases bG hv with ⟨j,u,rfl,rfl⟩ |⟨y,u,rfl,rfl⟩
   ·rw[AC] at h;exact wpAny_eqBool_int h
   ·rw[AB] at h;exact SeqAt.EqAt.int_str i t y u _ _ _ _ h
  ·rcases bG hv with ⟨j,u,rfl,rfl⟩ |⟨y,u,rfl,rfl⟩
   ·rw[zr] at h;exact SeqAt.EqAt.str_int x t j u _ _ _ _ h
   ·rw[Aq] at h;exact wpAny_eqBool_str h
 «strs»:=fun k x t v h=>by
  rcases bG h with ⟨i,u,rfl,e⟩ |⟨y,u,rfl,e⟩
  ·exact nomatch e
  ·injection e with e1 _
   subst e1
   cases v <;>rfl
inductive V where
 |non |bl (b:Bool) |int (i:Int) |str (x:Str) |byt (b:Array UInt8) |flt (b:UInt64) |ref (a:Addr) |ty (n:String)
 deriving DecidableEq
def bg:V→Value→Prop
 | .non,u=>u=CO
 | .bl b,u=>u=Dk b
 | .int i,u=>∃t,u=Dh i t
 | .str x,u=>∃t,u=DA x t
 | .byt b,u=>∃t,u=Value.bytes b t
 | .flt b,u=>∃t,u=Mz b t
 | .ref a,u=>u=C8 a
 | .ty n,u=>u=DV n
abbrev aO:List V→List Value→Prop:=Paired bg
theorem aO.length {xs:List V}{us:List Value} (r:aO xs us):xs.length=us.length:=Paired.length r
theorem aO.get:∀{xs:List V}{us:List Value}{i:Nat}{x:V},aO xs us→xs[i]?=some x→∃u,us[i]?=some u∧bg x u
 |_,_,_,_,.nil,e=>by simp at e
 |_,_,0,_,.cons r _,e=>by simp at e;subst e;exact ⟨_,rfl,r⟩
 |_,_,i+1,x,.cons _ t,e=>by
  obtain ⟨u,h1,h2⟩:=aO.get (i:=i) (x:=x) t (by simpa using e)
  exact ⟨u,by simpa using h1,h2⟩
theorem aO.append:∀{xs ys:List V}{us ws:List Value},aO xs us→aO ys ws→aO (xs++ys) (us++ws)
 |_,_,_,_,.nil,s=>s
 |_,_,_,_,.cons r t,s=>.cons r (aO.append t s)
theorem aO.take:∀{xs:List V}{us:List Value} (n:Nat),aO xs us→aO (xs.take n) (us.take n)
 |_,_,0,_=>.nil
 |_,_,_+1,.nil=>.nil
 |_,_,n+1,.cons r t=>.cons r (aO.take n t)
theorem aO.drop:∀{xs:List V}{us:List Value} (n:Nat),aO xs us→aO (xs.drop n) (us.drop n)
 |_,_,0,r=>r
 |_,_,_+1,.nil=>.nil
 |_,_,n+1,.cons _ t=>aO.drop n t
def zT:Option V→Option Value→Prop
 |some v,some u=>bg v u
 |none,none=>True
 |_,_=>False
def KV {κ:Type}:List (κ×V)→List (κ×Value)→Prop:=Paired fun (p:κ×V) (q:κ×Value)=>p.1=q.1∧bg p.2 q.2
def kV:Key→V
 | .inl i=>.int i
 | .inr x=>.str x
inductive HO where
 /-- a list -/
 |lst (xs:List V)
 /-- a tuple (never changes) -/
 |tup (xs:List V)
 /-- a dict whose keys are ints and texts;one whose keys are tuples of ints and texts (the empty one is both) -/
 |dK (kvs:List (Key×V)) |dT (kvs:List (List Key×V))
 /-- a set of ints:its members,its size -/
 |set (S:Int→Bool) (n:Nat)
 /-- an instance of the class at C,its dict at dx,its attributes -/
 |ins (C dx:Addr) (fs:List (Str×V))
 /-- the dict of the instance at x -/
 |own (x:Addr)
 /-- the dict of an exception -/
 |xd (fs:List (Str×V))
 /-- a bound method,f of x -/
 |met (f x:Addr)
 /-- a range object lo,lo+1,.. below hi -/
 |rng (lo hi:Int)
 /-- a thing that is known to the object (the script;a dict while a loop walks it):read,never written while it is so -/
 |frz (o:Obj) (u:HO)
 /-- a code object's table -/
 |tbl (ps:Array Value)
 /-- any other thing,by what is true of its one object (a def of one's own:SetO a S n:=HO.ext fun h=>..) -/
 |ext (φ:Heap→Prop)
abbrev Hp:=Addr→Option HO
def upd (H:Hp) (a:Addr) (o:HO):Hp:=fun b=>if b=a then some o else H b
theorem aY {H:Hp}{a:Addr}{o:HO}:upd H a o a=some o:=by unfold upd;rw[if_pos rfl]
theorem ba {H:Hp}{a b:Addr}{o:HO} (h:b≠a):upd H a o b=H b:=by unfold upd;rw[if_neg h]
theorem cC {H:Hp}{a b:Addr}{o:HO} (h:H a=some o) (h':H b=none):a≠b:=by
 intro e;subst e;rw[h] at h';cases h'
section
variable (P:Cy) (w:World)
def cw (H:Hp) (h:Heap) (a:Addr):HO→Prop
 | .lst xs=>xs.length≤sizeLine∧∃(its:List Value) (n:Nat),aO xs its∧h.get? a=some {cls:=.type "list",data:=.seq its.toArray n }
 | .tup xs=>xs.length≤sizeLine∧∃its:List Value,aO xs its∧IsTup h a its.toArray
 | .dK kvs=>kvs.length≤sizeLine∧(a==sysModules)=false∧∃vs,KV kvs vs∧h.DictOf (rN P w) a vs
 | .dT kvs=>kvs.length≤sizeLine∧(a==sysModules)=false∧∃xs:List (List Key×Addr×Value),
   Paired (fun (p:List Key×V) (q:List Key×Addr×Value)=>p.1=q.1∧H q.2.1=some (.tup (p.1.map kV))∧bg p.2 q.2.2) kvs xs∧
   ∃o es ep,h.get? a=some o∧o.ExactDict∧o.data=.dict es ep∧es.toList=xs.map (entryOfKey (tupleKind (rN P w)))∧(xs.map (·.1)).Nodup
 | .set S n=>h.SetOf (Iy P w) a S n
 | .ins C dx fs=>H dx=some (.own a)∧fs.length≤1000∧dx≠a∧h.get? a=some (I_ C dx)∧
   ∃mA,h.Ns1 dx mA∧(∀f,zT (fs.lookup f) (mA f))∧Ml mA (fs.map (·.1))
 | .own _=>∃o,h.get? a=some o
 | .xd fs=>∃mA,h.Ns1 a mA∧∀f,zT (fs.lookup f) (mA f)
 | .rng lo hi=>∃t u v,h.get? a=some {cls:=.type "range",data:=.fields #[.int lo t,.int hi u,.int 1 v] }
 | .frz o u=>h.get? a=some o∧cw H h a u
 | .tbl ps=>h.get? a=some {cls:=.none,data:=.fields ps }
 | .met f x=>h.get? a=some (Ih (.ref f) (.ref x))
 | .ext φ=>φ h∧(∃o,h.get? a=some o)∧∀h1 h2:Heap,φ h1→(∀o,h1.get? a=some o→h2.get? a=some o)→φ h2
def HOk (H:Hp) (h:Heap):Prop:=∀a o,H a=some o→cw P w H h a o
end
section
variable {P:Cy}{w:World}{H H':Hp}{h h':Heap}{a:Addr}{o:HO}
theorem cw.lt (x:cw P w H h a o):a < h.objs.size:=by
 cases o with
 |lst xs=>obtain ⟨_,_,_,_,e⟩:=x;exact Cf e
 |tup xs=>obtain ⟨_,_,_,p⟩:=x;exact p.lt
 |dK kvs=>obtain ⟨_,_,_,_,o,_,_,e,_⟩:=x;exact Cf e
 |dT kvs=>obtain ⟨_,_,_,_,o,_,_,e,_⟩:=x;exact Cf e
 |set S n=>obtain ⟨o,_,_,_,e,_⟩:=x;exact Cf e
 |ins C dx fs=>obtain ⟨_,_,_,e,_⟩:=x;exact Cf e
 |own y=>obtain ⟨_,e⟩:=x;exact Cf e
 |xd fs=>obtain ⟨_,⟨_,_,_,e,_⟩,_⟩:=x;exact Cf e
 |rng lo hi=>obtain ⟨_,_,_,e⟩:=x;exact Cf e
 |frz ob u=>obtain ⟨e,_⟩:=x;exact Cf e
 |tbl ps=>exact Cf (show h.get? a=some _ from x)
 |met f y=>exact Cf (show h.get? a=some _ from x)
 |ext φ=>obtain ⟨_,⟨_,e⟩,_⟩:=x;exact Cf e
theorem Paired.mapP {α β:Type}{F G:α→β→Prop}:∀{l₁:List α}{l₂:List β},Paired F l₁ l₂→(∀a b,F a b→G a b)→Paired G l₁ l₂
 |_,_,.nil,_=>.nil
 |_,_,.cons r t,f=>.cons (f _ _ r) (Paired.mapP t f)
theorem cw.stay (x:cw P w H h a o) (k:∀b u,(b=a∨H b=some (.own a))→h.get? b=some u→h'.get? b=some u)
  (ho:∀b,H b=some (.own a)→H' b=some (.own a)) (ht:∀b xs,H b=some (.tup xs)→H' b=some (.tup xs)):cw P w H' h' a o:=by
 induction o with
 |lst xs=>obtain ⟨z,its,n,r,e⟩:=x;exact ⟨z,its,n,r,k _ _ (.inl rfl) e⟩
 |tup xs=>obtain ⟨z,its,r,ob,e,c⟩:=x;exact ⟨z,its,r,ob,k _ _ (.inl rfl) e,c⟩
 |dK kvs=>obtain ⟨z,y,vs,r,ob,es,ep,e,c⟩:=x;exact ⟨z,y,vs,r,ob,es,ep,k _ _ (.inl rfl) e,c⟩
 |dT kvs=>
  obtain ⟨z,y,xs,r,ob,es,ep,e,c⟩:=x
  exact ⟨z,y,xs,Paired.mapP r fun p q z=>⟨z.1,ht _ _ z.2.1,z.2.2⟩,ob,es,ep,k _ _ (.inl rfl) e,c⟩
 |set S n=>obtain ⟨ob,es,ep,t,e,c⟩:=x;exact ⟨ob,es,ep,t,k _ _ (.inl rfl) e,c⟩
 |ins C dx fs=>
  obtain ⟨d,z,ne,e,mA,⟨od,es,ep,e2,c⟩,r⟩:=x
  exact ⟨ho _ d,z,ne,k _ _ (.inl rfl) e,mA,⟨od,es,ep,k _ _ (.inr d) e2,c⟩,r⟩
 |own y=>obtain ⟨ob,e⟩:=x;exact ⟨ob,k _ _ (.inl rfl) e⟩
 |xd fs=>obtain ⟨mA,⟨od,es,ep,e,c⟩,r⟩:=x;exact ⟨mA,⟨od,es,ep,k _ _ (.inl rfl) e,c⟩,r⟩
 |rng lo hi=>obtain ⟨t,u,v,e⟩:=x;exact ⟨t,u,v,k _ _ (.inl rfl) e⟩
 |frz ob u ih=>obtain ⟨e,q⟩:=x;exact ⟨k _ _ (.inl rfl) e,ih q⟩
 |tbl ps=>
  have e:h.get? a=some {cls:=.none,data:=.fields ps }:=x
  show h'.get? a=some {cls:=.none,data:=.fields ps }
  exact k a _ (.inl rfl) e
 |met f y=>
  have e:h.get? a=some (Ih (.ref f) (.ref y)):=x
  show h'.get? a=some (Ih (.ref f) (.ref y))
  exact k a _ (.inl rfl) e
 |ext φ=>obtain ⟨p,⟨o,e⟩,st⟩:=x;exact ⟨st _ _ p fun o q=>k _ _ (.inl rfl) q,⟨o,k _ _ (.inl rfl) e⟩,st⟩
theorem HOk.lt (x:HOk P w H h) (e:H a=some o):a < h.objs.size:=(x a o e).lt
theorem HOk.fresh (x:HOk P w H h) (e:h.objs.size≤a):H a=none:=by
 cases q:H a with
 |none=>rfl
 |some u=>exact absurd (CT (x.lt q) e) (CU _)
theorem HOk.kept (x:HOk P w H h) (k:∀b u,h.get? b=some u→h'.get? b=some u):HOk P w H h':=fun a o e=>
 (x a o e).stay (fun b u _ q=>k b u q) (fun _ q=>q) fun _ _ q=>q
theorem HOk.laid (x:HOk P w H h) (k:∀b u,h.get? b=some u→h'.get? b=some u) (hp:h.objs.size≤a) (new:cw P w (upd H a o) h' a o):HOk P w (upd H a o) h':=fun b u e=>by
 have hn:=x.fresh hp
 by_cases hb:b=a
 ·subst hb;rw[aY] at e;cases e;exact new
 ·rw[ba hb] at e
  exact (x b u e).stay (fun c v _ q=>k c v q) (fun c q=>by rw[ba (cC q hn)];exact q) fun c xs q=>by rw[ba (cC q hn)];exact q
end
def Rd (H:Hp) (a:Addr) (u:HO):Prop:=H a=some u∨∃o,H a=some (.frz o u)
theorem Rd.ok {P:Cy}{w:World}{H:Hp}{h:Heap}{a:Addr}{u:HO} (r:Rd H a u) (x:HOk P w H h):cw P w H h a u:=by
 rcases r with r |⟨o,r⟩
 ·exact x a u r
 ·obtain ⟨_,q⟩:=x a _ r
  exact q
def Mut:Option HO→Prop
 |some (.lst _)=>True
 |some (.dK _)=>True
 |some (.dT _)=>True
 |some (.set _ _)=>True
 |some (.ins _ _ _)=>True
 |some (.ext _)=>True
 |_=>False
section
variable {P:Cy}{w:World}{H:Hp}{h h':Heap}{x e:Addr}{o':HO}
theorem HOk.write (ok:HOk P w H h) (mu:Mut (H x)) (he:e=x∨H e=some (.own x)) (k:∀b u,b≠e→h.get? b=some u→h'.get? b=some u) (heo:∃u,h'.get? e=some u)
  (new:cw P w (upd H x o') h' x o'):HOk P w (upd H x o') h':=fun b u q=>by
 have nown:∀c y,H c=some (.own y)→c≠x:=fun c y r z=>by subst z;rw[r] at mu;exact mu
 have ntup:∀c xs,H c=some (.tup xs)→c≠x:=fun c xs r z=>by subst z;rw[r] at mu;exact mu
 by_cases hb:b=x
 ·subst hb;rw[aY] at q;cases q;exact new
 ·rw[ba hb] at q
  by_cases hbe:b=e
  ·have q':H b=some (.own x):=by
    rcases he with z |z
    ·exact absurd (hbe.trans z) hb
    ·rw[hbe];exact z
   rw[q] at q';cases q'
   obtain ⟨v,hv⟩:=heo
   exact ⟨v,by rw[hbe];exact hv⟩
  ·refine (ok b u q).stay (fun c v hc r=>k c v ?_ r) (fun c r=>by rw[ba (nown c b r)];exact r) fun c xs r=>by rw[ba (ntup c xs r)];exact r
   rcases hc with rfl |hc
   ·exact hbe
   ·rintro rfl
    rcases he with z |z
    ·exact nown c b hc z
    ·rw[hc] at z;cases z;exact hb rfl
end
structure Un (fs ex:List Addr) (H H':Hp) (h h':Heap):Prop where
 keep:∀b o,h.get? b=some o→H b=none→b ∉ fs→b ∉ ex→h'.get? b=some o
 slot:∀b o,h.get? b=some o→H b=none→b∈fs→b ∉ ex→∃sl,h'.get? b=some {o with slots:=sl }
 free:∀b o,h.get? b=some o→H b=none→b ∉ ex→H' b=none
 there:∀b o,h.get? b=some o→b ∉ ex→∃o',h'.get? b=some o'
 tups:∀b xs,H b=some (.tup xs)→H' b=some (.tup xs)
 frzs:∀b o u,H b=some (.frz o u)→H' b=some (.frz o u)
 tbls:∀b ps,H b=some (.tbl ps)→∃more,H' b=some (.tbl (ps++more))
section
variable {fs fs' ex ex':List Addr}{H H1 H2:Hp}{h h1 h2 h':Heap}{a x e:Addr}{o:HO}
theorem Un.any (u:Un fs ex H H1 h h1) {b:Addr}{ob:Obj} (q:h.get? b=some ob) (n:H b=none) (hx:b ∉ ex):∃sl,h1.get? b=some {ob with slots:=sl }:=by
 by_cases hb:b∈fs
 ·exact u.slot b ob q n hb hx
 ·exact ⟨ob.slots,u.keep b ob q n hb hx⟩
theorem Un.kept (k:∀b u,h.get? b=some u→h'.get? b=some u):Un fs ex H H h h':=
 ⟨fun b ob q _ _ _=>k b ob q,fun b ob q _ _ _=>⟨ob.slots,k b ob q⟩,fun _ _ _ n _=>n,fun b ob q _=>⟨ob,k b ob q⟩,fun _ _ q=>q,fun _ _ _ q=>q,fun _ ps q=>⟨#[],by rw[q];simp⟩⟩
theorem Un.refl:Un fs ex H H h h:=Un.kept fun _ _ q=>q
theorem Un.laid (k:∀b u,h.get? b=some u→h'.get? b=some u) (hp:h.objs.size≤a) (hn:H a=none):Un fs ex H (upd H a o) h h' where
 keep:=fun b u q _ _ _=>k b u q
 slot:=fun b u q _ _ _=>⟨u.slots,k b u q⟩
 free:=fun b u q n _=>by rw[ba (CP (CT (Cf q) hp))];exact n
 there:=fun b u q _=>⟨u,k b u q⟩
 tups:=fun b xs q=>by rw[ba (cC q hn)];exact q
 frzs:=fun b u xs q=>by rw[ba (cC q hn)];exact q
 tbls:=fun b ps q=>⟨#[],by rw[ba (cC q hn),q];simp⟩
theorem Un.write (mu:Mut (H x)) (he:e=x∨H e=some (.own x)) (k:∀b u,b≠e→h.get? b=some u→h'.get? b=some u) (heo:∃u,h'.get? e=some u):Un fs ex H (upd H x o) h h':=by
 have hx:∀b,H b=none→b≠x:=fun b n z=>by subst z;rw[n] at mu;exact mu
 have hb:∀b,H b=none→b≠e:=fun b n z=>by
  subst z
  rcases he with r |r
  ·exact hx b n r
  ·rw[n] at r;cases r
 have hm:∀b u,H b=some u→¬ Mut (some u)→b≠x:=fun b u q nm z=>by subst z;rw[q] at mu;exact nm mu
 refine ⟨fun b u q n _ _=>k b u (hb b n) q,fun b u q n _ _=>⟨u.slots,k b u (hb b n) q⟩,fun b u q n _=>by rw[ba (hx b n)];exact n,fun b u q _=>?_,
  fun b xs q=>by rw[ba (hm b _ q fun z=>z)];exact q,fun b u xs q=>by rw[ba (hm b _ q fun z=>z)];exact q,fun b ps q=>⟨#[],by rw[ba (hm b _ q fun z=>z),q];simp⟩⟩
 by_cases hbe:b=e
 ·subst hbe;exact heo
 ·exact ⟨u,k b u hbe q⟩
end
def trk (h:Heap) (H:Hp):List Addr:=(Ds h.objs.size).filter fun a=>(H a).isSome
def mJ (h:Heap) (H:Hp):Heap:=PySem.W.hideAll h (trk h H)
theorem td (h:Heap) (H:Hp):(mJ h H).objs.size=h.objs.size:=PySem.W.hideAll_size _ _
theorem uC {h:Heap}{H:Hp}{b:Addr}{o:Obj} (e:h.get? b=some o) (n:H b=none):(mJ h H).get? b=some o:=
 PySem.W.hideAll_get _ e fun hm=>by
  have q:(H b).isSome=true:=(CS.mp hm).2
  rw[n] at q;simp at q
theorem xO {h:Heap}{H:Hp}{b:Addr}{o:Obj} (e:(mJ h H).get? b=some o):h.get? b=some o∧H b=none:=by
 have e':h.get? b=some o:=PySem.W.of_hideAll (trk h H) e
 refine ⟨e',?_⟩
 cases q:H b with
 |none=>rfl
 |some x=>
  have hm:b∈trk h H:=CS.mpr ⟨Cr.mpr (Cf e'),by simp[q]⟩
  have z:(mJ h H).get? b=none:=PySem.W.hideAll_none (trk h H) hm
  rw[z] at e;cases e
def xS (g h:Heap) (L:Addr):List (Addr×Obj):=(Ds h.objs.size).filterMap fun a=>if a=L∨(g.get? a).isSome=true then none else (h.get? a).map fun o=>(a,o)
def rest (g h:Heap) (L d:Addr):List (Addr×Obj):=(xS g h L).filter fun p=>decide (p.1≠d)
structure Mod (K:B2) (mg:Str→Option Value) (base:Heap):Prop where
 kin:K.In base
 glob:base.Ns Ck mg
 blt:∃mb,base.Ns LP mb∧∀x:Str,x≠"__name__"→mb x=EJ x
 nolimit:base.NoLimit
structure Cx where
 prog:Cy
 w:World
 K:B2
 mg:Str→Option Value
 base:Heap
 A:Dc
 N:List Str
 s₀:B7
 H₀:Hp
 env:Env
 outer:List Env
 stack:List Env
 ex:List Addr
 fn:Str→Bool
 calm:Bool
 pn:List (Addr×Obj)
 xe:Value→B7→Prop
def frs (l:List Env):List Addr:=l.filterMap (·.frame)
abbrev Cx.fs (X:Cx):List Addr:=frs X.outer
def Vis (sc:Scope) (x:Str):Prop:=sc.names.lookup x=some .local∨sc.names.lookup x=some .cell∨sc.names.lookup x=some .free
def Loc (sc:Scope) (x:Str):Prop:=sc.names.lookup x=some .local∨sc.names.lookup x=some .cell
def BJ (env:Env) (h:Heap) (m:Str→Option Value) (x:Str) (u:Value):Prop:=
 (env.kindOf x=some .local∧m x=some u)∨((env.kindOf x=some .cell∨env.kindOf x=some .free)∧∃c,env.cells.lookup x=some c∧h.IsCell c (some u))
structure Cx.Ok (X:Cx):Prop where
 mod:Mod X.K X.mg X.base
 kind:X.env.scope.kind=.function
 glob:X.env.globals=Ck
 blt:X.env.builtins=LP
 above:X.s₀.heap.objs.size≤X.env.locals
 inj:∀x y c,X.env.cells.lookup x=some c→X.env.cells.lookup y=some c→x=y
 has:∀x,(X.env.kindOf x=some .cell∨X.env.kindOf x=some .free)→∃c,X.env.cells.lookup x=some c
 cab:∀x c,X.fn x=true→X.env.cells.lookup x=some c→X.s₀.heap.objs.size≤c
 hd:X.calm=true→X.A.handled=none
 frames:X.A.frames=some X.stack
 stk:X.stack=X.outer∨(X.stack=X.env::X.outer∧X.env.frame=some X.env.locals)
 exf:∀b∈X.ex,b≠X.env.locals∧∀x c,X.env.cells.lookup x=some c→c≠b
 bs:∀b o,X.base.get? b=some o→X.s₀.heap.get? b=some o∧X.H₀ b=none
 bsz:X.base.objs.size≤X.s₀.heap.objs.size
 noex:∀b o,X.base.get? b=some o→b ∉ X.ex
 exfs:∀b∈X.ex,b ∉ X.fs
 funs:X.s₀.heap.FunFrames X.base X.outer
 frf:∀b∈X.fs,X.H₀ b=none
structure Inv (X:Cx) (pins:List (Addr×Obj)) (σ:List (Option V)) (H:Hp) (s:B7):Prop where
 ok:X.Ok
 os:s.os=X.s₀.os
 bare:Iz s.gens
 base:Un X.fs X.ex X.H₀ H X.s₀.heap s.heap
 loc:∃m,s.heap.Ns X.env.locals m∧∀(i:Nat) (x:Str) (v:V),X.N[i]?=some x→σ[i]?=some (some v)→Vis X.env.scope x→∃u,bg v u∧BJ X.env s.heap m x u
 cell:∀x c,X.env.cells.lookup x=some c→∃v,s.heap.IsCell c v
 free:H X.env.locals=none
 freeC:∀x c,X.env.cells.lookup x=some c→H c=none
 pin:∀p∈X.pn++pins,s.heap.get? p.1=some p.2∧H p.1=none∧p.1≠X.env.locals∧p.1 ∉ X.fs∧∀v,p.2.data≠.cell v
 hok:HOk X.prog X.w H s.heap
 len:σ.length=X.N.length
section
variable {X:Cx}{pins:List (Addr×Obj)}{σ:List (Option V)}{H H':Hp}{s:B7}{h':Heap}
theorem Cx.Ok.nofr (ok:X.Ok) {b:Addr}{o:Obj} (e:X.base.get? b=some o):b ∉ X.fs:=fun hb=>by
 have:=(ok.funs.mem hb).1
 rw[e] at this;cases this
theorem Inv.bs (I:Inv X pins σ H s):∀b o,X.base.get? b=some o→s.heap.get? b=some o∧H b=none:=fun b o e=>
 ⟨I.base.keep b o (I.ok.bs b o e).1 (I.ok.bs b o e).2 (I.ok.nofr e) (I.ok.noex b o e),I.base.free b o (I.ok.bs b o e).1 (I.ok.bs b o e).2 (I.ok.noex b o e)⟩
theorem Inv.bk (I:Inv X pins σ H s):∀b o,X.base.get? b=some o→s.heap.get? b=some o:=fun b o e=>(I.bs b o e).1
theorem Inv.mod (I:Inv X pins σ H s):Mod X.K X.mg X.base:=I.ok.mod
theorem Inv.kIn (I:Inv X pins σ H s):X.K.In s.heap:=I.ok.mod.kin.keeps I.bk
theorem Inv.lt (I:Inv X pins σ H s):X.env.locals < s.heap.objs.size:=let ⟨_,hn,_⟩:=I.loc;hn.lt
theorem Inv.sz (I:Inv X pins σ H s):X.s₀.heap.objs.size≤s.heap.objs.size:=DZ I.ok.above (DE I.lt)
theorem Inv.nofs (I:Inv X pins σ H s) {a:Addr} (h:s.heap.objs.size≤a):a ∉ X.fs:=fun hb=>by
 obtain ⟨_,o,ho,_⟩:=I.ok.funs.mem hb
 exact absurd (CT (Cf ho) (DZ I.sz h)) (CU _)
theorem Inv.cne (I:Inv X pins σ H s):∀x c,X.env.cells.lookup x=some c→c≠X.env.locals:=fun x c e z=>by
 obtain ⟨v,o,ho,hd⟩:=I.cell x c e
 obtain ⟨m,⟨o',es,ep,ho',hd',_⟩,_⟩:=I.loc
 rw[z,ho'] at ho;cases ho;rw[hd'] at hd;cases hd
theorem Inv.funs (I:Inv X pins σ H s):s.heap.FunFrames X.base X.outer:=by
 have all:∀(l:List Env),(∀b∈frs l,b∈X.fs)→X.s₀.heap.FunFrames X.base l→s.heap.FunFrames X.base l:=by
  intro l
  induction l with
  |nil=>intro _ _;trivial
  |cons env r ih=>
   intro hs hl
   obtain ⟨hk,⟨L,o,hf,hn,ho,hd⟩,hr⟩:=hl
   have hL:L∈X.fs:=hs L (by unfold frs;rw[Es,hf];exact Ci)
   obtain ⟨sl,e⟩:=I.base.slot L o ho (I.ok.frf L hL) hL fun z=>I.ok.exfs L z hL
   exact ⟨hk,⟨L,_,hf,hn,e,hd⟩,ih (fun b hb=>hs b (by unfold frs;rw[Es,hf];exact B4 _ hb)) hr⟩
 exact all X.outer (fun _ hb=>hb) I.ok.funs
theorem Inv.stack (I:Inv X pins σ H s):s.heap.FunFrames X.base X.stack:=by
 rcases I.ok.stk with e |⟨e,hf⟩
 ·rw[e];exact I.funs
 ·rw[e]
  obtain ⟨m,hn,_⟩:=I.loc
  refine .cons (by rw[I.ok.kind];decide) hf hn ?_ I.funs
  exact Hy (DZ I.ok.bsz I.ok.above)
theorem Inv.stkSub (I:Inv X pins σ H s):∀b∈frs X.stack,b∈X.env.locals::X.fs:=fun b hb=>by
 rcases I.ok.stk with e |⟨e,hf⟩
 ·rw[e] at hb;exact B4 _ hb
 ·rw[e] at hb
  unfold frs at hb
  rw[Es,hf] at hb
  exact hb
theorem Inv.stkFree (I:Inv X pins σ H s):∀b∈frs X.stack,H b=none:=fun b hb=>by
 rcases Cd.mp (I.stkSub b hb) with e |hb
 ·rw[e];exact I.free
 ·obtain ⟨_,o,ho,_⟩:=I.ok.funs.mem hb
  exact I.base.free b o ho (I.ok.frf b hb) fun z=>I.ok.exfs b z hb
theorem Inv.step {g':Array GD}{t':Nat}{d':Drawn}{ch:List Addr} (I:Inv X pins σ H s)
  (hch:∀b∈ch,(b∈X.ex∨X.s₀.heap.objs.size≤b)∧b≠X.env.locals∧(∀x c,X.env.cells.lookup x=some c→c≠b)∧∀p∈X.pn++pins,p.1≠b)
  (keep:∀b o,b≠X.env.locals→b ∉ X.fs→b ∉ ch→s.heap.get? b=some o→H b=none→h'.get? b=some o)
  (slot:∀b o,b≠X.env.locals→b∈X.fs→b ∉ ch→s.heap.get? b=some o→H b=none→∃sl,h'.get? b=some {o with slots:=sl }) (free:∀b o,b ∉ ch→s.heap.get? b=some o→H b=none→H' b=none)
  (there:∀b o,b ∉ ch→s.heap.get? b=some o→∃o',h'.get? b=some o')
  (tups:∀b xs,H b=some (.tup xs)→H' b=some (.tup xs)) (frzs:∀b o u,H b=some (.frz o u)→H' b=some (.frz o u)) (tbls:∀b ps,H b=some (.tbl ps)→∃more,H' b=some (.tbl (ps++more)))
  (ns:∀m,s.heap.Ns X.env.locals m→h'.Ns X.env.locals m) (hok:HOk X.prog X.w H' h') (hg:Iz g'):
  Inv X pins σ H' {s with heap:=h',gens:=g',drawn:=d',toks:=t' }:=by
 have neL:∀b o,X.s₀.heap.get? b=some o→b≠X.env.locals:=fun b o e=>CP (CT (Cf e) I.ok.above)
 have neC:∀b o,X.s₀.heap.get? b=some o→b ∉ X.ex→b ∉ ch:=fun b o e hx hb=>by
  rcases (hch b hb).1 with z |z
  ·exact hx z
  ·exact absurd (CT (Cf e) z) (CU _)
 have cellK:∀x c,X.env.cells.lookup x=some c→∀v,s.heap.IsCell c v→h'.IsCell c v:=fun x c e v ⟨o,ho,hd⟩=>by
  have nch:c ∉ ch:=fun z=>(hch c z).2.2.1 x c e rfl
  by_cases hc:c∈X.fs
  ·obtain ⟨sl,q⟩:=slot c o (I.cne x c e) hc nch ho (I.freeC x c e)
   exact ⟨_,q,hd⟩
  ·exact ⟨o,keep c o (I.cne x c e) hc nch ho (I.freeC x c e),hd⟩
 refine ⟨I.ok,I.os,hg,⟨fun b o e n hb hx=>?_,fun b o e n hb hx=>?_,fun b o e n hx=>?_,fun b o e hx=>?_,fun b xs e=>tups b xs (I.base.tups b xs e),fun b o xs e=>frzs b o xs (I.base.frzs b o xs e),fun b ps e=>?_⟩,?_,fun x c e=>?_,?_,fun x c e=>?_,fun p hp=>?_,hok,I.len⟩
 ·exact keep b o (neL b o e) hb (neC b o e hx) (I.base.keep b o e n hb hx) (I.base.free b o e n hx)
 ·obtain ⟨sl,e1⟩:=I.base.slot b o e n hb hx
  obtain ⟨sl',e2⟩:=slot b _ (neL b o e) hb (neC b o e hx) e1 (I.base.free b o e n hx)
  exact ⟨sl',e2⟩
 ·obtain ⟨o',e1⟩:=I.base.there b o e hx
  exact free b o' (neC b o e hx) e1 (I.base.free b o e n hx)
 ·obtain ⟨o',e1⟩:=I.base.there b o e hx
  exact there b o' (neC b o e hx) e1
 ·obtain ⟨m1,e1⟩:=I.base.tbls b ps e
  obtain ⟨m2,e2⟩:=tbls b _ e1
  exact ⟨m1++m2,by rw[e2,JQ]⟩
 ·obtain ⟨m,hn,hl⟩:=I.loc
  refine ⟨m,ns m hn,fun i x v e1 e2 e3=>?_⟩
  obtain ⟨u,r,l⟩:=hl i x v e1 e2 e3
  refine ⟨u,r,?_⟩
  rcases l with l |⟨k,c,e,z⟩
  ·exact .inl l
  ·exact .inr ⟨k,c,e,cellK x c e _ z⟩
 ·obtain ⟨v,z⟩:=I.cell x c e
  exact ⟨v,cellK x c e v z⟩
 ·obtain ⟨m,⟨o,_,_,ho,_⟩,_⟩:=I.loc
  exact free _ o (fun z=>(hch _ z).2.1 rfl) ho I.free
 ·obtain ⟨v,o,ho,hd⟩:=I.cell x c e
  exact free c o (fun z=>(hch c z).2.2.1 x c e rfl) ho (I.freeC x c e)
 ·obtain ⟨e,n,ne,nf,d⟩:=I.pin p hp
  have nch:p.1 ∉ ch:=fun z=>(hch p.1 z).2.2.2 p hp rfl
  exact ⟨keep p.1 p.2 ne nf nch e n,free p.1 p.2 nch e n,ne,nf,d⟩
theorem Inv.un {t':Nat} (I:Inv X pins σ H s) (u:Un X.fs [] H H' s.heap h') (hok:HOk X.prog X.w H' h'):Inv X pins σ H' {s with heap:=h',toks:=t' }:=by
 obtain ⟨m,⟨o,es,ep,ho,r⟩,_⟩:=id I.loc
 obtain ⟨sl,hL⟩:=u.any ho I.free (by simp)
 exact I.step (g':=s.gens) (d':=s.drawn) (ch:=[]) (fun _ z=>nomatch z) (fun b o _ hb _ e n=>u.keep b o e n hb (by simp)) (fun b o _ hb _ e n=>u.slot b o e n hb (by simp)) (fun b o _ e n=>u.free b o e n (by simp)) (fun b o _ e=>u.there b o e (by simp)) u.tups u.frzs u.tbls (fun m' hm=>by
  obtain ⟨o',es',ep',ho',r'⟩:=hm
  rw[ho] at ho';cases ho'
  exact ⟨_,es',ep',hL,r'⟩) hok I.bare
theorem Inv.call {g':Array GD}{t':Nat}{d':Drawn}{ch:List Addr} (I:Inv X pins σ H s) (u:Un (frs X.stack) ch H H' s.heap h') (hok:HOk X.prog X.w H' h') (hg:Iz g')
  (hch:∀b∈ch,(b∈X.ex∨X.s₀.heap.objs.size≤b)∧b≠X.env.locals∧(∀x c,X.env.cells.lookup x=some c→c≠b)∧∀p∈X.pn++pins,p.1≠b):
  Inv X pins σ H' {s with heap:=h',gens:=g',drawn:=d',toks:=t' }:=by
 obtain ⟨m,⟨o,es,ep,ho,r⟩,_⟩:=id I.loc
 obtain ⟨sl,hL⟩:=u.any ho I.free fun z=>(hch _ z).2.1 rfl
 exact I.step (ch:=ch) hch (fun b o hL hb hc e n=>u.keep b o e n (fun z=>(Cd.mp (I.stkSub b z)).elim hL hb) hc) (fun b o _ _ hc e n=>u.any e n hc) (fun b o hc e n=>u.free b o e n hc) (fun b o hc e=>u.there b o e hc) u.tups u.frzs u.tbls (fun m' hm=>by
  obtain ⟨o',es',ep',ho',r'⟩:=hm
  rw[ho] at ho';cases ho'
  exact ⟨_,es',ep',hL,r'⟩) hok hg
theorem Inv.turned {t':Nat}{it:Addr} (I:Inv X pins σ H s) (k:∀b o,b≠it→s.heap.get? b=some o→h'.get? b=some o) (hn:H it=none) (hL:it≠X.env.locals)
  (h1:it∈X.ex∨X.s₀.heap.objs.size≤it) (h2:∀x c,X.env.cells.lookup x=some c→c≠it) (h3:∀p∈X.pn++pins,p.1≠it):Inv X pins σ H {s with heap:=h',toks:=t' }:=by
 have nit:∀b u,H b=some u→b≠it:=fun b u e z=>by rw[z,hn] at e;cases e
 refine I.step (g':=s.gens) (d':=s.drawn) (ch:=[it]) (fun b hb=>?_) (fun b o _ _ hc e _=>k b o (fun z=>hc (by simp[z])) e) (fun b o _ _ hc e _=>⟨o.slots,k b o (fun z=>hc (by simp[z])) e⟩) (fun _ _ _ _ n=>n)
  (fun b o hc e=>⟨o,k b o (fun z=>hc (by simp[z])) e⟩) (fun _ _ e=>e) (fun _ _ _ e=>e) (fun b ps e=>⟨#[],by rw[e];simp⟩) (fun m hm=>?_) (fun b u e=>?_) I.bare
 ·have e:b=it:=by simpa using hb
  subst e
  exact ⟨h1,hL,h2,h3⟩
 ·obtain ⟨o,es,ep,ho,r⟩:=hm
  exact ⟨o,es,ep,k _ o (Ne.symm hL) ho,r⟩
 ·refine (I.hok b u e).stay (fun c v hc q=>k c v ?_ q) (fun _ q=>q) fun _ _ q=>q
  rcases hc with z |z
  ·rw[z];exact nit b u e
  ·exact nit c _ z
theorem Inv.tok (I:Inv X pins σ H s) (t:Nat):Inv X pins σ H {s with toks:=t }:=I.un (h':=s.heap) (t':=t) Un.refl I.hok
theorem Inv.kept {t':Nat} (I:Inv X pins σ H s) (k:∀b u,s.heap.get? b=some u→h'.get? b=some u):Inv X pins σ H {s with heap:=h',toks:=t' }:=I.un (Un.kept k) (I.hok.kept k)
theorem Inv.laid {a:Addr}{o:HO}{t':Nat} (I:Inv X pins σ H s) (k:∀b u,s.heap.get? b=some u→h'.get? b=some u) (hp:s.heap.objs.size≤a) (new:cw X.prog X.w (upd H a o) h' a o):
  Inv X pins σ (upd H a o) {s with heap:=h',toks:=t' }:=I.un (Un.laid k hp (I.hok.fresh hp)) (I.hok.laid k hp new)
theorem Inv.write {x e:Addr}{o:HO}{t':Nat} (I:Inv X pins σ H s) (mu:Mut (H x)) (he:e=x∨H e=some (.own x)) (k:∀b u,b≠e→s.heap.get? b=some u→h'.get? b=some u) (heo:∃u,h'.get? e=some u)
  (new:cw X.prog X.w (upd H x o) h' x o):Inv X pins σ (upd H x o) {s with heap:=h',toks:=t' }:=I.un (Un.write mu he k heo) (I.hok.write mu he k heo new)
theorem Inv.weak {σ':List (Option V)} (I:Inv X pins σ H s) (hl:σ'.length=σ.length) (w:∀(i:Nat) v,σ'[i]?=some (some v)→σ[i]?=some (some v)):Inv X pins σ' H s:=
 ⟨I.ok,I.os,I.bare,I.base,let ⟨m,hn,hl'⟩:=I.loc;⟨m,hn,fun i x v e1 e2 e3=>hl' i x v e1 (w i v e2) e3⟩,I.cell,I.free,I.freeC,I.pin,I.hok,hl.trans I.len⟩
theorem Inv.pins_of {pins':List (Addr×Obj)} (I:Inv X pins σ H s) (h:∀p∈pins',s.heap.get? p.1=some p.2∧H p.1=none∧p.1≠X.env.locals∧p.1 ∉ X.fs∧∀v,p.2.data≠.cell v):Inv X pins' σ H s:=
 ⟨I.ok,I.os,I.bare,I.base,I.loc,I.cell,I.free,I.freeC,fun p hp=>(Dq.mp hp).elim (fun z=>I.pin p (DC _ z)) (h p),I.hok,I.len⟩
theorem oJ {N:List Str} (hN:N.Nodup) {i j:Nat}{x:Str} (a:N[i]?=some x) (b:N[j]?=some x):i=j:=by
 obtain ⟨h1,e1⟩:=Cg.mp a
 obtain ⟨h2,e2⟩:=Cg.mp b
 exact (IK hN).mp (e1.trans e2.symm)
theorem kS {M:Model}{A:Dc}{E:Value→B7→Prop}{i:Nat}{x:Str}{v:V}{u:Value}{Q:Unit→B7→Prop} (I:Inv X pins σ H s) (hN:X.N.Nodup) (hi:X.N[i]?=some x) (hx:Loc X.env.scope x) (r:bg v u)
  (h:∀s',Inv X pins (σ.set i (some v)) H s'→(∃a,Gu a s.heap s'.heap∧(a=X.env.locals∨X.env.cells.lookup x=some a))→Q () s') (hf:X.fn x=true∨X.env.scope.names.lookup x=some .local:=by first |exact .inl rfl |exact .inr rfl |assumption):wpAny M A (storeName X.env x u) Q E s:=by
 obtain ⟨m,hn,hl⟩:=id I.loc
 have hcls:(X.env.scope.kind==.class || (X.env.scope.kind==.module && X.env.locals !=X.env.globals))=false:=by rw[I.ok.kind];rfl
 have hiσ:i < σ.length:=by rw[I.len];exact (Cg.mp hi).1
 have cne:=I.cne
 have tracked:∀{a:Addr}{h':Heap},(∃o,s.heap.get? a=some o∧H a=none)→Gu a s.heap h'→HOk X.prog X.w H h':=fun {a h'} ha hs b ob e=>by
  obtain ⟨_,_,hfree⟩:=ha
  refine (I.hok b ob e).stay (fun c w' hc q=>(hs.2 c ?_).trans q) (fun _ q=>q) fun _ _ q=>q
  rintro rfl
  rcases hc with rfl |hc
  ·rw[hfree] at e;cases e
  ·rw[hfree] at hc;cases hc
 rcases hx with hk |hk
 ·refine wpAny_storeName_local hk hn (fun h' hn' hs=>?_) hcls
  obtain ⟨oL,_,_,hoL,_⟩:=id hn
  refine h _ ⟨I.ok,I.os,I.bare,⟨fun b o e n hb hx=>?_,fun b o e n hb hx=>?_,I.base.free,fun b o e hx=>?_,I.base.tups,I.base.frzs,I.base.tbls⟩,⟨_,hn',fun j y v' e1 e2 e3=>?_⟩,fun y c e=>?_,I.free,I.freeC,fun p hp=>?_,tracked ⟨oL,hoL,I.free⟩ hs,by simpa using I.len⟩ ⟨_,hs,.inl rfl⟩
  ·exact (hs.2 b (CP (CT (Cf e) I.ok.above))).trans (I.base.keep b o e n hb hx)
  ·obtain ⟨sl,e1⟩:=I.base.slot b o e n hb hx
   exact ⟨sl,(hs.2 b (CP (CT (Cf e) I.ok.above))).trans e1⟩
  ·obtain ⟨o',e1⟩:=I.base.there b o e hx
   exact ⟨o',(hs.2 b (CP (CT (Cf e) I.ok.above))).trans e1⟩
  ·by_cases hj:j=i
   ·subst hj
    rw[hi] at e1;cases e1
    rw[IS hiσ] at e2
    cases e2
    exact ⟨u,r,.inl ⟨hk,by simp⟩⟩
   ·rw[CQ (Ne.symm hj)] at e2
    obtain ⟨u',r',q⟩:=hl j y v' e1 e2 e3
    refine ⟨u',r',?_⟩
    rcases q with ⟨k,e⟩ |⟨k,c,e,z⟩
    ·refine .inl ⟨k,?_⟩
     have:y≠x:=fun e=>hj (oJ hN e1 (e ▸ hi))
     simp[this,e]
    ·exact .inr ⟨k,c,e,z.sameBut hs (cne y c e)⟩
  ·obtain ⟨w',z⟩:=I.cell y c e
   exact ⟨w',z.sameBut hs (cne y c e)⟩
  ·obtain ⟨e,n,ne,nf,d⟩:=I.pin p hp
   exact ⟨(hs.2 p.1 ne).trans e,n,ne,nf,d⟩
 ·have hfn:X.fn x=true:=by
   rcases hf with z |z
   ·exact z
   ·rw[z] at hk;cases hk
  obtain ⟨c,hc⟩:=I.ok.has x (.inl hk)
  obtain ⟨w',z⟩:=I.cell x c hc
  refine wpAny_storeName_cell I.ok.kind hk hc z (fun h' hc' hs=>?_)
  obtain ⟨oc,hoc,hocd⟩:=id z
  refine h {s with heap:=h' } ⟨I.ok,I.os,I.bare,⟨fun b o e n hb hx=>?_,fun b o e n hb hx=>?_,I.base.free,fun b o e hx=>?_,I.base.tups,I.base.frzs,I.base.tbls⟩,⟨m,hn.sameBut hs (Ne.symm (cne x c hc)),fun j y v' e1 e2 e3=>?_⟩,fun y c' e=>?_,I.free,I.freeC,fun p hp=>?_,tracked ⟨oc,hoc,I.freeC x c hc⟩ hs,by simpa using I.len⟩ ⟨c,hs,.inr hc⟩
  ·exact (hs.2 b (CP (CT (Cf e) (I.ok.cab x c hfn hc)))).trans (I.base.keep b o e n hb hx)
  ·obtain ⟨sl,e1⟩:=I.base.slot b o e n hb hx
   exact ⟨sl,(hs.2 b (CP (CT (Cf e) (I.ok.cab x c hfn hc)))).trans e1⟩
  ·obtain ⟨o',e1⟩:=I.base.there b o e hx
   exact ⟨o',(hs.2 b (CP (CT (Cf e) (I.ok.cab x c hfn hc)))).trans e1⟩
  ·by_cases hj:j=i
   ·subst hj
    rw[hi] at e1;cases e1
    rw[IS hiσ] at e2
    cases e2
    exact ⟨u,r,.inr ⟨.inl hk,c,hc,hc'⟩⟩
   ·rw[CQ (Ne.symm hj)] at e2
    obtain ⟨u',r',q⟩:=hl j y v' e1 e2 e3
    refine ⟨u',r',?_⟩
    rcases q with q |⟨k,c',e,z'⟩
    ·exact .inl q
    ·refine .inr ⟨k,c',e,z'.sameBut hs ?_⟩
     rintro rfl
     exact hj (oJ hN e1 (I.ok.inj _ _ _ e hc ▸ hi))
  ·by_cases hcc:c'=c
   ·subst hcc;exact ⟨_,hc'⟩
   ·obtain ⟨w2,z2⟩:=I.cell y c' e
    exact ⟨w2,z2.sameBut hs hcc⟩
  ·obtain ⟨e,n,ne,nf,d⟩:=I.pin p hp
   refine ⟨(hs.2 p.1 ?_).trans e,n,ne,nf,d⟩
   intro q
   rw[q,hoc] at e
   have q':oc=p.2:=Du e
   exact d w' (by rw[←q'];exact hocd)
theorem jJ {M:Model}{A:Dc}{E:Value→B7→Prop}{i:Nat}{x:Str}{v:V}{u:Value}{Q:Unit→B7→Prop} (I:Inv X pins σ H s) (hN:X.N.Nodup) (hi:X.N[i]?=some x) (hx:Loc X.env.scope x) (r:bg v u)
  (h:∀s',Inv X pins (σ.set i (some v)) H s'→Q () s') (hf:X.fn x=true∨X.env.scope.names.lookup x=some .local:=by first |exact .inl rfl |exact .inr rfl |assumption):wpAny M A (storeName X.env x u) Q E s:=
 kS I hN hi hx r (fun s' I' _=>h s' I') hf
theorem Inv.call' {s':B7}{ch:List Addr} (I:Inv X pins σ H s) (ho:s'.os=s.os) (u:Un (frs X.stack) ch H H' s.heap s'.heap) (hok:HOk X.prog X.w H' s'.heap) (hg:Iz s'.gens)
  (hch:∀b∈ch,(b∈X.ex∨X.s₀.heap.objs.size≤b)∧b≠X.env.locals∧(∀x c,X.env.cells.lookup x=some c→c≠b)∧∀p∈X.pn++pins,p.1≠b):Inv X pins σ H' s':=by
 obtain ⟨h',g',d',t',o'⟩:=s'
 have e:o'=s.os:=ho
 subst e
 exact I.call (g':=g') (t':=t') (d':=d') u hok hg hch
end
abbrev XK:=Value→Option Addr→Hp→Prop
abbrev St:=List (Option V)
abbrev VK:=V→Hp→Prop
abbrev TE:=St→Hp→VK→Prop
abbrev TT:=St→Hp→(Bool→Hp→Prop)→Prop
abbrev TA:=St→Hp→(List V→Hp→Prop)→Prop
structure kA where
 nx:St→Hp→Prop
 rt:VK
 bk:St→Hp→Prop:=fun _ _=>False
 ct:St→Hp→Prop:=fun _ _=>False
abbrev TS:=kA→St→Hp→Prop
def EP (X:Cx) (pins:List (Addr×Obj)) (σ:St) (Q:VK) (u:Value) (s':B7):Prop:=∃v H',Inv X pins σ H' s'∧bg v u∧Q v H'
def TP (X:Cx) (pins:List (Addr×Obj)) (σ:St) (Q:Bool→Hp→Prop) (b:Bool) (s':B7):Prop:=∃H',Inv X pins σ H' s'∧Q b H'
def AP (X:Cx) (pins:List (Addr×Obj)) (σ:St) (Q:List V→Hp→Prop) (us:List Value) (s':B7):Prop:=∃vs H',Inv X pins σ H' s'∧aO vs us∧Q vs H'
def SP (X:Cx) (pins:List (Addr×Obj)) (D:kA) (f:Flow) (s':B7):Prop:=
 match f with
 | .next=>∃σ' H',Inv X pins σ' H' s'∧D.nx σ' H'
 | .brk=>∃σ' H',Inv X pins σ' H' s'∧D.bk σ' H'
 | .cont=>∃σ' H',Inv X pins σ' H' s'∧D.ct σ' H'
 | .ret u=>∃v σ' H',Inv X pins σ' H' s'∧bg v u∧D.rt v H'
def PE (X:Cx) (e:Expr) (t:TE):Prop:=
 ∀(pins:List (Addr×Obj)) (s:B7) (σ:St) (H:Hp) (Q:VK),Inv X pins σ H s→t σ H Q→wpAny (model X.prog X.w) X.A (eval e X.env) (EP X pins σ Q) X.xe s
def PT (X:Cx) (e:Expr) (t:TT):Prop:=
 ∀(pins:List (Addr×Obj)) (s:B7) (σ:St) (H:Hp) (Q:Bool→Hp→Prop),Inv X pins σ H s→t σ H Q→wpAny (model X.prog X.w) X.A (isTrue e X.env (eval e X.env)) (TP X pins σ Q) X.xe s
def PW (X:Cx) (e:Expr) (t:TT):Prop:=
 ∀(whole:Sem Value) (pins:List (Addr×Obj)) (s:B7) (σ:St) (H:Hp) (Q:Bool→Hp→Prop),Inv X pins σ H s→t σ H Q→wpAny (model X.prog X.w) X.A (isTrue e X.env whole) (TP X pins σ Q) X.xe s
theorem PW.pt {X:Cx}{e:Expr}{t:TT} (h:PW X e t):PT X e t:=h _
def PA (X:Cx) (es:List Expr) (t:TA):Prop:=
 ∀(pos:Pos) (pins:List (Addr×Obj)) (s:B7) (σ:St) (H:Hp) (Q:List V→Hp→Prop),Inv X pins σ H s→t σ H Q→wpAny (model X.prog X.w) X.A (spliced (Fp pos (Ce es X.env))) (AP X pins σ Q) X.xe s
def PS (X:Cx) (st:Stmt) (t:TS):Prop:=
 ∀(pins:List (Addr×Obj)) (s:B7) (σ:St) (H:Hp) (D:kA),Inv X pins σ H s→t D σ H→wpAny (model X.prog X.w) X.A (exec st X.env) (SP X pins D) X.xe s
def PSs (X:Cx) (st:List Stmt) (t:TS):Prop:=
 ∀(pins:List (Addr×Obj)) (s:B7) (σ:St) (H:Hp) (D:kA),Inv X pins σ H s→t D σ H→wpAny (model X.prog X.w) X.A (execs st X.env) (SP X pins D) X.xe s
theorem thn {α:Type}{t:Sem α}{Q Q':α→B7→Prop}{M:Model}{A:Dc}{E:Value→B7→Prop}{s:B7} (h:wpAny M A t Q E s) (hQ:∀a s,Q a s→Q' a s):wpAny M A t Q' E s:=E4 h hQ fun _ _ x=>x
section
variable {X:Cx}
def BB (i:Nat):TE:=fun σ H Q=>∃v,σ[i]?=some (some v)∧Q v H
def tC (v:V):TE:=fun _ H Q=>Q v H
theorem fH {i:Nat}{x:Str}{pos:Pos} (hN:X.N[i]?=some x) (hv:Vis X.env.scope x) (hd:(x==("__debug__":Str))=false:=by decide) (hcd:(x==("__classdict__":Str))=false:=by decide):PE X (.Name x pos) (BB i):=by
 intro pins s σ H Q I h
 obtain ⟨v,e,h⟩:=h
 obtain ⟨m,hn,hl⟩:=I.loc
 obtain ⟨u,r,l⟩:=hl i x v hN e hv
 have fin:EP X pins σ Q u s:=⟨v,H,I,r,h⟩
 rcases l with ⟨hk,hm⟩ |⟨hk,c,hc,hcell⟩
 ·exact LQ (wpAny_loadName_local I.ok.kind hk hn hm fin) hd
 ·rcases hk with hk |hk
  ·exact LQ (wpAny_loadName_cell I.ok.kind hk hc hcell fin) hd
  ·exact LQ (wpAny_loadName_free I.ok.kind hk hc hcell fin hcd) hd
theorem z8 {i j pos}:PE X (.Constant (.int i) j pos) (tC (.int i)):=fun _ _ _ H _ I h=>wpAny_Constant_int ⟨.int i,H,I.tok _,⟨_,rfl⟩,h⟩
theorem Bs {b j pos}:PE X (.Constant (.bool b) j pos) (tC (.bl b)):=fun _ _ _ H _ I h=>Constant_bool ⟨.bl b,H,I,rfl,h⟩
theorem Ax {x j pos}:PE X (.Constant (.str x) j pos) (tC (.str x)):=fun _ _ _ H _ I h=>Calls.Constant_str ⟨.str x,H,I.tok _,⟨_,rfl⟩,h⟩
def Gl (X:Cx) (x:Str):Prop:=X.env.kindOf x=some .globalImplicit
theorem hV {E:Value→B7→Prop}{pins:List (Addr×Obj)}{s:B7}{σ:St}{H:Hp}{x:Str}{u:Value}{pos:Pos}{Q:Value→B7→Prop} (I:Inv X pins σ H s) (hg:Gl X x) (hm:X.mg x=some u) (h:Q u s)
  (hd:(x==("__debug__":Str))=false:=by decide):wpAny (model X.prog X.w) X.A (eval (.Name x pos) X.env) Q E s:=
 HU I.ok.kind hg (Calls.loadGlobal_global (by rw[I.ok.glob];exact I.mod.glob.keeps I.bk) hm h) hd
theorem c_ {E:Value→B7→Prop}{pins:List (Addr×Obj)}{s:B7}{σ:St}{H:Hp}{x:Str}{u:Value}{pos:Pos}{Q:Value→B7→Prop} (I:Inv X pins σ H s) (hg:Gl X x) (hm:X.mg x=none) (hv:EJ x=some u) (h:Q u s)
  (hn:x≠"__name__":=by decide) (hd:(x==("__debug__":Str))=false:=by decide):wpAny (model X.prog X.w) X.A (eval (.Name x pos) X.env) Q E s:=by
 obtain ⟨mb,h1,h2⟩:=I.mod.blt
 exact HU I.ok.kind hg (Calls.loadGlobal_builtin (by rw[I.ok.glob];exact I.mod.glob.keeps I.bk) hm (by rw[I.ok.blt];exact h1.keeps I.bk) ((h2 x hn).trans hv) h) hd
theorem yk {x:Str}{v:V}{u:Value}{pos:Pos} (hg:Gl X x) (hm:X.mg x=some u) (r:bg v u) (hd:(x==("__debug__":Str))=false:=by decide):PE X (.Name x pos) (tC v):=
 fun _ _ _ H _ I h=>hV I hg hm ⟨v,H,I,r,h⟩ hd
theorem yt {x:Str}{v:V}{u:Value}{pos:Pos} (hg:Gl X x) (hm:X.mg x=none) (hv:EJ x=some u) (r:bg v u) (hn:x≠"__name__":=by decide) (hd:(x==("__debug__":Str))=false:=by decide):PE X (.Name x pos) (tC v):=
 fun _ _ _ H _ I h=>c_ I hg hm hv ⟨v,H,I,r,h⟩ hn hd
variable {a b:Expr}{ta tb:TE}{pos:Pos}
def tB (t:TE):TT:=fun σ H Q=>t σ H fun x H1=>∃c,x=.bl c∧Q c H1
theorem zL {e:Expr}{t:TE} (h:PE X e t) (he:∀whole,isTrue e X.env whole=(do let v ←whole;standAt e.pos;holding [v] (truthy v)):=by intro _;rfl):PT X e (tB t):=by
 intro pins s σ H Q I hw
 refine isTrue_plain (thn (h pins s σ H _ I hw) fun v s1 ⟨x,H1,I1,r1,q1⟩=>?_) (he _)
 obtain ⟨d,rfl,q⟩:=q1
 cases r1
 exact E5 ⟨H1,I1,q⟩
variable {tA tB':TT}{rest:List Expr}
def BD (t u:TT):TT:=fun σ H Q=>t σ H fun c H1=>if c=true then u σ H1 Q else Q false H1
def tOr (t u:TT):TT:=fun σ H Q=>t σ H fun c H1=>if c=true then Q true H1 else u σ H1 Q
def BX (t:TT):TT:=fun σ H Q=>t σ H fun c H1=>Q (!c) H1
theorem xu (ha:PT X a tA):PW X (.BoolOp .And [a] pos) tA:=by
 intro wh pins s σ H Q I h
 refine isTrue_and (thn (ha pins s σ H Q I h) fun c s1 e=>?_)
 cases c with
 |true=>exact isTrue_and_nil e
 |false=>exact e
theorem zC (ha:PT X a tA):PW X (.BoolOp .Or [a] pos) tA:=by
 intro wh pins s σ H Q I h
 refine isTrue_or (thn (ha pins s σ H Q I h) fun c s1 e=>?_)
 cases c with
 |false=>exact isTrue_or_nil e
 |true=>exact e
theorem wV (ha:PT X a tA) (hb:PW X (.BoolOp .And (b::rest) pos) tB'):PW X (.BoolOp .And (a::b::rest) pos) (BD tA tB'):=by
 intro wh pins s σ H Q I h
 refine isTrue_and (thn (ha pins s σ H _ I h) fun c s1 ⟨H1,I1,q1⟩=>?_)
 cases c with
 |true=>exact hb wh pins s1 σ H1 Q I1 q1
 |false=>exact ⟨H1,I1,q1⟩
theorem zg (ha:PT X a tA) (hb:PW X (.BoolOp .Or (b::rest) pos) tB'):PW X (.BoolOp .Or (a::b::rest) pos) (tOr tA tB'):=by
 intro wh pins s σ H Q I h
 refine isTrue_or (thn (ha pins s σ H _ I h) fun c s1 ⟨H1,I1,q1⟩=>?_)
 cases c with
 |true=>exact ⟨H1,I1,q1⟩
 |false=>exact hb wh pins s1 σ H1 Q I1 q1
theorem AF (ha:PT X a tA):PT X (.UnaryOp .Not a pos) (BX tA):=by
 intro pins s σ H Q I h
 exact isTrue_not (ha pins s σ H (fun c H1=>Q (!c) H1) I h)
def Bp (ta tb:TE):TE:=fun σ H Q=>ta σ H fun x H1=>∃c,x=.bl c∧if c=true then tb σ H1 Q else Q (.bl false) H1
def A0 (ta:TE):TE:=fun σ H Q=>ta σ H fun x H1=>∃c,x=.bl c∧Q (.bl (!c)) H1
theorem AG {op}{t:TE} (h:PE X a t):PE X (.BoolOp op [a] pos) t:=fun pins s σ H Q I hw=>BoolOp_one (h pins s σ H Q I hw)
theorem wj (ha:PE X a ta) (hb:PE X (.BoolOp .And (b::rest) pos) tb):PE X (.BoolOp .And (a::b::rest) pos) (Bp ta tb):=by
 intro pins s σ H Q I h
 refine BoolOp_and (thn (ha pins s σ H _ I h) fun v s1 ⟨x,H1,I1,r1,q1⟩=>?_)
 obtain ⟨c,rfl,q1⟩:=q1
 cases r1
 refine E5 ?_
 cases c with
 |true=>exact hb pins s1 σ H1 Q I1 q1
 |false=>exact ⟨.bl false,H1,I1,rfl,q1⟩
theorem Aj (ha:PE X a ta):PE X (.UnaryOp .Not a pos) (A0 ta):=by
 intro pins s σ H Q I h
 refine UnaryOp_ (thn (ha pins s σ H _ I h) fun v s1 ⟨x,H1,I1,r1,q1⟩=>?_)
 obtain ⟨c,rfl,q1⟩:=q1
 cases r1
 exact not_of (E5 ⟨.bl (!c),H1,I1,rfl,q1⟩)
end
def SqL (K:B2) (H:Hp) (a:Addr) (xs:List V):Prop:=
 Rd H a (.lst xs)∨
  ∃(o:Obj) (its:Array Value) (n:Nat),K.lookup a=some o∧o.cls=.type "list"∧o.dict=none∧o.data=.seq its n∧its.size≤sizeLine∧aO xs its.toList
def SqT (K:B2) (H:Hp) (a:Addr) (xs:List V):Prop:=
 Rd H a (.tup xs)∨
  ∃(o:Obj) (its:Array Value) (n:Nat),K.lookup a=some o∧o.cls=.type "tuple"∧o.data=.seq its n∧its.size≤sizeLine∧aO xs its.toList
def Bz:Value→Option V
 | .none=>some .non
 | .bool b=>some (.bl b)
 | .int i _=>some (.int i)
 | .str x _=>some (.str x)
 | .bytes b _=>some (.byt b)
 | .float b _=>some (.flt b)
 | .ref a=>some (.ref a)
 | .type n=>some (.ty n)
 |_=>none
theorem bg.abs {x:V}{u:Value} (r:bg x u):Bz u=some x:=by
 cases x with
 |non=>cases r;rfl
 |bl _=>cases r;rfl
 |int _=>obtain ⟨t,rfl⟩:=r;rfl
 |str _=>obtain ⟨t,rfl⟩:=r;rfl
 |byt _=>obtain ⟨t,rfl⟩:=r;rfl
 |flt _=>obtain ⟨t,rfl⟩:=r;rfl
 |ref _=>cases r;rfl
 |ty _=>cases r;rfl
theorem bg.inj {x y:V}{u:Value} (r:bg x u) (q:bg y u):x=y:=Du (r.abs.symm.trans q.abs)
theorem aO.inj:∀{xs ys:List V}{us:List Value},aO xs us→aO ys us→xs=ys
 |_,_,_,.nil,.nil=>rfl
 |_,_,_,.cons r t,.cons r' t'=>by rw[r.inj r',aO.inj t t']
section
variable {X:Cx}{pins:List (Addr×Obj)}{σ:St}{H:Hp}{s:B7}{a:Addr}{xs ys:List V}
theorem SqL.of {K:B2} (h:H a=some (.lst xs)):SqL K H a xs:=.inl (.inl h)
theorem SqT.of {K:B2} (h:H a=some (.tup xs)):SqT K H a xs:=.inl (.inl h)
theorem Inv.list (I:Inv X pins σ H s) (h:SqL X.K H a xs):∃its:List Value,aO xs its∧PlainL s.heap a its.toArray∧xs.length≤sizeLine:=by
 rcases h with h |⟨o,its,n,hk,hc,hd,hs,hz,r⟩
 ·obtain ⟨z,its,n,r,e⟩:=h.ok I.hok
  exact ⟨its,r,⟨_,n,e,rfl,rfl,rfl⟩,z⟩
 ·refine ⟨its.toList,r,⟨o,n,I.kIn a o hk,hc,hd,by simpa using hs⟩,?_⟩
  have e:=r.length
  simp only[Cc] at e
  lia
theorem Inv.tuple (I:Inv X pins σ H s) (h:SqT X.K H a xs):∃its:List Value,aO xs its∧IsTup s.heap a its.toArray∧xs.length≤sizeLine:=by
 rcases h with h |⟨o,its,n,hk,hc,hs,hz,r⟩
 ·obtain ⟨z,its,r,p⟩:=h.ok I.hok
  exact ⟨its,r,p,z⟩
 ·refine ⟨its.toList,r,⟨o,I.kIn a o hk,hc,n,by simpa using hs⟩,?_⟩
  have e:=r.length
  simp only[Cc] at e
  lia
theorem Inv.list_inj (I:Inv X pins σ H s) (h:SqL X.K H a xs) (h':SqL X.K H a ys):xs=ys:=by
 obtain ⟨its,r,⟨o,n,e,_,_,d⟩,_⟩:=I.list h
 obtain ⟨its',r',⟨o',n',e',_,_,d'⟩,_⟩:=I.list h'
 rw[e] at e';cases e'
 rw[d] at d'
 injection d' with d1 _
 have:its=its':=by simpa using congrArg Mm d1
 subst this
 exact r.inj r'
theorem Inv.tuple_inj (I:Inv X pins σ H s) (h:SqT X.K H a xs) (h':SqT X.K H a ys):xs=ys:=by
 obtain ⟨its,r,⟨o,e,_,n,d⟩,_⟩:=I.tuple h
 obtain ⟨its',r',⟨o',e',_,n',d'⟩,_⟩:=I.tuple h'
 rw[e] at e';cases e'
 rw[d] at d'
 injection d' with d1 _
 have:its=its':=by simpa using congrArg Mm d1
 subst this
 exact r.inj r'
end
abbrev Cx.wish (X:Cx) (E:Value→B7→Prop):Cx:={X with xe:=E }
abbrev Cx.nox (X:Cx):Cx:=X.wish fun _ _=>False
theorem Cx.Ok.wish {X:Cx} (ok:X.Ok) (E:Value→B7→Prop):(X.wish E).Ok:=
 ⟨ok.mod,ok.kind,ok.glob,ok.blt,ok.above,ok.inj,ok.has,ok.cab,ok.hd,ok.frames,ok.stk,ok.exf,ok.bs,ok.bsz,ok.noex,ok.exfs,ok.funs,ok.frf⟩
theorem Cx.Ok.unwish {X:Cx}{E:Value→B7→Prop} (ok:(X.wish E).Ok):X.Ok:=
 ⟨ok.mod,ok.kind,ok.glob,ok.blt,ok.above,ok.inj,ok.has,ok.cab,ok.hd,ok.frames,ok.stk,ok.exf,ok.bs,ok.bsz,ok.noex,ok.exfs,ok.funs,ok.frf⟩
section
variable {X:Cx}{pins:List (Addr×Obj)}{σ:St}{H:Hp}{s:B7}{E:Value→B7→Prop}
theorem Inv.wish (I:Inv X pins σ H s) (E:Value→B7→Prop):Inv (X.wish E) pins σ H s:=⟨I.ok.wish E,I.os,I.bare,I.base,I.loc,I.cell,I.free,I.freeC,I.pin,I.hok,I.len⟩
theorem Inv.unwish (I:Inv (X.wish E) pins σ H s):Inv X pins σ H s:=⟨I.ok.unwish,I.os,I.bare,I.base,I.loc,I.cell,I.free,I.freeC,I.pin,I.hok,I.len⟩
theorem SP.unwish {D:kA}{f:Flow}{s':B7} (h:SP (X.wish E) pins D f s'):SP X pins D f s':=by
 cases f with
 |next=>obtain ⟨σ',H',I,q⟩:=h;exact ⟨σ',H',I.unwish,q⟩
 |brk=>obtain ⟨σ',H',I,q⟩:=h;exact ⟨σ',H',I.unwish,q⟩
 |cont=>obtain ⟨σ',H',I,q⟩:=h;exact ⟨σ',H',I.unwish,q⟩
 |ret u=>obtain ⟨v,σ',H',I,r,q⟩:=h;exact ⟨v,σ',H',I.unwish,r,q⟩
theorem PSs.nox {st:List Stmt}{t:TS} (h:PSs X.nox st t):PSs X st t:=fun pins s σ H D I hw=>
 E4 (h pins s σ H D (I.wish _) hw) (fun _ _ q=>q.unwish) fun _ _ z=>False.elim z
end
section
variable {X:Cx}{st:Stmt}{rest:List Stmt}{t u:TS}{e:Expr}{te:TE}{pos:Pos}
def Bm:TS:=fun D σ H=>D.nx σ H
def BK (t u:TS):TS:=fun D σ H=>t {D with nx:=u D } σ H
theorem yu:PSs X [] Bm:=fun _ _ σ H _ I h=>GE ⟨σ,H,I,h⟩
theorem vS (h1:PS X st t) (h2:PSs X rest u):PSs X (st::rest) (BK t u):=by
 intro pins s σ H D I h
 refine KF (thn (h1 pins s σ H {D with nx:=u D } I h) fun f s1 q=>?_)
 cases f with
 |next=>
  obtain ⟨σ',H',I',q⟩:=q
  exact h2 pins s1 σ' H' D I' q
 |ret v=>exact q
 |brk=>exact q
 |cont=>exact q
theorem Inv.quiet {pins:List (Addr×Obj)}{σ:St}{H:Hp}{s:B7} (I:Inv X pins σ H s):interactive X.env=false:=by simp[interactive,I.ok.kind]
def AR (te:TE):TS:=fun D σ H=>te σ H fun _ H1=>D.nx σ H1
theorem gY (he:PE X e te) (hs:Fv e none pos.line X.env=pure false:=by rfl):PS X (.Expr e pos) (AR te):=by
 intro pins s σ H D I h
 exact wpAny_Expr_any (thn (he pins s σ H _ I h) fun v s1 ⟨x,H1,I1,r1,q1⟩=>⟨σ,H1,I1,q1⟩) I.quiet hs
def Bx (te:TE):TS:=fun D σ H=>te σ H D.rt
theorem pV (he:PE X e te):PS X (.Return (some e) pos) (Bx te):=by
 intro pins s σ H D I h
 exact wpAny_Return_some (thn (he pins s σ H _ I h) fun v s1 ⟨x,H1,I1,r1,q1⟩=>⟨x,σ,H1,I1,r1,q1⟩)
def BA (c:TT) (t u:TS):TS:=fun D σ H=>c σ H fun b H1=>if b=true then t D σ H1 else u D σ H1
theorem yP {c:Expr}{a b:List Stmt}{tc:TT} (hc:PT X c tc) (ha:PSs X a t) (hb:PSs X b u):PS X (.If c a b pos) (BA tc t u):=by
 intro pins s σ H D I h
 refine wpAny_If (thn (hc pins s σ H _ I h) fun d s1 ⟨H1,I1,q1⟩=>?_)
 cases d with
 |true=>exact ha pins s1 σ H1 D I1 q1
 |false=>exact hb pins s1 σ H1 D I1 q1
def ul:TS:=fun _ _ _=>False
theorem tI {sts:List Stmt}:PSs X sts ul:=fun _ _ _ _ _ _ h=>h.elim
end
abbrev TG:=V→St→Hp→(St→Hp→Prop)→Prop
abbrev TGs:=List V→St→Hp→(St→Hp→Prop)→Prop
def PG (X:Cx) (target:Expr) (t:TG):Prop:=
 ∀(pins:List (Addr×Obj)) (s:B7) (σ:St) (H:Hp) (v:V) (u:Value) (Q:St→Hp→Prop),Inv X pins σ H s→bg v u→t v σ H Q→
  wpAny (model X.prog X.w) X.A (assign target X.env u) (fun _ s'=>∃σ' H',Inv X pins σ' H' s'∧Q σ' H') X.xe s
def PGs (X:Cx) (ts:List Expr) (t:TGs):Prop:=
 ∀(pins:List (Addr×Obj)) (s:B7) (σ:St) (H:Hp) (vs:List V) (us:List Value) (Q:St→Hp→Prop),Inv X pins σ H s→aO vs us→t vs σ H Q→
  wpAny (model X.prog X.w) X.A (assignInOrder ((HG ts X.env).map (·.2)) us) (fun _ s'=>∃σ' H',Inv X pins σ' H' s'∧Q σ' H') X.xe s
section
variable {X:Cx}{pos:Pos}
def nh (i:Nat):TG:=fun v σ H Q=>Q (σ.set i (some v)) H
theorem bM {i:Nat}{x:Str} (hN:X.N.Nodup) (hi:X.N[i]?=some x) (hx:Loc X.env.scope x) (hf:X.fn x=true∨X.env.scope.names.lookup x=some .local:=by first |exact .inl rfl |exact .inr rfl |assumption):PG X (.Name x pos) (nh i):=by
 intro pins s σ H v u Q I r h
 exact Ke (jJ I hN hi hx r (fun s' I'=>⟨_,H,I',h⟩) hf)
def AY:TGs:=fun vs σ H Q=>vs=[]∧Q σ H
def yN (t:TG) (u:TGs):TGs:=fun vs σ H Q=>∃v r,vs=v::r∧t v σ H fun σ' H'=>u r σ' H' Q
theorem mR:PGs X [] AY:=by
 intro pins s σ H vs us Q I r h
 obtain ⟨e,h⟩:=h
 subst e
 cases r
 exact assignInOrder_nil ⟨σ,H,I,h⟩
theorem eE {e:Expr}{es:List Expr}{t:TG}{u:TGs} (h1:PG X e t) (h2:PGs X es u)
  (hs:(HG (e::es) X.env).map (·.2)=assign e X.env::(HG es X.env).map (·.2):=by rfl):PGs X (e::es) (yN t u):=by
 intro pins s σ H vs us Q I r h
 obtain ⟨v,vr,e1,h⟩:=h
 subst e1
 cases r with
 |cons r rr=>
  rw[hs]
  refine assignInOrder_cons (thn (h1 pins s σ H _ _ _ I r h) fun _ s1 ⟨σ1,H1,I1,q1⟩=>?_)
  exact h2 pins s1 σ1 H1 _ _ Q I1 rr q1
def AX (K:B2) (n:Nat) (t:TGs):TG:=fun v σ H Q=>∃a xs,v=.ref a∧SqT K H a xs∧xs.length=n∧t xs σ H Q
theorem pJ {es:List Expr}{k:Nat}{t:TGs}{n:Nat} (hc:X.calm=true) (h:PGs X es t)
  (hn:(HG es X.env).length=n:=by rfl) (hst:(HG es X.env).findIdx? (·.1)=none:=by rfl):PG X (.Tuple es k pos) (AX X.K n t):=by
 intro pins s σ H v u Q I r hw
 obtain ⟨a,xs,e1,hq,hl,hw⟩:=hw
 subst e1
 cases r
 obtain ⟨its,rv,ht,hz⟩:=I.tuple hq
 refine assign_Tuple_tuple (I.ok.hd hc) ht (by simp[hn,←hl,rv.length]) hst fun h' hx=>?_
 have I1:Inv X pins σ H {s with heap:=h' }:=I.kept (t':=s.toks) fun b o e=>hx b o (CP (Cf e)) e
 exact h pins _ σ H xs _ Q I1 (by simpa using rv) hw
def Bb (te:TE) (g:TG):TS:=fun D σ H=>te σ H fun x H1=>g x σ H1 D.nx
theorem wD {i:Nat}{x:Str}{e:Expr}{te:TE}{pos':Pos} (hN:X.N.Nodup) (hi:X.N[i]?=some x) (hx:Loc X.env.scope x) (he:PE X e te) (hs:Fv e (some (.Name x pos')) pos.line X.env=pure false:=by rfl) (hf:X.fn x=true∨X.env.scope.names.lookup x=some .local:=by first |exact .inl rfl |exact .inr rfl |assumption):
  PS X (.Assign [.Name x pos'] e pos) (Bb te (nh i)):=by
 intro pins s σ H D I h
 refine Kf (thn (he pins s σ H _ I h) fun v s1 ⟨y,H1,I1,r1,q1⟩=>?_) hs
 exact jJ I1 hN hi hx r1 (fun s2 I2=>⟨_,H1,I2,q1⟩) hf
end
section
variable {X:Cx}{pos:Pos}
def Az (c:TT) (tb:TS):TS:=fun D σ H=>∃W:Nat→St→Hp→Prop,(∃m,W m σ H)∧∀m σ H,W m σ H→
 c σ H fun b H1=>if b=true then ∃N:St→Hp→Prop,(∀σ' H',N σ' H'→∃m',m' < m∧W m' σ' H')∧tb {D with nx:=N,ct:=N,bk:=D.nx } σ H1 else D.nx σ H1
theorem wC {c:Expr}{body:List Stmt}{tc:TT}{tb:TS} (hp:Ja (model X.prog X.w) X.A X.env X.xe) (hc:PT X c tc) (hb:PSs X body tb):PS X (.While c body [] pos) (Az tc tb):=by
 intro pins s σ H D I h
 obtain ⟨W,⟨m0,w0⟩,turn⟩:=h
 refine wpAny_While (codeAny_whileLoop (fun n s'=>∃σ' H',Inv X pins σ' H' s'∧W n σ' H') ?_ m0 ⟨σ,H,I,w0⟩)
 rintro n s1 ⟨σ1,H1,I1,w1⟩
 refine Fw hp (thn (hc pins s1 σ1 H1 _ I1 (turn n σ1 H1 w1)) fun b s2 ⟨H2,I2,q2⟩=>?_)
 cases b with
 |true=>
  obtain ⟨N,hN,q2⟩:=q2
  rw[if_pos rfl]
  refine Fw hp (thn (hb pins s2 σ1 H2 _ I2 q2) fun f s3 q3=>?_)
  cases f with
  |next=>
   obtain ⟨σ3,H3,I3,n3⟩:=q3
   obtain ⟨m',hm,w3⟩:=hN σ3 H3 n3
   exact ⟨m',hm,σ3,H3,I3,w3⟩
  |cont=>
   obtain ⟨σ3,H3,I3,n3⟩:=q3
   obtain ⟨m',hm,w3⟩:=hN σ3 H3 n3
   exact ⟨m',hm,σ3,H3,I3,w3⟩
  |brk=>exact q3
  |ret v=>exact q3
 |false=>
  rw[if_neg CM]
  exact GE ⟨σ1,H2,I2,q2⟩
end
structure It where
 go:Nat→Hp→Prop
 yld:Nat→Hp→V→Hp→Prop
 stop:Nat→Hp→Prop
def jp (X:Cx) (pins:List (Addr×Obj)) (H:Hp) (b:Addr):Prop:=
 H b=none∧b≠X.env.locals∧b ∉ X.fs∧(b∈X.ex∨X.s₀.heap.objs.size≤b)∧(∀x c,X.env.cells.lookup x=some c→c≠b)∧∀p∈X.pn++pins,p.1≠b
theorem Inv.fpOk {X:Cx}{pins:List (Addr×Obj)}{σ:St}{H H':Hp}{s:B7}{b:Addr} (I:Inv X pins σ H s) (hb:s.heap.objs.size≤b) (hn:H' b=none):jp X pins H' b:=by
 refine ⟨hn,Hj (CT I.lt hb),I.nofs hb,.inr (DZ I.sz hb),fun x c e z=>?_,fun p hp z=>?_⟩
 ·obtain ⟨v,q⟩:=I.cell x c e
  exact absurd (CT q.lt (by rw[z];exact hb)) (CU _)
 ·exact absurd (CT (Cf (I.pin p hp).1) (by rw[z];exact hb)) (CU _)
structure wo (P:Cy) (w:World) (K:B2) (tg:Expr) (J:It) (fp:List Addr) (it:Addr) (tn:Nat→Heap→Prop):Prop where
 mem:it∈fp
 obj:∀i h,tn i h→∀b∈fp,∃o,h.get? b=some o∧∀v,o.data≠.cell v
 keep:∀i h h',tn i h→(∀b∈fp,∀o,h.get? b=some o→h'.get? b=some o)→tn i h'
 item:∀(X:Cx),X.prog=P→X.w=w→X.K=K→X.calm=true→∀(i:Nat) (pins:List (Addr×Obj)) (s:B7) (σ:St) (H:Hp) (E:Value→B7→Prop),Inv X pins σ H s→(∀b∈fp,jp X pins H b)→tn i s.heap→J.go i H→
  wpAny (model P w) X.A (Gk (.ref it)) (fun r s1=>∃u,r=some u∧
   wpAny (model P w) X.A (Jb tg (.ref it) u) (fun _ s2=>∃x H',Inv X pins σ H' s2∧bg x u∧J.yld i H x H'∧tn (i+1) s2.heap∧∀b∈fp,H' b=none) E s1) E s
 done:∀(X:Cx),X.prog=P→X.w=w→X.K=K→X.calm=true→∀(i:Nat) (pins:List (Addr×Obj)) (s:B7) (σ:St) (H:Hp) (E:Value→B7→Prop),Inv X pins σ H s→(∀b∈fp,jp X pins H b)→tn i s.heap→J.stop i H→
  wpAny (model P w) X.A (Gk (.ref it)) (fun r s1=>r=none∧Inv X pins σ H s1) E s
 self:∀(A:Dc) (i:Nat) (s:B7) (Q:Value→B7→Prop) (E:Value→B7→Prop),tn i s.heap→Q (.ref it) s→wpAny (model P w) A (KY (.ref it)) Q E s
abbrev TI:=St→Hp→(It→Hp→Prop)→Prop
def PIE (X:Cx) (pins:List (Addr×Obj)) (σ:St) (tg:Expr) (R:It→Hp→Prop) (itv:Value) (s2:B7):Prop:=
 ∃(it:Addr) (fp:List Addr) (tn:Nat→Heap→Prop) (J:It) (H':Hp),itv=.ref it∧Inv X pins σ H' s2∧wo X.prog X.w X.K tg J fp it tn∧tn 0 s2.heap∧(∀b∈fp,jp X pins H' b)∧R J H'
def PI (X:Cx) (tg iter:Expr) (wi:TI):Prop:=
 ∀(pins:List (Addr×Obj)) (s:B7) (σ:St) (H:Hp) (R:It→Hp→Prop),Inv X pins σ H s→wi σ H R→
  wpAny (model X.prog X.w) X.A (eval iter X.env) (fun v s1=>wpAny (model X.prog X.w) X.A (KY v) (PIE X pins σ tg R) X.xe s1) X.xe s
theorem rV {M:Model}{A:Dc}{E:Value→B7→Prop}{s:B7}{tg:Expr}{it:Addr}{u:Value}{o:Obj}{n:String}{vs:Array Value}{Q:Unit→B7→Prop} (ho:s.heap.get? it=some o) (hc:o.cls=.type n) (hd:o.data=.fields vs)
  (hn:["enumerate","zip","dict_itemiterator","dict_reverseitemiterator","odict_iterator","itertools.zip_longest","itertools.pairwise"].contains n=false) (hQ:Q () s):wpAny M A (Jb tg (.ref it) u) Q E s:=by
 unfold Jb
 cases tg <;>first
  |exact B6 hQ
  | (cases u <;>first
    |exact B6 hQ
    | (refine B0 (wpAny_load ho ?_)
       rw[hc,hd]
       show wpAny M A (if (["enumerate","zip","dict_itemiterator","dict_reverseitemiterator","odict_iterator","itertools.zip_longest","itertools.pairwise"].contains n && vs[0]?==some (HY _))=true then _ else _) Q E s
       rw[if_neg (by intro h;rw[hn,Bool.false_and] at h;cases h)]
       exact B6 hQ))
def Itl (K:B2) (a:Addr):It:=
 ⟨fun i H=>∃xs x,SqL K H a xs∧xs[i]?=some x,fun i H x H'=>H'=H∧∀xs,SqL K H a xs→xs[i]?=some x,fun i H=>∃xs,SqL K H a xs∧xs.length≤i⟩
def Itt (K:B2) (a:Addr):It:=
 ⟨fun i H=>∃xs x,SqT K H a xs∧xs[i]?=some x,fun i H x H'=>H'=H∧∀xs,SqT K H a xs→xs[i]?=some x,fun i H=>∃xs,SqT K H a xs∧xs.length≤i⟩
def Itr (lo:Int) (n:Nat):It:=⟨fun i _=>i < n,fun i H x H'=>H'=H∧x=.int (lo+i),fun i _=>n≤i⟩
theorem s_ {P:Cy}{w:World}{K:B2}{tg:Expr} (a it:Addr):wo P w K tg (Itl K a) [it] it (fun i h=>h.IsListIter it a i) where
 mem:=by simp
 obj:=fun i h st b hb=>by
  have e:b=it:=by simpa using hb
  subst e
  obtain ⟨o,e,c,d⟩:=st
  exact ⟨o,e,fun v z=>by rw[d] at z;cases z⟩
 keep:=fun i h h' st k=>st.at fun o e=>k it (by simp) o e
 item:=by
  intro X hP hw hK hc i pins s σ H E I hf st hg
  subst hP hw hK
  obtain ⟨xs,x,hq,hx⟩:=hg
  obtain ⟨its,rv,p,hz⟩:=I.list hq
  obtain ⟨u,hu,ru⟩:=rv.get hx
  obtain ⟨f0,f1,f2,f3,f4,f5⟩:=hf it (by simp)
  refine wpAny_pyNext_list_item st p.isList (x:=u) (by simpa using hu) fun h' st' sb=>?_
  have I1:Inv X pins σ H {s with heap:=h' }:=I.turned (t':=s.toks) (fun b o hb e=>(sb.2 b hb).trans e) f0 f1 f3 f4 f5
  obtain ⟨o,e,c,d⟩:=id st'
  exact ⟨u,rfl,rV (s:={s with heap:=h' }) e c d (by decide) ⟨x,H,I1,ru,⟨rfl,fun ys hy=>by rw[I.list_inj hy hq];exact hx⟩,st',fun b hb=>(hf b hb).1⟩⟩
 done:=by
  intro X hP hw hK hc i pins s σ H E I hf st hg
  subst hP hw hK
  obtain ⟨xs,hq,hx⟩:=hg
  obtain ⟨its,rv,p,hz⟩:=I.list hq
  obtain ⟨f0,f1,f2,f3,f4,f5⟩:=hf it (by simp)
  have hl:=rv.length
  exact wpAny_pyNext_list_end (I.ok.hd hc) st p.isList (by simp;lia) fun h' eb=>⟨rfl,I.turned (t':=s.toks) (fun b o hb e=>eb b o hb e) f0 f1 f3 f4 f5⟩
 self:=fun _ _ _ _ _ st h=>wpAny_pyIter_listiter st h
theorem oS {P:Cy}{w:World}{K:B2}{tg:Expr} (a it:Addr):wo P w K tg (Itt K a) [it] it (fun i h=>h.IsTupleIter it a i) where
 mem:=by simp
 obj:=fun i h st b hb=>by
  have e:b=it:=by simpa using hb
  subst e
  obtain ⟨o,e,c,d⟩:=st
  exact ⟨o,e,fun v z=>by rw[d] at z;cases z⟩
 keep:=fun i h h' st k=>st.at fun o e=>k it (by simp) o e
 item:=by
  intro X hP hw hK hc i pins s σ H E I hf st hg
  subst hP hw hK
  obtain ⟨xs,x,hq,hx⟩:=hg
  obtain ⟨its,rv,p,hz⟩:=I.tuple hq
  obtain ⟨u,hu,ru⟩:=rv.get hx
  obtain ⟨f0,f1,f2,f3,f4,f5⟩:=hf it (by simp)
  refine wpAny_pyNext_tuple_item st (show s.heap.IsTuple a its.toArray from p) (x:=u) (by simpa using hu) fun h' st' sb=>?_
  have I1:Inv X pins σ H {s with heap:=h' }:=I.turned (t':=s.toks) (fun b o hb e=>(sb.2 b hb).trans e) f0 f1 f3 f4 f5
  obtain ⟨o,e,c,d⟩:=id st'
  exact ⟨u,rfl,rV (s:={s with heap:=h' }) e c d (by decide) ⟨x,H,I1,ru,⟨rfl,fun ys hy=>by rw[I.tuple_inj hy hq];exact hx⟩,st',fun b hb=>(hf b hb).1⟩⟩
 done:=by
  intro X hP hw hK hc i pins s σ H E I hf st hg
  subst hP hw hK
  obtain ⟨xs,hq,hx⟩:=hg
  obtain ⟨its,rv,p,hz⟩:=I.tuple hq
  obtain ⟨f0,f1,f2,f3,f4,f5⟩:=hf it (by simp)
  have hl:=rv.length
  exact wpAny_pyNext_tuple_end (I.ok.hd hc) st (show s.heap.IsTuple a its.toArray from p) (by simp;lia) fun h' eb=>⟨rfl,I.turned (t':=s.toks) (fun b o hb e=>eb b o hb e) f0 f1 f3 f4 f5⟩
 self:=fun _ _ _ _ _ st h=>wpAny_pyIter_tupleiter st h
theorem jt {P:Cy}{w:World}{K:B2}{tg:Expr} (it:Addr) (lo:Int) (n:Nat):wo P w K tg (Itr lo n) [it] it (fun i h=>KZ h it (lo+(i:Nat) *1) ((n:Int) - (i:Nat)) 1) where
 mem:=by simp
 obj:=fun i h st b hb=>by
  have e:b=it:=by simpa using hb
  subst e
  exact ⟨_,st,fun v z=>by
   have z':Data.fields _=Data.cell v:=z
   cases z'⟩
 keep:=fun i h h' st k=>k it (by simp) _ st
 item:=by
  intro X hP hw hK hc i pins s σ H E I hf st hg
  subst hP hw hK
  obtain ⟨f0,f1,f2,f3,f4,f5⟩:=hf it (by simp)
  have W:=Walks.range (prog:=X.prog) (w:=X.w) (I.ok.hd hc) it lo 1 n
  refine W.item i s _ _ hg st fun v h' tk hv st' kk=>?_
  obtain ⟨t,rfl⟩:=hv
  have I1:Inv X pins σ H {s with heap:=h',toks:=tk }:=I.turned (fun b o hb e=>kk b o (by simpa using hb) e) f0 f1 f3 f4 f5
  refine ⟨_,rfl,rV (s:={s with heap:=h',toks:=tk }) (n:="range_iterator") st' rfl rfl (by decide) ⟨.int (lo+i),H,I1,⟨t,?_⟩,⟨rfl,rfl⟩,st',fun b hb=>(hf b hb).1⟩⟩
  rw[IA]
 done:=by
  intro X hP hw hK hc i pins s σ H E I hf st hg
  subst hP hw hK
  obtain ⟨f0,f1,f2,f3,f4,f5⟩:=hf it (by simp)
  exact wpAny_pyNext_range_end (I.ok.hd hc) st (by have:n≤i:=hg;lia) fun h' eb=>⟨rfl,I.turned (t':=s.toks) (fun b o hb e=>eb b o hb e) f0 f1 f3 f4 f5⟩
 self:=fun _ _ _ _ _ st h=>wpAny_pyIter_rangeiter st h
section
variable {X:Cx}{tg:Expr}
def AM (K:B2) (tl:TE):TI:=fun σ H R=>tl σ H fun x H1=>∃a,x=.ref a∧(∃xs,SqL K H1 a xs)∧R (Itl K a) H1
def By (K:B2) (tl:TE):TI:=fun σ H R=>tl σ H fun x H1=>∃a,x=.ref a∧(∃xs,SqT K H1 a xs)∧R (Itt K a) H1
theorem yj {l:Expr}{tl:TE} (hl:PE X l tl):PI X tg l (AM X.K tl):=by
 intro pins s σ H R I h
 refine thn (hl pins s σ H _ I h) fun v s1 ⟨x,H1,I1,r1,q1⟩=>?_
 obtain ⟨a,e,⟨xs,hq⟩,q⟩:=q1
 subst e
 cases r1
 obtain ⟨its,rv,p,hz⟩:=I1.list hq
 refine EM p.isList ?_
 refine ⟨s1.heap.objs.size,[s1.heap.objs.size],_,_,H1,rfl,I1.kept (t':=s1.toks) fun b o e=>B5 _ e,s_ a _,⟨_,Cm _ rfl,rfl,rfl⟩,fun b hb=>?_,q⟩
 have e:b=s1.heap.objs.size:=by simpa using hb
 subst e
 exact I1.fpOk (B9 _) (I1.hok.fresh (B9 _))
theorem zw {l:Expr}{tl:TE} (hl:PE X l tl):PI X tg l (By X.K tl):=by
 intro pins s σ H R I h
 refine thn (hl pins s σ H _ I h) fun v s1 ⟨x,H1,I1,r1,q1⟩=>?_
 obtain ⟨a,e,⟨xs,hq⟩,q⟩:=q1
 subst e
 cases r1
 obtain ⟨its,rv,p,hz⟩:=I1.tuple hq
 refine wpAny_pyIter_tuple (show s1.heap.IsTuple a its.toArray from p) ?_
 refine ⟨s1.heap.objs.size,[s1.heap.objs.size],_,_,H1,rfl,I1.kept (t':=s1.toks) fun b o e=>B5 _ e,oS a _,⟨_,Cm _ rfl,rfl,rfl⟩,fun b hb=>?_,q⟩
 have e:b=s1.heap.objs.size:=by simpa using hb
 subst e
 exact I1.fpOk (B9 _) (I1.hok.fresh (B9 _))
theorem vC {pins:List (Addr×Obj)}{σ:St}{H:Hp}{s:B7}{R:It→Hp→Prop}{E:Value→B7→Prop}{lo hi:Int}{t u v:Tok}{tk:Nat} (I:Inv X pins σ H s) (h1:-(2 ^ 62)≤lo) (h2:lo < 2 ^ 62) (h3:-(2 ^ 62)≤hi) (h4:hi < 2 ^ 62)
  (q:R (Itr lo (hi - lo).toNat) H):wpAny (model X.prog X.w) X.A (KY (.ref s.heap.objs.size)) (PIE X pins σ tg R) E {s with heap:=s.heap.push {cls:=.type "range",data:=.fields #[.int lo t,.int hi u,.int 1 v] },toks:=tk }:=by
 refine JR (IsRange.new ..) (small_one h1 h2 h3 h4) ?_
 have I1:Inv X pins σ H {s with heap:=s.heap.push {cls:=.type "range",data:=.fields #[.int lo t,.int hi u,.int 1 v] },toks:=tk }:=I.kept fun b o e=>B5 _ e
 refine ⟨(s.heap.push {cls:=.type "range",data:=.fields #[.int lo t,.int hi u,.int 1 v] }).objs.size,[(s.heap.push {cls:=.type "range",data:=.fields #[.int lo t,.int hi u,.int 1 v] }).objs.size],_,_,H,rfl,
  I1.kept (t':=tk) fun b o e=>B5 _ e,jt _ lo (hi - lo).toNat,?_,fun b hb=>?_,q⟩
 ·have e1:lo+((0:Nat):Int) *1=lo:=by simp
  have e2:(((hi - lo).toNat:Nat):Int) - ((0:Nat):Int)=Builtin.Range.rangeSize lo hi 1:=by rw[rangeSize_one];split <;>lia
  show KZ _ _ (lo+((0:Nat):Int) *1) ((((hi - lo).toNat:Nat):Int) - ((0:Nat):Int)) 1
  rw[e1,e2]
  exact Cm _ rfl
 ·have e:b=(s.heap.push {cls:=.type "range",data:=.fields #[.int lo t,.int hi u,.int 1 v] }).objs.size:=by simpa using hb
  subst e
  exact I1.fpOk (B9 _) (I1.hok.fresh (B9 _))
def AL (ta:TA):TI:=fun σ H R=>ta σ H fun vs H1=>∃j:Int,vs=[.int j]∧-(2 ^ 62)≤j∧j < 2 ^ 62∧R (Itr 0 j.toNat) H1
theorem tw {a:Expr}{ta:TA}{p pos:Pos} (hg:Gl X "range") (hm:X.mg "range"=none) (ha:PA X [a] ta) (hs:Ce [a] X.env=[(false,eval a X.env)]:=by rfl):PI X tg (.Call (.Name "range" p) [a] [] pos) (AL ta):=by
 intro pins s σ H R I h
 refine Call_ (c_ I hg hm LR (PyProof.Rows.callWith_type1 (thn (ha pos pins s σ H _ I h) fun us s1 ⟨vs,H1,I1,r1,q1⟩=>?_) hs rfl))
 obtain ⟨j,e,q1,q2,q⟩:=q1
 subst e
 cases r1 with
 |cons r rr=>
  cases rr
  obtain ⟨t,rfl⟩:=r
  exact call_range_1 (vC I1 (by lia) (by lia) q1 q2 (by simpa using q))
def BP (wi:TI) (g:TG) (tb:TS):TS:=fun D σ H=>wi σ H fun J H1=>∃W:Nat→Nat→St→Hp→Prop,(∃m,W 0 m σ H1)∧∀i m σ H,W i m σ H→
 (J.stop i H∧D.nx σ H)∨(J.go i H∧∃N:St→Hp→Prop,(∀σ' H',N σ' H'→∃m',m' < m∧W (i+1) m' σ' H')∧∀x H',J.yld i H x H'→g x σ H' fun σ2 H2=>tb {D with nx:=N,ct:=N,bk:=D.nx } σ2 H2)
def jW (fp:List Addr) (h:Heap):List (Addr×Obj):=fp.filterMap fun b=>(h.get? b).map fun o=>(b,o)
theorem cZ {fp:List Addr}{h:Heap}{b:Addr}{o:Obj} (hb:b∈fp) (e:h.get? b=some o):(b,o)∈jW fp h:=GF.mpr ⟨b,hb,by rw[e];rfl⟩
theorem sN {fp:List Addr}{h:Heap}{p:Addr×Obj} (hp:p∈jW fp h):p.1∈fp∧h.get? p.1=some p.2:=by
 obtain ⟨b,hb,e⟩:=GF.mp hp
 cases q:h.get? b with
 |none=>rw[q] at e;cases e
 |some o=>
  rw[q] at e
  have e':(b,o)=p:=Du e
  subst e'
  exact ⟨hb,q⟩
theorem Inv.pinned {pins:List (Addr×Obj)}{σ:St}{H:Hp}{s:B7}{fp:List Addr} (I:Inv X pins σ H s) (hf:∀b∈fp,jp X pins H b) (ho:∀b∈fp,∃o,s.heap.get? b=some o∧∀v,o.data≠.cell v):Inv X (pins++jW fp s.heap) σ H s:=
 I.pins_of fun p hp=>(Dq.mp hp).elim (fun z=>I.pin p (Cz _ z)) fun z=>by
  obtain ⟨hb,e⟩:=sN z
  obtain ⟨f0,f1,f2,_⟩:=hf p.1 hb
  obtain ⟨o,e',d⟩:=ho p.1 hb
  rw[e] at e';cases e'
  exact ⟨e,f0,f1,f2,d⟩
theorem Inv.unpinned {pins pl:List (Addr×Obj)}{σ:St}{H:Hp}{s:B7} (I:Inv X (pins++pl) σ H s):Inv X pins σ H s:=I.pins_of fun p hp=>I.pin p (Cz _ (DC _ hp))
theorem zZ {iter:Expr}{body:List Stmt}{wi:TI}{g:TG}{tb:TS}{pos:Pos} (hp:Ja (model X.prog X.w) X.A X.env X.xe) (hc:X.calm=true) (hi:PI X tg iter wi) (hg:PG X tg g) (hb:PSs X body tb)
  (hs:∀x,DW iter X.env x=pure x:=by intro _;rfl):PS X (.For tg iter body [] pos) (BP wi g tb):=by
 intro pins s σ H D I h
 refine wpAny_For (thn (hi pins s σ H _ I h) fun v s1 h1=>thn h1 fun itv s2 h2=>?_) hs
 obtain ⟨it,fp,tn,J,H2,e,I2,T,st2,f2,W,⟨m0,w0⟩,turn⟩:=h2
 subst e
 have stat:∀{H':Hp},(∀b∈fp,H' b=none)→∀b∈fp,jp X pins H' b:=fun hn b hb=>⟨hn b hb,(f2 b hb).2⟩
 refine codeAny_forLoop_any (fun n s'=>∃i σ' H',Inv X pins σ' H' s'∧tn i s'.heap∧(∀b∈fp,H' b=none)∧W i n σ' H') ?_ m0 ⟨0,σ,H2,I2,st2,fun b hb=>(f2 b hb).1,w0⟩
 rintro n s3 ⟨i,σ3,H3,I3,st3,fr3,w3⟩
 rcases turn i n σ3 H3 w3 with ⟨stop,qn⟩ |⟨go,N,hN,step⟩
 ·refine Fw hp (thn (T.done X rfl rfl rfl hc i pins s3 σ3 H3 X.xe I3 (stat fr3) st3 stop) fun r s4 ⟨hr,I4⟩=>?_)
  subst hr
  exact GE ⟨σ3,H3,I4,qn⟩
 ·refine Fw hp (thn (T.item X rfl rfl rfl hc i pins s3 σ3 H3 X.xe I3 (stat fr3) st3 go) fun r s4 ⟨u,hr,h4⟩=>?_)
  subst hr
  refine Fw hp (thn h4 fun _ s5 ⟨x,H5,I5,r5,y5,st5,fr5⟩=>?_)
  have I5':=I5.pinned (stat fr5) (T.obj _ _ st5)
  refine Fw hp (thn (hg _ s5 σ3 H5 x u _ I5' r5 (step x H5 y5)) fun _ s6 ⟨σ6,H6,I6,q6⟩=>?_)
  refine Fw hp (thn (hb _ s6 σ6 H6 _ I6 q6) fun f s7 q7=>?_)
  have again:∀{σ7:St}{H7:Hp},Inv X (pins++jW fp s5.heap) σ7 H7 s7→N σ7 H7→∃m,m < n∧∃i σ' H',Inv X pins σ' H' s7∧tn i s7.heap∧(∀b∈fp,H' b=none)∧W i m σ' H':=fun {σ7 H7} I7 n7=>by
   obtain ⟨m',hm,w7⟩:=hN σ7 H7 n7
   refine ⟨m',hm,i+1,σ7,H7,I7.unpinned,T.keep _ _ _ st5 fun b hb o e=>(I7.pin (b,o) (Cz _ (Cz _ (cZ hb e)))).1,fun b hb=>?_,w7⟩
   obtain ⟨o,e,d⟩:=T.obj _ _ st5 b hb
   exact (I7.pin (b,o) (Cz _ (Cz _ (cZ hb e)))).2.1
  cases f with
  |next=>obtain ⟨σ7,H7,I7,n7⟩:=q7;exact again I7 n7
  |cont=>obtain ⟨σ7,H7,I7,n7⟩:=q7;exact again I7 n7
  |brk=>obtain ⟨σ7,H7,I7,q7⟩:=q7;exact ⟨σ7,H7,I7.unpinned,q7⟩
  |ret v=>obtain ⟨x7,σ7,H7,I7,r7,q7⟩:=q7;exact ⟨x7,σ7,H7,I7.unpinned,r7,q7⟩
end
abbrev R2:=V→V→Hp→VK→Prop
def OpR (X:Cx) (f:Value→Value→Sem Value) (r:R2):Prop:=
 ∀(pins:List (Addr×Obj)) (s:B7) (σ:St) (H:Hp) (x y:V) (v u:Value) (Q:VK),Inv X pins σ H s→bg x v→bg y u→r x y H Q→
  wpAny (model X.prog X.w) X.A (f v u) (EP X pins σ Q) X.xe s
def UnR (X:Cx) (f:Value→Sem Value) (r:V→Hp→VK→Prop):Prop:=
 ∀(pins:List (Addr×Obj)) (s:B7) (σ:St) (H:Hp) (x:V) (v:Value) (Q:VK),Inv X pins σ H s→bg x v→r x H Q→
  wpAny (model X.prog X.w) X.A (f v) (EP X pins σ Q) X.xe s
def eR (X:Cx) (f:Value) (r:List V→Hp→VK→Prop):Prop:=
 ∀(pins:List (Addr×Obj)) (s:B7) (σ:St) (H:Hp) (xs:List V) (us:List Value) (Q:VK),Inv X pins σ H s→aO xs us→r xs H Q→
  wpAny (model X.prog X.w) X.A (call f us) (EP X pins σ Q) X.xe s
def tOp (r:R2) (ta tb:TE):TE:=fun σ H Q=>ta σ H fun x H1=>tb σ H1 fun y H2=>r x y H2 Q
def tUn (r:V→Hp→VK→Prop) (ta:TE):TE:=fun σ H Q=>ta σ H fun x H1=>r x H1 Q
def rI (C:Int→Int→Prop) (g:Int→Int→V):R2:=fun x y H Q=>∃i j,x=.int i∧y=.int j∧C i j∧Q (g i j) H
def rI0 (g:Int→Int→V):R2:=fun x y H Q=>∃i j,x=.int i∧y=.int j∧Q (g i j) H
def rU (g:Int→V):V→Hp→VK→Prop:=fun x H Q=>∃i,x=.int i∧Q (g i) H
section
variable {X:Cx}{a b c:Expr}{ta tb tc:TE}{pos:Pos}
theorem Ad (ha:PE X a ta) (hb:PE X b tb) {pins:List (Addr×Obj)}{s:B7}{σ:St}{H:Hp}{R:V→V→Hp→Prop} (I:Inv X pins σ H s)
  (h:ta σ H fun x H1=>tb σ H1 fun y H2=>R x y H2) {Q:Value→B7→Prop}{f:Value→Value→Sem Value}
  (hf:∀v u s2 x y H2,Inv X pins σ H2 s2→bg x v→bg y u→R x y H2→wpAny (model X.prog X.w) X.A (f v u) Q X.xe s2):
  wpAny (model X.prog X.w) X.A (eval a X.env) (fun v s₁=>wpAny (model X.prog X.w) X.A (eval b X.env) (fun u s₂=>wpAny (model X.prog X.w) X.A (f v u) Q X.xe s₂) X.xe s₁) X.xe s:=by
 refine thn (ha pins s σ H _ I h) fun v s1 ⟨x,H1,I1,r1,q1⟩=>?_
 refine thn (hb pins s1 σ H1 _ I1 q1) fun u s2 ⟨y,H2,I2,r2,q2⟩=>?_
 exact hf v u s2 x y H2 I2 r1 r2 q2
theorem vD {op:Ma}{r:R2} (ho:OpR X (Hd op) r) (ha:PE X a ta) (hb:PE X b tb):PE X (.BinOp a op b pos) (tOp r ta tb):=by
 intro pins s σ H Q I h
 exact wpAny_BinOp (Ad ha hb I h fun v u s2 x y H2 I2 rx ry q=>ho pins s2 σ H2 x y v u Q I2 rx ry q)
theorem AQ {op:UnaryOp}{r:V→Hp→VK→Prop} (ho:UnR X (unaryOp op) r) (ha:PE X a ta):PE X (.UnaryOp op a pos) (tUn r ta):=by
 intro pins s σ H Q I h
 exact UnaryOp_ (thn (ha pins s σ H _ I h) fun v s1 ⟨x,H1,I1,r1,q1⟩=>ho pins s1 σ H1 x v Q I1 r1 q1)
theorem opI {f:Value→Value→Sem Value}{C:Int→Int→Prop}{g:Int→Int→Int}
  (rule:∀(i j:Int) (t u:Tok) (s:B7) (Q:Value→B7→Prop) (E:Value→B7→Prop),C i j→Q (.int (g i j) s.toks) {s with toks:=s.toks+1 }→wpAny (model X.prog X.w) X.A (f (.int i t) (.int j u)) Q E s):
  OpR X f (rI C fun i j=>.int (g i j)):=by
 intro pins s σ H x y v u Q I rx ry h
 obtain ⟨i,j,rfl,rfl,hc,q⟩:=h
 obtain ⟨t,rfl⟩:=rx
 obtain ⟨t',rfl⟩:=ry
 exact rule i j t t' s _ _ hc ⟨.int (g i j),H,I.tok _,⟨_,rfl⟩,q⟩
theorem Bg {f:Value→Value→Sem Value}{g:Int→Int→Int}
  (rule:∀(i j:Int) (t u:Tok) (s:B7) (Q:Value→B7→Prop) (E:Value→B7→Prop),Q (.int (g i j) s.toks) {s with toks:=s.toks+1 }→wpAny (model X.prog X.w) X.A (f (.int i t) (.int j u)) Q E s):
  OpR X f (rI0 fun i j=>.int (g i j)):=by
 intro pins s σ H x y v u Q I rx ry h
 obtain ⟨i,j,rfl,rfl,q⟩:=h
 obtain ⟨t,rfl⟩:=rx
 obtain ⟨t',rfl⟩:=ry
 exact rule i j t t' s _ _ ⟨.int (g i j),H,I.tok _,⟨_,rfl⟩,q⟩
theorem Ae {f:Value→Value→Sem Value}{g:Int→Int→Bool}
  (rule:∀(i j:Int) (t u:Tok) (s:B7) (Q:Value→B7→Prop) (E:Value→B7→Prop),Q (.bool (g i j)) s→wpAny (model X.prog X.w) X.A (f (.int i t) (.int j u)) Q E s):
  OpR X f (rI0 fun i j=>.bl (g i j)):=by
 intro pins s σ H x y v u Q I rx ry h
 obtain ⟨i,j,rfl,rfl,q⟩:=h
 obtain ⟨t,rfl⟩:=rx
 obtain ⟨t',rfl⟩:=ry
 exact rule i j t t' s _ _ ⟨.bl (g i j),H,I,rfl,q⟩
def Bl (i j:Int):Prop:=0≤j∧j≤1000000∧i.natAbs < 2 ^ 64
theorem zt:OpR X (Hd .Add) (rI0 fun i j=>.int (i+j)):=Bg fun _ _ _ _ _ _ _ q=>add_int q
theorem zQ:OpR X (Hd .Sub) (rI0 fun i j=>.int (i - j)):=Bg fun _ _ _ _ _ _ _ q=>sub_int q
theorem Ap:OpR X (Hd .Mod) (rI (fun _ j=>0 < j) fun i j=>.int (i % j)):=opI fun i j _ _ _ _ _ hc q=>by
 have h1:(0:Int) < j:=hc
 exact mod_int' (by lia) (by rw[Int.fmod_eq_emod_of_nonneg i (by lia)];exact q)
theorem zN:OpR X (Hd .Pow) (rI Bl fun i j=>.int (i ^ j.toNat)):=opI fun _ _ _ _ _ _ _ hc q=>pow_int_small hc.1 hc.2.1 hc.2.2 q
theorem unI {f:Value→Sem Value}{g:Int→Int}
  (rule:∀(i:Int) (t:Tok) (s:B7) (Q:Value→B7→Prop) (E:Value→B7→Prop),Q (.int (g i) s.toks) {s with toks:=s.toks+1 }→wpAny (model X.prog X.w) X.A (f (.int i t)) Q E s):
  UnR X f (rU fun i=>.int (g i)):=by
 intro pins s σ H x v Q I rx h
 obtain ⟨i,rfl,q⟩:=h
 obtain ⟨t,rfl⟩:=rx
 exact rule i t s _ _ ⟨.int (g i),H,I.tok _,⟨_,rfl⟩,q⟩
theorem zG:UnR X (unaryOp .USub) (rU fun i=>.int (-i)):=unI fun _ _ _ _ _ q=>neg_int q
end
def A6:V→V→Bool
 | .non,.non=>true | .non,.int _=>true | .int _,.non=>true | .non,.bl _=>true | .bl _,.non=>true | .non,.str _=>true | .str _,.non=>true
 | .int _,.int _=>true | .bl _,.bl _=>true | .str _,.str _=>true | .byt _,.byt _=>true
 | .int _,.str _=>true | .str _,.int _=>true | .bl _,.str _=>true | .str _,.bl _=>true
 |_,_=>false
def rEq:R2:=fun x y H Q=>A6 x y=true∧Q (.bl (decide (x=y))) H
def rNe:R2:=fun x y H Q=>A6 x y=true∧Q (.bl (!decide (x=y))) H
theorem i5 {i j:Int}:decide (V.int i=V.int j)=(i==j):=by
 rw[Ek]
 simp
theorem wH {i j:Bool}:decide (V.bl i=V.bl j)=(i==j):=by
 rw[Ek]
 simp
theorem rH {i j:Str}:decide (V.str i=V.str j)=(i==j):=by
 rw[Ek]
 simp
theorem qC {i j:Array UInt8}:decide (V.byt i=V.byt j)=(i.toList==j.toList):=by
 rw[Ek]
 cases i
 cases j
 simp
section
variable {X:Cx}{a b c:Expr}{ta tb tc:TE}{pos:Pos}
theorem aX {pins:List (Addr×Obj)}{σ:St}{H:Hp}{s:B7}{Q:VK}{k k':Bool} (I:Inv X pins σ H s) (q:Q (.bl k) H) (e:k=k'):EP X pins σ Q (.bool k') s:=by
 subst e
 exact ⟨.bl k,H,I,rfl,q⟩
theorem Bf:OpR X (El .Eq) rEq:=by
 intro pins s σ H x y v u Q I rx ry h
 obtain ⟨hs,q⟩:=h
 cases x with
 |non=>
  cases rx
  cases y with
  |non=>cases ry;exact Lm (aX I q (by simp))
  |bl j=>cases ry;exact Ln (aX I q (by simp))
  |int j=>obtain ⟨t',rfl⟩:=ry;exact LS (aX I q (by simp))
  |str j=>obtain ⟨t',rfl⟩:=ry;exact LU (aX I q (by simp))
  |_=>exact absurd (show false=true from hs) CM
 |bl i=>
  cases rx
  cases y with
  |non=>cases ry;exact Lo (aX I q (by simp))
  |bl j=>cases ry;exact eq_bool (aX I q wH)
  |str j=>obtain ⟨t',rfl⟩:=ry;exact Lp (aX I q (by simp))
  |_=>exact absurd (show false=true from hs) CM
 |int i=>
  obtain ⟨t,rfl⟩:=rx
  cases y with
  |non=>cases ry;exact LV (aX I q (by simp))
  |int j=>obtain ⟨t',rfl⟩:=ry;exact eq_int (aX I q i5)
  |str j=>obtain ⟨t',rfl⟩:=ry;exact LW (aX I q (by simp))
  |_=>exact absurd (show false=true from hs) CM
 |str i=>
  obtain ⟨t,rfl⟩:=rx
  cases y with
  |non=>cases ry;exact LX (aX I q (by simp))
  |bl j=>cases ry;exact Lq (aX I q (by simp))
  |int j=>obtain ⟨t',rfl⟩:=ry;exact LY (aX I q (by simp))
  |str j=>obtain ⟨t',rfl⟩:=ry;exact eq_str (aX I q rH)
  |_=>exact absurd (show false=true from hs) CM
 |byt i=>
  obtain ⟨t,rfl⟩:=rx
  cases y with
  |byt j=>obtain ⟨t',rfl⟩:=ry;exact PySem.W.eq_bytes (aX I q qC)
  |_=>exact absurd (show false=true from hs) CM
 |_=>cases y <;>exact absurd (show false=true from hs) CM
theorem Ba:OpR X (El .NotEq) rNe:=by
 intro pins s σ H x y v u Q I rx ry h
 obtain ⟨hs,q⟩:=h
 cases x with
 |non=>
  cases rx
  cases y with
  |non=>cases ry;exact Lr (aX I q (by simp))
  |bl j=>cases ry;exact Ls (aX I q (by simp))
  |int j=>obtain ⟨t',rfl⟩:=ry;exact LZ (aX I q (by simp))
  |str j=>obtain ⟨t',rfl⟩:=ry;exact L0 (aX I q (by simp))
  |_=>exact absurd (show false=true from hs) CM
 |bl i=>
  cases rx
  cases y with
  |non=>cases ry;exact Lu (aX I q (by simp))
  |bl j=>cases ry;exact ne_bool (aX I q (congrArg not wH))
  |str j=>obtain ⟨t',rfl⟩:=ry;exact Lv (aX I q (by simp))
  |_=>exact absurd (show false=true from hs) CM
 |int i=>
  obtain ⟨t,rfl⟩:=rx
  cases y with
  |non=>cases ry;exact L1 (aX I q (by simp))
  |int j=>obtain ⟨t',rfl⟩:=ry;exact ne_int (aX I q (congrArg not i5))
  |str j=>obtain ⟨t',rfl⟩:=ry;exact L3 (aX I q (by simp))
  |_=>exact absurd (show false=true from hs) CM
 |str i=>
  obtain ⟨t,rfl⟩:=rx
  cases y with
  |non=>cases ry;exact L4 (aX I q (by simp))
  |bl j=>cases ry;exact Lw (aX I q (by simp))
  |int j=>obtain ⟨t',rfl⟩:=ry;exact L5 (aX I q (by simp))
  |str j=>obtain ⟨t',rfl⟩:=ry;exact ne_str (aX I q (congrArg not rH))
  |_=>exact absurd (show false=true from hs) CM
 |byt i=>
  obtain ⟨t,rfl⟩:=rx
  cases y with
  |byt j=>obtain ⟨t',rfl⟩:=ry;exact PySem.W.ne_bytes (aX I q (congrArg not qC))
  |_=>exact absurd (show false=true from hs) CM
 |_=>cases y <;>exact absurd (show false=true from hs) CM
theorem Br:OpR X (El .Lt) (rI0 fun i j=>.bl (decide (i < j))):=Ae fun _ _ _ _ _ _ _ q=>lt_int q
theorem Bk:OpR X (El .LtE) (rI0 fun i j=>.bl (decide (i≤j))):=Ae fun _ _ _ _ _ _ _ q=>le_int q
theorem Bd:OpR X (El .Gt) (rI0 fun i j=>.bl (decide (j < i))):=Ae fun _ _ _ _ _ _ _ q=>gt_int q
theorem vc (b:Expr) {op:CmpOp} (h:op≠.In:=by decide) (h2:op≠.NotIn:=by decide):GG op b=false:=by
 have e1:(op==CmpOp.In)=false:=by cases op <;>first |rfl |exact absurd rfl h
 have e2:(op==CmpOp.NotIn)=false:=by cases op <;>first |rfl |exact absurd rfl h2
 cases b <;>simp[GG,e1,e2]
theorem yg {op:CmpOp}{r:R2} (ho:OpR X (El op) r) (ha:PE X a ta) (hb:PE X b tb) (hm:GG op b=false):PE X (.Compare a [op] [b] pos) (tOp r ta tb):=by
 intro pins s σ H Q I h
 exact wpAny_Compare1 (Ad ha hb I h fun v u s2 x y H2 I2 rx ry q=>ho pins s2 σ H2 x y v u Q I2 rx ry q) hm
def Bt (t:TE):TT:=fun σ H Q=>t σ H fun x H'=>∃k,x=.bl k∧Q k H'
theorem yw {op:CmpOp}{r:R2} (ho:OpR X (El op) r) (ha:PE X a ta) (hb:PE X b tb) (hm:GG op b=false):PT X (.Compare a [op] [b] pos) (Bt (tOp r ta tb)):=by
 intro pins s σ H Q I h
 refine wpAny_isTrue_Compare1 (thn (ha pins s σ H _ I h) fun v s1 ⟨x,H1,I1,r1,q1⟩=>thn (hb pins s1 σ H1 _ I1 q1) fun u s2 ⟨y,H2,I2,r2,q2⟩=>
  thn (ho pins s2 σ H2 x y v u _ I2 r1 r2 q2) fun c s3 ⟨z,H3,I3,r3,k,e,q3⟩=>?_) hm
 subst e
 cases r3
 exact E5 ⟨H3,I3,q3⟩
theorem pL:(sizeLine:Nat) < 2 ^ 63:=by rw[EB];decide
theorem fk {x:V}{us:List Value} (r:aO [x] us):∃u,us=[u]∧bg x u:=by
 cases r with
 |cons r1 r2=>cases r2;exact ⟨_,rfl,r1⟩
theorem rM {x y:V}{us:List Value} (r:aO [x,y] us):∃u w',us=[u,w']∧bg x u∧bg y w':=by
 cases r with
 |cons r1 r2=>
  cases r2 with
  |cons r3 r4=>cases r4;exact ⟨_,_,rfl,r1,r3⟩
theorem uS:eR X (.builtin "abs") (fun xs H Q=>∃i,xs=[.int i]∧Q (.int (if i < 0 then -i else i)) H):=by
 intro pins s σ H xs us Q I r h
 obtain ⟨i,rfl,q⟩:=h
 obtain ⟨u,rfl,t,rfl⟩:=fk r
 exact call_abs_int fun u tk=>⟨.int (if i < 0 then -i else i),H,I.tok _,⟨_,rfl⟩,q⟩
end
structure AJ (h:Heap) (x dx C:Addr) (mA:Str→Option Value):Prop where
 obj:h.get? x=some (I_ C dx)
 ns:h.Ns1 dx mA
 ne:dx≠x
theorem si {h:Heap}{dx:Addr}{mA:Str→Option Value} (n:h.Ns1 dx mA):∃od,h.get? dx=some od∧∀name,JG name od=some (mA name):=by
 obtain ⟨o,es,ep,ho,hd,hk,_,hm⟩:=n
 refine ⟨o,ho,fun name=>?_⟩
 have e:=hm name
 unfold nsFind findBy at e
 rw[←Array.find?_toList] at e
 unfold JG
 rw[hd]
 dsimp only
 split
 ·rename_i y q
  rw[q] at e
  exact congrArg some e
 ·rename_i q
  rw[q] at e
  have a:es.toList.any (·.refKey)=false:=by
   rw[List.any_eq_false]
   intro y hy
   obtain ⟨z,t,hkey⟩:=hk y (Hz.mp hy)
   simp[DictEntry.refKey,hkey]
  have a':¬ es.toList.any (·.refKey)=true:=by rw[a];exact CM
  rw[if_neg a']
  exact congrArg some e
theorem AJ.look {h:Heap}{x dx C:Addr}{mA:Str→Option Value} (I:AJ h x dx C mA):∃od,PySem.W.InstAt h x (I_ C dx) C (some od)∧∀name,JG name od=some (mA name):=
 let ⟨od,ho,hl⟩:=si I.ns
 ⟨od,⟨I.obj,rfl,rfl,ho⟩,hl⟩
section
variable {prog:Cy}{w:World}{A:Dc}{E:Value→B7→Prop}{s:B7}{K:B2}{x dx C f:Addr}{mA:Str→Option Value}{name:Str}{v:Value}
end
section
variable {P:Cy}{w:World}{H H':Hp}{h h':Heap}{a C dx:Addr}{fs fs':List (Str×V)}
theorem xr (hok:HOk P w H h) (e:H a=some (.ins C dx fs)):∃mA,AJ h a dx C mA∧(∀f,zT (fs.lookup f) (mA f))∧Ml mA (fs.map (·.1))∧fs.length≤1000∧H dx=some (.own a):=by
 obtain ⟨d,z,ne,ob,mA,n,r,q⟩:=(show cw P w H h a (.ins C dx fs) from hok a _ e)
 exact ⟨mA,⟨ob,n,ne⟩,r,q,z,d⟩
end
structure Cls (K:B2) (C:Addr):Prop where
 pg:KG K C Str.empty=true
 hd:PySem.W.hasDictIn K C=true
 po:PySem.W.plainOver K C=true
 sa:He K (.ref C) "__setattr__"=some (some (.builtin "object.__setattr__"))
theorem Cls.get {K:B2}{C:Addr} (c:Cls K C) (f:Str):KG K C f=true:=c.pg
structure Con (K:B2) (C:Addr) (f:Str) (v:V) (u:Value):Prop where
 at_:He K (.ref C) f=some (some u)
 rel:bg v u
 get:Kg K u "__get__"=some none
 cp:PySem.W.copiedNames.contains f=false
structure BY (K:B2) (C:Addr) (m:Str) (f:Addr):Prop where
 at_:He K (.ref C) m=some (some (.ref f))
 fn:Mn K (.ref f)=true
 kp:Cj K (.ref f)=true
section
variable {X:Cx}{pins:List (Addr×Obj)}{σ:St}{H:Hp}{s:B7}{a C dx:Addr}{fs:List (Str×V)}{f:Str}{v:V}{A:Dc}{E:Value→B7→Prop}
end
section
variable {X:Cx}{o e value:Expr}{f:Str}{pos pos' tpos:Pos}{ta tv:TE}
end
section
variable {X:Cx}{pins:List (Addr×Obj)}{σ:St}{H:Hp}{s:B7}{A:Dc}{E:Value→B7→Prop}{Q:Value→B7→Prop}{c:Value}{b:Bool}
inductive iU (K:B2) (H:Hp):V→Value→Prop where
 |non:iU K H .non (.type "NoneType")
 |bl (x:Bool):iU K H (.bl x) (.type "bool")
 |int (i:Int):iU K H (.int i) (.type "int")
 |str (x:Str):iU K H (.str x) (.type "str")
 |flt (x:UInt64):iU K H (.flt x) (.type "float")
 |lst {a:Addr}{xs:List V} (e:H a=some (.lst xs)):iU K H (.ref a) (.type "list")
 |frz {a:Addr}{o:Obj}{xs:List V} (e:H a=some (.frz o (.lst xs))):iU K H (.ref a) (.type "list")
 |tup {a:Addr}{xs:List V} (e:H a=some (.tup xs)):iU K H (.ref a) (.type "tuple")
 |dK {a:Addr}{kvs:List (Key×V)} (e:H a=some (.dK kvs)):iU K H (.ref a) (.type "dict")
 |dT {a:Addr}{kvs:List (List Key×V)} (e:H a=some (.dT kvs)):iU K H (.ref a) (.type "dict")
 |ins {a C dx:Addr}{fs:List (Str×V)} (e:H a=some (.ins C dx fs)) (cl:Cls K C) (ha:He K (.ref C) "__class__"=some (some (.builtin "object.__class__")))
   (hn:Kg K (.builtin "object.__class__") "__get__"=some (some (.builtin "getset_descriptor.__get__"))) (htk:PySem.W.takesIn K (.builtin "object.__class__")=some true)
   (hm:PySem.W.mroIn K C (.type "object")=some true):iU K H (.ref a) (.ref C)
theorem dJ {x:V}{u t:Value} (I:Inv X pins σ H s) (rx:bg x u) (ty:iU X.K H x t) (e:Fm X.K t c=some b) (h:∀tk,Q (.bool b) {s with toks:=tk }):
  wpAny (model X.prog X.w) A (call (.builtin "isinstance") [u,c]) Q E s:=by
 cases ty with
 |non=>cases (show u=CO from rx);exact DS PySem.W.kitx_none I.kIn True.intro e (fun z=>nomatch z) h
 |bl y=>cases (show u=Dk y from rx);exact DS PySem.W.kitx_bool I.kIn True.intro e (fun z=>nomatch z) h
 |int i=>obtain ⟨t,q⟩:=(show ∃t,u=Dh i t from rx);cases q;exact DS PySem.W.kitx_int I.kIn True.intro e (fun z=>nomatch z) h
 |str y=>obtain ⟨t,q⟩:=(show ∃t,u=DA y t from rx);cases q;exact DS PySem.W.kitx_str I.kIn True.intro e (fun z=>nomatch z) h
 |flt y=>obtain ⟨t,q⟩:=(show ∃t,u=Mz y t from rx);cases q;exact DS PySem.W.kitx_float I.kIn True.intro e (fun z=>nomatch z) h
 | @lst a xs ea=>
  cases (show u=C8 a from rx)
  obtain ⟨_,_,n,_,h1⟩:=(show cw X.prog X.w H s.heap a (.lst xs) from I.hok a _ ea)
  exact DS Ii I.kIn ⟨_,h1,rfl⟩ e (fun z=>nomatch z) h
 | @frz a ob xs ea=>
  cases (show u=C8 a from rx)
  obtain ⟨_,_,_,n,_,h1⟩:=(show cw X.prog X.w H s.heap a (.frz ob (.lst xs)) from I.hok a _ ea)
  exact DS Ii I.kIn ⟨_,h1,rfl⟩ e (fun z=>nomatch z) h
 | @tup a xs ea=>
  cases (show u=C8 a from rx)
  obtain ⟨_,_,_,p⟩:=(show cw X.prog X.w H s.heap a (.tup xs) from I.hok a _ ea)
  obtain ⟨o,h1,h2,_⟩:=p
  exact DS JS I.kIn ⟨o,h1,h2⟩ e (fun z=>nomatch z) h
 | @dK a kvs ea=>
  cases (show u=C8 a from rx)
  obtain ⟨_,_,vs,_,p⟩:=(show cw X.prog X.w H s.heap a (.dK kvs) from I.hok a _ ea)
  obtain ⟨o,es,ep,h1,h2,_⟩:=p
  exact DS Kh I.kIn ⟨o,h1,h2.1⟩ e (fun z=>nomatch z) h
 | @dT a kvs ea=>
  cases (show u=C8 a from rx)
  obtain ⟨_,_,xs,_,o,es,ep,h1,h2,_⟩:=(show cw X.prog X.w H s.heap a (.dT kvs) from I.hok a _ ea)
  exact DS Kh I.kIn ⟨o,h1,h2.1⟩ e (fun z=>nomatch z) h
 | @ins a C dx fs ea cl ha hn htk hm=>
  cases (show u=C8 a from rx)
  obtain ⟨mA,O,_⟩:=xr I.hok ea
  obtain ⟨od,J,_⟩:=O.look
  exact DS (PySem.W.kitx_own (cl.get _) cl.hd ha hn htk hm) I.kIn J e (fun z=>nomatch z) h
end
structure dc (k:Nat) (A:Dc):Prop where
 hd:A.handled=none
 dp:A.depth+3*k+5 < Lx
 un:A.units+16*k+200 < cLine
theorem dc.mono {j k:Nat}{A:Dc} (r:dc k A) (h:j≤k):dc j A:=⟨r.hd,by have:=r.dp;lia,by have:=r.un;lia⟩
theorem dc.deeper {k:Nat}{A:Dc} (r:dc (k+1) A) (env:Env):dc k (A.deeper env):=
 ⟨r.hd,by have:=r.dp;show A.depth+1+3*k+5 < _;lia,by have:=r.un;show A.units+3+16*k+200 < _;lia⟩
theorem dc.depth {k:Nat}{A:Dc} (r:dc k A):A.depth < Lx:=by have:=r.dp;lia
def BO:TA:=fun _ H Q=>Q [] H
def A1 (ta:TE) (tr:TA):TA:=fun σ H Q=>ta σ H fun x H1=>tr σ H1 fun xs H2=>Q (x::xs) H2
section
variable {X:Cx}{e:Expr}{es:List Expr}{te:TE}{t:TA}{pos:Pos}
theorem fQ:PA X [] BO:=fun _ _ _ _ H Q I h=>FZ ⟨[],H,I,.nil,h⟩
theorem dg (ha:PE X e te) (hr:PA X es t) (hs:Ce (e::es) X.env=(false,eval e X.env)::Ce es X.env:=by rfl):PA X (e::es) (A1 te t):=by
 intro pos pins s σ H Q I h
 rw[hs]
 show wpAny _ _ (spliced ((false,eval e X.env)::Fp pos (Ce es X.env))) _ _ s
 refine FP (thn (ha pins s σ H _ I h) fun u s1 ⟨x,H1,I1,r1,q1⟩=>?_)
 exact thn (hr pos pins s1 σ H1 _ I1 q1) fun us s2 ⟨xs,H2,I2,r2,q2⟩=>⟨x::xs,H2,I2,.cons r1 r2,q2⟩
def BI (t:TA):TE:=fun σ H Q=>t σ H fun xs H1=>xs.length≤sizeLine∧∀p,H1 p=none→Q (.ref p) (upd H1 p (.tup xs))
def BM (t:TA):TE:=fun σ H Q=>t σ H fun xs H1=>xs.length≤sizeLine∧∀p,H1 p=none→Q (.ref p) (upd H1 p (.lst xs))
theorem zI {x1} (h:PA X es t):PE X (.Tuple es x1 pos) (BI t):=by
 intro pins s σ H Q I hq
 refine wpAny_Tuple_spliced (thn (h pos pins s σ H _ I hq) fun us s1 ⟨xs,H1,I1,r,z,q⟩=>⟨by rw[←r.length];exact z,?_⟩)
 have hf:H1 s1.heap.objs.size=none:=I1.hok.fresh (B9 _)
 refine ⟨.ref s1.heap.objs.size,upd H1 s1.heap.objs.size (.tup xs),I1.laid (t':=s1.toks) (fun b u e=>B5 _ e) (B9 _) ?_,rfl,q _ hf⟩
 exact ⟨z,us,r,⟨_,Cm _ rfl,rfl,_,rfl⟩⟩
theorem AI (h:PA X es t):PE X (.List es pos) (BM t):=by
 intro pins s σ H Q I hq
 refine wpAny_List_spliced (thn (h pos pins s σ H _ I hq) fun us s1 ⟨xs,H1,I1,r,z,q⟩=>⟨by rw[←r.length];exact z,?_⟩)
 have hf:H1 s1.heap.objs.size=none:=I1.hok.fresh (B9 _)
 refine ⟨.ref s1.heap.objs.size,upd H1 s1.heap.objs.size (.lst xs),I1.laid (t':=s1.toks) (fun b u e=>B5 _ e) (B9 _) ?_,rfl,q _ hf⟩
 exact ⟨z,us,0,r,Cm _ rfl⟩
end
abbrev Sp:=List V→Hp→VK→XK→Prop
abbrev CXT:=List Env→Hp→B7→XK→Value→B7→Prop
structure xh (P:Cy) (w:World) (K:B2) (mg:Str→Option Value) (base:Heap) (A:Dc) (outer:List Env) (s:B7) (H:Hp):Prop where
 frames:A.frames=some outer
 mod:Mod K mg base
 bs:∀b o,base.get? b=some o→s.heap.get? b=some o∧H b=none
 bsz:base.objs.size≤s.heap.objs.size
 funs:s.heap.FunFrames base outer
 frf:∀b∈frs outer,H b=none
 hok:HOk P w H s.heap
 bare:Iz s.gens
def CE (outer:List Env) (P:Cy) (w:World) (H:Hp) (s:B7) (Q:VK) (u:Value) (s':B7):Prop:=
 ∃v H',s'.os=s.os∧Iz s'.gens∧Un (frs outer) [] H H' s.heap s'.heap∧HOk P w H' s'.heap∧bg v u∧Q v H'
def CR (CX:CXT) (outer:List Env) (P:Cy) (w:World) (H:Hp) (s:B7) (Q:VK) (E:XK) (r:K0) (s':B7):Prop:=
 match r with
 | .ok (.ret u)=>CE outer P w H s Q u s'
 | .ok _=>False
 | .error e=>CX outer H s E e s'
structure a_ (P:Cy) (w:World) (K:B2) (mg:Str→Option Value) (base:Heap) (CX:CXT) (k:Nat) (f:Addr) (fd:CN) (ps:List Str) (sp:Sp):Prop where
 len:∀vs H Q E,sp vs H Q E→vs.length=ps.length
 run:∀(A:Dc) (outer:List Env) (s:B7) (H:Hp) (args:Args) (us:List Value) (vs:List V) (Q:VK) (E:XK),dc k A→xh P w K mg base A outer s H→JL s fd args (ps.zip us)→aO vs us→sp vs H Q E→
  Gg (model P w) A (.call (.ref f) args) (CR CX outer P w H s Q E) s
theorem a_.mono {P:Cy}{w:World}{K:B2}{mg:Str→Option Value}{base:Heap}{CX:CXT}{j k:Nat}{f:Addr}{fd:CN}{ps:List Str}{sp:Sp} (F:a_ P w K mg base CX j f fd ps sp) (h:j≤k):
  a_ P w K mg base CX k f fd ps sp:=⟨F.len,fun A outer s H args us vs Q E hr=>F.run A outer s H args us vs Q E (hr.mono h)⟩
section
variable {X:Cx}{pins:List (Addr×Obj)}{σ:St}{H:Hp}{s s':B7}
theorem Inv.env0 (I:Inv X pins σ H s):xh X.prog X.w X.K X.mg X.base X.A X.stack s H:=
 ⟨I.ok.frames,I.ok.mod,I.bs,DZ I.ok.bsz I.sz,I.stack,I.stkFree,I.hok,I.bare⟩
theorem Inv.after {Q:VK}{u:Value} (I:Inv X pins σ H s) (h:CE X.stack X.prog X.w H s Q u s'):EP X pins σ Q u s':=by
 obtain ⟨v,H',os,bare,un,hok,r,q⟩:=h
 obtain ⟨hh,g,d,t,os'⟩:=s'
 obtain rfl:os'=s.os:=os
 exact ⟨v,H',I.call (h':=hh) (g':=g) (d':=d) (t':=t) (ch:=[]) un hok bare (fun b z=>absurd z (by simp)),r,q⟩
end
def A9 (sp:Sp) (dvs:List V) (E:XK) (t:TA):TE:=fun σ H Q=>t σ H fun vs H1=>sp (vs++dvs) H1 Q E
def aG (K:B2) (fd:CN) (ps:List Str) (ds:List Value):Prop:=
 ∀(s:B7) (us:List Value),K.In s.heap→(us++ds).length=ps.length→JL s fd ⟨us,[]⟩ (ps.zip (us++ds))
theorem aG.all {K:B2}{fd:CN}{ps:List Str} (h:∀us:List Value,us.length=ps.length→DF fd ⟨us,[]⟩=pure (ps.zip us)):aG K fd ps []:=fun s us _ hl=>by
 rw[DG] at hl ⊢
 exact .of_eq (h us hl)
def e8 (CX:CXT) (X:Cx) (E:XK):Prop:=∀(pins:List (Addr×Obj)) (σ:St) (H:Hp) (s:B7) (e:Value) (s':B7),Inv X pins σ H s→CX X.stack H s E e s'→X.xe e s'
section
variable {X:Cx}{CX:CXT}{k:Nat}{f C:Addr}{fd:CN}{ps:List Str}{sp:Sp}{dvs:List V}{ds:List Value}{E:XK}{x m:Str}{p pos apos:Pos}{e o:Expr}{es:List Expr}{ta:TE}{t:TA}
theorem Ai {pins:List (Addr×Obj)}{σ:St}{H:Hp}{s:B7}{Q:VK}{us:List Value}{vs:List V} (F:a_ X.prog X.w X.K X.mg X.base CX k f fd ps sp) (hr:dc k X.A) (hb:aG X.K fd ps ds) (hd:aO dvs ds) (hx:e8 CX X E)
  (I:Inv X pins σ H s) (r:aO vs us) (h:sp (vs++dvs) H Q E):wpAny (model X.prog X.w) X.A (call (.ref f) us) (EP X pins σ Q) X.xe s:=by
 have r2:aO (vs++dvs) (us++ds):=r.append hd
 have hl:(us++ds).length=ps.length:=by rw[←r2.length];exact F.len _ _ _ _ h
 refine L6 (Gv (F.run X.A X.stack s H ⟨us,[]⟩ (us++ds) (vs++dvs) Q E hr I.env0 (hb s us I.kIn hl) r2 h) fun r s' hq=>?_)
 cases r with
 |error e=>exact hx pins σ H s e s' I hq
 |ok fl=>
  cases fl with
  |ret u=>exact I.after hq
  |next=>exact False.elim hq
  |brk=>exact False.elim hq
  |cont=>exact False.elim hq
theorem h_ (F:a_ X.prog X.w X.K X.mg X.base CX k f fd ps sp) (hr:dc k X.A) (hg:Gl X x) (hm:X.mg x=some (.ref f)) (hk:Cj X.K (.ref f)=true) (hb:aG X.K fd ps ds) (hd:aO dvs ds) (hx:e8 CX X E)
  (ha:PA X (e::es) t) (hdb:(x==("__debug__":Str))=false:=by decide) (he:Ce (e::es) X.env=(false,eval e X.env)::Ce es X.env:=by rfl) (hpl:(Fp pos (Ce es X.env)).any (·.1)=false:=by rfl):
  PE X (.Call (.Name x p) (e::es) [] pos) (A9 sp dvs E t):=by
 intro pins s σ H Q I h
 refine DM (hV I hg hm ?_ hdb)
 refine JT (h₀:=X.base) I.ok.mod.kin hk (thn (ha pos pins s σ H _ I h) fun us s1 ⟨vs,H1,I1,r,q⟩=>⟨I1.kIn,?_⟩) he hpl
 exact Ai F hr hb hd hx I1 r q
structure Mk (K:B2) (C f:Addr):Prop where
 makes:PySem.W.makesIn K C=true
 init:He K (.ref C) "__init__"=some (some (.ref f))
 fn:Mn K (.ref f)=true
 kp:Cj K (.ref C)=true
end
section
variable {X:Cx}{CX:CXT}{k:Nat}{f C:Addr}{fd:CN}{ps ks:List Str}{sp:Sp}{E:XK}{x m:Str}{p pos apos kpos:Pos}{e o:Expr}{es:List Expr}{kws:List JM}{te ta:TE}{t tk:TA}{nm:Option Str}
structure BN (K:B2) (fd:CN) (ps ks:List Str) (g:List Value→List Value→List Value) (gV:List V→List V→List V):Prop where
 to:∀(s:B7) (us ws:List Value),K.In s.heap→(g us ws).length=ps.length→JL s fd ⟨us,ks.zip ws⟩ (ps.zip (g us ws))
 rel:∀{vs:List V}{us:List Value}{zs:List V}{ws:List Value},aO vs us→aO zs ws→aO (gV vs zs) (g us ws)
variable {g:List Value→List Value→List Value}{gV:List V→List V→List V}
end
structure aw (N P:List Str) (sc:Scope):Prop where
 kind:sc.kind=.function
 co:sc.isCoroutine=false
 gen:sc.isGenerator=false
 nd:N.Nodup
 pre:N.take P.length=P
 par:∀x∈P,sc.names.lookup x=some .local∨sc.names.lookup x=some .cell
 nofree:∀y∈sc.names,y.2≠.free
theorem lx {kindOf:Str→Option HB}{x:Str}:∀{binds:List (Str×Value)}{m:Str→Option Value},(∀v,(x,v) ∉ binds)→bindL kindOf binds m x=m x
 |[],_,_=>rfl
 | (n,v)::r,m,h=>by
  unfold bindL
  rw[lx fun w hw=>h w (B4 _ hw)]
  split
  ·have:x≠n:=by rintro rfl;exact h v Ci
   simp[this]
  ·rfl
theorem kG {kindOf:Str→Option HB}{x:Str}:∀{binds:List (Str×Value)}{m:Str→Option Value},(∀v,(x,v) ∉ binds)→bindC kindOf binds m x=m x
 |[],_,_=>rfl
 | (n,v)::r,m,h=>by
  unfold bindC
  rw[kG fun w hw=>h w (B4 _ hw)]
  split
  ·rfl
  ·have:x≠n:=by rintro rfl;exact h v Ci
   simp[this]
theorem kR {kindOf:Str→Option HB}{x:Str}{v:Value}:∀{P:List Str}{vs:List Value}{i:Nat}{m:Str→Option Value},P.Nodup→P[i]?=some x→vs[i]?=some v→kindOf x=some .local→
  bindL kindOf (P.zip vs) m x=some v
 |[],_,_,_,_,h,_,_=>by simp at h
 |_::_,[],_,_,_,_,h,_=>by simp at h
 |p::P,w::vs,0,m,nd,h1,h2,hk=>by
  simp at h1 h2;subst h1;subst h2
  show bindL kindOf ((p,w)::P.zip vs) m p=_
  unfold bindL
  rw[lx fun v hv=>(E_.mp nd).1 (GH hv).1,if_pos hk]
  simp
 |p::P,w::vs,i+1,m,nd,h1,h2,hk=>by
  show bindL kindOf ((p,w)::P.zip vs) m x=_
  unfold bindL
  exact kR (i:=i) (E_.mp nd).2 (by simpa using h1) (by simpa using h2) hk
theorem kJ {kindOf:Str→Option HB}{x:Str}{v:Value}:∀{P:List Str}{vs:List Value}{i:Nat}{m:Str→Option Value},P.Nodup→P[i]?=some x→vs[i]?=some v→kindOf x≠some .local→
  bindC kindOf (P.zip vs) m x=some v
 |[],_,_,_,_,h,_,_=>by simp at h
 |_::_,[],_,_,_,_,h,_=>by simp at h
 |p::P,w::vs,0,m,nd,h1,h2,hk=>by
  simp at h1 h2;subst h1;subst h2
  show bindC kindOf ((p,w)::P.zip vs) m p=_
  unfold bindC
  rw[kG fun v hv=>(E_.mp nd).1 (GH hv).1,if_neg hk]
  simp
 |p::P,w::vs,i+1,m,nd,h1,h2,hk=>by
  show bindC kindOf ((p,w)::P.zip vs) m x=_
  unfold bindC
  exact kJ (i:=i) (E_.mp nd).2 (by simpa using h1) (by simpa using h2) hk
def start (N:List Str) (vs:List V):St:=vs.map some++Ly (N.length - vs.length) none
def dY (CX:CXT) (P:Cy) (w:World) (K:B2) (mg:Str→Option Value) (base:Heap) (N:List Str) (qual:Str) (scope:Scope) (f:Addr) (cd:Value) (A:Dc) (outer:List Env) (s:B7) (H:Hp) (E:XK):Cx where
 prog:=P
 w:=w
 K:=K
 mg:=mg
 base:=base
 A:=A.deeper (Gw qual scope s.heap.objs.size f cd)
 N:=N
 s₀:=s
 H₀:=H
 env:=Gw qual scope s.heap.objs.size f cd
 outer:=outer
 stack:=Gw qual scope s.heap.objs.size f cd::outer
 ex:=[]
 calm:=true
 fn:=fun _=>true
 pn:=[]
 xe:=fun e s'=>wpAny (model P w) (A.deeper (Gw qual scope s.heap.objs.size f cd)) (leaving (Gw qual scope s.heap.objs.size f cd) e) (fun _ s''=>CX outer H s E e s'') (fun e' s''=>CX outer H s E e' s'') s'
theorem nU {sc:Scope}{n:Nat}{x:Str} (h:sc.names.lookup x=some .cell):∃c,(K2 n sc.names []).lookup x=some c:=by
 have q:=GY sc.names n [] (.inl h)
 exact Gx.mp q
theorem ud {CX:CXT}{P:Cy}{w:World}{K:B2}{mg:Str→Option Value}{base:Heap}{N ps:List Str}{qual:Str}{scope:Scope}{f:Addr}{cd:Value}{A:Dc}{outer:List Env}{s s1:B7}{H:Hp}{E:XK}{us:List Value}{vs:List V}
  (S:aw N ps scope) (hd:A.handled=none) (e0:xh P w K mg base A outer s H) (hl:vs.length=ps.length) (r:aO vs us)
  (x:InCallC s s.heap.objs.size (bindL (Gw qual scope s.heap.objs.size f cd).kindOf (ps.zip us) fun _=>none) (K2 (s.heap.objs.size+1) scope.names []) (bindC (Gw qual scope s.heap.objs.size f cd).kindOf (ps.zip us) fun _=>none) s1):
  Inv (dY CX P w K mg base N qual scope f cd A outer s H E) [] (start N vs) H s1:=by
 have hpl:ps.length≤N.length:=by have:=congrArg MA S.pre;rw[Hs] at this;lia
 obtain ⟨h1,tk,rfl,hk⟩:=x.done
 have noA:∀b:Addr,b ∉ (dY CX P w K mg base N qual scope f cd A outer s H E).ex:=fun b z=>absurd (show b∈([]:List Addr) from z) (by simp)
 refine ⟨⟨e0.mod,S.kind,rfl,rfl,B9 _,fun y z c h1 h2=>?_,fun y hy=>?_,fun y c _ h=>?_,fun _=>hd,Around.frames_deeper e0.frames,.inr ⟨rfl,rfl⟩,fun b z=>absurd z (noA b),e0.bs,e0.bsz,fun b _ _=>noA b,fun b z=>absurd z (noA b),e0.funs,e0.frf⟩,
  rfl,e0.bare,Un.kept hk,⟨_,x.toInCall.ns,fun i y v h1 h2 h3=>?_⟩,fun y c h=>⟨_,x.cell y c h⟩,e0.hok.fresh (B9 _),fun y c h=>?_,fun p hp=>absurd (show p∈([]:List (Addr×Obj)) from hp) (by simp),e0.hok.kept hk,?_⟩
 ·exact name_of_addr x.apart (Et h1) (Et h2)
 ·have hy:scope.names.lookup y=some .cell∨scope.names.lookup y=some .free:=hy
  rcases hy with hy |hy
  ·exact nU hy
  ·exact absurd rfl (S.nofree _ (Et hy))
 ·exact DE (x.above y c (Et h))
 ·have hi:i < vs.length:=by
   unfold start at h2
   by_cases hi:i < vs.length
   ·exact hi
   ·rw[CG (by simpa using hi)] at h2
    rw[E1] at h2
    split at h2 <;>cases h2
  have ha:vs[i]?=some v:=by
   unfold start at h2
   rw[CF (by simpa using hi),Cb] at h2
   cases e:vs[i]? with
   |none=>rw[e] at h2;cases h2
   |some a=>rw[e] at h2;cases h2;rfl
  obtain ⟨u,hu,rv⟩:=r.get ha
  have hp:ps[i]?=some y:=by
   rw[←S.pre,Eu (by lia)];exact h1
  have ndP:ps.Nodup:=by rw[←S.pre];exact S.nd.sublist (Ki _ _)
  refine ⟨u,rv,?_⟩
  rcases S.par y (Cu hp) with k |k
  ·exact .inl ⟨k,kR ndP hp hu k⟩
  ·obtain ⟨c,e⟩:=nU (n:=s.heap.objs.size+1) k
   refine .inr ⟨.inl k,c,e,?_⟩
   have q:=x.cell y c e
   rw[kJ ndP hp hu (by show scope.names.lookup y≠_;rw[k];decide)] at q
   exact q
 ·exact e0.hok.fresh (DE (x.above y c (Et h)))
 ·unfold start
  show _=N.length
  rw[CW,B3,Fg]
  lia
theorem yU {CX:CXT}{P:Cy}{w:World}{K:B2}{mg:Str→Option Value}{base:Heap}{k:Nat}{f:Addr}{name qual:Str}{params:Arguments}{body:List Stmt}{scope:Scope}{dV kV doc pm cdv ct oc:Value}{an od:Option Addr}
  {osl:Array (Option Value)}{N ps:List Str}{sp:Sp} (lk:K.lookup f=some ⟨oc,od,.func (CB name qual params body scope dV kV doc pm an cdv ct),osl⟩) (hcd:Cv K cdv qual=true) (S:aw N ps scope)
  (len:∀vs H Q E,sp vs H Q E→vs.length=ps.length)
  (hbody:∀(A:Dc) (outer:List Env) (s:B7) (H:Hp) (vs:List V) (Q:VK) (E:XK),dc k (A.deeper (Gw qual scope s.heap.objs.size f cdv))→sp vs H Q E→
   ∃t,PSs (dY CX P w K mg base N qual scope f cdv A outer s H E) body t∧t {nx:=fun _ H'=>Q .non H',rt:=Q } (start N vs) H):
  a_ P w K mg base CX (k+1) f (CB name qual params body scope dV kV doc pm an cdv ct) ps sp:=by
 refine ⟨len,fun A outer s H args us vs Q E hr e0 hb r hsp=>?_⟩
 have hl:=len _ _ _ _ hsp
 have KX:K.In s.heap:=e0.mod.kin.keeps fun b o e=>(e0.bs b o e).1
 have lim:s.heap.NoLimit:=e0.mod.nolimit.keeps fun b o e=>(e0.bs b o e).1
 have hkind:∀y∈ps.zip us,scope.names.lookup y.1=some .local∨(scope.names.lookup y.1=some .cell∧((K2 (s.heap.objs.size+1) scope.names []).lookup y.1).isSome=true):=fun ⟨n,v⟩ hy=>by
  rcases S.par n (GH hy).1 with q |q
  ·exact .inl q
  ·exact .inr ⟨q,GY _ _ _ (.inl q)⟩
 refine codeAny_call_function hr.depth (KX _ _ lk) rfl S.co S.gen rfl (PySem.W.codeRec_of KX hcd) (hb _ _ _ _ ?_)
 refine wpAny_newFunctionEnv_cells S.kind hkind fun env he s1 x=>?_
 subst he
 refine ⟨lim.keeps x.toInCall.keep,codeAny_func ?_⟩
 obtain ⟨t,ht,hq⟩:=hbody A outer s H vs Q E (hr.deeper _) hsp
 have I:Inv (dY CX P w K mg base N qual scope f cdv A outer s H E) [] (start N vs) H s1:=ud S hr.hd e0 hl r x
 refine E4 (ht [] s1 (start N vs) H _ I hq) (fun fl s' hs=>?_) fun e s' hs=>hs
 have fin:∀{σ':St}{H':Hp}{v:V}{u:Value},Inv (dY CX P w K mg base N qual scope f cdv A outer s H E) [] σ' H' s'→bg v u→Q v H'→CE outer P w H s Q u s':=
  fun {σ' H' v u} J rv q=>⟨v,H',J.os,J.bare,J.base,J.hok,rv,q⟩
 cases fl with
 |ret u=>
  obtain ⟨v,σ',H',J,rv,q⟩:=hs
  exact fin J rv q
 |next=>
  obtain ⟨σ',H',J,q⟩:=hs
  exact fin (v:=V.non) (u:=CO) J rfl q
 |brk=>
  obtain ⟨_,_,_,q⟩:=hs
  exact False.elim q
 |cont=>
  obtain ⟨_,_,_,q⟩:=hs
  exact False.elim q
section
variable {X:Cx}{x:Str}{p pos:Pos}{e:Expr}{es:List Expr}{t:TA}{id T:String}{r:List V→Hp→VK→Prop}
def tCB (r:List V→Hp→VK→Prop) (t:TA):TE:=fun σ H Q=>t σ H fun vs H1=>r vs H1 Q
theorem n5 (hc:eR X (.builtin id) r) (hg:Gl X x) (hm:X.mg x=none) (hv:EJ x=some (.builtin id)) (ha:PA X (e::es) t) (hn:x≠"__name__":=by decide) (hdb:(x==("__debug__":Str))=false:=by decide)
  (he:Ce (e::es) X.env=(false,eval e X.env)::Ce es X.env:=by rfl) (hpl:(Fp pos (Ce es X.env)).any (·.1)=false:=by rfl):PE X (.Call (.Name x p) (e::es) [] pos) (tCB r t):=by
 intro pins s σ H Q I h
 refine DM (c_ I hg hm hv ?_ hn hdb)
 exact PyProof.Rows.callWith_builtin1 (thn (ha pos pins s σ H _ I h) fun us s1 ⟨vs,H1,I1,r1,q1⟩=>hc pins s1 σ H1 vs us Q I1 r1 q1) he hpl
theorem t8 (hc:eR X (.type T) r) (hg:Gl X x) (hm:X.mg x=none) (hv:EJ x=some (.type T)) (ha:PA X (e::es) t) (hn:x≠"__name__":=by decide) (hdb:(x==("__debug__":Str))=false:=by decide)
  (he:Ce (e::es) X.env=(false,eval e X.env)::Ce es X.env:=by rfl) (hpl:(Fp pos (Ce es X.env)).any (·.1)=false:=by rfl):PE X (.Call (.Name x p) (e::es) [] pos) (tCB r t):=by
 intro pins s σ H Q I h
 refine DM (c_ I hg hm hv ?_ hn hdb)
 exact PyProof.Rows.callWith_type1 (thn (ha pos pins s σ H _ I h) fun us s1 ⟨vs,H1,I1,r1,q1⟩=>hc pins s1 σ H1 vs us Q I1 r1 q1) he hpl
end
end L2
namespace HT
open PySem PyProof.Rows
section
open PySem.SeqAt
open PySem.AutoSeq1 (wpAny_loadPart')
open PySem.MeetsSeq PySem.MeetsSeq2 PySem.MeetsSeq3
end
section
variable {prog:Cy}{w:World}{A:Dc}{E:Value→B7→Prop}{s:B7}
def sIx (n d:Nat):Option Int→Nat
 |none=>d
 |some v=>if v < 0 then (v+(n:Int)).toNat else min v.toNat n
end
end HT
namespace L2
open PySem PySem.Spec PyProof.Rows
abbrev TO:=St→Hp→(Option Int→Hp→Prop)→Prop
def PO (X:Cx) (e:Option Expr) (t:TO):Prop:=
 ∀(pins:List (Addr×Obj)) (s:B7) (σ:St) (H:Hp) (Q:Option Int→Hp→Prop),Inv X pins σ H s→t σ H Q→
  wpAny (model X.prog X.w) X.A (evalPart e X.env) (fun u s'=>∃o H',Inv X pins σ H' s'∧IsPart u o∧Q o H') X.xe s
def x8:TO:=fun _ H Q=>Q none H
def AO (t:TE):TO:=fun σ H Q=>t σ H fun x H1=>∃i,x=.int i∧Q (some i) H1
section
variable {X:Cx}{e:Expr}{te:TE}{lo hi:Option Expr}{tl th:TO}{pos p2:Pos}
theorem xj:PO X none x8:=by
 intro pins s σ H Q I h
 rw[JU]
 exact B6 ⟨none,H,I,.none,h⟩
theorem yE (h:PE X e te):PO X (some e) (AO te):=by
 intro pins s σ H Q I hw
 rw[evalPart_some]
 refine thn (h pins s σ H _ I hw) fun u s1 ⟨x,H1,I1,r1,q1⟩=>?_
 obtain ⟨i,rfl,q⟩:=q1
 obtain ⟨t,rfl⟩:=r1
 exact ⟨some i,H1,I1,.int i t,q⟩
def SlR (X:Cx) (r:V→Option Int→Option Int→Hp→VK→Prop):Prop:=
 ∀(pins:List (Addr×Obj)) (s:B7) (σ:St) (H:Hp) (x:V) (v vl vu:Value) (lo hi:Option Int) (sl:Addr) (Q:VK),Inv X pins σ H s→bg x v→s.heap.IsSliceOf sl vl vu .none→IsPart vl lo→IsPart vu hi→r x lo hi H Q→
  ∃T id,Kj (.type T) "__getitem__"=pure (some (.builtin id))∧s.TypeIs v T∧wpAny (model X.prog X.w) X.A (getItem v (.ref sl)) (EP X pins σ Q) X.xe s
def tSl (r:V→Option Int→Option Int→Hp→VK→Prop) (te:TE) (tl th:TO):TE:=fun σ H Q=>te σ H fun x H1=>tl σ H1 fun l H2=>th σ H2 fun u H3=>r x l u H3 Q
theorem uQ {r:V→Option Int→Option Int→Hp→VK→Prop} (hr:SlR X r) (he:PE X e te) (hl:PO X lo tl) (hu:PO X hi th):PE X (.Subscript e (.Slice lo hi none p2) pos) (tSl r te tl th):=by
 intro pins s σ H Q I h
 refine L7 (thn (he pins s σ H _ I h) fun v s1 ⟨x,H1,I1,r1,q1⟩=>?_)
 refine wpAny_Slice (thn (hl pins s1 σ H1 _ I1 q1) fun vl s2 ⟨l,H2,I2,pl,q2⟩=>thn (hu pins s2 σ H2 _ I2 q2) fun vu s3 ⟨u,H3,I3,pu,q3⟩=>?_)
 rw[JU]
 refine B6 ?_
 have I4:Inv X pins σ H3 {s3 with heap:=s3.heap.push {cls:=.type "slice",data:=.fields #[vl,vu,.none] } }:=I3.kept (t':=s3.toks) fun b ob q=>B5 _ q
 obtain ⟨T,id,hT,ht,hg⟩:=hr pins {s3 with heap:=s3.heap.push {cls:=.type "slice",data:=.fields #[vl,vu,.none] } } σ H3 x v vl vu l u s3.heap.objs.size Q I4 r1 (JV ..) pl pu q3
 show wpAny (model X.prog X.w) X.A (JW e (.Slice lo hi none p2) v (.ref s3.heap.objs.size)) (EP X pins σ Q) X.xe {s3 with heap:=s3.heap.push {cls:=.type "slice",data:=.fields #[vl,vu,.none] } }
 exact tail_any (ops:=[.ref s3.heap.objs.size,v]) ht hT hg (by with_unfolding_all rfl)
def sr (xs:List V) (lo hi:Option Int):List V:=(xs.drop (HT.sIx xs.length 0 lo)).take (HT.sIx xs.length xs.length hi - HT.sIx xs.length 0 lo)
theorem nZ (xs:List V) (lo hi:Option Int):(sr xs lo hi).length≤xs.length:=by
 unfold sr
 rw[Hs,FH]
 lia
end
def ixN (n:Nat) (i:Int):Option Nat:=if 0≤i then (if i < n then some i.toNat else none) else if -(n:Int)≤i then some (i+n).toNat else none
def atI {α:Type} (xs:List α) (i:Int):Option α:=(ixN xs.length i).bind fun j=>xs[j]?
theorem xC {n:Nat}{i:Int}{j:Nat} (h:ixN n i=some j):seqIndex? i n=some j∧j < n∧-(n:Int)≤i∧i < n:=by
 unfold ixN at h
 by_cases h0:0≤i
 ·rw[if_pos h0] at h
  by_cases h1:i < n
  ·rw[if_pos h1] at h
   have e:i.toNat=j:=Du h
   exact ⟨by rw[seqIndex_of h0 h1,e],by lia,by lia,h1⟩
  ·rw[if_neg h1] at h;cases h
 ·rw[if_neg h0] at h
  by_cases h1:-(n:Int)≤i
  ·rw[if_pos h1] at h
   have e:(i+n).toNat=j:=Du h
   exact ⟨by rw[seqIndex_neg (by lia) h1,e],by lia,h1,by lia⟩
  ·rw[if_neg h1] at h;cases h
theorem qN {α:Type}{xs:List α}{i:Int}{v:α} (h:atI xs i=some v):∃j,seqIndex? i xs.length=some j∧xs[j]?=some v∧j < xs.length∧-(xs.length:Int)≤i∧i < xs.length:=by
 unfold atI at h
 cases e:ixN xs.length i with
 |none=>rw[e] at h;cases h
 |some j=>
  rw[e] at h
  obtain ⟨h1,h2,h3,h4⟩:=xC e
  exact ⟨j,h1,h,h2,h3,h4⟩
theorem rL {α:Type}{xs:List α}{j:Nat}{v:α} (h:xs[j]?=some v):atI xs (j:Int)=some v:=by
 have hj:j < xs.length:=(Cg.mp h).1
 have e:ixN xs.length (j:Int)=some j:=by
  unfold ixN
  rw[if_pos (by lia),if_pos (by lia)];simp
 unfold atI;rw[e];exact h
def lG (b:Expr):Prop:=∀o i,subscripted b false o i=operate [o,i] (getItem o i)
def IxR (X:Cx) (r:R2):Prop:=
 ∀(value slice:Expr) (pins:List (Addr×Obj)) (s:B7) (σ:St) (H:Hp) (x y:V) (v u:Value) (Q:VK),Inv X pins σ H s→bg x v→bg y u→r x y H Q→
  subscripted slice false v u=operate [v,u] (getItem v u)→wpAny (model X.prog X.w) X.A (JW value slice v u) (EP X pins σ Q) X.xe s
def MtR (X:Cx) (id:String) (r:V→List V→Hp→VK→Prop):Prop:=
 ∀(pins:List (Addr×Obj)) (s:B7) (σ:St) (H:Hp) (x:V) (xs:List V) (v:Value) (us:List Value) (Q:VK),Inv X pins σ H s→bg x v→aO xs us→r x xs H Q→
  wpAny (model X.prog X.w) X.A (call (.builtin id) (v::us)) (EP X pins σ Q) X.xe s
section
variable {X:Cx}{a b:Expr}{ta tb:TE}{pos:Pos}
theorem IxR.or {r r':R2} (h:IxR X r) (h':IxR X r'):IxR X (fun x y H Q=>r x y H Q∨r' x y H Q):=by
 intro value slice pins s σ H x y v u Q I rx ry q hs
 rcases q with q |q
 ·exact h value slice pins s σ H x y v u Q I rx ry q hs
 ·exact h' value slice pins s σ H x y v u Q I rx ry q hs
theorem yT {r:R2} (hr:IxR X r) (ha:PE X a ta) (hb:PE X b tb) (hs:lG b):PE X (.Subscript a b pos) (tOp r ta tb):=by
 intro pins s σ H Q I h
 exact L7 (Ad ha hb I h fun v u s2 x y H2 I2 rx ry q=>hr a b pins s2 σ H2 x y v u Q I2 rx ry q (hs _ _))
def BH (K:B2):R2:=fun x y H Q=>∃p xs i v,x=.ref p∧y=.int i∧SqL K H p xs∧atI xs i=some v∧Q v H
def BF (K:B2):R2:=fun x y H Q=>∃p xs i v,x=.ref p∧y=.int i∧SqT K H p xs∧atI xs i=some v∧Q v H
theorem qR:IxR X (BH X.K):=by
 intro value slice pins s σ H x y v u Q I rx ry h hs
 obtain ⟨p,xs,i,z,rfl,rfl,hq,he,q⟩:=h
 cases rx
 obtain ⟨t,rfl⟩:=ry
 obtain ⟨its,r,pl,hz⟩:=I.list hq
 obtain ⟨j,h1,h2,h3,h4,h5⟩:=qN he
 obtain ⟨w,ew,rw'⟩:=r.get h2
 have hl:=r.length
 have hn:=pL
 have fin:EP X pins σ Q w s:=⟨z,H,I,rw',q⟩
 by_cases h0:0≤i
 ·have hj:i.toNat=j:=by
   rw[seqIndex_of h0 h5] at h1
   exact Du h1
  exact item_listR pl.isList h0 (by lia) (by rw[hj];simpa using ew) fin hs
 ·have hj:(i+(its.toArray.size:Int)).toNat=j:=by
   rw[seqIndex_neg (by lia) h4] at h1
   rw[Cp,←hl]
   exact Du h1
  exact IT (x:=w) pl.isList.typeIs slot_list_getitem.lookup
   (wpAny_getItem_list_neg (Q:=fun r s'=>r=w∧EP X pins σ Q r s') pl.isList (by lia) (by rw[Cp] <;>lia) (by lia) (by rw[hj];simpa using ew) ⟨rfl,fin⟩) hs
theorem zJ:IxR X (BF X.K):=by
 intro value slice pins s σ H x y v u Q I rx ry h hs
 obtain ⟨p,xs,i,z,rfl,rfl,hq,he,q⟩:=h
 cases rx
 obtain ⟨t,rfl⟩:=ry
 obtain ⟨its,r,pl,hz⟩:=I.tuple hq
 obtain ⟨j,h1,h2,h3,h4,h5⟩:=qN he
 obtain ⟨w,ew,rw'⟩:=r.get h2
 have hl:=r.length
 have hn:=pL
 have fin:EP X pins σ Q w s:=⟨z,H,I,rw',q⟩
 exact IT (x:=w) pl.typeIs slot_tuple_getitem.lookup
  (getItem_tuple (j:=j) (Q:=fun r s'=>r=w∧EP X pins σ Q r s') pl (by lia) (by lia) (by rw[Cp,←hl];exact h1) (by simpa using ew) ⟨rfl,fin⟩) hs
theorem mI (lo hi:Option Int) (n:Nat):(G8 lo hi none n).1=((HT.sIx n 0 lo:Nat):Int)∧(G8 lo hi none n).2.1=((HT.sIx n n hi:Nat):Int)∧(G8 lo hi none n).2.2=1:=by
 refine ⟨?_,?_,rfl⟩
 ·cases lo with
  |none=>simp[G8,HT.sIx]
  |some i=>
   simp only[G8,HT.sIx,KH,show (1:Int) >0 by decide,if_true]
   by_cases h:i < 0
   ·simp only[h,if_true] <;>lia
   ·simp only[h,if_false] <;>lia
 ·cases hi with
  |none=>simp[G8,HT.sIx]
  |some i=>
   simp only[G8,HT.sIx,KH,show (1:Int) >0 by decide,if_true]
   by_cases h:i < 0
   ·simp only[h,if_true] <;>lia
   ·simp only[h,if_false] <;>lia
theorem kE (its:List Value) (lo hi:Option Int):slicePick its.toArray lo hi none=((its.drop (HT.sIx its.length 0 lo)).take (HT.sIx its.length its.length hi - HT.sIx its.length 0 lo)).toArray:=by
 obtain ⟨h1,h2,h3⟩:=mI lo hi its.toArray.size
 unfold slicePick
 rw[h1,h2,h3]
 simp only[sliceRange_one,pick_run,Cp] <;>rfl
def BL (K:B2):V→Option Int→Option Int→Hp→VK→Prop:=fun x lo hi H Q=>∃a xs,x=.ref a∧SqL K H a xs∧∀p,H p=none→Q (.ref p) (upd H p (.lst (sr xs lo hi)))
theorem w6:SlR X (BL X.K):=by
 intro pins s σ H x v vl vu lo hi sl Q I rx hs pl pu h
 obtain ⟨a,xs,rfl,hx,q⟩:=h
 cases rx
 obtain ⟨its,r,ht,hz⟩:=I.list hx
 have hlen:=r.length
 refine ⟨"list",_,slot_list_getitem.lookup,ht.isList.typeIs,?_⟩
 refine Ij ht.isList hs pl pu .none (by simp) ?_ (by rw[Cp] <;>lia)
 rw[kE,←hlen]
 refine ⟨.ref s.heap.objs.size,_,I.laid (t':=s.toks) (o:=.lst (sr xs lo hi)) (fun b ob q=>B5 _ q) (B9 _) ?_,rfl,q _ (I.hok.fresh (B9 _))⟩
 exact ⟨DZ (nZ xs lo hi) hz,_,0,(r.drop (HT.sIx xs.length 0 lo)).take (HT.sIx xs.length xs.length hi - HT.sIx xs.length 0 lo),Cm _ rfl⟩
def gB:V→Bool
 | .non=>true
 | .bl _=>true
 | .int _=>true
 | .str _=>true
 |_=>false
def eqV:V→V→Bool
 | .non,.non=>true
 | .bl a,.bl b=>a==b
 | .bl a,.int b=>(if a then 1 else 0)==b
 | .int a,.bl b=>a==(if b then 1 else 0)
 | .int a,.int b=>a==b
 | .str a,.str b=>a==b
 |_,_=>false
theorem zu {A:Dc}{s:B7}{y x:V}{u v:Value} (ry:bg y u) (rx:bg x v) (fy:gB y=true) (fx:gB x=true):SeqAt.EqAt A s u v (eqV y x):=by
 cases y with
 |non=>
  cases ry
  cases x with
  |non=>cases rx;exact SeqAt.EqAt.same _
  |bl b=>cases rx;exact SeqAt.EqAt.none_bool b
  |int b=>obtain ⟨t,rfl⟩:=rx;exact SeqAt.EqAt.none_int b t
  |str b=>obtain ⟨t,rfl⟩:=rx;exact SeqAt.EqAt.none_str b t
  |_=>exact absurd (show false=true from fx) CM
 |bl a=>
  cases ry
  cases x with
  |non=>cases rx;exact SeqAt.EqAt.bool_none a
  |bl b=>cases rx;exact SeqAt.EqAt.bool_bool a b
  |int b=>obtain ⟨t,rfl⟩:=rx;exact SeqAt.EqAt.bool_int a b t
  |str b=>obtain ⟨t,rfl⟩:=rx;exact SeqAt.EqAt.bool_str a b t
  |_=>exact absurd (show false=true from fx) CM
 |int a=>
  obtain ⟨t',rfl⟩:=ry
  cases x with
  |non=>cases rx;exact SeqAt.EqAt.int_none a t'
  |bl b=>cases rx;exact SeqAt.EqAt.int_bool a t' b
  |int b=>obtain ⟨t,rfl⟩:=rx;exact SeqAt.EqAt.int_int a t' b t
  |str b=>obtain ⟨t,rfl⟩:=rx;exact SeqAt.EqAt.int_str a t' b t
  |_=>exact absurd (show false=true from fx) CM
 |str a=>
  obtain ⟨t',rfl⟩:=ry
  cases x with
  |non=>cases rx;exact SeqAt.EqAt.str_none a t'
  |bl b=>cases rx;exact SeqAt.EqAt.str_bool a t' b
  |int b=>obtain ⟨t,rfl⟩:=rx;exact SeqAt.EqAt.str_int a t' b t
  |str b=>obtain ⟨t,rfl⟩:=rx;exact SeqAt.EqAt.str_str a t' b t
  |_=>exact absurd (show false=true from fx) CM
 |_=>exact absurd (show false=true from fy) CM
def eqU (x:V) (u:Value):Bool:=match u with
 | .none=>eqV .non x
 | .bool b=>eqV (.bl b) x
 | .int i _=>eqV (.int i) x
 | .str z _=>eqV (.str z) x
 |_=>false
theorem wO {x y:V}{u:Value} (r:bg y u) (f:gB y=true):eqU x u=eqV y x:=by
 cases y with
 |non=>cases r;rfl
 |bl b=>cases r;rfl
 |int i=>obtain ⟨t,rfl⟩:=r;rfl
 |str z=>obtain ⟨t,rfl⟩:=r;rfl
 |_=>exact absurd (show false=true from f) CM
theorem mU {x:V}:∀{xs:List V}{us:List Value},aO xs us→xs.all gB=true→us.any (eqU x)=xs.any fun y=>eqV y x
 |_,_,.nil,_=>rfl
 |y::xs,u::us,.cons r t,f=>by
  rw[GI,DL] at f
  rw[Mb,Mb,wO r f.1,mU t f.2]
theorem jX {A:Dc}{s:B7}{x:V}{v:Value} (rx:bg x v) (fx:gB x=true):∀{xs:List V}{us:List Value},aO xs us→xs.all gB=true→∀u∈us,SeqAt.EqAt A s u v (eqU x u)
 |_,_,.nil,_=>fun u hu=>by cases hu
 |y::xs,u::us,.cons r t,f=>fun u' hu=>by
  rw[GI,DL] at f
  rcases Cd.mp hu with rfl |hu
  ·rw[wO r f.1];exact zu r rx f.1 fx
  ·exact jX rx fx t f.2 u' hu
def inV (x:V) (xs:List V):Bool:=xs.any fun y=>eqV y x
def rIn (K:B2) (neg:Bool):R2:=fun x y H Q=>∃p xs,y=.ref p∧(SqL K H p xs∨SqT K H p xs)∧gB x=true∧xs.all gB=true∧Q (.bl (if neg then !inV x xs else inV x xs)) H
theorem sO:OpR X (El .In) (rIn X.K false):=by
 intro pins s σ H x y v u Q I rx ry h
 obtain ⟨p,xs,rfl,hq,fx,fs,q⟩:=h
 cases ry
 rcases hq with hq |hq
 ·obtain ⟨its,r,pl,hz⟩:=I.list hq
  refine SeqAt.in_listAt (eqU x) pl.isList (fun w hw=>jX rx fx r fs w (by simpa using hw)) ⟨.bl _,H,I,rfl,?_⟩
  rw[show its.toArray.any (eqU x)=its.any (eqU x) by simp,mU r fs]
  exact q
 ·obtain ⟨its,r,pl,hz⟩:=I.tuple hq
  refine SeqAt.in_tupleAt (eqU x) pl (fun w hw=>jX rx fx r fs w (by simpa using hw)) ⟨.bl _,H,I,rfl,?_⟩
  rw[show its.toArray.any (eqU x)=its.any (eqU x) by simp,mU r fs]
  exact q
theorem h7:eR X (.builtin "len") (fun xs H Q=>∃p ys,xs=[.ref p]∧(SqL X.K H p ys∨SqT X.K H p ys)∧Q (.int ys.length) H):=by
 intro pins s σ H xs us Q I r h
 obtain ⟨p,ys,rfl,hq,q⟩:=h
 obtain ⟨u,rfl,rx⟩:=fk r
 cases rx
 have hn:=pL
 rcases hq with hq |hq
 ·obtain ⟨its,r',pl,hz⟩:=I.list hq
  have hlen:=r'.length
  exact Calls.call_len_list pl.isList (by simp only[Cp] <;>lia) ⟨.int ys.length,H,I.tok _,⟨s.toks+1,by rw[Cp,hlen]⟩,q⟩
 ·obtain ⟨its,r',pl,hz⟩:=I.tuple hq
  have hlen:=r'.length
  exact len_tuple pl (by simp only[Cp] <;>lia) ⟨.int ys.length,H,I.tok _,⟨s.toks+1,by rw[Cp,hlen]⟩,q⟩
theorem lL:eR X (.type "list") (fun xs H Q=>∃p ys,xs=[.ref p]∧(SqL X.K H p ys∨SqT X.K H p ys)∧∀l,H l=none→Q (.ref l) (upd H l (.lst ys))):=by
 intro pins s σ H xs us Q I r h
 obtain ⟨p,ys,rfl,hq,q⟩:=h
 obtain ⟨u,rfl,rx⟩:=fk r
 cases rx
 have fin:∀(its:List Value),aO ys its→ys.length≤sizeLine→∀(h':Heap) (c':Nat),(∀b o',s.heap.get? b=some o'→h'.get? b=some o')→
   h'.get? s.heap.objs.size=some {cls:=.type "list",dict:=none,data:=.seq its.toArray c',slots:=#[] }→EP X pins σ Q (.ref s.heap.objs.size) {s with heap:=h' }:=fun its r' hz h' c' kp e=>
  ⟨.ref s.heap.objs.size,_,I.laid (t':=s.toks) kp (B9 _) (show cw X.prog X.w _ h' _ (.lst ys) from ⟨hz,its,c',r',e⟩),rfl,q _ (I.hok.fresh (B9 _))⟩
 rcases hq with hq |hq
 ·obtain ⟨its,r',pl,hz⟩:=I.list hq
  have hlen:=r'.length
  obtain ⟨o,ho,hc,n,hd⟩:=pl.isList
  exact call_list_seq p (.inl rfl) ho hc hd (fun h' c' kp e=>fin its r' hz h' c' kp e) (by simp only[Cp] <;>lia)
 ·obtain ⟨its,r',pl,hz⟩:=I.tuple hq
  have hlen:=r'.length
  obtain ⟨o,ho,hc,n,hd⟩:=pl
  exact call_list_seq p (.inr rfl) ho hc hd (fun h' c' kp e=>fin its r' hz h' c' kp e) (by simp only[Cp] <;>lia)
def tyV (K:B2) (T:String) (x:V) (H:Hp):Prop:=match x with
 | .str _=>T="str"
 | .int _=>T="int"
 | .ref p=>(T="list"∧∃xs,SqL K H p xs)∨(T="tuple"∧∃o,K.lookup p=some o∧o.cls=.type "tuple"∧o.dict=none)∨
   (T="dict"∧((∃kvs,H p=some (.dK kvs))∨∃kvs,H p=some (.dT kvs)))∨(T="set"∧∃S n,H p=some (.set S n))
 |_=>False
theorem vG {pins:List (Addr×Obj)}{σ:St}{H:Hp}{s:B7}{T:String}{x:V}{v:Value} (I:Inv X pins σ H s) (r:bg x v) (ty:tyV X.K T x H):
  s.TypeIs v T∧∀a,v=.ref a→∃ob,s.heap.get? a=some ob∧ob.dict=none:=by
 cases x with
 |str z=>
  obtain ⟨t,rfl⟩:=r
  cases (show T="str" from ty)
  exact ⟨typeIs_str s z t,fun _ e=>nomatch e⟩
 |int i=>
  obtain ⟨t,rfl⟩:=r
  cases (show T="int" from ty)
  exact ⟨Jv s i t,fun _ e=>nomatch e⟩
 |ref p=>
  cases r
  rcases ty with ⟨rfl,xs,hq⟩ |⟨rfl,o,hk,hc,hd⟩ |⟨rfl,hk⟩ |⟨rfl,S,n,hk⟩
  ·obtain ⟨its,_,pl,_⟩:=I.list hq
   refine ⟨pl.isList.typeIs,fun a e=>?_⟩
   cases e
   obtain ⟨o,n,e,c,hd,_⟩:=pl
   exact ⟨o,e,hd⟩
  ·refine ⟨⟨o,I.kIn p o hk,hc⟩,fun a e=>?_⟩
   cases e
   exact ⟨o,I.kIn _ o hk,hd⟩
  ·have z:∃o,s.heap.get? p=some o∧o.ExactDict:=by
    rcases hk with ⟨kvs,hk⟩ |⟨kvs,hk⟩
    ·obtain ⟨_,_,_,_,o,_,_,e,ex,_⟩:=I.hok p _ hk
     exact ⟨o,e,ex⟩
    ·obtain ⟨_,_,_,_,o,_,_,e,ex,_⟩:=I.hok p _ hk
     exact ⟨o,e,ex⟩
   obtain ⟨o,e,ex⟩:=z
   refine ⟨⟨o,e,ex.1⟩,fun a e2=>?_⟩
   cases e2
   exact ⟨o,e,ex.2.1⟩
  ·obtain ⟨o,_,_,_,e,ex,_⟩:=I.hok p _ hk
   refine ⟨⟨o,e,ex.1⟩,fun a e2=>?_⟩
   cases e2
   exact ⟨o,e,ex.2.1⟩
 |_=>exact False.elim ty
def BT (K:B2) (T:String) (r:V→List V→Hp→VK→Prop) (to:TE):TE:=fun σ H Q=>to σ H fun x H1=>tyV K T x H1∧r x [] H1 Q
def tBM (K:B2) (T:String) (r:V→List V→Hp→VK→Prop) (to:TE) (t:TA):TE:=fun σ H Q=>to σ H fun x H1=>tyV K T x H1∧t σ H1 fun xs H2=>r x xs H2 Q
variable {o e:Expr}{es:List Expr}{to:TE}{t:TA}{name:Str}{apos cpos:Pos}{T id:String}{r:V→List V→Hp→VK→Prop}
theorem Ay (pa:PlainAttrs T) (slot:Slot T name id) (hty:typeOf (.builtin id)=pure (.type "method_descriptor")) (hm:MtR X id r) (ho:PE X o to)
  (hbase:HC o name X.env (eval o X.env)=eval o X.env:=by rfl) (hline:(apos.endLine==cpos.line)=true:=by rfl):PE X (.Call (.Attribute o name apos) [] [] cpos) (BT X.K T r to):=by
 intro pins s σ H Q I h
 refine wpAny_Call_method0_late hbase hline (thn (ho pins s σ H _ I h) fun v s1 ⟨x,H1,I1,r1,ty,q1⟩=>?_)
 obtain ⟨h1,h2⟩:=vG I1 r1 ty
 exact ⟨T,id,pa,slot,hty,h1,h2,IU rfl (PySem.evalArgs_none (hm pins s1 σ H1 x [] v [] Q I1 r1 .nil q1))⟩
theorem yM (pa:PlainAttrs T) (slot:Slot T name id) (hty:typeOf (.builtin id)=pure (.type "method_descriptor")) (hm:MtR X id r) (ho:PE X o to) (ha:PA X (e::es) t)
  (hbase:HC o name X.env (eval o X.env)=eval o X.env:=by rfl)
  (hfew:((Fp cpos (Ce (e::es) X.env)).all (fun x=>!x.1) && (backToKw cpos (K4 [] X.env)).all (fun x=>x.1.isSome)
   && decide ((e::es).length+([]:List JM).length+(if ([]:List JM).isEmpty then 0 else 1) < 30))=true:=by rfl)
  (hline:(apos.endLine==cpos.line)=true:=by rfl) (hs:Ce (e::es) X.env=(false,eval e X.env)::Ce es X.env:=by rfl) (hplain:(Fp cpos (Ce es X.env)).any (·.1)=false:=by rfl):
  PE X (.Call (.Attribute o name apos) (e::es) [] cpos) (tBM X.K T r to t):=by
 intro pins s σ H Q I h
 refine wpAny_Call_method_late hbase hfew hline rfl (thn (ho pins s σ H _ I h) fun v s1 ⟨x,H1,I1,r1,ty,q1⟩=>?_)
 obtain ⟨h1,h2⟩:=vG I1 r1 ty
 refine ⟨T,id,pa,slot,hty,h1,h2,?_⟩
 have hA:=ha cpos pins s1 σ H1 _ I1 q1
 rw[hs] at hA ⊢
 refine IU (by show (false || (Fp cpos (Ce es X.env)).any (·.1))=false;rw[hplain] <;>rfl) (Jx ?_)
 exact thn hA fun us s2 ⟨vs,H2,I2,r2,q2⟩=>hm pins s2 σ H2 x vs v us Q I2 r1 r2 q2
/- xs.append(e),list.index on a module's tuple .. are MtR facts of 06m -/
end
def MtM (X:Cx) (id:String) (r:V→List V→Hp→VK→Prop):Prop:=
 ∀(pins:List (Addr×Obj)) (s:B7) (σ:St) (H:Hp) (x:V) (xs:List V) (v:Value) (us:List Value) (Q:VK),Inv X pins σ H s→bg x v→aO xs us→r x xs H Q→
  wpAny (model X.prog X.w) X.A (call (.builtin id) (v::us)) (EP X pins σ Q) X.xe s
theorem aO.one:∀{x:V}{us:List Value},aO [x] us→∃u,us=[u]∧bg x u
 |_,_,.cons r .nil=>⟨_,rfl,r⟩
theorem aO.zero:∀{us:List Value},aO [] us→us=[]
 |_,.nil=>rfl
theorem aO.dropLast {xs:List V}{us:List Value} (h:aO xs us):aO xs.dropLast us.dropLast:=by
 induction h with
 |nil=>exact .nil
 |cons r t ih=>
  cases t with
  |nil=>exact .nil
  |cons q t'=>exact .cons r ih
theorem o8 {α:Type} (l:List α):l.eraseIdx (l.length - 1)=l.dropLast:=by
 induction l with
 |nil=>rfl
 |cons a r ih=>
  cases r with
  |nil=>rfl
  |cons b r=>
   have e:(a::b::r).length - 1=((b::r).length - 1)+1:=by
    have h1:(a::b::r).length=r.length+2:=rfl
    have h2:(b::r).length=r.length+1:=rfl
    lia
   rw[e,List.eraseIdx_cons_succ,ih]
   all_goals rfl
section
variable {X:Cx}{pins:List (Addr×Obj)}{σ:St}{H:Hp}{s:B7}{l b:Addr}{xs ys zs:List V}
theorem Inv.lset {its its':List Value}{n:Nat}{f:Array Value→Array Value}{t':Nat} (I:Inv X pins σ H s) (hH:H l=some (.lst xs))
  (e:s.heap.get? l=some {cls:=.type "list",data:=.seq its.toArray n }) (hf:f its.toArray=its'.toArray) (hv:aO ys its') (hz:ys.length≤sizeLine):
  Inv X pins σ (upd H l (.lst ys)) {s with heap:=s.heap.update l (Dx f),toks:=t' }:=by
 have q:=PySem.IsL.update e f
 rw[hf] at q
 refine I.write (x:=l) (e:=l) (by rw[hH];exact trivial) (.inl rfl) (fun b' u hb hu=>(CJ s.heap (Dx f) (Ne.symm hb)).trans hu) ⟨_,q⟩ ?_
 exact ⟨hz,its',_,hv,q⟩
theorem Inv.lnew {its:List Value}{t':Nat} (I:Inv X pins σ H s) (hv:aO ys its) (hz:ys.length≤sizeLine):
  Inv X pins σ (upd H s.heap.objs.size (.lst ys)) {s with heap:=s.heap.push {cls:=.type "list",data:=.seq its.toArray },toks:=t' }:=
 I.laid (fun _ _ q=>B5 _ q) (B9 _) ⟨hz,its,0,hv,Cm _ rfl⟩
theorem Inv.fresh (I:Inv X pins σ H s):H s.heap.objs.size=none:=I.hok.fresh (B9 _)
theorem Inv.lstM (I:Inv X pins σ H s) (hH:H l=some (.lst xs)):xs.length≤sizeLine∧∃(its:List Value) (n:Nat),aO xs its∧xs.length=its.length∧s.heap.get? l=some {cls:=.type "list",data:=.seq its.toArray n }:=by
 obtain ⟨z,its,n,r,e⟩:=I.hok l _ hH
 exact ⟨z,its,n,r,r.length,e⟩
theorem wx {n:Nat} (h:n≤sizeLine):Builtin.List.listTooLong n=false:=by
 unfold Builtin.List.listTooLong
 exact decide_eq_false (by lia)
end
section
variable {X:Cx}
def yq:V→List V→Hp→VK→Prop:=fun x vs H Q=>∃l xs y,x=.ref l∧vs=[y]∧H l=some (.lst xs)∧xs.length < sizeLine∧Q .non (upd H l (.lst (xs++[y])))
theorem ir:MtM X "list.append" yq:=by
 intro pins s σ H x vs v us Q I rx rv h
 obtain ⟨l,xs,y,rfl,rfl,hH,hz,q⟩:=h
 cases rx
 obtain ⟨u,rfl,ru⟩:=rv.one
 obtain ⟨z,its,n,r,hl,e⟩:=I.lstM hH
 refine L8 F.slot_list_append ⟨_,e,rfl⟩ F.entry_list_append (F.args_list_append_2 _ _) (PySem.list_append l its.toArray n u (by rw[Cp];lia)) ⟨e,?_⟩
 refine ⟨.non,_,I.lset (its':=its++[u]) hH e (by simp) (r.append (.cons ru .nil)) ?_,rfl,q⟩
 rw[CW,Jc]
 lia
def yA:V→List V→Hp→VK→Prop:=fun x vs H Q=>∃l b xs zs,x=.ref l∧vs=[.ref b]∧H l=some (.lst xs)∧H b=some (.lst zs)∧xs.length+zs.length≤sizeLine∧Q .non (upd H l (.lst (xs++zs)))
theorem tq:MtM X "list.extend" yA:=by
 intro pins s σ H x vs v us Q I rx rv h
 obtain ⟨l,b,xs,zs,rfl,rfl,hH,hB,hz,q⟩:=h
 cases rx
 obtain ⟨u,rfl,ru⟩:=rv.one
 cases ru
 obtain ⟨z,its,n,r,hl,e⟩:=I.lstM hH
 obtain ⟨z2,its2,n2,r2,hl2,e2⟩:=I.lstM hB
 have hsz:its.toArray.size+its2.toArray.size≤sizeLine:=by rw[Cp,Cp];lia
 have hlong:¬ (!its.toArray.isEmpty && Builtin.List.listTooLong (its.toArray.size+its2.toArray.size))=true:=by
  rw[wx hsz,Ic]
  exact CM
 refine L8 F.slot_list_extend ⟨_,e,rfl⟩ F.entry_list_extend (F.args_list_extend_2 _ _)
  (AutoSeq1.list_extend_list_list_0 l its.toArray n b its2.toArray n2 hlong (by rw[Cp];lia) (by lia)) ⟨e,e2,?_⟩
 refine ⟨.non,_,I.lset (its':=its++its2) hH e (by simp) (r.append r2) ?_,rfl,q⟩
 rw[CW]
 lia
def BV:V→List V→Hp→VK→Prop:=fun x vs H Q=>∃l xs y,x=.ref l∧vs=[]∧H l=some (.lst xs)∧xs[xs.length - 1]?=some y∧Q y (upd H l (.lst xs.dropLast))
theorem zo:MtM X "list.pop" BV:=by
 intro pins s σ H x vs v us Q I rx rv h
 obtain ⟨l,xs,y,rfl,rfl,hH,hy,q⟩:=h
 cases rx
 have hus:=rv.zero
 subst hus
 obtain ⟨z,its,n,r,hl,e⟩:=I.lstM hH
 obtain ⟨u,hu,ru⟩:=r.get hy
 have hy':its.toArray[its.toArray.size - 1]?=some u:=by
  show its.toArray[its.length - 1]?=some u
  rw[←Dy,←hl]
  exact hu
 refine L8 F.slot_list_pop ⟨_,e,rfl⟩ F.entry_list_pop (F.args_list_pop_1 _) (MeetsSeq.list_pop_last l its.toArray n u hy' (by rw[Cp];lia)) ⟨e,?_⟩
 refine ⟨y,_,I.lset (its':=its.dropLast) hH e ?_ r.dropLast ?_,ru,q⟩
 ·show its.toArray.eraseIdxIfInBounds (its.toArray.size - 1)=its.dropLast.toArray
  rw[Cp,List.eraseIdxIfInBounds_toArray,o8]
 ·rw[EZ]
  lia
def BS:R2:=fun x y H Q=>∃l b xs zs,x=.ref l∧y=.ref b∧H l=some (.lst xs)∧H b=some (.lst zs)∧xs.length+zs.length≤sizeLine∧∀p,H p=none→Q (.ref p) (upd H p (.lst (xs++zs)))
theorem zF:OpR X (Hd .Add) BS:=by
 intro pins s σ H x y v u Q I rx ry h
 obtain ⟨l,b,xs,zs,rfl,rfl,hH,hB,hz,q⟩:=h
 cases rx
 cases ry
 obtain ⟨z,its,n,r,hl,e⟩:=I.lstM hH
 obtain ⟨z2,its2,n2,r2,hl2,e2⟩:=I.lstM hB
 refine PySem.P.add_list e e2 ?_ (by rw[Cp,Cp];lia)
 have ea:its.toArray++its2.toArray=(its++its2).toArray:=by simp
 rw[ea]
 exact ⟨.ref _,_,I.lnew (t':=s.toks) (r.append r2) (by rw[CW];lia),rfl,q _ I.fresh⟩
end
section
variable {prog:Cy}{w:World}{A:Dc}{E:Value→B7→Prop}{s:B7}
end
section
variable {X:Cx}
end
end L2
namespace Att
open PySem PySem.W PySem.Calls PyProof.Rows
theorem iX {P:Params}{h:Heap}:∀(ns:List Int) (vs:List Value),WellAll P h vs (ns.map WData.int)→Mc vs ns:=by
 intro ns
 induction ns with
 |nil=>
  intro vs w
  rw[Mo] at w
  cases w
  exact .nil
 |cons n ns ih=>
  intro vs w
  rw[CY] at w
  cases w with
  |cons a b=>
   cases a
   exact .cons _ _ (ih _ b)
theorem script_of {l:OpenLaw}{n:Nat} (hn:l.most=some n) {P:Params}{h:Heap}{args:List WData}{vals:List Value}
  (hpre:l.row.toRowW.claim.pre args=true) (hwl:WellAll P h vals args):
  ∃a vs ns,vals=[C8 a]∧args=[WData.list (ns.map WData.int)]∧h.get? a=some {cls:=.type "list",data:=.seq vs.toArray }∧Mc vs ns∧ns.length≤n:=by
 have hsh:WShape.hasAll [] args [.list .int]=true:=(pre_splitW hpre).1
 have hc:l.pre.holds [] {args:=args }=true:=(pre_splitW hpre).2
 obtain ⟨d,r,rfl,h1,h2⟩:=hasAllW_cons hsh
 obtain rfl:=hasAllW_nil h2
 obtain ⟨xs,rfl,h3⟩:=hasW_list h1
 obtain ⟨ns,rfl⟩:=items_int h3
 have hlen:ns.length≤n:=by
  unfold OpenLaw.pre at hc
  have h4:(WTm.not (.lt (.lit (.int (n:Int))) (.len (.arg 0)))).holds [] {args:=[.list (ns.map .int)] }=true:=by
   have h4:=(holds_andW hc).1
   rw[hn] at h4
   exact h4
  have h5:=condW_of h4 (w_not (w_lt w_lit (w_len_list (w_arg rfl))))
  rw[B3] at h5
  refine Ht fun q=>?_
  have q':(n:Int) < ((ns.length:Nat):Int):=by lia
  first
   | (rw[decide_eq_true q'] at h5;exact absurd h5 (by decide))
   | (simp at h5;lia)
 cases hwl with
 |cons w1 w2=>
  cases w2
  cases w1 with
  |list ho hall=>exact ⟨_,_,ns,rfl,rfl,ho,iX ns _ hall,hlen⟩
theorem post_true (l:OpenLaw) (args:List WData):l.row.toRowW.claim.post args (.bool true) args=true:=
 postW_of (r:=l.row.toRowW) (X:=(true==true))
  (show WShape.has [] (.bool true) .bool=true by first |rfl |decide |simp[WShape.has,WShape.arms,WShape.armsAll])
  (show (WTm.eq .res (.lit (.bool true))).value [] {args:=args,res:=some (.bool true),after:=args }=some (.bool (true==true)) from w_eq_bool (w_res rfl) w_lit) rfl
section
variable {prog:Cy}{w:World}{A:Dc}{E:Value→B7→Prop}{s:B7}{K:Frag}
end
end Att
namespace L2
open PySem PySem.Spec PyProof.Rows
theorem lg:∀{vs:List Value}{ns:List Int},Mc vs ns→aO (ns.map V.int) vs
 |_,_,.nil=>.nil
 |_,_,.cons n t h=>.cons ⟨t,rfl⟩ (lg h)
def xW (H:Hp):Prop:=∀b,H b=none∨∃o xs,H b=some (.frz o (.lst xs))
theorem vW {P:Cy}{w:World}{K:B2}{mg mb:Str→Option Value}{CX:CXT}{k:Nat}{fa a:Addr}{fd:CN}{x:Str}{sp:Sp}{s₁:B7}{vs:List Value}{ns:List Int}
  (KX:K.In s₁.heap) (hns:s₁.heap.Ns Ck mg) (hb:s₁.heap.Ns LP mb) (hbb:∀x:Str,x≠"__name__"→mb x=EJ x) (hlim:s₁.heap.NoLimit) (hg:s₁.gens=#[])
  (ha:s₁.heap.get? a=some {cls:=.type "list",data:=.seq vs.toArray }) (hi:Mc vs ns) (hl:ns.length≤sizeLine) (hr:dc k Kk)
  (F:∀base:Heap,K.In base→base.Ns Ck mg→a_ P w K mg base CX k fa fd [x] sp) (hbind:∀(s:B7) (u:Value),JL s fd ⟨[u],[]⟩ [(x,u)])
  (hsp:∀H:Hp,xW H→SqL K H a (ns.map V.int)→sp [.ref a] H (fun v _=>v=.bl true) fun _ _ _=>False)
  (hCX:∀H e s',CX [] H s₁ (fun _ _ _=>False) e s'→False):
  Gg (model P w) Kk (.call (.ref fa) ⟨[.ref a],[]⟩) (fun r s'=>r=.ok (.ret (.bool true))∧OldK s₁.heap s'.heap∧s'.os=s₁.os∧Iz s'.gens) s₁:=by
 have rv:=lg hi
 have lenV:=hi.length
 have core:∀H:Hp,xW H→SqL K H a (ns.map V.int)→HOk P w H s₁.heap→(∀b,H b≠none→b=a)→(H a≠none→K.lookup a=none)→
   Gg (model P w) Kk (.call (.ref fa) ⟨[.ref a],[]⟩) (fun r s'=>r=.ok (.ret (.bool true))∧OldK s₁.heap s'.heap∧s'.os=s₁.os∧Iz s'.gens) s₁:=by
  intro H hO hS hok hA hK
  have base_of:∀{b:Addr}{o:Obj},s₁.heap.get? b=some o→H b=none→(mJ s₁.heap H).get? b=some o:=fun e n=>uC e n
  have noA:∀{b:Addr}{o:Obj}{es:Array DictEntry}{ep:Nat},s₁.heap.get? b=some o→o.data=.dict es ep→H b=none:=fun {b o es ep} e d=>by
   cases q:H b with
   |none=>rfl
   |some u=>
    have e':b=a:=hA b (by rw[q];simp)
    subst e'
    rw[ha] at e;cases e
    have d':Data.seq vs.toArray _=Data.dict es ep:=d
    cases d'
  have nsK:∀{b:Addr}{m:Str→Option Value},s₁.heap.Ns b m→(mJ s₁.heap H).Ns b m:=fun {b m} ⟨o,es,ep,e,d,r⟩=>⟨o,es,ep,base_of e (noA e d),d,r⟩
  have hKb:K.In (mJ s₁.heap H):=fun b o e=>base_of (KX b o e) (by
   cases q:H b with
   |none=>rfl
   |some u=>
    have e':b=a:=hA b (by rw[q];simp)
    subst e'
    rw[hK (by rw[q];simp)] at e;cases e)
  have hM:Mod K mg (mJ s₁.heap H):=⟨hKb,nsK hns,⟨mb,nsK hb,hbb⟩,let ⟨mc,h1,h2⟩:=hlim;⟨mc,nsK h1,h2⟩⟩
  have e0:xh P w K mg (mJ s₁.heap H) Kk [] s₁ H:=⟨rfl,hM,fun b o e=>xO e,Mp (td _ _),trivial,fun b hb=>absurd (show b∈([]:List Addr) from hb) (by simp),hok,.of_eq hg⟩
  refine Gv ((F _ hKb (nsK hns)).run Kk [] s₁ H ⟨[.ref a],[]⟩ [.ref a] [.ref a] _ _ hr e0 (hbind s₁ (.ref a)) (.cons rfl .nil) (hsp H hO hS)) fun r s' h=>?_
  cases r with
  |error e=>exact (hCX H e s' h).elim
  |ok fl=>
   cases fl with
   |next=>exact False.elim h
   |brk=>exact False.elim h
   |cont=>exact False.elim h
   |ret u=>
    obtain ⟨v,H',os,bare,un,hok',r',q⟩:=h
    have q':v=.bl true:=q
    subst q'
    obtain rfl:u=Dk true:=r'
    refine ⟨rfl,OldK.of_keep fun b o e=>?_,os,bare⟩
    cases q:H b with
    |none=>exact un.keep b o e q (by intro z;exact absurd (show b∈([]:List Addr) from z) (by simp)) (by simp)
    |some u=>
     rcases hO b with z |⟨ob,xs,z⟩
     ·rw[q] at z;cases z
     ·have z2:=un.frzs b ob _ z
      obtain ⟨e1,_⟩:=hok b _ z
      obtain ⟨e2,_⟩:=hok' b _ z2
      rw[e] at e1;cases e1
      exact e2
 cases hk:K.lookup a with
 |some o=>
  have e:=KX a o hk
  rw[ha] at e
  cases e
  refine core (fun _=>none) (fun _=>.inl rfl) (.inr ⟨_,vs.toArray,_,hk,rfl,rfl,rfl,by rw[Cp,lenV];exact hl,by simpa using rv⟩) (fun b u z=>by have z':(none:Option HO)=some u:=z;cases z') (fun b z=>absurd rfl z) fun z=>absurd rfl z
 |none=>
  refine core (fun b=>if b=a then some (.frz {cls:=.type "list",data:=.seq vs.toArray } (.lst (ns.map V.int))) else none) (fun b=>?_) (.inl (.inr ⟨{cls:=.type "list",data:=.seq vs.toArray },if_pos rfl⟩)) (fun b u z=>?_) (fun b z=>?_) fun _=>hk
  ·by_cases hb:b=a
   ·exact .inr ⟨_,_,if_pos hb⟩
   ·exact .inl (if_neg hb)
  ·by_cases hb:b=a
   ·have z':=(if_pos hb).symm.trans z
    cases z'
    subst hb
    exact ⟨ha,by rw[B3];exact hl,vs,_,rv,ha⟩
   ·have z':=(if_neg hb).symm.trans z
    cases z'
  ·by_cases hb:b=a
   ·exact hb
   ·exact absurd (if_neg hb) z
abbrev KOf {K:B2}{h:Heap} (_:K.In h):B2:=K
end L2
/- THE LAST THEOREM (shape;LID,My.*are yours):
   My.Adr:a structure of the addresses that your layer names (classes,functions);My.Txt K t:a structure (Prop) of the equations over K;
   My.txt_mk:{K}{implicit addresses ..} (e1:nsIn K Ck "law"=some (some (.ref f))) (e2:K.lookup f=some ⟨oc,od,.func (fnOf "law" "law" params body scope dV kV doc pm an cdv ct),sl⟩) (e3:codeIn K cdv "law"=true) ..:∃t,My.Txt K t
set_option maxRecDepth 100000 in
theorem PySem.Challenge.cw_LID_holds : PySem.Challenge.rw_LID.Holds := by
 w_on;o_law;k_head;(case hw=>w_witness2)
 k_fill
 refine L2.walk_of (l:=PySem.Challenge.rw_LID) (n:=63) (k:=40) (x:="script") (CX:=fun w=>..) (sp:=fun _=>My.sp_law) rfl (by decide) rfl ⟨rfl,by decide,by decide⟩ (fun w h Y=>Lz Y) ?F ?S ?C
 case F=>
  intro w mg fa h KX G hmg
  have T:∃t,My.Txt (L2.KOf KX) t:=by
   dsimp only[L2.KOf]                          -- K must stand as «<heap const> w.params» for k_is
   refine' My.txt_mk ?e1 ?e2 ?e3 ..
   (case e1=>PySem.W.k_is)                    -- in the order:a name ->its address ->its object ->its parts
   (case e2=>PySem.W.k_is)
   ..
  obtain ⟨t,T⟩:=T
  have e0:=hmg.symm.trans (CD KX G T.law)
  cases e0                                       -- fa is the law's own address
  exact ⟨_,fun s u=>.of_eq rfl,fun base kb nb=>My.law_fn T kb nb⟩     -- if «.of_eq rfl» comes too early:refine' ⟨_,?b,fun base kb nb=>My.law_fn T kb nb⟩;exact fun s u=>.of_eq rfl
 case S=>exact fun w H a ns hl hO hS=>..
 case C=>exact ..
(the tactic k_is has no namespace:write k_is) -/
namespace L2
open PySem PySem.Spec PyProof.Rows
def av (s:Stmt):Arguments:=match s with
 | .FunctionDef _ a _ _ _ _ _ _ _ _=>a
 |_=>{posonlyargs:=[],args:=[],vararg:=none,kwonlyargs:=[],kw_defaults:=[],kwarg:=none,defaults:=[] }
def au (s:Stmt):List Stmt:=match s with
 | .FunctionDef _ _ b _ _ _ _ _ _ _=>b
 |_=>[]
def ai (s:Stmt):Scope:=match s with
 | .FunctionDef _ _ _ _ _ _ sc _ _ _=>sc
 |_=>{kind:=.function,names:=[],isGenerator:=false,isCoroutine:=false }
abbrev CX0:CXT:=fun _ _ _ _ _ _=>False
abbrev E0:XK:=fun _ _ _=>False
structure Fun (K:B2) (x qual:Str) (st:Stmt) (f:Addr) (fd:CN):Prop where
 ex:∃(oc:Value) (od:Option Addr) (kV doc pm:Value) (an:Option Addr) (cdv ct:Value) (osl:Array (Option Value)),
  fd=CB x qual (av st) (au st) (ai st) .none kV doc pm an cdv ct∧K.lookup f=some ⟨oc,od,.func fd,osl⟩∧Cv K cdv qual=true
 kp:Cj K (.ref f)=true
section
variable {P:Cy}{w:World}{K:B2}{mg:Str→Option Value}{base:Heap}
theorem Fun.binds {x qual:Str}{st:Stmt}{f:Addr}{fd:CN}{ps:List Str} (F:Fun K x qual st f fd)
  (h:∀(kV doc pm:Value) (an:Option Addr) (cdv ct:Value) (us:List Value),us.length=ps.length→DF (CB x qual (av st) (au st) (ai st) .none kV doc pm an cdv ct) ⟨us,[]⟩=pure (ps.zip us)):aG K fd ps []:=by
 obtain ⟨oc,od,kV,doc,pm,an,cdv,ct,osl,rfl,lk,hcd⟩:=F.ex
 exact .all (h kV doc pm an cdv ct)
theorem aR {x qual:Str}{st:Stmt}{f:Addr}{oc:Value}{od an:Option Addr}{osl:Array (Option Value)}{kV doc pm cdv ct:Value} (l:K.lookup f=some ⟨oc,od,.func (CB x qual (av st) (au st) (ai st) .none kV doc pm an cdv ct),osl⟩)
  (c:Cv K cdv qual=true) (k:Cj K (.ref f)=true):Fun K x qual st f (CB x qual (av st) (au st) (ai st) .none kV doc pm an cdv ct):=⟨⟨oc,od,kV,doc,pm,an,cdv,ct,osl,rfl,l,c⟩,k⟩
end
theorem aN {n:Nat} (h:n≤1000):n < sizeLine:=HZ h (by decide)
section
variable {X:Cx}
end
theorem sR {A B:Prop} (h:B):if false=true then A else B:=by
 rw[if_neg CM]
 exact h
theorem tU {A B:Prop} (h:A):if true=true then A else B:=by
 rw[if_pos rfl]
 exact h
def aK (H H':Hp):Prop:=∀b o,H b=some o→H' b=some o
theorem aK.refl (H:Hp):aK H H:=fun _ _ h=>h
theorem aK.trans {H H1 H2:Hp} (a:aK H H1) (b:aK H1 H2):aK H H2:=fun c o h=>b c o (a c o h)
theorem aK.free {H H':Hp} (e:aK H H') {l:Addr} (h:H' l=MC):H l=MC:=by
 cases q:H l with
 |none=>rfl
 |some o=>
  rw[e l o q] at h
  cases h
theorem aK.seq {K:B2}{H H':Hp}{a:Addr}{xs:List V} (e:aK H H') (h:SqL K H a xs):SqL K H' a xs:=by
 rcases h with (h |⟨o,h⟩) |h
 ·exact .inl (.inl (e _ _ h))
 ·exact .inl (.inr ⟨o,e _ _ h⟩)
 ·exact .inr h
def Sz (m:Nat) (x:Int):Prop:=x.natAbs < 2 ^ m
theorem Sz.mono {m n:Nat}{x:Int} (h:Sz m x) (hmn:m≤n):Sz n x:=CT h (Gh (by decide) hmn)
theorem Sz.neg {m:Nat}{x:Int} (h:Sz m x):Sz m (-x):=by unfold Sz at *;rw[Int.natAbs_neg];exact h
theorem Sz.add {m:Nat}{x y:Int} (hx:Sz m x) (hy:Sz m y):Sz (m+1) (x+y):=by
 unfold Sz at *
 have:=Int.natAbs_add_le x y
 rw[E3];lia
theorem Sz.sub {m:Nat}{x y:Int} (hx:Sz m x) (hy:Sz m y):Sz (m+1) (x - y):=by
 rw[Int.sub_eq_add_neg];exact hx.add hy.neg
theorem Sz.mul {m n:Nat}{x y:Int} (hx:Sz m x) (hy:Sz n y):Sz (m+n) (x*y):=by
 unfold Sz at *
 rw[Hf,Nat.pow_add]
 exact Nat.mul_lt_mul'' hx hy
theorem Sz.le {m:Nat}{x y:Int} (h:x.natAbs≤y.natAbs) (hy:Sz m y):Sz m x:=HZ h hy
theorem Sz.ediv {m:Nat}{x y:Int} (hx:Sz m x):Sz m (x / y):=Sz.le (Int.natAbs_ediv_le_natAbs x y) hx
theorem Sz.abs {m:Nat}{x:Int} (hx:Sz m x):Sz m (if x < 0 then -x else x):=by split;exact hx.neg;exact hx
instance (m:Nat) (x:Int):Decidable (Sz m x):=inferInstanceAs (Decidable (x.natAbs < 2 ^ m))
theorem Sz.add' {m n:Nat}{x y:Int} (hx:Sz m x) (hy:Sz n y):Sz (max m n+1) (x+y):=(hx.mono (K5 m n)).add (hy.mono (KI m n))
theorem Sz.sub' {m n:Nat}{x y:Int} (hx:Sz m x) (hy:Sz n y):Sz (max m n+1) (x - y):=(hx.mono (K5 m n)).sub (hy.mono (KI m n))
theorem Sz.lit {m:Nat}{x:Int} (h:Sz m x):Sz m x:=h
theorem Sz.ok {m n:Nat}{x y:Int} (hx:Sz m x) (hy:Sz n y) (h:m+n≤134217728):IntMulOk x y:=
 PyProof.Rows.mulOk_of_bits (intBits_le_iff.mpr hx) (intBits_le_iff.mpr hy) h
theorem Sz.log {m:Nat}{x:Int} (h:Sz m x) (hm:m≤9000) (h0:x≠0):x.natAbs.log2 < 9000:=by
 have q:=(Nat.log2_lt (by lia)).mpr (show x.natAbs < 2 ^ m from h)
 lia
def y9 (_ j:Int):Prop:=0 < j∧Sz 9000 j
def zj (_ j:Int):Prop:=j≠0∧Sz 9000 j
section
variable {X:Cx}{a b c:Expr}{ta tb tc:TE}{pos:Pos}
theorem xG:OpR X (Hd .Mult) (rI IntMulOk fun i j=>.int (i*j)):=opI fun _ _ _ _ _ _ _ hc q=>mul_int q hc
theorem uO:OpR X (Hd .FloorDiv) (rI y9 fun i j=>.int (i / j)):=opI fun i j _ _ _ _ _ hc q=>by
 have h1:(0:Int) < j:=hc.1
 exact floordiv_int (by lia) (by rw[Int.fdiv_eq_ediv_of_nonneg i (by lia)];exact q) (.inl (PyProof.noPylong_of_log2 (hc.2.log (by decide) (by lia))))
theorem wa:OpR X (Hd .FloorDiv) (rI zj fun i j=>.int (i.fdiv j)):=opI fun i j _ _ _ _ _ hc q=>
 floordiv_int hc.1 q (.inl (PyProof.noPylong_of_log2 (hc.2.log (by decide) hc.1)))
theorem AW {x:Str}{n:String}{pos:Pos} (hg:Gl X x) (hm:X.mg x=none) (hv:EJ x=some (.type n)) (hn:x≠"__name__":=by decide) (hd:(x==("__debug__":Str))=false:=by decide):PE X (.Name x pos) (tC (.ty n)):=
 yt hg hm hv rfl hn hd
end
section
variable {X:Cx}
end
theorem kit_int_int (K:B2):Fm K (.type "int") (.type "int")=some true:=rfl
theorem kit_int_bool (K:B2):Fm K (.type "int") (.type "bool")=some false:=rfl
theorem kit_bool_int (K:B2):Fm K (.type "bool") (.type "int")=some true:=rfl
theorem kit_tuple_tuple (K:B2):Fm K (.type "tuple") (.type "tuple")=some true:=rfl
theorem kit_list_list (K:B2):Fm K (.type "list") (.type "list")=some true:=rfl
theorem kit_list_tuple (K:B2):Fm K (.type "list") (.type "tuple")=some false:=rfl
section
variable {X:Cx}{tg:Expr}
end
theorem aZ {H:Hp}{p:Addr} (h:H p=none) (o:HO):aK H (upd H p o):=fun b u q=>by rw[ba (cC q h)];exact q
theorem aK.put {H H':Hp}{l:Addr} (e:aK H H') (h:H l=none) (o:HO):aK H (upd H' l o):=fun b u q=>by rw[ba (cC q h)];exact e b u q
theorem aK.tup {K:B2}{H H':Hp}{a:Addr}{xs:List V} (e:aK H H') (h:SqT K H a xs):SqT K H' a xs:=by
 rcases h with (h |⟨o,h⟩) |h
 ·exact .inl (.inl (e _ _ h))
 ·exact .inl (.inr ⟨o,e _ _ h⟩)
 ·exact .inr h
end L2
namespace L2
open PySem PySem.W PySem.Calls PySem.Spec PyProof.Rows
theorem oo {ns:List Int} (h:WData.layableAll [WData.list (ns.map WData.int)]=true):∀n∈ns,Sz 1048576 n:=by
 intro n hn
 have h1:=(PySem.W.layableW_arg h) _ (Ct.mpr rfl)
 have h2:=PySem.W.layableW_item h1 (WData.int n) (B8.mpr ⟨n,hn,rfl⟩)
 have h3:=(PySem.W.layableW_iff.mp h2).2.2
 have h4:Builtin.Int.intBits n≤1048576:=by simpa only[WData.weight,Builtin.Int.intBits] using h3
 exact intBits_le_iff.mp h4
theorem lV {l:K6}{n:Nat}{q:Cy}{loose:List Str}{XP:(Str→Option Value)→Heap→Prop}{YP:World→Heap→Prop}{d:DefRec}
  (hn:l.most=some n) (hdf:d.params.defaults=[])
  (call:∀(w:World) (s₀ s₁:B7) (mg mb:Str→Option Value) (fa:Addr) (o:Obj) (pm cd doc:Value) (a:Addr) (vs:List Value) (ns:List Int),
   PySem.W.Ground q loose [] XP w s₀ mg mb s₁.heap→YP w s₁.heap→
   s₁.heap.get? fa=some o→o.data=.func (docDef d.name d.params d.body d.scope pm cd doc)→s₁.heap.CodeRec cd d.name→mg d.name=some (.ref fa)→
   s₁.heap.get? a=some {cls:=.type "list",data:=.seq vs.toArray }→Mc vs ns→ns.length≤n→(∀m∈ns,Sz 1048576 m)→s₁.gens=#[]→
   Gg (model l.prog w) Kk (.call (.ref fa) ⟨[.ref a],[]⟩) (fun r s'=>r=.ok (.ret (.bool true))∧OldK s₁.heap s'.heap∧s'.os=s₁.os∧Iz s'.gens) s₁):
  Md q loose XP YP l.row.toRowW d [] (fun f vs=>ML f vs):=by
 intro w s₀ s₁ mg mb G Y fa o pm cd doc dV kV ho hd hcd hD hmg hg args vals as hpre hlay hrd hwl hlo
 obtain rfl:dV=.none:=MH hD hdf
 obtain rfl:kV=.none:=MJ hD
 obtain ⟨a,vs,ns,rfl,rfl,hobj,hints,hlen⟩:=Att.script_of hn hpre hwl
 refine PySem.W.enter_call (Gv (call w s₀ s₁ mg mb fa o pm cd doc a vs ns G Y ho (PySem.W.fd_plain hd) hcd hmg hobj hints hlen (oo hlay) hg) fun r s' hq=>?_)
 obtain ⟨rfl,h2,h3,h4⟩:=hq
 exact ⟨.inl ⟨.bool true,.bool true,[],rfl,fun _=>rfl,.bool true,Att.post_true l _,fun _=>⟨G9,fun _ hm=>(nomatch hm)⟩⟩,h2,h3,h4⟩
theorem walk_ofB {l:K6}{n k:Nat}{q:Cy}{loose:List Str}{XP:(Str→Option Value)→Heap→Prop}{YP:World→Heap→Prop}{d:DefRec}{K:Params→B2}{CX:CXT}{sp:B2→Sp}{x:Str}
  (hn:l.most=some n) (hn2:n≤sizeLine) (hdf:d.params.defaults=[]) (hr:dc k Kk)
  (hY:∀(w:World) (h:Heap),YP w h→(K w.params).In h)
  (F:∀(w:World) (mg:Str→Option Value) (fa:Addr) (h:Heap),(K w.params).In h→h.Ns Ck mg→mg d.name=some (.ref fa)→
   ∃fd:CN,(∀(s:B7) (u:Value),JL s fd ⟨[u],[]⟩ [(x,u)])∧
    ∀base:Heap,(K w.params).In base→base.Ns Ck mg→a_ l.prog w (K w.params) mg base CX k fa fd [x] (sp (K w.params)))
  (hsp:∀(K:B2) (H:Hp) (a:Addr) (ns:List Int),ns.length≤n→(∀m∈ns,Sz 1048576 m)→xW H→SqL K H a (ns.map V.int)→sp K [.ref a] H (fun v _=>v=.bl true) fun _ _ _=>False)
  (hCX:∀(H:Hp) (s:B7) (e:Value) (s':B7),CX [] H s (fun _ _ _=>False) e s'→False):
  Md q loose XP YP l.row.toRowW d [] (fun f vs=>ML f vs):=by
 refine lV hn hdf fun w s₀ s₁ mg mb fa o pm cd doc a vs ns G Y ho hd hcd hmg hobj hints hlen hbits hg=>?_
 have KX:=hY w _ Y
 obtain ⟨fd,hb,hF⟩:=F w mg fa _ KX G.T.g hmg
 exact vW KX G.T.g G.T.b G.T.builtins G.T.nolimit hg hobj hints (DZ hlen hn2) hr hF hb (fun H hO hS=>hsp _ H a ns hlen hbits hO hS) fun H e s'=>hCX H s₁ e s'
end L2
namespace L2
theorem ur {α:Type}{xs:List α}{k:Int}{i:Nat}{v:α} (e:k=(i:Int)) (h:xs[i]?=some v):atI xs k=some v:=by subst e;exact rL h
theorem Sz.natle {m:Nat}{x y:Int} (hy:Sz m y) (h:x.natAbs≤y.natAbs):Sz m x:=Sz.le h hy
end L2
namespace L2
open PySem PySem.Spec PyProof.Rows
abbrev ay (X:Cx) (scope:Scope) (cl:List (Str×Addr)) (C:Addr) (s:B7) (H:Hp) (fp:List Addr):Cx:=
 {X with s₀:=s,H₀:=H,env:=Jw scope cl C X.env,outer:=X.stack,ex:=fp,fn:=fun _=>false,pn:=[],xe:=fun _ _=>False }
def mask:List Nat→St→St
 |[],σ=>σ
 |i::is,σ=>mask is (σ.set i none)
theorem eO:∀(is:List Nat) (σ:St),(mask is σ).length=σ.length
 |[],_=>rfl
 |i::is,σ=>by rw[mask,eO is];simp
theorem ik:∀(is:List Nat) (σ:St) (j:Nat) (v:V),(mask is σ)[j]?=some (some v)→σ[j]?=some (some v)∧j ∉ is
 |[],σ,j,v,h=>⟨h,by simp⟩
 |i::is,σ,j,v,h=>by
  obtain ⟨h1,h2⟩:=ik is _ j v h
  by_cases e:i=j
  ·subst e
   rw[Ik] at h1
   simp at h1
  ·rw[CQ e] at h1
   exact ⟨h1,by simp[Ne.symm e,h2]⟩
structure df (X:Cx) (scope:Scope) (cl:List (Str×Addr)) (is:List Nat):Prop where
 clos:L9 scope X.env=pure cl
 cell:∀y∈scope.names,y.2≠.cell
 kind:scope.kind=.function
 names:∀y∈scope.names,y.2=.local→scope.names.lookup y.1=some .local
 cls:∀x c,cl.lookup x=some c→X.env.cells.lookup x=some c
 free:∀x,((relabel scope X.env).names.lookup x=some .cell∨(relabel scope X.env).names.lookup x=some .free)→Vis X.env.scope x∧X.env.scope.names.lookup x≠some .local∧∃c,cl.lookup x=some c
 own:∀i x,X.N[i]?=some x→(relabel scope X.env).names.lookup x=some .local→i∈is
def uN (J:It) (is:List Nat) (g:TG) (te:TE) (σ:St) (H1:Hp) (l:Addr) (Q:VK):Prop:=
 ∃W:Nat→Nat→Hp→Prop,(∃m,W 0 m (upd H1 l (.lst [])))∧∀i m H2,W i m H2→
  (J.stop i H2∧Q (.ref l) H2)∨(J.go i H2∧∀x H3,J.yld i H2 x H3→g x (mask is σ) H3 fun σ4 H4=>te σ4 H4 fun y H5=>
   (∀(j:Nat) (v:V),(mask is σ)[j]?=some (some v)→σ4[j]?=some (some v))∧∃vs,H5 l=some (.lst vs)∧vs.length < sizeLine∧∃m',m' < m∧W (i+1) m' (upd H5 l (.lst (vs++[y]))))
def yS (is:List Nat) (g:TG) (te:TE) (σ:St) (Q:VK) (J:It) (H1:Hp):Prop:=∀l,H1 l=none→uN J is g te σ H1 l Q
def vF (is:List Nat) (wi:TI) (g:TG) (te:TE):TE:=fun σ H Q=>wi σ H (yS is g te σ Q)
section
variable {X:Cx}{pins:List (Addr×Obj)}{σ:St}{H:Hp}{s:B7}
theorem iP {scope:Scope}{cl:List (Str×Addr)}{is:List Nat}{fp:List Addr}{h₁:Heap}{m:Str→Option Value}{t':Nat} (I:Inv X pins σ H s) (B:df X scope cl is) (hf:∀b∈fp,jp X pins H b) (hfl:∀b∈fp,b < s.heap.objs.size)
  (hn:h₁.Ns s.heap.objs.size m) (hk:∀b o,s.heap.get? b=some o→h₁.get? b=some o):
  Inv (ay X scope cl s.heap.objs.size s H fp) [] (mask is σ) H {s with heap:=h₁,toks:=t' }:=by
 refine ⟨⟨I.ok.mod,B.kind,I.ok.glob,I.ok.blt,B9 _,fun x y c h1 h2=>I.ok.inj x y c (B.cls x c h1) (B.cls y c h2),fun x hx=>(B.free x hx).2.2,fun x c h=>(by cases h),I.ok.hd,I.ok.frames,.inl rfl,fun b hb=>⟨CP (hfl b hb),fun x c e=>(hf b hb).2.2.2.2.1 x c (B.cls x c e)⟩,
  I.bs,DZ I.ok.bsz I.sz,fun b o e hb=>?_,fun b hb z=>?_,I.stack,I.stkFree⟩,rfl,I.bare,Un.kept hk,⟨m,hn,fun i x v h1 h2 h3=>?_⟩,fun x c e=>?_,I.hok.fresh (B9 _),fun x c e=>I.freeC x c (B.cls x c e),fun p hp=>absurd (show p∈([]:List (Addr×Obj)) from hp) (by simp),I.hok.kept hk,?_⟩
 ·rcases (hf b hb).2.2.2.1 with z |z
  ·exact I.ok.noex b o e z
  ·exact absurd (CT (Cf e) (DZ I.ok.bsz z)) (CU _)
 ·rcases Cd.mp (I.stkSub b z) with e |e
  ·exact (hf b hb).2.1 e
  ·exact (hf b hb).2.2.1 e
 ·obtain ⟨e2,ni⟩:=ik is σ i v h2
  have h3':(relabel scope X.env).names.lookup x=some .local∨(relabel scope X.env).names.lookup x=some .cell∨(relabel scope X.env).names.lookup x=some .free:=h3
  rcases h3' with z |z
  ·exact absurd (B.own i x h1 z) ni
  ·obtain ⟨hv,hnl,c,hc⟩:=B.free x z
   obtain ⟨m0,_,hl⟩:=I.loc
   obtain ⟨u,r,l⟩:=hl i x v h1 e2 hv
   refine ⟨u,r,.inr ⟨z,c,hc,?_⟩⟩
   rcases l with ⟨k,_⟩ |⟨_,c',hc',o,ho,hd⟩
   ·exact absurd k hnl
   ·have ec:=B.cls x c hc
    rw[hc'] at ec
    cases ec
    exact ⟨o,hk _ _ ho,hd⟩
 ·obtain ⟨v,o,ho,hd⟩:=I.cell x c (B.cls x c e)
  exact ⟨v,o,hk _ _ ho,hd⟩
 ·show (mask is σ).length=X.N.length
  rw[eO];exact I.len
theorem m_ {elt iter tg:Expr}{scope:Scope}{cl:List (Str×Addr)}{pos pos0:Pos}{is:List Nat}{wi:TI}{g:TG}{te:TE}{use:Option (Value→Sem Unit)}{Q0:VK}{Q:Value→B7→Prop} (hc:X.calm=true) (B:df X scope cl is)
  (hi:PI X tg iter wi) (hg:∀C s H fp,PG (ay X scope cl C s H fp) tg g) (he:∀C s H fp,PE (ay X scope cl C s H fp) elt te) (hs:∀x,DW iter X.env x=pure x)
  (I:Inv X pins σ H s) (h:vF is wi g te σ H Q0)
  (fin:∀(l C:Addr) (H':Hp) (s':B7) (m:Str→Option Value),Inv X pins σ H' s'→s'.heap.Ns C m→H' C=none→C≠X.env.locals→C ∉ X.fs→X.s₀.heap.objs.size≤C→(∀x c,X.env.cells.lookup x=some c→c≠C)→(∀p∈X.pn++pins,p.1≠C)→Q0 (.ref l) H'→
   Me (model X.prog X.w) X.A X.xe use Q (.ref l) C (.ok .next) s'):
  wpAny (model X.prog X.w) X.A (comprehension (.ListComp elt [⟨tg,iter,[],0⟩] scope pos) scope X.env pos0 (newList []) false (eval iter X.env) use) Q X.xe s:=by
 refine Il rfl hs B.clos B.kind B.names (thn (hi pins s σ H _ I h) fun xv s1 h1=>thn h1 fun itv s2 h2=>?_)
 obtain ⟨it,fp,tn,J,H2,e,I2,T,st2,f2,R⟩:=h2
 subst e
 refine E6 (Jy B.cell (by intro y hy;simp at hy) (fun h₁ hns hsb=>?_) B.kind)
 have hl:H2 s2.heap.objs.size=none:=I2.hok.fresh (B9 _)
 obtain ⟨W,⟨m0,w0⟩,turn⟩:=R s2.heap.objs.size hl
 have I3:Inv X pins σ (upd H2 s2.heap.objs.size (.lst [])) {s2 with heap:=s2.heap.push {cls:=.type "list",dict:=none,data:=.seq ([]:List Value).toArray } }:=
  I2.laid (t':=s2.toks) (o:=.lst []) (fun b u e=>B5 _ e) (B9 _) ⟨DB _,[],0,.nil,Cm _ rfl⟩
 have hfl:∀b∈fp,b < s2.heap.objs.size:=fun b hb=>let ⟨o,e,_⟩:=T.obj 0 _ st2 b hb;Cf e
 have f3:∀b∈fp,jp X pins (upd H2 s2.heap.objs.size (.lst [])) b:=fun b hb=>⟨by rw[ba (CP (hfl b hb))];exact (f2 b hb).1,(f2 b hb).2⟩
 have kp:∀b o,(s2.heap.push {cls:=.type "list",dict:=none,data:=.seq ([]:List Value).toArray }).get? b=some o→h₁.get? b=some o:=fun b o e=>
  hsb.extBut b o (CP (Cf e)) (B5 _ e)
 have st4:tn 0 h₁:=T.keep 0 _ _ st2 fun b _ o e=>kp b o (B5 _ e)
 have hfl3:∀b∈fp,b < (s2.heap.push {cls:=.type "list",dict:=none,data:=.seq ([]:List Value).toArray }).objs.size:=fun b hb=>by
  rw[Em];exact Ew (hfl b hb)
 have I4:=iP (t':=s2.toks+([]:List (Str×Value)).length) I3 B f3 hfl3 hns kp
 have loop:Gg (model X.prog X.w) X.A (.compLoop (.ListComp elt [⟨tg,iter,[],0⟩] scope pos) 0 (.ref it) (.ref s2.heap.objs.size) (Jw scope cl (s2.heap.push {cls:=.type "list",dict:=none,data:=.seq ([]:List Value).toArray }).objs.size X.env))
   (Me (model X.prog X.w) X.A X.xe use Q (.ref s2.heap.objs.size) (s2.heap.push {cls:=.type "list",dict:=none,data:=.seq ([]:List Value).toArray }).objs.size)
   {s2 with heap:=h₁,toks:=s2.toks+([]:List (Str×Value)).length }:=by
  generalize hs3:({s2 with heap:=s2.heap.push {cls:=.type "list",dict:=none,data:=.seq ([]:List Value).toArray } }:B7)=s3 at *
  have hC:(s2.heap.push {cls:=.type "list",dict:=none,data:=.seq ([]:List Value).toArray }).objs.size=s3.heap.objs.size:=by rw[←hs3]
  rw[hC]
  have hstat:∀{H':Hp},(∀b∈fp,H' b=none)→∀b∈fp,jp (ay X scope cl s3.heap.objs.size s3 (upd H2 s2.heap.objs.size (.lst [])) fp) [] H' b:=fun hn b hb=>
   ⟨hn b hb,(I4.ok.exf b hb).1,I4.ok.exfs b hb,.inl hb,fun x c e=>(I4.ok.exf b hb).2 x c e,fun p hp=>absurd (show p∈([]:List (Addr×Obj)) from hp) (by simp)⟩
  have back:∀{σ':St}{H':Hp}{pp:List (Addr×Obj)}{s':B7},Inv (ay X scope cl s3.heap.objs.size s3 (upd H2 s2.heap.objs.size (.lst [])) fp) pp σ' H' s'→Inv X pins σ H' s':=fun I'=>
   I3.call' (ch:=fp) I'.os I'.base I'.hok I'.bare fun b hb=>⟨(f3 b hb).2.2.2.1,(f3 b hb).2.1,(f3 b hb).2.2.2.2.1,(f3 b hb).2.2.2.2.2⟩
  refine codeAny_loop rfl (fun n s'=>∃i H',Inv (ay X scope cl s3.heap.objs.size s3 (upd H2 s2.heap.objs.size (.lst [])) fp) [] (mask is σ) H' s'∧tn i s'.heap∧(∀b∈fp,H' b=none)∧W i n H') ?_ m0 ⟨0,_,(by subst hs3;exact I4),st4,fun b hb=>(f3 b hb).1,w0⟩
  rintro n s5 ⟨i,H5,I5,st5,fr5,w5⟩
  show wpAny _ _ ((compTurn (.ListComp elt [⟨tg,iter,[],0⟩] scope pos) 0 (.ref it) (.ref s2.heap.objs.size) (Jw scope cl s3.heap.objs.size X.env)).onRaise (fun x=>do noteFrame x (Jw scope cl s3.heap.objs.size X.env);K7 x)) _ _ s5
  refine wpAny_noted ?_
  rw[compTurn_list1]
  refine B0 (JX (B0 ?_))
  rcases turn i n H5 w5 with ⟨stop,q⟩ |⟨go,step⟩
  ·refine thn (T.done (ay X scope cl s3.heap.objs.size s3 (upd H2 s2.heap.objs.size (.lst [])) fp) rfl rfl rfl hc i [] s5 _ H5 _ I5 (hstat fr5) st5 stop) fun r s6 ⟨hr,I6⟩=>?_
   subst hr
   refine B6 ?_
   obtain ⟨m6,hn6,_⟩:=I6.loc
   have hCn:∀b,b < s3.heap.objs.size→b≠s3.heap.objs.size:=fun b hb=>CP hb
   refine fin _ s3.heap.objs.size H5 s6 m6 (back I6) hn6 I6.free (Hj I3.lt) (I3.nofs (B9 _)) I3.sz (fun x c e=>?_) (fun p hp=>?_) q
   ·obtain ⟨v,z⟩:=I3.cell x c e
    exact CP z.lt
   ·exact CP (Cf (I3.pin p hp).1)
  ·refine thn (T.item (ay X scope cl s3.heap.objs.size s3 (upd H2 s2.heap.objs.size (.lst [])) fp) rfl rfl rfl hc i [] s5 _ H5 _ I5 (hstat fr5) st5 go) fun r s6 ⟨u,hr,h6⟩=>?_
   subst hr
   refine B0 (thn h6 fun _ s7 ⟨x,H7,I7,r7,y7,st7,fr7⟩=>?_)
   have I7':=I7.pinned (hstat fr7) (T.obj _ _ st7)
   refine B0 (E4 (hg _ _ _ _ _ s7 (mask is σ) H7 x u _ I7' r7 (step x H7 y7)) (fun _ s8 ⟨σ8,H8,I8,q8⟩=>?_) fun _ _ z=>z.elim)
   refine B0 (B0 (E4 (he _ _ _ _ _ s8 σ8 H8 _ I8 q8) (fun v s9 ⟨y,H9,I9,r9,sub,vs,hl9,hz,m',hm,w'⟩=>?_) fun _ _ z=>z.elim))
   refine B0 (E4 (ir (X:=ay X scope cl s3.heap.objs.size s3 (upd H2 s2.heap.objs.size (.lst [])) fp) _ s9 σ8 H9 (.ref s2.heap.objs.size) [y] (.ref s2.heap.objs.size) [v] (fun _ H'=>H'=upd H9 s2.heap.objs.size (.lst (vs++[y]))) I9 rfl (.cons r9 .nil) ⟨_,vs,y,rfl,rfl,hl9,hz,rfl⟩) (fun z s10 ⟨zv,H10,I10,_,e10⟩=>?_) fun _ _ z=>z.elim)
   subst e10
   refine B6 (B6 ⟨rfl,m',hm,i+1,_,(I10.unpinned (pins:=[])).weak (by rw[I10.len,eO,I.len]) sub,T.keep _ _ _ st7 fun b hb o e=>(I10.pin (b,o) (Cz _ (Cz _ (cZ hb e)))).1,fun b hb=>?_,w'⟩)
   obtain ⟨o,e,d⟩:=T.obj _ _ st7 b hb
   exact (I10.pin (b,o) (Cz _ (Cz _ (cZ hb e)))).2.1
 exact IV loop (T.self X.A 0 _ _ _ st4 loop)
theorem xA {elt iter tg:Expr}{scope:Scope}{cl:List (Str×Addr)}{pos:Pos}{is:List Nat}{wi:TI}{g:TG}{te:TE} (hc:X.calm=true) (B:df X scope cl is)
  (hi:PI X tg iter wi) (hg:∀C s H fp,PG (ay X scope cl C s H fp) tg g) (he:∀C s H fp,PE (ay X scope cl C s H fp) elt te) (hs:∀x,DW iter X.env x=pure x:=by intro _;rfl):
  PE X (.ListComp elt [⟨tg,iter,[],0⟩] scope pos) (vF is wi g te):=by
 intro pins s σ H Q I h
 rw[eval_ListComp]
 refine m_ (use:=none) hc B hi hg he hs I h fun l C H' s' m I' hn h1 h2 h3 h4 h5 h6 q=>⟨m,hn,fun h' hsb=>?_⟩
 exact ⟨.ref l,H',I'.turned (t':=s'.toks) (fun b o hb e=>hsb.extBut b o hb e) h1 (Ne.symm h2.symm) (.inr h4) h5 h6,rfl,q⟩
end
section
variable {X:Cx}
theorem p_ {elt iter tg:Expr}{scope:Scope}{cl:List (Str×Addr)}{pos spos py:Pos}{y:Str}{j:Nat}{is:List Nat}{wi:TI}{g:TG}{te:TE} (hc:X.calm=true) (hN:X.N.Nodup) (hj:X.N[j]?=some y) (hy:Loc X.env.scope y) (B:df X scope cl is)
  (hi:PI X tg iter wi) (hg:∀C s H fp,PG (ay X scope cl C s H fp) tg g) (he:∀C s H fp,PE (ay X scope cl C s H fp) elt te) (hs:∀x,DW iter X.env x=pure x:=by intro _;rfl)
  (hsw:Fv (.ListComp elt [⟨tg,iter,[],0⟩] scope pos) (some (.Name y py)) spos.line X.env=pure true:=by rfl) (hf:X.fn y=true∨X.env.scope.names.lookup y=some .local:=by first |exact .inl rfl |exact .inr rfl |assumption):
  PS X (.Assign [.Name y py] (.ListComp elt [⟨tg,iter,[],0⟩] scope pos) spos) (Bb (vF is wi g te) (nh j)):=by
 intro pins s σ H D I h
 rw[exec_Assign_Name_used _ _ _ _ hsw]
 refine B0 (JX (B0 ?_))
 show wpAny _ X.A (do let _ ←comprehension (.ListComp elt [⟨tg,iter,[],0⟩] scope pos) scope X.env _ (newList []) false (eval iter X.env) (some (assign (.Name y py) X.env))) _ _ s
 refine B0 (E4 (m_ (Q0:=fun v H'=>D.nx (σ.set j (some v)) H') (use:=some (assign (.Name y py) X.env)) (Q:=fun _ s'=>SP X pins D .next s') hc B hi hg he hs I h fun l C H' s' m I' hn h1 h2 h3 h4 h5 h6 q=>?_) (fun _ s' hq=>B6 (B6 hq)) fun _ _ e=>e)
 show wpAny _ X.A (assign (.Name y py) X.env (.ref l)) _ _ _
 refine Ke (kS I' hN hj hy (v:=.ref l) rfl (fun s2 I2 ⟨a,hsb,ha⟩=>?_) hf)
 have hCa:C≠a:=by
  rcases ha with e |e
  ·rw[e];exact h2
  ·exact Ne.symm (h5 _ _ e)
 refine ⟨m,hn.sameBut hsb hCa,fun h' hsb'=>⟨_,H',I2.turned (t':=s2.toks) (fun b o hb e=>hsb'.extBut b o hb e) h1 h2 (.inr h4) h5 h6,q⟩⟩
end
section
variable {prog:Cy}{w:World}{A:Dc}{E:Value→B7→Prop}
end
section
variable {X:Cx}{pos:Pos}
end
def goC (cells:List (Str×Addr)):List (Str×HB)→List (Str×Addr)→List (Str×Addr)
 |[],acc=>acc
 | (n,k)::r,acc=>goC cells r (if (k==.free)=true then (n,(cells.lookup n).getD 0)::acc else acc)
theorem pf {env:Env}{scope:Scope} (h:∀y∈scope.names,y.2=.free→(env.cells.lookup y.1).isSome=true):L9 scope env=pure (goC env.cells scope.names []):=by
 have all:∀(names:List (Str×HB)) (acc:List (Str×Addr)),(∀y∈names,y.2=.free→(env.cells.lookup y.1).isSome=true)→
   (forIn names acc (fun x cs=>match x with | (name,kind)=>if (kind==.free)=true then (do let c ←cellOf env name;pure (ForInStep.yield ((name,c)::cs))) else pure (ForInStep.yield cs)):Sem (List (Str×Addr)))=pure (goC env.cells names acc):=by
  intro names
  induction names with
  |nil=>intro acc _;rfl
  |cons y r ih=>
   intro acc hy
   obtain ⟨n,k⟩:=y
   rw[FR]
   by_cases hk:k=.free
   ·subst hk
    have:=hy (n,.free) Ci rfl
    obtain ⟨c,hc⟩:=Gx.mp this
    have e:cellOf env n=pure c:=by unfold cellOf;rw[hc]
    simp only[beq_self_eq_true,if_true,e,pure_bind]
    rw[ih _ fun y hy'=>hy y (B4 _ hy')]
    simp only[goC,beq_self_eq_true,if_true,hc,FI]
   ·have hb:(k==NameKind.free)=false:=by simpa using hk
    simp only[hb,Cn,if_false,pure_bind]
    rw[ih _ fun y hy'=>hy y (B4 _ hy')]
    simp only[goC,hb,Cn,if_false]
 simp only[L9]
 have:=all scope.names [] h
 simpa using this
theorem rD {cells:List (Str×Addr)}:∀(names:List (Str×HB)) (acc:List (Str×Addr)),(∀y∈names,y.2=.free→(cells.lookup y.1).isSome=true)→(∀x c,acc.lookup x=some c→cells.lookup x=some c)→
  ∀x c,(goC cells names acc).lookup x=some c→cells.lookup x=some c
 |[],_,_,ha,x,c,h=>ha x c h
 | (n,k)::r,acc,hy,ha,x,c,h=>by
  rw[goC] at h
  refine rD r _ (fun y hy'=>hy y (B4 _ hy')) (fun x' c' e=>?_) x c h
  by_cases hk:k=.free
  ·subst hk
   simp only[beq_self_eq_true,if_true] at e
   rw[Hu] at e
   by_cases hx:(x'==n)=true
   ·rw[hx] at e
    have hx':x'=n:=by simpa using hx
    obtain ⟨c2,hc2⟩:=Gx.mp (hy (n,.free) Ci rfl)
    simp only[hc2,FI] at e
    rw[hx',hc2];exact e
   ·have:(x'==n)=false:=by simpa using hx
    rw[this] at e
    exact ha x' c' e
  ·have hb:(k==NameKind.free)=false:=by simpa using hk
   rw[hb] at e
   exact ha x' c' e
theorem rK {cells:List (Str×Addr)}{x:Str}:∀(names:List (Str×HB)) (acc:List (Str×Addr)),((x,NameKind.free)∈names∨∃c,acc.lookup x=some c)→∃c,(goC cells names acc).lookup x=some c
 |[],_,h=>by
  rcases h with h |h
  ·cases h
  ·exact h
 | (n,k)::r,acc,h=>by
  rw[goC]
  refine rK r _ ?_
  rcases h with h |⟨c,h⟩
  ·rcases Cd.mp h with e |h
   ·cases e
    right
    simp
   ·exact .inl h
  ·right
   by_cases hk:k=.free
   ·subst hk
    simp only[beq_self_eq_true,if_true]
    rw[Hu]
    cases hx:x==n with
    |true=>exact ⟨_,rfl⟩
    |false=>exact ⟨c,h⟩
   ·have hb:(k==NameKind.free)=false:=by simpa using hk
    rw[hb];exact ⟨c,h⟩
theorem cL {env:Env}{x:Str}{kd:HB}:∀{names:List (Str×HB)},
  (names.map fun (n,k)=>if (k==NameKind.free && env.scope.kind==.function && env.kindOf n==some .cell) then (n,NameKind.cell) else (n,k)).lookup x=some kd→names.lookup x=some kd∨(kd=.cell∧names.lookup x=some .free)
 |[],h=>by simp at h
 | (n,k)::r,h=>by
  have ih:=@cL env x kd r
  change List.lookup x ((if (k==NameKind.free && env.scope.kind==.function && env.kindOf n==some .cell)=true then (n,NameKind.cell) else (n,k))::_)=_ at h
  by_cases hc:(k==NameKind.free && env.scope.kind==.function && env.kindOf n==some .cell)=true
  ·rw[if_pos hc] at h
   rw[Hu] at h ⊢
   cases hx:x==n with
   |true=>
    rw[hx] at h
    have hk:k=.free:=by
     have:=(Jz.mp (Jz.mp hc).1).1
     simpa using this
    subst hk
    have h':some NameKind.cell=some kd:=h
    cases h'
    exact .inr ⟨rfl,rfl⟩
   |false=>rw[hx] at h;exact ih h
  ·rw[if_neg hc] at h
   rw[Hu] at h ⊢
   cases hx:x==n with
   |true=>rw[hx] at h;exact .inl h
   |false=>rw[hx] at h;exact ih h
def wZ (scope fscope:Scope) (N:List Str) (is:List Nat):Bool:=
 scope.names.all (fun y=>y.2 !=.cell) && scope.names.all (fun y=>y.2 !=.local ||scope.names.lookup y.1==some .local) && scope.names.all (fun y=>y.2 !=.free ||fscope.names.lookup y.1==some .cell) &&
  (Ds N.length).all fun i=>match N[i]? with |some x=>scope.names.lookup x !=some .local ||is.contains i |none=>true
theorem blk {X:Cx}{scope:Scope} (fscope:Scope) (N:List Str) (is:List Nat) (hNN:X.N=N) (hs:X.env.scope=fscope) (hcs:X.env.cells=K2 (X.env.locals+1) fscope.names []) (hk:scope.kind=.function) (h:wZ scope fscope N is=true):df X scope (goC X.env.cells scope.names []) is:=by
 subst hNN
 unfold wZ at h
 simp only[DL,Hv] at h
 obtain ⟨⟨⟨h1,h2⟩,h3⟩,h4⟩:=h
 have f1:∀y∈scope.names,y.2=.free→fscope.names.lookup y.1=some .cell:=fun y hy e=>by
  have:=h3 y hy
  simp only[K8,bne_iff_ne,ne_eq,beq_iff_eq] at this
  exact this.resolve_left fun z=>z e
 have f2:∀y∈scope.names,y.2=.free→(X.env.cells.lookup y.1).isSome=true:=fun y hy e=>by
  rw[hcs];exact GY _ _ _ (.inl (f1 y hy e))
 have nc:∀y∈scope.names,y.2≠.cell:=fun y hy=>by have:=h1 y hy;simpa using this
 refine ⟨pf f2,nc,hk,fun y hy e=>?_,rD _ _ f2 (fun x c e=>by simp at e),fun x hx=>?_,fun i x hi hl=>?_⟩
 ·have:=h2 y hy
  simp only[K8,bne_iff_ne,ne_eq,beq_iff_eq] at this
  exact this.resolve_left fun z=>z e
 ·have hf:(x,NameKind.free)∈scope.names:=by
   rcases hx with hx |hx
   ·rcases cL hx with z |⟨_,z⟩
    ·exact absurd rfl (nc _ (Et z))
    ·exact Et z
   ·rcases cL hx with z |⟨z,_⟩
    ·exact Et z
    ·cases z
  have hc:=f1 _ hf rfl
  refine ⟨.inr (.inl (by rw[hs];exact hc)),(by rw[hs,show fscope.names.lookup x=some .cell from hc];intro z;cases z),rK _ _ (.inl hf)⟩
 ·have hi':i < X.N.length:=(Cg.mp hi).1
  have:=h4 i (Cr.mpr hi')
  rw[hi] at this
  have hl':scope.names.lookup x=some .local:=by
   rcases cL hl with z |⟨z,_⟩
   ·exact z
   ·cases z
  simp only[hl',bne_self_eq_false,Bool.false_or,List.contains_iff_mem] at this
  exact this
end L2
namespace L2
end L2
namespace L2
open PySem PySem.Spec PySem.W PyProof.Rows
theorem r8 {K:Frag}{h:Heap}{mg:Str→Option Value}{x:Str}{C:Addr}{bmB:List Value}{newId:String} (X:K.In h) (hb:mg x=some (.ref C)) (q:excIn K C bmB newId=true):OwnCls x C bmB newId mg h:=by
 refine ⟨hb,?_⟩
 unfold excIn at q
 split at q
 ·rename_i dd cd sl ho
  split at q
  ·rename_i C' bm k0 k1 k2 k3 n k5 hm hs
   simp only[DL,beq_iff_eq,Kl] at q
   obtain ⟨⟨⟨⟨⟨e1,e2⟩,hdel⟩,ht⟩,hok⟩,hni⟩:=q
   subst e1 e2
   obtain ⟨nm,bs,mro,ns,qn,hd,sn,sub,ab,col,del⟩:=cd
   dsimp only at hm hdel hok hni
   subst hm hdel
   have hsl:sl=#[k0,k1,k2,k3,some (.builtin n),k5]:=by cases sl;simp only at hs;rw[hs]
   subst hsl
   exact ⟨bm,ns,nm,qn,bs,hd,sn,sub,ab,col,dd,k0,k1,k2,k3,k5,_,X _ _ ho,.of_isNs (isNs_of_in X hok),nsMap_none_of_in X hok hni,tail_of_in X ht⟩
  ·cases q
 ·cases q
def CXF (P:Cy) (w:World):CXT:=fun outer H s E e s'=>∃(ea:Addr) (cls a0:Value) (B:Heap) (H':Hp),e=.ref ea∧s'.os=s.os∧Iz s'.gens∧Un (frs outer) [] H H' s.heap s'.heap∧HOk P w H' s'.heap∧H' ea=none∧
 (∀b o,s.heap.get? b=some o→b ∉ frs outer→H b=none→B.get? b=some o)∧(∀b u,H' b=some u→∃o,B.get? b=some o)∧(∀b o,s.heap.get? b=some o→b ∉ frs outer→∃o',B.get? b=some o')∧
 Heap.FlyingW B outer ea cls a0 s'.heap∧E cls none H'
theorem aI {P:Cy}{w:World}{X:Cx}:e8 (CXF P w) X E0:=fun _ _ _ _ _ _ _ h=>by
 obtain ⟨_,_,_,_,_,_,_,_,_,_,_,_,_,_,_,hE⟩:=h
 exact hE.elim
theorem kU {P:Cy}{w:World}{H:Hp}{h:Heap}{a:Addr}{o:HO} (x:cw P w H h a o):∃ob,h.get? a=some ob:=by
 cases o with
 |lst xs=>obtain ⟨_,_,_,_,e⟩:=x;exact ⟨_,e⟩
 |tup xs=>obtain ⟨_,_,_,ob,e,_⟩:=x;exact ⟨_,e⟩
 |dK kvs=>obtain ⟨_,_,_,_,o,_,_,e,_⟩:=x;exact ⟨_,e⟩
 |dT kvs=>obtain ⟨_,_,_,_,o,_,_,e,_⟩:=x;exact ⟨_,e⟩
 |set S n=>obtain ⟨o,_,_,_,e,_⟩:=x;exact ⟨_,e⟩
 |ins C dx fs=>obtain ⟨_,_,_,e,_⟩:=x;exact ⟨_,e⟩
 |own y=>obtain ⟨_,e⟩:=x;exact ⟨_,e⟩
 |xd fs=>obtain ⟨_,⟨_,_,_,e,_⟩,_⟩:=x;exact ⟨_,e⟩
 |rng lo hi=>obtain ⟨_,_,_,e⟩:=x;exact ⟨_,e⟩
 |frz ob u=>obtain ⟨e,_⟩:=x;exact ⟨_,e⟩
 |tbl ps=>exact ⟨_,(show h.get? a=some _ from x)⟩
 |met f y=>exact ⟨_,(show h.get? a=some _ from x)⟩
 |ext φ=>obtain ⟨_,⟨_,e⟩,_⟩:=x;exact ⟨_,e⟩
theorem my {P:Cy}{w:World}{H':Hp}{h h' B:Heap} (ok:HOk P w H' h) (hB:∀b u,H' b=some u→∃o,B.get? b=some o) (s1:B.StaysIn h) (s2:B.StaysIn h'):HOk P w H' h':=fun a o e=>by
 refine (ok a o e).stay (fun b u hb q=>?_) (fun _ q=>q) fun _ _ q=>q
 have:∃v,H' b=some v:=by
  rcases hb with z |z
  ·subst z;exact ⟨_,e⟩
  ·exact ⟨_,z⟩
 obtain ⟨v,hv⟩:=this
 obtain ⟨ob,hob⟩:=hB b v hv
 have:=s1 b ob hob
 rw[q] at this
 cases this
 exact s2 b _ hob
theorem Ab {fs:List Addr}{H0 H':Hp}{h0 h1 h2 B:Heap} (u:Un fs [] H0 H' h0 h1) (k1:∀b o,h0.get? b=some o→b ∉ fs→H0 b=none→B.get? b=some o) (k3:∀b o,h0.get? b=some o→b ∉ fs→∃o',B.get? b=some o')
  (st:B.StaysIn h2) (up:h1.UpToSlots h2) (fr:∀b∈fs,∀o,h0.get? b=some o→∀vs,o.data≠.fields vs) (frf:∀b∈fs,H0 b=none):Un fs [] H0 H' h0 h2 where
 keep:=fun b o e n hb _=>st b o (k1 b o e hb n)
 slot:=fun b o e n hb hx=>by
  obtain ⟨sl,e1⟩:=u.slot b o e n hb hx
  obtain ⟨sl2,e2⟩:=up b _ e1 (fr b hb o e)
  exact ⟨sl2,e2⟩
 free:=u.free
 there:=fun b o e hx=>by
  by_cases hb:b∈fs
  ·obtain ⟨sl,e1⟩:=u.slot b o e (frf b hb) hb hx
   obtain ⟨sl2,e2⟩:=up b _ e1 (fr b hb o e)
   exact ⟨_,e2⟩
  ·obtain ⟨o',e'⟩:=k3 b o e hb
   exact ⟨o',st b o' e'⟩
 tups:=u.tups
 frzs:=u.frzs
 tbls:=u.tbls
theorem m7 {h base:Heap}:∀{l:List Env},h.FunFrames base l→∀b∈frs l,∀o,h.get? b=some o→∀vs,o.data≠.fields vs
 |[],_,b,hb,_,_=>absurd (show b∈([]:List Addr) from hb) (by simp)
 |env::r,⟨_,⟨L,o',hf,_,ho,hd⟩,hr⟩,b,hb,o,e=>by
  unfold frs at hb
  rw[Es,hf] at hb
  rcases Cd.mp hb with z |z
  ·subst z;rw[ho] at e;cases e;exact hd
  ·exact m7 hr b z o e
section
variable {P:Cy}{w:World}{K:Frag}{mg:Str→Option Value}{base:Heap}{N:List Str}{qual:Str}{scope:Scope}{f:Addr}{cd:Value}{A:Dc}{outer:List Env}{s:B7}{H:Hp}{E:XK}
theorem uw {env:Env}{L:Addr}{l:List Env} (h:env.frame=some L):frs (env::l)=L::frs l:=by unfold frs;rw[Es,h]
theorem oQ {pins:List (Addr×Obj)}{σ:St}{H1 H':Hp}{s1:B7}{B h1 h2:Heap} (I:Inv (dY (CXF P w) P w K mg base N qual scope f cd A outer s H E) pins σ H1 s1)
  (un:Un (frs (Gw qual scope s.heap.objs.size f cd::outer)) [] H1 H' s1.heap h1)
  (k1:∀b o,s1.heap.get? b=some o→b ∉ frs (Gw qual scope s.heap.objs.size f cd::outer)→H1 b=none→B.get? b=some o) (k3:∀b o,s1.heap.get? b=some o→b ∉ frs (Gw qual scope s.heap.objs.size f cd::outer)→∃o',B.get? b=some o')
  (st:B.StaysIn h2) (up:h1.UpToSlots h2):
  Un (frs outer) [] H H' s.heap h2∧(∀b o,s.heap.get? b=some o→b ∉ frs outer→H b=none→B.get? b=some o)∧(∀b o,s.heap.get? b=some o→b ∉ frs outer→∃o',B.get? b=some o'):=by
 have ef:frs (Gw qual scope s.heap.objs.size f cd::outer)=s.heap.objs.size::frs outer:=uw rfl
 rw[ef] at un k1 k3
 have ne:∀b o,s.heap.get? b=some o→b ∉ frs outer→b ∉ s.heap.objs.size::frs outer:=fun b o e hb z=>by
  rcases Cd.mp z with y |y
  ·exact absurd (Cf e) (by rw[y];exact CU _)
  ·exact hb y
 have ib:Un (frs outer) [] H H1 s.heap s1.heap:=I.base
 have K1:∀b o,s.heap.get? b=some o→b ∉ frs outer→H b=none→B.get? b=some o:=fun b o e hb n=>
  k1 b o (ib.keep b o e n hb (by simp)) (ne b o e hb) (ib.free b o e n (by simp))
 have K3:∀b o,s.heap.get? b=some o→b ∉ frs outer→∃o',B.get? b=some o':=fun b o e hb=>by
  obtain ⟨o',e'⟩:=ib.there b o e (by simp)
  exact k3 b o' e' (ne b o e hb)
 have ffr:∀b∈frs outer,∀o,s.heap.get? b=some o→∀vs,o.data≠.fields vs:=m7 I.ok.funs
 have frf:∀b∈frs outer,H b=none:=I.ok.frf
 refine ⟨⟨fun b o e n hb _=>st b o (K1 b o e hb n),fun b o e n hb hx=>?_,fun b o e n hx=>?_,fun b o e hx=>?_,fun b xs e=>un.tups b xs (ib.tups b xs e),fun b o u e=>un.frzs b o u (ib.frzs b o u e),fun b ps e=>?_⟩,K1,K3⟩
 ·obtain ⟨sl,e1⟩:=ib.slot b o e n hb hx
  obtain ⟨sl2,e2⟩:=un.slot b _ e1 (ib.free b o e n hx) (B4 _ hb) hx
  obtain ⟨sl3,e3⟩:=up b _ e2 (ffr b hb o e)
  exact ⟨sl3,e3⟩
 ·obtain ⟨o',e1⟩:=ib.there b o e hx
  exact un.free b o' e1 (ib.free b o e n hx) hx
 ·by_cases hb:b∈frs outer
  ·obtain ⟨sl,e1⟩:=ib.slot b o e (frf b hb) hb hx
   obtain ⟨sl2,e2⟩:=un.slot b _ e1 (ib.free b o e (frf b hb) hx) (B4 _ hb) hx
   obtain ⟨sl3,e3⟩:=up b _ e2 (ffr b hb o e)
   exact ⟨_,e3⟩
  ·obtain ⟨o',e'⟩:=K3 b o e hb
   exact ⟨o',st b o' e'⟩
 ·obtain ⟨m1,e1⟩:=ib.tbls b ps e
  obtain ⟨m2,e2⟩:=un.tbls b _ e1
  exact ⟨m1++m2,by rw[e2,JQ]⟩
theorem qs:e8 (CXF P w) (dY (CXF P w) P w K mg base N qual scope f cd A outer s H E) E:=by
 intro pins σ H1 s1 e s' I hcx
 obtain ⟨ea,cls,a0,B,H',rfl,os,bare,un,hok,hea,k1,k2,k3,fl,hE⟩:=hcx
 show wpAny _ _ (leaving (Gw qual scope s.heap.objs.size f cd) (.ref ea)) _ _ s'
 refine wpAny_leaves_onW (L:=s.heap.objs.size) I.ok.frames rfl fl fun h2 fl2 up=>?_
 obtain ⟨u,K1,K3⟩:=oQ I un k1 k3 fl2.1 up
 exact ⟨ea,cls,a0,B,H',rfl,os.trans I.os,bare,u,my hok k2 fl.1 fl2.1,hea,K1,k2,K3,fl2,hE⟩
def zS (E:XK) (C:Addr) (te:TE):TS:=fun _ σ H=>te σ H fun _ H1=>E (.ref C) none H1
theorem uJ {x:Str}{C:Addr}{e0:Expr}{te:TE}{np cpos pos:Pos} (hex:excIn K C [.type "ValueError",.type "Exception",.type "BaseException",.type "object"] "ValueError.__new__"=true)
  (hg:Gl (dY (CXF P w) P w K mg base N qual scope f cd A outer s H E) x) (hm:mg x=some (.ref C)) (he:PE (dY (CXF P w) P w K mg base N qual scope f cd A outer s H E) e0 te)
  (hst:Ce [e0] (dY (CXF P w) P w K mg base N qual scope f cd A outer s H E).env=[(false,eval e0 (dY (CXF P w) P w K mg base N qual scope f cd A outer s H E).env)]:=by rfl) (hd:(x==("__debug__":Str))=false:=by decide):
  PS (dY (CXF P w) P w K mg base N qual scope f cd A outer s H E) (.Raise (some (.Call (.Name x np) [e0] [] cpos)) none pos) (zS E C te):=by
 intro pins s1 σ H1 D I h
 have O:=r8 I.ok.mod.kin hm hex
 obtain ⟨tl,NN,nm,q,bs,hdct,sn,sub,ab,col,dd,k0,k1,k2,k3,k5,mN,hC,hN,hni,T⟩:=O.obj
 have hpl:(Fp cpos (Ce [e0] (dY (CXF P w) P w K mg base N qual scope f cd A outer s H E).env)).any (·.1)=false:=by rw[hst];rfl
 refine wpAny_Raise_call_subT (C:=C) (nm:=nm) (q:=q) (N:=NN) (bs:=bs) (bm:=tl) (hdct:=hdct) (sn:=sn) (sub:=sub) (ab:=ab) (col:=col) (dd:=dd) (k0:=k0) (k1:=k1) (k2:=k2) (k3:=k3) (k5:=k5)
  Gf (mN:=mN) (T.hasType Gf.hasBase) (I.ok.hd rfl) hpl hni (hV I hg hm ⟨rfl,?_⟩ hd)
 rw[hst]
 refine Jx ?_
 show wpAny _ _ (spliced ((false,eval e0 _)::Fp cpos [])) _ _ s1
 refine FP (thn (he pins s1 σ H1 _ I h) fun v s2 ⟨y,H2,I2,r2,hE⟩=>FZ ⟨rfl,by show 1≤sizeLine;decide,I2.bk _ _ hC,hN.keeps I2.bk,T.keeps I2.bk,fun h' e hx=>?_⟩)
 show wpAny _ _ (leaving (Gw qual scope s.heap.objs.size f cd) (.ref e)) _ _ {s2 with heap:=h' }
 have stk:s2.heap.FunFrames base (Gw qual scope s.heap.objs.size f cd::outer):=I2.stack
 refine wpAny_leaves_madeW (base:=hideAll s2.heap (frs (Gw qual scope s.heap.objs.size f cd::outer))) (h:=s2.heap) (L:=s.heap.objs.size) I2.ok.frames rfl (fun b o q=>of_hideAll _ q)
  (funFrames_hide stk fun env he b hb=>GF.mpr ⟨env,he,hb⟩) hx fun h2 t fl _ _ up=>?_
 have k2':∀b u,H2 b=some u→∃o,(hideAll s2.heap (frs (Gw qual scope s.heap.objs.size f cd::outer))).get? b=some o:=fun b u e=>by
  obtain ⟨ob,hob⟩:=kU (I2.hok b u e)
  exact ⟨ob,hideAll_get _ hob fun z=>by have:=I2.stkFree b z;rw[e] at this;cases this⟩
 obtain ⟨u,K1,K3⟩:=oQ (h1:=h') I2 (Un.kept hx.keeps) (fun b o e hb _=>hideAll_get _ e hb) (fun b o e hb=>⟨o,hideAll_get _ e hb⟩) fl.1 up
 refine ⟨e,.ref C,.ref t,_,H2,rfl,I2.os,I2.bare,u,my (h:=s2.heap) I2.hok k2' (fun b o q=>of_hideAll _ q) fl.1,?_,K1,k2',K3,fl,hE⟩
 cases z:H2 e with
 |none=>rfl
 |some u=>
  obtain ⟨ob,hob⟩:=kU (I2.hok e u z)
  rw[hx.new] at hob;cases hob
end
theorem Fun.okF {P:Cy}{w:World}{K:Frag}{mg:Str→Option Value}{base:Heap}{x qual:Str}{st:Stmt}{f:Addr}{fd:CN}{N ps:List Str}{k:Nat}{sp:Sp} (F:Fun K x qual st f fd) (S:aw N ps (ai st)) (len:∀vs H Q E,sp vs H Q E→vs.length=ps.length)
  (hbody:∀(cdv:Value) (A:Dc) (outer:List Env) (s:B7) (H:Hp) (vs:List V) (Q:VK) (E:XK),dc k (A.deeper (Gw qual (ai st) s.heap.objs.size f cdv))→sp vs H Q E→
   ∃t,PSs (dY (CXF P w) P w K mg base N qual (ai st) f cdv A outer s H E) (au st) t∧t {nx:=fun _ H'=>Q .non H',rt:=Q } (start N vs) H):a_ P w K mg base (CXF P w) (k+1) f fd ps sp:=by
 obtain ⟨oc,od,kV,doc,pm,an,cdv,ct,osl,rfl,lk,hcd⟩:=F.ex
 exact yU lk hcd S len fun A outer s H vs Q E hr hsp=>hbody cdv A outer s H vs Q E hr hsp
abbrev gI (X:Cx) (ea:Addr):Cx:={X with A:=X.A.mark (some (.ref ea)),calm:=false,xe:=fun _ _=>False }
section
variable {X:Cx}{pins:List (Addr×Obj)}{σ:St}{H:Hp}{s:B7}
theorem Inv.hand (I:Inv X pins σ H s) (ea:Addr):Inv (gI X ea) pins σ H s:=
 ⟨⟨I.ok.mod,I.ok.kind,I.ok.glob,I.ok.blt,I.ok.above,I.ok.inj,I.ok.has,I.ok.cab,fun h=>(by cases h),I.ok.frames,I.ok.stk,I.ok.exf,I.ok.bs,I.ok.bsz,I.ok.noex,I.ok.exfs,I.ok.funs,I.ok.frf⟩,
  I.os,I.bare,I.base,I.loc,I.cell,I.free,I.freeC,I.pin,I.hok,I.len⟩
theorem Inv.unhand {ea:Addr} (hd:X.calm=true→X.A.handled=none) (I:Inv (gI X ea) pins σ H s):Inv X pins σ H s:=
 ⟨⟨I.ok.mod,I.ok.kind,I.ok.glob,I.ok.blt,I.ok.above,I.ok.inj,I.ok.has,I.ok.cab,hd,I.ok.frames,I.ok.stk,I.ok.exf,I.ok.bs,I.ok.bsz,I.ok.noex,I.ok.exfs,I.ok.funs,I.ok.frf⟩,
  I.os,I.bare,I.base,I.loc,I.cell,I.free,I.freeC,I.pin,I.hok,I.len⟩
theorem SP.unhand {ea:Addr}{D:kA}{f:Flow}{s':B7} (hd:X.calm=true→X.A.handled=none) (h:SP (gI X ea) pins D f s'):SP X pins D f s':=by
 cases f with
 |next=>obtain ⟨σ',H',I,q⟩:=h;exact ⟨σ',H',I.unhand hd,q⟩
 |brk=>obtain ⟨σ',H',I,q⟩:=h;exact ⟨σ',H',I.unhand hd,q⟩
 |cont=>obtain ⟨σ',H',I,q⟩:=h;exact ⟨σ',H',I.unhand hd,q⟩
 |ret u=>obtain ⟨v,σ',H',I,r,q⟩:=h;exact ⟨v,σ',H',I.unhand hd,r,q⟩
end
section
variable {X:Cx}
end
end L2
namespace L2
open PySem PySem.Spec PyProof.Rows
theorem kI {n:Nat}{e:Nat→Bool}:(Ds n).all e=true↔∀j,j < n→e j=true:=by
 rw[Hv]
 exact ⟨fun h j hj=>h j (Cr.mpr hj),fun h j hj=>h j (Cr.mp hj)⟩
section
variable {X:Cx}
end
end L2
namespace PySem.W
open PySem PySem.Spec PySem.Calls PyProof.Rows PySem.Builtin PySem.Builtin.ObjectAttr PySem.Builtin.Getset_descriptor
section
variable {prog:Cy}{w:World}{A:Dc}{E:Value→B7→Prop}{s:B7}{K:Frag}{x C:Addr}
def OfCls (x C:Addr) (h:Heap):Prop:=∃o,h.get? x=some o∧o.cls=.ref C
variable (hga:findIn K (.ref C) "__getattribute__"=some (some (.builtin "BaseException.__getattribute__"))) (hgn:findIn K (.ref C) "__getattr__"=some none) (ha:findIn K (.ref C) "__class__"=some (some (.builtin "object.__class__")))
 (hn:specialIn K (.builtin "object.__class__") "__get__"=some (some (.builtin "getset_descriptor.__get__"))) (htk:takesIn K (.builtin "object.__class__")=some true) (hm:mroIn K C (.type "object")=some true) (hmB:mroIn K C (.type "BaseException")=some true)
include ha hn htk hm in
end
structure XcOk (K:Frag) (C:Addr):Prop where
 ga:findIn K (.ref C) "__getattribute__"=some (some (.builtin "BaseException.__getattribute__"))
 gn:findIn K (.ref C) "__getattr__"=some none
 at_:findIn K (.ref C) "__class__"=some (some (.builtin "object.__class__"))
 sp:specialIn K (.builtin "object.__class__") "__get__"=some (some (.builtin "getset_descriptor.__get__"))
 tk:takesIn K (.builtin "object.__class__")=some true
 mo:mroIn K C (.type "object")=some true
 mb:mroIn K C (.type "BaseException")=some true
theorem XcOk.off {x C:Addr}{h:Heap}{o:Obj}{T:String} (I:OfCls x C h) (e:h.get? x=some o) (c:o.cls=.type T):False:=by
 obtain ⟨o',e',c'⟩:=I
 rw[e] at e';cases e'
 rw[c] at c';cases c'
end PySem.W
namespace L2
open PySem PySem.Spec PyProof.Rows
inductive TyX where
 |nm (n:String) |xc (C:Addr)
inductive U where
 |non |bl (b:Bool) |int (i:Int) |str (x:Str) |ty (n:TyX) |dic |scr (xs:List U) |tup (xs:List U) |lst (xs:List U)
def U.items:U→Option (List U)
 | .scr xs=>some xs
 | .tup xs=>some xs
 | .lst xs=>some xs
 |_=>none
def hid (H:Hp) (O:List Addr):Hp:=fun b=>if b∈O then none else H b
theorem gL {H:Hp}{O:List Addr}{b:Addr}{o:HO} (h:hid H O b=some o):H b=some o∧b ∉ O:=by
 unfold hid at h
 split at h
 ·cases h
 ·exact ⟨h,by assumption⟩
theorem dy {H:Hp}{O:List Addr}{b:Addr}{o:HO} (h:H b=some o) (n:b ∉ O):hid H O b=some o:=by
 unfold hid;rw[if_neg n];exact h
theorem ax {H:Hp}{O:List Addr}:aK (hid H O) H:=fun _ _ h=>(gL h).1
theorem bi {H H':Hp}{O:List Addr} (e:aK H H'):aK (hid H O) (hid H' O):=fun _ _ h=>dy (e _ _ (gL h).1) (gL h).2
theorem dh {H:Hp}{O O':List Addr} (e:∀a∈O',a∈O):aK (hid H O) (hid H O'):=fun _ _ h=>dy (gL h).1 fun z=>(gL h).2 (e _ z)
theorem bF {H H':Hp}{O:List Addr}{a:Addr} (e:aK H H') (n:H a=none):aK (hid H O) (hid H' (a::O)):=fun b o h=>by
 obtain ⟨h1,h2⟩:=gL h
 refine dy (e _ _ h1) fun z=>?_
 rcases Cd.mp z with y |y
 ·subst y;rw[n] at h1;cases h1
 ·exact h2 y
theorem mm {H:Hp}{O:List Addr}{a:Addr}{o:HO} (h:a∈O):hid (upd H a o) O=hid H O:=by
 funext b
 unfold hid
 split
 ·rfl
 ·rename_i n
  rw[ba fun e=>n (by rw[e];exact h)]
inductive Rp (K:B2) (H:Hp):V→U→Prop where
 |non:Rp K H .non .non
 |bl (b:Bool):Rp K H (.bl b) (.bl b)
 |int (i:Int):Rp K H (.int i) (.int i)
 |str (x:Str):Rp K H (.str x) (.str x)
 |ty (n:String):Rp K H (.ty n) (.ty (.nm n))
 |dic {a:Addr}{kvs:List (Key×V)} (h:H a=some (.dK kvs)):Rp K H (.ref a) .dic
 |xc {a C:Addr} (h:H a=some (.ext (PySem.W.OfCls a C))) (k:PySem.W.XcOk K C):Rp K H (.ref a) (.ty (.xc C))
 |scr {a:Addr}{vs:List V}{xs:List U} (h:SqL K H a vs) (hl:vs.length=xs.length) (hi:∀(i:Nat) (v:V) (x:U),vs[i]?=some v→xs[i]?=some x→Rp K H v x):Rp K H (.ref a) (.scr xs)
 |tup {a:Addr}{vs:List V}{xs:List U} (h:SqT K H a vs) (hl:vs.length=xs.length) (hi:∀(i:Nat) (v:V) (x:U),vs[i]?=some v→xs[i]?=some x→Rp K H v x):Rp K H (.ref a) (.tup xs)
 |lst {a:Addr}{vs:List V}{xs:List U} (h:H a=some (.lst vs)) (hl:vs.length=xs.length) (hi:∀(i:Nat) (v:V) (x:U),vs[i]?=some v→xs[i]?=some x→Rp K H v x):Rp K H (.ref a) (.lst xs)
theorem Rp.same {K:B2}{H H':Hp}{v:V}{u:U} (e:aK H H') (h:Rp K H v u):Rp K H' v u:=by
 induction h with
 |non=>exact .non
 |bl b=>exact .bl b
 |int i=>exact .int i
 |str x=>exact .str x
 |ty n=>exact .ty n
 |dic h=>exact .dic (e _ _ h)
 |xc h k=>exact .xc (e _ _ h) k
 |scr h hl hi ih=>exact .scr (e.seq h) hl ih
 |tup h hl hi ih=>exact .tup (e.tup h) hl ih
 |lst h hl hi ih=>exact .lst (e _ _ h) hl ih
structure Rps (K:B2) (H:Hp) (vs:List V) (xs:List U):Prop where
 len:vs.length=xs.length
 at_:∀(i:Nat) (v:V) (x:U),vs[i]?=some v→xs[i]?=some x→Rp K H v x
theorem Rps.same {K:B2}{H H':Hp}{vs:List V}{xs:List U} (e:aK H H') (h:Rps K H vs xs):Rps K H' vs xs:=⟨h.len,fun i v x a b=>(h.at_ i v x a b).same e⟩
theorem Rps.nil {K:B2}{H:Hp}:Rps K H [] []:=⟨rfl,fun i v x h=>by simp at h⟩
theorem Rps.cons {K:B2}{H:Hp}{v:V}{x:U}{vs:List V}{xs:List U} (h:Rp K H v x) (t:Rps K H vs xs):Rps K H (v::vs) (x::xs):=by
 refine ⟨by simp[t.len],fun i a b h1 h2=>?_⟩
 cases i with
 |zero=>simp at h1 h2;subst h1;subst h2;exact h
 |succ i=>exact t.at_ i a b (by simpa using h1) (by simpa using h2)
theorem Rps.snoc {K:B2}{H:Hp}{vs ws:List V}{xs ys:List U} (h:Rps K H vs xs) (t:Rps K H ws ys):Rps K H (vs++ws) (xs++ys):=by
 refine ⟨by simp[h.len,t.len],fun i a b h1 h2=>?_⟩
 by_cases hi:i < vs.length
 ·rw[CF hi] at h1
  rw[CF (by rw[←h.len];exact hi)] at h2
  exact h.at_ i a b h1 h2
 ·have hle:vs.length≤i:=Ht hi
  rw[CG hle] at h1
  rw[CG (by rw[←h.len];exact hle),←h.len] at h2
  exact t.at_ _ a b h1 h2
theorem Rps.get {K:B2}{H:Hp}{vs:List V}{xs:List U}{i:Nat}{x:U} (h:Rps K H vs xs) (e:xs[i]?=some x):∃v,vs[i]?=some v∧Rp K H v x:=by
 have hi:i < vs.length:=by rw[h.len];exact (Cg.mp e).1
 exact ⟨vs[i],B1 hi,h.at_ i _ x (B1 hi) e⟩
theorem Rps.atI {K:B2}{H:Hp}{vs:List V}{xs:List U}{i:Int}{x:U} (h:Rps K H vs xs) (e:L2.atI xs i=some x):∃v,L2.atI vs i=some v∧Rp K H v x:=by
 unfold L2.atI at e ⊢
 rw[h.len]
 cases q:ixN xs.length i with
 |none=>rw[q] at e;cases e
 |some j=>
  rw[q] at e
  obtain ⟨v,h1,h2⟩:=h.get (show xs[j]?=some x from e)
  exact ⟨v,h1,h2⟩
theorem Rps.cons_inv {K:B2}{H:Hp}{vs:List V}{x:U}{xs:List U} (h:Rps K H vs (x::xs)):∃v ws,vs=v::ws∧Rp K H v x∧Rps K H ws xs:=by
 cases vs with
 |nil=>have:=h.len;simp at this
 |cons v ws=>
  refine ⟨v,ws,rfl,h.at_ 0 v x rfl rfl,by have:=h.len;simpa using this,fun i a b h1 h2=>h.at_ (i+1) a b (by simpa using h1) (by simpa using h2)⟩
theorem Rps.nil_inv {K:B2}{H:Hp}{vs:List V} (h:Rps K H vs []):vs=[]:=Ed.mp (by rw[h.len];rfl)
inductive Sl where
 |val (u:U) |own (xs:List U) |pin (w:V) (u:U)
abbrev PSt:=List (Option Sl)
def xL (K:B2) (H:Hp) (O O0:List Addr) (v:V):Sl→Prop
 | .val u=>Rp K (hid H O) v u
 | .own xs=>∃a vs,v=.ref a∧a∈O∧a ∉ O0∧H a=some (.lst vs)∧Rps K (hid H O) vs xs
 | .pin w u=>v=w∧Rp K (hid H O) v u
structure Rs (K:B2) (H0:Hp) (O0:List Addr) (ps:PSt) (σ:St) (H:Hp) (O:List Addr):Prop where
 same:aK H0 H
 old:∀a∈O0,a∈O
 new:∀a∈O,a∈O0∨H0 a=none
 dom:∀a∈O,H a≠none
 len:σ.length=ps.length
 at_:∀(i:Nat) (s:Sl),ps[i]?=some (some s)→∃v,σ[i]?=some (some v)∧xL K H O O0 v s
 inj:∀(i j:Nat) (xs ys:List U) (a:Addr),ps[i]?=some (some (.own xs))→ps[j]?=some (some (.own ys))→σ[i]?=some (some (.ref a))→σ[j]?=some (some (.ref a))→i=j
section
variable {K:B2}{H0 H H':Hp}{O0 O:List Addr}{ps:PSt}{σ:St}
theorem xL.same {v:V}{s:Sl} (e:aK H H') (h:xL K H O O0 v s):xL K H' O O0 v s:=by
 cases s with
 |val u=>exact Rp.same (bi e) h
 |own xs=>obtain ⟨a,vs,h1,h2,h3,h4,h5⟩:=h;exact ⟨a,vs,h1,h2,h3,e _ _ h4,h5.same (bi e)⟩
 |pin w u=>exact ⟨h.1,Rp.same (bi e) h.2⟩
theorem Rs.go (R:Rs K H0 O0 ps σ H O) (e:aK H H'):Rs K H0 O0 ps σ H' O:=
 ⟨R.same.trans e,R.old,R.new,fun a ha z=>R.dom a ha (e.free z),R.len,fun i s h=>let ⟨v,h1,h2⟩:=R.at_ i s h;⟨v,h1,h2.same e⟩,R.inj⟩
theorem dz {α:Type}{xs:List α}{i j:Nat}{y x:α} (h:(xs.set i y)[j]?=some x):(i=j∧x=y)∨(i≠j∧xs[j]?=some x):=by
 by_cases e:i=j
 ·subst e
  rw[Ik] at h
  simp at h
  exact .inl ⟨rfl,h.2.symm⟩
 ·rw[CQ e] at h
  exact .inr ⟨e,h⟩
theorem g_ {α:Type}{xs:List α}{i:Nat}{y:α} (h:i < xs.length):(xs.set i y)[i]?=some y:=by rw[Ik];simp[h]
theorem aF {α:Type}{xs:List α}{i:Nat}{y:α} (h:xs[i]?=some y):i < xs.length:=(Cg.mp h).1
theorem j6 {i:Nat}{u:U}{j:Nat}{xs:List U} (h:(ps.set i (some (.val u)))[j]?=some (some (.own xs))):i≠j∧ps[j]?=some (some (.own xs)):=by
 rcases dz h with ⟨_,e⟩ |h
 ·cases e
 ·exact h
theorem Rs.set {i:Nat}{v:V}{u:U} (R:Rs K H0 O0 ps σ H O) (r:Rp K (hid H O) v u):Rs K H0 O0 (ps.set i (some (.val u))) (σ.set i (some v)) H O:=by
 refine ⟨R.same,R.old,R.new,R.dom,by simp[R.len],fun j s h=>?_,fun j k xs ys a h1 h2 h3 h4=>?_⟩
 ·rcases dz h with ⟨e,q⟩ |⟨n,q⟩
  ·subst e
   cases q
   have hi:=aF h
   rw[GJ] at hi
   exact ⟨v,g_ (by rw[R.len];exact hi),r⟩
  ·obtain ⟨w,h1,h2⟩:=R.at_ j s q
   exact ⟨w,by rw[CQ n];exact h1,h2⟩
 ·obtain ⟨n1,q1⟩:=j6 h1
  obtain ⟨n2,q2⟩:=j6 h2
  rw[CQ n1] at h3
  rw[CQ n2] at h4
  exact R.inj j k xs ys a q1 q2 h3 h4
theorem Rs.drop {i:Nat}{o:Option V} (R:Rs K H0 O0 ps σ H O):Rs K H0 O0 (ps.set i none) (σ.set i o) H O:=by
 have key:∀{j:Nat}{s:Sl},(ps.set i none)[j]?=some (some s)→i≠j∧ps[j]?=some (some s):=fun {j s} h=>by
  rcases dz h with ⟨_,e⟩ |h
  ·cases e
  ·exact h
 refine ⟨R.same,R.old,R.new,R.dom,by simp[R.len],fun j s h=>?_,fun j k xs ys a h1 h2 h3 h4=>?_⟩
 ·obtain ⟨n,q⟩:=key h
  obtain ⟨w,h1,h2⟩:=R.at_ j s q
  exact ⟨w,by rw[CQ n];exact h1,h2⟩
 ·obtain ⟨n1,q1⟩:=key h1
  obtain ⟨n2,q2⟩:=key h2
  rw[CQ n1] at h3
  rw[CQ n2] at h4
  exact R.inj j k xs ys a q1 q2 h3 h4
theorem Rs.own {i:Nat}{a:Addr}{vs:List V}{xs:List U} (R:Rs K H0 O0 ps σ H O) (e:aK H H') (n:H a=none) (h:H' a=some (.lst vs)) (r:Rps K (hid H' (a::O)) vs xs):
  Rs K H0 O0 (ps.set i (some (.own xs))) (σ.set i (some (.ref a))) H' (a::O):=by
 have na:a ∉ O:=fun z=>R.dom a z n
 have na0:a ∉ O0:=fun z=>na (R.old a z)
 have n0:H0 a=none:=R.same.free n
 have noref:∀(j:Nat) (ys:List U),ps[j]?=some (some (.own ys))→σ[j]?≠some (some (.ref a)):=fun j ys h1 h2=>by
  obtain ⟨v,h3,b,ws,h4,h5,_⟩:=R.at_ j _ h1
  rw[h2] at h3
  cases h3
  cases h4
  exact na h5
 refine ⟨R.same.trans e,fun b hb=>B4 _ (R.old b hb),fun b hb=>?_,fun b hb z=>?_,by simp[R.len],fun j s q=>?_,fun j k ys zs b h1 h2 h3 h4=>?_⟩
 ·rcases Cd.mp hb with y |y
  ·subst y;exact .inr n0
  ·exact R.new b y
 ·rcases Cd.mp hb with y |y
  ·subst y;rw[h] at z;cases z
  ·exact R.dom b y (e.free z)
 ·rcases dz q with ⟨e',q'⟩ |⟨ne,q'⟩
  ·subst e'
   cases q'
   have hi:=aF q
   rw[GJ] at hi
   exact ⟨.ref a,g_ (by rw[R.len];exact hi),a,vs,rfl,Ci,na0,h,r⟩
  ·obtain ⟨w,h1,h2⟩:=R.at_ j s q'
   refine ⟨w,by rw[CQ ne];exact h1,?_⟩
   cases s with
   |val u=>exact Rp.same (bF e n) h2
   |own ys=>
    obtain ⟨b,ws,k1,k2,k3,k4,k5⟩:=h2
    exact ⟨b,ws,k1,B4 _ k2,k3,e _ _ k4,k5.same (bF e n)⟩
   |pin z u=>exact ⟨h2.1,Rp.same (bF e n) h2.2⟩
 ·rcases dz h1 with ⟨e1,q1⟩ |⟨n1,q1⟩ <;>rcases dz h2 with ⟨e2,q2⟩ |⟨n2,q2⟩
  ·rw[←e1,←e2]
  ·subst e1
   have hi:=aF h3
   rw[GJ] at hi
   rw[g_ hi] at h3
   cases h3
   rw[CQ n2] at h4
   exact absurd h4 (noref k zs q2)
  ·subst e2
   have hi:=aF h4
   rw[GJ] at hi
   rw[g_ hi] at h4
   cases h4
   rw[CQ n1] at h3
   exact absurd h3 (noref j ys q1)
  ·rw[CQ n1] at h3
   rw[CQ n2] at h4
   exact R.inj j k ys zs b q1 q2 h3 h4
theorem Rs.write {i:Nat}{a:Addr}{vs:List V}{xs ys:List U} (R:Rs K H0 O0 ps σ H O) (hp:ps[i]?=some (some (.own xs))) (hs:σ[i]?=some (some (.ref a))) (r:Rps K (hid H O) vs ys):
  Rs K H0 O0 (ps.set i (some (.own ys))) σ (upd H a (.lst vs)) O:=by
 obtain ⟨v,h1,b,ws,h2,h3,h4,h5,h6⟩:=R.at_ i _ hp
 rw[hs] at h1
 cases h1
 cases h2
 have h0:H0 a=none:=(R.new a h3).resolve_left h4
 have eh:hid (upd H a (.lst vs)) O=hid H O:=mm h3
 refine ⟨R.same.put h0 _,R.old,R.new,fun b hb z=>?_,by simp[R.len],fun j s q=>?_,fun j k zs us b q1 q2 q3 q4=>?_⟩
 ·by_cases e:b=a
  ·subst e;rw[aY] at z;cases z
  ·rw[ba e] at z;exact R.dom b hb z
 ·rcases dz q with ⟨e',q'⟩ |⟨ne,q'⟩
  ·subst e'
   cases q'
   exact ⟨.ref a,hs,a,vs,rfl,h3,h4,aY,by rw[eh];exact r⟩
  ·obtain ⟨w,k1,k2⟩:=R.at_ j s q'
   refine ⟨w,k1,?_⟩
   cases s with
   |val u=>exact (show Rp K (hid (upd H a (.lst vs)) O) w u by rw[eh];exact k2)
   |own zs=>
    obtain ⟨b,us,e1,e2,e3,e4,e5⟩:=k2
    subst e1
    have:b≠a:=fun z=>by subst z;exact ne (R.inj i j xs zs b hp q' hs k1)
    exact ⟨b,us,rfl,e2,e3,by rw[ba this];exact e4,by rw[eh];exact e5⟩
   |pin z u=>exact ⟨k2.1,by rw[eh];exact k2.2⟩
 ·have c1:∃zs',ps[j]?=some (some (.own zs')):=by
   rcases dz q1 with ⟨e,_⟩ |⟨_,z⟩
   ·subst e;exact ⟨_,hp⟩
   ·exact ⟨_,z⟩
  have c2:∃zs',ps[k]?=some (some (.own zs')):=by
   rcases dz q2 with ⟨e,_⟩ |⟨_,z⟩
   ·subst e;exact ⟨_,hp⟩
   ·exact ⟨_,z⟩
  obtain ⟨_,c1⟩:=c1
  obtain ⟨_,c2⟩:=c2
  exact R.inj j k _ _ b c1 c2 q3 q4
def SubP:PSt→PSt→Prop
 |[],[]=>True
 |none::p,_::q=>SubP p q
 |some s::p,t::q=>t=some s∧SubP p q
 |_,_=>False
theorem SubP.at_:∀{p q:PSt},SubP p q→p.length=q.length∧∀(i:Nat) (s:Sl),p[i]?=some (some s)→q[i]?=some (some s)
 |[],[],_=>⟨rfl,fun i s h=>by simp at h⟩
 |none::p,t::q,h=>by
  obtain ⟨h1,h2⟩:=SubP.at_ (p:=p) (q:=q) h
  refine ⟨by simp[h1],fun i s e=>?_⟩
  cases i with
  |zero=>simp at e
  |succ i=>exact h2 i s (by simpa using e)
 |some s0::p,t::q,h=>by
  obtain ⟨h0,h⟩:=h
  obtain ⟨h1,h2⟩:=SubP.at_ (p:=p) (q:=q) h
  refine ⟨by simp[h1],fun i s e=>?_⟩
  cases i with
  |zero=>simp at e;subst e;rw[h0];rfl
  |succ i=>exact h2 i s (by simpa using e)
 |[],_::_,h=>h.elim
 |none::_,[],h=>h.elim
 |some _::_,[],h=>h.elim
theorem Rs.sub {ps':PSt} (R:Rs K H0 O0 ps σ H O) (h:SubP ps' ps):Rs K H0 O0 ps' σ H O:=by
 obtain ⟨h1,h2⟩:=h.at_
 exact ⟨R.same,R.old,R.new,R.dom,R.len.trans h1.symm,fun i s e=>R.at_ i s (h2 i s e),fun i j xs ys a e1 e2=>R.inj i j xs ys a (h2 _ _ e1) (h2 _ _ e2)⟩
end
def Ev (X:Cx) (H0:Hp) (O0:List Addr) (ps:PSt) (e:Expr) (u:U):Prop:=
 PE X e fun σ H Q=>∃O,Rs X.K H0 O0 ps σ H O∧∀v H',aK H H'→Rp X.K (hid H' O) v u→Q v H'
def EvN (X:Cx) (H0:Hp) (O0:List Addr) (ps:PSt) (e:Expr) (xs:List U):Prop:=
 PE X e fun σ H Q=>∃O,Rs X.K H0 O0 ps σ H O∧∀a vs H',aK H H'→H a=none→H' a=some (.lst vs)→Rps X.K (hid H' (a::O)) vs xs→Q (.ref a) H'
def Tt (X:Cx) (H0:Hp) (O0:List Addr) (ps:PSt) (e:Expr) (b:Bool):Prop:=
 PT X e fun σ H Q=>∃O,Rs X.K H0 O0 ps σ H O∧∀H',aK H H'→Q b H'
def Tw (X:Cx) (H0:Hp) (O0:List Addr) (ps:PSt) (e:Expr) (b:Bool):Prop:=
 PW X e fun σ H Q=>∃O,Rs X.K H0 O0 ps σ H O∧∀H',aK H H'→Q b H'
def EvA (X:Cx) (H0:Hp) (O0:List Addr) (ps:PSt) (es:List Expr) (us:List U):Prop:=
 PA X es fun σ H Q=>∃O,Rs X.K H0 O0 ps σ H O∧∀vs H',aK H H'→Rps X.K (hid H' O) vs us→Q vs H'
theorem PE.mono {X:Cx}{e:Expr}{t t':TE} (h:PE X e t) (m:∀σ H Q,t' σ H Q→t σ H Q):PE X e t':=fun pins s σ H Q I q=>h pins s σ H Q I (m σ H Q q)
theorem PT.mono {X:Cx}{e:Expr}{t t':TT} (h:PT X e t) (m:∀σ H Q,t' σ H Q→t σ H Q):PT X e t':=fun pins s σ H Q I q=>h pins s σ H Q I (m σ H Q q)
theorem PW.mono {X:Cx}{e:Expr}{t t':TT} (h:PW X e t) (m:∀σ H Q,t' σ H Q→t σ H Q):PW X e t':=fun wh pins s σ H Q I q=>h wh pins s σ H Q I (m σ H Q q)
theorem PA.mono {X:Cx}{e:List Expr}{t t':TA} (h:PA X e t) (m:∀σ H Q,t' σ H Q→t σ H Q):PA X e t':=fun pos pins s σ H Q I q=>h pos pins s σ H Q I (m σ H Q q)
theorem PS.mono {X:Cx}{e:Stmt}{t t':TS} (h:PS X e t) (m:∀D σ H,t' D σ H→t D σ H):PS X e t':=fun pins s σ H D I q=>h pins s σ H D I (m D σ H q)
theorem PSs.mono {X:Cx}{e:List Stmt}{t t':TS} (h:PSs X e t) (m:∀D σ H,t' D σ H→t D σ H):PSs X e t':=fun pins s σ H D I q=>h pins s σ H D I (m D σ H q)
section
variable {X:Cx}{H0:Hp}{O0:List Addr}{ps:PSt}{a b c e:Expr}{es:List Expr}{pos p:Pos}{u x y:U}{xs ys us:List U}{i j:Int}
theorem EvN.ev (h:EvN X H0 O0 ps e xs):Ev X H0 O0 ps e (.lst xs):=PE.mono h fun σ H Q ⟨O,R,k⟩=>⟨O,R,fun a vs H' s n h r=>by
 have na:a ∉ O:=fun z=>R.dom a z n
 have less:aK (hid H' (a::O)) (hid H' O):=dh fun b hb=>B4 _ hb
 exact k _ H' s (.lst (dy h na) (r.same less).len (r.same less).at_)⟩
theorem aa (i:Nat) {x:Str}{u:U} (h:ps[i]?=some (some (.val u))) (hN:X.N[i]?=some x:=by rfl) (hv:Vis X.env.scope x:=by first |exact Or.inl rfl |exact Or.inr (Or.inl rfl) |exact Or.inr (Or.inr rfl)) (hd:(x==("__debug__":Str))=false:=by decide)
  (hcd:(x==("__classdict__":Str))=false:=by decide):Ev X H0 O0 ps (.Name x pos) u:=PE.mono (fH hN hv hd hcd) fun σ H Q ⟨O,R,k⟩=>by
 obtain ⟨v,h1,h2⟩:=R.at_ i _ h
 exact ⟨v,h1,k v H (.refl H) h2⟩
theorem aj {i j pos}:Ev X H0 O0 ps (.Constant (.int i) j pos) (.int i):=PE.mono z8 fun _ H _ ⟨_,_,k⟩=>k _ H (.refl H) (.int i)
theorem iK {i j pos}:Ev X H0 O0 ps (.Constant (.bool i) j pos) (.bl i):=PE.mono Bs fun _ H _ ⟨_,_,k⟩=>k _ H (.refl H) (.bl i)
theorem qj {i j pos}:Ev X H0 O0 ps (.Constant (.str i) j pos) (.str i):=PE.mono Ax fun _ H _ ⟨_,_,k⟩=>k _ H (.refl H) (.str i)
theorem cQ {x:Str}{n:String}{pos:Pos} (hg:Gl X x) (hm:X.mg x=none) (hv:EJ x=some (.type n)) (hn:x≠"__name__":=by decide) (hd:(x==("__debug__":Str))=false:=by decide):Ev X H0 O0 ps (.Name x pos) (.ty (.nm n)):=
 PE.mono (AW hg hm hv hn hd) fun _ H _ ⟨_,_,k⟩=>k _ H (.refl H) (.ty n)
theorem two {ta tb:TE}{σ:St}{H:Hp}{Q:VK}{O:List Addr}{r:R2} (R:Rs X.K H0 O0 ps σ H O)
  (ha:∀σ H Q,(∃O,Rs X.K H0 O0 ps σ H O∧∀v H',aK H H'→Rp X.K (hid H' O) v x→Q v H')→ta σ H Q) (hb:∀σ H Q,(∃O,Rs X.K H0 O0 ps σ H O∧∀v H',aK H H'→Rp X.K (hid H' O) v y→Q v H')→tb σ H Q)
  (h:∀v w H',aK H H'→Rs X.K H0 O0 ps σ H' O→Rp X.K (hid H' O) v x→Rp X.K (hid H' O) w y→r v w H' Q):tOp r ta tb σ H Q:=
 ha σ H _ ⟨O,R,fun v H1 s1 r1=>hb σ H1 _ ⟨O,R.go s1,fun w H2 s2 r2=>h v w H2 (s1.trans s2) (R.go (s1.trans s2)) (r1.same (bi s2)) r2⟩⟩
theorem zf {op:Ma}{g:Int→Int→Int} (ho:OpR X (Hd op) (rI0 fun i j=>.int (g i j))) (ha:Ev X H0 O0 ps a (.int i)) (hb:Ev X H0 O0 ps b (.int j)):Ev X H0 O0 ps (.BinOp a op b pos) (.int (g i j)):=
 PE.mono (vD ho ha hb) fun σ H Q ⟨O,R,k⟩=>two (x:=.int i) (y:=.int j) R (fun _ _ _ z=>z) (fun _ _ _ z=>z) fun v w H' s _ r1 r2=>by
  cases r1;cases r2;exact ⟨i,j,rfl,rfl,k _ H' s (.int _)⟩
theorem ny {op:Ma}{C:Int→Int→Prop}{g:Int→Int→Int} (ho:OpR X (Hd op) (rI C fun i j=>.int (g i j))) (ha:Ev X H0 O0 ps a (.int i)) (hb:Ev X H0 O0 ps b (.int j)) (hc:C i j):Ev X H0 O0 ps (.BinOp a op b pos) (.int (g i j)):=
 PE.mono (vD ho ha hb) fun σ H Q ⟨O,R,k⟩=>two (x:=.int i) (y:=.int j) R (fun _ _ _ z=>z) (fun _ _ _ z=>z) fun v w H' s _ r1 r2=>by
  cases r1;cases r2;exact ⟨i,j,rfl,rfl,hc,k _ H' s (.int _)⟩
theorem cu (ha:Ev X H0 O0 ps a (.int i)) (hb:Ev X H0 O0 ps b (.int j)):Ev X H0 O0 ps (.BinOp a .Add b pos) (.int (i+j)):=zf zt ha hb
theorem bD (ha:Ev X H0 O0 ps a (.int i)) (hb:Ev X H0 O0 ps b (.int j)):Ev X H0 O0 ps (.BinOp a .Sub b pos) (.int (i - j)):=zf zQ ha hb
theorem br (ha:Ev X H0 O0 ps a (.int i)) (hb:Ev X H0 O0 ps b (.int j)) (hc:IntMulOk i j):Ev X H0 O0 ps (.BinOp a .Mult b pos) (.int (i*j)):=ny xG ha hb hc
theorem fq (ha:Ev X H0 O0 ps a (.int i)) (hb:Ev X H0 O0 ps b (.int j)) (hc:y9 i j):Ev X H0 O0 ps (.BinOp a .FloorDiv b pos) (.int (i / j)):=ny uO ha hb hc
theorem zH (ha:Ev X H0 O0 ps a (.int i)) (hb:Ev X H0 O0 ps b (.int j)) (hc:zj i j):Ev X H0 O0 ps (.BinOp a .FloorDiv b pos) (.int (i.fdiv j)):=ny wa ha hb hc
theorem fm (ha:Ev X H0 O0 ps a (.int i)) (hb:Ev X H0 O0 ps b (.int j)) (hc:0 < j):Ev X H0 O0 ps (.BinOp a .Mod b pos) (.int (i % j)):=ny Ap ha hb hc
theorem qB (ha:Ev X H0 O0 ps a (.int i)) (hb:Ev X H0 O0 ps b (.int j)) (hc:Bl i j):Ev X H0 O0 ps (.BinOp a .Pow b pos) (.int (i ^ j.toNat)):=ny zN ha hb hc
theorem cR (ha:Ev X H0 O0 ps a (.int i)):Ev X H0 O0 ps (.UnaryOp .USub a pos) (.int (-i)):=
 PE.mono (AQ zG ha) fun σ H Q ⟨O,R,k⟩=>⟨O,R,fun v H' s r=>by cases r;exact ⟨i,rfl,k _ H' s (.int _)⟩⟩
end
mutual
def eqW:U→U→Bool
 | .non,.non=>true
 | .bl a,.bl b=>a==b
 | .bl a,.int j=>(if a then 1 else 0)==j
 | .int i,.bl b=>i==(if b then 1 else 0)
 | .int i,.int j=>i==j
 | .str a,.str b=>a==b
 | .tup xs,.tup ys=>eqWs xs ys
 | .lst xs,.lst ys=>eqWs xs ys
 | .lst xs,.scr ys=>eqWs xs ys
 | .scr xs,.lst ys=>eqWs xs ys
 | .scr xs,.scr ys=>eqWs xs ys
 |_,_=>false
def eqWs:List U→List U→Bool
 |[],[]=>true
 |x::xs,y::ys=>eqW x y && eqWs xs ys
 |_,_=>false
end
mutual
def okU:Nat→U→Bool
 |_,.ty _=>false
 |_,.dic=>false
 |0,.tup _=>false
 |0,.lst _=>false
 |0,.scr _=>false
 |n+1,.tup xs=>okUs n xs
 |n+1,.lst xs=>okUs n xs
 |n+1,.scr xs=>okUs n xs
 |_,_=>true
def okUs:Nat→List U→Bool
 |_,[]=>true
 |n,x::xs=>okU n x && okUs n xs
end
theorem jg:∀{n:Nat}{xs:List U}{i:Nat}{x:U},okUs n xs=true→xs[i]?=some x→okU n x=true
 |n,[],i,x,_,h=>by simp at h
 |n,y::xs,0,x,h,e=>by simp at e;subst e;simp[okUs] at h;exact h.1
 |n,y::xs,i+1,x,h,e=>by simp[okUs] at h;exact jg (i:=i) h.2 (by simpa using e)
theorem dl:∀(xs ys:List U),((Ds (min xs.length ys.length)).all (fun j=>eqW (xs.getD j .non) (ys.getD j .non)) && xs.length==ys.length)=eqWs xs ys
 |[],[]=>rfl
 |[],y::ys=>by simp[eqWs]
 |x::xs,[]=>by simp[eqWs]
 |x::xs,y::ys=>by
  have ih:=dl xs ys
  rw[eqWs,←ih]
  simp only[Dt,Nat.succ_min_succ]
  rw[List.range_succ_eq_map,GI,Mq]
  have e:((xs.length+1==ys.length+1))=(xs.length==ys.length):=by simp
  rw[e,Bool.and_assoc]
  rfl
theorem Rp.one {X:Cx}{pins:List (Addr×Obj)}{σ:St}{H:Hp}{s:B7} (I:Inv X pins σ H s) {v:V}{x:U} (h:Rp X.K H v x):∀{n:Nat}{y:U},Rp X.K H v y→okU n x=true→eqW x y=true:=by
 have key:∀{vs ws:List V}{xs ys:List U},vs=ws→vs.length=xs.length→ws.length=ys.length→(∀(i:Nat) (x y:U),xs[i]?=some x→ys[i]?=some y→eqW x y=true)→eqWs xs ys=true:=fun {vs ws xs ys} e h1 h2 hh=>by
  subst e
  rw[←dl,DL,kI]
  refine ⟨fun j hj=>?_,by simp[←h1,←h2]⟩
  have j1:j < xs.length:=by lia
  have j2:j < ys.length:=by lia
  rw[CC,B1 j1,CC,B1 j2]
  exact hh j _ _ (B1 j1) (B1 j2)
 have key2:∀{vs:List V}{xs ys:List U}{n:Nat},vs.length=xs.length→(∀(i:Nat) (v:V) (x:U),vs[i]?=some v→xs[i]?=some x→∀{n:Nat}{y:U},Rp X.K H v y→okU n x=true→eqW x y=true)→(∀(i:Nat) (v:V) (y:U),vs[i]?=some v→ys[i]?=some y→Rp X.K H v y)→okUs n xs=true→
   ∀(i:Nat) (x y:U),xs[i]?=some x→ys[i]?=some y→eqW x y=true:=fun {vs xs ys n} h1 ih hi ok i x y e1 e2=>by
  have hlt:i < vs.length:=by rw[h1];exact aF e1
  exact ih i _ x (B1 hlt) e1 (hi i _ y (B1 hlt) e2) (jg ok e1)
 induction h with
 |non=>intro n y q _;cases q;rfl
 |bl b=>intro n y q _;cases q;simp[eqW]
 |int i=>intro n y q _;cases q;simp[eqW]
 |str i=>intro n y q _;cases q;simp[eqW]
 |ty=>intro n y q ok;simp[okU] at ok
 |dic=>intro n y q ok;simp[okU] at ok
 |xc=>intro n y q ok;simp[okU] at ok
 | @scr a vs xs hq hl hi ih=>
  intro n y q ok
  cases n with
  |zero=>simp[okU] at ok
  |succ n=>
   rw[okU] at ok
   cases q with
   |scr hq' hl' hi'=>rw[eqW];have e:=I.list_inj hq hq';subst e;exact key rfl hl hl' (key2 hl (fun i v x a b=>ih i v x a b) hi' ok)
   |lst hq' hl' hi'=>rw[eqW];have e:=I.list_inj hq (SqL.of hq');subst e;exact key rfl hl hl' (key2 hl (fun i v x a b=>ih i v x a b) hi' ok)
   |xc hq' kk=>
    exfalso
    obtain ⟨_,_,pl,_⟩:=I.list hq
    obtain ⟨o,n,e,c,_⟩:=pl
    exact PySem.W.XcOk.off (I.hok _ _ hq').1 e c
   |dic hq'=>
    exfalso
    obtain ⟨_,_,pl,_⟩:=I.list hq
    obtain ⟨o,n,e,c,_⟩:=pl
    obtain ⟨_,_,_,_,o',_,_,e',ex,_⟩:=I.hok _ _ hq'
    rw[e] at e';cases e'
    rw[ex.1] at c;exact absurd (LA c) (by decide)
   |tup hq' hl' hi'=>
    exfalso
    obtain ⟨_,_,pl,_⟩:=I.list hq
    obtain ⟨_,_,pt,_⟩:=I.tuple hq'
    exact SeqAt.ne_of_list_tuple pl.isList pt rfl
 | @tup a vs xs hq hl hi ih=>
  intro n y q ok
  cases n with
  |zero=>simp[okU] at ok
  |succ n=>
   rw[okU] at ok
   cases q with
   |tup hq' hl' hi'=>rw[eqW];have e:=I.tuple_inj hq hq';subst e;exact key rfl hl hl' (key2 hl (fun i v x a b=>ih i v x a b) hi' ok)
   |scr hq' hl' hi'=>
    exfalso
    obtain ⟨_,_,pl,_⟩:=I.list hq'
    obtain ⟨_,_,pt,_⟩:=I.tuple hq
    exact SeqAt.ne_of_list_tuple pl.isList pt rfl
   |lst hq' hl' hi'=>
    exfalso
    obtain ⟨_,_,pl,_⟩:=I.list (SqL.of hq')
    obtain ⟨_,_,pt,_⟩:=I.tuple hq
    exact SeqAt.ne_of_list_tuple pl.isList pt rfl
   |xc hq' kk=>
    exfalso
    obtain ⟨_,_,pt,_⟩:=I.tuple hq
    obtain ⟨o,e,c,_⟩:=pt
    exact PySem.W.XcOk.off (I.hok _ _ hq').1 e c
   |dic hq'=>
    exfalso
    obtain ⟨_,_,pt,_⟩:=I.tuple hq
    obtain ⟨o,e,c,_⟩:=pt
    obtain ⟨_,_,_,_,o',_,_,e',ex,_⟩:=I.hok _ _ hq'
    rw[e] at e';cases e'
    rw[ex.1] at c;exact absurd (LA c) (by decide)
 | @lst a vs xs hq hl hi ih=>
  intro n y q ok
  cases n with
  |zero=>simp[okU] at ok
  |succ n=>
   rw[okU] at ok
   cases q with
   |lst hq' hl' hi'=>rw[eqW];have e:=I.list_inj (SqL.of hq) (SqL.of hq');subst e;exact key rfl hl hl' (key2 hl (fun i v x a b=>ih i v x a b) hi' ok)
   |scr hq' hl' hi'=>rw[eqW];have e:=I.list_inj (SqL.of hq) hq';subst e;exact key rfl hl hl' (key2 hl (fun i v x a b=>ih i v x a b) hi' ok)
   |tup hq' hl' hi'=>
    exfalso
    obtain ⟨_,_,pl,_⟩:=I.list (SqL.of hq)
    obtain ⟨_,_,pt,_⟩:=I.tuple hq'
    exact SeqAt.ne_of_list_tuple pl.isList pt rfl
   |xc hq' kk=>
    exfalso
    rw[hq] at hq';cases hq'
   |dic hq'=>
    exfalso
    rw[hq] at hq';cases hq'
theorem IsU.list {X:Cx}{pins:List (Addr×Obj)}{σ:St}{H:Hp}{s:B7} (I:Inv X pins σ H s) {a:Addr}{xs:List U}{vs:List V} (h:SqL X.K H a vs) (hl:vs.length=xs.length):∃its:List Value,aO vs its∧s.heap.IsList a its.toArray∧its.length=xs.length:=by
 obtain ⟨its,r,pl,_⟩:=I.list h
 exact ⟨its,r,pl.isList,by rw[←r.length,hl]⟩
theorem IsU.tup {X:Cx}{pins:List (Addr×Obj)}{σ:St}{H:Hp}{s:B7} (I:Inv X pins σ H s) {a:Addr}{xs:List U}{vs:List V} (h:SqT X.K H a vs) (hl:vs.length=xs.length):∃its:List Value,aO vs its∧IsTup s.heap a its.toArray∧its.length=xs.length:=by
 obtain ⟨its,r,pl,_⟩:=I.tuple h
 exact ⟨its,r,pl,by rw[←r.length,hl]⟩
section
variable {X:Cx}{pins:List (Addr×Obj)}{σ:St}{H:Hp}{s:B7}
theorem cy (I:Inv X pins σ H s) {n:Nat}{vs ws:List V}{xs ys:List U}{its its2:List Value} (r1:aO vs its) (r2:aO ws its2) (hl1:vs.length=xs.length) (hl2:ws.length=ys.length)
  (h1:∀(i:Nat) (v:V) (x:U),vs[i]?=some v→xs[i]?=some x→Rp X.K H v x) (h2:∀(i:Nat) (v:V) (x:U),ws[i]?=some v→ys[i]?=some x→Rp X.K H v x) (ok1:okUs n xs=true) (ok2:okUs n ys=true) {A:Dc}
  (rc0:∀(x y:U) (v w:V) (p q:Value),Rp X.K H v x→Rp X.K H w y→bg v p→bg w q→okU n x=true→okU n y=true→SeqAt.RcAt A.in1 s p q (eqW x y)) (hu:A.units+n+1 < cLine)
  (j:Nat) (j1:j < its.length) (j2:j < its2.length):SeqAt.EqAt A.in1 s its[j] its2[j] (eqW (xs.getD j .non) (ys.getD j .non)):=by
 have a1:j < vs.length:=by rw[r1.length];exact j1
 have a2:j < ws.length:=by rw[r2.length];exact j2
 have b1:j < xs.length:=by lia
 have b2:j < ys.length:=by lia
 rw[CC,B1 b1,CC,B1 b2,FI,FI]
 have R1:=h1 j vs[j] xs[j] (B1 a1) (B1 b1)
 have R2:=h2 j ws[j] ys[j] (B1 a2) (B1 b2)
 obtain ⟨u1,e1,q1⟩:=r1.get (B1 a1)
 obtain ⟨u2,e2,q2⟩:=r2.get (B1 a2)
 rw[B1 j1] at e1
 rw[B1 j2] at e2
 cases e1;cases e2
 have o1:=jg ok1 (B1 b1)
 have o2:=jg ok2 (B1 b2)
 generalize vs[j]=v at *
 generalize ws[j]=w at *
 generalize its[j]=p at *
 generalize its2[j]=q at *
 generalize xs[j]=x at *
 generalize ys[j]=y at *
 have main:=rc0 x y v w p q R1 R2 q1 q2 o1 o2
 have ref_ref:∀(a b:Addr),p=.ref a→q=.ref b→SeqAt.EqAt A.in1 s p q (eqW x y):=fun a b ea eb=>by
  subst ea eb
  by_cases e:a=b
  ·subst e
   have e2:v=w:=q1.inj q2
   subst e2
   rw[R1.one I R2 o1]
   exact SeqAt.EqAt.same _
  ·exact SeqAt.EqAt.of_refs e main
 have hu1:A.in1.units < cLine:=by show A.units+1 < _;lia
 cases R1 with
 |non=>
  cases (show p=CO from q1)
  cases R2 with
  |non=>cases (show q=CO from q2);exact SeqAt.EqAt.same _
  |bl b=>cases (show q=Dk b from q2);exact SeqAt.EqAt.none_bool b
  |int i=>obtain ⟨t,rfl⟩:=(show ∃t,q=Dh i t from q2);exact SeqAt.EqAt.none_int i t
  |str i=>obtain ⟨t,rfl⟩:=(show ∃t,q=DA i t from q2);exact SeqAt.EqAt.none_str i t
  |ty=>simp[okU] at o2
  |dic=>simp[okU] at o2
  |xc=>simp[okU] at o2
  |scr hq hl hi=>cases q2;obtain ⟨_,_,pl,_⟩:=IsU.list I hq hl;exact SeqAt.EqAt.none_list pl hu1
  |tup hq hl hi=>cases q2;obtain ⟨_,_,pl,_⟩:=IsU.tup I hq hl;exact SeqAt.EqAt.none_tuple pl hu1
  |lst hq hl hi=>cases q2;obtain ⟨_,_,pl,_⟩:=IsU.list I (SqL.of hq) hl;exact SeqAt.EqAt.none_list pl hu1
 |bl c=>
  cases (show p=Dk c from q1)
  cases R2 with
  |non=>cases (show q=CO from q2);exact SeqAt.EqAt.bool_none c
  |bl b=>cases (show q=Dk b from q2);exact SeqAt.EqAt.bool_bool c b
  |int i=>obtain ⟨t,rfl⟩:=(show ∃t,q=Dh i t from q2);exact SeqAt.EqAt.bool_int c i t
  |str i=>obtain ⟨t,rfl⟩:=(show ∃t,q=DA i t from q2);exact SeqAt.EqAt.bool_str c i t
  |ty=>simp[okU] at o2
  |dic=>simp[okU] at o2
  |xc=>simp[okU] at o2
  |scr hq hl hi=>cases q2;obtain ⟨_,_,pl,_⟩:=IsU.list I hq hl;exact SeqAt.EqAt.bool_list c pl hu1
  |tup hq hl hi=>cases q2;obtain ⟨_,_,pl,_⟩:=IsU.tup I hq hl;exact SeqAt.EqAt.bool_tuple c pl hu1
  |lst hq hl hi=>cases q2;obtain ⟨_,_,pl,_⟩:=IsU.list I (SqL.of hq) hl;exact SeqAt.EqAt.bool_list c pl hu1
 |int c=>
  obtain ⟨t0,rfl⟩:=(show ∃t,p=Dh c t from q1)
  cases R2 with
  |non=>cases (show q=CO from q2);exact SeqAt.EqAt.int_none c t0
  |bl b=>cases (show q=Dk b from q2);exact SeqAt.EqAt.int_bool c t0 b
  |int i=>obtain ⟨t,rfl⟩:=(show ∃t,q=Dh i t from q2);exact SeqAt.EqAt.int_int c t0 i t
  |str i=>obtain ⟨t,rfl⟩:=(show ∃t,q=DA i t from q2);exact SeqAt.EqAt.int_str c t0 i t
  |ty=>simp[okU] at o2
  |dic=>simp[okU] at o2
  |xc=>simp[okU] at o2
  |scr hq hl hi=>cases q2;obtain ⟨_,_,pl,_⟩:=IsU.list I hq hl;exact SeqAt.EqAt.int_list c t0 pl hu1
  |tup hq hl hi=>cases q2;obtain ⟨_,_,pl,_⟩:=IsU.tup I hq hl;exact SeqAt.EqAt.int_tuple c t0 pl hu1
  |lst hq hl hi=>cases q2;obtain ⟨_,_,pl,_⟩:=IsU.list I (SqL.of hq) hl;exact SeqAt.EqAt.int_list c t0 pl hu1
 |str c=>
  obtain ⟨t0,rfl⟩:=(show ∃t,p=DA c t from q1)
  cases R2 with
  |non=>cases (show q=CO from q2);exact SeqAt.EqAt.str_none c t0
  |bl b=>cases (show q=Dk b from q2);exact SeqAt.EqAt.str_bool c t0 b
  |int i=>obtain ⟨t,rfl⟩:=(show ∃t,q=Dh i t from q2);exact SeqAt.EqAt.str_int c t0 i t
  |str i=>obtain ⟨t,rfl⟩:=(show ∃t,q=DA i t from q2);exact SeqAt.EqAt.str_str c t0 i t
  |ty=>simp[okU] at o2
  |dic=>simp[okU] at o2
  |xc=>simp[okU] at o2
  |scr hq hl hi=>cases q2;obtain ⟨_,_,pl,_⟩:=IsU.list I hq hl;exact SeqAt.EqAt.str_list c t0 pl hu1
  |tup hq hl hi=>cases q2;obtain ⟨_,_,pl,_⟩:=IsU.tup I hq hl;exact SeqAt.EqAt.str_tuple c t0 pl hu1
  |lst hq hl hi=>cases q2;obtain ⟨_,_,pl,_⟩:=IsU.list I (SqL.of hq) hl;exact SeqAt.EqAt.str_list c t0 pl hu1
 |ty=>simp[okU] at o1
 |dic=>simp[okU] at o1
 |xc=>simp[okU] at o1
 | @scr a vs xs hq hl hi=>
  cases q1
  obtain ⟨_,_,pl,_⟩:=IsU.list I hq hl
  cases R2 with
  |non=>cases (show q=CO from q2);exact SeqAt.EqAt.list_none pl hu1
  |bl b=>cases (show q=Dk b from q2);exact SeqAt.EqAt.list_bool b pl hu1
  |int i=>obtain ⟨t,rfl⟩:=(show ∃t,q=Dh i t from q2);exact SeqAt.EqAt.list_int i t pl hu1
  |str i=>obtain ⟨t,rfl⟩:=(show ∃t,q=DA i t from q2);exact SeqAt.EqAt.list_str i t pl hu1
  |ty=>simp[okU] at o2
  |dic=>simp[okU] at o2
  |xc=>simp[okU] at o2
  |scr=>exact ref_ref _ _ rfl q2
  |tup=>exact ref_ref _ _ rfl q2
  |lst=>exact ref_ref _ _ rfl q2
 | @lst a vs xs hq hl hi=>
  cases q1
  obtain ⟨_,_,pl,_⟩:=IsU.list I (SqL.of hq) hl
  cases R2 with
  |non=>cases (show q=CO from q2);exact SeqAt.EqAt.list_none pl hu1
  |bl b=>cases (show q=Dk b from q2);exact SeqAt.EqAt.list_bool b pl hu1
  |int i=>obtain ⟨t,rfl⟩:=(show ∃t,q=Dh i t from q2);exact SeqAt.EqAt.list_int i t pl hu1
  |str i=>obtain ⟨t,rfl⟩:=(show ∃t,q=DA i t from q2);exact SeqAt.EqAt.list_str i t pl hu1
  |ty=>simp[okU] at o2
  |dic=>simp[okU] at o2
  |xc=>simp[okU] at o2
  |scr=>exact ref_ref _ _ rfl q2
  |tup=>exact ref_ref _ _ rfl q2
  |lst=>exact ref_ref _ _ rfl q2
 | @tup a vs xs hq hl hi=>
  cases q1
  obtain ⟨_,_,pl,_⟩:=IsU.tup I hq hl
  cases R2 with
  |non=>cases (show q=CO from q2);exact SeqAt.EqAt.tuple_none pl hu1
  |bl b=>cases (show q=Dk b from q2);exact SeqAt.EqAt.tuple_bool b pl hu1
  |int i=>obtain ⟨t,rfl⟩:=(show ∃t,q=Dh i t from q2);exact SeqAt.EqAt.tuple_int i t pl hu1
  |str i=>obtain ⟨t,rfl⟩:=(show ∃t,q=DA i t from q2);exact SeqAt.EqAt.tuple_str i t pl hu1
  |ty=>simp[okU] at o2
  |dic=>simp[okU] at o2
  |xc=>simp[okU] at o2
  |scr=>exact ref_ref _ _ rfl q2
  |tup=>exact ref_ref _ _ rfl q2
  |lst=>exact ref_ref _ _ rfl q2
theorem hG {A:Dc}{n:Nat}{a b:Addr}{xs ys:List U}{its its2:List Value} (p1:s.heap.IsList a its.toArray) (p2:s.heap.IsList b its2.toArray) (l1:its.length=xs.length) (l2:its2.length=ys.length) (hu:A.units+n < cLine)
  (he:∀(j:Nat) (j1:j < its.length) (j2:j < its2.length),SeqAt.EqAt A.in1 s its[j] its2[j] (eqW (xs.getD j .non) (ys.getD j .non))):SeqAt.RcAt A s (.ref a) (.ref b) (eqWs xs ys):=by
 by_cases hl:its.length=its2.length
 ·have:=SeqAt.RcAt.lists (A:=A) (s:=s) (e:=fun j=>eqW (xs.getD j .non) (ys.getD j .non)) p1 p2 (by simpa using hl) (by lia) (fun j h1 h2=>by simpa using he j (by simpa using h1) (by simpa using h2))
  rw[←dl,←l1,←l2,hl,Mr,beq_self_eq_true,GK]
  rwa [Cp,hl] at this
 ·have:=SeqAt.RcAt.lists_lengths (A:=A) (s:=s) p1 p2 (by simpa using hl) (by lia)
  rw[←dl,←l1,←l2,show (its.length==its2.length)=false by simpa using hl,Ic]
  exact this
theorem xf {A:Dc}{n:Nat}{a b:Addr}{xs ys:List U}{its its2:List Value} (p1:IsTup s.heap a its.toArray) (p2:IsTup s.heap b its2.toArray) (l1:its.length=xs.length) (l2:its2.length=ys.length) (hu:A.units+n < cLine)
  (he:∀(j:Nat) (j1:j < its.length) (j2:j < its2.length),SeqAt.EqAt A.in1 s its[j] its2[j] (eqW (xs.getD j .non) (ys.getD j .non))):SeqAt.RcAt A s (.ref a) (.ref b) (eqWs xs ys):=by
 have:=SeqAt.RcAt.tuples (A:=A) (s:=s) (e:=fun j=>eqW (xs.getD j .non) (ys.getD j .non)) p1 p2 (by lia) (fun j h1 h2=>by simpa using he j (by simpa using h1) (by simpa using h2))
 rw[Cp,Cp,l1,l2,dl] at this
 exact this
theorem Bj (I:Inv X pins σ H s):∀(n:Nat) (A:Dc) (x y:U) (v w:V) (p q:Value),Rp X.K H v x→Rp X.K H w y→bg v p→bg w q→okU n x=true→okU n y=true→A.units+n < cLine→SeqAt.RcAt A s p q (eqW x y):=by
 intro n
 induction n with
 |zero=>
  intro A x y v w p q R1 R2 q1 q2 o1 o2 hu
  cases R1 with
  |non=>
   cases (show p=CO from q1)
   cases R2 with
   |non=>cases (show q=CO from q2);exact SeqAt.RcAt.none_none
   |bl b=>cases (show q=Dk b from q2);exact SeqAt.RcAt.none_bool b
   |int i=>obtain ⟨t,rfl⟩:=(show ∃t,q=Dh i t from q2);exact SeqAt.RcAt.none_int i t
   |str i=>obtain ⟨t,rfl⟩:=(show ∃t,q=DA i t from q2);exact SeqAt.RcAt.none_str i t
   |_=>simp[okU] at o2
  |bl c=>
   cases (show p=Dk c from q1)
   cases R2 with
   |non=>cases (show q=CO from q2);exact SeqAt.RcAt.bool_none c
   |bl b=>cases (show q=Dk b from q2);exact SeqAt.RcAt.bool_bool c b
   |int i=>obtain ⟨t,rfl⟩:=(show ∃t,q=Dh i t from q2);exact SeqAt.RcAt.bool_int c i t
   |str i=>obtain ⟨t,rfl⟩:=(show ∃t,q=DA i t from q2);exact SeqAt.RcAt.bool_str c i t
   |_=>simp[okU] at o2
  |int c=>
   obtain ⟨t0,rfl⟩:=(show ∃t,p=Dh c t from q1)
   cases R2 with
   |non=>cases (show q=CO from q2);exact SeqAt.RcAt.int_none c t0
   |bl b=>cases (show q=Dk b from q2);exact SeqAt.RcAt.int_bool c t0 b
   |int i=>obtain ⟨t,rfl⟩:=(show ∃t,q=Dh i t from q2);exact SeqAt.RcAt.int_int c t0 i t
   |str i=>obtain ⟨t,rfl⟩:=(show ∃t,q=DA i t from q2);exact SeqAt.RcAt.int_str c t0 i t
   |_=>simp[okU] at o2
  |str c=>
   obtain ⟨t0,rfl⟩:=(show ∃t,p=DA c t from q1)
   cases R2 with
   |non=>cases (show q=CO from q2);exact SeqAt.RcAt.str_none c t0
   |bl b=>cases (show q=Dk b from q2);exact SeqAt.RcAt.str_bool c t0 b
   |int i=>obtain ⟨t,rfl⟩:=(show ∃t,q=Dh i t from q2);exact SeqAt.RcAt.str_int c t0 i t
   |str i=>obtain ⟨t,rfl⟩:=(show ∃t,q=DA i t from q2);exact SeqAt.RcAt.str_str c t0 i t
   |_=>simp[okU] at o2
  |_=>simp[okU] at o1
 |succ n ih=>
  intro A x y v w p q R1 R2 q1 q2 o1 o2 hu
  have hu1:A.units < cLine:=by lia
  have rc0:∀(x y:U) (v w:V) (p q:Value),Rp X.K H v x→Rp X.K H w y→bg v p→bg w q→okU n x=true→okU n y=true→SeqAt.RcAt A.in1 s p q (eqW x y):=fun x y v w p q r1 r2 k1 k2 z1 z2=>ih A.in1 x y v w p q r1 r2 k1 k2 z1 z2 (by show A.units+1+n < _;lia)
  cases R1 with
  |non=>
   cases (show p=CO from q1)
   cases R2 with
   |non=>cases (show q=CO from q2);exact SeqAt.RcAt.none_none
   |bl b=>cases (show q=Dk b from q2);exact SeqAt.RcAt.none_bool b
   |int i=>obtain ⟨t,rfl⟩:=(show ∃t,q=Dh i t from q2);exact SeqAt.RcAt.none_int i t
   |str i=>obtain ⟨t,rfl⟩:=(show ∃t,q=DA i t from q2);exact SeqAt.RcAt.none_str i t
   |ty=>simp[okU] at o2
   |dic=>simp[okU] at o2
   |xc=>simp[okU] at o2
   |scr hq hl hi=>cases q2;obtain ⟨_,_,pl,_⟩:=IsU.list I hq hl;exact SeqAt.RcAt.none_list pl hu1
   |tup hq hl hi=>cases q2;obtain ⟨_,_,pl,_⟩:=IsU.tup I hq hl;exact SeqAt.RcAt.none_tuple pl hu1
   |lst hq hl hi=>cases q2;obtain ⟨_,_,pl,_⟩:=IsU.list I (SqL.of hq) hl;exact SeqAt.RcAt.none_list pl hu1
  |bl c=>
   cases (show p=Dk c from q1)
   cases R2 with
   |non=>cases (show q=CO from q2);exact SeqAt.RcAt.bool_none c
   |bl b=>cases (show q=Dk b from q2);exact SeqAt.RcAt.bool_bool c b
   |int i=>obtain ⟨t,rfl⟩:=(show ∃t,q=Dh i t from q2);exact SeqAt.RcAt.bool_int c i t
   |str i=>obtain ⟨t,rfl⟩:=(show ∃t,q=DA i t from q2);exact SeqAt.RcAt.bool_str c i t
   |ty=>simp[okU] at o2
   |dic=>simp[okU] at o2
   |xc=>simp[okU] at o2
   |scr hq hl hi=>cases q2;obtain ⟨_,_,pl,_⟩:=IsU.list I hq hl;exact SeqAt.RcAt.bool_list c pl hu1
   |tup hq hl hi=>cases q2;obtain ⟨_,_,pl,_⟩:=IsU.tup I hq hl;exact SeqAt.RcAt.bool_tuple c pl hu1
   |lst hq hl hi=>cases q2;obtain ⟨_,_,pl,_⟩:=IsU.list I (SqL.of hq) hl;exact SeqAt.RcAt.bool_list c pl hu1
  |int c=>
   obtain ⟨t0,rfl⟩:=(show ∃t,p=Dh c t from q1)
   cases R2 with
   |non=>cases (show q=CO from q2);exact SeqAt.RcAt.int_none c t0
   |bl b=>cases (show q=Dk b from q2);exact SeqAt.RcAt.int_bool c t0 b
   |int i=>obtain ⟨t,rfl⟩:=(show ∃t,q=Dh i t from q2);exact SeqAt.RcAt.int_int c t0 i t
   |str i=>obtain ⟨t,rfl⟩:=(show ∃t,q=DA i t from q2);exact SeqAt.RcAt.int_str c t0 i t
   |ty=>simp[okU] at o2
   |dic=>simp[okU] at o2
   |xc=>simp[okU] at o2
   |scr hq hl hi=>cases q2;obtain ⟨_,_,pl,_⟩:=IsU.list I hq hl;exact SeqAt.RcAt.int_list c t0 pl hu1
   |tup hq hl hi=>cases q2;obtain ⟨_,_,pl,_⟩:=IsU.tup I hq hl;exact SeqAt.RcAt.int_tuple c t0 pl hu1
   |lst hq hl hi=>cases q2;obtain ⟨_,_,pl,_⟩:=IsU.list I (SqL.of hq) hl;exact SeqAt.RcAt.int_list c t0 pl hu1
  |str c=>
   obtain ⟨t0,rfl⟩:=(show ∃t,p=DA c t from q1)
   cases R2 with
   |non=>cases (show q=CO from q2);exact SeqAt.RcAt.str_none c t0
   |bl b=>cases (show q=Dk b from q2);exact SeqAt.RcAt.str_bool c t0 b
   |int i=>obtain ⟨t,rfl⟩:=(show ∃t,q=Dh i t from q2);exact SeqAt.RcAt.str_int c t0 i t
   |str i=>obtain ⟨t,rfl⟩:=(show ∃t,q=DA i t from q2);exact SeqAt.RcAt.str_str c t0 i t
   |ty=>simp[okU] at o2
   |dic=>simp[okU] at o2
   |xc=>simp[okU] at o2
   |scr hq hl hi=>cases q2;obtain ⟨_,_,pl,_⟩:=IsU.list I hq hl;exact SeqAt.RcAt.str_list c t0 pl hu1
   |tup hq hl hi=>cases q2;obtain ⟨_,_,pl,_⟩:=IsU.tup I hq hl;exact SeqAt.RcAt.str_tuple c t0 pl hu1
   |lst hq hl hi=>cases q2;obtain ⟨_,_,pl,_⟩:=IsU.list I (SqL.of hq) hl;exact SeqAt.RcAt.str_list c t0 pl hu1
  |ty=>simp[okU] at o1
  |dic=>simp[okU] at o1
  |xc=>simp[okU] at o1
  | @scr a vs xs hq hl hi=>
   cases q1
   obtain ⟨its,r1,pl,l1⟩:=IsU.list I hq hl
   rw[okU] at o1
   cases R2 with
   |non=>cases (show q=CO from q2);exact SeqAt.RcAt.list_none pl hu1
   |bl b=>cases (show q=Dk b from q2);exact SeqAt.RcAt.list_bool b pl hu1
   |int i=>obtain ⟨t,rfl⟩:=(show ∃t,q=Dh i t from q2);exact SeqAt.RcAt.list_int i t pl hu1
   |str i=>obtain ⟨t,rfl⟩:=(show ∃t,q=DA i t from q2);exact SeqAt.RcAt.list_str i t pl hu1
   |ty=>simp[okU] at o2
   |dic=>simp[okU] at o2
   |xc=>simp[okU] at o2
   |scr hq' hl' hi'=>cases q2;rw[okU] at o2;obtain ⟨its2,r2,pl2,l2⟩:=IsU.list I hq' hl';rw[eqW];exact hG pl pl2 l1 l2 hu (cy I r1 r2 hl hl' hi hi' o1 o2 rc0 (by lia))
   |lst hq' hl' hi'=>cases q2;rw[okU] at o2;obtain ⟨its2,r2,pl2,l2⟩:=IsU.list I (SqL.of hq') hl';rw[eqW];exact hG pl pl2 l1 l2 hu (cy I r1 r2 hl hl' hi hi' o1 o2 rc0 (by lia))
   |tup hq' hl' hi'=>cases q2;obtain ⟨its2,r2,pl2,l2⟩:=IsU.tup I hq' hl';exact SeqAt.RcAt.list_tuple pl pl2 hu1
  | @lst a vs xs hq hl hi=>
   cases q1
   obtain ⟨its,r1,pl,l1⟩:=IsU.list I (SqL.of hq) hl
   rw[okU] at o1
   cases R2 with
   |non=>cases (show q=CO from q2);exact SeqAt.RcAt.list_none pl hu1
   |bl b=>cases (show q=Dk b from q2);exact SeqAt.RcAt.list_bool b pl hu1
   |int i=>obtain ⟨t,rfl⟩:=(show ∃t,q=Dh i t from q2);exact SeqAt.RcAt.list_int i t pl hu1
   |str i=>obtain ⟨t,rfl⟩:=(show ∃t,q=DA i t from q2);exact SeqAt.RcAt.list_str i t pl hu1
   |ty=>simp[okU] at o2
   |dic=>simp[okU] at o2
   |xc=>simp[okU] at o2
   |scr hq' hl' hi'=>cases q2;rw[okU] at o2;obtain ⟨its2,r2,pl2,l2⟩:=IsU.list I hq' hl';rw[eqW];exact hG pl pl2 l1 l2 hu (cy I r1 r2 hl hl' hi hi' o1 o2 rc0 (by lia))
   |lst hq' hl' hi'=>cases q2;rw[okU] at o2;obtain ⟨its2,r2,pl2,l2⟩:=IsU.list I (SqL.of hq') hl';rw[eqW];exact hG pl pl2 l1 l2 hu (cy I r1 r2 hl hl' hi hi' o1 o2 rc0 (by lia))
   |tup hq' hl' hi'=>cases q2;obtain ⟨its2,r2,pl2,l2⟩:=IsU.tup I hq' hl';exact SeqAt.RcAt.list_tuple pl pl2 hu1
  | @tup a vs xs hq hl hi=>
   cases q1
   obtain ⟨its,r1,pl,l1⟩:=IsU.tup I hq hl
   rw[okU] at o1
   cases R2 with
   |non=>cases (show q=CO from q2);exact SeqAt.RcAt.tuple_none pl hu1
   |bl b=>cases (show q=Dk b from q2);exact SeqAt.RcAt.tuple_bool b pl hu1
   |int i=>obtain ⟨t,rfl⟩:=(show ∃t,q=Dh i t from q2);exact SeqAt.RcAt.tuple_int i t pl hu1
   |str i=>obtain ⟨t,rfl⟩:=(show ∃t,q=DA i t from q2);exact SeqAt.RcAt.tuple_str i t pl hu1
   |ty=>simp[okU] at o2
   |dic=>simp[okU] at o2
   |xc=>simp[okU] at o2
   |scr hq' hl' hi'=>cases q2;obtain ⟨its2,r2,pl2,l2⟩:=IsU.list I hq' hl';exact SeqAt.RcAt.tuple_list pl pl2 hu1
   |lst hq' hl' hi'=>cases q2;obtain ⟨its2,r2,pl2,l2⟩:=IsU.list I (SqL.of hq') hl';exact SeqAt.RcAt.tuple_list pl pl2 hu1
   |tup hq' hl' hi'=>cases q2;rw[okU] at o2;obtain ⟨its2,r2,pl2,l2⟩:=IsU.tup I hq' hl';rw[eqW];exact xf pl pl2 l1 l2 hu (cy I r1 r2 hl hl' hi hi' o1 o2 rc0 (by lia))
end
section
variable {X:Cx}{pins:List (Addr×Obj)}{σ:St}{H:Hp}{s:B7}
theorem e6 {A:Dc}{n:Nat}{a b:Addr}{xs ys:List U}{its its2:List Value} (p1:s.heap.IsList a its.toArray) (p2:s.heap.IsList b its2.toArray) (l1:its.length=xs.length) (l2:its2.length=ys.length) (hu:A.units+n < cLine)
  (he:∀(j:Nat) (j1:j < its.length) (j2:j < its2.length),SeqAt.EqAt A.in1 s its[j] its2[j] (eqW (xs.getD j .non) (ys.getD j .non))):SeqAt.RcNeAt A s (.ref a) (.ref b) (!eqWs xs ys):=by
 by_cases hl:its.length=its2.length
 ·have:=SeqAt.RcNeAt.lists (A:=A) (s:=s) (e:=fun j=>eqW (xs.getD j .non) (ys.getD j .non)) p1 p2 (by simpa using hl) (by lia) (fun j h1 h2=>by simpa using he j (by simpa using h1) (by simpa using h2))
  rw[←dl,←l1,←l2,hl,Mr,beq_self_eq_true,GK]
  rwa [Cp,hl] at this
 ·have:=SeqAt.RcNeAt.lists_lengths (A:=A) (s:=s) p1 p2 (by simpa using hl) (by lia)
  rw[←dl,←l1,←l2,show (its.length==its2.length)=false by simpa using hl,Ic]
  exact this
theorem t7 {A:Dc}{n:Nat}{a b:Addr}{xs ys:List U}{its its2:List Value} (p1:IsTup s.heap a its.toArray) (p2:IsTup s.heap b its2.toArray) (l1:its.length=xs.length) (l2:its2.length=ys.length) (hu:A.units+n < cLine)
  (he:∀(j:Nat) (j1:j < its.length) (j2:j < its2.length),SeqAt.EqAt A.in1 s its[j] its2[j] (eqW (xs.getD j .non) (ys.getD j .non))):SeqAt.RcNeAt A s (.ref a) (.ref b) (!eqWs xs ys):=by
 have:=SeqAt.RcNeAt.tuples (A:=A) (s:=s) (e:=fun j=>eqW (xs.getD j .non) (ys.getD j .non)) p1 p2 (by lia) (fun j h1 h2=>by simpa using he j (by simpa using h1) (by simpa using h2))
 rw[Cp,Cp,l1,l2,dl] at this
 exact this
theorem Al (I:Inv X pins σ H s) (n:Nat) (A:Dc) (x y:U) (v w:V) (p q:Value) (R1:Rp X.K H v x) (R2:Rp X.K H w y) (q1:bg v p) (q2:bg w q) (o1:okU (n+1) x=true) (o2:okU (n+1) y=true) (hu:A.units+(n+1) < cLine):SeqAt.RcNeAt A s p q (!eqW x y):=by
 have hu1:A.units < cLine:=by lia
 have rc0:∀(x y:U) (v w:V) (p q:Value),Rp X.K H v x→Rp X.K H w y→bg v p→bg w q→okU n x=true→okU n y=true→SeqAt.RcAt A.in1 s p q (eqW x y):=fun x y v w p q r1 r2 k1 k2 z1 z2=>Bj I n A.in1 x y v w p q r1 r2 k1 k2 z1 z2 (by show A.units+1+n < _;lia)
 cases R1 with
 |ty=>simp[okU] at o1
 |dic=>simp[okU] at o1
 |xc=>simp[okU] at o1
 |non=>
  cases (show p=CO from q1)
  cases R2 with
  |ty=>simp[okU] at o2
  |dic=>simp[okU] at o2
  |xc=>simp[okU] at o2
  |non=>cases (show q=CO from q2);exact SeqAt.RcNeAt.none_none
  |bl c2=>cases (show q=Dk c2 from q2);exact SeqAt.RcNeAt.none_bool c2
  |int c2=>obtain ⟨t2,rfl⟩:=(show ∃t,q=Dh c2 t from q2);exact SeqAt.RcNeAt.none_int c2 t2
  |str c2=>obtain ⟨t2,rfl⟩:=(show ∃t,q=DA c2 t from q2);exact SeqAt.RcNeAt.none_str c2 t2
  |scr hq2 hl2 hi2=>cases q2;obtain ⟨its2,r2,pl2,l2⟩:=IsU.list I hq2 hl2;exact SeqAt.RcNeAt.none_list pl2 hu1
  |tup hq2 hl2 hi2=>cases q2;obtain ⟨its2,r2,pl2,l2⟩:=IsU.tup I hq2 hl2;exact SeqAt.RcNeAt.none_tuple pl2 hu1
  |lst hq2 hl2 hi2=>cases q2;obtain ⟨its2,r2,pl2,l2⟩:=IsU.list I (SqL.of hq2) hl2;exact SeqAt.RcNeAt.none_list pl2 hu1
 |bl c1=>
  cases (show p=Dk c1 from q1)
  cases R2 with
  |ty=>simp[okU] at o2
  |dic=>simp[okU] at o2
  |xc=>simp[okU] at o2
  |non=>cases (show q=CO from q2);exact SeqAt.RcNeAt.bool_none c1
  |bl c2=>cases (show q=Dk c2 from q2);exact SeqAt.RcNeAt.bool_bool c1 c2
  |int c2=>obtain ⟨t2,rfl⟩:=(show ∃t,q=Dh c2 t from q2);exact SeqAt.RcNeAt.bool_int c1 c2 t2
  |str c2=>obtain ⟨t2,rfl⟩:=(show ∃t,q=DA c2 t from q2);exact SeqAt.RcNeAt.bool_str c1 c2 t2
  |scr hq2 hl2 hi2=>cases q2;obtain ⟨its2,r2,pl2,l2⟩:=IsU.list I hq2 hl2;exact SeqAt.RcNeAt.bool_list c1 pl2 hu1
  |tup hq2 hl2 hi2=>cases q2;obtain ⟨its2,r2,pl2,l2⟩:=IsU.tup I hq2 hl2;exact SeqAt.RcNeAt.bool_tuple c1 pl2 hu1
  |lst hq2 hl2 hi2=>cases q2;obtain ⟨its2,r2,pl2,l2⟩:=IsU.list I (SqL.of hq2) hl2;exact SeqAt.RcNeAt.bool_list c1 pl2 hu1
 |int c1=>
  obtain ⟨t1,rfl⟩:=(show ∃t,p=Dh c1 t from q1)
  cases R2 with
  |ty=>simp[okU] at o2
  |dic=>simp[okU] at o2
  |xc=>simp[okU] at o2
  |non=>cases (show q=CO from q2);exact SeqAt.RcNeAt.int_none c1 t1
  |bl c2=>cases (show q=Dk c2 from q2);exact SeqAt.RcNeAt.int_bool c1 t1 c2
  |int c2=>obtain ⟨t2,rfl⟩:=(show ∃t,q=Dh c2 t from q2);exact SeqAt.RcNeAt.int_int c1 t1 c2 t2
  |str c2=>obtain ⟨t2,rfl⟩:=(show ∃t,q=DA c2 t from q2);exact SeqAt.RcNeAt.int_str c1 t1 c2 t2
  |scr hq2 hl2 hi2=>cases q2;obtain ⟨its2,r2,pl2,l2⟩:=IsU.list I hq2 hl2;exact SeqAt.RcNeAt.int_list c1 t1 pl2 hu1
  |tup hq2 hl2 hi2=>cases q2;obtain ⟨its2,r2,pl2,l2⟩:=IsU.tup I hq2 hl2;exact SeqAt.RcNeAt.int_tuple c1 t1 pl2 hu1
  |lst hq2 hl2 hi2=>cases q2;obtain ⟨its2,r2,pl2,l2⟩:=IsU.list I (SqL.of hq2) hl2;exact SeqAt.RcNeAt.int_list c1 t1 pl2 hu1
 |str c1=>
  obtain ⟨t1,rfl⟩:=(show ∃t,p=DA c1 t from q1)
  cases R2 with
  |ty=>simp[okU] at o2
  |dic=>simp[okU] at o2
  |xc=>simp[okU] at o2
  |non=>cases (show q=CO from q2);exact SeqAt.RcNeAt.str_none c1 t1
  |bl c2=>cases (show q=Dk c2 from q2);exact SeqAt.RcNeAt.str_bool c1 t1 c2
  |int c2=>obtain ⟨t2,rfl⟩:=(show ∃t,q=Dh c2 t from q2);exact SeqAt.RcNeAt.str_int c1 t1 c2 t2
  |str c2=>obtain ⟨t2,rfl⟩:=(show ∃t,q=DA c2 t from q2);exact SeqAt.RcNeAt.str_str c1 t1 c2 t2
  |scr hq2 hl2 hi2=>cases q2;obtain ⟨its2,r2,pl2,l2⟩:=IsU.list I hq2 hl2;exact SeqAt.RcNeAt.str_list c1 t1 pl2 hu1
  |tup hq2 hl2 hi2=>cases q2;obtain ⟨its2,r2,pl2,l2⟩:=IsU.tup I hq2 hl2;exact SeqAt.RcNeAt.str_tuple c1 t1 pl2 hu1
  |lst hq2 hl2 hi2=>cases q2;obtain ⟨its2,r2,pl2,l2⟩:=IsU.list I (SqL.of hq2) hl2;exact SeqAt.RcNeAt.str_list c1 t1 pl2 hu1
 |scr hq1 hl1 hi1=>
  cases q1;obtain ⟨its1,r1,pl1,l1⟩:=IsU.list I hq1 hl1
  cases R2 with
  |ty=>simp[okU] at o2
  |dic=>simp[okU] at o2
  |xc=>simp[okU] at o2
  |non=>cases (show q=CO from q2);exact SeqAt.RcNeAt.list_none pl1 hu1
  |bl c2=>cases (show q=Dk c2 from q2);exact SeqAt.RcNeAt.list_bool c2 pl1 hu1
  |int c2=>obtain ⟨t2,rfl⟩:=(show ∃t,q=Dh c2 t from q2);exact SeqAt.RcNeAt.list_int c2 t2 pl1 hu1
  |str c2=>obtain ⟨t2,rfl⟩:=(show ∃t,q=DA c2 t from q2);exact SeqAt.RcNeAt.list_str c2 t2 pl1 hu1
  |scr hq2 hl2 hi2=>cases q2;obtain ⟨its2,r2,pl2,l2⟩:=IsU.list I hq2 hl2;rw[okU] at o1;rw[okU] at o2;rw[eqW];exact e6 pl1 pl2 l1 l2 hu (cy I r1 r2 hl1 hl2 hi1 hi2 o1 o2 rc0 (by lia))
  |tup hq2 hl2 hi2=>cases q2;obtain ⟨its2,r2,pl2,l2⟩:=IsU.tup I hq2 hl2;exact SeqAt.RcNeAt.list_tuple pl1 pl2 hu1
  |lst hq2 hl2 hi2=>cases q2;obtain ⟨its2,r2,pl2,l2⟩:=IsU.list I (SqL.of hq2) hl2;rw[okU] at o1;rw[okU] at o2;rw[eqW];exact e6 pl1 pl2 l1 l2 hu (cy I r1 r2 hl1 hl2 hi1 hi2 o1 o2 rc0 (by lia))
 |tup hq1 hl1 hi1=>
  cases q1;obtain ⟨its1,r1,pl1,l1⟩:=IsU.tup I hq1 hl1
  cases R2 with
  |ty=>simp[okU] at o2
  |dic=>simp[okU] at o2
  |xc=>simp[okU] at o2
  |non=>cases (show q=CO from q2);exact SeqAt.RcNeAt.tuple_none pl1 hu1
  |bl c2=>cases (show q=Dk c2 from q2);exact SeqAt.RcNeAt.tuple_bool c2 pl1 hu1
  |int c2=>obtain ⟨t2,rfl⟩:=(show ∃t,q=Dh c2 t from q2);exact SeqAt.RcNeAt.tuple_int c2 t2 pl1 hu1
  |str c2=>obtain ⟨t2,rfl⟩:=(show ∃t,q=DA c2 t from q2);exact SeqAt.RcNeAt.tuple_str c2 t2 pl1 hu1
  |scr hq2 hl2 hi2=>cases q2;obtain ⟨its2,r2,pl2,l2⟩:=IsU.list I hq2 hl2;exact SeqAt.RcNeAt.tuple_list pl1 pl2 hu1
  |tup hq2 hl2 hi2=>cases q2;obtain ⟨its2,r2,pl2,l2⟩:=IsU.tup I hq2 hl2;rw[okU] at o1;rw[okU] at o2;rw[eqW];exact t7 pl1 pl2 l1 l2 hu (cy I r1 r2 hl1 hl2 hi1 hi2 o1 o2 rc0 (by lia))
  |lst hq2 hl2 hi2=>cases q2;obtain ⟨its2,r2,pl2,l2⟩:=IsU.list I (SqL.of hq2) hl2;exact SeqAt.RcNeAt.tuple_list pl1 pl2 hu1
 |lst hq1 hl1 hi1=>
  cases q1;obtain ⟨its1,r1,pl1,l1⟩:=IsU.list I (SqL.of hq1) hl1
  cases R2 with
  |ty=>simp[okU] at o2
  |dic=>simp[okU] at o2
  |xc=>simp[okU] at o2
  |non=>cases (show q=CO from q2);exact SeqAt.RcNeAt.list_none pl1 hu1
  |bl c2=>cases (show q=Dk c2 from q2);exact SeqAt.RcNeAt.list_bool c2 pl1 hu1
  |int c2=>obtain ⟨t2,rfl⟩:=(show ∃t,q=Dh c2 t from q2);exact SeqAt.RcNeAt.list_int c2 t2 pl1 hu1
  |str c2=>obtain ⟨t2,rfl⟩:=(show ∃t,q=DA c2 t from q2);exact SeqAt.RcNeAt.list_str c2 t2 pl1 hu1
  |scr hq2 hl2 hi2=>cases q2;obtain ⟨its2,r2,pl2,l2⟩:=IsU.list I hq2 hl2;rw[okU] at o1;rw[okU] at o2;rw[eqW];exact e6 pl1 pl2 l1 l2 hu (cy I r1 r2 hl1 hl2 hi1 hi2 o1 o2 rc0 (by lia))
  |tup hq2 hl2 hi2=>cases q2;obtain ⟨its2,r2,pl2,l2⟩:=IsU.tup I hq2 hl2;exact SeqAt.RcNeAt.list_tuple pl1 pl2 hu1
  |lst hq2 hl2 hi2=>cases q2;obtain ⟨its2,r2,pl2,l2⟩:=IsU.list I (SqL.of hq2) hl2;rw[okU] at o1;rw[okU] at o2;rw[eqW];exact e6 pl1 pl2 l1 l2 hu (cy I r1 r2 hl1 hl2 hi1 hi2 o1 o2 rc0 (by lia))
end
def OpS (X:Cx) (f:Value→Value→Sem Value) (x y:U) (z:V):Prop:=OpR X f fun v w H Q=>Rp X.K H v x∧Rp X.K H w y∧Q z H
section
variable {X:Cx}{H0:Hp}{O0:List Addr}{ps:PSt}{a b c e:Expr}{es rest:List Expr}{pos p:Pos}{u x y:U}{xs ys us:List U}{i j:Int}{k m:Bool}
theorem Rp.out {K:B2}{H:Hp}{O:List Addr}{v:V}{u:U} (h:Rp K (hid H O) v u):Rp K H v u:=h.same ax
theorem ro {op:CmpOp} (ho:OpS X (El op) x y (.bl k)) (ha:Ev X H0 O0 ps a x) (hb:Ev X H0 O0 ps b y) (hm:GG op b=false:=by first |exact vc _ |with_unfolding_all rfl):Ev X H0 O0 ps (.Compare a [op] [b] pos) (.bl k):=
 PE.mono (yg ho ha hb hm) fun σ H Q ⟨O,R,q⟩=>two R (fun _ _ _ z=>z) (fun _ _ _ z=>z) fun v w H' s _ r1 r2=>⟨r1.out,r2.out,q _ H' s (.bl _)⟩
theorem aT {op:CmpOp} (ho:OpS X (El op) x y (.bl k)) (ha:Ev X H0 O0 ps a x) (hb:Ev X H0 O0 ps b y) (hm:GG op b=false:=by first |exact vc _ |with_unfolding_all rfl):Tt X H0 O0 ps (.Compare a [op] [b] pos) k:=
 PT.mono (yw ho ha hb hm) fun σ H Q ⟨O,R,q⟩=>two R (fun _ _ _ z=>z) (fun _ _ _ z=>z) fun v w H' s _ r1 r2=>⟨r1.out,r2.out,_,rfl,q H' s⟩
theorem vJ {op:CmpOp}{g:Int→Int→Bool} (ho:OpR X (El op) (rI0 fun i j=>.bl (g i j))):OpS X (El op) (.int i) (.int j) (.bl (g i j)):=by
 intro pins s σ H v w p q Q I r1 r2 h
 obtain ⟨h1,h2,h3⟩:=h
 cases h1;cases h2
 exact ho pins s σ H _ _ _ _ Q I r1 r2 ⟨i,j,rfl,rfl,h3⟩
theorem ij:OpS X (El .Lt) (.int i) (.int j) (.bl (decide (i < j))):=vJ Br
theorem BW:OpS X (El .LtE) (.int i) (.int j) (.bl (decide (i≤j))):=vJ Bk
theorem iA:OpS X (El .Gt) (.int i) (.int j) (.bl (decide (j < i))):=vJ Bd
theorem Bo (hu:X.A.units+10 < cLine) (h1:okU 9 x=true) (h2:okU 9 y=true):OpS X (El .Eq) x y (.bl (eqW x y)):=by
 intro pins s σ H v w p q Q I r1 r2 h
 obtain ⟨k1,k2,k3⟩:=h
 exact Bj I 9 X.A x y v w p q k1 k2 r1 r2 h1 h2 (by lia) X.prog X.w _ _ (aX I k3 rfl)
theorem zA (hu:X.A.units+10 < cLine) (h1:okU 9 x=true) (h2:okU 9 y=true):OpS X (El .NotEq) x y (.bl (!eqW x y)):=by
 intro pins s σ H v w p q Q I r1 r2 h
 obtain ⟨k1,k2,k3⟩:=h
 exact Al I 8 X.A x y v w p q k1 k2 r1 r2 h1 h2 (by lia) X.prog X.w _ _ (aX I k3 rfl)
theorem eo:OpS X (El .Eq) (.int i) (.int j) (.bl (decide (i=j))):=by
 intro pins s σ H v w p q Q I r1 r2 h
 obtain ⟨h1,h2,h3⟩:=h
 cases h1;cases h2
 exact Bf pins s σ H _ _ _ _ Q I r1 r2 ⟨rfl,by rw[i5,←Hk] at *;simpa [Hk] using h3⟩
theorem yK:OpS X (El .NotEq) (.int i) (.int j) (.bl (!decide (i=j))):=by
 intro pins s σ H v w p q Q I r1 r2 h
 obtain ⟨h1,h2,h3⟩:=h
 cases h1;cases h2
 exact Ba pins s σ H _ _ _ _ Q I r1 r2 ⟨rfl,by rw[i5];simpa [Hk] using h3⟩
theorem dS (h:Ev X H0 O0 ps e (.bl k)) (he:∀whole,isTrue e X.env whole=(do let v ←whole;standAt e.pos;holding [v] (truthy v)):=by intro _;rfl):Tt X H0 O0 ps e k:=
 PT.mono (zL h he) fun σ H Q ⟨O,R,q⟩=>⟨O,R,fun v H' s r=>by cases r;exact ⟨_,rfl,q H' s⟩⟩
theorem ft (h:Tt X H0 O0 ps a k):Tt X H0 O0 ps (.UnaryOp .Not a pos) (!k):=PT.mono (AF h) fun σ H Q ⟨O,R,q⟩=>⟨O,R,q⟩
theorem Tw.t (h:Tw X H0 O0 ps e k):Tt X H0 O0 ps e k:=h.pt
theorem wP (h:Tt X H0 O0 ps a k):Tw X H0 O0 ps (.BoolOp .And [a] pos) k:=xu h
theorem um (h:Tt X H0 O0 ps a k):Tw X H0 O0 ps (.BoolOp .Or [a] pos) k:=zC h
theorem vw (ha:Tt X H0 O0 ps a k) (hb:k=true→Tw X H0 O0 ps (.BoolOp .And (b::rest) pos) m):Tw X H0 O0 ps (.BoolOp .And (a::b::rest) pos) (k && m):=by
 cases k with
 |true=>exact PW.mono (wV ha (hb rfl)) fun σ H Q ⟨O,R,q⟩=>⟨O,R,fun H' s=>by exact tU (⟨O,R.go s,fun H2 s2=>q H2 (s.trans s2)⟩)⟩
 |false=>exact PW.mono (wV ha (fun _ _ _ _ _ _ _ h=>h.elim) (tB':=fun _ _ _=>False)) fun σ H Q ⟨O,R,q⟩=>⟨O,R,fun H' s=>by exact sR (q H' s)⟩
theorem yd (ha:Tt X H0 O0 ps a k) (hb:k=false→Tw X H0 O0 ps (.BoolOp .Or (b::rest) pos) m):Tw X H0 O0 ps (.BoolOp .Or (a::b::rest) pos) (k ||m):=by
 cases k with
 |false=>exact PW.mono (zg ha (hb rfl)) fun σ H Q ⟨O,R,q⟩=>⟨O,R,fun H' s=>by exact sR (⟨O,R.go s,fun H2 s2=>q H2 (s.trans s2)⟩)⟩
 |true=>exact PW.mono (zg ha (fun _ _ _ _ _ _ _ h=>h.elim) (tB':=fun _ _ _=>False)) fun σ H Q ⟨O,R,q⟩=>⟨O,R,fun H' s=>by exact tU (q H' s)⟩
theorem gD {op} (h:Ev X H0 O0 ps a u):Ev X H0 O0 ps (.BoolOp op [a] pos) u:=AG h
theorem fo (ha:Ev X H0 O0 ps a (.bl k)) (hb:k=true→Ev X H0 O0 ps (.BoolOp .And (b::rest) pos) (.bl m)):Ev X H0 O0 ps (.BoolOp .And (a::b::rest) pos) (.bl (k && m)):=by
 cases k with
 |true=>exact PE.mono (wj ha (hb rfl)) fun σ H Q ⟨O,R,q⟩=>⟨O,R,fun v H' s r=>by cases r;exact ⟨_,rfl,by exact tU (⟨O,R.go s,fun v H2 s2 r2=>q v H2 (s.trans s2) r2⟩)⟩⟩
 |false=>exact PE.mono (wj ha (fun _ _ _ _ _ _ h=>h.elim) (tb:=fun _ _ _=>False)) fun σ H Q ⟨O,R,q⟩=>⟨O,R,fun v H' s r=>by cases r;exact ⟨_,rfl,by exact sR (q _ H' s (.bl _))⟩⟩
theorem h9 (ha:Ev X H0 O0 ps a (.bl k)):Ev X H0 O0 ps (.UnaryOp .Not a pos) (.bl (!k)):=PE.mono (Aj ha) fun σ H Q ⟨O,R,q⟩=>⟨O,R,fun v H' s r=>by cases r;exact ⟨_,rfl,q _ H' s (.bl _)⟩⟩
theorem ao:EvA X H0 O0 ps [] []:=PA.mono fQ fun σ H Q ⟨O,R,q⟩=>q [] H (.refl H) .nil
theorem ag (ha:Ev X H0 O0 ps e u) (hr:EvA X H0 O0 ps es us) (hs:Ce (e::es) X.env=(false,eval e X.env)::Ce es X.env:=by rfl):EvA X H0 O0 ps (e::es) (u::us):=
 PA.mono (dg ha hr hs) fun σ H Q ⟨O,R,q⟩=>⟨O,R,fun v H1 s1 r1=>⟨O,R.go s1,fun vs H2 s2 r2=>q _ H2 (s1.trans s2) (.cons (r1.same (bi s2)) r2)⟩⟩
theorem Rs.hidnew {K:B2}{σ:St}{H:Hp}{O:List Addr} (R:Rs K H0 O0 ps σ H O) {p:Addr}{o:HO} (n:H p=none):hid (upd H p o) O p=some o:=dy aY fun z=>R.dom p z n
theorem AU {x1} (h:EvA X H0 O0 ps es us) (hz:us.length≤sizeLine:=by first |decide | (simp only[Dt,GL];decide)):Ev X H0 O0 ps (.Tuple es x1 pos) (.tup us):=
 PE.mono (zI h) fun σ H Q ⟨O,R,q⟩=>⟨O,R,fun vs H1 s1 r1=>⟨by rw[r1.len];exact hz,fun p hp=>by
  have s2:=aZ hp (.tup vs)
  have r2:=r1.same (bi (O:=O) s2)
  exact q _ _ (s1.trans s2) (.tup (SqT.of ((R.go s1).hidnew hp)) r2.len r2.at_)⟩⟩
theorem A8 (h:EvA X H0 O0 ps es us) (hz:us.length≤sizeLine:=by first |decide | (simp only[Dt,GL];decide)):EvN X H0 O0 ps (.List es pos) us:=
 PE.mono (AI h) fun σ H Q ⟨O,R,q⟩=>⟨O,R,fun vs H1 s1 r1=>⟨by rw[r1.len];exact hz,fun p hp=>by
  exact q p vs _ (s1.trans (aZ hp _)) (s1.free hp) aY (r1.same (bF (aZ hp _) hp))⟩⟩
theorem aD (ha:Ev X H0 O0 ps a x) (hb:Ev X H0 O0 ps b (.int i)) (hx:x.items=some xs) (hi:atI xs i=some u) (hs:lG b:=by intro _ _;rfl):Ev X H0 O0 ps (.Subscript a b pos) u:=
 PE.mono (yT (qR.or zJ) ha hb hs) fun σ H Q ⟨O,R,q⟩=>two (y:=.int i) R (fun _ _ _ z=>z) (fun _ _ _ z=>z) fun v w H' s _ r1 r2=>by
  cases r2
  cases r1 with
  |scr h hl hh=>cases hx;obtain ⟨z,h1,h2⟩:=Rps.atI ⟨hl,hh⟩ hi;exact .inl ⟨_,_,i,z,rfl,rfl,ax.seq h,h1,q z H' s h2⟩
  |lst h hl hh=>cases hx;obtain ⟨z,h1,h2⟩:=Rps.atI ⟨hl,hh⟩ hi;exact .inl ⟨_,_,i,z,rfl,rfl,ax.seq (SqL.of h),h1,q z H' s h2⟩
  |tup h hl hh=>cases hx;obtain ⟨z,h1,h2⟩:=Rps.atI ⟨hl,hh⟩ hi;exact .inr ⟨_,_,i,z,rfl,rfl,ax.tup h,h1,q z H' s h2⟩
  |_=>cases hx
theorem rG (n:Nat) {x:Str} (h:ps[n]?=some (some (.own xs))) (hb:Ev X H0 O0 ps b (.int i)) (hi:atI xs i=some u) (hN:X.N[n]?=some x:=by rfl) (hv:Vis X.env.scope x:=by first |exact Or.inl rfl |exact Or.inr (Or.inl rfl) |exact Or.inr (Or.inr rfl)) (hd:(x==("__debug__":Str))=false:=by decide)
  (hcd:(x==("__classdict__":Str))=false:=by decide) (hs:lG b:=by intro _ _;rfl):Ev X H0 O0 ps (.Subscript (.Name x p) b pos) u:=
 PE.mono (yT qR (fH hN hv hd hcd) hb hs) fun σ H Q ⟨O,R,q⟩=>by
  obtain ⟨v,h1,a,vs,rfl,h3,h4,h5,h6⟩:=R.at_ n _ h
  refine ⟨_,h1,O,R,fun w H' s r=>?_⟩
  cases r
  obtain ⟨z,k1,k2⟩:=h6.atI hi
  exact ⟨a,vs,i,z,rfl,rfl,SqL.of (s _ _ h5),k1,q z H' s (k2.same (bi s))⟩
def gC (X:Cx) (f:Value) (us:List U) (u:U):Prop:=eR X f fun vs H Q=>∃O,(∀a∈O,H a≠none)∧Rps X.K (hid H O) vs us∧∀v H',aK H H'→Rp X.K (hid H' O) v u→Q v H'
def ze (X:Cx) (f:Value) (us:List U) (xs:List U):Prop:=eR X f fun vs H Q=>∃O,(∀a∈O,H a≠none)∧Rps X.K (hid H O) vs us∧∀a vs H',aK H H'→H a=none→H' a=some (.lst vs)→Rps X.K (hid H' (a::O)) vs xs→Q (.ref a) H'
theorem aq {id:String}{f:Str} (hc:gC X (.builtin id) us u) (hg:Gl X f) (hm:X.mg f=none) (hv:EJ f=some (.builtin id)) (ha:EvA X H0 O0 ps (e::es) us) (hn:f≠"__name__":=by decide) (hdb:(f==("__debug__":Str))=false:=by decide)
  (he:Ce (e::es) X.env=(false,eval e X.env)::Ce es X.env:=by rfl) (hpl:(Fp pos (Ce es X.env)).any (·.1)=false:=by rfl):Ev X H0 O0 ps (.Call (.Name f p) (e::es) [] pos) u:=
 PE.mono (n5 hc hg hm hv ha hn hdb he hpl) fun σ H Q ⟨O,R,q⟩=>⟨O,R,fun vs H1 s1 r1=>⟨O,(R.go s1).dom,r1,fun v H2 s2 r2=>q v H2 (s1.trans s2) r2⟩⟩
theorem rc {id:String}{f:Str} (hc:ze X (.type id) us xs) (hg:Gl X f) (hm:X.mg f=none) (hv:EJ f=some (.type id)) (ha:EvA X H0 O0 ps (e::es) us) (hn:f≠"__name__":=by decide) (hdb:(f==("__debug__":Str))=false:=by decide)
  (he:Ce (e::es) X.env=(false,eval e X.env)::Ce es X.env:=by rfl) (hpl:(Fp pos (Ce es X.env)).any (·.1)=false:=by rfl):EvN X H0 O0 ps (.Call (.Name f p) (e::es) [] pos) xs:=
 PE.mono (t8 hc hg hm hv ha hn hdb he hpl) fun σ H Q ⟨O,R,q⟩=>⟨O,R,fun vs H1 s1 r1=>⟨O,(R.go s1).dom,r1,fun a vs H2 s2 n h r2=>q a vs H2 (s1.trans s2) (s1.free n) h r2⟩⟩
theorem cB {K:B2}{H:Hp}{vs:List V} (h:Rps K H vs [x]):∃v,vs=[v]∧Rp K H v x:=by
 obtain ⟨v,ws,rfl,h1,h2⟩:=h.cons_inv
 rw[h2.nil_inv]
 exact ⟨v,rfl,h1⟩
theorem qY {K:B2}{H:Hp}{vs:List V} (h:Rps K H vs [x,y]):∃v w,vs=[v,w]∧Rp K H v x∧Rp K H w y:=by
 obtain ⟨v,ws,rfl,h1,h2⟩:=h.cons_inv
 obtain ⟨w,rfl,h3⟩:=cB h2
 exact ⟨v,w,rfl,h1,h3⟩
theorem eR.mono {f:Value}{r r':List V→Hp→VK→Prop} (h:eR X f r) (m:∀vs H Q,r' vs H Q→r vs H Q):eR X f r':=fun pins s σ H vs us Q I v q=>h pins s σ H vs us Q I v (m vs H Q q)
theorem mi {K:B2}{H:Hp}{v:V} (h:Rp K H v x) (hx:x.items=some xs):∃a vs,v=.ref a∧(SqL K H a vs∨SqT K H a vs)∧Rps K H vs xs:=by
 cases h with
 |scr h hl hh=>cases hx;exact ⟨_,_,rfl,.inl h,hl,hh⟩
 |lst h hl hh=>cases hx;exact ⟨_,_,rfl,.inl (SqL.of h),hl,hh⟩
 |tup h hl hh=>cases hx;exact ⟨_,_,rfl,.inr h,hl,hh⟩
 |_=>cases hx
theorem qx {K:B2}{H:Hp}{O:List Addr}{a:Addr}{vs:List V} (h:SqL K (hid H O) a vs∨SqT K (hid H O) a vs):SqL K H a vs∨SqT K H a vs:=h.imp (fun z=>ax.seq z) fun z=>ax.tup z
theorem cJ (hx:x.items=some xs):gC X (.builtin "len") [x] (.int xs.length):=eR.mono h7 fun vs H Q ⟨O,d,r,q⟩=>by
 obtain ⟨v,rfl,h⟩:=cB r
 obtain ⟨a,ws,rfl,h1,h2⟩:=mi h hx
 exact ⟨a,ws,rfl,qx h1,by rw[h2.len];exact q _ H (.refl H) (.int _)⟩
theorem At (n:Nat) {x:Str} (h:ps[n]?=some (some (.own xs))) (hg:Gl X "len") (hm:X.mg "len"=none) (hN:X.N[n]?=some x:=by rfl) (hv:Vis X.env.scope x:=by first |exact Or.inl rfl |exact Or.inr (Or.inl rfl) |exact Or.inr (Or.inr rfl)) (hd:(x==("__debug__":Str))=false:=by decide)
  (hcd:(x==("__classdict__":Str))=false:=by decide) {pc p':Pos} (hs:Ce [.Name x p'] X.env=(false,eval (.Name x p') X.env)::Ce [] X.env:=by rfl) (hpl:(Fp pos (Ce [] X.env)).any (·.1)=false:=by rfl):Ev X H0 O0 ps (.Call (.Name "len" pc) [.Name x p'] [] pos) (.int xs.length):=
 PE.mono (n5 h7 hg hm Do (dg (fH hN hv hd hcd) fQ hs) (by decide) (by decide) hs hpl) fun σ H Q ⟨O,R,q⟩=>by
  obtain ⟨v,h1,a,vs,rfl,h3,h4,h5,h6⟩:=R.at_ n _ h
  exact ⟨_,h1,a,vs,rfl,.inl (SqL.of h5),by rw[h6.len];exact q _ H (.refl H) (.int _)⟩
theorem uU:gC X (.builtin "abs") [.int i] (.int (if i < 0 then -i else i)):=eR.mono uS fun vs H Q ⟨O,d,r,q⟩=>by
 obtain ⟨v,rfl,h⟩:=cB r
 cases h
 exact ⟨i,rfl,q _ H (.refl H) (.int _)⟩
theorem v9 (hx:x.items=some xs):ze X (.type "list") [x] xs:=eR.mono lL fun vs H Q ⟨O,d,r,q⟩=>by
 obtain ⟨v,rfl,h⟩:=cB r
 obtain ⟨a,ws,rfl,h1,h2⟩:=mi h hx
 exact ⟨a,ws,rfl,qx h1,fun l hl=>q l ws _ (aZ hl _) hl aY (h2.same (bF (aZ hl _) hl))⟩
def tyU:U→Value
 | .non=>.type "NoneType" | .bl _=>.type "bool" | .int _=>.type "int" | .str _=>.type "str" | .ty _=>.type "type" | .dic=>.type "dict" | .scr _=>.type "list" | .tup _=>.type "tuple" | .lst _=>.type "list"
theorem aC {n:String} (hn:∀m,x≠.ty m) (h:Fm X.K (tyU x) (.type n)=some k):gC X (.builtin "isinstance") [x,.ty (.nm n)] (.bl k):=by
 intro pins s σ H vs us Q I r hq
 obtain ⟨O,d,rs,q⟩:=hq
 obtain ⟨v,w,rfl,h1,h2⟩:=qY rs
 cases h2
 obtain ⟨p1,p2,rfl,r1,r2⟩:=rM r
 cases (show p2=DV n from r2)
 have fin:∀tk,EP X pins σ Q (.bool k) {s with toks:=tk }:=fun tk=>⟨.bl k,H,I.tok _,rfl,q _ H (.refl H) (.bl _)⟩
 cases h1 with
 |non=>exact dJ I r1 .non h fin
 |bl b=>exact dJ I r1 (.bl b) h fin
 |int b=>exact dJ I r1 (.int b) h fin
 |str b=>exact dJ I r1 (.str b) h fin
 |ty m=>exact absurd rfl (hn _)
 |dic e=>exact dJ I r1 (.dK (ax _ _ e)) h fin
 |xc e kk=>exact absurd rfl (hn _)
 |scr e hl hh=>
  cases r1
  obtain ⟨its,_,pl,_⟩:=I.list (ax.seq e)
  obtain ⟨o,nn,e1,e2,_⟩:=pl
  exact DS Ii I.kIn ⟨o,e1,e2⟩ h (fun z=>nomatch z) fin
 |lst e hl hh=>exact dJ I r1 (.lst (ax _ _ e)) h fin
 |tup e hl hh=>
  cases r1
  obtain ⟨its,_,pl,_⟩:=I.tuple (ax.tup e)
  obtain ⟨o,e1,e2,_⟩:=pl
  exact DS JS I.kIn ⟨o,e1,e2⟩ h (fun z=>nomatch z) fin
end
inductive Out where
 |val (u:U) |new (xs:List U) |exc (C:Addr)
def nq (K:B2) (H0:Hp) (O0:List Addr) (Q:VK) (E:XK):Out→Prop
 | .val u=>∀v H',aK H0 H'→Rp K (hid H' O0) v u→Q v H'
 | .new xs=>∀a vs H',aK H0 H'→H0 a=none→H' a=some (.lst vs)→Rps K (hid H' (a::O0)) vs xs→Q (.ref a) H'
 | .exc C=>∀H',aK H0 H'→E (.ref C) none H'
theorem nq.later {K:B2}{H0 H1:Hp}{O0:List Addr}{Q:VK}{E:XK}{o:Out} (e:aK H0 H1) (h:nq K H0 O0 Q E o):nq K H1 O0 Q E o:=by
 cases o with
 |val u=>exact fun v H' s r=>h v H' (e.trans s) r
 |new xs=>exact fun a vs H' s n q r=>h a vs H' (e.trans s) (e.free n) q r
 |exc C=>exact fun H' s=>h H' (e.trans s)
structure PD where
 nx:PSt→Prop
 rt:Out→Prop
 bk:PSt→Prop:=fun _=>False
 ct:PSt→Prop:=fun _=>False
structure Lf (K:B2) (H0:Hp) (O0:List Addr) (E:XK) (D:PD) (D':kA):Prop where
 nx:∀ps σ H O,Rs K H0 O0 ps σ H O→D.nx ps→D'.nx σ H
 bk:∀ps σ H O,Rs K H0 O0 ps σ H O→D.bk ps→D'.bk σ H
 ct:∀ps σ H O,Rs K H0 O0 ps σ H O→D.ct ps→D'.ct σ H
 rt:∀o,D.rt o→nq K H0 O0 D'.rt E o
def Ws (X:Cx) (H0:Hp) (O0:List Addr) (E:XK) (ss:List Stmt) (D:PD) (ps:PSt):Prop:=PSs X ss fun D' σ H=>Lf X.K H0 O0 E D D'∧∃O,Rs X.K H0 O0 ps σ H O
def W1 (X:Cx) (H0:Hp) (O0:List Addr) (E:XK) (s:Stmt) (D:PD) (ps:PSt):Prop:=PS X s fun D' σ H=>Lf X.K H0 O0 E D D'∧∃O,Rs X.K H0 O0 ps σ H O
section
variable {X:Cx}{H0:Hp}{O0:List Addr}{E:XK}{ps ps':PSt}{D:PD}{s:Stmt}{ss body:List Stmt}{a b c e:Expr}{es:List Expr}{pos p:Pos}{u x y:U}{xs ys us:List U}{k:Bool}
theorem aH (h:D.nx ps):Ws X H0 O0 E [] D ps:=PSs.mono yu fun D' σ H ⟨L,O,R⟩=>L.nx ps σ H O R h
theorem ae (h:W1 X H0 O0 E s {D with nx:=fun p=>Ws X H0 O0 E ss D p } ps):Ws X H0 O0 E (s::ss) D ps:=by
 have h2:PSs X ss fun D' σ H=>∃p,Ws X H0 O0 E ss D p∧Lf X.K H0 O0 E D D'∧∃O,Rs X.K H0 O0 p σ H O:=fun pins s σ H D' I ⟨p,w,l,r⟩=>w pins s σ H D' I ⟨l,r⟩
 exact PSs.mono (vS h h2) fun D' σ H ⟨L,O,R⟩=>⟨⟨fun p σ H O R q=>⟨p,q,L,O,R⟩,L.bk,L.ct,L.rt⟩,O,R⟩
theorem d7 (h:Ws X H0 O0 E ss D ps') (hs:SubP ps' ps):Ws X H0 O0 E ss D ps:=PSs.mono h fun D' σ H ⟨L,O,R⟩=>⟨L,O,R.sub hs⟩
theorem aE {i:Nat}{x:Str}{pos':Pos} (hN:X.N.Nodup) (hi:X.N[i]?=some x) (hx:Loc X.env.scope x) (he:Ev X H0 O0 ps e u) (h:D.nx (ps.set i (some (.val u)))) (hs:Fv e (some (.Name x pos')) pos.line X.env=pure false:=by rfl) (hf:X.fn x=true∨X.env.scope.names.lookup x=some .local:=by first |exact .inl rfl |exact .inr rfl |assumption):
  W1 X H0 O0 E (.Assign [.Name x pos'] e pos) D ps:=PS.mono (wD hN hi hx he hs hf) fun D' σ H ⟨L,O,R⟩=>⟨O,R,fun v H' s r=>L.nx _ _ _ O ((R.go s).set r) h⟩
theorem iR {i:Nat}{x:Str}{pos':Pos} (hN:X.N.Nodup) (hi:X.N[i]?=some x) (hx:Loc X.env.scope x) (he:EvN X H0 O0 ps e xs) (h:D.nx (ps.set i (some (.own xs)))) (hs:Fv e (some (.Name x pos')) pos.line X.env=pure false:=by rfl) (hf:X.fn x=true∨X.env.scope.names.lookup x=some .local:=by first |exact .inl rfl |exact .inr rfl |assumption):
  W1 X H0 O0 E (.Assign [.Name x pos'] e pos) D ps:=PS.mono (wD hN hi hx he hs hf) fun D' σ H ⟨L,O,R⟩=>⟨O,R,fun a vs H' s n q r=>L.nx _ _ _ _ (R.own s n q r) h⟩
theorem ie {tb fb:List Stmt} (hc:Tt X H0 O0 ps c k) (h1:k=true→Ws X H0 O0 E tb D ps) (h2:k=false→Ws X H0 O0 E fb D ps):W1 X H0 O0 E (.If c tb fb pos) D ps:=by
 cases k with
 |true=>exact PS.mono (yP hc (h1 rfl) (fun _ _ _ _ _ _ h=>h.elim) (u:=fun _ _ _=>False)) fun D' σ H ⟨L,O,R⟩=>⟨O,R,fun H' s=>tU ⟨L,O,R.go s⟩⟩
 |false=>exact PS.mono (yP hc (fun _ _ _ _ _ _ h=>h.elim) (h2 rfl) (t:=fun _ _ _=>False)) fun D' σ H ⟨L,O,R⟩=>⟨O,R,fun H' s=>sR ⟨L,O,R.go s⟩⟩
theorem Rs.ret {K:B2}{σ:St}{H:Hp}{O:List Addr}{v:V} (R:Rs K H0 O0 ps σ H O) (r:Rp K (hid H O) v u):Rp K (hid H O0) v u:=r.same (dh R.old)
theorem aJ (he:Ev X H0 O0 ps e u) (h:D.rt (.val u)):W1 X H0 O0 E (.Return (some e) pos) D ps:=
 PS.mono (pV he) fun D' σ H ⟨L,O,R⟩=>⟨O,R,fun v H' s r=>L.rt _ h v H' (R.same.trans s) ((R.go s).ret r)⟩
theorem fB (he:EvN X H0 O0 ps e xs) (h:D.rt (.new xs)):W1 X H0 O0 E (.Return (some e) pos) D ps:=
 PS.mono (pV he) fun D' σ H ⟨L,O,R⟩=>⟨O,R,fun a vs H' s n q r=>L.rt _ h a vs H' (R.same.trans s) (R.same.free n) q (r.same (dh fun b hb=>by
  rcases Cd.mp hb with y |y
  ·subst y;exact Ci
  ·exact B4 _ (R.old b y)))⟩
theorem qc (i:Nat) {x:Str} (hp:ps[i]?=some (some (.own xs))) (h:D.rt (.new xs)) (hN:X.N[i]?=some x:=by rfl) (hv:Vis X.env.scope x:=by first |exact Or.inl rfl |exact Or.inr (Or.inl rfl) |exact Or.inr (Or.inr rfl)) (hd:(x==("__debug__":Str))=false:=by decide)
  (hcd:(x==("__classdict__":Str))=false:=by decide):W1 X H0 O0 E (.Return (some (.Name x p)) pos) D ps:=
 PS.mono (pV (fH hN hv hd hcd)) fun D' σ H ⟨L,O,R⟩=>by
  obtain ⟨v,h1,a,vs,rfl,h3,h4,h5,h6⟩:=R.at_ i _ hp
  refine ⟨_,h1,L.rt _ h a vs H R.same ((R.new a h3).resolve_left h4) h5 (h6.same (dh fun b hb=>?_))⟩
  rcases Cd.mp hb with y |y
  ·subst y;exact h3
  ·exact R.old b y
theorem vf (he:Ev X H0 O0 ps e u) (h:D.nx ps) (hs:Fv e none pos.line X.env=pure false:=by rfl):W1 X H0 O0 E (.Expr e pos) D ps:=
 PS.mono (gY he hs) fun D' σ H ⟨L,O,R⟩=>⟨O,R,fun v H' s r=>L.nx _ _ _ O (R.go s) h⟩
theorem eK (i:Nat) {x:Str}{apos cpos xp:Pos} (hp:ps[i]?=some (some (.own xs))) (ha:Ev X H0 O0 ps e u) (hz:xs.length < sizeLine) (h:D.nx (ps.set i (some (.own (xs++[u])))))
  (hN:X.N[i]?=some x:=by rfl) (hv:Vis X.env.scope x:=by first |exact Or.inl rfl |exact Or.inr (Or.inl rfl) |exact Or.inr (Or.inr rfl)) (hd:(x==("__debug__":Str))=false:=by decide) (hcd:(x==("__classdict__":Str))=false:=by decide)
  (hbase:HC (.Name x xp) "append" X.env (eval (.Name x xp) X.env)=eval (.Name x xp) X.env:=by rfl)
  (hfew:((Fp cpos (Ce [e] X.env)).all (fun x=>!x.1) && (backToKw cpos (K4 [] X.env)).all (fun x=>x.1.isSome) && decide ([e].length+([]:List JM).length+(if ([]:List JM).isEmpty then 0 else 1) < 30))=true:=by rfl)
  (hline:(apos.endLine==cpos.line)=true:=by rfl) (hse:Ce [e] X.env=(false,eval e X.env)::Ce [] X.env:=by rfl) (hplain:(Fp cpos (Ce [] X.env)).any (·.1)=false:=by rfl)
  (hs:Fv (.Call (.Attribute (.Name x xp) "append" apos) [e] [] cpos) none pos.line X.env=pure false:=by rfl):W1 X H0 O0 E (.Expr (.Call (.Attribute (.Name x xp) "append" apos) [e] [] cpos) pos) D ps:=
 PS.mono (gY (yM GM PySem.F.slot_list_append PySem.F.type_list_append ir (fH hN hv hd hcd) (dg ha fQ hse) hbase hfew hline hse hplain) hs) fun D' σ H ⟨L,O,R⟩=>by
  obtain ⟨v,h1,a,vs,rfl,h3,h4,h5,h6⟩:=R.at_ i _ hp
  refine ⟨_,h1,.inl ⟨rfl,_,SqL.of h5⟩,O,R,fun w H' s r=>⟨a,vs,w,rfl,rfl,s _ _ h5,by rw[h6.len];exact hz,?_⟩⟩
  exact L.nx _ _ _ O ((R.go s).write hp h1 ((h6.same (bi s)).snoc (.cons r .nil))) h
theorem yL (i:Nat) {x:Str}{apos cpos xp:Pos} (hp:ps[i]?=some (some (.own xs))) (hne:xs≠[]) (h:D.nx (ps.set i (some (.own xs.dropLast))))
  (hN:X.N[i]?=some x:=by rfl) (hv:Vis X.env.scope x:=by first |exact Or.inl rfl |exact Or.inr (Or.inl rfl) |exact Or.inr (Or.inr rfl)) (hd:(x==("__debug__":Str))=false:=by decide) (hcd:(x==("__classdict__":Str))=false:=by decide)
  (hbase:HC (.Name x xp) "pop" X.env (eval (.Name x xp) X.env)=eval (.Name x xp) X.env:=by rfl)
  (hline:(apos.endLine==cpos.line)=true:=by rfl)
  (hs:Fv (.Call (.Attribute (.Name x xp) "pop" apos) [] [] cpos) none pos.line X.env=pure false:=by rfl):W1 X H0 O0 E (.Expr (.Call (.Attribute (.Name x xp) "pop" apos) [] [] cpos) pos) D ps:=
 PS.mono (gY (Ay GM PySem.F.slot_list_pop PySem.F.type_list_pop zo (fH hN hv hd hcd) hbase hline) hs) fun D' σ H ⟨L,O,R⟩=>by
  obtain ⟨v,h1,a,vs,rfl,h3,h4,h5,h6⟩:=R.at_ i _ hp
  have hpos:0 < vs.length:=by rw[h6.len];exact EN.mpr hne
  have hlt:vs.length - 1 < vs.length:=by lia
  refine ⟨_,h1,.inl ⟨rfl,_,SqL.of h5⟩,a,vs,vs[vs.length - 1],rfl,rfl,h5,B1 hlt,?_⟩
  refine L.nx _ _ _ O (R.write hp h1 ⟨by simp[h6.len],fun j v x e1 e2=>?_⟩) h
  rw[FN] at e1 e2
  split at e1
  ·split at e2
   ·exact h6.at_ j v x e1 e2
   ·cases e2
  ·cases e1
end
def lU:List Nat→TGs
 |[]=>AY
 |j::js=>yN (nh j) (lU js)
def setAll:PSt→List Nat→List U→PSt
 |ps,j::js,u::us=>setAll (ps.set j (some (.val u))) js us
 |ps,_,_=>ps
def i_:St→List Nat→List V→St
 |σ,j::js,u::us=>i_ (σ.set j (some u)) js us
 |σ,_,_=>σ
theorem Rs.setAll {K:B2}{H0:Hp}{O0:List Addr}{H:Hp}{O:List Addr}:∀{js:List Nat}{ps:PSt}{σ:St}{vs:List V}{us:List U},Rs K H0 O0 ps σ H O→Rps K (hid H O) vs us→Rs K H0 O0 (L2.setAll ps js us) (i_ σ js vs) H O
 |[],ps,σ,vs,us,R,r=>by cases us <;>cases vs <;>exact R
 |j::js,ps,σ,vs,[],R,r=>by rw[r.nil_inv];exact R
 |j::js,ps,σ,vs,u::us,R,r=>by
  obtain ⟨v,ws,rfl,h1,h2⟩:=r.cons_inv
  exact Rs.setAll (js:=js) (R.set h1) h2
theorem iC {Q:St→Hp→Prop}{H:Hp}:∀{js:List Nat}{σ:St}{vs:List V},vs.length=js.length→Q (i_ σ js vs) H→lU js vs σ H Q
 |[],σ,[],_,q=>⟨rfl,q⟩
 |j::js,σ,v::vs,e,q=>⟨v,vs,rfl,iC (js:=js) (by simpa using e) q⟩
 |[],_,_::_,e,_=>by simp at e
 |_::_,_,[],e,_=>by simp at e
def TgS (X:Cx) (H0:Hp) (O0:List Addr) (tg:Expr) (ps:PSt) (u:U) (ps':PSt):Prop:=
 PG X tg fun v σ H Q=>∃O,Rs X.K H0 O0 ps σ H O∧Rp X.K (hid H O) v u∧∀σ' H',aK H H'→Rs X.K H0 O0 ps' σ' H' O→Q σ' H'
theorem PG.mono {X:Cx}{e:Expr}{t t':TG} (h:PG X e t) (m:∀v σ H Q,t' v σ H Q→t v σ H Q):PG X e t':=fun pins s σ H v u Q I r q=>h pins s σ H v u Q I r (m v σ H Q q)
theorem PI.mono {X:Cx}{tg e:Expr}{t t':TI} (h:PI X tg e t) (m:∀σ H Q,t' σ H Q→t σ H Q):PI X tg e t':=fun pins s σ H Q I q=>h pins s σ H Q I (m σ H Q q)
def Yl (K:B2) (J:It) (G:Hp) (xs:List U):Prop:=
 ∀H2,aK G H2→(∀i,i < xs.length→J.go i H2∧∀x H3,J.yld i H2 x H3→H3=H2∧∃u,xs[i]?=some u∧Rp K G x u)∧J.stop xs.length H2
def EvI (X:Cx) (H0:Hp) (O0:List Addr) (ps:PSt) (tg iter:Expr) (xs:List U):Prop:=
 PI X tg iter fun σ H R=>∃O,Rs X.K H0 O0 ps σ H O∧∀J H',aK H H'→Yl X.K J (hid H' O) xs→R J H'
section
variable {X:Cx}{H0:Hp}{O0:List Addr}{E:XK}{ps ps':PSt}{D:PD}{s:Stmt}{ss body:List Stmt}{a b c e tg iter:Expr}{es:List Expr}{pos p:Pos}{u x y:U}{xs ys us:List U}{k:Bool}
theorem gN {i:Nat}{x:Str} (hN:X.N.Nodup) (hi:X.N[i]?=some x) (hx:Loc X.env.scope x) (hf:X.fn x=true∨X.env.scope.names.lookup x=some .local:=by first |exact .inl rfl |exact .inr rfl |assumption):TgS X H0 O0 (.Name x pos) ps u (ps.set i (some (.val u))):=
 PG.mono (bM hN hi hx hf) fun v σ H Q ⟨O,R,r,q⟩=>q _ H (.refl H) (R.set r)
theorem Bv {k:Nat} (js:List Nat) (hc:X.calm=true) (h:PGs X es (lU js)) (hl:us.length=js.length) (hn:(HG es X.env).length=js.length:=by rfl) (hst:(HG es X.env).findIdx? (·.1)=none:=by rfl):TgS X H0 O0 (.Tuple es k pos) ps (.tup us) (setAll ps js us):=
 PG.mono (pJ hc h hn hst) fun v σ H Q ⟨O,R,r,q⟩=>by
  cases r with
  |tup hq hl' hh=>exact ⟨_,_,rfl,ax.tup hq,hl'.trans hl,iC (hl'.trans hl) (q _ H (.refl H) (R.setAll ⟨hl',hh⟩))⟩
theorem cW (he:Ev X H0 O0 ps iter x) (hx:x=.lst xs∨x=.scr xs):EvI X H0 O0 ps tg iter xs:=
 PI.mono (yj he) fun σ H Q ⟨O,R,q⟩=>⟨O,R,fun v H' s r=>by
  have key:∃a vs,v=.ref a∧SqL X.K (hid H' O) a vs∧Rps X.K (hid H' O) vs xs:=by
   rcases hx with rfl |rfl
   ·cases r with
    |lst hq hl hh=>exact ⟨_,_,rfl,SqL.of hq,hl,hh⟩
   ·cases r with
    |scr hq hl hh=>exact ⟨_,_,rfl,hq,hl,hh⟩
  obtain ⟨a,vs,rfl,hq,rs⟩:=key
  refine ⟨a,rfl,⟨vs,ax.seq hq⟩,q _ H' s fun H2 s2=>⟨fun i hi=>?_,⟨vs,s2.seq hq,by rw[rs.len];exact B9 _⟩⟩⟩
  have hi':i < vs.length:=by rw[rs.len];exact hi
  refine ⟨⟨vs,vs[i],s2.seq hq,B1 hi'⟩,fun z H3 y=>⟨y.1,xs[i],B1 hi,rs.at_ i z _ (y.2 vs (s2.seq hq)) (B1 hi)⟩⟩⟩
theorem A5 (he:Ev X H0 O0 ps iter (.tup xs)):EvI X H0 O0 ps tg iter xs:=
 PI.mono (zw he) fun σ H Q ⟨O,R,q⟩=>⟨O,R,fun v H' s r=>by
  cases r with
  | @tup a vs _ hq hl hh=>
   have rs:Rps X.K (hid H' O) vs xs:=⟨hl,hh⟩
   refine ⟨a,rfl,⟨vs,ax.tup hq⟩,q _ H' s fun H2 s2=>⟨fun i hi=>?_,⟨vs,s2.tup hq,by rw[rs.len];exact B9 _⟩⟩⟩
   have hi':i < vs.length:=by rw[rs.len];exact hi
   refine ⟨⟨vs,vs[i],s2.tup hq,B1 hi'⟩,fun z H3 y=>⟨y.1,xs[i],B1 hi,rs.at_ i z _ (y.2 vs (s2.tup hq)) (B1 hi)⟩⟩⟩
def e7 (lo:Int) (n:Nat):List U:=(Ds n).map fun (i:Nat)=>U.int (lo+(i:Int))
theorem bY {lo:Int}{n:Nat}:(e7 lo n).length=n:=by simp[e7]
theorem kY {lo:Int}{n i:Nat} (h:i < n):(e7 lo n)[i]?=some (.int (lo+(i:Int))):=by
 unfold e7
 rw[Cb,FC h];rfl
theorem dR {lo:Int}{n i:Nat}{x:U} (h:(e7 lo n)[i]?=some x):i < n∧x=.int (lo+(i:Int)):=by
 have hi:=aF h
 rw[bY] at hi
 rw[kY hi] at h
 exact ⟨hi,(Du h).symm⟩
theorem jv {K:B2}{G:Hp}{lo:Int}{n:Nat}:Yl K (Itr lo n) G (e7 lo n):=fun H2 s2=>by
 rw[bY]
 refine ⟨fun i hi=>⟨hi,fun z H3 y=>⟨y.1,_,kY hi,?_⟩⟩,B9 _⟩
 rw[y.2];exact .int _
theorem wc {j:Int} (hg:Gl X "range") (hm:X.mg "range"=none) (ha:EvA X H0 O0 ps [a] [.int j]) (h1:-(2 ^ 62)≤j) (h2:j < 2 ^ 62) (hs:Ce [a] X.env=[(false,eval a X.env)]:=by rfl):EvI X H0 O0 ps tg (.Call (.Name "range" p) [a] [] pos) (e7 0 j.toNat):=
 PI.mono (tw hg hm ha hs) fun σ H Q ⟨O,R,q⟩=>⟨O,R,fun vs H' s r=>by
  obtain ⟨v,rfl,h⟩:=cB r
  cases h
  exact ⟨j,rfl,h1,h2,q _ H' s jv⟩⟩
theorem Rs.rebase {K:B2}{σ:St}{H:Hp}{O:List Addr} (R:Rs K H0 O0 ps σ H O):Rs K (hid H (O.filter fun a=>decide (a ∉ O0))) O0 ps σ H O:=
 ⟨ax,R.old,fun a ha=>by
  by_cases h:a∈O0
  ·exact .inl h
  ·right;unfold hid;rw[if_pos (CS.mpr ⟨ha,by simpa using h⟩)],R.dom,R.len,R.at_,R.inj⟩
theorem Rs.base {K:B2}{σ:St}{H:Hp}{O:List Addr} (R:Rs K H0 O0 ps σ H O):aK H0 (hid H (O.filter fun a=>decide (a ∉ O0))):=fun b o h=>by
 refine dy (R.same b o h) fun z=>?_
 obtain ⟨z1,z2⟩:=CS.mp z
 rcases R.new b z1 with y |y
 ·simp[y] at z2
 ·rw[h] at y;cases y
theorem Rs.unbase {K:B2}{H1:Hp}{σ:St}{H:Hp}{O:List Addr} (e:aK H0 H1) (R:Rs K H1 O0 ps σ H O):Rs K H0 O0 ps σ H O:=
 ⟨e.trans R.same,R.old,fun a ha=>(R.new a ha).imp id fun z=>e.free z,R.dom,R.len,R.at_,R.inj⟩
theorem Rs.seen {K:B2}{ps2:PSt}{σ σ2:St}{H H2:Hp}{O O2:List Addr} (R:Rs K H0 O0 ps σ H O) (R2:Rs K (hid H (O.filter fun a=>decide (a ∉ O0))) O0 ps2 σ2 H2 O2):aK (hid H O) (hid H2 O2):=fun b o h=>by
 obtain ⟨h1,h2⟩:=gL h
 have h3:hid H (O.filter fun a=>decide (a ∉ O0)) b=some o:=dy h1 fun z=>h2 (CS.mp z).1
 refine dy (R2.same b o h3) fun z=>?_
 rcases R2.new b z with y |y
 ·exact h2 (R.old b y)
 ·rw[h3] at y;cases y
theorem Bc (hc:X.calm=true) (hp:Ja (model X.prog X.w) X.A X.env X.xe) (hi:EvI X H0 O0 ps tg iter xs) (Iv:Nat→PSt→Prop) (h0:Iv 0 ps)
  (hs:∀(H0:Hp) (i:Nat) (x:U) (ps:PSt),xs[i]?=some x→Iv i ps→∃ps',TgS X H0 O0 tg ps x ps'∧Ws X H0 O0 E body {D with nx:=Iv (i+1),ct:=Iv (i+1),bk:=D.nx } ps') (hd:∀ps,Iv xs.length ps→D.nx ps)
  (hf:∀x,DW iter X.env x=pure x:=by intro _;rfl):W1 X H0 O0 E (.For tg iter body [] pos) D ps:=by
 have hg:PG X tg fun v σ H Q=>∃H1 ps u ps',TgS X H1 O0 tg ps u ps'∧∃O,Rs X.K H1 O0 ps σ H O∧Rp X.K (hid H O) v u∧∀σ' H',aK H H'→Rs X.K H1 O0 ps' σ' H' O→Q σ' H':=
  fun pins s σ H v u Q I r ⟨H1,ps,w,ps',t,z⟩=>t pins s σ H v u Q I r z
 have hb:PSs X body fun D' σ H=>∃H1 D1 ps',Ws X H1 O0 E body D1 ps'∧Lf X.K H1 O0 E D1 D'∧∃O,Rs X.K H1 O0 ps' σ H O:=fun pins s σ H D' I ⟨H1,D1,ps',w,z⟩=>w pins s σ H D' I z
 refine PS.mono (zZ hp hc hi hg hb hf) fun D' σ H ⟨L,O,R⟩=>⟨O,R,fun J H1 s1 Y=>?_⟩
 have R1:=R.go s1
 have base:=R1.base
 refine ⟨fun i m σ H=>m=xs.length - i∧i≤xs.length∧∃ps O',Iv i ps∧Rs X.K (hid H1 (O.filter fun a=>decide (a ∉ O0))) O0 ps σ H O',⟨_,rfl,DB _,ps,O,h0,R1.rebase⟩,?_⟩
 rintro i m σ2 H2 ⟨rfl,hi2,ps2,O2,iv,R2⟩
 have seen:=R1.seen R2
 obtain ⟨y1,y2⟩:=Y H2 (seen.trans ax)
 by_cases hlt:i < xs.length
 ·obtain ⟨g1,g2⟩:=y1 i hlt
  refine .inr ⟨g1,fun σ' H'=>∃ps O',Iv (i+1) ps∧Rs X.K (hid H1 (O.filter fun a=>decide (a ∉ O0))) O0 ps σ' H' O',fun σ' H' z=>⟨xs.length - (i+1),by lia,rfl,hlt,z⟩,fun x H3 y=>?_⟩
  obtain ⟨rfl,u,hu,r⟩:=g2 x H3 y
  obtain ⟨ps',t,w⟩:=hs (hid H1 (O.filter fun a=>decide (a ∉ O0))) i u ps2 hu iv
  refine ⟨_,ps2,u,ps',t,O2,R2,r.same seen,fun σ' H' s' R'=>⟨_,_,ps',w,?_,O2,R'⟩⟩
  exact ⟨fun p σ H O R q=>⟨p,O,q,R⟩,fun p σ H O R q=>L.nx _ _ _ _ (R.unbase base) q,fun p σ H O R q=>⟨p,O,q,R⟩,fun o q=>(L.rt o q).later base⟩
 ·have e:i=xs.length:=by lia
  subst e
  exact .inl ⟨y2,L.nx _ _ _ _ (R2.unbase base) (hd ps2 iv)⟩
theorem yC (hp:Ja (model X.prog X.w) X.A X.env X.xe) (Iv:Nat→PSt→Prop) (m:Nat) (h0:Iv m ps)
  (hs:∀m ps,Iv m ps→∃b,Tt X H0 O0 ps c b∧(b=true→Ws X H0 O0 E body {D with nx:=fun p=>∃m',m' < m∧Iv m' p,ct:=fun p=>∃m',m' < m∧Iv m' p,bk:=D.nx } ps)∧(b=false→D.nx ps)):W1 X H0 O0 E (.While c body [] pos) D ps:=by
 have ht:PT X c fun σ H Q=>∃ps b,Tt X H0 O0 ps c b∧∃O,Rs X.K H0 O0 ps σ H O∧∀H',aK H H'→Q b H':=fun pins s σ H Q I ⟨ps,b,t,z⟩=>t pins s σ H Q I z
 have hb:PSs X body fun D' σ H=>∃D1 ps',Ws X H0 O0 E body D1 ps'∧Lf X.K H0 O0 E D1 D'∧∃O,Rs X.K H0 O0 ps' σ H O:=fun pins s σ H D' I ⟨D1,ps',w,z⟩=>w pins s σ H D' I z
 refine PS.mono (wC hp ht hb) fun D' σ H ⟨L,O,R⟩=>⟨fun m σ H=>∃ps O,Iv m ps∧Rs X.K H0 O0 ps σ H O,⟨m,ps,O,h0,R⟩,?_⟩
 rintro m σ2 H2 ⟨ps2,O2,iv,R2⟩
 obtain ⟨b,t,h1,h2⟩:=hs m ps2 iv
 refine ⟨ps2,b,t,O2,R2,fun H3 s3=>?_⟩
 cases b with
 |true=>
  refine tU ⟨fun σ H=>∃m',m' < m∧∃ps O,Iv m' ps∧Rs X.K H0 O0 ps σ H O,fun σ' H' z=>z,_,ps2,h1 rfl,?_,O2,R2.go s3⟩
  exact ⟨fun p σ H O R ⟨m',l,q⟩=>⟨m',l,p,O,q,R⟩,fun p σ H O R q=>L.nx _ _ _ _ R q,fun p σ H O R ⟨m',l,q⟩=>⟨m',l,p,O,q,R⟩,L.rt⟩
 |false=>exact sR (L.nx _ _ _ _ (R2.go s3) (h2 rfl))
def eu:List Nat→PSt→PSt
 |[],ps=>ps
 |i::is,ps=>eu is (ps.set i none)
theorem Rs.mask {K:B2}{H:Hp}{O:List Addr}:∀{is:List Nat}{ps:PSt}{σ:St},Rs K H0 O0 ps σ H O→Rs K H0 O0 (eu is ps) (L2.mask is σ) H O
 |[],ps,σ,R=>R
 |i::is,ps,σ,R=>Rs.mask (is:=is) (R.drop (i:=i) (o:=none))
theorem Rs.hide {K:B2}{σ:St}{H H':Hp}{O:List Addr}{l:Addr} (R:Rs K H0 O0 ps σ H O) (e:aK H H') (n:H l=none) (d:H' l≠none):Rs K H0 O0 ps σ H' (l::O):=by
 refine ⟨R.same.trans e,fun a ha=>B4 _ (R.old a ha),fun a ha=>?_,fun a ha z=>?_,R.len,fun i s h=>?_,R.inj⟩
 ·rcases Cd.mp ha with y |y
  ·subst y;exact .inr (R.same.free n)
  ·exact R.new a y
 ·rcases Cd.mp ha with y |y
  ·subst y;exact d z
  ·exact R.dom a y (e.free z)
 ·obtain ⟨w,h1,h2⟩:=R.at_ i s h
  refine ⟨w,h1,?_⟩
  cases s with
  |val u=>exact Rp.same (bF e n) h2
  |own ys=>
   obtain ⟨b,ws,k1,k2,k3,k4,k5⟩:=h2
   exact ⟨b,ws,k1,B4 _ k2,k3,e _ _ k4,k5.same (bF e n)⟩
  |pin z u=>exact ⟨h2.1,Rp.same (bF e n) h2.2⟩
theorem oh {js is:List Nat}:∀{σ:St}{vs:List V},(∀j∈js,j∈is)→∀(n:Nat) (v:V),n ∉ is→σ[n]?=some (some v)→(i_ σ js vs)[n]?=some (some v):=by
 induction js with
 |nil=>intro σ vs _ n v _ h;cases vs <;>exact h
 |cons j js ih=>
  intro σ vs hj n v hn h
  cases vs with
  |nil=>exact h
  |cons w ws=>exact ih (fun z hz=>hj z (B4 _ hz)) n v hn (by rw[CQ (fun z=>hn (by rw[←z];exact hj j Ci))];exact h)
def GOk (g:TG) (K:B2) (is:List Nat) (f:PSt→U→PSt) (dom:U→Prop):Prop:=
 ∀(H0:Hp) (O0:List Addr) (ps:PSt) (σ:St) (H:Hp) (O:List Addr) (v:V) (u:U) (Q:St→Hp→Prop),dom u→Rs K H0 O0 ps σ H O→Rp K (hid H O) v u→
  (∀σ',Rs K H0 O0 (f ps u) σ' H O→(∀(n:Nat) (w:V),n ∉ is→σ[n]?=some (some w)→σ'[n]?=some (some w))→Q σ' H)→g v σ H Q
theorem cI {K:B2}{is:List Nat}{i:Nat} (h:i∈is):GOk (nh i) K is (fun ps u=>ps.set i (some (.val u))) fun _=>True:=fun H0 O0 ps σ H O v u Q _ R r q=>
 q _ (R.set r) fun n w hn e=>by rw[CQ (fun z=>hn (by rw[←z];exact h))];exact e
theorem qH {K:B2}{is js:List Nat} (h:∀j∈js,j∈is):GOk (AX K js.length (lU js)) K is (fun ps u=>match u with | .tup us=>setAll ps js us |_=>ps) fun u=>∃us,u=.tup us∧us.length=js.length:=fun H0 O0 ps σ H O v u Q d R r q=>by
 obtain ⟨us,rfl,hl⟩:=d
 cases r with
 |tup hq hl' hh=>exact ⟨_,_,rfl,ax.tup hq,hl'.trans hl,iC (hl'.trans hl) (q _ (R.setAll ⟨hl',hh⟩) fun n w hn e=>oh h n w hn e)⟩
theorem k_ {is:List Nat}{g:TG}{f:PSt→U→PSt}{dom:U→Prop}{σ:St}{H1:Hp}{O:List Addr}{Q:VK}{J:It}{te:TE} (hg:GOk g X.K is f dom) (R1:Rs X.K H0 O0 ps σ H1 O) (Y:Yl X.K J (hid H1 O) xs) (hlen:ys.length=xs.length) (hz:xs.length≤sizeLine) (hdom:∀x∈xs,dom x)
  (hte:∀(i:Nat) (x y:U) (σ:St) (H:Hp) (O':List Addr) (Q:VK),xs[i]?=some x→ys[i]?=some y→Rs X.K H0 O0 (f (eu is ps) x) σ H O'→(∀v H',aK H H'→Rp X.K (hid H' O') v y→Q v H')→te σ H Q)
  (fin:∀a vs H',aK H1 H'→H1 a=none→H' a=some (.lst vs)→Rps X.K (hid H' (a::O)) vs ys→Q (.ref a) H'):yS is g te σ Q J H1:=by
 intro l hl
 refine ⟨fun i m H2=>m=xs.length - i∧i≤xs.length∧aK H1 H2∧∃vs,H2 l=some (.lst vs)∧vs.length=i∧Rps X.K (hid H2 (l::O)) vs (ys.take i),⟨_,rfl,DB _,aZ hl _,[],aY,rfl,by rw[JH];exact .nil⟩,?_⟩
 rintro i m H2 ⟨rfl,hi,s2,vs,h2,hv,rs⟩
 have seen:aK (hid H1 O) (hid H2 (l::O)):=bF s2 hl
 obtain ⟨y1,y2⟩:=Y H2 (seen.trans ax)
 by_cases hlt:i < xs.length
 ·obtain ⟨g1,g2⟩:=y1 i hlt
  refine .inr ⟨g1,fun x H3 y=>?_⟩
  obtain ⟨rfl,u,hu,r⟩:=g2 x H3 y
  have R2:=(R1.mask (is:=is)).hide s2 hl (by rw[h2];intro z;cases z)
  refine hg H0 O0 _ _ H3 (l::O) x u _ (hdom u (Cu hu)) R2 (r.same seen) fun σ4 R4 keep=>?_
  have hy:ys[i]?=some (ys[i]'(by lia)):=B1 _
  refine hte i u _ σ4 H3 (l::O) _ hu hy R4 fun v H5 s5 r5=>⟨fun j w e=>keep j w (ik is σ j w e).2 e,vs,s5 _ _ h2,?_,xs.length - (i+1),by lia,rfl,hlt,(s2.trans s5).put hl _,vs++[v],aY,by simp[hv],?_⟩
  ·rw[hv];lia
  ·rw[mm Ci,FL,hy]
   exact (rs.same (bi s5)).snoc (.cons r5 .nil)
 ·have e:i=xs.length:=by lia
  subst e
  rw[←hlen,EX] at rs
  exact .inl ⟨y2,fin l vs H2 s2 hl h2 rs⟩
theorem fT {elt:Expr}{scope:Scope}{cl:List (Str×Addr)}{is:List Nat}{g:TG}{f:PSt→U→PSt}{dom:U→Prop} (hc:X.calm=true) (B:df X scope cl is) (hi:EvI X H0 O0 ps tg iter xs) (hg:∀C s H fp,PG (ay X scope cl C s H fp) tg g) (gk:GOk g X.K is f dom)
  (hlen:ys.length=xs.length) (hz:xs.length≤sizeLine) (hdom:∀x∈xs,dom x) (he:∀C s H fp (i:Nat) (x y:U),xs[i]?=some x→ys[i]?=some y→Ev (ay X scope cl C s H fp) H0 O0 (f (eu is ps) x) elt y)
  (hs:∀x,DW iter X.env x=pure x:=by intro _;rfl):EvN X H0 O0 ps (.ListComp elt [⟨tg,iter,[],0⟩] scope pos) ys:=by
 have hte:∀C s H fp,PE (ay X scope cl C s H fp) elt fun σ H Q=>∃i x y,xs[i]?=some x∧ys[i]?=some y∧∃O',Rs X.K H0 O0 (f (eu is ps) x) σ H O'∧∀v H',aK H H'→Rp X.K (hid H' O') v y→Q v H':=
  fun C s H fp pins s' σ H' Q I ⟨i,x,y,h1,h2,z⟩=>he C s H fp i x y h1 h2 pins s' σ H' Q I z
 refine PE.mono (xA hc B hi hg hte hs) fun σ H Q ⟨O,R,q⟩=>⟨O,R,fun J H1 s1 Y=>?_⟩
 exact k_ gk (R.go s1) Y hlen hz hdom (fun i x y σ H O' Q h1 h2 R' z=>⟨i,x,y,h1,h2,O',R',z⟩) fun a vs H' s n h r=>q a vs H' (s1.trans s) (s1.free n) h r
theorem kZ {elt:Expr}{scope:Scope}{cl:List (Str×Addr)}{spos py:Pos}{y:Str}{j:Nat}{is:List Nat}{g:TG}{f:PSt→U→PSt}{dom:U→Prop} (own:Bool) (hc:X.calm=true) (hN:X.N.Nodup) (hj:X.N[j]?=some y) (hy:Loc X.env.scope y) (B:df X scope cl is)
  (hi:EvI X H0 O0 ps tg iter xs) (hg:∀C s H fp,PG (ay X scope cl C s H fp) tg g) (gk:GOk g X.K is f dom) (hlen:ys.length=xs.length) (hz:xs.length≤sizeLine) (hdom:∀x∈xs,dom x)
  (he:∀C s H fp (i:Nat) (x y:U),xs[i]?=some x→ys[i]?=some y→Ev (ay X scope cl C s H fp) H0 O0 (f (eu is ps) x) elt y) (h:D.nx (ps.set j (some (if own then .own ys else .val (.lst ys)))))
  (hs:∀x,DW iter X.env x=pure x:=by intro _;rfl)
  (hsw:Fv (.ListComp elt [⟨tg,iter,[],0⟩] scope pos) (some (.Name y py)) spos.line X.env=pure true:=by rfl) (hf:X.fn y=true∨X.env.scope.names.lookup y=some .local:=by first |exact .inl rfl |exact .inr rfl |assumption):
  W1 X H0 O0 E (.Assign [.Name y py] (.ListComp elt [⟨tg,iter,[],0⟩] scope pos) spos) D ps:=by
 have hte:∀C s H fp,PE (ay X scope cl C s H fp) elt fun σ H Q=>∃i x y,xs[i]?=some x∧ys[i]?=some y∧∃O',Rs X.K H0 O0 (f (eu is ps) x) σ H O'∧∀v H',aK H H'→Rp X.K (hid H' O') v y→Q v H':=
  fun C s H fp pins s' σ H' Q I ⟨i,x,y,h1,h2,z⟩=>he C s H fp i x y h1 h2 pins s' σ H' Q I z
 refine PS.mono (p_ hc hN hj hy B hi hg hte hs hsw hf) fun D' σ H ⟨L,O,R⟩=>⟨O,R,fun J H1 s1 Y=>?_⟩
 refine k_ gk (R.go s1) Y hlen hz hdom (fun i x y σ H O' Q h1 h2 R' z=>⟨i,x,y,h1,h2,O',R',z⟩) fun a vs H' s n h' r=>?_
 cases own with
 |true=>exact L.nx _ _ _ _ ((R.go s1).own s n h' r) h
 |false=>
  have na:a ∉ O:=fun z=>(R.go s1).dom a z n
  have r':=r.same (dh fun b hb=>B4 a hb)
  exact L.nx _ _ _ _ (((R.go s1).go s).set (.lst (dy h' na) r'.len r'.at_)) h
end
def spU (K:B2) (spec:List U→Out→Prop):Sp:=fun vs H Q E=>∃us O o,(∀a∈O,H a≠none)∧Rps K (hid H O) vs us∧spec us o∧nq K H O Q E o
section
variable {X:Cx}{H0:Hp}{O0:List Addr}{E:XK}{ps ps':PSt}{D:PD}{s:Stmt}{ss body:List Stmt}{a b c e:Expr}{es:List Expr}{pos p:Pos}{u x y:U}{xs ys us:List U}{k:Bool}
 {CX:CXT}{n:Nat}{f C:Addr}{fd:CN}{pn:List Str}{spec:List U→Out→Prop}{nm:Str}
theorem aM (F:a_ X.prog X.w X.K X.mg X.base CX n f fd pn (spU X.K spec)) (hr:dc n X.A) (hg:Gl X nm) (hm:X.mg nm=some (.ref f)) (hk:Cj X.K (.ref f)=true) (hb:aG X.K fd pn []) (hx:e8 CX X E0)
  (ha:EvA X H0 O0 ps (e::es) us) (h:spec us (.val u)) (hdb:(nm==("__debug__":Str))=false:=by decide) (he:Ce (e::es) X.env=(false,eval e X.env)::Ce es X.env:=by rfl) (hpl:(Fp pos (Ce es X.env)).any (·.1)=false:=by rfl):
  Ev X H0 O0 ps (.Call (.Name nm p) (e::es) [] pos) u:=
 PE.mono (h_ F hr hg hm hk hb .nil hx ha hdb he hpl) fun σ H Q ⟨O,R,q⟩=>⟨O,R,fun vs H1 s1 r1=>by
  show spU X.K spec (vs++[]) H1 Q _
  rw[DG]
  exact ⟨us,O,.val u,(R.go s1).dom,r1,h,fun v H2 s2 r2=>q v H2 (s1.trans s2) r2⟩⟩
theorem du (F:a_ X.prog X.w X.K X.mg X.base CX n f fd pn (spU X.K spec)) (hr:dc n X.A) (hg:Gl X nm) (hm:X.mg nm=some (.ref f)) (hk:Cj X.K (.ref f)=true) (hb:aG X.K fd pn []) (hx:e8 CX X E0)
  (ha:EvA X H0 O0 ps (e::es) us) (h:spec us (.new xs)) (hdb:(nm==("__debug__":Str))=false:=by decide) (he:Ce (e::es) X.env=(false,eval e X.env)::Ce es X.env:=by rfl) (hpl:(Fp pos (Ce es X.env)).any (·.1)=false:=by rfl):
  EvN X H0 O0 ps (.Call (.Name nm p) (e::es) [] pos) xs:=
 PE.mono (h_ F hr hg hm hk hb .nil hx ha hdb he hpl) fun σ H Q ⟨O,R,q⟩=>⟨O,R,fun vs H1 s1 r1=>by
  show spU X.K spec (vs++[]) H1 Q _
  rw[DG]
  exact ⟨us,O,.new xs,(R.go s1).dom,r1,h,fun a vs H2 s2 n2 h2 r2=>q a vs H2 (s1.trans s2) (s1.free n2) h2 r2⟩⟩
def Xv (X:Cx) (H0:Hp) (O0:List Addr) (E:XK) (ps:PSt) (e:Expr) (C:Addr):Prop:=PE X e fun σ H _=>∃O,Rs X.K H0 O0 ps σ H O∧∀H',aK H H'→E (.ref C) none H'
theorem uT (F:a_ X.prog X.w X.K X.mg X.base CX n f fd pn (spU X.K spec)) (hr:dc n X.A) (hg:Gl X nm) (hm:X.mg nm=some (.ref f)) (hk:Cj X.K (.ref f)=true) (hb:aG X.K fd pn []) (hx:e8 CX X E)
  (ha:EvA X H0 O0 ps (e::es) us) (h:spec us (.exc C)) (hdb:(nm==("__debug__":Str))=false:=by decide) (he:Ce (e::es) X.env=(false,eval e X.env)::Ce es X.env:=by rfl) (hpl:(Fp pos (Ce es X.env)).any (·.1)=false:=by rfl):
  Xv X H0 O0 E ps (.Call (.Name nm p) (e::es) [] pos) C:=
 PE.mono (h_ F hr hg hm hk hb .nil hx ha hdb he hpl) fun σ H Q ⟨O,R,q⟩=>⟨O,R,fun vs H1 s1 r1=>by
  show spU X.K spec (vs++[]) H1 Q _
  rw[DG]
  exact ⟨us,O,.exc C,(R.go s1).dom,r1,h,fun H2 s2=>q H2 (s1.trans s2)⟩⟩
theorem re (he:Xv X H0 O0 E ps e C) (h:D.rt (.exc C)) (hs:Fv e none pos.line X.env=pure false:=by rfl):W1 X H0 O0 E (.Expr e pos) D ps:=
 PS.mono (gY he hs) fun D' σ H ⟨L,O,R⟩=>⟨O,R,fun H' s=>L.rt _ h H' (R.same.trans s)⟩
end
section
variable {P:Cy}{w:World}{K:B2}{mg:Str→Option Value}{base:Heap}{N pn:List Str}{qual nm:Str}{scope:Scope}{f:Addr}{cd:Value}{A:Dc}{outer:List Env}{s:B7}{H H0:Hp}{O0:List Addr}{E:XK}{D:PD}{ps:PSt}{u:U}
theorem jc {x:Str}{C:Addr}{e0:Expr}{np cpos pos:Pos} (hex:Fh K C [.type "ValueError",.type "Exception",.type "BaseException",.type "object"] "ValueError.__new__"=true)
  (hg:Gl (dY (CXF P w) P w K mg base N qual scope f cd A outer s H E) x) (hm:mg x=some (.ref C)) (he:Ev (dY (CXF P w) P w K mg base N qual scope f cd A outer s H E) H0 O0 ps e0 u) (h:D.rt (.exc C))
  (hst:Ce [e0] (dY (CXF P w) P w K mg base N qual scope f cd A outer s H E).env=[(false,eval e0 (dY (CXF P w) P w K mg base N qual scope f cd A outer s H E).env)]:=by rfl) (hd:(x==("__debug__":Str))=false:=by decide):
  W1 (dY (CXF P w) P w K mg base N qual scope f cd A outer s H E) H0 O0 E (.Raise (some (.Call (.Name x np) [e0] [] cpos)) none pos) D ps:=
 PS.mono (uJ hex hg hm he hst hd) fun D' σ H ⟨L,O,R⟩=>⟨O,R,fun v H' s r=>L.rt _ h H' (R.same.trans s)⟩
def fD (N:List Str) (us:List U):PSt:=us.map (fun u=>some (.val u))++Ly (N.length - us.length) none
theorem bn {st:Stmt}{fd:CN}{k:Nat}{spec:List U→Out→Prop} (F:Fun K nm qual st f fd) (S:aw N pn (ai st)) (len:∀us o,spec us o→us.length=pn.length)
  (hbody:∀(cdv:Value) (A:Dc) (outer:List Env) (s:B7) (H:Hp) (E:XK) (O:List Addr) (us:List U) (o:Out),dc k (A.deeper (Gw qual (ai st) s.heap.objs.size f cdv))→spec us o→
   Ws (dY (CXF P w) P w K mg base N qual (ai st) f cdv A outer s H E) H O E (au st) ⟨fun _=>o=.val .non,fun o'=>o'=o,fun _=>False,fun _=>False⟩ (fD N us)):a_ P w K mg base (CXF P w) (k+1) f fd pn (spU K spec):=by
 refine F.okF S (fun vs H Q E h=>?_) fun cdv A outer s H vs Q E hr h=>?_
 ·obtain ⟨us,O,o,_,r,hsp,_⟩:=h
  rw[r.len];exact len us o hsp
 ·obtain ⟨us,O,o,d,r,hsp,q⟩:=h
  refine ⟨_,hbody cdv A outer s H E O us o hr hsp,⟨fun ps σ H' O' R e=>?_,fun _ _ _ _ _ e=>e.elim,fun _ _ _ _ _ e=>e.elim,fun o' e=>by subst e;exact q⟩,O,?_⟩
  ·subst e;exact q .non H' R.same .non
  ·refine ⟨.refl H,fun a h=>h,fun a h=>.inl h,d,?_,fun i sl e=>?_,fun i j xs ys a e1 e2 _ _=>?_⟩
   ·unfold start fD
    rw[CW,CW,B3,B3,Fg,Fg,r.len]
   ·unfold fD at e
    by_cases hi:i < us.length
    ·rw[CF (by simpa using hi),Cb,B1 hi] at e
     cases e
     obtain ⟨v,h1,h2⟩:=r.get (B1 hi)
     refine ⟨v,?_,h2⟩
     unfold start
     rw[CF (by simpa [r.len] using hi),Cb,h1];rfl
    ·rw[CG (by simpa using hi),E1] at e
     split at e <;>cases e
   ·exfalso
    unfold fD at e1
    by_cases hi:i < us.length
    ·rw[CF (by simpa using hi),Cb,B1 hi] at e1
     cases e1
    ·rw[CG (by simpa using hi),E1] at e1
     split at e1 <;>cases e1
end
section
variable {X:Cx}{H0:Hp}{O0:List Addr}{ps:PSt}{a b c e:Expr}{es rest:List Expr}{pos p p2:Pos}{u x y:U}{xs ys us:List U}{i j:Int}{k m:Bool}{lo hi:Option Expr}{l h:Option Int}
def EvO (X:Cx) (H0:Hp) (O0:List Addr) (ps:PSt) (e:Option Expr) (n:Option Int):Prop:=PO X e fun σ H Q=>∃O,Rs X.K H0 O0 ps σ H O∧∀H',aK H H'→Q n H'
theorem jn:EvO X H0 O0 ps none none:=fun pins s σ H Q I ⟨O,R,q⟩=>xj pins s σ H Q I (q H (.refl H))
theorem gO (he:Ev X H0 O0 ps e (.int i)):EvO X H0 O0 ps (some e) (some i):=fun pins s σ H Q I ⟨O,R,q⟩=>yE he pins s σ H Q I ⟨O,R,fun v H' s r=>by cases r;exact ⟨i,rfl,q H' s⟩⟩
def gJ (xs:List U) (lo hi:Option Int):List U:=(xs.drop (HT.sIx xs.length 0 lo)).take (HT.sIx xs.length xs.length hi - HT.sIx xs.length 0 lo)
theorem Rps.drop {K:B2}{H:Hp}{vs:List V}{xs:List U} (r:Rps K H vs xs) (n:Nat):Rps K H (vs.drop n) (xs.drop n):=⟨by simp[r.len],fun i v x h1 h2=>r.at_ _ v x (by rwa [Fi] at h1) (by rwa [Fi] at h2)⟩
theorem Rps.take {K:B2}{H:Hp}{vs:List V}{xs:List U} (r:Rps K H vs xs) (n:Nat):Rps K H (vs.take n) (xs.take n):=⟨by simp[r.len],fun i v x h1 h2=>by
 by_cases hn:i < n
 ·rw[Eu hn] at h1 h2
  exact r.at_ i v x h1 h2
 ·rw[List.getElem?_take_eq_none (by lia)] at h1
  cases h1⟩
theorem Rps.cut {K:B2}{H:Hp}{vs:List V}{xs:List U} (r:Rps K H vs xs):Rps K H (sr vs l h) (gJ xs l h):=by
 unfold sr gJ
 rw[r.len]
 exact (r.drop _).take _
theorem f_ (he:Ev X H0 O0 ps e x) (hl:EvO X H0 O0 ps lo l) (hh:EvO X H0 O0 ps hi h) (hx:x=.lst xs∨x=.scr xs):EvN X H0 O0 ps (.Subscript e (.Slice lo hi none p2) pos) (gJ xs l h):=
 PE.mono (uQ w6 he hl hh) fun σ H Q ⟨O,R,q⟩=>⟨O,R,fun v H1 s1 r1=>⟨O,R.go s1,fun H2 s2=>⟨O,R.go (s1.trans s2),fun H3 s3=>by
  have key:∃a vs,v=.ref a∧SqL X.K (hid H1 O) a vs∧Rps X.K (hid H1 O) vs xs:=by
   rcases hx with rfl |rfl
   ·cases r1 with
    |lst hq hl hh=>exact ⟨_,_,rfl,SqL.of hq,hl,hh⟩
   ·cases r1 with
    |scr hq hl hh=>exact ⟨_,_,rfl,hq,hl,hh⟩
  obtain ⟨a,vs,rfl,hq,rs⟩:=key
  have s13:=s2.trans s3
  refine ⟨a,vs,rfl,s13.seq (ax.seq hq),fun p hp=>q p _ _ ((s1.trans s13).trans (aZ hp _)) ((s1.trans s13).free hp) aY ?_⟩
  exact (rs.cut.same (bi s13)).same (bF (aZ hp _) hp)⟩⟩⟩
theorem uZ (ha:Ev X H0 O0 ps a (.lst xs)) (hb:Ev X H0 O0 ps b (.lst ys)) (hz:xs.length+ys.length≤sizeLine):EvN X H0 O0 ps (.BinOp a .Add b pos) (xs++ys):=
 PE.mono (vD zF ha hb) fun σ H Q ⟨O,R,q⟩=>two R (fun _ _ _ z=>z) (fun _ _ _ z=>z) fun v w H' s _ r1 r2=>by
  cases r1 with
  |lst hq hl hh=>
   cases r2 with
   |lst hq' hl' hh'=>
    refine ⟨_,_,_,_,rfl,rfl,ax _ _ hq,ax _ _ hq',by rw[hl,hl'];exact hz,fun p hp=>q p _ _ (s.trans (aZ hp _)) (s.free hp) aY ?_⟩
    exact (Rps.snoc ⟨hl,hh⟩ ⟨hl',hh'⟩).same (bF (aZ hp _) hp)
def fl:U→V
 | .bl b=>.bl b | .int i=>.int i | .str x=>.str x |_=>.non
def v8:U→Bool
 | .bl _=>true | .int _=>true | .str _=>true | .non=>true |_=>false
theorem y6 {K:B2}{H:Hp}{v:V}{u:U} (h:Rp K H v u) (f:v8 u=true):v=fl u∧gB v=true:=by
 cases h <;>first |exact ⟨rfl,rfl⟩ |simp[v8] at f
theorem uv {K:B2}{H:Hp}:∀{vs:List V}{xs:List U},Rps K H vs xs→xs.all v8=true→vs=xs.map fl∧vs.all gB=true
 |vs,[],r,_=>by rw[r.nil_inv];exact ⟨rfl,rfl⟩
 |vs,x::xs,r,f=>by
  obtain ⟨v,ws,rfl,h1,h2⟩:=r.cons_inv
  simp only[GI,DL] at f
  obtain ⟨e1,e2⟩:=y6 h1 f.1
  obtain ⟨e3,e4⟩:=uv h2 f.2
  refine ⟨by rw[CY,←e1,←e3],?_⟩
  simp only[GI,DL]
  exact ⟨e2,e4⟩
theorem BE (hx:v8 x=true) (hy:y.items=some ys) (hf:ys.all v8=true):OpS X (El .In) x y (.bl (inV (fl x) (ys.map fl))):=by
 intro pins s σ H v w p q Q I r1 r2 h
 obtain ⟨k1,k2,k3⟩:=h
 obtain ⟨a,vs,rfl,h1,h2⟩:=mi k2 hy
 obtain ⟨e1,e2⟩:=y6 k1 hx
 obtain ⟨e3,e4⟩:=uv h2 hf
 exact sO pins s σ H v _ p q Q I r1 r2 ⟨a,vs,rfl,h1,e2,e4,by rw[e1,e3];exact k3⟩
theorem Bh {bs:List Bool} (hc:X.calm=true):gC X (.builtin "all") [.lst (bs.map U.bl)] (.bl (bs.all id)):=by
 intro pins s σ H vs us Q I r hq
 obtain ⟨O,d,rs,q⟩:=hq
 obtain ⟨v,rfl,h1⟩:=cB rs
 obtain ⟨p1,rfl,r1⟩:=fk r
 cases h1 with
 | @lst a ws _ hq hl hh=>
  cases r1
  obtain ⟨its,rv,pl,_⟩:=I.list (SqL.of (ax _ _ hq))
  have hlen:its.length=bs.length:=by rw[←rv.length,hl,B3]
  have hat:∀(i:Nat) (z:Value),its.toArray[i]?=some z→z=.bool (bs.getD i false):=fun i z e=>by
   have hi:i < its.length:=by have:=aF (show its[i]?=some z by simpa using e);exact this
   have hb:i < bs.length:=by lia
   have hw:i < ws.length:=by rw[rv.length];exact hi
   obtain ⟨u,e1,e2⟩:=rv.get (B1 hw)
   have e3:=hh i ws[i] (.bl bs[i]) (B1 hw) (by rw[Cb,B1 hb];rfl)
   have e4:its[i]?=some z:=by simpa using e
   rw[e4] at e1
   cases e1
   generalize ws[i]=wi at *
   cases e3
   rw[CC,B1 hb]
   exact e2
  refine call_all_walk (EM pl.isList ?_)
  have hne:a≠s.heap.objs.size:=by obtain ⟨o,e,_⟩:=pl.isList;exact CP (Cf e)
  refine ⟨s.heap.objs.size,_,_,_,_,_,fun i=>bs.getD i false,rfl,Walks.list (A:=X.A.in1) (I.ok.hd hc) s.heap.objs.size a hne its.toArray,⟨⟨_,Cm _ rfl,rfl,rfl⟩,pl.isList.push _⟩,fun i z s' Q' E' hP hQ=>?_,fun h' tk hk=>?_⟩
  ·rw[hat i z hP];exact E5 hQ
  ·have e:(Ds its.toArray.size).all (fun i=>bs.getD i false)=bs.all id:=by
    rw[Cp,hlen,Ek,kI,Hv]
    constructor
    ·intro h x hx
     obtain ⟨i,hi,rfl⟩:=DP hx
     have:=h i hi
     rwa [CC,B1 hi] at this
    ·intro h j hj
     rw[CC,B1 hj]
     exact h _ (Dm hj)
   rw[e]
   refine ⟨.bl _,H,I.kept (t':=tk) fun b o e=>hk b o ?_ (B5 _ e),rfl,q _ H (.refl H) (.bl _)⟩
   intro z
   have:b=s.heap.objs.size:=by simpa using z
   exact absurd (Cf e) (by rw[this];exact CU _)
end
def tN (J:It) (is:List Nat) (g:TG) (tt:TT) (te:TE) (σ:St) (H1:Hp) (l:Addr) (Q:VK):Prop:=
 ∃W:Nat→Nat→Hp→Prop,(∃m,W 0 m (upd H1 l (.lst [])))∧∀i m H2,W i m H2→
  (J.stop i H2∧Q (.ref l) H2)∨(J.go i H2∧∀x H3,J.yld i H2 x H3→g x (mask is σ) H3 fun σ4 H4=>tt σ4 H4 fun b H5=>
   (∀(j:Nat) (v:V),(mask is σ)[j]?=some (some v)→σ4[j]?=some (some v))∧
   if b=true then te σ4 H5 fun y H6=>∃vs,H6 l=some (.lst vs)∧vs.length < sizeLine∧∃m',m' < m∧W (i+1) m' (upd H6 l (.lst (vs++[y]))) else ∃m',m' < m∧W (i+1) m' H5)
def ui (is:List Nat) (g:TG) (tt:TT) (te:TE) (σ:St) (Q:VK) (J:It) (H1:Hp):Prop:=∀l,H1 l=none→tN J is g tt te σ H1 l Q
def vq (is:List Nat) (wi:TI) (g:TG) (tt:TT) (te:TE):TE:=fun σ H Q=>wi σ H (ui is g tt te σ Q)
section
variable {X:Cx}{pins:List (Addr×Obj)}{σ:St}{H:Hp}{s:B7}
theorem tz {elt iter tg:Expr}{scope:Scope}{cl:List (Str×Addr)}{pos pos0:Pos}{is:List Nat}{wi:TI}{g:TG}{tt:TT}{te:TE}{cond:Expr}{use:Option (Value→Sem Unit)}{Q0:VK}{Q:Value→B7→Prop} (hc:X.calm=true) (B:df X scope cl is)
  (hi:PI X tg iter wi) (hg:∀C s H fp,PG (ay X scope cl C s H fp) tg g) (ht:∀C s H fp,PT (ay X scope cl C s H fp) cond tt) (he:∀C s H fp,PE (ay X scope cl C s H fp) elt te) (hs:∀x,DW iter X.env x=pure x)
  (I:Inv X pins σ H s) (h:vq is wi g tt te σ H Q0)
  (fin:∀(l C:Addr) (H':Hp) (s':B7) (m:Str→Option Value),Inv X pins σ H' s'→s'.heap.Ns C m→H' C=none→C≠X.env.locals→C ∉ X.fs→X.s₀.heap.objs.size≤C→(∀x c,X.env.cells.lookup x=some c→c≠C)→(∀p∈X.pn++pins,p.1≠C)→Q0 (.ref l) H'→
   Me (model X.prog X.w) X.A X.xe use Q (.ref l) C (.ok .next) s'):
  wpAny (model X.prog X.w) X.A (comprehension (.ListComp elt [⟨tg,iter,[cond],0⟩] scope pos) scope X.env pos0 (newList []) false (eval iter X.env) use) Q X.xe s:=by
 refine Il rfl hs B.clos B.kind B.names (thn (hi pins s σ H _ I h) fun xv s1 h1=>thn h1 fun itv s2 h2=>?_)
 obtain ⟨it,fp,tn,J,H2,e,I2,T,st2,f2,R⟩:=h2
 subst e
 refine E6 (Jy B.cell (by intro y hy;simp at hy) (fun h₁ hns hsb=>?_) B.kind)
 have hl:H2 s2.heap.objs.size=none:=I2.hok.fresh (B9 _)
 obtain ⟨W,⟨m0,w0⟩,turn⟩:=R s2.heap.objs.size hl
 have I3:Inv X pins σ (upd H2 s2.heap.objs.size (.lst [])) {s2 with heap:=s2.heap.push {cls:=.type "list",dict:=none,data:=.seq ([]:List Value).toArray } }:=
  I2.laid (t':=s2.toks) (o:=.lst []) (fun b u e=>B5 _ e) (B9 _) ⟨DB _,[],0,.nil,Cm _ rfl⟩
 have hfl:∀b∈fp,b < s2.heap.objs.size:=fun b hb=>let ⟨o,e,_⟩:=T.obj 0 _ st2 b hb;Cf e
 have f3:∀b∈fp,jp X pins (upd H2 s2.heap.objs.size (.lst [])) b:=fun b hb=>⟨by rw[ba (CP (hfl b hb))];exact (f2 b hb).1,(f2 b hb).2⟩
 have kp:∀b o,(s2.heap.push {cls:=.type "list",dict:=none,data:=.seq ([]:List Value).toArray }).get? b=some o→h₁.get? b=some o:=fun b o e=>
  hsb.extBut b o (CP (Cf e)) (B5 _ e)
 have st4:tn 0 h₁:=T.keep 0 _ _ st2 fun b _ o e=>kp b o (B5 _ e)
 have hfl3:∀b∈fp,b < (s2.heap.push {cls:=.type "list",dict:=none,data:=.seq ([]:List Value).toArray }).objs.size:=fun b hb=>by
  rw[Em];exact Ew (hfl b hb)
 have I4:=iP (t':=s2.toks+([]:List (Str×Value)).length) I3 B f3 hfl3 hns kp
 have loop:Gg (model X.prog X.w) X.A (.compLoop (.ListComp elt [⟨tg,iter,[cond],0⟩] scope pos) 0 (.ref it) (.ref s2.heap.objs.size) (Jw scope cl (s2.heap.push {cls:=.type "list",dict:=none,data:=.seq ([]:List Value).toArray }).objs.size X.env))
   (Me (model X.prog X.w) X.A X.xe use Q (.ref s2.heap.objs.size) (s2.heap.push {cls:=.type "list",dict:=none,data:=.seq ([]:List Value).toArray }).objs.size)
   {s2 with heap:=h₁,toks:=s2.toks+([]:List (Str×Value)).length }:=by
  generalize hs3:({s2 with heap:=s2.heap.push {cls:=.type "list",dict:=none,data:=.seq ([]:List Value).toArray } }:B7)=s3 at *
  have hC:(s2.heap.push {cls:=.type "list",dict:=none,data:=.seq ([]:List Value).toArray }).objs.size=s3.heap.objs.size:=by rw[←hs3]
  rw[hC]
  have hstat:∀{H':Hp},(∀b∈fp,H' b=none)→∀b∈fp,jp (ay X scope cl s3.heap.objs.size s3 (upd H2 s2.heap.objs.size (.lst [])) fp) [] H' b:=fun hn b hb=>
   ⟨hn b hb,(I4.ok.exf b hb).1,I4.ok.exfs b hb,.inl hb,fun x c e=>(I4.ok.exf b hb).2 x c e,fun p hp=>absurd (show p∈([]:List (Addr×Obj)) from hp) (by simp)⟩
  have back:∀{σ':St}{H':Hp}{pp:List (Addr×Obj)}{s':B7},Inv (ay X scope cl s3.heap.objs.size s3 (upd H2 s2.heap.objs.size (.lst [])) fp) pp σ' H' s'→Inv X pins σ H' s':=fun I'=>
   I3.call' (ch:=fp) I'.os I'.base I'.hok I'.bare fun b hb=>⟨(f3 b hb).2.2.2.1,(f3 b hb).2.1,(f3 b hb).2.2.2.2.1,(f3 b hb).2.2.2.2.2⟩
  refine codeAny_loop rfl (fun n s'=>∃i H',Inv (ay X scope cl s3.heap.objs.size s3 (upd H2 s2.heap.objs.size (.lst [])) fp) [] (mask is σ) H' s'∧tn i s'.heap∧(∀b∈fp,H' b=none)∧W i n H') ?_ m0 ⟨0,_,(by subst hs3;exact I4),st4,fun b hb=>(f3 b hb).1,w0⟩
  rintro n s5 ⟨i,H5,I5,st5,fr5,w5⟩
  show wpAny _ _ ((compTurn (.ListComp elt [⟨tg,iter,[cond],0⟩] scope pos) 0 (.ref it) (.ref s2.heap.objs.size) (Jw scope cl s3.heap.objs.size X.env)).onRaise (fun x=>do noteFrame x (Jw scope cl s3.heap.objs.size X.env);K7 x)) _ _ s5
  refine wpAny_noted ?_
  rw[compTurn_list]
  refine B0 (JX (B0 ?_))
  rcases turn i n H5 w5 with ⟨stop,q⟩ |⟨go,step⟩
  ·refine thn (T.done (ay X scope cl s3.heap.objs.size s3 (upd H2 s2.heap.objs.size (.lst [])) fp) rfl rfl rfl hc i [] s5 _ H5 _ I5 (hstat fr5) st5 stop) fun r s6 ⟨hr,I6⟩=>?_
   subst hr
   refine B6 ?_
   obtain ⟨m6,hn6,_⟩:=I6.loc
   have hCn:∀b,b < s3.heap.objs.size→b≠s3.heap.objs.size:=fun b hb=>CP hb
   refine fin _ s3.heap.objs.size H5 s6 m6 (back I6) hn6 I6.free (Hj I3.lt) (I3.nofs (B9 _)) I3.sz (fun x c e=>?_) (fun p hp=>?_) q
   ·obtain ⟨v,z⟩:=I3.cell x c e
    exact CP z.lt
   ·exact CP (Cf (I3.pin p hp).1)
  ·refine thn (T.item (ay X scope cl s3.heap.objs.size s3 (upd H2 s2.heap.objs.size (.lst [])) fp) rfl rfl rfl hc i [] s5 _ H5 _ I5 (hstat fr5) st5 go) fun r s6 ⟨u,hr,h6⟩=>?_
   subst hr
   refine B0 (thn h6 fun _ s7 ⟨x,H7,I7,r7,y7,st7,fr7⟩=>?_)
   have I7':=I7.pinned (hstat fr7) (T.obj _ _ st7)
   refine B0 (E4 (hg _ _ _ _ _ s7 (mask is σ) H7 x u _ I7' r7 (step x H7 y7)) (fun _ s8 ⟨σ8,H8,I8,q8⟩=>?_) fun _ _ z=>z.elim)
   refine B0 (wpAny_tests_one (E4 (ht _ _ _ _ _ s8 σ8 H8 _ I8 q8) (fun bb s9 ⟨H9,I9,sub,q9⟩=>?_) fun _ _ z=>z.elim))
   have fpn:∀{H':Hp}{s':B7}{σ':St},Inv (ay X scope cl s3.heap.objs.size s3 (upd H2 s2.heap.objs.size (.lst [])) fp) ([]++jW fp s7.heap) σ' H' s'→tn (i+1) s'.heap∧∀b∈fp,H' b=none:=fun {H' s' σ'} J=>⟨T.keep _ _ _ st7 fun b hb o e=>(J.pin (b,o) (Cz _ (Cz _ (cZ hb e)))).1,fun b hb=>by
    obtain ⟨o,e,d⟩:=T.obj _ _ st7 b hb
    exact (J.pin (b,o) (Cz _ (Cz _ (cZ hb e)))).2.1⟩
   cases bb with
   |true=>
    rw[if_pos rfl] at q9
    simp only[if_true]
    refine B0 (B0 (E4 (he _ _ _ _ _ s9 σ8 H9 _ I9 q9) (fun v s10 ⟨y,H10,I10,r10,vs,hl10,hz,m',hm,w'⟩=>?_) fun _ _ z=>z.elim))
    refine B0 (E4 (ir (X:=ay X scope cl s3.heap.objs.size s3 (upd H2 s2.heap.objs.size (.lst [])) fp) _ s10 σ8 H10 (.ref s2.heap.objs.size) [y] (.ref s2.heap.objs.size) [v] (fun _ H'=>H'=upd H10 s2.heap.objs.size (.lst (vs++[y]))) I10 rfl (.cons r10 .nil) ⟨_,vs,y,rfl,rfl,hl10,hz,rfl⟩) (fun z s11 ⟨zv,H11,I11,_,e11⟩=>?_) fun _ _ z=>z.elim)
    subst e11
    obtain ⟨k1,k2⟩:=fpn I11
    exact B6 (B6 ⟨rfl,m',hm,i+1,_,(I11.unpinned (pins:=[])).weak (by rw[I11.len,eO,I.len]) sub,k1,k2,w'⟩)
   |false=>
    rw[if_neg (by decide)] at q9
    simp only[Cn,if_false]
    obtain ⟨m',hm,w'⟩:=q9
    obtain ⟨k1,k2⟩:=fpn I9
    first
     |exact B6 ⟨rfl,m',hm,i+1,_,(I9.unpinned (pins:=[])).weak (by rw[I9.len,eO,I.len]) sub,k1,k2,w'⟩
     |exact B0 (B6 (B6 ⟨rfl,m',hm,i+1,_,(I9.unpinned (pins:=[])).weak (by rw[I9.len,eO,I.len]) sub,k1,k2,w'⟩))
 exact IV loop (T.self X.A 0 _ _ _ st4 loop)
theorem wK {elt iter tg:Expr}{scope:Scope}{cl:List (Str×Addr)}{pos:Pos}{is:List Nat}{wi:TI}{g:TG}{tt:TT}{te:TE}{cond:Expr} (hc:X.calm=true) (B:df X scope cl is)
  (hi:PI X tg iter wi) (hg:∀C s H fp,PG (ay X scope cl C s H fp) tg g) (ht:∀C s H fp,PT (ay X scope cl C s H fp) cond tt) (he:∀C s H fp,PE (ay X scope cl C s H fp) elt te) (hs:∀x,DW iter X.env x=pure x:=by intro _;rfl):
  PE X (.ListComp elt [⟨tg,iter,[cond],0⟩] scope pos) (vq is wi g tt te):=by
 intro pins s σ H Q I h
 rw[eval_ListComp]
 refine tz (use:=none) hc B hi hg ht he hs I h fun l C H' s' m I' hn h1 h2 h3 h4 h5 h6 q=>⟨m,hn,fun h' hsb=>?_⟩
 exact ⟨.ref l,H',I'.turned (t':=s'.toks) (fun b o hb e=>hsb.extBut b o hb e) h1 (Ne.symm h2.symm) (.inr h4) h5 h6,rfl,q⟩
end
section
variable {X:Cx}{H0:Hp}{O0:List Addr}{E:XK}{ps ps':PSt}{D:PD}{tg iter cond:Expr}{pos p:Pos}{xs:List U}{fs:List (Option U)}
theorem pM {is:List Nat}{g:TG}{f:PSt→U→PSt}{dom:U→Prop}{σ:St}{H1:Hp}{O:List Addr}{Q:VK}{J:It}{tt:TT}{te:TE} (hg:GOk g X.K is f dom) (R1:Rs X.K H0 O0 ps σ H1 O) (Y:Yl X.K J (hid H1 O) xs) (hlen:fs.length=xs.length) (hz:xs.length≤sizeLine) (hdom:∀x∈xs,dom x)
  (htt:∀(i:Nat) (x:U) (o:Option U) (σ:St) (H:Hp) (O':List Addr) (Q:Bool→Hp→Prop),xs[i]?=some x→fs[i]?=some o→Rs X.K H0 O0 (f (eu is ps) x) σ H O'→(∀H',aK H H'→Q o.isSome H')→tt σ H Q)
  (hte:∀(i:Nat) (x y:U) (σ:St) (H:Hp) (O':List Addr) (Q:VK),xs[i]?=some x→fs[i]?=some (some y)→Rs X.K H0 O0 (f (eu is ps) x) σ H O'→(∀v H',aK H H'→Rp X.K (hid H' O') v y→Q v H')→te σ H Q)
  (fin:∀a vs H',aK H1 H'→H1 a=none→H' a=some (.lst vs)→Rps X.K (hid H' (a::O)) vs (fs.filterMap id)→Q (.ref a) H'):ui is g tt te σ Q J H1:=by
 intro l hl
 refine ⟨fun i m H2=>m=xs.length - i∧i≤xs.length∧aK H1 H2∧∃vs,H2 l=some (.lst vs)∧vs.length≤i∧Rps X.K (hid H2 (l::O)) vs ((fs.take i).filterMap id),⟨_,rfl,DB _,aZ hl _,[],aY,B9 _,by rw[JH];exact .nil⟩,?_⟩
 rintro i m H2 ⟨rfl,hi,s2,vs,h2,hv,rs⟩
 have seen:aK (hid H1 O) (hid H2 (l::O)):=bF s2 hl
 obtain ⟨y1,y2⟩:=Y H2 (seen.trans ax)
 by_cases hlt:i < xs.length
 ·obtain ⟨g1,g2⟩:=y1 i hlt
  refine .inr ⟨g1,fun x H3 y=>?_⟩
  obtain ⟨rfl,u,hu,r⟩:=g2 x H3 y
  have R2:=(R1.mask (is:=is)).hide s2 hl (by rw[h2];intro z;cases z)
  refine hg H0 O0 _ _ H3 (l::O) x u _ (hdom u (Cu hu)) R2 (r.same seen) fun σ4 R4 keep=>?_
  obtain ⟨o,ho⟩:∃o,fs[i]?=some o:=⟨_,B1 (by lia)⟩
  refine htt i u o σ4 H3 (l::O) _ hu ho R4 fun H5 s5=>⟨fun j w e=>keep j w (ik is σ j w e).2 e,?_⟩
  cases o with
  |none=>
   refine sR ⟨xs.length - (i+1),by lia,rfl,hlt,s2.trans s5,vs,s5 _ _ h2,by lia,?_⟩
   rw[FL,ho,JY,Jd]
   simpa using rs.same (bi s5)
  |some yv=>
   refine tU (hte i u yv σ4 H5 (l::O) _ hu ho (R4.go s5) fun v H6 s6 r6=>⟨vs,s6 _ _ (s5 _ _ h2),?_,xs.length - (i+1),by lia,rfl,hlt,((s2.trans s5).trans s6).put hl _,vs++[v],aY,by simp;lia,?_⟩)
   ·lia
   ·rw[mm Ci,FL,ho,JY,Jd]
    exact ((rs.same (bi s5)).same (bi s6)).snoc (.cons r6 .nil)
 ·have e:i=xs.length:=by lia
  subst e
  rw[←hlen,EX] at rs
  exact .inl ⟨y2,fin l vs H2 s2 hl h2 rs⟩
theorem xD {elt:Expr}{scope:Scope}{cl:List (Str×Addr)}{is:List Nat}{g:TG}{f:PSt→U→PSt}{dom:U→Prop} (fs:List (Option U)) (hc:X.calm=true) (B:df X scope cl is) (hi:EvI X H0 O0 ps tg iter xs) (hg:∀C s H fp,PG (ay X scope cl C s H fp) tg g) (gk:GOk g X.K is f dom)
  (hlen:fs.length=xs.length) (hz:xs.length≤sizeLine) (hdom:∀x∈xs,dom x) (ht:∀C s H fp (i:Nat) (x:U) (o:Option U),xs[i]?=some x→fs[i]?=some o→Tt (ay X scope cl C s H fp) H0 O0 (f (eu is ps) x) cond o.isSome)
  (he:∀C s H fp (i:Nat) (x y:U),xs[i]?=some x→fs[i]?=some (some y)→Ev (ay X scope cl C s H fp) H0 O0 (f (eu is ps) x) elt y)
  (hs:∀x,DW iter X.env x=pure x:=by intro _;rfl):EvN X H0 O0 ps (.ListComp elt [⟨tg,iter,[cond],0⟩] scope pos) (fs.filterMap id):=by
 have hte:∀C s H fp,PE (ay X scope cl C s H fp) elt fun σ H Q=>∃i x y,xs[i]?=some x∧fs[i]?=some (some y)∧∃O',Rs X.K H0 O0 (f (eu is ps) x) σ H O'∧∀v H',aK H H'→Rp X.K (hid H' O') v y→Q v H':=
  fun C s H fp pins s' σ H' Q I ⟨i,x,y,h1,h2,z⟩=>he C s H fp i x y h1 h2 pins s' σ H' Q I z
 have htt:∀C s H fp,PT (ay X scope cl C s H fp) cond fun σ H Q=>∃(i:Nat) (x:U) (o:Option U),xs[i]?=some x∧fs[i]?=some o∧∃O',Rs X.K H0 O0 (f (eu is ps) x) σ H O'∧∀H',aK H H'→Q o.isSome H':=
  fun C s H fp pins s' σ H' Q I ⟨i,x,o,h1,h2,z⟩=>ht C s H fp i x o h1 h2 pins s' σ H' Q I z
 refine PE.mono (wK hc B hi hg htt hte hs) fun σ H Q ⟨O,R,q⟩=>⟨O,R,fun J H1 s1 Y=>?_⟩
 exact pM gk (R.go s1) Y hlen hz hdom (fun i x o σ H O' Q h1 h2 R' z=>⟨i,x,o,h1,h2,O',R',z⟩) (fun i x y σ H O' Q h1 h2 R' z=>⟨i,x,y,h1,h2,O',R',z⟩) fun a vs H' s n h r=>q a vs H' (s1.trans s) (s1.free n) h r
end
inductive Am:List (Option Expr)→List Expr→Prop where
 |nil:Am [] []
 |cons {k v:Int}{a b:Nat}{p q:Pos}{ks:List (Option Expr)}{vs:List Expr} (h:Am ks vs):Am (some (.Constant (.int k) a p)::ks) (.Constant (.int v) b q::vs)
section
variable {X:Cx}{H0:Hp}{O0:List Addr}{ps:PSt}{pos:Pos}{keys:List (Option Expr)}{values:List Expr}{k m:Bool}
end
theorem Ws.nox {X:Cx}{H0:Hp}{O0:List Addr}{E:XK}{ss:List Stmt}{D:PD}{ps:PSt} (h:Ws X.nox H0 O0 E ss D ps):Ws X H0 O0 E ss D ps:=PSs.nox h
theorem a_.calm {P:Cy}{w:World}{K:B2}{mg:Str→Option Value}{base:Heap}{k:Nat}{f:Addr}{fd:CN}{ps:List Str}{sp:Sp} (F:a_ P w K mg base (CXF P w) k f fd ps sp) (h:∀vs H Q E,sp vs H Q E→sp vs H Q E0):a_ P w K mg base CX0 k f fd ps sp:=by
 refine ⟨F.len,fun A outer s H args us vs Q E hr he hb hv hs=>Gv (F.run A outer s H args us vs Q E0 hr he hb hv (h _ _ _ _ hs)) fun r s' q=>?_⟩
 cases r with
 |ok fl=>
  cases fl with
  |ret u=>exact q
  |next=>exact q
  |brk=>exact q
  |cont=>exact q
 |error e=>
  obtain ⟨_,_,_,_,_,_,_,_,_,_,_,_,_,_,_,hE⟩:=q
  exact hE.elim
def g8:List U→Out→Prop:=fun us o=>∃ns:List Int,us=[.scr (ns.map U.int)]∧ns.length≤63∧(∀m∈ns,Sz 1048576 m)∧o=.val (.bl true)
theorem v7 {K:B2} (vs:List V) (H:Hp) (Q:VK) (E:XK) (h:spU K g8 vs H Q E):spU K g8 vs H Q E0:=by
 obtain ⟨us,O,o,d,r,⟨ns,h1,h2,h3,rfl⟩,q⟩:=h
 exact ⟨us,O,_,d,r,⟨ns,h1,h2,h3,rfl⟩,q⟩
theorem tT {K:B2}{H:Hp}{a:Addr}{ns:List Int}{E:XK} (h1:ns.length≤63) (h2:∀m∈ns,Sz 1048576 m) (h3:SqL K H a (ns.map V.int)):spU K g8 [.ref a] H (fun v _=>v=.bl true) E:=by
 refine ⟨[.scr (ns.map U.int)],[],.val (.bl true),fun a ha=>(nomatch ha),.cons ?_ .nil,⟨ns,rfl,h1,h2,rfl⟩,fun v H' s r=>by cases r;rfl⟩
 have e:hid H []=H:=by funext b;unfold hid;rw[if_neg (by simp)]
 rw[e]
 refine .scr h3 (by simp) fun i v x e1 e2=>?_
 rw[Cb] at e1 e2
 cases q:ns[i]? with
 |none=>rw[q] at e1;cases e1
 |some n=>rw[q] at e1 e2;cases e1;cases e2;exact .int n
theorem kF {k:Nat}{A:Dc} (hr:dc k A):A.units+10 < cLine:=by have:=hr.un;lia
theorem uD {ns:List Int}{k:Int} (h0:0≤k) (h:k < (ns.length:Int)):atI (ns.map U.int) k=some (.int (ns.getD k.toNat 0)):=by
 have hk:k.toNat < ns.length:=by lia
 have q:atI (ns.map U.int) ((k.toNat:Nat):Int)=some (.int (ns.getD k.toNat 0)):=rL (by rw[Cb,CC,B1 hk] <;>rfl)
 rwa [show ((k.toNat:Nat):Int)=k by lia] at q
abbrev pt (x y:Int):U:=.tup [.int x,.int y]
theorem dTb {p:Prop} [Decidable p] (h:decide p=true):p:=of_decide_eq_true h
theorem dFb {p:Prop} [Decidable p] (h:decide p=false):¬ p:=of_decide_eq_false h
theorem nTb {p:Prop} [Decidable p] (h:(!decide p)=true):¬ p:=by simpa using h
theorem nFb {p:Prop} [Decidable p] (h:(!decide p)=false):p:=by simpa using h
theorem vB {a b:Bool} (h:a=b):Out.val (.bl a)=Out.val (.bl b):=by rw[h]
theorem vIO {a b:Int} (h:a=b):Out.val (.int a)=Out.val (.int b):=by rw[h]
mutual
theorem vV:∀(n:Nat) (u:U),okU n u=true→eqW u u=true
 |_,.non,_=>rfl
 |_,.bl b,_=>by simp[eqW]
 |_,.int b,_=>by simp[eqW]
 |_,.str b,_=>by simp[eqW]
 |_,.ty _,h=>by simp[okU] at h
 |_,.dic,h=>by simp[okU] at h
 |0,.tup _,h=>by simp[okU] at h
 |0,.lst _,h=>by simp[okU] at h
 |0,.scr _,h=>by simp[okU] at h
 |n+1,.tup xs,h=>by rw[eqW];rw[okU] at h;exact eqWs_refl n xs h
 |n+1,.lst xs,h=>by rw[eqW];rw[okU] at h;exact eqWs_refl n xs h
 |n+1,.scr xs,h=>by rw[eqW];rw[okU] at h;exact eqWs_refl n xs h
theorem eqWs_refl:∀(n:Nat) (xs:List U),okUs n xs=true→eqWs xs xs=true
 |_,[],_=>rfl
 |n,x::xs,h=>by
  simp only[okUs,DL] at h
  simp only[eqWs,DL]
  exact ⟨vV n x h.1,eqWs_refl n xs h.2⟩
end
theorem uj {α:Type}{n:Nat}{f:α→U}{l:List α} (h:∀a∈l,okU n (f a)=true):okUs n (l.map f)=true:=by
 induction l with
 |nil=>rfl
 |cons a l ih=>
  rw[CY,okUs,DL]
  exact ⟨h a Ci,ih fun b hb=>h b (B4 _ hb)⟩
theorem nj {α:Type}{n:Nat}{f:α→U}{l:List α} (h:∀a,okU n (f a)=true):okU (n+1) (.lst (l.map f))=true:=by rw[okU];exact uj fun a _=>h a
theorem oN {α:Type}{f:α→U}{p:α→α→Prop} [DecidableEq α] (hf:∀a b,eqW (f a) (f b)=decide (a=b)):∀(l m:List α),eqWs (l.map f) (m.map f)=decide (l=m)
 |[],[]=>rfl
 |[],_::_=>rfl
 |_::_,[]=>rfl
 |a::l,b::m=>by
  rw[CY,CY,eqWs,hf,oN (p:=p) hf l m,Ek]
  simp
section
variable {X:Cx}{H0:Hp}{O0:List Addr}{E:XK}{ps:PSt}{D:PD}{a b c e:Expr}{rest:List Expr}{pos:Pos}{k:Bool}
theorem cS {tb fb:List Stmt} (hc:Tt X H0 O0 ps c k) (hk:k=true) (h:Ws X H0 O0 E tb D ps):W1 X H0 O0 E (.If c tb fb pos) D ps:=ie hc (fun _=>h) (fun e=>by rw[hk] at e;cases e)
theorem dm {tb fb:List Stmt} (hc:Tt X H0 O0 ps c k) (hk:k=false) (h:Ws X H0 O0 E fb D ps):W1 X H0 O0 E (.If c tb fb pos) D ps:=ie hc (fun e=>by rw[hk] at e;cases e) (fun _=>h)
theorem m8 (ha:Tt X H0 O0 ps a k) (hk:k=false):Tw X H0 O0 ps (.BoolOp .And (a::b::rest) pos) false:=by
 subst hk
 exact vw (m:=true) ha fun h=>by cases h
theorem jN (ha:Tt X H0 O0 ps a k) (hk:k=true):Tw X H0 O0 ps (.BoolOp .Or (a::b::rest) pos) true:=by
 subst hk
 exact yd (m:=true) ha fun h=>by cases h
end
section
variable {X:Cx}{H0:Hp}{O0:List Addr}{E:XK}{ps:PSt}{D:PD}{body:List Stmt}{tg iter c:Expr}{pos:Pos}{xs:List U}{α:Type}
theorem TgS.sub {p p':PSt}{u:U}{ps':PSt} (h:TgS X H0 O0 tg p u ps') (hs:SubP p p'):TgS X H0 O0 tg p' u ps':=PG.mono h fun v σ H Q ⟨O,R,r,q⟩=>⟨O,R.sub hs,r,q⟩
theorem Tt.sub {p p':PSt}{e:Expr}{k:Bool} (h:Tt X H0 O0 p e k) (hs:SubP p p'):Tt X H0 O0 p' e k:=PT.mono h fun σ H Q ⟨O,R,q⟩=>⟨O,R.sub hs,q⟩
theorem fI (st:α→PSt) (Q:Nat→α→Prop) (hc:X.calm=true) (hp:Ja (model X.prog X.w) X.A X.env X.xe) (hi:EvI X H0 O0 ps tg iter xs) (h0:∃a,Q 0 a∧SubP (st a) ps)
  (hs:∀(H0:Hp) (i:Nat) (x:U) (a:α),xs[i]?=some x→Q i a→∃ps',TgS X H0 O0 tg (st a) x ps'∧Ws X H0 O0 E body {D with nx:=fun p=>∃b,Q (i+1) b∧SubP (st b) p,ct:=fun p=>∃b,Q (i+1) b∧SubP (st b) p,bk:=D.nx } ps')
  (hd:∀a ps,Q xs.length a→SubP (st a) ps→D.nx ps) (hf:∀x,DW iter X.env x=pure x:=by intro _;rfl):W1 X H0 O0 E (.For tg iter body [] pos) D ps:=
 Bc hc hp hi (fun i ps=>∃a,Q i a∧SubP (st a) ps) h0 (fun H0 i x ps hx ⟨a,q,sb⟩=>by
  obtain ⟨ps',t,w⟩:=hs H0 i x a hx q
  exact ⟨ps',t.sub sb,w⟩) (fun ps ⟨a,q,sb⟩=>hd a ps q sb) hf
theorem jB (st:α→PSt) (Q:Nat→α→Prop) (hp:Ja (model X.prog X.w) X.A X.env X.xe) (h0:∃m a,Q m a∧SubP (st a) ps)
  (hs:∀m a,Q m a→∃b,Tt X H0 O0 (st a) c b∧(b=true→Ws X H0 O0 E body {D with nx:=fun p=>∃m' a',m' < m∧Q m' a'∧SubP (st a') p,ct:=fun p=>∃m' a',m' < m∧Q m' a'∧SubP (st a') p,bk:=D.nx } (st a))∧(b=false→∀ps,SubP (st a) ps→D.nx ps)):W1 X H0 O0 E (.While c body [] pos) D ps:=by
 obtain ⟨m,a,q,sb⟩:=h0
 refine yC hp (fun m ps=>∃a,Q m a∧SubP (st a) ps) m ⟨a,q,sb⟩ fun m ps ⟨a,q,sb⟩=>?_
 obtain ⟨b,t,h1,h2⟩:=hs m a q
 refine ⟨b,t.sub sb,fun e=>?_,fun e=>h2 e ps sb⟩
 refine d7 (PSs.mono (h1 e) fun D' σ H ⟨L,O,R⟩=>⟨⟨fun p σ H O R ⟨m',a',l,q',sb'⟩=>L.nx p σ H O R ⟨m',l,a',q',sb'⟩,L.bk,fun p σ H O R ⟨m',a',l,q',sb'⟩=>L.ct p σ H O R ⟨m',l,a',q',sb'⟩,L.rt⟩,O,R⟩) sb
end
abbrev P2:=Int×Int
abbrev pu (p:P2):U:=.tup [.int p.1,.int p.2]
abbrev lp (l:List P2):U:=.lst (l.map pu)
theorem As (p q:P2):eqW (pu p) (pu q)=decide (p=q):=by
 obtain ⟨a,b⟩:=p
 obtain ⟨c,d⟩:=q
 simp only[pu,eqW,eqWs,GK]
 rw[Ek];simp
theorem me (l m:List P2):eqW (lp l) (lp m)=decide (l=m):=by rw[lp,lp,eqW];exact oN (p:=fun _ _=>True) As l m
theorem iM (l:List P2):okU 9 (lp l)=true:=nj fun _=>rfl
theorem qU {l:List P2}{i:Nat}{x:U} (h:(l.map pu)[i]?=some x):∃p,l[i]?=some p∧p∈l∧x=pu p:=by
 rw[Cb] at h
 cases q:l[i]? with
 |none=>rw[q] at h;cases h
 |some p=>rw[q] at h;cases h;exact ⟨p,rfl,Cu q,rfl⟩
theorem fc {α:Type}{l:List α}{f:α→U}{g:α→U}{i:Nat}{x y:U} (hx:(l.map f)[i]?=some x) (hy:(l.map g)[i]?=some y):∃a,l[i]?=some a∧a∈l∧x=f a∧y=g a:=by
 rw[Cb] at hx hy
 cases q:l[i]? with
 |none=>rw[q] at hx;cases hx
 |some p=>rw[q] at hx hy;cases hx;cases hy;exact ⟨p,rfl,Cu q,rfl,rfl⟩
theorem W1.mono {X:Cx}{H0:Hp}{O0:List Addr}{E:XK}{s:Stmt}{D:PD}{J:PSt→Prop}{ps:PSt} (h:W1 X H0 O0 E s {D with nx:=J } ps) (m:∀ps,J ps→D.nx ps):W1 X H0 O0 E s D ps:=
 PS.mono h fun D' σ H ⟨L,O,R⟩=>⟨⟨fun p σ H O R q=>L.nx p σ H O R (m p q),L.bk,L.ct,L.rt⟩,O,R⟩
theorem iu {X:Cx}{H0:Hp}{O0:List Addr}{E:XK}{s:Stmt}{ss:List Stmt}{D:PD}{ps:PSt} (J:PSt→Prop) (h1:W1 X H0 O0 E s {D with nx:=J } ps) (h2:∀ps,J ps→Ws X H0 O0 E ss D ps):Ws X H0 O0 E (s::ss) D ps:=
 ae (W1.mono (J:=J) (D:={D with nx:=fun p=>Ws X H0 O0 E ss D p }) h1 h2)
end L2
namespace PySem.W
open PySem PySem.Spec PySem.Calls PyProof.Rows
end PySem.W
namespace L2
open PySem PySem.Spec PySem.W PyProof.Rows
section
variable {X:Cx}{pins:List (Addr×Obj)}{σ:St}{H:Hp}{s:B7}
end
section
variable {X:Cx}
def kA.drop (D:kA) (i:Nat):kA:=⟨fun σ H=>D.nx (σ.set i none) H,D.rt,fun σ H=>D.bk (σ.set i none) H,fun σ H=>D.ct (σ.set i none) H⟩
end
section
variable {X:Cx}{H0:Hp}{O0:List Addr}{E:XK}{ps:PSt}{D:PD}{a e:Expr}{es:List Expr}{us:List U}{k:Bool}{n:Nat}{fd:CN}{pn:List Str}{spec:List U→Out→Prop}
def PD.drop (D:PD) (i:Nat):PD:=⟨fun p=>D.nx (p.set i none),D.rt,fun p=>D.bk (p.set i none),fun p=>D.ct (p.set i none)⟩
end
section
variable {X:Cx}{H0:Hp}{O0:List Addr}{ps:PSt}{pos:Pos}
end
end L2
namespace L2
open PySem
theorem fF {c:Const}{j:Nat}{pos:Pos}{es:List Expr}{env:Env}:Ce (.Constant c j pos::es) env=(false,eval (.Constant c j pos) env)::Ce es env:=by rw[Ce];intro e p h;cases h
theorem uX {l:List Expr}{j:Nat}{pos:Pos}{es:List Expr}{env:Env}:Ce (.Tuple l j pos::es) env=(false,eval (.Tuple l j pos) env)::Ce es env:=by rw[Ce];intro e p h;cases h
theorem mS {o:UnaryOp}{a:Expr}{pos:Pos}{es:List Expr}{env:Env}:Ce (.UnaryOp o a pos::es) env=(false,eval (.UnaryOp o a pos) env)::Ce es env:=by rw[Ce];intro e p h;cases h
theorem bS {a b:Expr}{o:Ma}{pos:Pos}{es:List Expr}{env:Env}:Ce (.BinOp a o b pos::es) env=(false,eval (.BinOp a o b pos) env)::Ce es env:=by rw[Ce];intro e p h;cases h
theorem ah {x:Str}{pos:Pos}{es:List Expr}{env:Env}:Ce (.Name x pos::es) env=(false,eval (.Name x pos) env)::Ce es env:=by rw[Ce];intro e p h;cases h
theorem cx {a b:Expr}{pos:Pos}{es:List Expr}{env:Env}:Ce (.Subscript a b pos::es) env=(false,eval (.Subscript a b pos) env)::Ce es env:=by rw[Ce];intro e p h;cases h
theorem dB {f:Expr}{a:List Expr}{k:List JM}{pos:Pos}{es:List Expr}{env:Env}:Ce (.Call f a k pos::es) env=(false,eval (.Call f a k pos) env)::Ce es env:=by rw[Ce];intro e p h;cases h
theorem d6 {e:Expr}{g:List Comprehension}{sc:Scope}{pos:Pos}{es:List Expr}{env:Env}:Ce (.ListComp e g sc pos::es) env=(false,eval (.ListComp e g sc pos) env)::Ce es env:=by rw[Ce];intro e p h;cases h
structure EvS (X:Cx) (H0:Hp) (O0:List Addr) (ps:PSt) (es:List Expr) (us:List U):Prop where
 a:EvA X H0 O0 ps es us
section
variable {X:Cx}{H0:Hp}{O0:List Addr}{ps:PSt}{e:Expr}{es:List Expr}{u:U}{us:List U}{pos:Pos}
theorem bT:EvS X H0 O0 ps [] []:=⟨ao⟩
theorem aA (ha:Ev X H0 O0 ps e u) (hr:EvS X H0 O0 ps es us) (hs:Ce (e::es) X.env=(false,eval e X.env)::Ce es X.env):EvS X H0 O0 ps (e::es) (u::us):=⟨ag ha hr.a hs⟩
theorem cM {x1} (h:EvS X H0 O0 ps es us) (hz:us.length≤sizeLine:=by first |decide | (simp only[Dt,GL];decide)):Ev X H0 O0 ps (.Tuple es x1 pos) (.tup us):=AU h.a hz
theorem dO (h:EvS X H0 O0 ps es us) (hz:us.length≤sizeLine:=by first |decide | (simp only[Dt,GL];decide)):EvN X H0 O0 ps (.List es pos) us:=A8 h.a hz
end
end L2
namespace ST
open PySem PySem.SetTable
def Ris (xs:Array Nat):Prop:=∀(i j x y:Nat),i < j→xs[i]?=some x→xs[j]?=some y→x < y
theorem Ris.inj {xs:Array Nat} (h:Ris xs) {i j x:Nat} (h1:xs[i]?=some x) (h2:xs[j]?=some x):i=j:=by
 rcases F_ i j with z |z |z
 ·exact absurd (h i j x x z h1 h2) (CU _)
 ·exact z
 ·exact absurd (h j i x x z h2 h1) (CU _)
theorem d4 {xs:Array Nat}{i:Nat} (h:i < xs.size):xs[i]?=some xs[i]:=by simp[h]
theorem rR {xs:Array Nat}{i x:Nat} (h:xs[i]?=some x):i < xs.size:=(Fd.mp h).1
theorem lR {xs:Array Nat} (R:Ris xs) (j:Nat):∀(fuel lo hi:Nat),lo≤hi→hi≤xs.size→hi - lo≤fuel→(∀(i x:Nat),i < lo→xs[i]?=some x→x < j)→(∀(i x:Nat),hi≤i→xs[i]?=some x→j≤x)→
  (∀(i x:Nat),i < below.go xs j fuel lo hi→xs[i]?=some x→x < j)∧(∀(i x:Nat),below.go xs j fuel lo hi≤i→xs[i]?=some x→j≤x)∧below.go xs j fuel lo hi≤xs.size
 |0,lo,hi,h1,h2,h3,h4,h5=>by
  have e:lo=hi:=by lia
  subst e
  rw[below.go]
  exact ⟨h4,h5,h2⟩
 |fuel+1,lo,hi,h1,h2,h3,h4,h5=>by
  rw[below.go]
  by_cases hlt:lo < hi
  ·rw[if_pos hlt]
   have hm:(lo+hi) / 2 < xs.size:=by lia
   have e:xs.getD ((lo+hi) / 2) j=xs[(lo+hi) / 2]:=by simp[Ga,hm]
   simp only[e]
   split
   ·rename_i hl
    refine lR R j fuel _ hi (by lia) h2 (by lia) (fun i x hi' hx=>?_) h5
    rcases CI (show i≤(lo+hi) / 2 by lia) with z |z
    ·exact Je (R i _ x _ z hx (d4 hm)) hl
    ·subst z;rw[d4 hm] at hx;cases hx;exact hl
   ·rename_i hl
    refine lR R j fuel lo _ (by lia) (by lia) (by lia) h4 (fun i x hi' hx=>?_)
    rcases CI hi' with z |z
    ·exact DZ (Ht hl) (DE (R _ i _ x z (d4 hm) hx))
    ·subst z;rw[d4 hm] at hx;cases hx;exact Ht hl
  ·rw[if_neg hlt]
   have e:lo=hi:=by lia
   subst e
   exact ⟨h4,h5,h2⟩
theorem fi {xs:Array Nat} (R:Ris xs) (j:Nat):(∀(i x:Nat),i < below xs j→xs[i]?=some x→x < j)∧(∀(i x:Nat),below xs j≤i→xs[i]?=some x→j≤x)∧below xs j≤xs.size:=
 lR R j xs.size 0 xs.size (DB _) (B9 _) (by lia) (fun i x h=>absurd h (K9 _)) (fun i x h e=>absurd (rR e) (by lia))
theorem u_ {xs:Array Nat} (R:Ris xs) {i j:Nat} (h:xs[i]?=some j):below xs j=i:=by
 obtain ⟨h1,h2,h3⟩:=fi R j
 rcases F_ (below xs j) i with z |z |z
 ·have hk:below xs j < xs.size:=Je z (rR h)
  have:=h2 _ _ (B9 _) (d4 hk)
  have:=R _ _ _ _ z (d4 hk) h
  lia
 ·exact z
 ·have:=h1 i j z h
  lia
theorem lv {t:SetTable} (R:Ris t.place) {i j:Nat} (h:t.place[i]?=some j):t.slot j=.live i:=by
 unfold SetTable.slot
 simp only[u_ R h,h,beq_self_eq_true,if_true]
theorem sT {t:SetTable} (hd:t.dummies=#[]) {j:Nat} (h:∀i:Nat,t.place[i]?≠some j):t.slot j=.empty:=by
 unfold SetTable.slot
 have e:(t.place[below t.place j]?==some j)=false:=by simpa using h _
 simp only[e,hd]
 simp[SetTable.has]
theorem o9 {t:SetTable} (R:Ris t.place) (hd:t.dummies=#[]) (j:Nat):(t.slot j=.empty∧∀i:Nat,t.place[i]?≠some j)∨∃i:Nat,t.slot j=.live i∧t.place[i]?=some j:=by
 by_cases h:∃i:Nat,t.place[i]?=some j
 ·obtain ⟨i,hi⟩:=h
  exact .inr ⟨i,lv R hi,hi⟩
 ·exact .inl ⟨sT hd fun i e=>h ⟨i,e⟩,fun i e=>h ⟨i,e⟩⟩
theorem sC {xs:Array Nat} (R:Ris xs) {mask:Nat} (hn:xs.size≤mask):∃s,s≤mask∧∀i:Nat,xs[i]?≠some s:=by
 apply DX
 intro hno
 have all:∀s,s≤mask→∃i:Nat,xs[i]?=some s:=fun s hs=>by
  apply DX
  intro h
  exact hno ⟨s,hs,fun i e=>h ⟨i,e⟩⟩
 have key:∀s,s≤mask→∃i:Nat,xs[i]?=some s∧s≤i:=by
  intro s
  induction s with
  |zero=>intro h;obtain ⟨i,hi⟩:=all 0 h;exact ⟨i,hi,DB _⟩
  |succ s ih=>
   intro h
   obtain ⟨i,hi,hle⟩:=ih (by lia)
   obtain ⟨k,hk⟩:=all (s+1) h
   refine ⟨k,hk,?_⟩
   rcases F_ i k with z |z |z
   ·lia
   ·subst z;rw[hi] at hk;cases hk
   ·have:=R k i _ _ z hk hi;lia
 obtain ⟨i,hi,hle⟩:=key mask (B9 _)
 have:=rR hi
 lia
def adv (mask:Nat) (p:Probe):Probe:=
 if p.more >0 then {p with j:=p.j+1,more:=p.more - 1 } else
 {p with j:=(leap mask p.i p.perturb).1,more:=runEnd mask (leap mask p.i p.perturb).1 - (leap mask p.i p.perturb).1,i:=(leap mask p.i p.perturb).1,perturb:=(leap mask p.i p.perturb).2 }
theorem jm (t:SetTable) (p:Probe):t.advance p=adv t.mask p:=by
 unfold SetTable.advance adv
 split
 ·rfl
 ·rfl
def start (mask:Nat) (h:Int):Probe:={j:=bits h % (mask+1),more:=runEnd mask (bits h % (mask+1)) - bits h % (mask+1),i:=bits h % (mask+1),perturb:=bits h,dummy:=none }
def pth (mask:Nat) (h:Int):Nat→Probe
 |0=>start mask h
 |n+1=>adv mask (pth mask h n)
def aP (mask:Nat) (h:Int):Nat→Nat×Nat
 |0=>(bits h % (mask+1),bits h)
 |r+1=>leap mask (aP mask h r).1 (aP mask h r).2
theorem i9 {mask:Nat}:∀(m:Nat) (p:Probe) (f:Nat→Probe),f 0=p→(∀n,f (n+1)=adv mask (f n))→m≤p.more→f m={p with j:=p.j+m,more:=p.more - m }
 |0,p,f,h0,_,_=>by rw[h0];rfl
 |m+1,p,f,h0,hs,hm=>by
  rw[hs m,i9 m p f h0 hs (by lia)]
  unfold adv
  rw[if_pos (by show p.more - m >0;lia)]
  simp only[Probe.mk.injEq]
  exact ⟨by lia,by lia,trivial,trivial,trivial⟩
theorem jK (mask:Nat) (h:Int):∀n,(pth mask h n).dummy=none
 |0=>rfl
 |n+1=>by
  rw[pth];unfold adv
  split
  ·exact jK mask h n
  ·exact jK mask h n
theorem tF (mask i:Nat):runEnd mask i - i≤9:=by unfold runEnd;split <;>lia
theorem rm (mask:Nat) (h:Int):∀r,∃n,n≤10*r∧pth mask h n={j:=(aP mask h r).1,more:=runEnd mask (aP mask h r).1 - (aP mask h r).1,i:=(aP mask h r).1,perturb:=(aP mask h r).2,dummy:=none }
 |0=>⟨0,B9 _,rfl⟩
 |r+1=>by
  obtain ⟨n,hn,e⟩:=rm mask h r
  have hL:=tF mask (aP mask h r).1
  have step:=i9 (mask:=mask) (runEnd mask (aP mask h r).1 - (aP mask h r).1) (pth mask h n) (fun m=>pth mask h (n+m)) rfl (fun m=>rfl) (by rw[e];exact B9 _)
  refine ⟨n+(runEnd mask (aP mask h r).1 - (aP mask h r).1)+1,by lia,?_⟩
  rw[pth]
  have step':pth mask h (n+(runEnd mask (aP mask h r).1 - (aP mask h r).1))=_:=step
  rw[step',e]
  unfold adv
  rw[if_neg (by simp)]
  rfl
theorem x_ (h:Int):bits h < 2 ^ 64:=by
 unfold bits
 have h1:=EC h (show (2 ^ 64:Int)≠0 by decide)
 have h2:=DH h (show (0:Int) < 2 ^ 64 by decide)
 lia
theorem kT (mask:Nat) (h:Int):∀r,(aP mask h r).2=bits h / 32 ^ r
 |0=>by simp[aP]
 |r+1=>by
  rw[aP]
  show (aP mask h r).2 / 32=_
  rw[kT mask h r,IW,E3]
theorem tW (mask:Nat) (h:Int) (r:Nat) (hr:12≤r):(aP mask h r).2 / 32=0:=by
 rw[kT]
 have h1:=x_ h
 rw[IW]
 apply Nat.div_eq_of_lt
 have:32 ^ 12*32≤32 ^ r*32:=JA _ (Gh (by decide) hr)
 exact CT (CT h1 (by decide)) this
def cK:Nat→Nat
 |0=>1
 |k+1=>cK k*(4*cK k+2)
theorem ve:∀k,∃m,cK k=2 ^ k*(2*m+1)
 |0=>⟨0,by simp[cK]⟩
 |k+1=>by
  obtain ⟨m,e⟩:=ve k
  refine ⟨2*(cK k) *m+m+cK k,?_⟩
  rw[cK,E3]
  have:cK k*(4*cK k+2)=2 ^ k*(2*m+1) *(4*cK k+2):=by rw[←e]
  rw[this]
  generalize cK k=c
  generalize 2 ^ k=p
  grind
def gj:Nat→Nat→Nat
 |0,x=>x
 |n+1,x=>5*gj n x+1
theorem jj (m x:Nat):∀n,gj (m+n) x=gj n (gj m x)
 |0=>rfl
 |n+1=>by rw[←Mf,gj,jj m x n,gj]
theorem jH:∀(k x:Nat),gj (2 ^ k) x=(1+4*cK k) *x+cK k
 |0,x=>by simp[gj,cK]
 |k+1,x=>by
  rw[E3,Nat.mul_two,jj,jH k,jH k,cK]
  generalize cK k=c
  grind
theorem pj (k x:Nat):gj (2 ^ k) x % 2 ^ (k+1)=(x+2 ^ k) % 2 ^ (k+1):=by
 rw[jH]
 obtain ⟨m,e⟩:=ve k
 rw[e]
 have:(1+4*(2 ^ k*(2*m+1))) *x+2 ^ k*(2*m+1)=(x+2 ^ k)+2 ^ (k+1) *(2*(2*m+1) *x+m):=by
  rw[E3]
  generalize 2 ^ k=p
  grind
 rw[this,Nat.add_mul_mod_self_left]
theorem gQ (x:Nat):∀(k y:Nat),∃n,n < 2 ^ k∧gj n x % 2 ^ k=y % 2 ^ k
 |0,y=>⟨0,by simp,by simp[Nat.mod_one]⟩
 |k+1,y=>by
  obtain ⟨n,hn,e⟩:=gQ x k y
  have hp:2 ^ (k+1)=2 ^ k+2 ^ k:=by rw[E3];lia
  have h2:0 < 2 ^ k:=Nat.pow_pos (by decide)
  by_cases h:gj n x % 2 ^ (k+1)=y % 2 ^ (k+1)
  ·exact ⟨n,by lia,h⟩
  ·refine ⟨n+2 ^ k,by lia,?_⟩
   rw[jj,pj]
   generalize gj n x=z at *
   have d1:z % 2 ^ (k+1) % 2 ^ k=z % 2 ^ k:=JZ _ ⟨2,by rw[E3]⟩
   have d2:y % 2 ^ (k+1) % 2 ^ k=y % 2 ^ k:=JZ _ ⟨2,by rw[E3]⟩
   have l1:=EW z (show 0 < 2 ^ (k+1) by lia)
   have l2:=EW y (show 0 < 2 ^ (k+1) by lia)
   rw[←Jf]
   rw[←d1,←d2] at e
   generalize z % 2 ^ (k+1)=a at *
   generalize y % 2 ^ (k+1)=b at *
   rw[hp] at *
   generalize 2 ^ k=p at *
   have ea:a % p=if a < p then a else a - p:=by
    split
    ·exact CK (by assumption)
    ·rw[H_ (by lia),CK (by lia)]
   have eb:b % p=if b < p then b else b - p:=by
    split
    ·exact CK (by assumption)
    ·rw[H_ (by lia),CK (by lia)]
   rw[ea,eb] at e
   by_cases ha:a < p
   ·rw[if_pos ha] at e
    rw[CK (by lia)]
    split at e <;>lia
   ·rw[if_neg ha] at e
    rw[H_ (by lia),CK (by lia)]
    split at e <;>lia
theorem kc {mask k:Nat} (hk:mask+1=2 ^ k) (h:Int):∀q,(aP mask h (12+q)).1=gj q (aP mask h 12).1 % 2 ^ k
 |0=>by
  rw[gj]
  have:(aP mask h 12).1 < 2 ^ k:=by
   rw[←hk]
   show (leap mask (aP mask h 11).1 (aP mask h 11).2).1 < _
   exact EW _ (by lia)
  exact (CK this).symm
 |q+1=>by
  show (leap mask (aP mask h (12+q)).1 (aP mask h (12+q)).2).1=_
  unfold leap
  simp only[tW mask h (12+q) (by lia)]
  rw[kc hk h q,hk,gj,FS,Nat.mul_comm 5 _]
  generalize gj q (aP mask h 12).1=z
  generalize 2 ^ k=m
  rw[MD,Nat.mod_mul_mod,←MD]
theorem cover {mask k:Nat} (hk:mask+1=2 ^ k) (h:Int) (s:Nat) (hs:s≤mask):∃n,n < 10*turns mask∧(pth mask h n).j=s:=by
 obtain ⟨q,hq,e⟩:=gQ (aP mask h 12).1 k s
 obtain ⟨n,hn,en⟩:=rm mask h (12+q)
 refine ⟨n,?_,?_⟩
 ·unfold turns;lia
 ·rw[en]
  show (aP mask h (12+q)).1=s
  rw[kc hk h q,e]
  exact CK (by lia)
def Liv (t:SetTable) (j:Nat):Prop:=∃i:Nat,t.place[i]?=some j
structure TOk (t:SetTable) (hs:List Int):Prop where
 R:Ris t.place
 d:t.dummies=#[]
 k:∃k,3≤k∧t.mask+1=2 ^ k
 n:t.place.size=hs.length
 f:t.place.size≤t.mask
 le:∀(i x:Nat),t.place[i]?=some x→x≤t.mask
 reach:∀(i j:Nat) (h:Int),t.place[i]?=some j→hs[i]?=some h→∃m,(pth t.mask h m).j=j∧∀m',m' < m→Liv t (pth t.mask h m').j
theorem least {P:Nat→Prop}:∀n,P n→∃m,m≤n∧P m∧∀k,k < m→¬ P k:=by
 intro n
 induction n using K_ with
 |_ n ih=>
  intro h
  by_cases hk:∃k,k < n∧P k
  ·obtain ⟨k,hk,hp⟩:=hk
   obtain ⟨m,h1,h2,h3⟩:=ih k hk hp
   exact ⟨m,by lia,h2,h3⟩
  ·exact ⟨n,B9 _,h,fun k hk' hp=>hk ⟨k,hk',hp⟩⟩
theorem qe {t:SetTable}{hs:List Int} (T:TOk t hs) (h:Int):∃N,N < 10*turns t.mask∧¬ Liv t (pth t.mask h N).j∧∀m,m < N→Liv t (pth t.mask h m).j:=by
 obtain ⟨s,hs1,hs2⟩:=sC T.R T.f
 obtain ⟨k,_,hk⟩:=T.k
 obtain ⟨n,hn,e⟩:=cover hk h s hs1
 obtain ⟨m,h1,h2,h3⟩:=least (P:=fun n=>¬ Liv t (pth t.mask h n).j) n (by show ¬ Liv t (pth t.mask h n).j;rw[e];rintro ⟨i,hi⟩;exact hs2 i hi)
 exact ⟨m,by lia,h2,fun k hk'=>DX fun z=>h3 k hk' z⟩
theorem nB {t:SetTable}{hs:List Int} (T:TOk t hs) (hashAt:Nat→Int) (h:Int) {N:Nat} (h0:¬ Liv t (pth t.mask h N).j) (h1:∀m,m < N→Liv t (pth t.mask h m).j):∀(fuel n:Nat),n≤N→N - n < fuel→
  (probe.go t hashAt h fuel (pth t.mask h n)=some (.empty (pth t.mask h N).j none)∧∀(m i:Nat),n≤m→m < N→t.place[i]?=some (pth t.mask h m).j→hashAt i≠h)∨
  ∃m i:Nat,n≤m∧m < N∧t.place[i]?=some (pth t.mask h m).j∧hashAt i=h∧probe.go t hashAt h fuel (pth t.mask h n)=some (.candidate (pth t.mask h m).j i (pth t.mask h (m+1)))∧
   ∀(m' i':Nat),n≤m'→m' < m→t.place[i']?=some (pth t.mask h m').j→hashAt i'≠h
 |0,n,_,hf=>by lia
 |fuel+1,n,hn,hf=>by
  rw[probe.go]
  rcases o9 T.R T.d (pth t.mask h n).j with ⟨e,hno⟩ |⟨i,e,hi⟩
  ·have hN:n=N:=by
    rcases CI hn with z |z
    ·obtain ⟨i,hi⟩:=h1 n z;exact absurd hi (hno i)
    ·exact z
   subst hN
   refine .inl ⟨by simp only[e,jK],fun m i z1 z2=>by lia⟩
  ·have hN:n < N:=by
    rcases CI hn with z |z
    ·exact z
    ·subst z;exact absurd ⟨i,hi⟩ h0
   simp only[e]
   by_cases hh:hashAt i=h
   ·refine .inr ⟨n,i,B9 _,hN,hi,hh,?_,fun m' i' z1 z2=>by lia⟩
    simp only[hh,beq_self_eq_true,if_true,jm]
    rfl
   ·have hb:(hashAt i==h)=false:=by simpa using hh
    simp only[hb,Cn,if_false,jm]
    have ih:=nB T hashAt h h0 h1 fuel (n+1) (by lia) (by lia)
    rcases ih with ⟨q1,q2⟩ |⟨m,i2,q1,q2,q3,q4,q5,q6⟩
    ·refine .inl ⟨q1,fun m i' z1 z2 z3=>?_⟩
     rcases CI z1 with z |z
     ·exact q2 m i' z z2 z3
     ·subst z
      rw[T.R.inj z3 hi];exact hh
    ·refine .inr ⟨m,i2,by lia,q2,q3,q4,q5,fun m' i' z1 z2 z3=>?_⟩
     rcases CI z1 with z |z
     ·exact q6 m' i' z z2 z3
     ·subst z
      rw[T.R.inj z3 hi];exact hh
theorem uI {t:SetTable}{hs:List Int} (T:TOk t hs) {h:Int}{N i:Nat} (h0:¬ Liv t (pth t.mask h N).j) (hi:hs[i]?=some h):∃(m j:Nat),m < N∧t.place[i]?=some j∧(pth t.mask h m).j=j:=by
 have hlt:i < t.place.size:=by rw[T.n];exact (Cg.mp hi).1
 obtain ⟨m,e,hm⟩:=T.reach i _ h (d4 hlt) hi
 refine ⟨m,_,?_,d4 hlt,e⟩
 rcases F_ m N with z |z |z
 ·exact z
 ·subst z;exact absurd ⟨i,by rw[e];exact d4 hlt⟩ h0
 ·exact absurd (hm N z) h0
theorem d8 {α:Type} (xs:Array α) (p:Nat) (x:α):(insertAt xs p x).toList=xs.toList.take p++x::xs.toList.drop p:=by
 unfold insertAt
 simp[Array.toList_extract]
 exact Fc (by simp)
theorem cf {α:Type}{xs:Array α}{p:Nat}{x:α} (hp:p≤xs.size) (i:Nat):(insertAt xs p x)[i]?=if i < p then xs[i]? else if i=p then some x else xs[i - 1]?:=by
 rw[←Dy,d8]
 have hl:(xs.toList.take p).length=p:=by simp;lia
 by_cases h1:i < p
 ·rw[if_pos h1,CF (by lia),Eu h1,Dy]
 ·rw[if_neg h1,CG (by lia),hl]
  by_cases h2:i=p
  ·subst h2;simp
  ·rw[if_neg h2]
   obtain ⟨q,hq⟩:∃q,i - p=q+1:=⟨i - p - 1,by lia⟩
   rw[hq,GN,Fi,Dy]
   congr 1;lia
theorem gl {α:Type} (xs:Array α) (p:Nat) (x:α) (hp:p≤xs.size):(insertAt xs p x).size=xs.size+1:=by
 rw[←Cc,d8];simp;lia
def gi {α:Type} (xs:List α) (p:Nat) (x:α):List α:=xs.take p++x::xs.drop p
theorem wA {α:Type}{xs:List α}{p:Nat}{x:α} (hp:p≤xs.length) (i:Nat):(gi xs p x)[i]?=if i < p then xs[i]? else if i=p then some x else xs[i - 1]?:=by
 unfold gi
 have hl:(xs.take p).length=p:=by simp;lia
 by_cases h1:i < p
 ·rw[if_pos h1,CF (by lia),Eu h1]
 ·rw[if_neg h1,CG (by lia),hl]
  by_cases h2:i=p
  ·subst h2;simp
  ·rw[if_neg h2]
   obtain ⟨q,hq⟩:∃q,i - p=q+1:=⟨i - p - 1,by lia⟩
   rw[hq,GN,Fi]
   congr 1;lia
theorem yn {xs:Array Nat} (R:Ris xs) {j:Nat} (hno:∀i:Nat,xs[i]?≠some j):Ris (insertAt xs (below xs j) j):=by
 obtain ⟨h1,h2,h3⟩:=fi R j
 have gt:∀(i x:Nat),below xs j≤i→xs[i]?=some x→j < x:=fun i x hi hx=>by
  rcases CI (h2 i x hi hx) with z |z
  ·exact z
  ·subst z;exact absurd hx (hno i)
 intro a b x y hab hx hy
 rw[cf h3] at hx hy
 by_cases a1:a < below xs j
 ·rw[if_pos a1] at hx
  by_cases b1:b < below xs j
  ·rw[if_pos b1] at hy;exact R a b x y hab hx hy
  ·rw[if_neg b1] at hy
   by_cases b2:b=below xs j
   ·rw[if_pos b2] at hy;cases hy;exact h1 a x a1 hx
   ·rw[if_neg b2] at hy;exact R a (b - 1) x y (by lia) hx hy
 ·rw[if_neg a1] at hx
  have b1:¬ b < below xs j:=by lia
  rw[if_neg b1] at hy
  have b2:¬ b=below xs j:=by lia
  rw[if_neg b2] at hy
  by_cases a2:a=below xs j
  ·rw[if_pos a2] at hx;cases hx;exact gt (b - 1) y (by lia) hy
  ·rw[if_neg a2] at hx;exact R (a - 1) (b - 1) x y (by lia) hx hy
theorem qq {xs:Array Nat}{p j:Nat} (hp:p≤xs.size) (s:Nat):(∃i:Nat,(insertAt xs p j)[i]?=some s)↔s=j∨∃i:Nat,xs[i]?=some s:=by
 constructor
 ·rintro ⟨i,hi⟩
  rw[cf hp] at hi
  split at hi
  ·exact .inr ⟨i,hi⟩
  ·split at hi
   ·cases hi;exact .inl rfl
   ·exact .inr ⟨i - 1,hi⟩
 ·rintro (rfl |⟨i,hi⟩)
  ·exact ⟨p,by rw[cf hp,if_neg (CU _),if_pos rfl]⟩
  ·by_cases h:i < p
   ·exact ⟨i,by rw[cf hp,if_pos h];exact hi⟩
   ·exact ⟨i+1,by rw[cf hp,if_neg (by lia),if_neg (by lia)];simpa using hi⟩
theorem TOk.put {t:SetTable}{hs:List Int} (T:TOk t hs) {h:Int}{N:Nat} (h0:¬ Liv t (pth t.mask h N).j) (h1:∀m,m < N→Liv t (pth t.mask h m).j) (hle:(pth t.mask h N).j≤t.mask) (hf:t.place.size+1≤t.mask):
  TOk (t.put (pth t.mask h N).j).1 (gi hs (t.put (pth t.mask h N).j).2 h):=by
 have hno:∀i:Nat,t.place[i]?≠some (pth t.mask h N).j:=fun i e=>h0 ⟨i,e⟩
 obtain ⟨_,_,hb⟩:=fi T.R (pth t.mask h N).j
 have hbl:below t.place (pth t.mask h N).j≤hs.length:=by rw[←T.n];exact hb
 have ed:(if SetTable.has t.dummies (pth t.mask h N).j then eraseAt t.dummies (below t.dummies (pth t.mask h N).j) else t.dummies)=#[]:=by
  rw[T.d];simp[SetTable.has]
 unfold SetTable.put
 simp only[ed]
 refine ⟨yn T.R hno,rfl,T.k,?_,?_,fun i x e=>?_,fun i j hh e1 e2=>?_⟩
 ·show (insertAt _ _ _).size=(gi hs _ h).length
  rw[gl _ _ _ hb,T.n];unfold gi;simp;lia
 ·show (insertAt _ _ _).size≤t.mask
  rw[gl _ _ _ hb];exact hf
 ·rcases (qq hb x).mp ⟨i,e⟩ with z |⟨q,hq⟩
  ·rw[z];exact hle
  ·exact T.le q x hq
 ·have liv:∀s,Liv t s→Liv {t with place:=insertAt t.place (below t.place (pth t.mask h N).j) (pth t.mask h N).j,dummies:=#[] } s:=fun s z=>(qq hb s).mpr (.inr z)
  change (insertAt t.place _ _)[i]?=some j at e1
  rw[cf hb] at e1
  rw[wA hbl] at e2
  split at e1
  ·rename_i z
   rw[if_pos z] at e2
   obtain ⟨m,q1,q2⟩:=T.reach i j hh e1 e2
   exact ⟨m,q1,fun m' hm=>liv _ (q2 m' hm)⟩
  ·rename_i z
   rw[if_neg z] at e2
   split at e1
   ·rename_i z2
    rw[if_pos z2] at e2
    cases e1;cases e2
    exact ⟨N,rfl,fun m' hm=>liv _ (h1 m' hm)⟩
   ·rename_i z2
    rw[if_neg z2] at e2
    obtain ⟨m,q1,q2⟩:=T.reach (i - 1) j hh e1 e2
    exact ⟨m,q1,fun m' hm=>liv _ (q2 m' hm)⟩
theorem wG {mask:Nat} (h:Int):∀n,(pth mask h n).j+(pth mask h n).more≤mask
 |0=>by
  show bits h % (mask+1)+(runEnd mask (bits h % (mask+1)) - bits h % (mask+1))≤mask
  have:=EW (bits h) (show 0 < mask+1 by lia)
  unfold runEnd;split <;>lia
 |n+1=>by
  have ih:=wG (mask:=mask) h n
  rw[pth];unfold adv
  split
  ·simp only;lia
  ·show (leap mask _ _).1+(runEnd mask (leap mask _ _).1 - (leap mask _ _).1)≤mask
   have:(leap mask (pth mask h n).i (pth mask h n).perturb).1 < mask+1:=EW _ (by lia)
   unfold runEnd;split <;>lia
def OL (owner:Array (Option Nat)) (j:Nat):Prop:=∃k:Nat,owner[j]?=some (some k)
def nr (mask:Nat) (h:Int):Nat→Nat
 |0=>0
 |r+1=>nr mask h r+(runEnd mask (aP mask h r).1 - (aP mask h r).1)+1
theorem zh (mask:Nat) (h:Int):∀r,pth mask h (nr mask h r)={j:=(aP mask h r).1,more:=runEnd mask (aP mask h r).1 - (aP mask h r).1,i:=(aP mask h r).1,perturb:=(aP mask h r).2,dummy:=none }
 |0=>rfl
 |r+1=>by
  have e:=zh mask h r
  have step:=i9 (mask:=mask) (runEnd mask (aP mask h r).1 - (aP mask h r).1) (pth mask h (nr mask h r)) (fun m=>pth mask h (nr mask h r+m)) rfl (fun m=>rfl) (by rw[e];exact B9 _)
  have step':pth mask h (nr mask h r+(runEnd mask (aP mask h r).1 - (aP mask h r).1))=_:=step
  rw[nr,pth,step',e]
  unfold adv
  rw[if_neg (by simp)]
  rfl
theorem pW (mask:Nat) (h:Int) (r k:Nat) (hk:k≤runEnd mask (aP mask h r).1 - (aP mask h r).1):(pth mask h (nr mask h r+k)).j=(aP mask h r).1+k:=by
 have e:=zh mask h r
 have step:=i9 (mask:=mask) k (pth mask h (nr mask h r)) (fun m=>pth mask h (nr mask h r+m)) rfl (fun m=>rfl) (by rw[e];exact hk)
 have step':pth mask h (nr mask h r+k)=_:=step
 rw[step',e]
theorem sS (mask i:Nat):i≤runEnd mask i:=by unfold runEnd;split <;>lia
theorem xl (mask:Nat) (h:Int):∀r,(aP mask h r).1≤mask
 |0=>Ee (EW _ (by lia))
 |r+1=>Ee (EW _ (by lia))
theorem oH {mask i:Nat} (h:i≤mask):runEnd mask i≤mask:=by unfold runEnd;split <;>lia
theorem qu {mask:Nat}{owner:Array (Option Nat)} (hsz:owner.size=mask+1) (h:Int):∀(fuel r:Nat),(∃r',r≤r'∧r' < r+fuel∧owner[(aP mask h r').1]?=some none)→(∀m,m < nr mask h r→OL owner (pth mask h m).j)→
  ∃N,layClean.free mask owner fuel (aP mask h r).1 (aP mask h r).2=some (pth mask h N).j∧owner[(pth mask h N).j]?=some none∧∀m,m < N→OL owner (pth mask h m).j
 |0,r,⟨r',h1,h2,_⟩,_=>by lia
 |fuel+1,r,hex,hl=>by
  rw[layClean.free]
  have hge:=sS mask (aP mask h r).1
  have hmk:=oH (xl mask h r)
  have hin:∀k,k < runEnd mask (aP mask h r).1+1 - (aP mask h r).1→(aP mask h r).1+k < owner.size:=fun k hk=>by lia
  cases hf:(Ds (runEnd mask (aP mask h r).1+1 - (aP mask h r).1)).find? fun k=>(owner.getD ((aP mask h r).1+k) (some 0)).isNone with
  |some k=>
   obtain ⟨p1,p2,p3⟩:=List.find?_range_eq_some.mp hf
   have hk:=Cr.mp p2
   have hlt:=hin k hk
   have e1:owner[(aP mask h r).1+k]?=some none:=by
    have:owner.getD ((aP mask h r).1+k) (some 0)=owner[(aP mask h r).1+k]:=by simp[Ga,hlt]
    rw[this] at p1
    have:owner[(aP mask h r).1+k]=none:=by simpa using p1
    simp[hlt,this]
   have ej:=pW mask h r k (by lia)
   refine ⟨nr mask h r+k,by simp only[ej],by rw[ej];exact e1,fun m hm=>?_⟩
   by_cases hm1:m < nr mask h r
   ·exact hl m hm1
   ·obtain ⟨q,rfl⟩:∃q,m=nr mask h r+q:=⟨m - nr mask h r,by lia⟩
    have hq:=p3 q (by lia)
    have hlt2:=hin q (by lia)
    rw[pW mask h r q (by lia)]
    have:owner.getD ((aP mask h r).1+q) (some 0)=owner[(aP mask h r).1+q]:=by simp[Ga,hlt2]
    rw[this] at hq
    cases hv:owner[(aP mask h r).1+q] with
    |none=>rw[hv] at hq;simp at hq
    |some v=>exact ⟨v,by simp[hlt2,hv]⟩
  |none=>
   have hall:∀q,q < runEnd mask (aP mask h r).1+1 - (aP mask h r).1→OL owner ((aP mask h r).1+q):=fun q hq=>by
    have:=List.find?_eq_none.mp hf q (Cr.mpr hq)
    have hlt2:=hin q hq
    have e:owner.getD ((aP mask h r).1+q) (some 0)=owner[(aP mask h r).1+q]:=by simp[Ga,hlt2]
    rw[e] at this
    cases hv:owner[(aP mask h r).1+q] with
    |none=>rw[hv] at this;simp at this
    |some v=>exact ⟨v,by simp[hlt2,hv]⟩
   have next:=qu hsz h fuel (r+1) (by
    obtain ⟨r',h1,h2,h3⟩:=hex
    refine ⟨r',?_,by lia,h3⟩
    rcases CI h1 with z |z
    ·exact z
    ·subst z
     obtain ⟨v,hv⟩:=hall 0 (by lia)
     rw[FS,h3] at hv
     cases hv) (fun m hm=>by
    by_cases hm1:m < nr mask h r
    ·exact hl m hm1
    ·obtain ⟨q,rfl⟩:∃q,m=nr mask h r+q:=⟨m - nr mask h r,by lia⟩
     have hm2:nr mask h r+q < nr mask h r+(runEnd mask (aP mask h r).1 - (aP mask h r).1)+1:=hm
     rw[pW mask h r q (by lia)]
     exact hall q (by lia))
   exact next
structure OI (mask:Nat) (owner:Array (Option Nat)) (hs:List Int):Prop where
 sz:owner.size=mask+1
 lt:∀(j k:Nat),owner[j]?=some (some k)→k < hs.length
 inj:∀(i j k:Nat),owner[i]?=some (some k)→owner[j]?=some (some k)→i=j
 all:∀k:Nat,k < hs.length→∃j:Nat,owner[j]?=some (some k)
 reach:∀(j k:Nat) (h:Int),owner[j]?=some (some k)→hs[k]?=some h→∃m,(pth mask h m).j=j∧∀m',m' < m→OL owner (pth mask h m').j
theorem OI.free {mask:Nat}{owner:Array (Option Nat)}{hs:List Int} (O:OI mask owner hs) (hn:hs.length≤mask):∃s,s≤mask∧owner[s]?=some none:=by
 apply DX
 intro hno
 have hlive:∀s,s≤mask→OL owner s:=fun s hs'=>by
  have hlt:s < owner.size:=by rw[O.sz];lia
  cases e:owner[s] with
  |none=>exact absurd ⟨s,hs',by simp[hlt,e]⟩ hno
  |some k=>exact ⟨k,by simp[hlt,e]⟩
 have nd:((Ds (mask+1)).map fun s=>(owner.getD s none).getD 0).Nodup:=by
  rw[HV,Df]
  refine Gy ?_ (GZ (n:=mask+1))
  intro a b ha hb hab e
  obtain ⟨k1,h1⟩:=hlive a (by have:=Cr.mp ha;lia)
  obtain ⟨k2,h2⟩:=hlive b (by have:=Cr.mp hb;lia)
  have e1:(owner.getD a none).getD 0=k1:=by simp[D9,h1]
  have e2:(owner.getD b none).getD 0=k2:=by simp[D9,h2]
  rw[e1,e2] at e
  subst e
  have:=O.inj a b k1 h1 h2
  lia
 have sub:((Ds (mask+1)).map fun s=>(owner.getD s none).getD 0) ⊆ Ds hs.length:=by
  intro x hx
  obtain ⟨s,hs1,rfl⟩:=B8.mp hx
  obtain ⟨k1,h1⟩:=hlive s (by have:=Cr.mp hs1;lia)
  have e1:(owner.getD s none).getD 0=k1:=by simp[D9,h1]
  rw[e1]
  exact Cr.mpr (O.lt s k1 h1)
 have:=Ky nd sub
 simp at this
 lia
theorem OI.step {mask k:Nat} (hk:mask+1=2 ^ k) {owner:Array (Option Nat)}{hs:List Int} (O:OI mask owner hs) (hn:hs.length≤mask) (h:Int):
  ∃j,layClean.free mask owner (turns mask) (bits h % (mask+1)) (bits h)=some j∧OI mask (owner.setIfInBounds j (some hs.length)) (hs++[h]):=by
 obtain ⟨s,hs1,hs2⟩:=O.free hn
 obtain ⟨q,hq,e⟩:=gQ (aP mask h 12).1 k s
 have er:(aP mask h (12+q)).1=s:=by rw[kc hk h q,e];exact CK (by lia)
 obtain ⟨N,f1,f2,f3⟩:=qu O.sz h (turns mask) 0 ⟨12+q,DB _,by unfold turns;lia,by rw[er];exact hs2⟩ (fun m hm=>absurd hm (K9 _))
 refine ⟨_,f1,?_⟩
 generalize hj:(pth mask h N).j=j at *
 have hjs:j < owner.size:=(Fd.mp f2).1
 have get:∀i:Nat,(owner.setIfInBounds j (some hs.length))[i]?=if j=i then some (some hs.length) else owner[i]?:=fun i=>by
  rw[Array.getElem?_setIfInBounds]
  split
  ·rename_i z;subst z;simp[hjs]
  ·rfl
 have liv:∀i,OL owner i→OL (owner.setIfInBounds j (some hs.length)) i:=fun i ⟨v,hv⟩=>by
  refine ⟨v,?_⟩
  rw[get,if_neg (fun z=>by subst z;rw[f2] at hv;cases hv)]
  exact hv
 refine ⟨by simp[O.sz],fun i v e=>?_,fun a b v e1 e2=>?_,fun v hv=>?_,fun i v hh e1 e2=>?_⟩
 ·rw[get] at e
  split at e
  ·cases e;simp
  ·have:=O.lt i v e;simp;lia
 ·rw[get] at e1 e2
  split at e1 <;>split at e2
  ·lia
  ·cases e1;exact absurd (O.lt b _ e2) (CU _)
  ·cases e2;exact absurd (O.lt a _ e1) (CU _)
  ·exact O.inj a b v e1 e2
 ·simp at hv
  rcases CI (Ee hv) with z |z
  ·obtain ⟨i,hi⟩:=O.all v z
   refine ⟨i,?_⟩
   rw[get,if_neg (fun y=>by subst y;rw[f2] at hi;cases hi)]
   exact hi
  ·subst z;exact ⟨j,by rw[get,if_pos rfl]⟩
 ·rw[get] at e1
  split at e1
  ·rename_i z
   cases e1
   rw[CG (B9 _)] at e2
   simp at e2
   subst e2
   exact ⟨N,by rw[hj];exact z,fun m hm=>liv _ (f3 m hm)⟩
  ·have hv:=O.lt i v e1
   rw[CF hv] at e2
   obtain ⟨m,q1,q2⟩:=O.reach i v hh e1 e2
   exact ⟨m,q1,fun m' hm=>liv _ (q2 m' hm)⟩
theorem rY {mask k:Nat} (hk:mask+1=2 ^ k):∀(more done:List Int) (owner:Array (Option Nat)),OI mask owner done→done.length+more.length≤mask+1→∃owner',more.foldl (fun acc h=>do
  let (owner,k) ←acc
  let j ←layClean.free mask owner (turns mask) (bits h % (mask+1)) (bits h)
  pure (owner.setIfInBounds j (some k),k+1)) (some (owner,done.length))=some (owner',done.length+more.length)∧OI mask owner' (done++more)
 |[],done,owner,O,_=>⟨owner,by simp,by simpa using O⟩
 |h::more,done,owner,O,hl=>by
  obtain ⟨j,e,O2⟩:=O.step hk (by simp at hl;lia) h
  obtain ⟨ow,e2,O3⟩:=rY hk more (done++[h]) _ O2 (by simp at hl ⊢;lia)
  refine ⟨ow,?_,by simpa using O3⟩
  rw[ED]
  have:(do
   let (owner,k) ←some (owner,done.length)
   let j ←layClean.free mask owner (turns mask) (bits h % (mask+1)) (bits h)
   pure (owner.setIfInBounds j (some k),k+1):Option (Array (Option Nat)×Nat))=some (owner.setIfInBounds j (some done.length),done.length+1):=by
   simp[e]
  rw[this]
  simp only[CW,Jc] at e2
  rw[e2]
  simp;lia
theorem oB {mask k:Nat} (hk:mask+1=2 ^ k) {hs:Array Int} (hl:hs.size≤mask+1):∃owner,layClean mask hs=some owner∧OI mask owner hs.toList:=by
 have O0:OI mask (Array.replicate (mask+1) none) []:=⟨by simp,fun j k e=>by simp[Gz] at e,fun i j k e=>by simp[Gz] at e,fun k h=>by simp at h,fun j k h e=>by simp[Gz] at e⟩
 obtain ⟨ow,e,O⟩:=rY hk hs.toList [] _ O0 (by simpa using hl)
 refine ⟨ow,?_,by simpa using O⟩
 unfold layClean
 rw[←Array.foldl_toList]
 simp only[GL] at e
 rw[e]
 rfl
theorem oE (n:Nat):∀(fuel k:Nat),n < 2 ^ (k+fuel)→∃k',k≤k'∧sizeAbove.go n fuel (2 ^ k)=2 ^ k'∧n < 2 ^ k'∧(2 ^ k'≤2*n∨k'=k)
 |0,k,h=>⟨k,B9 _,rfl,by simpa using h,.inr rfl⟩
 |fuel+1,k,h=>by
  rw[sizeAbove.go]
  by_cases hle:2 ^ k≤n
  ·rw[if_pos hle,←E3]
   obtain ⟨k',h1,h2,h3,h4⟩:=oE n fuel (k+1) (by rw[show k+1+fuel=k+(fuel+1) by lia];exact h)
   refine ⟨k',by lia,h2,h3,.inl ?_⟩
   rcases h4 with z |z
   ·exact z
   ·subst z;rw[E3];lia
  ·rw[if_neg hle]
   exact ⟨k,B9 _,rfl,by lia,.inr rfl⟩
theorem above (n:Nat) (h:n < 2 ^ 60):∃k,3≤k∧sizeAbove n=2 ^ k∧n < 2 ^ k∧2 ^ k≤2*n+8:=by
 obtain ⟨k,h1,h2,h3,h4⟩:=oE n 64 3 (CT h (Gh (by decide) (by decide)))
 refine ⟨k,h1,h2,h3,?_⟩
 rcases h4 with z |z
 ·lia
 ·subst z;lia
def dk (mask:Nat) (owner:Array (Option Nat)):List (Nat×Nat):=(Ds (mask+1)).filterMap fun j=>(owner.getD j none).map (j,·)
theorem og (owner:Array (Option Nat)):∀l:List Nat,(l.filterMap fun j=>(owner.getD j none).map (j,·)).map (·.1)=l.filter fun j=>(owner.getD j none).isSome
 |[]=>rfl
 |a::l=>by
  have ih:=og owner l
  rw[Es,KJ]
  cases owner.getD a none with
  |none=>simpa using ih
  |some v=>simpa using ih
theorem dP {mask:Nat}{owner:Array (Option Nat)} (hsz:owner.size=mask+1) (j k:Nat):(j,k)∈dk mask owner↔owner[j]?=some (some k):=by
 unfold dk
 rw[GF]
 constructor
 ·rintro ⟨a,ha,e⟩
  have hlt:a < owner.size:=by rw[hsz];exact Cr.mp ha
  cases hv:owner.getD a none with
  |none=>rw[hv] at e;cases e
  |some v=>
   rw[hv] at e
   cases e
   have:owner.getD j none=owner[j]:=by simp[Ga,hlt]
   rw[this] at hv
   simp[hlt,hv]
 ·intro e
  have hlt:=(Fd.mp e).1
  refine ⟨j,Cr.mpr (by lia),?_⟩
  rw[D9,e];rfl
theorem sW (mask:Nat) (owner:Array (Option Nat)):(dk mask owner).Pairwise fun a b=>a.1 < b.1:=by
 have:=(GZ (n:=mask+1)).filter fun j=>(owner.getD j none).isSome
 rw[←og owner (Ds (mask+1)),Df] at this
 exact this
theorem Ar {l:List Nat} (h:l.Pairwise (· < ·)):Ris l.toArray:=by
 intro i j x y hij hx hy
 rw[FT] at hx hy
 obtain ⟨h1,e1⟩:=Cg.mp hx
 obtain ⟨h2,e2⟩:=Cg.mp hy
 have:=Cw.mp h i j h1 h2 hij
 rw[e1,e2] at this
 exact this
theorem xx {mask k:Nat} (h3:3≤k) (hk:mask+1=2 ^ k) {hs:Array Int} (hl:hs.size≤mask) (finger moves:Nat) (led plain:Bool):
  ∃t order,laid mask finger moves led plain hs=some (t,order)∧TOk t (order.toList.map fun i=>hs.getD i 0)∧order.toList.Perm (Ds hs.size)∧t.mask=mask∧t.led=led∧t.plain=plain∧t.moves=moves:=by
 obtain ⟨owner,e,O⟩:=oB hk (hs:=hs) (by lia)
 have pr:=sW mask owner
 have nd:((dk mask owner).map (·.2)).Nodup:=by
  rw[HV,Df]
  refine Gy ?_ pr
  intro a b ha hb hab ee
  have h1:=(dP O.sz a.1 a.2).mp ha
  have h2:=(dP O.sz b.1 b.2).mp hb
  rw[ee] at h1
  have:=O.inj a.1 b.1 b.2 h1 h2
  lia
 have perm:((dk mask owner).map (·.2)).Perm (Ds hs.size):=by
  refine (EL nd Fe).mpr fun x=>?_
  rw[B8,Cr]
  constructor
  ·rintro ⟨⟨j,v⟩,hm,rfl⟩
   have:=O.lt j v ((dP O.sz j v).mp hm)
   simpa using this
  ·intro hx
   obtain ⟨j,hj⟩:=O.all x (by simpa using hx)
   exact ⟨(j,x),(dP O.sz j x).mpr hj,rfl⟩
 have len:(dk mask owner).length=hs.size:=by have:=perm.length_eq;simpa using this
 refine ⟨_,_,by unfold laid;rw[e];rfl,⟨?_,rfl,⟨k,h3,hk⟩,?_,?_,fun i x ee=>?_,fun i j h e1 e2=>?_⟩,?_,rfl,rfl,rfl,rfl⟩
 ·show Ris ((dk mask owner).map (·.1)).toArray
  exact Ar (by rw[Df];exact pr)
 ·show ((dk mask owner).map (·.1)).toArray.size=_
  simp[dk]
 ·show ((dk mask owner).map (·.1)).toArray.size≤mask
  simp[len,hl]
 ·change ((dk mask owner).map (·.1)).toArray[i]?=some x at ee
  rw[FT,Cb] at ee
  cases q:(dk mask owner)[i]? with
  |none=>rw[q] at ee;cases ee
  |some p=>
   rw[q] at ee
   cases ee
   have:=(dP O.sz p.1 p.2).mp (Cu q)
   have:=(Fd.mp this).1
   show p.1≤mask
   have hz:=O.sz
   lia
 ·change ((dk mask owner).map (·.1)).toArray[i]?=some j at e1
  change (((dk mask owner).map (·.2)).toArray.toList.map fun i=>hs.getD i 0)[i]?=some h at e2
  rw[FT,Cb] at e1
  rw[Cb,Cb] at e2
  cases q:(dk mask owner)[i]? with
  |none=>rw[q] at e1;cases e1
  |some p=>
   rw[q] at e1 e2
   cases e1
   have hp:=(dP O.sz p.1 p.2).mp (Cu q)
   have hlt:=O.lt _ _ hp
   have e3:hs.toList[p.2]?=some h:=by
    have e4:hs.getD p.2 0=h:=by simpa using e2
    have:p.2 < hs.size:=by simpa using hlt
    rw[←e4]
    simp[Ga,this]
   obtain ⟨m,q1,q2⟩:=O.reach _ _ h hp e3
   refine ⟨m,q1,fun m' hm=>?_⟩
   obtain ⟨v,hv⟩:=q2 m' hm
   obtain ⟨n,hn⟩:=DI.mp ((dP O.sz _ v).mpr hv)
   refine ⟨n,?_⟩
   show ((dk mask owner).map (·.1)).toArray[n]?=_
   rw[FT,Cb,hn];rfl
 ·show ((dk mask owner).map (·.2)).toArray.toList.Perm _
  simpa using perm
section
variable {prog:Cy}{w:World}{A:Dc}{E:Value→B7→Prop}{s:B7}
abbrev TK (prog:Cy) (w:World) (h:Heap) (k:List Int) (b:Addr):Prop:=IsTupleKey (Iy prog w) h k b
abbrev hsh (prog:Cy) (w:World) (k:List Int):Int:=tupleKeyHash (Iy prog w) k
theorem TK.ints {h:Heap}{k:List Int}{vs:List Value} (x:ItemsAre (Iy prog w) k vs):∀v∈vs,∃n t,v=.int n t:=by
 induction x with
 |nil=>intro v hv;simp at hv
 |cons h1 _ ih=>
  intro v hv
  rcases Cd.mp hv with rfl |hv
  ·obtain ⟨t,rfl⟩:=G7 h1;exact ⟨_,t,rfl⟩
  ·exact ih v hv
theorem kP {k:List Int}{a:Addr}{Q:Bool→B7→Prop} (hk:TK prog w s.heap k a) (h:Q false s):wpAny (model prog w) A (G_ 8 (.ref a)) Q E s:=by
 have hT:=hk.typeIs
 obtain ⟨o,items,n,ho,_,hd,hi⟩:=hk
 unfold G_
 refine B0 (Jg hT ?_)
 dsimp only
 rw[if_pos (by decide)]
 refine B0 (B6 ?_)
 simp only[D5,Cn,if_false]
 refine B0 (Ec ho hd ?_)
 dsimp only
 refine B0 ?_
 rw[←FQ]
 refine IL _ (fun rest r s'=>r.1=none∧s'=s∧∀v∈rest,∃n t,v=Dh n t) _ ?_ ?_ _ _ ⟨rfl,rfl,TK.ints (h:=s.heap) hi⟩
 ·rintro v rest r s' ⟨hr,rfl,hall⟩
  obtain ⟨n,t,rfl⟩:=hall v Ci
  have e:G_ 7 (Dh n t)=pure false:=by unfold G_;rfl
  rw[e]
  refine B0 (B6 ?_)
  simp only[Cn,if_false]
  exact B6 ⟨rfl,rfl,fun u hu'=>hall u (B4 _ hu')⟩
 ·rintro ⟨r1,r2⟩ s' ⟨hr,rfl,_⟩
  simp only at hr
  subst hr
  exact B6 h
theorem AZ {k:List Int}{a:Addr}{Q:Bool→B7→Prop} (hk:TK prog w s.heap k a) (h:Q true s):wpAny (model prog w) A (JN 8 (.ref a)) Q E s:=by
 have hT:=hk.typeIs
 obtain ⟨o,items,n,ho,_,hd,hi⟩:=hk
 unfold JN
 refine B0 (FU hT F.slot_tuple_hash.lookup ?_)
 show wpAny _ _ (Im (.ref a) >>=_) _ _ s
 refine B0 (Ec ho hd ?_)
 refine B0 ?_
 show wpAny _ _ (forIn items _ _) _ _ s
 rw[←FQ]
 refine IL _ (fun rest r s'=>r.1=none∧s'=s∧∀v∈rest,∃n t,v=Dh n t) _ ?_ ?_ _ _ ⟨rfl,rfl,TK.ints (h:=s.heap) hi⟩
 ·rintro v rest r s' ⟨hr,rfl,hall⟩
  obtain ⟨n,t,rfl⟩:=hall v Ci
  have e:JN 7 (Dh n t)=pure true:=by unfold JN;rfl
  rw[e]
  refine B0 (B6 ?_)
  simp only[D5,Cn,if_false]
  exact B6 ⟨rfl,rfl,fun u hu'=>hall u (B4 _ hu')⟩
 ·rintro ⟨r1,r2⟩ s' ⟨hr,rfl,_⟩
  simp only at hr
  subst hr
  exact B6 h
theorem oV {k:List Int}{a:Addr}{l:List Value}{Q:Bool→B7→Prop} (hk:TK prog w s.heap k a) (hl:∀v∈l,∃k' b,v=.ref b∧TK prog w s.heap k' b) (h:Q false s):
  wpAny (model prog w) A (Km (.ref a) l) Q E s:=by
 unfold Km
 refine B0 ?_
 refine IL _ (fun rest r s'=>r.1=none∧s'=s∧∀v∈rest,∃k' b,v=.ref b∧TK prog w s.heap k' b) _ ?_ ?_ _ _ ⟨rfl,rfl,hl⟩
 ·rintro v rest r s' ⟨hr,rfl,hall⟩
  obtain ⟨k',b,rfl,hb⟩:=hall v Ci
  dsimp only
  split
  ·exact B6 ⟨rfl,rfl,fun u hu'=>hall u (B4 _ hu')⟩
  ·refine B0 (Jh hk ?_)
   simp only[D5,Cn,if_false]
   refine B0 (Jh hb ?_)
   simp only[D5,Cn,if_false]
   refine B0 (kP hk ?_)
   simp only[Cn,if_false]
   refine B0 (kP hb ?_)
   simp only[Cn,if_false]
   exact B6 ⟨rfl,rfl,fun u hu'=>hall u (B4 _ hu')⟩
 ·rintro ⟨r1,r2⟩ s' ⟨hr,rfl,_⟩
  simp only at hr
  subst hr
  exact B6 h
def fv (prog:Cy) (w:World) (kb:List (List Int×Addr)):List (Int×Value):=kb.map fun p=>(hsh prog w p.1,.ref p.2)
theorem qW {kb:List (List Int×Addr)}{i:Nat}:(fv prog w kb)[i]?=(kb[i]?).map fun p=>(hsh prog w p.1,.ref p.2):=by unfold fv;rw[Cb]
theorem xZ (kb:List (List Int×Addr)):(fv prog w kb).map (·.1)=kb.map fun p=>hsh prog w p.1:=by unfold fv;rw[Dj];rfl
theorem TOk.fits {t:SetTable}{hs:List Int} (T:TOk t hs) {n:Nat} (hn:hs.length=n):t.fits n=true:=by
 have h1:=T.n
 have h2:=T.f
 have h3:t.fill=t.place.size:=by unfold fill;rw[T.d];rfl
 unfold SetTable.fits
 rw[h3]
 simp[h1,hn]
 lia
theorem TOk.gave {t:SetTable}{hs:List Int} (T:TOk t hs):t.gaveWay=false:=by
 obtain ⟨k,h3,hk⟩:=T.k
 unfold SetTable.gaveWay
 obtain ⟨j,rfl⟩:∃j,k=j+1:=⟨k - 1,by lia⟩
 rw[E3] at hk
 have:t.mask % 2=1:=by lia
 simp[this]
theorem nO {S:Addr}{o:Obj}{es:Array (Int×Value)}{ep:Nat}{t:SetTable}{kb:List (List Int×Addr)}{k:List Int}{x:Addr} (hu:A.units < cLine)
  (ho:s.heap.get? S=some o) (hd:o.data=.set es ep t) (he:es.toList=fv prog w kb) (T:TOk t (kb.map fun p=>hsh prog w p.1)) (hkb:∀p∈kb,TK prog w s.heap p.1 p.2) (hx:TK prog w s.heap k x)
  {N:Nat} (hN:N < 10*turns t.mask) (h0:¬ Liv t (pth t.mask (hsh prog w k) N).j) (h1:∀m,m < N→Liv t (pth t.mask (hsh prog w k) m).j) {Q:SetFound→B7→Prop}
  (qf:(∀p∈kb,p.1≠k)→Q (.free (pth t.mask (hsh prog w k) N).j false) s) (qt:(∃p∈kb,p.1=k)→Q (.there none) s):
  ∀(fuel n:Nat) (stand:Option Probe),n≤N→N - n < fuel→stand.getD (t.probeStart (hsh prog w k))=pth t.mask (hsh prog w k) n→
   (∀(m i:Nat) (p:List Int×Addr),m < n→t.place[i]?=some (pth t.mask (hsh prog w k) m).j→kb[i]?=some p→p.1≠k)→
   wpAny (model prog w) A (IB S (.ref x) (hsh prog w k) true fuel stand) Q E s:=by
 have hsz:es.size=kb.length:=by rw[←Cc,he];simp[fv]
 have hfit:t.fits es.size=true:=T.fits (by rw[B3,hsz])
 have eat:∀i:Nat,es[i]?=(kb[i]?).map fun (p:List Int×Addr)=>(hsh prog w p.1,C8 p.2):=fun i=>by rw[←Dy,he,qW]
 intro fuel
 induction fuel with
 |zero=>intro n stand _ h;lia
 |succ fuel ih=>
  intro n stand hn hf hst hpre
  unfold IB
  refine B0 (EO ho hd hfit ?_)
  dsimp only
  rw[T.gave]
  simp only[Cn,if_false]
  rw[hst]
  have hash:∀(i:Nat) (p:List Int×Addr),kb[i]?=some p→((es[i]?.map (fun (e:Int×Value)=>e.1)).getD 0:Int)=hsh prog w p.1:=fun i p hp=>by rw[eat,hp];rfl
  have pg:=nB T (fun (i:Nat)=>(es[i]?.map (fun (e:Int×Value)=>e.1)).getD 0) (hsh prog w k) h0 h1 (10*turns t.mask) n hn (by lia)
  split
  ·rename_i met hmet
   rcases pg with ⟨e,hne⟩ |⟨m,i,hnm,hmN,hpl,hhi,e,hbef⟩
   ·have q:some met=some (.empty (pth t.mask (hsh prog w k) N).j none):=hmet.symm.trans e
    cases q
    dsimp only
    refine B6 (qf fun p hp hpk=>?_)
    obtain ⟨i,hi⟩:=DI.mp hp
    obtain ⟨m,j,hm,hpl,hj⟩:=uI T (h:=hsh prog w k) h0 (i:=i) (by rw[Cb,hi,←hpk];rfl)
    rcases D3 m n with hmn |hmn
    ·exact hpre m i p hmn (by rw[hj];exact hpl) hi hpk
    ·exact hne m i hmn hm (by rw[hj];exact hpl) (by rw[hash i p hi,hpk])
   ·have q:some met=some (.candidate (pth t.mask (hsh prog w k) m).j i (pth t.mask (hsh prog w k) (m+1))):=hmet.symm.trans e
    cases q
    dsimp only
    have hik:i < kb.length:=by rw[←hsz,←show t.place.size=es.size by rw[T.n,B3,hsz]];exact rR hpl
    obtain ⟨p,hp⟩:∃p,kb[i]?=some p:=⟨_,B1 hik⟩
    have hpm:p∈kb:=Cu hp
    have hei:es[i]?=some (hsh prog w p.1,C8 p.2):=by rw[eat,hp];rfl
    have rest:wpAny (model prog w) A (do
      let equal ←holding [C8 p.2] (eqBool (C8 p.2) (.ref x))
      let (es',_,t') ←setState S
      if true && equal then return .there none
      let some same:=t'.sameMemory t.moves t.mask |unsupported "set.changed-during-lookup:is-the-new-block-at-the-old-address"
      let still ←match (if same then t'.slot (pth t.mask (hsh prog w k) m).j else .empty) with
       | .live i'=>match es'[i']? with
        |some (_,y')=>do pure (if ←isSame y' (C8 p.2) then some i' else none)
        |none=>pure none
       |_=>pure none
      match still with
      |none=>rule "set.search.anew";IB S (.ref x) (hsh prog w k) true fuel none
      |some i'=>if equal then return .there (some i') else IB S (.ref x) (hsh prog w k) true fuel (some (pth t.mask (hsh prog w k) (m+1)))) Q E s:=by
     refine B0 (DJ (wpAny_eqBool_tuple hu (hkb p hpm) hx ?_))
     refine B0 (EO ho hd hfit ?_)
     dsimp only
     by_cases hpk:p.1=k
     ·rw[decide_eq_true hpk]
      simp only[Bool.and_self,if_true]
      exact B6 (qt ⟨p,hpm,hpk⟩)
     ·rw[decide_eq_false hpk]
      simp only[Ic,Cn,if_false]
      have hsm:t.sameMemory t.moves t.mask=some true:=by unfold SetTable.sameMemory;simp
      rw[hsm]
      dsimp only
      rw[if_pos rfl,lv T.R hpl]
      dsimp only
      rw[hei]
      dsimp only
      refine B0 (wpAny_isSame_ref_self ?_)
      refine B0 (B6 ?_)
      simp only[if_true]
      refine ih (m+1) (some (pth t.mask (hsh prog w k) (m+1))) (by lia) (by lia) rfl fun m' i' p' hm' hpl' hp'=>?_
      rcases D3 m' n with z |z
      ·exact hpre m' i' p' z hpl' hp'
      ·rcases CI (Ee hm') with y |y
       ·have:=hbef m' i' z y hpl'
        intro e'
        exact this (by rw[hash i' p' hp',e'])
       ·subst y
        have ei:=T.R.inj hpl hpl'
        subst ei
        rw[hp] at hp'
        cases hp'
        exact hpk
    by_cases hled:t.led=true
    ·rw[hled]
     simp only[D5,Cn,if_false]
     rw[hei]
     exact rest
    ·rw[show t.led=false by simpa using hled]
     simp only[Gm,if_true]
     refine B0 (oV hx (fun v hv=>?_) ?_)
     ·obtain ⟨e',he',rfl⟩:=B8.mp hv
      have hm':e'∈es.toList:=by
       have:=Hz.mp he'
       exact Hz.mpr (Array.mem_filter.mp this).1
      rw[he] at hm'
      obtain ⟨p',hp',rfl⟩:=B8.mp hm'
      exact ⟨p'.1,p'.2,rfl,hkb p' hp'⟩
     ·simp only[Cn,if_false]
      rw[hei]
      exact rest
  ·rename_i hno
   rcases pg with ⟨e,hne⟩ |⟨m,i,hnm,hmN,hpl,hhi,e,hbef⟩
   ·exact absurd e (hno _)
   ·exact absurd e (hno _)
end
section
variable {prog:Cy}{w:World}{A:Dc}{E:Value→B7→Prop}{s:B7}
structure SP (prog:Cy) (w:World) (h:Heap) (S:Addr) (kb:List (List Int×Addr)):Prop where
 ex:∃o es ep t,h.get? S=some o∧o.ExactSet∧o.data=.set es ep t∧es.toList=fv prog w kb∧TOk t (kb.map fun p=>hsh prog w p.1)∧t.led=(!w.params.followText "set-order")∧t.plain=true∧t.tooFull=false∧t.mask < 8*kb.length+8
 keys:∀p∈kb,TK prog w h p.1 p.2
 nd:(kb.map (·.1)).Nodup
theorem TK.keep {h h':Heap}{k:List Int}{b S:Addr}{o:Obj}{es ep t} (x:TK prog w h k b) (ho:h.get? S=some o) (hd:o.data=.set es ep t) (hs:Gu S h h'):TK prog w h' k b:=by
 obtain ⟨o',items,n,ho',hc,hd',hi⟩:=x
 have hne:b≠S:=by
  rintro rfl
  obtain rfl:o'=o:=Du (ho'.symm.trans ho)
  rw[hd] at hd';exact nomatch hd'
 exact ⟨o',items,n,(hs.2 b hne).trans ho',hc,hd',hi⟩
theorem qb (x:Addr) (es:Array (Int×Value)):byScan (.ref x) es=false:=by simp[byScan,Value.scannable]
theorem nJ {α β:Type} (f:α→β) (xs:List α) (p:Nat) (x:α):(gi xs p x).map f=gi (xs.map f) p (f x):=by
 unfold gi;rw[Di,CY,J0,J2]
theorem eS {α:Type} (xs:List α) (p:Nat) (x:α):(gi xs p x).Perm (xs++[x]):=by
 unfold gi
 refine KL.trans ?_
 rw[CZ]
 exact (List.perm_append_singleton x xs).symm
theorem oK {α β:Type}{kb:List α} (f:α→β) (d:β):∀(o:List Nat),(∀i∈o,i < kb.length)→o.map (fun i=>((kb.map f).toArray).getD i d)=(o.filterMap fun i=>kb[i]?).map f
 |[],_=>rfl
 |i::o,h=>by
  have hi:=h i Ci
  rw[CY,Es,B1 hi,oK f d o fun j hj=>h j (B4 _ hj)]
  simp[Ga,hi]
theorem sK {α:Type}{kb:List α}{o:List Nat} (h:o.Perm (Ds kb.length)):(o.filterMap fun i=>kb[i]?).Perm kb:=by
 refine (h.filterMap _).trans ?_
 suffices (Ds kb.length).filterMap (fun i=>kb[i]?)=kb by rw[this]
 have:∀(l pre:List α),(List.range' pre.length l.length).filterMap (fun i=>(pre++l)[i]?)=l:=by
  intro l
  induction l with
  |nil=>intro pre;rfl
  |cons x l ih=>
   intro pre
   rw[Dt,List.range'_succ,Es]
   have e:(pre++x::l)[pre.length]?=some x:=by rw[CG (B9 _)];simp
   rw[e]
   have:=ih (pre++[x])
   rw[CA,CW] at this
   simpa using this
 have q:=this kb []
 simpa [List.range_eq_range'] using q
theorem x9 {t:SetTable}{hs:List Int} (T:TOk t hs) (h:t.tooFull=false):t.place.size+1≤t.mask:=by
 obtain ⟨k,h3,hk⟩:=T.k
 have hf:t.fill=t.place.size:=by unfold fill;rw[T.d];rfl
 have h8:2 ^ 3≤2 ^ k:=Gh (by decide) h3
 unfold tooFull at h
 rw[hf] at h
 simp at h
 lia
theorem Be {S:Addr}{o:Obj}{es:Array (Int×Value)}{ep:Nat}{t:SetTable}{kb:List (List Int×Addr)}{Q:Unit→B7→Prop} (ho:s.heap.get? S=some o) (hex:o.ExactSet) (hd:o.data=.set es ep t) (he:es.toList=fv prog w kb)
  (T:TOk t (kb.map fun p=>hsh prog w p.1)) (hl:t.led=(!w.params.followText "set-order")) (hp:t.plain=true) (hkb:∀p∈kb,TK prog w s.heap p.1 p.2) (hnd:(kb.map (·.1)).Nodup) (h1:0 < kb.length) (hn:kb.length≤1000)
  (h:∀h' kb',Gu S s.heap h'→SP prog w h' S kb'→kb'.Perm kb→Q () {s with heap:=h' }):wpAny (model prog w) A (setRelay S (grown kb.length)) Q E s:=by
 have hsz:es.size=kb.length:=by rw[←Cc,he];simp[fv]
 have hfit:t.fits es.size=true:=T.fits (by rw[B3,hsz])
 have eat:∀i:Nat,es[i]?=(kb[i]?).map fun (p:List Int×Addr)=>(hsh prog w p.1,C8 p.2):=fun i=>by rw[←Dy,he,qW]
 have hg:grown kb.length=kb.length*4:=by unfold grown;rw[if_neg (by lia)]
 rw[hg]
 obtain ⟨k,k3,ek,lk,uk⟩:=above (kb.length*4) (by lia)
 have hmask:(sizeAbove (kb.length*4) - 1)+1=2 ^ k:=by lia
 obtain ⟨t',order,e,T',hord,em,el,ep',_⟩:=xx k3 hmask (hs:=es.map (·.1)) (by rw[LB,hsz];lia) t.finger (t.movedTo (sizeAbove (kb.length*4) - 1)) t.led t.plain
 have hrel:t.relaid (es.map (·.1)) (kb.length*4)=some (t',order):=e
 have hord':order.toList.Perm (Ds kb.length):=by rw[LB,hsz] at hord;exact hord
 have hlt:∀i∈order.toList,i < kb.length:=fun i hi=>Cr.mp (hord'.mem_iff.mp hi)
 have hpk:=sK hord'
 have hes:(order.filterMap (fun i=>es[i]?)).toList=fv prog w (order.toList.filterMap fun i=>kb[i]?):=by
  rw[Array.toList_filterMap]
  unfold fv
  rw[List.map_filterMap]
  congr 1
  funext i
  rw[eat]
 have hes2:(order.filterMap (fun i=>es[i]?)).size=es.size:=by
  rw[←Cc,hes,hsz]
  unfold fv
  rw[B3,hpk.length_eq]
 unfold setRelay
 refine B0 (EO ho hd hfit ?_)
 dsimp only
 rw[if_neg (by rw[ek,EB];lia),hrel]
 have goal:wpAny (model prog w) A (do
   if (order.filterMap (fun i=>es[i]?)).size !=es.size then unsupported "internal:set-table-lost-an-element"
   pure (order.filterMap (fun i=>es[i]?),t'):Sem (Array (Int×Value)×SetTable)) (fun r s'=>wpAny (model prog w) A (storeSet S r.1 r.2) Q E s') E s:=by
  rw[hes2]
  simp only[bne_self_eq_false,Cn,if_false]
  refine B6 ?_
  refine Kn ho hd ?_ (by rw[hes2,hsz,EB];lia)
  have hg':(s.heap.update S (Ha (order.filterMap (fun i=>es[i]?)) t')).get? S=some {o with data:=.set (order.filterMap (fun i=>es[i]?)) (ep+1) t' }:=by
   have:=Da (Ha (order.filterMap (fun i=>es[i]?)) t') ho (by rw[La _ t' hd];rfl)
   rw[La _ t' hd] at this;exact this
  have hsb:=FD s.heap S (Ha (order.filterMap (fun i=>es[i]?)) t')
  refine h _ (order.toList.filterMap fun i=>kb[i]?) hsb ⟨⟨_,_,_,t',hg',hex,rfl,hes,?_,by rw[el];exact hl,by rw[ep'];exact hp,?_,?_⟩,fun p hp'=>?_,?_⟩ hpk
  ·have:=oK (kb:=kb) (fun p=>hsh prog w p.1) 0 order.toList hlt
   rw[←this]
   have e2:(es.map (·.1))=((kb.map fun p=>hsh prog w p.1)).toArray:=by
    apply IM.mp
    rw[IP,he,xZ]
   rw[e2] at T'
   exact T'
  ·have hf:t'.fill=t'.place.size:=by unfold fill;rw[T'.d];rfl
   have hn':=T'.n
   rw[B3,hord'.length_eq,Io] at hn'
   unfold tooFull
   rw[hf,hn',em]
   simp
   lia
  ·rw[em,hpk.length_eq];lia
  ·exact (hkb p (hpk.mem_iff.mp hp')).keep ho hd hsb
  ·exact ((hpk.map (·.1)).nodup_iff).mpr hnd
 exact B0 goal
end
section
variable {prog:Cy}{w:World}{A:Dc}{E:Value→B7→Prop}{s:B7}
theorem p6 {S x:Addr}{kb:List (List Int×Addr)}{k:List Int}{Q:Bool→B7→Prop} (hu:A.units < cLine) (P:SP prog w s.heap S kb) (hx:TK prog w s.heap k x) (hn:kb.length < 1000)
  (h:∀b h' kb',Gu S s.heap h'→SP prog w h' S kb'→(if k∈kb.map (·.1) then kb'=kb else kb'.Perm (kb++[(k,x)]))→Q b {s with heap:=h' }):
  wpAny (model prog w) A (setAddHashed S (.ref x) (hsh prog w k)) Q E s:=by
 obtain ⟨⟨o,es,ep,t,ho,hex,hd,he,T,hl,hp,hfull,hmask⟩,hkb,hnd⟩:=P
 have P0:SP prog w s.heap S kb:=⟨⟨o,es,ep,t,ho,hex,hd,he,T,hl,hp,hfull,hmask⟩,hkb,hnd⟩
 have hsz:es.size=kb.length:=by rw[←Cc,he];simp[fv]
 have hfit:t.fits es.size=true:=T.fits (by rw[B3,hsz])
 obtain ⟨N,hN,h0,h1⟩:=qe T (hsh prog w k)
 have hN':N < 100000:=by unfold turns at hN;lia
 unfold setAddHashed setAddHashedIn
 refine DJ (B0 (EO ho hd hfit ?_))
 dsimp only
 rw[qb]
 simp only[Cn,if_false]
 unfold setSearch
 refine B0 (nO hu ho hd he T hkb hx hN h0 h1 (fun hno=>?_) (fun hyes=>?_) 100000 0 none (DB _) (by lia) rfl fun m i p hm=>by lia)
 ·dsimp only
  have hk:k ∉ kb.map (·.1):=fun z=>by obtain ⟨p,hp',e⟩:=B8.mp z;exact hno p hp' e
  refine B0 (EO ho hd hfit ?_)
  dsimp only
  generalize hj:(pth t.mask (hsh prog w k) N).j=j at *
  have T1:=T.put (h:=hsh prog w k) (N:=N) (by rw[hj];exact h0) h1 (by have:=wG (mask:=t.mask) (hsh prog w k) N;lia) (x9 T hfull)
  rw[hj] at T1
  have epl:(t.put j).1.plain=true:=hp
  have eled:(t.put j).1.led=(!w.params.followText "set-order"):=hl
  have emask:(t.put j).1.mask=t.mask:=rfl
  generalize (t.put j).1=t1 at *
  generalize (t.put j).2=q at *
  have hlen1:(gi kb q (k,x)).length=kb.length+1:=by rw[(eS kb q (k,x)).length_eq];simp
  have he1:(insertAt es q (hsh prog w k,C8 x)).toList=fv prog w (gi kb q (k,x)):=by
   rw[d8,he]
   unfold fv
   rw[nJ]
   rfl
  have hsz1:(insertAt es q (hsh prog w k,C8 x)).size=kb.length+1:=by
   rw[←Cc,he1];unfold fv;rw[B3,hlen1]
  have T2:TOk t1 ((gi kb q (k,x)).map fun p=>hsh prog w p.1):=by rw[nJ];exact T1
  rw[if_pos epl]
  refine B0 (AZ hx ?_)
  rw[if_pos rfl]
  have hg1:(s.heap.update S (Ha (insertAt es q (hsh prog w k,C8 x)) t1)).get? S=some {o with data:=.set (insertAt es q (hsh prog w k,C8 x)) (ep+1) t1 }:=by
   have:=Da (Ha (insertAt es q (hsh prog w k,C8 x)) t1) ho (by rw[La _ t1 hd];rfl)
   rw[La _ t1 hd] at this;exact this
  have hsb:=FD s.heap S (Ha (insertAt es q (hsh prog w k,C8 x)) t1)
  have hkb1:∀p∈gi kb q (k,x),TK prog w (s.heap.update S (Ha (insertAt es q (hsh prog w k,C8 x)) t1)) p.1 p.2:=fun p hp'=>by
   have:=(eS kb q (k,x)).mem_iff.mp hp'
   rcases Dq.mp this with z |z
   ·exact (hkb p z).keep ho hd hsb
   ·rw[Ct.mp z];exact hx.keep ho hd hsb
  have hnd1:((gi kb q (k,x)).map (·.1)).Nodup:=by
   rw[((eS kb q (k,x)).map (·.1)).nodup_iff,Di,E7]
   refine ⟨hnd,by simp,fun a ha b hb=>?_⟩
   simp at hb
   subst hb
   rintro rfl
   exact hk ha
  refine B0 (Kn ho hd ?_ (by rw[hsz1,EB];lia))
  rw[Gm,HD]
  by_cases hft:t1.tooFull=true
  ·rw[if_pos hft,hsz,←hlen1]
   refine B0 (Be (s:={s with heap:=s.heap.update S (Ha (insertAt es q (hsh prog w k,C8 x)) t1) }) hg1 hex rfl he1 T2 eled epl hkb1 hnd1 (by lia) (by lia) fun h' kb' hsb' P' pm=>B6 ?_)
   exact h true h' kb' (hsb.trans hsb') P' (by rw[if_neg hk];exact pm.trans (eS kb q (k,x)))
  ·rw[if_neg hft]
   refine B6 (h true _ (gi kb q (k,x)) hsb ⟨⟨_,_,_,t1,hg1,hex,rfl,he1,T2,eled,epl,by simpa using hft,by rw[emask,hlen1];lia⟩,hkb1,hnd1⟩ (by rw[if_neg hk];exact eS kb q (k,x)))
 ·dsimp only
  refine B6 ?_
  have hk:k∈kb.map (·.1):=by obtain ⟨p,hp',e⟩:=hyes;exact B8.mpr ⟨p,hp',e⟩
  exact h false s.heap kb (Ko S s.heap) P0 (by rw[if_pos hk])
end
section
variable {prog:Cy}{w:World}{A:Dc}
theorem TK.moved {s s':B7}{wr:List Addr}{G:Array GD→Array GD→Prop}{k:List Int}{b:Addr} (x:TK prog w s.heap k b) (hb:b ∉ wr) (m:Moved wr G s s'):TK prog w s'.heap k b:=by
 obtain ⟨o,its,n,ho,hc,hd,hi⟩:=x
 exact ⟨o,its,n,m.heap b o hb ho,hc,hd,hi⟩
theorem SP.moved {s s':B7}{wr:List Addr}{G:Array GD→Array GD→Prop}{S:Addr}{kb:List (List Int×Addr)} (x:SP prog w s.heap S kb) (hS:S ∉ wr) (hb:∀p∈kb,p.2 ∉ wr) (m:Moved wr G s s'):SP prog w s'.heap S kb:=by
 obtain ⟨⟨o,es,ep,t,ho,r⟩,hk,hn⟩:=x
 exact ⟨⟨o,es,ep,t,m.heap S o hS ho,r⟩,fun p hp=>(hk p hp).moved (hb p hp) m,hn⟩
structure Got (kx:Nat→List Int×Addr) (i:Nat) (kb:List (List Int×Addr)):Prop where
 src:∀p∈kb,∃j,j < i∧p=kx j
 all:∀j,j < i→(kx j).1∈kb.map (·.1)
 len:kb.length≤i
variable {R:K0→B7→Prop}{I:Addr}{fp wr:List Addr}{G:Array GD→Array GD→Prop}{n:Nat}{P:Nat→Value→Prop}{St:Nat→B7→Prop}
theorem wQ (W:WalksS prog w A.in1 I fp wr G n P St) (hu:A.in1.units < cLine) {S:Addr} (hSf:S ∉ fp) (kx:Nat→List Int×Addr) (hP:∀i v,P i v→v=.ref (kx i).2) (hwr:∀i,i < n→(kx i).2 ∉ wr) (hn:n≤1000):
  ∀(k i:Nat) (s:B7) (kb:List (List Int×Addr)),n - i=k→i≤n→St i s→SP prog w s.heap S kb→Got kx i kb→(∀j,j < n→TK prog w s.heap (kx j).1 (kx j).2)→
   (∀s' kb',Moved (S::wr) G s s'→SP prog w s'.heap S kb'→Got kx n kb'→R (.ok (.ret .none)) s')→
   Gg (model prog w) A (.builtin "set.update.loop" ⟨[.ref S,.ref I],[]⟩) R s:=by
 have hSw:S ∉ wr:=fun h=>hSf (W.sub _ h)
 have more:∀b∈wr,b∈S::wr:=fun b hb=>B4 _ hb
 intro k
 induction k with
 |zero=>
  intro i s kb hk hi st hS g tk hR
  obtain rfl:i=n:=by lia
  refine D_ PyProof.Rows.F.entry_set_update_loop ?_
  rw[DD PyProof.Rows.F.plain_set_update_loop _]
  show wpAny _ A.in1 (Gk (.ref I) >>=_) _ _ s
  refine B0 (W.done s _ _ st fun s' m=>?_)
  exact B6 (hR s' kb (m.mono more) (hS.moved hSw (fun p hp=>by obtain ⟨j,hj,rfl⟩:=g.src p hp;exact hwr j hj) m) g)
 |succ k ih=>
  intro i s kb hk hi st hS g tk hR
  have hlt:i < n:=by lia
  have hkb:∀p∈kb,p.2 ∉ wr:=fun p hp=>by obtain ⟨j,hj,rfl⟩:=g.src p hp;exact hwr j (by lia)
  refine D_ PyProof.Rows.F.entry_set_update_loop ?_
  rw[DD PyProof.Rows.F.plain_set_update_loop _]
  show wpAny _ A.in1 (Gk (.ref I) >>=_) _ _ s
  refine B0 (W.item i s _ _ hlt st fun v s1 pv st1 m=>?_)
  obtain rfl:=hP i v pv
  have hS1:=hS.moved hSw hkb m
  have tk1:∀j,j < n→TK prog w s1.heap (kx j).1 (kx j).2:=fun j hj=>(tk j hj).moved (hwr j hj) m
  show wpAny _ A.in1 (holding [C8 (kx i).2] (setAdd S (.ref (kx i).2)) >>=_) _ _ s1
  refine B0 (DJ ?_)
  unfold setAdd
  refine DJ (B0 (wpAny_pyHash_tuple hu (tk1 i hlt) ?_))
  refine p6 (s:={s1 with toks:=s1.toks+((kx i).1.length+1) }) hu hS1 (tk1 i hlt) (by have:=g.len;lia) fun b h' kb' sb hS2 hkk=>?_
  obtain ⟨⟨o,es,ep,t,ho,hex,hd,hrest⟩,hks,hnd⟩:=hS1
  have same:∀b o,b ∉ S::wr→s1.heap.get? b=some o→h'.get? b=some o:=fun b o hb e=>by rw[sb.2 b (fun z=>hb (by rw[z];exact Ci))];exact e
  refine B6 ⟨D6 PyProof.Rows.F.plain_set_update_loop _,ih (i+1) _ kb' (by lia) hlt (W.frame _ s1 _ _ st1 (by show s1.toks≤s1.toks+_;lia) fun b hb o e=>?_) hS2 ?_ (fun j hj=>(tk1 j hj).keep ho hd sb) fun s2 kb2 m2 hS3 g2=>?_⟩
  ·rw[sb.2 b (fun z=>hSf (by rw[←z];exact hb))];exact e
  ·by_cases hin:(kx i).1∈kb.map (·.1)
   ·rw[if_pos hin] at hkk
    subst hkk
    refine ⟨fun p hp=>?_,fun j hj=>?_,by have:=g.len;lia⟩
    ·obtain ⟨j,hj,e⟩:=g.src p hp;exact ⟨j,by lia,e⟩
    ·rcases CI (Ee hj) with z |z
     ·exact g.all j z
     ·rw[z];exact hin
   ·rw[if_neg hin] at hkk
    refine ⟨fun p hp=>?_,fun j hj=>?_,by rw[hkk.length_eq];have:=g.len;simp;lia⟩
    ·rcases Dq.mp (hkk.mem_iff.mp hp) with z |z
     ·obtain ⟨j,hj,e⟩:=g.src p z;exact ⟨j,by lia,e⟩
     ·exact ⟨i,Ep i,by rw[Ct.mp z]⟩
    ·rw[(hkk.map (·.1)).mem_iff,Di]
     rcases CI (Ee hj) with z |z
     ·exact DC _ (g.all j z)
     ·rw[z];exact Cz _ (by simp)
  ·exact hR s2 kb2 (Moved.trans W.gtrans ((m.mono more).then_heap (by show s1.toks≤s1.toks+_;lia) same) m2) hS3 g2
end
section
variable {prog:Cy}{w:World}{A:Dc}{E:Value→B7→Prop}{s:B7}
abbrev bZ (w:World):Obj:={cls:=.type "set",dict:=none,data:=.set #[] 0 (.fresh 0 0 (!w.params.followText "set-order")) }
theorem vU:TOk (.fresh 0 0 (!w.params.followText "set-order")) [] where
 R:=by intro i j x y _ h;simp[SetTable.fresh] at h
 d:=rfl
 k:=⟨3,by decide,rfl⟩
 n:=rfl
 f:=by show 0≤7;decide
 le:=by intro i x h;simp[SetTable.fresh] at h
 reach:=by intro i x h hi;simp[SetTable.fresh] at hi
theorem u8 {h:Heap}{S:Addr} (e:h.get? S=some (bZ w)):SP prog w h S []:=by
 refine ⟨⟨_,_,_,_,e,⟨rfl,rfl,rfl⟩,rfl,rfl,vU,rfl,rfl,by simp[SetTable.tooFull,SetTable.fresh,SetTable.fill],by show 7 < 8;decide⟩,fun p hp=>by simp at hp,by simp⟩
theorem ya (a:Value) {Q:Value→B7→Prop} (h:Q (.ref s.heap.objs.size) {s with heap:=s.heap.push (bZ w) }):
  Gg (model prog w) A (.call (.builtin "set.__new__") ⟨[.type "set",a],[]⟩) (wants Q E) s:=by
 refine Lb ?_
 show wpAny _ A.in1 (do checkBuiltinCall "set.__new__" ⟨[.type "set",a],[]⟩;again (.builtin "set.__new__" ⟨[.type "set",a],[]⟩)) _ _ s
 refine B0 (JO (PySem.F.newCall_set_1 a) (B6 ⟨D6 Ji _,D_ PySem.F.entry_set_new ?_⟩))
 rw[DD Ji _]
 unfold Builtin.«set.__new__» Builtin.Frozenset.newClass
 have hsub:=sub_set_self
 obtain ⟨hp,g,d,tk,os⟩:=s
 dsimp only
 wp_walk
 refine Gr (B6 ?_)
 dsimp only
 simp only[newObj]
 exact B0 (wpAny_alloc (B6 (B6 h)))
end
section
variable {prog:Cy}{w:World}{A:Dc}{E:Value→B7→Prop}{s:B7}
set_option maxRecDepth 100000 in
theorem call_set_pts {l:Addr}{items:Array Value}{Q:Value→B7→Prop} (kx:Nat→List Int×Addr) (hh:A.handled=none) (hu:A.in1.in1.in1.units < cLine) (hl:s.heap.IsList l items)
  (hit:∀(i:Nat) (v:Value),items[i]?=some v→v=.ref (kx i).2) (htk:∀i,i < items.size→TK prog w s.heap (kx i).1 (kx i).2) (hn:items.size≤1000)
  (h:∀(h':Heap) (tk:Nat) (kb:List (List Int×Addr)),SP prog w h' s.heap.objs.size kb→Got kx items.size kb→(∀b o,s.heap.get? b=some o→h'.get? b=some o)→Q (.ref s.heap.objs.size) {s with heap:=h',toks:=tk }):
  wpAny (model prog w) A (call (.type "set") [.ref l]) Q E s:=by
 obtain ⟨cc,tl,hmro⟩:=EE.mro
 have hmade:=EE.made
 have hsub:=EE.sub
 refine L6 (Lb ?_)
 show wpAny _ _ (callAny (.type "set") _) _ _ _
 refine B6 ⟨Code.quiet_builtin _ (by decide+kernel),D_ PySem.F.entry_type_call ?_⟩
 rw[Around.under_plain (weight_type_call_type "set" [.ref l] []) rfl]
 have g1:=EE.notType
 have g2:=EE.canCreate
 have g3:=PySem.F.typeCall_set_1 (.ref l)
 repeat (any_goals (first |assumption |wp_step))
 refine Gv (ya (w:=w) (.ref l) (E:=E) (Q:=fun obj s₁=>obj=.ref s.heap.objs.size∧s₁={s with heap:=s.heap.push (bZ w) }) ⟨rfl,rfl⟩) fun r s₁ hr=>?_
 cases r with
 |error e=>exact hr
 |ok fl=>
  cases fl with
  |ret obj=>
   obtain ⟨rfl,rfl⟩:=hr
   have hS:(s.heap.push (bZ w)).get? s.heap.objs.size=some (bZ w):=Cm _ rfl
   have hT:Shared.TypeIs {s with heap:=s.heap.push (bZ w) } (.ref s.heap.objs.size) "set":=⟨_,hS,rfl⟩
   have hli:=EE.init.lookup
   have hbi:=EE.init.bind (.ref s.heap.objs.size)
   repeat (any_goals (first |assumption |wp_step))
   refine Gv (codeAny_call_builtin (R:=wants (fun r s₂=>r=.none∧∃h' tk kb,s₂={s with heap:=h',toks:=tk }∧
     SP prog w h' s.heap.objs.size kb∧Got kx items.size kb∧(∀b o,s.heap.get? b=some o→h'.get? b=some o)) E) EE.init.plain PySem.F.entry_set_init (check_set_init_1 hT ?_)) fun r₂ s₂ hr₂=>?_
   ·obtain ⟨ol,hol,hcl,nl,hdl⟩:=hl
    obtain ⟨ocls,odict,odata,oslots⟩:=ol
    simp only at hcl hdl
    subst hcl;subst hdl
    have hol':(s.heap.push (bZ w)).get? l=some {cls:=.type "list",dict:=odict,data:=.seq items nl,slots:=oslots }:=B5 _ hol
    have k1:=PySem.F.sub_list_set
    have k2:=PySem.F.sub_list_frozenset
    have k3:(DV "list"==DV "dict")=false:=by decide
    have hl1:(s.heap.push (bZ w)).IsList l items:=⟨_,hol',rfl,nl,rfl⟩
    unfold Builtin.«set.__init__» noKeywords Builtin.Frozenset.updateFrom
    generalize hPI:KY=PI
    wp_walk
    subst hPI
    refine EM hl1 (B0 (wpAny_runValue ?_))
    have hlS:l < s.heap.objs.size:=Cf hol
    have h3:A.in1.in1.in1.handled=none:=by simp[hh]
    have szI:(s.heap.push (bZ w)).objs.size=s.heap.objs.size+1:=Em ..
    have hneI:l≠(s.heap.push (bZ w)).objs.size:=by rw[szI];exact CP (Ew hlS)
    have hSf:s.heap.objs.size ∉ [(s.heap.push (bZ w)).objs.size,l]:=by
     rw[szI]
     intro z
     rcases Cd.mp z with z |z
     ·exact absurd z (CP (Ep _))
     ·exact absurd (Ct.mp z) (Hj hlS)
    refine wQ ((Walks.list h3 _ l hneI items).toS) hu hSf kx hit (fun i hi=>?_) hn (items.size - 0) 0 _ [] (by lia) (DB _)
     ⟨⟨_,Cm _ rfl,rfl,rfl⟩,(hl1.push _)⟩ ?_ ⟨fun p hp=>by simp at hp,fun j hj=>by lia,by simp⟩ (fun j hj=>?_) fun s' kb m hS' g=>?_
    ·intro z
     have z':=Ct.mp z
     obtain ⟨o,_,_,ho,_⟩:=htk i hi
     have:=Cf ho
     rw[z',szI] at this
     exact CU _ (Je (Ep _) this)
    ·exact u8 (B5 _ hS)
    ·obtain ⟨o,its,k,ho,r⟩:=htk j hj
     exact ⟨o,its,k,B5 _ (B5 _ ho),r⟩
    ·obtain ⟨h',g',d',tk',os'⟩:=s'
     obtain rfl:g'=s.gens:=m.gens
     obtain rfl:d'=s.drawn:=m.drawn
     obtain rfl:os'=s.os:=m.os
     refine B6 ?_
     show wpAny _ _ (ret CO) _ _ _
     refine B6 ⟨rfl,h',tk',kb,rfl,hS',g,fun b o e=>?_⟩
     have hb:=Cf e
     refine m.heap b o (fun z=>?_) (B5 _ (B5 _ e))
     rcases Cd.mp z with z |z
     ·exact absurd z (CP hb)
     ·have z':=Ct.mp z
      rw[z',szI] at hb
      exact CU _ (Je (Ep _) hb)
   ·cases r₂ with
    |error e=>exact hr₂
    |ok fl₂=>
     cases fl₂ with
     |ret r=>
      obtain ⟨rfl,h',tk,kb,rfl,hS',g,hk'⟩:=hr₂
      repeat (any_goals (first |assumption |wp_step))
      exact h _ _ kb hS' g hk'
     |_=>exact hr₂.elim
  |_=>exact hr.elim
end
theorem dI:Slot "set_iterator" "__next__" "set_iterator.__next__":=
 .of (owner:="set_iterator") (n:="__next__") (by rw[FV,ES];kernel_rfl) (by decide+kernel) (by decide+kernel) (by decide+kernel) (by first |exact .inl (by decide+kernel) |exact .inr (by decide+kernel)) (by rw[Hg];kernel_rfl)
theorem ju:entryFor table "set_iterator.__next__"=some Builtin.«set_iterator.__next__»:=entryFor_of_tree (by kernel_rfl)
theorem kH (a:Value):argsOk "set_iterator.__next__" ⟨[a],[]⟩:=by unfold argsOk;kernel_rfl
theorem pY:entryFor table "set.__iter__"=some Builtin.«frozenset.__iter__»:=LC (id':="frozenset.__iter__") (by kernel_rfl) rfl (by decide+kernel) (by kernel_rfl)
theorem pK {α:Type}{l:List α}{i:Nat} (h:i < l.length):(l[i]::l.eraseIdx i).Perm l:=by
 rw[List.eraseIdx_eq_take_drop_succ]
 refine KL.symm.trans ?_
 rw[←Dp h,CZ]
theorem qA {α:Type} (next:Nat→Nat):∀(fuel k:Nat) (left:List α) (out:Array α),left.length=fuel→(pickOrder.go next fuel k left out).toList.Perm (out.toList++left)
 |0,k,left,out,h=>by
  obtain rfl:left=[]:=Ed.mp h
  rw[pickOrder.go,DG]
 |fuel+1,k,left,out,h=>by
  have hi:next k % left.length < left.length:=EW _ (by lia)
  rw[pickOrder.go,B1 hi]
  refine (qA next fuel (k+1) _ _ (by rw[List.length_eraseIdx_of_lt hi];lia)).trans ?_
  rw[Ex,CA]
  refine Fj _ ?_
  rw[List.singleton_append]
  exact pK hi
theorem vH {α:Type} (next:Nat→Nat) (xs:Array α):(J3 next xs).toList.Perm xs.toList:=by
 unfold J3
 have:=qA next xs.size 0 xs.toList #[] (by simp)
 simpa using this
section
variable {prog:Cy}{w:World}{A:Dc}{E:Value→B7→Prop}{s:B7}
def cg (w:World) (S:Addr) (es:Array (Int×Value)) (ep:Nat):List Value:=(if w.params.followText "set-order"=true then J3 (w.params.setOrder S ep) es else es).toList.map (·.2)
theorem eI (w:World) (S:Addr) (es:Array (Int×Value)) (ep:Nat):(cg w S es ep).Perm (es.toList.map (·.2)):=by
 unfold cg
 refine List.Perm.map _ ?_
 split
 ·exact vH _ es
 ·exact JI _
def fE (t:SetTable):Nat→Nat
 |0=>0
 |j+1=>t.place.getD j 0+1
def aU (w:World) (t:SetTable) (i:Nat):Nat:=if w.params.followText "set-order"=true then 0 else fE t i
def p7 (w:World) (h:Heap) (it S:Addr) (t:SetTable) (i n ep:Nat):Prop:=∃o,h.get? it=some o∧o.cls=.type "set_iterator"∧o.data=.fields #[HY (aU w t i),HY i,.ref S,HY n,HY ep]
theorem p7.ty {it S:Addr}{t:SetTable}{i n ep:Nat} (x:p7 w s.heap it S t i n ep):s.TypeIs (.ref it) "set_iterator":=let ⟨o,ho,hc,_⟩:=x;⟨o,ho,hc⟩
structure SO (prog:Cy) (w:World) (o:Obj) (es:Array (Int×Value)) (ep:Nat) (t:SetTable) (hs:List Int):Prop where
 ex:o.ExactSet
 d:o.data=.set es ep t
 T:TOk t hs
 n:hs.length=es.size
 led:t.led=(!w.params.followText "set-order")
 plain:t.plain=true
theorem uF {S:Addr}{o:Obj}{es ep t hs}{Q:Bool→B7→Prop} (O:SO prog w o es ep t hs) (ho:s.heap.get? S=some o) (h:Q false s):wpAny (model prog w) A (setDrawn S) Q E s:=by
 unfold setDrawn L_
 refine B0 (EO ho O.d (O.T.fits O.n) (B0 (B0 (Gr (B6 (B6 ?_))))))
 have q:Q (!w.params.followText "set-order" && (!t.plain && decide (es.size >1))) s:=by rw[O.plain];simpa using h
 exact q
theorem wd {S:Addr}{o:Obj}{es ep t hs}{Q:Value→B7→Prop} (O:SO prog w o es ep t hs) (ho:s.heap.get? S=some o)
  (hQ:Q (.ref s.heap.objs.size) {s with heap:=s.heap.push {cls:=.type "set_iterator",data:=.fields #[HY 0,HY 0,.ref S,HY es.size,HY ep] } }):wpAny (model prog w) A (KY (.ref S)) Q E s:=by
 have hT:s.TypeIs (.ref S) "set":=⟨o,ho,O.ex.1⟩
 refine Ip hT Jj (DT Jj hT pY ?_ (PySem.F.args_set_iter_1 _))
 unfold Builtin.«frozenset.__iter__»
 show wpAny _ _ (Builtin.Frozenset.sizeOf S >>=_) _ _ s
 unfold Builtin.Frozenset.sizeOf
 refine B0 (B0 (HI ho O.d (O.T.fits O.n) (B6 ?_)))
 refine B0 (uF O ho ?_)
 simp only[Cn,if_false]
 refine B0 (B6 ?_)
 refine B0 (wpAny_setEpoch_of ho O.d (O.T.fits O.n) ?_)
 refine B0 (E6 (B6 ⟨_,rfl,"set_iterator",_,⟨_,Cm _ rfl,rfl⟩,dI.lookup,?_⟩))
 exact hQ
theorem p5 {t:SetTable}{hs:List Int} (T:TOk t hs) {i:Nat} (hi:i≤t.place.size):below t.place (fE t i)=i:=by
 obtain ⟨h1,h2,h3⟩:=fi T.R (fE t i)
 cases i with
 |zero=>
  dsimp only[fE] at *
  rcases GO (below t.place 0) with z |z
  ·exact z
  ·have:=h1 0 _ z (d4 (by lia));lia
 |succ j=>
  dsimp only[fE] at *
  have hj:j < t.place.size:=by lia
  have ej:t.place.getD j 0=t.place[j]:=by simp[Ga,hj]
  rw[ej] at h1 h2 h3 ⊢
  generalize hb:below t.place (t.place[j]+1)=b at *
  rcases F_ b (j+1) with z |z |z
  ·have:=h2 j t.place[j] (by lia) (d4 hj);lia
  ·exact z
  ·have q:=h1 (j+1) _ z (d4 (by lia))
   have:=T.R j (j+1) _ _ (by lia) (d4 hj) (d4 (show j+1 < t.place.size by lia))
   lia
theorem jM {S:Addr}{o:Obj}{es ep t hs}{i:Nat}{Q:Option (Value×Nat)→B7→Prop} (O:SO prog w o es ep t hs) (ho:s.heap.get? S=some o) (hi:i≤es.size)
  (h:Q (((cg w S es ep)[i]?).map fun v=>(v,aU w t (i+1))) s):wpAny (model prog w) A (setNext S (aU w t i) i ep) Q E s:=by
 have hfit:=O.T.fits O.n
 have hpl:t.place.size=es.size:=by rw[O.T.n,O.n]
 unfold setNext L_
 refine B0 (EO ho O.d hfit (B0 (B0 (Gr (B6 ?_)))))
 by_cases bt:w.params.followText "set-order"=true
 ·dsimp only
  rw[show (model prog w).w.params.followText "set-order"=true from bt,if_pos rfl,if_neg (by simp)]
  unfold setWalk L_
  refine B0 (B0 (EO ho O.d hfit (B0 (B0 (Gr (B6 ?_))))))
  dsimp only
  rw[show (model prog w).w.params.followText "set-order"=true from bt,if_pos rfl]
  refine B0 (Gr (B6 (B6 ?_)))
  have e:Kp (fun (e:Int×Value)=>(e.2,aU w t i)) (J3 (w.params.setOrder S ep) es)[i]?=((cg w S es ep)[i]?).map fun v=>(v,aU w t (i+1)):=by
   unfold cg aU
   rw[if_pos bt,if_pos bt,if_pos bt,Cb,Dy,Option.map_map]
   rfl
  have q:Q (Kp (fun (e:Int×Value)=>(e.2,aU w t i)) (J3 (w.params.setOrder S ep) es)[i]?) s:=by rw[e];exact h
  exact q
 ·have bf:w.params.followText "set-order"=false:=by simpa using bt
  dsimp only
  rw[show (model prog w).w.params.followText "set-order"=false from bf,if_neg (by simp)]
  have e1:aU w t i=fE t i:=by unfold aU;rw[if_neg bt]
  have e2:below t.place (aU w t i)=i:=by rw[e1];exact p5 O.T (by lia)
  have e3:(match es[below t.place (aU w t i)]?,t.place[below t.place (aU w t i)]? with
    |some (_,x),some j=>some (x,j+1)
    |_,_=>none)=((cg w S es ep)[i]?).map fun v=>(v,aU w t (i+1)):=by
   rw[e2]
   unfold cg aU
   rw[if_neg bt,if_neg bt,Cb,Dy]
   rcases D3 i es.size with z |z
   ·have z':i < t.place.size:=by lia
    simp[z,z',Ga,fE]
   ·have z':t.place.size≤i:=by lia
    simp[z,z']
  split
  ·rename_i hc
   exact absurd (show (!t.plain && decide (es.size >1))=true from hc) (by rw[O.plain];simp)
  ·refine B0 ?_
   show wpAny _ _ (if (!t.led && !es.isEmpty)=true then unsupported "set:maker-not-led" else pure ()) _ _ _
   rw[O.led,bf,if_neg (by simp)]
   refine B6 (B6 ?_)
   have q:Q (match es[below t.place (aU w t i)]?,t.place[below t.place (aU w t i)]? with
    |some (_,x),some j=>some (x,j+1)
    |_,_=>none) s:=by rw[e3];exact h
   exact q
theorem r_ {S it:Addr}{o:Obj}{es ep t hs}{i:Nat}{v:Value}{Q:Option Value→B7→Prop} (O:SO prog w o es ep t hs) (ho:s.heap.get? S=some o) (hit:p7 w s.heap it S t i es.size ep) (hv:(cg w S es ep)[i]?=some v)
  (hQ:∀h',p7 w h' it S t (i+1) es.size ep→Gu it s.heap h'→Q (some v) {s with heap:=h' }):wpAny (model prog w) A (Gk (.ref it)) Q E s:=by
 obtain ⟨oi,hoi,hc,hd⟩:=id hit
 have hfit:=O.T.fits O.n
 unfold Gk
 refine B0 (GP (E2 (name:=Str.ofString "__next__") hit.ty dI (DT dI hit.ty ju ?_ (kH _))))
 unfold Builtin.«set_iterator.__next__»
 refine B0 (m:=slotArgs "__next__" 0 _) (B6 ?_)
 dsimp only
 refine B0 (LD hoi hd ?_)
 dsimp only[HY]
 refine B0 (HI ho O.d hfit ?_)
 rw[if_neg (by simp)]
 have hlt:i < es.size:=by
  have q:=(Cg.mp hv).1
  rw[(eI w S es ep).length_eq,B3,Cc] at q
  exact q
 rw[show ((aU w t i:Nat):Int).toNat=aU w t i from E8 _,show ((i:Nat):Int).toNat=i from E8 _,show ((ep:Nat):Int).toNat=ep from E8 _]
 refine B0 (jM O ho (DE hlt) ?_)
 rw[hv]
 dsimp only[Kp]
 refine B0 (JJ hoi hd (by simp) ?_)
 have g1:=Da (Obj.mapFields (·.setIfInBounds 0 (Dh ((aU w t (i+1):Nat):Int) 0))) hoi (Jk (Fk hd _))
 refine B0 (JJ g1 (Fk hd _) (by simp) ?_)
 refine B6 ⟨_,rfl,B6 (hQ _ ?_ ((FD ..).trans (FD ..)))⟩
 refine ⟨_,Da _ g1 (Jk (Fk (Fk hd _) _)),(Kq ..).trans ((Kq ..).trans hc),?_⟩
 rw[Fk (Fk hd _)]
 simp[HY]
theorem vQ {S it:Addr}{o:Obj}{es ep t hs}{Q:Option Value→B7→Prop} (hh:A.handled=none) (O:SO prog w o es ep t hs) (ho:s.heap.get? S=some o) (hit:p7 w s.heap it S t es.size es.size ep)
  (hQ:∀h',Heap.ExtBut it s.heap h'→Q none {s with heap:=h' }):wpAny (model prog w) A (Gk (.ref it)) Q E s:=by
 obtain ⟨oi,hoi,hc,hd⟩:=id hit
 have hfit:=O.T.fits O.n
 unfold Gk
 refine B0 (GP (E2 (name:=Str.ofString "__next__") hit.ty dI (DT dI hit.ty ju ?_ (kH _))))
 unfold Builtin.«set_iterator.__next__»
 refine B0 (m:=slotArgs "__next__" 0 _) (B6 ?_)
 dsimp only
 refine B0 (LD hoi hd ?_)
 dsimp only[HY]
 refine B0 (HI ho O.d hfit ?_)
 rw[if_neg (by simp)]
 rw[show ((aU w t es.size:Nat):Int).toNat=aU w t es.size from E8 _,show ((es.size:Nat):Int).toNat=es.size from E8 _,show ((ep:Nat):Int).toNat=ep from E8 _]
 refine B0 (jM O ho (B9 _) ?_)
 rw[show (cg w S es ep)[es.size]?=none from C0 (by rw[(eI w S es ep).length_eq,B3,Cc];exact B9 _)]
 dsimp only[Kp]
 refine B0 (JJ hoi hd (by simp) ?_)
 refine B0 ?_
 simp only[newExc,newTuple]
 refine B0 (E6 ?_ (by size_fits))
 refine B0 (m:=LF _ _) (JO (a:=CO) (by first |rfl | (simp only[LF];rfl)) ?_)
 refine E6 ?_ (by size_fits)
 simp only[raiseNew]
 refine B0 (wpAny_handled ?_)
 rw[show A.in1.handled=none from hh]
 refine B0 (B6 (wpAny_throw ?_))
 refine B0 (Ff (T:="StopIteration") (b:=true) ⟨_,Cm _ rfl,rfl⟩ JK ?_)
 exact B6 (hQ _ (((FD ..).extBut.push _).push _))
end
end ST
namespace ST
open PySem PySem.SetTable PySem.W
theorem kQ:Slot "set_iterator" "__iter__" "set_iterator.__iter__":=
 .of (owner:="set_iterator") (n:="__iter__") (by rw[FV,ES];kernel_rfl) (by decide+kernel) (by decide+kernel) (by decide+kernel) (by first |exact .inl (by decide+kernel) |exact .inr (by decide+kernel)) (by rw[Hg];kernel_rfl)
theorem o3:entryFor table "set_iterator.__iter__"=some Builtin.«dict_keyiterator.__iter__»:=LC (id':="dict_keyiterator.__iter__") (by kernel_rfl) rfl (by decide+kernel) (by kernel_rfl)
theorem tf (a:Value):argsOk "set_iterator.__iter__" ⟨[a],[]⟩:=by unfold argsOk;kernel_rfl
section
variable {prog:Cy}{w:World}{A:Dc}{E:Value→B7→Prop}{s:B7}
theorem ye {it S:Addr}{t:SetTable}{i n ep:Nat}{Q:Value→B7→Prop} (hit:p7 w s.heap it S t i n ep) (h:Q (.ref it) s):wpAny (model prog w) A (KY (.ref it)) Q E s:=by
 refine Ip hit.ty kQ (DT kQ hit.ty o3 ?_ (tf _))
 exact B6 ⟨_,rfl,"set_iterator",_,hit.ty,dI.lookup,h⟩
theorem sE (hh:A.handled=none) {it S:Addr} (hne:S≠it) {o:Obj}{es ep t hs} (O:SO prog w o es ep t hs):
  Walks prog w A it [it,S] [it] es.size (fun i v=>(cg w S es ep)[i]?=some v) (fun i h=>p7 w h it S t i es.size ep∧h.get? S=some o) where
 sub:=fun b hb=>by simp at hb;simp[hb]
 frame:=fun _ _ _ st hk=>⟨let ⟨x,hx,r⟩:=st.1;⟨x,hk it (by simp) x hx,r⟩,hk S (by simp) o st.2⟩
 item:=fun i s Q E hi st hQ=>by
  obtain ⟨v,hv⟩:∃v,(cg w S es ep)[i]?=some v:=⟨_,B1 (by rw[(eI w S es ep).length_eq,B3,Cc];exact hi)⟩
  refine r_ O st.2 st.1 hv fun h' hit' sb=>?_
  exact hQ v h' s.toks hv ⟨hit',(sb.2 S hne).trans st.2⟩ fun b x hb e=>sb.extBut b x (fun z=>hb (by simp[z])) e
 done:=fun s Q E st hQ=>vQ hh O st.2 st.1 fun h' xb=>hQ h' s.toks fun b x hb e=>xb b x (fun z=>hb (by simp[z])) e
 self:=fun _ _ _ _ st hQ=>ye st.1 hQ
theorem vL {r:Addr}{Q:Bool→B7→Prop} (hT:s.TypeIs (.ref r) "set") (h:Q false s):wpAny (model prog w) A (Builtin.List.listLengthHint (.ref r)) Q E s:=by
 unfold Builtin.List.listLengthHint
 refine B0 (FU hT PySem.F.slot_set_len.lookup ?_)
 generalize hid:("set.__len__":String)=id0
 wp_delta
 rw[show splitId id0=some ("set","__len__") from by subst hid;decide+kernel]
 subst hid
 refine B0 (Ff (T:="set") (b:=true) hT (by rw[Hg];kernel_rfl) ?_)
 refine Fx (fun z=>absurd z (by decide)) (fun _=>?_)
 refine Fx (fun _=>?_) (fun z=>absurd (by decide+kernel) z)
 exact B0 (Jg hT (B6 h))
theorem yH {S:Addr}{o:Obj}{es ep t hs} (O:SO prog w o es ep t hs):KdlSrc prog w "set" S S es.size (fun i v=>(cg w S es ep)[i]?=some v) (fun h=>h.get? S=some o) where
 type:=fun _ hm=>⟨o,hm,O.ex.1⟩
 there:=fun _ hm=>⟨Cf hm,Cf hm⟩
 keep:=fun _ _ hm hk=>hk S (.inl rfl) o hm
 notList:=by decide
 notTuple:=by decide
 hint:=fun _ _ _ _ hm hq=>vL ⟨o,hm,O.ex.1⟩ hq
 iter:=fun _ s hh hm=>⟨_,_,(fun _ _ hq=>wd O hm hq),sE hh (CP (Cf hm)) O,⟨⟨_,Cm _ rfl,rfl,by simp[aU,fE]⟩,B5 _ hm⟩⟩
end
end ST
namespace ST
open PySem PySem.W PyProof.Rows
inductive zK (lt:Nat→Nat→Bool) (n:Nat) {α:Type}:KasT α→α→Prop
 |ret (a:α):zK lt n (.ret a) a
 |ask {i j:Nat}{k:Bool→KasT α}{a:α}:i < n→j < n→zK lt n (k (lt i j)) a→zK lt n (.ask i j k) a
variable {lt:Nat→Nat→Bool}{n:Nat}
structure LtO (n:Nat) (lt:Nat→Nat→Bool):Prop where
 tr:∀i j k,lt i j=true→lt j k=true→lt i k=true
 tot:∀i j,i < n→j < n→i≠j→lt i j=false→lt j i=true
 asy:∀i j,lt i j=true→lt j i=false
abbrev g (p:Array Nat) (k:Nat):Nat:=p.getD k 0
structure PP (n:Nat) (p:Array Nat):Prop where
 perm:p.toList.Perm (Ds n)
def ltP (a b:Int×Int):Bool:=decide (a.1 < b.1∨(a.1=b.1∧a.2 < b.2))
theorem v5 {a b c:Int×Int} (h1:ltP a b=true) (h2:ltP b c=true):ltP a c=true:=by
 unfold ltP at *;simp at *;lia
theorem xw {a b:Int×Int} (h1:ltP a b=true):ltP b a=false:=by
 unfold ltP at *;simp at *;lia
theorem ltP_tot {a b:Int×Int} (h:a≠b) (h1:ltP a b=false):ltP b a=true:=by
 unfold ltP at *
 have:¬ (a.1=b.1∧a.2=b.2):=fun z=>h (Er z.1 z.2)
 simp at *;lia
section
variable {prog:Cy}{w:World}{A:Dc}{E:Value→B7→Prop}{s:B7}
theorem TK.two {h:Heap}{x y:Int}{b:Addr} (k:TK prog w h [x,y] b):∃o its n t u,h.get? b=some o∧o.cls=.type "tuple"∧o.data=.seq its n∧its.toList=[.int x t,.int y u]:=by
 obtain ⟨o,its,n,ho,hc,hd,hi⟩:=k
 cases hi':its.toList with
 |nil=>rw[hi'] at hi;cases hi
 |cons v1 r=>
  rw[hi'] at hi
  cases hi with
  |cons h1 hr=>
   cases hr with
   |cons h2 hr2=>
    cases hr2
    obtain ⟨t,rfl⟩:=G7 h1
    obtain ⟨u,rfl⟩:=G7 h2
    exact ⟨o,its,n,t,u,ho,hc,hd,hi'⟩
theorem AA {x y:Addr}{a b:Int×Int}{Q:Bool→B7→Prop} (hx:TK prog w s.heap [a.1,a.2] x) (hy:TK prog w s.heap [b.1,b.2] y) (h:Q (ltP a b) s):wpAny (model prog w) A (keyLt' (tuples' true) (.ref x) (.ref y)) Q E s:=by
 obtain ⟨o,its,n,t,u,ho,_,hd,hi⟩:=hx.two
 obtain ⟨o',its',n',t',u',ho',_,hd',hi'⟩:=hy.two
 refine kat_lt ho hd ho' hd' ?_
 rw[hi,hi']
 refine kat_cons ((Iy prog w).eqBool (a:=a.1) (b:=b.1) (ER _ _ _ _) (ER _ _ _ _) ?_)
 by_cases e1:a.1=b.1
 ·rw[decide_eq_true e1]
  refine kat_yes (kat_cons ((Iy prog w).eqBool (a:=a.2) (b:=b.2) (ER _ _ _ _) (ER _ _ _ _) ?_))
  by_cases e2:a.2=b.2
  ·rw[decide_eq_true e2]
   refine kat_yes (kat_nil ?_)
   have z:ltP a b=false:=by unfold ltP;simp;lia
   rw[z] at h
   have z2:decide (its.size < its'.size)=false:=by
    rw[←Cc,←Cc,hi,hi'];simp
   rw[z2];exact h
  ·rw[decide_eq_false e2]
   refine kat_no (kat_one _ _ (lt_int ?_))
   have z:ltP a b=decide (a.2 < b.2):=by unfold ltP;rw[e1];simp
   rw[z] at h
   exact h
 ·rw[decide_eq_false e1]
  refine kat_no (oneLt_int ?_)
  have z:ltP a b=decide (a.1 < b.1):=by unfold ltP;simp[e1]
  rw[z] at h
  exact h
abbrev PB:=List ((Int×Int)×Addr)
abbrev refs (pb:PB):List Value:=pb.map fun p=>C8 p.2
theorem uB {pb:PB}{Q:HE→B7→Prop} (htk:∀p∈pb,TK prog w s.heap [p.1.1,p.1.2] p.2) (h0:0 < pb.length) (h:Q (tuples' true) s):wpAny (model prog w) A (keyKind' (refs pb).toArray) Q E s:=by
 obtain ⟨fs,hf,hl,hi⟩:∃fs,KatTups s.heap (refs pb) fs∧fs.length=pb.length∧∀v∈fs,∃n t,v=Dh n t:=by
  clear h h0
  induction pb with
  |nil=>exact ⟨[],.nil,rfl,fun v hv=>by simp at hv⟩
  |cons p r ih=>
   obtain ⟨fs,hf,hl,hi⟩:=ih fun q hq=>htk q (B4 _ hq)
   obtain ⟨o,its,n,t,u,ho,hc,hd,hit⟩:=(htk p Ci).two
   refine ⟨.int p.1.1 t::fs,.cons ho hc hd (by rw[←Dy,hit];rfl) hf,by simp[hl],fun v hv=>?_⟩
   rcases Cd.mp hv with z |z
   ·exact ⟨_,_,z⟩
   ·exact hi v z
 refine kat_kind (T:=.type "int") hf (by lia) (fun v hv=>?_) (by decide) h
 obtain ⟨n,t,rfl⟩:=hi v hv
 exact Looks.of_pure rfl
end
end ST
namespace ST
open PySem PySem.W PyProof.Rows PySem.Calls
theorem vp {α β:Type} (f:α→β) {l m:List β} (h:l.Perm m):∀kb:List α,m=kb.map f→∃kb':List α,Lc kb' kb∧l=List.map f kb':=by
 induction h with
 |nil=>intro kb e;exact ⟨kb,.refl _,e⟩
 | @cons x l m _ ih=>
  intro kb e
  match kb,e with
  |[],e=>simp at e
  |k::kb,e=>
   rw[CY,Ld] at e
   obtain ⟨kb',p,e'⟩:=ih kb e.2
   exact ⟨k::kb',p.cons k,by rw[CY,←e',e.1]⟩
 |swap x y l=>
  intro kb e
  match kb,e with
  |[],e=>simp at e
  |[_],e=>simp at e
  |k::k'::kb,e=>
   simp only[CY,Ld] at e
   exact ⟨k'::k::kb,.swap k k' kb,by rw[CY,CY,←e.2.2,e.1,e.2.1]⟩
 |trans _ _ ih1 ih2=>
  intro kb e
  obtain ⟨kb2,p2,e2⟩:=ih2 kb e
  obtain ⟨kb1,p1,e1⟩:=ih1 kb2 e2
  exact ⟨kb1,p1.trans p2,e1⟩
def ptsOf (kb:List (List Int×Addr)):PB:=kb.map fun p=>((p.1.getD 0 0,p.1.getD 1 0),p.2)
section
variable {prog:Cy}{w:World}{A:Dc}{E:Value→B7→Prop}{s:B7}
end
end ST
namespace ST
open PySem
def ins (x:Int×Int):List (Int×Int)→List (Int×Int)
 |[]=>[x]
 |y::r=>if x=y then y::r else if ltP x y=true then x::y::r else y::ins x r
def srt (pts:List (Int×Int)):List (Int×Int):=pts.foldr ins []
theorem mE (x z:Int×Int):∀l,z∈ins x l↔z=x∨z∈l
 |[]=>by simp[ins]
 |y::r=>by
  unfold ins
  split
  ·rename_i h;subst h;simp
  ·split
   ·simp
   ·rw[Cd,mE x z r,Cd]
    constructor
    ·rintro (h |h |h)
     ·exact .inr (.inl h)
     ·exact .inl h
     ·exact .inr (.inr h)
    ·rintro (h |h |h)
     ·exact .inr (.inl h)
     ·exact .inl h
     ·exact .inr (.inr h)
abbrev Asc (l:List (Int×Int)):Prop:=l.Pairwise (fun x y=>ltP x y=true)
theorem rZ (x:Int×Int):∀l,Asc l→Asc (ins x l)
 |[],_=>by simp[ins]
 |y::r,h=>by
  unfold ins
  split
  ·exact h
  ·rename_i hne
   obtain ⟨h1,h2⟩:=CH.mp h
   split
   ·rename_i hlt
    refine CH.mpr ⟨fun z hz=>?_,h⟩
    rcases Cd.mp hz with e |e
    ·rw[e];exact hlt
    ·exact v5 hlt (h1 z e)
   ·rename_i hlt
    refine CH.mpr ⟨fun z hz=>?_,rZ x r h2⟩
    rcases (mE x z r).mp hz with e |e
    ·rw[e];exact ltP_tot hne (by simpa using hlt)
    ·exact h1 z e
theorem srt_mem (z:Int×Int):∀l,z∈srt l↔z∈l
 |[]=>by simp[srt]
 |y::r=>by
  show z∈ins y (srt r)↔_
  rw[mE,srt_mem z r,Cd]
theorem srt_asc:∀l,Asc (srt l)
 |[]=>G9
 |y::r=>rZ y (srt r) (srt_asc r)
theorem asc_irr {x:Int×Int}:ltP x x=false:=by unfold ltP;simp
theorem asc_one:∀{l m:List (Int×Int)},Asc l→Asc m→(∀z,z∈l↔z∈m)→l=m
 |[],[],_,_,_=>rfl
 |[],y::r,_,_,h=>by have:=(h y).mpr Ci;simp at this
 |x::l,[],_,_,h=>by have:=(h x).mp Ci;simp at this
 |x::l,y::m,hl,hm,h=>by
  obtain ⟨a1,a2⟩:=CH.mp hl
  obtain ⟨b1,b2⟩:=CH.mp hm
  have e:x=y:=by
   rcases Cd.mp ((h x).mp Ci) with z |z
   ·exact z
   ·rcases Cd.mp ((h y).mpr Ci) with z' |z'
    ·exact z'.symm
    ·have:=xw (b1 x z)
     rw[a1 y z'] at this;cases this
  subst e
  congr 1
  refine asc_one a2 b2 fun z=>⟨fun hz=>?_,fun hz=>?_⟩
  ·rcases Cd.mp ((h z).mp (B4 _ hz)) with e |e
   ·have:=a1 z hz;rw[e,asc_irr] at this;cases this
   ·exact e
  ·rcases Cd.mp ((h z).mpr (B4 _ hz)) with e |e
   ·have:=b1 z hz;rw[e,asc_irr] at this;cases this
   ·exact e
theorem asc_srt {l:List (Int×Int)} (h:Asc l):srt l=l:=asc_one (srt_asc l) h fun z=>srt_mem z l
theorem rW (x:Int×Int):∀l,(ins x l).length≤l.length+1
 |[]=>by simp[ins]
 |y::r=>by
  have:=rW x r
  unfold ins
  split
  ·simp
  ·split
   ·simp
   ·simp only[Dt];lia
theorem srt_len:∀l,(srt l).length≤l.length
 |[]=>B9 _
 |y::r=>by
  have h1:=rW y (srt r)
  have h2:=srt_len r
  show (ins y (srt r)).length≤_
  simp only[Dt];lia
end ST
namespace L2
open PySem PySem.Spec PyProof.Rows
theorem BZ {p:Nat→Addr→Prop}{n:Nat} (h:∀i,i < n→∃b,p i b):∃f:Nat→Addr,∀i,i < n→p i (f i):=by
 refine ⟨fun i=>if k:i < n then KM (h i k) else 0,fun i hi=>?_⟩
 dsimp only
 rw[dif_pos hi]
 exact Jl (h i hi)
theorem wg:EJ "set"=some (.type "set"):=by decide+kernel
section
variable {X:Cx}{H0:Hp}{O0:List Addr}{ps:PSt}{e:Expr}{pts:List P2}{pos pos' p p':Pos}
end
end L2
namespace ST
open PySem
section
variable {prog:Cy}{w:World}{A:Dc}{s:B7}{R:K0→B7→Prop}{I:Addr}{fp wr:List Addr}{G:Array GD→Array GD→Prop}{n:Nat}{P:Nat→Value→Prop}{St:Nat→B7→Prop}{T:String}
def wy (prog:Cy) (w:World) (T:String):Prop:=∀(A:Dc) (E:Value→B7→Prop) (s:B7) (r:Addr) (Q:Bool→B7→Prop),s.TypeIs (.ref r) T→(∀b,Q b s)→wpAny (model prog w) A (Builtin.List.listLengthHint (.ref r)) Q E s
theorem tZ (W:WalksS prog w A.in1 I fp wr G n P St) (hT:∀i s,St i s→s.TypeIs (.ref I) T) (hl:(DV T==DV "list")=false) (ht:(DV T==DV "tuple")=false) (hint:wy prog w T) (S:Addr) (res:Value) (c₀:Nat) (hst:St 0 s) (hSf:S ∉ fp) (hI:I∈fp)
  (hS:s.heap.get? S=some {cls:=.type "list",data:=.seq #[] c₀ })
  (hR:∀s' acc' c',Moved (S::wr) G s s'→s'.heap.get? S=some {cls:=.type "list",dict:=none,data:=.seq acc' c',slots:=#[] }→ItemsOf P acc' n→R (.ok (.ret res)) s') (hn:n≤sizeLine):
  wpAny (model prog w) A.in1 (Builtin.List.listExtendWith (.ref S) (.ref I) res)
   (fun fin s'=>match fin with | .done f=>R (.ok f) s' | .again c'=>c'.quiet=true∧Gg (model prog w) A c' R s') (fun e s'=>R (.error e) s') s:=by
 have hSI:S≠I:=fun e=>hSf (e ▸ hI)
 unfold Builtin.List.listExtendWith
 refine B0 (Jg (hT 0 _ hst) ?_)
 have k1:Builtin.List.listSameRef (.ref S) (.ref I)=false:=by simp[Builtin.List.listSameRef,hSI]
 simp only[k1,hl,ht,Mg,Cn,if_false]
 refine B0 (W.self 0 _ _ _ hst (B0 (DJ (hint _ _ _ _ _ (hT 0 _ hst) fun b=>?_))))
 refine Fx (fun _=>?_) (fun _=>?_)
 ·refine B0 (HH (B0 ?_))
  show wpAny _ A.in1 (Gn S (·.push .none) >>=fun _=>Gn S (·.pop)) _ _ _
  refine B0 (DU hS rfl ?_)
  have g2:=Da (Dx (·.push CO)) hS rfl
  refine DU (hz:=by seq_fits) g2 rfl ?_
  have g3:=Da (Dx (·.pop)) g2 rfl
  have oth:∀b o,b≠S→s.heap.get? b=some o→((s.heap.update S (Dx (·.push CO))).update S (Dx (·.pop))).get? b=some o:=fun b o hb e=>(CJ _ _ (Ne.symm hb)).trans ((CJ _ _ (Ne.symm hb)).trans e)
  refine B6 ⟨D6 DY _,JB W hn _ hSf _ n 0 _ _ _ rfl (DB _) (W.frame 0 s _ s.toks hst (B9 _) fun b hb o e=>oth b o (fun z=>hSf (z ▸ hb)) e) g3 (ItemsOf.nil P) fun s' acc' c' m g' it=>?_⟩
  exact hR s' acc' c' (Moved.trans W.gtrans ((Moved.refl W.grefl).then_heap (B9 _) fun b o hb e=>oth b o (fun z=>hb (z ▸ Ci)) e) m) g' it
 ·exact B6 ⟨D6 DY _,JB W hn _ hSf _ n 0 _ _ _ rfl (DB _) hst hS (ItemsOf.nil P) fun s' acc' c' m g' it=>hR s' acc' c' m g' it⟩
theorem yc (W:WalksS prog w A.in1 I fp wr G n P St) (hT:∀i s,St i s→s.TypeIs (.ref I) T) (hl:(DV T==DV "list")=false) (ht:(DV T==DV "tuple")=false) (hint:wy prog w T) (S:Addr) (hst:St 0 s) (hSf:S ∉ fp) (hI:I∈fp)
  (hS:s.heap.get? S=some {cls:=.type "list",data:=.seq #[] })
  (hR:∀s' acc' c',Moved (S::wr) G s s'→s'.heap.get? S=some {cls:=.type "list",dict:=none,data:=.seq acc' c',slots:=#[] }→ItemsOf P acc' n→R (.ok (.ret .none)) s') (hn:n≤sizeLine):
  wpAny (model prog w) A.in1 (Builtin.«list.__init__» ⟨[.ref S,.ref I],[]⟩)
   (fun fin s'=>match fin with | .done f=>R (.ok f) s' | .again c'=>c'.quiet=true∧Gg (model prog w) A c' R s') (fun e s'=>R (.error e) s') s:=by
 show wpAny _ A.in1 (Builtin.List.listItems (.ref S) >>=fun old=>Builtin.List.listUpdate (.ref S) (fun _=>#[]) >>=fun _=>letGo old.toList.reverse >>=fun _=>Builtin.List.listExtendWith (.ref S) (.ref I) .none) _ _ s
 refine B0 ?_
 unfold Builtin.List.listItems
 refine B0 (Ec hS rfl (B6 ?_))
 show wpAny _ A.in1 (Gn S (fun _=>#[]) >>=fun _=>letGo (#[]:Array Value).toList.reverse >>=fun _=>Builtin.List.listExtendWith (.ref S) (.ref I) .none) _ _ s
 refine B0 (DU hS rfl ?_)
 have g2:=Da (Dx (fun _=>(#[]:Array Value))) hS rfl
 have oth:∀b o,b≠S→s.heap.get? b=some o→(s.heap.update S (Dx (fun _=>(#[]:Array Value)))).get? b=some o:=fun b o hb e=>(CJ _ _ (Ne.symm hb)).trans e
 refine B0 (FE ?_)
 refine tZ W hT hl ht hint S .none _ (W.frame 0 s _ s.toks hst (B9 _) fun b hb o e=>oth b o (fun z=>hSf (z ▸ hb)) e) hSf hI g2 (fun s' acc' c' m g' it=>?_) hn
 exact hR s' acc' c' (Moved.trans W.gtrans ((Moved.refl W.grefl).then_heap (B9 _) fun b o hb e=>oth b o (fun z=>hb (z ▸ Ci)) e) m) g' it
end
section
variable {prog:Cy}{w:World}{A:Dc}{E:Value→B7→Prop}{s:B7}{I:Addr}{fp wr:List Addr}{G:Array GD→Array GD→Prop}{n:Nat}{P:Nat→Value→Prop}{St:Nat→B7→Prop}{T:String}
theorem call_list_it {Q:Value→B7→Prop} (W:WalksS prog w A.in1.in1 I fp wr G n P St) (hT:∀i s,St i s→s.TypeIs (.ref I) T) (hl:(DV T==DV "list")=false) (ht:(DV T==DV "tuple")=false) (hint:wy prog w T) (hst:St 0 s) (hfp:∀b∈fp,b < s.heap.objs.size) (hI:I∈fp)
  (hQ:∀s' acc' c',Moved (s.heap.objs.size::wr) G {s with heap:=s.heap.push {cls:=.type "list",data:=.seq #[] } } s'→
   s'.heap.get? s.heap.objs.size=some {cls:=.type "list",dict:=none,data:=.seq acc' c',slots:=#[] }→ItemsOf P acc' n→Q (.ref s.heap.objs.size) s') (hn:n≤sizeLine):
  wpAny (model prog w) A (call (.type "list") [.ref I]) Q E s:=by
 have hSf:s.heap.objs.size ∉ fp:=fun hm=>CU _ (hfp _ hm)
 refine LG (Q₁:=fun obj s₁=>obj=.ref s.heap.objs.size∧s₁={s with heap:=s.heap.push {cls:=.type "list",data:=.seq #[] } }) JP (IC _) ID (code_list_new _ ⟨rfl,rfl⟩) fun obj s₁ h₁=>?_
 obtain ⟨rfl,rfl⟩:=h₁
 have hS:(s.heap.push {cls:=.type "list",data:=.seq #[] }).get? s.heap.objs.size=some {cls:=.type "list",data:=.seq #[] }:=Cm _ rfl
 refine ⟨⟨_,hS,rfl⟩,Iq _ _,yc W hT hl ht hint _ (W.frame 0 s _ s.toks hst (B9 _) fun b _ o e=>B5 _ e) hSf hI hS (fun s' acc' c' m g' it=>?_) hn⟩
 exact ⟨rfl,hQ s' acc' c' m g' it⟩
end
theorem xN:Kj (.type "list_reverseiterator") "__len__"=pure none:=by rw[FV,ES];kernel_rfl
theorem kr:Slot "list_reverseiterator" "__length_hint__" "list_reverseiterator.__length_hint__":=
 .of (owner:="list_reverseiterator") (n:="__length_hint__") (by rw[FV,ES];kernel_rfl) (by decide+kernel) (by decide+kernel) (by decide+kernel) (by first |exact .inl (by decide+kernel) |exact .inr (by decide+kernel)) (by rw[Hg];kernel_rfl)
theorem hint_rev (prog:Cy) (w:World):wy prog w "list_reverseiterator":=fun A E s r Q hT h=>by
 unfold Builtin.List.listLengthHint
 refine B0 (FU hT xN ?_)
 show wpAny _ A (specialOf (C8 r) (Str.ofString "__length_hint__") >>=_) _ _ _
 refine B0 (FU hT kr.lookup ?_)
 generalize hid:("list_reverseiterator.__length_hint__":String)=id0
 wp_delta
 rw[show splitId id0=some ("list_reverseiterator","__length_hint__") from by subst hid;decide+kernel]
 subst hid
 refine B0 (Ff (T:="list_reverseiterator") (b:=true) hT (by rw[Hg];kernel_rfl) ?_)
 refine Fx (fun z=>absurd z (by decide)) (fun _=>?_)
 refine Fx (fun _=>?_) (fun z=>absurd (by decide+kernel) z)
 refine Fx (fun z=>absurd z (by decide+kernel)) (fun _=>B6 (h _))
end ST
namespace L2
open PySem PySem.Spec PyProof.Rows
theorem kq:EJ "reversed"=some (.type "reversed"):=by decide+kernel
theorem aO.rev:∀{xs:List V}{us:List Value},aO xs us→aO xs.reverse us.reverse:=fun {xs us} r=>by
 induction r with
 |nil=>exact .nil
 | @cons x u xs us r1 r2 ih=>
  rw[Kr,Kr]
  have app:∀{a:List V}{b:List Value},aO a b→aO (a++[x]) (b++[u]):=fun {a b} q=>by
   induction q with
   |nil=>exact .cons r1 .nil
   |cons q1 _ ih'=>exact .cons q1 ih'
  exact app ih
theorem Rps.rev {K:B2}{H:Hp}{vs:List V}{xs:List U} (r:Rps K H vs xs):Rps K H vs.reverse xs.reverse:=⟨by simp[r.len],fun i v x h1 h2=>by
 have hi:i < vs.length:=by have:=aF h1;simpa using this
 have hx:i < xs.length:=by rw[←r.len];exact hi
 rw[Ea hi] at h1
 rw[Ea hx,←r.len] at h2
 exact r.at_ _ v x h1 h2⟩
section
variable {X:Cx}{H0:Hp}{O0:List Addr}{ps:PSt}{e k:Expr}{x:U}{xs:List U}{pos pos' p p' p2:Pos}
theorem yh {K:B2}{H:Hp}{v:V} (rp:Rp K H v x) (hx:x=.lst xs∨x=.scr xs):∃a vs,v=.ref a∧SqL K H a vs∧Rps K H vs xs:=by
 rcases hx with rfl |rfl
 ·cases rp with
  |lst hq hl hh=>exact ⟨_,_,rfl,SqL.of hq,hl,hh⟩
 ·cases rp with
  |scr hq hl hh=>exact ⟨_,_,rfl,hq,hl,hh⟩
theorem AV (he:Ev X H0 O0 ps e x) (hk:Ev X H0 O0 ps k (.int (-1))) (hx:x=.lst xs∨x=.scr xs):EvN X H0 O0 ps (.Subscript e (.Slice none none (some k) p2) pos) xs.reverse:=by
 rintro pins s σ H Q I ⟨O,R,q⟩
 refine L7 (thn (he pins s σ H (fun v H1=>aK H H1∧Rp X.K (hid H1 O) v x) I ⟨O,R,fun v H1 s1 r1=>⟨s1,r1⟩⟩) fun u s1 ⟨v,H1,I1,r1,sm,rp⟩=>?_)
 obtain ⟨a,vs,rfl,hq,rs⟩:=yh rp hx
 cases r1
 refine wpAny_Slice ?_
 rw[JU]
 refine B6 (B6 ?_)
 rw[evalPart_some]
 refine thn (hk pins s1 σ H1 (fun v H2=>aK H1 H2∧v=.int (-1)) I1 ⟨O,R.go sm,fun v H2 s2 r2=>⟨s2,by cases r2;rfl⟩⟩) fun uk s2 hy=>?_
 obtain ⟨vk,H2,I2,rk,s12,rfl⟩:=hy
 obtain ⟨t,rfl⟩:=rk
 have I3:Inv X pins σ H2 {s2 with heap:=s2.heap.push {cls:=.type "slice",data:=.fields #[.none,.none,.int (-1) t] } }:=I2.kept (t':=s2.toks) fun b ob z=>B5 _ z
 obtain ⟨its,rv,pl,hz⟩:=I3.list (s12.seq (ax.seq hq))
 have hlen:=rv.length
 show wpAny (model X.prog X.w) X.A (JW e (.Slice none none (some k) p2) (.ref a) (.ref s2.heap.objs.size)) (EP X pins σ Q) X.xe {s2 with heap:=s2.heap.push {cls:=.type "slice",data:=.fields #[.none,.none,.int (-1) t] } }
 refine tail_any (ops:=[.ref a,.ref s2.heap.objs.size]) pl.isList.typeIs slot_list_getitem.lookup ?_ (by with_unfolding_all rfl)
 refine Ij pl.isList (JV ..) .none .none (IsPart.int _ _) (by simp) ?_ (by rw[Cp];lia)
 rw[PySem.W.krv_pick]
 generalize hn:(s2.heap.push {cls:=.type "slice",data:=.fields #[.none,.none,.int (-1) t] }).objs.size=D
 have fr:H2 D=none:=I3.hok.fresh (by rw[←hn];exact B9 _)
 refine ⟨.ref D,upd H2 D (.lst vs.reverse),I3.laid (t':=s2.toks) (o:=.lst vs.reverse) (fun b ob z=>B5 _ z) (by rw[←hn];exact B9 _) ⟨by rw[Dl];exact hz,its.reverse,0,rv.rev,?_⟩,rfl,?_⟩
 ·rw[←hn];exact Cm _ rfl
 ·refine q D _ _ ((sm.trans s12).trans (aZ fr _)) ((sm.trans s12).free fr) aY ?_
  exact (rs.rev.same (bi s12)).same (bF (aZ fr _) fr)
theorem sU (hc:X.calm=true) (hg:Gl X "list") (hm:X.mg "list"=none) (hgr:Gl X "reversed") (hmr:X.mg "reversed"=none) (ha:Ev X H0 O0 ps e (.lst xs))
  (he:Ce [e] X.env=(false,eval e X.env)::Ce [] X.env:=by rfl):EvN X H0 O0 ps (.Call (.Name "list" p) [.Call (.Name "reversed" p') [e] [] pos'] [] pos) xs.reverse:=by
 rintro pins s σ H Q I ⟨O,R,q⟩
 have hh:X.A.handled=none:=I.ok.hd hc
 refine DM (c_ I hg hm J4 ?_)
 refine callWith_type1 (e:=.Call (.Name "reversed" p') [e] [] pos') (rest:=[]) ?_ dB rfl
 rw[dB]
 show wpAny _ _ (spliced ((false,eval (.Call (.Name "reversed" p') [e] [] pos') X.env)::Fp pos (Ce [] X.env))) _ _ s
 refine FP ?_
 refine DM (c_ I hgr hmr kq ?_)
 refine callWith_type1 (thn (dg ha fQ he pos' pins s σ H (fun vs H1=>∃v,vs=[v]∧aK H H1∧Rp X.K (hid H1 O) v (.lst xs)) I ⟨O,R,fun v H1 s1 r1=>⟨v,rfl,s1,r1⟩⟩) fun us s1 hx=>?_) he rfl
 obtain ⟨vs,H1,I1,rv,v,rfl,sm,rp⟩:=hx
 obtain ⟨u,rfl,ru⟩:=fk rv
 obtain ⟨a,ws,rfl,hq,rs⟩:=yh rp (.inl rfl)
 cases ru
 obtain ⟨its,rw',pl,hz⟩:=I1.list (ax.seq hq)
 have hlen:=rw'.length
 have hsz:its.toArray.size=its.length:=by simp
 refine call_reversed_list pl.isList ?_
 have I2:Inv X pins σ H1 {s1 with heap:=s1.heap.push (MK a ((its.toArray.size:Int) - 1)) }:=I1.kept (t':=s1.toks) fun b ob z=>B5 _ z
 refine FZ ?_
 have hal:a < s1.heap.objs.size:=by obtain ⟨o,ho,_⟩:=pl.isList;exact Cf ho
 have W:=(Walks.listRev (prog:=X.prog) (w:=X.w) (A:=X.A.in1.in1) hh s1.heap.objs.size a (CP hal) its.toArray).toS
 refine ST.call_list_it (T:="list_reverseiterator") (s:={s1 with heap:=s1.heap.push (MK a ((its.toArray.size:Int) - 1)) }) W (fun i s' st=>st.2.1.typeIs) (by decide) (by decide) (ST.hint_rev _ _) ⟨DB _,⟨_,Cm _ rfl,rfl,by simp[MK]⟩,pl.isList.push _⟩ (fun b hb=>?_) (by simp) (fun s3 acc c m hD hit=>?_) (by rw[hsz];lia)
 ·show b < (s1.heap.push _).objs.size
  rw[Em]
  simp at hb
  rcases hb with z |z
  ·rw[z];exact Ep _
  ·rw[z];exact Ew hal
 ·obtain ⟨h3,g3,d3,tk3,os3⟩:=s3
  obtain rfl:g3=s1.gens:=m.gens
  obtain rfl:d3=s1.drawn:=m.drawn
  obtain rfl:os3=s1.os:=m.os
  have szI:(s1.heap.push (MK a ((its.toArray.size:Int) - 1))).objs.size=s1.heap.objs.size+1:=Em ..
  have keep:∀b ob,s1.heap.get? b=some ob→h3.get? b=some ob:=fun b ob z=>by
   have hb:=Cf z
   refine m.heap b ob (fun y=>?_) (B5 _ (B5 _ z))
   rcases Cd.mp y with y |y
   ·rw[y] at hb
    have hb':s1.heap.objs.size+1 < s1.heap.objs.size:=by rw[←szI];exact hb
    exact absurd hb' (by lia)
   ·rw[Ct.mp y] at hb;exact CU _ hb
  have hacc:acc.toList=its.reverse:=by
   apply E9
   intro i
   rcases D3 i acc.size with z |z
   ·have y:=hit.2 i _ (C7 z)
    have hi:i < its.length:=by rw[hit.1,hsz] at z;exact z
    rw[Dy,C7 z,Ea hi,←y,hsz]
    simp
   ·have hi:its.length≤i:=by rw[hit.1,hsz] at z;exact z
    rw[C0 (by simpa using z),C0 (by simpa using hi)]
  generalize hn:(s1.heap.push (MK a ((its.toArray.size:Int) - 1))).objs.size=D at *
  have fr:H1 D=none:=I2.hok.fresh (by rw[←hn];exact B9 _)
  have I3:Inv X pins σ (upd H1 D (.lst ws.reverse)) {s1 with heap:=h3,toks:=tk3 }:=I1.laid (t':=tk3) (o:=.lst ws.reverse) keep (by rw[szI];exact Nat.le_succ _) ⟨by rw[Dl];exact hz,its.reverse,c,rw'.rev,by rw[←hacc,Array.toArray_toList];exact hD⟩
  refine ⟨.ref D,_,I3,rfl,q D _ _ (sm.trans (aZ fr _)) (sm.free fr) aY ?_⟩
  exact rs.rev.same (bF (aZ fr _) fr)
end
theorem SubP.trans:∀{p q r:PSt},SubP p q→SubP q r→SubP p r
 |[],[],[],_,_=>trivial
 |none::p,none::q,_::r,h1,h2=>SubP.trans (p:=p) (q:=q) h1 h2
 |none::p,some _::q,_::r,h1,h2=>SubP.trans (p:=p) (q:=q) h1 h2.2
 |some _::p,some _::q,_::r,h1,h2=>⟨h2.1.trans h1.1,SubP.trans (p:=p) (q:=q) h1.2 h2.2⟩
 |some _::p,none::q,_::r,h1,h2=>by cases h1.1
 |[],_::_,_,h1,_=>h1.elim
 |none::_,[],_,h1,_=>h1.elim
 |some _::_,[],_,h1,_=>h1.elim
 |[],[],_::_,_,h2=>h2.elim
 |_::_,none::_,[],_,h2=>h2.elim
 |_::_,some _::_,[],_,h2=>h2.elim
section
variable {X:Cx}{H0:Hp}{O0:List Addr}{ps:PSt}{xs:List U}{us:List U}{es:List Expr}{x:Str}{pc p' pos:Pos}
theorem gR (n:Nat) (h:ps[n]?=some (some (.own xs))) (hg:Gl X "len") (hm:X.mg "len"=none) (hN:X.N[n]?=some x:=by rfl) (hv:Vis X.env.scope x:=by first |exact Or.inl rfl |exact Or.inr (Or.inl rfl) |exact Or.inr (Or.inr rfl)) (hd:(x==("__debug__":Str))=false:=by decide)
  (hcd:(x==("__classdict__":Str))=false:=by decide) (hpl:(Fp pos (Ce [] X.env)).any (·.1)=false:=by rfl):Ev X H0 O0 ps (.Call (.Name "len" pc) [.Name x p'] [] pos) (.int xs.length):=At n h hg hm hN hv hd hcd ah hpl
theorem xn {spec:List U→Out→Prop}{f:Addr}{fd:CN}{pn:List Str}{k:Nat}{nm:Str}{b:Bool}{CX} (n:Nat) (h:ps[n]?=some (some (.own xs))) (F:a_ X.prog X.w X.K X.mg X.base CX k f fd pn (spU X.K spec)) (hr:dc k X.A) (hg:Gl X nm) (hm:X.mg nm=some (.ref f)) (hk:Cj X.K (.ref f)=true) (hb:aG X.K fd pn []) (hx:e8 CX X E0)
  (ha:EvA X H0 O0 ps es us) (hs:spec (.lst xs::us) (.val (.bl b))) (hN:X.N[n]?=some x:=by rfl) (hv:Vis X.env.scope x:=by first |exact Or.inl rfl |exact Or.inr (Or.inl rfl) |exact Or.inr (Or.inr rfl)) (hd:(x==("__debug__":Str))=false:=by decide)
  (hcd:(x==("__classdict__":Str))=false:=by decide) (hdb:(nm==("__debug__":Str))=false:=by decide) (hpl:(Fp pos (Ce es X.env)).any (·.1)=false:=by rfl):
  Ev X H0 O0 ps (.Call (.Name nm pc) (.Name x p'::es) [] pos) (.bl b):=
 PE.mono (h_ F hr hg hm hk hb .nil hx (dg (fH hN hv hd hcd) ha ah) hdb ah hpl) fun σ H Q ⟨O,R,q⟩=>by
  obtain ⟨v,h1,a,vs,rfl,h3,h4,h5,h6⟩:=R.at_ n _ h
  refine ⟨_,h1,O,R,fun ws H1 s1 r1=>?_⟩
  show spU X.K spec (V.ref a::ws++[]) H1 Q _
  rw[DG]
  have sub:∀c∈O.filter (·≠a),c∈O:=fun c hc=>(CS.mp hc).1
  refine ⟨.lst xs::us,O.filter (·≠a),.val (.bl b),fun c hc=>(R.go s1).dom c (sub c hc),?_,hs,fun w H2 s2 r2=>?_⟩
  ·refine Rps.cons (.lst (dy (s1 _ _ h5) (by simp)) h6.len fun i z y e1 e2=>?_) (r1.same (dh sub))
   exact ((h6.at_ i z y e1 e2).same (bi s1)).same (dh sub)
  ·cases r2
   exact q _ H2 (s1.trans s2) (.bl b)
end
end L2
namespace ST
open PySem
abbrev g7 (h:Heap) (z TI TO T:Addr) (b:Bool):Prop:=h.get? z=some {cls:=.type "zip",dict:=none,data:=.fields #[HY T,.bool b,.bool false,.ref TI,.ref TO],slots:=#[] }
section
variable {prog:Cy}{w:World}{A:Dc}{E:Value→B7→Prop}{s:B7}
theorem Bi {T:Addr}{o:Obj}{Q:Option Obj→B7→Prop} (h:s.heap.get? T=some o) (q:Q (some o) s):wpAny (model prog w) A (loadIfAlive T) Q E s:=fun Γ p hΓ=>by
 unfold loadIfAlive
 rw[Sem.wp_loadIfAlive,h]
 simpa using q
theorem fN {z TI TO T:Addr}{b:Bool}{oT:Obj}{Q:Bool→B7→Prop} (hz:g7 s.heap z TI TO T b) (hT:s.heap.get? T=some oT) (h:∀h',g7 h' z TI TO T true→Gu z s.heap h'→Q false {s with heap:=h' }):
  wpAny (model prog w) A (Builtin.SmallTypes.ownedTupleIsFree (.ref z)) Q E s:=by
 unfold Builtin.SmallTypes.ownedTupleIsFree
 refine B0 (Gs hz rfl (x:=HY T) rfl ?_)
 dsimp only[HY]
 refine B0 (Bi (T:=(T:Int).toNat) (o:=oT) (by rw[E8];exact hT) ?_)
 rw[if_neg (by simp)]
 refine B0 (Gs hz rfl (x:=.bool b) rfl ?_)
 cases b with
 |true=>
  rw[if_neg (by decide)]
  exact B6 (h s.heap hz (Ko _ _))
 |false=>
  rw[if_pos (by decide)]
  refine B0 (wpAny_setField_rec hz (by simp) fun h₁ hz₁ hs₁=>B6 (h h₁ hz₁ hs₁))
theorem wL {z TI TO i1 i2 l1 l2 T:Addr}{b:Bool}{oT:Obj}{k1 k2:Nat}{xs ys:Array Value}{x y:Value}{Q:Value→B7→Prop} (D:Hh z TI TO i1 i2 l1 l2)
  (hz:g7 s.heap z TI TO T b) (hT:s.heap.get? T=some oT) (hTI:HJ s.heap TI (.ref i1) (.ref i2))
  (h1:s.heap.IsListIter i1 l1 k1) (h2:s.heap.IsListIter i2 l2 k2) (hl1:s.heap.IsList l1 xs) (hl2:s.heap.IsList l2 ys) (hx:xs[k1]?=some x) (hy:ys[k2]?=some y)
  (hQ:∀h',g7 h' z TI TO T true→h'.IsListIter i1 l1 (k1+1)→h'.IsListIter i2 l2 (k2+1)→HJ h' s.heap.objs.size x y→(∀c o,c≠z→c≠i1→c≠i2→s.heap.get? c=some o→h'.get? c=some o)→Q (.ref s.heap.objs.size) {s with heap:=h' }):
  wpAny (model prog w) A (Builtin.«zip.__next__» ⟨[.ref z],[]⟩) (fun fin s'=>∃v,fin=.done (.ret v)∧Q v s') E s:=by
 show wpAny _ _ (field (.ref z) 2 >>=_) _ _ _
 refine B0 (Gs hz rfl (x:=.bool false) rfl ?_)
 show wpAny _ _ (field (.ref z) 3 >>=_) _ _ _
 refine B0 (Gs hz rfl (x:=.ref TI) rfl (B0 (Ec hTI rfl ?_)))
 show wpAny _ _ (Builtin.SmallTypes.ownedTupleIsFree (.ref z) >>=_) _ _ _
 refine B0 (fN hz hT fun ha za sa=>?_)
 simp only[Cn,if_false]
 refine B0 ?_
 rw[←FQ]
 show wpAny _ _ (forIn [C8 i1,C8 i2] _ _) _ _ _
 simp only[FR,Hi]
 refine B0 (B0 (DJ ?_))
 show wpAny _ _ (Builtin.SmallTypes.nextOf (.ref i1) >>=_) _ _ _
 refine B0 (G0 (h1.extBut sa.extBut D.i1z) (hl1.extBut sa.extBut D.l1z) hx fun hb b1 sb=>B6 ?_)
 dsimp only
 refine B6 ?_
 dsimp only
 refine B0 (B0 (DJ ?_))
 show wpAny _ _ (Builtin.SmallTypes.nextOf (.ref i2) >>=_) _ _ _
 refine B0 (G0 ((h2.extBut sa.extBut D.i2z).extBut sb.extBut D.i12.symm) ((hl2.extBut sa.extBut D.l2z).extBut sb.extBut D.l2i1) hy fun hc c2 sc=>B6 ?_)
 dsimp only
 refine B6 (B6 ?_)
 dsimp only
 refine B0 (LH ?_ (by show 2≤sizeLine;rw[EB];lia))
 have hsz:hc.objs.size=s.heap.objs.size:=by rw[sc.1,sb.1,sa.1]
 have zc:g7 hc z TI TO T true:=sc.extBut _ _ D.i2z.symm (sb.extBut _ _ D.i1z.symm za)
 refine B6 ⟨_,rfl,?_⟩
 show Q (.ref hc.objs.size) _
 rw[hsz]
 refine hQ _ (B5 _ zc) (((b1.extBut sc.extBut D.i12)).at fun o e=>B5 _ e) (c2.at fun o e=>B5 _ e) ?_ fun c o n1 n2 n3 e=>B5 _ (sc.extBut _ _ n3 (sb.extBut _ _ n2 (sa.extBut _ _ n1 e)))
 rw[←hsz]
 exact Cm _ rfl
theorem mW {z TI TO i1 i2 l1 l2 T:Addr}{b:Bool}{oT:Obj}{k1:Nat}{xs:Array Value}{Q:Ms→B7→Prop} (hh:A.handled=none) (D:Hh z TI TO i1 i2 l1 l2)
  (hz:g7 s.heap z TI TO T b) (hT:s.heap.get? T=some oT) (hTI:HJ s.heap TI (.ref i1) (.ref i2))
  (h1:s.heap.IsListIter i1 l1 k1) (hl1:s.heap.IsList l1 xs) (hx:xs[k1]?=none)
  (hE:∀h' e,(∀c o,c≠z→c≠i1→c≠i2→s.heap.get? c=some o→h'.get? c=some o)→(∃o,h'.get? e=some o∧o.cls=.type "StopIteration")→E (.ref e) {s with heap:=h' }):
  wpAny (model prog w) A (Builtin.«zip.__next__» ⟨[.ref z],[]⟩) Q E s:=by
 show wpAny _ _ (field (.ref z) 2 >>=_) _ _ _
 refine B0 (Gs hz rfl (x:=.bool false) rfl ?_)
 show wpAny _ _ (field (.ref z) 3 >>=_) _ _ _
 refine B0 (Gs hz rfl (x:=.ref TI) rfl (B0 (Ec hTI rfl ?_)))
 show wpAny _ _ (Builtin.SmallTypes.ownedTupleIsFree (.ref z) >>=_) _ _ _
 refine B0 (fN hz hT fun ha za sa=>?_)
 simp only[Cn,if_false]
 refine B0 ?_
 rw[←FQ]
 show wpAny _ _ (forIn [C8 i1,C8 i2] _ _) _ _ _
 simp only[FR,Hi]
 refine B0 (B0 (DJ ?_))
 show wpAny _ _ (Builtin.SmallTypes.nextOf (.ref i1) >>=_) _ _ _
 refine B0 (Jm hh (h1.extBut sa.extBut D.i1z) (hl1.extBut sa.extBut D.l1z) hx fun hb e sb he=>?_)
 exact hE hb e (fun c o n1 n2 n3 q=>sb _ _ n2 (sa.extBut _ _ n1 q)) he
theorem kB {z TI TO i1 i2 l1 l2 T:Addr}{b:Bool}{oT:Obj}{k1 k2:Nat}{xs ys:Array Value}{x:Value}{Q:Ms→B7→Prop} (hh:A.handled=none) (D:Hh z TI TO i1 i2 l1 l2)
  (hz:g7 s.heap z TI TO T b) (hT:s.heap.get? T=some oT) (hTI:HJ s.heap TI (.ref i1) (.ref i2))
  (h1:s.heap.IsListIter i1 l1 k1) (h2:s.heap.IsListIter i2 l2 k2) (hl1:s.heap.IsList l1 xs) (hl2:s.heap.IsList l2 ys) (hx:xs[k1]?=some x) (hy:ys[k2]?=none)
  (hE:∀h' e,(∀c o,c≠z→c≠i1→c≠i2→s.heap.get? c=some o→h'.get? c=some o)→(∃o,h'.get? e=some o∧o.cls=.type "StopIteration")→E (.ref e) {s with heap:=h' }):
  wpAny (model prog w) A (Builtin.«zip.__next__» ⟨[.ref z],[]⟩) Q E s:=by
 show wpAny _ _ (field (.ref z) 2 >>=_) _ _ _
 refine B0 (Gs hz rfl (x:=.bool false) rfl ?_)
 show wpAny _ _ (field (.ref z) 3 >>=_) _ _ _
 refine B0 (Gs hz rfl (x:=.ref TI) rfl (B0 (Ec hTI rfl ?_)))
 show wpAny _ _ (Builtin.SmallTypes.ownedTupleIsFree (.ref z) >>=_) _ _ _
 refine B0 (fN hz hT fun ha za sa=>?_)
 simp only[Cn,if_false]
 refine B0 ?_
 rw[←FQ]
 show wpAny _ _ (forIn [C8 i1,C8 i2] _ _) _ _ _
 simp only[FR,Hi]
 refine B0 (B0 (DJ ?_))
 show wpAny _ _ (Builtin.SmallTypes.nextOf (.ref i1) >>=_) _ _ _
 refine B0 (G0 (h1.extBut sa.extBut D.i1z) (hl1.extBut sa.extBut D.l1z) hx fun hb b1 sb=>B6 ?_)
 dsimp only
 refine B6 ?_
 dsimp only
 refine B0 (B0 (DJ ?_))
 show wpAny _ _ (Builtin.SmallTypes.nextOf (.ref i2) >>=_) _ _ _
 refine B0 (Jm hh ((h2.extBut sa.extBut D.i2z).extBut sb.extBut D.i12.symm) ((hl2.extBut sa.extBut D.l2z).extBut sb.extBut D.l2i1) hy fun hc e sc he=>?_)
 exact hE hc e (fun c o n1 n2 n3 q=>sc _ _ n3 (sb.extBut _ _ n2 (sa.extBut _ _ n1 q))) he
theorem ua {z TI TO i1 i2 l1 l2 T:Addr}{b:Bool}{oT:Obj}{k1 k2:Nat}{xs ys:Array Value}{x y:Value}{Q:Option Value→B7→Prop} (D:Hh z TI TO i1 i2 l1 l2)
  (hz:g7 s.heap z TI TO T b) (hT:s.heap.get? T=some oT) (hTI:HJ s.heap TI (.ref i1) (.ref i2))
  (h1:s.heap.IsListIter i1 l1 k1) (h2:s.heap.IsListIter i2 l2 k2) (hl1:s.heap.IsList l1 xs) (hl2:s.heap.IsList l2 ys) (hx:xs[k1]?=some x) (hy:ys[k2]?=some y)
  (hQ:∀h',g7 h' z TI TO T true→h'.IsListIter i1 l1 (k1+1)→h'.IsListIter i2 l2 (k2+1)→HJ h' s.heap.objs.size x y→(∀c o,c≠z→c≠i1→c≠i2→s.heap.get? c=some o→h'.get? c=some o)→Q (some (.ref s.heap.objs.size)) {s with heap:=h' }):
  wpAny (model prog w) A (Gk (.ref z)) Q E s:=by
 have hty:s.TypeIs (.ref z) "zip":=⟨_,hz,rfl⟩
 unfold Gk
 exact B0 (GP (E2 (name:=Str.ofString "__next__") hty Ey
  (DT Ey hty G3 (wL D hz hT hTI h1 h2 hl1 hl2 hx hy fun h' a1 a2 a3 a4 a5=>B6 (hQ h' a1 a2 a3 a4 a5)) (GQ _))))
theorem kC {z TI TO i1 i2 l1 l2 T:Addr}{b:Bool}{oT:Obj}{k1:Nat}{xs:Array Value}{Q:Option Value→B7→Prop} (hh:A.handled=none) (D:Hh z TI TO i1 i2 l1 l2)
  (hz:g7 s.heap z TI TO T b) (hT:s.heap.get? T=some oT) (hTI:HJ s.heap TI (.ref i1) (.ref i2)) (h1:s.heap.IsListIter i1 l1 k1) (hl1:s.heap.IsList l1 xs) (hx:xs[k1]?=none)
  (hQ:∀h',(∀c o,c≠z→c≠i1→c≠i2→s.heap.get? c=some o→h'.get? c=some o)→Q none {s with heap:=h' }):wpAny (model prog w) A (Gk (.ref z)) Q E s:=by
 have hty:s.TypeIs (.ref z) "zip":=⟨_,hz,rfl⟩
 unfold Gk
 refine B0 (GP (E2 (name:=Str.ofString "__next__") hty Ey
  (DT Ey hty G3 (mW hh D hz hT hTI h1 hl1 hx fun h' e hk he=>?_) (GQ _))))
 obtain ⟨o,ho,hc⟩:=he
 refine B0 (Ff (T:="StopIteration") (b:=true) ⟨o,ho,hc⟩ JK ?_)
 exact B6 (hQ h' hk)
theorem jS {z TI TO i1 i2 l1 l2 T:Addr}{b:Bool}{oT:Obj}{k1 k2:Nat}{xs ys:Array Value}{x:Value}{Q:Option Value→B7→Prop} (hh:A.handled=none) (D:Hh z TI TO i1 i2 l1 l2)
  (hz:g7 s.heap z TI TO T b) (hT:s.heap.get? T=some oT) (hTI:HJ s.heap TI (.ref i1) (.ref i2)) (h1:s.heap.IsListIter i1 l1 k1) (h2:s.heap.IsListIter i2 l2 k2) (hl1:s.heap.IsList l1 xs) (hl2:s.heap.IsList l2 ys) (hx:xs[k1]?=some x) (hy:ys[k2]?=none)
  (hQ:∀h',(∀c o,c≠z→c≠i1→c≠i2→s.heap.get? c=some o→h'.get? c=some o)→Q none {s with heap:=h' }):wpAny (model prog w) A (Gk (.ref z)) Q E s:=by
 have hty:s.TypeIs (.ref z) "zip":=⟨_,hz,rfl⟩
 unfold Gk
 refine B0 (GP (E2 (name:=Str.ofString "__next__") hty Ey
  (DT Ey hty G3 (kB hh D hz hT hTI h1 h2 hl1 hl2 hx hy fun h' e hk he=>?_) (GQ _))))
 obtain ⟨o,ho,hc⟩:=he
 refine B0 (Ff (T:="StopIteration") (b:=true) ⟨o,ho,hc⟩ JK ?_)
 exact B6 (hQ h' hk)
end
structure ZL (xs ys:Array Value) (z TI TO i1 i2 l1 l2 S:Addr) (h:Heap) (i:Nat) (ad:List Addr) (c:Nat):Prop where
 ti:HJ h TI (.ref i1) (.ref i2)
 a1:h.IsListIter i1 l1 i
 a2:h.IsListIter i2 l2 i
 b1:h.IsList l1 xs
 b2:h.IsList l2 ys
 acc:h.get? S=some {cls:=.type "list",dict:=none,data:=.seq (ad.map C8).toArray c,slots:=#[] }
 len:ad.length=i
 tup:∀(j:Nat) (a:Addr),ad[j]?=some a→∃x y,xs[j]?=some x∧ys[j]?=some y∧HJ h a x y
 far:∀a∈ad,a≠z∧a≠TO∧a≠i1∧a≠i2∧a≠S
 to:∃o,h.get? TO=some o
 nd:ad.Nodup
 zz:(i=0∧IsZip h z TI TO .none∧∃a b,HJ h TO a b)∨(∃b T,ad[0]?=some T∧g7 h z TI TO T b)
section
variable {prog:Cy}{w:World}{A:Dc}{R:K0→B7→Prop}
theorem ZL.put {xs ys:Array Value}{z TI TO i1 i2 l1 l2 S:Addr}{h h':Heap}{i:Nat}{ad:List Addr}{c:Nat}{a:Addr}{x y:Value} (Z:ZL xs ys z TI TO i1 i2 l1 l2 S h i ad c) (D:Hh z TI TO i1 i2 l1 l2)
  (hS:S≠z∧S≠TI∧S≠TO∧S≠i1∧S≠i2∧S≠l1∧S≠l2) (ha:a=h.objs.size) (hzlt:z < h.objs.size) (nto:∃o,h'.get? TO=some o) (hx:xs[i]?=some x) (hy:ys[i]?=some y)
  (n1:h'.IsListIter i1 l1 (i+1)) (n2:h'.IsListIter i2 l2 (i+1)) (np:HJ h' a x y) (nk:∀c o,c≠z→c≠TO→c≠i1→c≠i2→h.get? c=some o→h'.get? c=some o)
  (nz:∃b T,(ad++[a])[0]?=some T∧g7 h' z TI TO T b):
  ∃c',ZL xs ys z TI TO i1 i2 l1 l2 S (h'.update S (Dx (·.push (.ref a)))) (i+1) (ad++[a]) c':=by
 obtain ⟨s1,s2,s3,s4,s5,s6,s7⟩:=hS
 have gS:h'.get? S=some {cls:=.type "list",dict:=none,data:=.seq (ad.map C8).toArray c,slots:=#[] }:=nk S _ s1 s3 s4 s5 Z.acc
 have oth:∀b o,b≠S→h'.get? b=some o→(h'.update S (Dx (·.push (.ref a)))).get? b=some o:=fun b o hb e=>(CJ _ _ (Ne.symm hb)).trans e
 have hlt:∀b o,h.get? b=some o→b≠a:=fun b o e z=>by rw[z,ha] at e;exact CU _ (Cf e)
 have aS:a≠S:=fun e=>hlt S _ Z.acc e.symm
 have ai1:a≠i1:=by obtain ⟨o,e,_⟩:=Z.a1;exact fun q=>hlt i1 o e q.symm
 have ai2:a≠i2:=by obtain ⟨o,e,_⟩:=Z.a2;exact fun q=>hlt i2 o e q.symm
 have az:a≠z:=by rw[ha];exact Hj hzlt
 have aTO:a≠TO:=by obtain ⟨o,e⟩:=Z.to;exact fun q=>hlt TO o e q.symm
 obtain ⟨c',gS'⟩:∃c',(h'.update S (Dx (·.push (.ref a)))).get? S=some {cls:=.type "list",dict:=none,data:=.seq ((ad.map C8).toArray.push (.ref a)) c',slots:=#[] }:=⟨_,PyProof.Rows.get?_update_seq gS (·.push (.ref a))⟩
 refine ⟨c',⟨oth _ _ s2.symm (nk TI _ D.TIz D.TITO D.TIi1 D.TIi2 Z.ti),n1.at fun o e=>oth _ o s4.symm e,n2.at fun o e=>oth _ o s5.symm e,?_,?_,?_,by rw[CW,Z.len];rfl,?_,?_,?_,?_,?_⟩⟩
 ·exact (Z.b1.at fun o e=>nk l1 o D.l1z D.l1TO D.l1i1 D.l1i2 e).at fun o e=>oth _ o s6.symm e
 ·exact (Z.b2.at fun o e=>nk l2 o D.l2z D.l2TO D.l2i1 D.l2i2 e).at fun o e=>oth _ o s7.symm e
 ·rw[gS'];simp
 ·intro j b hj
  rcases D3 j ad.length with q |q
  ·rw[CF q] at hj
   obtain ⟨x',y',e1,e2,e3⟩:=Z.tup j b hj
   obtain ⟨f1,f2,f3,f4,f5⟩:=Z.far b (Cu hj)
   exact ⟨x',y',e1,e2,oth _ _ f5 (nk b _ f1 f2 f3 f4 e3)⟩
  ·rw[CG q] at hj
   have hj0:j=i:=by
    have:=(Cg.mp hj).1
    simp at this;rw[Z.len] at *;lia
   subst hj0
   rw[Z.len,Kz] at hj
   cases hj
   exact ⟨x,y,hx,hy,oth _ _ aS np⟩
 ·intro b hb
  rcases Dq.mp hb with q |q
  ·exact Z.far b q
  ·rw[Ct.mp q];exact ⟨az,aTO,ai1,ai2,aS⟩
 ·obtain ⟨o,e⟩:=nto;exact ⟨o,oth _ _ s3.symm e⟩
 ·rw[E7]
  refine ⟨Z.nd,by simp,fun p hp q hq=>?_⟩
  rw[Ct.mp hq]
  obtain ⟨j,hj⟩:=DI.mp hp
  obtain ⟨_,_,_,_,e⟩:=Z.tup j p hj
  exact hlt p _ e
 ·obtain ⟨b,T,e1,e2⟩:=nz
  exact .inr ⟨b,T,e1,oth _ _ s1.symm e2⟩
end
section
variable {prog:Cy}{w:World}{A:Dc}{R:K0→B7→Prop}
structure ZF (xs ys:Array Value) (S:Addr) (h:Heap) (ad:List Addr) (c:Nat):Prop where
 acc:h.get? S=some {cls:=.type "list",dict:=none,data:=.seq (ad.map C8).toArray c,slots:=#[] }
 len:ad.length=ys.size
 tup:∀(j:Nat) (a:Addr),ad[j]?=some a→∃x y,xs[j]?=some x∧ys[j]?=some y∧HJ h a x y
 ne:∀a∈ad,a≠S
 nd:ad.Nodup
theorem ot (hh:A.in1.handled=none) {xs ys:Array Value}{z TI TO i1 i2 l1 l2 S:Addr} (D:Hh z TI TO i1 i2 l1 l2) (hS:S≠z∧S≠TI∧S≠TO∧S≠i1∧S≠i2∧S≠l1∧S≠l2) (hxy:ys.size≤xs.size) (hn:xs.size≤1000) (res:Value):
  ∀(k i:Nat) (s:B7) (ad:List Addr) (c:Nat),ys.size - i=k→i≤ys.size→ZL xs ys z TI TO i1 i2 l1 l2 S s.heap i ad c→
   (∀h' ad' c',ZF xs ys S h' ad' c'→(∀b o,b≠z→b≠TO→b≠i1→b≠i2→b≠S→s.heap.get? b=some o→h'.get? b=some o)→(∀a∈ad',a∈ad∨s.heap.get? a=none)→R (.ok (.ret res)) {s with heap:=h' })→
   Gg (model prog w) A (.builtin "list.extend.loop" ⟨[.ref S,.ref z,res],[]⟩) R s:=by
 intro k
 induction k with
 |zero=>
  intro i s ad c hk hi Z hR
  obtain rfl:i=ys.size:=by lia
  refine D_ Ie ?_
  rw[DD DY _]
  show wpAny _ A.in1 (Gk (.ref z) >>=_) _ _ s
  have fin:∀h',(∀b o,b≠z→b≠TO→b≠i1→b≠i2→s.heap.get? b=some o→h'.get? b=some o)→R (.ok (.ret res)) {s with heap:=h' }:=fun h' kp=>
   hR h' ad c ⟨kp S _ hS.1 hS.2.2.1 hS.2.2.2.1 hS.2.2.2.2.1 Z.acc,Z.len,fun j a e=>by
    obtain ⟨x,y,e1,e2,e3⟩:=Z.tup j a e
    obtain ⟨f1,f2,f3,f4,f5⟩:=Z.far a (Cu e)
    exact ⟨x,y,e1,e2,kp a _ f1 f2 f3 f4 e3⟩,fun a ha=>(Z.far a ha).2.2.2.2,Z.nd⟩ (fun b o n1 n2 n3 n4 _ e=>kp b o n1 n2 n3 n4 e) fun a ha=>.inl ha
  rcases Z.zz with ⟨h0,hz,a,b,hTO⟩ |⟨b,T,hT,hz⟩
  ·refine B0 (wpAny_pyNext_zip_end hh D hz Z.ti hTO Z.a1 Z.a2 Z.b1 Z.b2 (.inr (by simp)) fun h' kp=>?_)
   exact B6 (fin h' kp)
  ·obtain ⟨x,y,_,_,hp⟩:=Z.tup 0 T hT
   by_cases hq:ys.size < xs.size
   ·refine B0 (jS hh D hz hp Z.ti Z.a1 Z.a2 Z.b1 Z.b2 (C7 hq) (by simp) fun h' kp=>?_)
    exact B6 (fin h' fun b o n1 _ n3 n4 e=>kp b o n1 n3 n4 e)
   ·refine B0 (kC hh D hz hp Z.ti Z.a1 Z.b1 (Array.getElem?_eq_none (by lia)) fun h' kp=>?_)
    exact B6 (fin h' fun b o n1 _ n3 n4 e=>kp b o n1 n3 n4 e)
 |succ k ih=>
  intro i s ad c hk hi Z hR
  have hlt:i < xs.size:=by lia
  have hly:i+1≤ys.size:=by lia
  have hx:xs[i]?=some xs[i]:=C7 hlt
  have hy:ys[i]?=some (ys[i]'(by lia)):=C7 (by lia)
  refine D_ Ie ?_
  rw[DD DY _]
  show wpAny _ A.in1 (Gk (.ref z) >>=_) _ _ s
  have go:∀h',(∃b T,(ad++[s.heap.objs.size])[0]?=some T∧g7 h' z TI TO T b)→(∃o,h'.get? TO=some o)→h'.IsListIter i1 l1 (i+1)→h'.IsListIter i2 l2 (i+1)→HJ h' s.heap.objs.size xs[i] (ys[i]'(by lia))→
    (∀b o,b≠z→b≠TO→b≠i1→b≠i2→s.heap.get? b=some o→h'.get? b=some o)→
    wpAny (model prog w) A.in1 (Gn S (·.push (.ref s.heap.objs.size)) >>=fun _=>again (.builtin "list.extend.loop" ⟨[.ref S,.ref z,res],[]⟩))
     (fun fin s'=>match fin with | .done f=>R (.ok f) s' | .again c'=>c'.quiet=true∧Gg (model prog w) A c' R s') (fun e s'=>R (.error e) s') {s with heap:=h' }:=fun h' nz nto n1 n2 np nk=>by
   have gS:h'.get? S=some {cls:=.type "list",dict:=none,data:=.seq (ad.map C8).toArray c,slots:=#[] }:=nk S _ hS.1 hS.2.2.1 hS.2.2.2.1 hS.2.2.2.2.1 Z.acc
   have hzlt:z < s.heap.objs.size:=by
    rcases Z.zz with ⟨_,hz,_⟩ |⟨_,_,_,hz⟩ <;>exact Cf hz
   obtain ⟨c',Z'⟩:=Z.put D hS rfl hzlt nto hx hy n1 n2 np nk nz
   have hal:((ad.map C8).toArray).size=i:=by simp[Z.len]
   refine B0 (DU (s:={s with heap:=h' }) gS rfl (B6 ⟨D6 DY _,ih (i+1) _ (ad++[s.heap.objs.size]) c' (by lia) hly Z' fun h2 ad2 c2 F kp fr=>?_⟩) (by rw[hal,EB];lia) (by rw[Array.size_push,hal,EB];lia))
   refine hR h2 ad2 c2 F (fun b o m1 m2 m3 m4 m5 e=>kp b o m1 m2 m3 m4 m5 ((CJ _ _ (Ne.symm m5)).trans (nk b o m1 m2 m3 m4 e))) fun a ha=>?_
   rcases fr a ha with q |q
   ·rcases Dq.mp q with q |q
    ·exact .inl q
    ·right;rw[Ct.mp q];exact Hy (B9 _)
   ·right
    cases hq:s.heap.get? a with
    |none=>rfl
    |some o=>
     exfalso
     by_cases e1:a=S
     ·subst e1;exact F.ne a ha rfl
     ·have q':h'.get? a=none:=by
       have:=q
       rw[CJ _ _ (Ne.symm e1)] at this
       exact this
      by_cases f1:a=z
      ·obtain ⟨_,_,_,e⟩:=nz;rw[f1,e] at q';cases q'
      ·by_cases f2:a=TO
       ·obtain ⟨o',e⟩:=nto;rw[f2,e] at q';cases q'
       ·by_cases f3:a=i1
        ·obtain ⟨o',e,_⟩:=n1;rw[f3,e] at q';cases q'
        ·by_cases f4:a=i2
         ·obtain ⟨o',e,_⟩:=n2;rw[f4,e] at q';cases q'
         ·rw[nk a o f1 f2 f3 f4 hq] at q';cases q'
  rcases Z.zz with ⟨h0,hz,a,b,hTO⟩ |⟨b,T,hT,hz⟩
  ·subst h0
   have had:ad=[]:=Ed.mp Z.len
   refine B0 (wpAny_pyNext_zip_item D hz Z.ti hTO Z.a1 Z.a2 Z.b1 Z.b2 hx hy fun h' m1 m2 m3 m4 m5 _ kp=>?_)
   exact go h' ⟨false,_,by rw[had];rfl,m1⟩ ⟨_,m2⟩ m3 m4 m5 kp
  ·obtain ⟨x,y,_,_,hp⟩:=Z.tup 0 T hT
   refine B0 (ua D hz hp Z.ti Z.a1 Z.a2 Z.b1 Z.b2 hx hy fun h' m1 m3 m4 m5 kp=>?_)
   refine go h' ⟨true,T,?_,m1⟩ ?_ m3 m4 m5 fun b o n1 _ n3 n4 e=>kp b o n1 n3 n4 e
   ·rw[CF (Cg.mp hT).1];exact hT
   ·obtain ⟨o,e⟩:=Z.to;exact ⟨o,kp TO o D.TOz D.TOi1 D.TOi2 e⟩
end
theorem xI:Kj (.type "zip") "__len__"=pure none:=by rw[FV,ES];kernel_rfl
theorem uL:Kj (.type "zip") "__length_hint__"=pure none:=by rw[FV,ES];kernel_rfl
theorem vv (prog:Cy) (w:World):wy prog w "zip":=fun A E s r Q hT h=>by
 unfold Builtin.List.listLengthHint
 refine B0 (FU hT xI ?_)
 show wpAny _ A (specialOf (C8 r) (Str.ofString "__length_hint__") >>=_) _ _ _
 refine B0 (FU hT uL ?_)
 exact B6 (h _)
section
variable {prog:Cy}{w:World}{A:Dc}{E:Value→B7→Prop}{s:B7}
theorem vT {z TI TO:Addr}{f:Value}{Q:Value→B7→Prop} (hz:IsZip s.heap z TI TO f) (h:Q (.ref z) s):wpAny (model prog w) A (KY (.ref z)) Q E s:=by
 have hT:s.TypeIs (.ref z) "zip":=⟨_,hz,rfl⟩
 refine Ip hT Jn (DT Jn hT PySem.F.entry_zip_iter ?_ (PySem.F.args_zip_iter_1 _))
 exact B6 ⟨_,rfl,"zip",_,hT,Ey.lookup,h⟩
end
section
variable {prog:Cy}{w:World}{A:Dc}{R:K0→B7→Prop}{s:B7}
theorem pF (hh:A.in1.handled=none) {xs ys:Array Value}{z TI TO i1 i2 l1 l2 S:Addr} (D:Hh z TI TO i1 i2 l1 l2) (hS:S≠z∧S≠TI∧S≠TO∧S≠i1∧S≠i2∧S≠l1∧S≠l2) (hxy:ys.size≤xs.size) (hn:xs.size≤1000) (res:Value) {c₀:Nat}
  (hz:IsZip s.heap z TI TO .none) (Z:∀h',(∀b o,b≠S→s.heap.get? b=some o→h'.get? b=some o)→∀c,h'.get? S=some {cls:=.type "list",dict:=none,data:=.seq #[] c,slots:=#[] }→ZL xs ys z TI TO i1 i2 l1 l2 S h' 0 [] c)
  (gS:s.heap.get? S=some {cls:=.type "list",data:=.seq #[] c₀ })
  (hR:∀h' ad' c',ZF xs ys S h' ad' c'→(∀b o,b≠z→b≠TO→b≠i1→b≠i2→b≠S→s.heap.get? b=some o→h'.get? b=some o)→(∀a∈ad',s.heap.get? a=none)→R (.ok (.ret res)) {s with heap:=h' }):
  wpAny (model prog w) A.in1 (Builtin.List.listExtendWith (.ref S) (.ref z) res)
   (fun fin s'=>match fin with | .done f=>R (.ok f) s' | .again c'=>c'.quiet=true∧Gg (model prog w) A c' R s') (fun e s'=>R (.error e) s') s:=by
 have hT:s.TypeIs (.ref z) "zip":=⟨_,hz,rfl⟩
 unfold Builtin.List.listExtendWith
 refine B0 (Jg hT ?_)
 have k1:Builtin.List.listSameRef (.ref S) (.ref z)=false:=by simp[Builtin.List.listSameRef,hS.1]
 have k2:(DV "zip"==DV "list")=false:=by decide
 have k3:(DV "zip"==DV "tuple")=false:=by decide
 simp only[k1,k2,k3,Mg,Cn,if_false]
 refine B0 (vT hz (B0 (DJ (vv prog w _ _ _ _ _ hT fun b=>?_))))
 refine Fx (fun _=>?_) (fun _=>?_)
 ·refine B0 (HH (B0 ?_))
  show wpAny _ A.in1 (Gn S (·.push .none) >>=fun _=>Gn S (·.pop)) _ _ _
  refine B0 (DU gS rfl ?_)
  have g2:=Da (Dx (·.push CO)) gS rfl
  refine DU (hz:=by seq_fits) g2 rfl ?_
  have g3:=Da (Dx (·.pop)) g2 rfl
  have oth:∀b o,b≠S→s.heap.get? b=some o→((s.heap.update S (Dx (·.push CO))).update S (Dx (·.pop))).get? b=some o:=fun b o hb e=>(CJ _ _ (Ne.symm hb)).trans ((CJ _ _ (Ne.symm hb)).trans e)
  refine B6 ⟨D6 DY _,ot (s:={s with heap:=(s.heap.update S (Dx (·.push CO))).update S (Dx (·.pop)) }) hh D hS hxy hn res _ 0 [] _ rfl (DB _) (Z _ oth _ g3) fun h' ad' c' F kp fr=>?_⟩
  refine hR h' ad' c' F (fun b o m1 m2 m3 m4 m5 e=>kp b o m1 m2 m3 m4 m5 (oth b o m5 e)) fun a ha=>?_
  rcases fr a ha with q |q
  ·simp at q
  ·cases hq:s.heap.get? a with
   |none=>rfl
   |some o=>
    have e:=oth a o (F.ne a ha) hq
    rw[e] at q;cases q
 ·refine B6 ⟨D6 DY _,ot hh D hS hxy hn res _ 0 _ [] _ rfl (DB _) (Z _ (fun _ _ _ e=>e) _ gS) fun h' ad' c' F kp fr=>?_⟩
  exact hR h' ad' c' F kp fun a ha=>(fr a ha).resolve_left (by simp)
end
section
variable {prog:Cy}{w:World}{A:Dc}{E:Value→B7→Prop}{s:B7}
theorem call_list_zip {Q:Value→B7→Prop} (hh:A.handled=none) {xs ys:Array Value}{z TI TO i1 i2 l1 l2:Addr} (D:Hh z TI TO i1 i2 l1 l2) (hxy:ys.size≤xs.size) (hn:xs.size≤1000)
  (hz:IsZip s.heap z TI TO .none) (hTI:HJ s.heap TI (.ref i1) (.ref i2)) {a b:Value} (hTO:HJ s.heap TO a b) (h1:s.heap.IsListIter i1 l1 0) (h2:s.heap.IsListIter i2 l2 0) (hl1:s.heap.IsList l1 xs) (hl2:s.heap.IsList l2 ys)
  (hQ:∀h' ad' c',ZF xs ys s.heap.objs.size h' ad' c'→(∀b o,b≠z→b≠TO→b≠i1→b≠i2→s.heap.get? b=some o→h'.get? b=some o)→(∀a∈ad',s.heap.get? a=none)→Q (.ref s.heap.objs.size) {s with heap:=h' }):
  wpAny (model prog w) A (call (.type "list") [.ref z]) Q E s:=by
 refine LG (Q₁:=fun obj s₁=>obj=.ref s.heap.objs.size∧s₁={s with heap:=s.heap.push {cls:=.type "list",data:=.seq #[] } }) JP (IC _) ID (code_list_new _ ⟨rfl,rfl⟩) fun obj s₁ h₁=>?_
 obtain ⟨rfl,rfl⟩:=h₁
 generalize hSd:s.heap.objs.size=S at *
 have lt:∀c o,s.heap.get? c=some o→S≠c:=fun c o e q=>by rw[←q,←hSd] at e;exact CU _ (Cf e)
 have gS:(s.heap.push {cls:=.type "list",data:=.seq #[] }).get? S=some {cls:=.type "list",data:=.seq #[] }:=by rw[←hSd];exact Cm _ rfl
 have up:∀b o,s.heap.get? b=some o→(s.heap.push {cls:=.type "list",data:=.seq #[] }).get? b=some o:=fun b o e=>B5 _ e
 have hS:S≠z∧S≠TI∧S≠TO∧S≠i1∧S≠i2∧S≠l1∧S≠l2:=⟨lt _ _ hz,lt _ _ hTI,lt _ _ hTO,by obtain ⟨o,e,_⟩:=h1;exact lt _ _ e,by obtain ⟨o,e,_⟩:=h2;exact lt _ _ e,by obtain ⟨o,e,_⟩:=hl1;exact lt _ _ e,by obtain ⟨o,e,_⟩:=hl2;exact lt _ _ e⟩
 refine ⟨⟨_,gS,rfl⟩,Iq _ _,?_⟩
 show wpAny _ A.in1.in1 (Builtin.List.listItems (.ref S) >>=fun old=>Builtin.List.listUpdate (.ref S) (fun _=>#[]) >>=fun _=>letGo old.toList.reverse >>=fun _=>Builtin.List.listExtendWith (.ref S) (.ref z) .none) _ _ _
 refine B0 ?_
 unfold Builtin.List.listItems
 refine B0 (Ec gS rfl (B6 ?_))
 show wpAny _ A.in1.in1 (Gn S (fun _=>#[]) >>=fun _=>letGo (#[]:Array Value).toList.reverse >>=fun _=>Builtin.List.listExtendWith (.ref S) (.ref z) .none) _ _ _
 refine B0 (DU gS rfl ?_)
 have g2:=Da (Dx (fun _=>(#[]:Array Value))) gS rfl
 have oth:∀b o,b≠S→s.heap.get? b=some o→((s.heap.push {cls:=.type "list",data:=.seq #[] }).update S (Dx (fun _=>(#[]:Array Value)))).get? b=some o:=fun b o hb e=>(CJ _ _ (Ne.symm hb)).trans (up b o e)
 refine B0 (FE ?_)
 refine pF (A:=A.in1) (s:={s with heap:=(s.heap.push {cls:=.type "list",data:=.seq #[] }).update S (Dx (fun _=>(#[]:Array Value))) }) hh D hS hxy hn .none (oth _ _ hS.1.symm hz) (fun h' kp c e=>?_) g2 fun h' ad' c' F kp fr=>?_
 ·have k:∀b o,b≠S→s.heap.get? b=some o→h'.get? b=some o:=fun b o hb e=>kp b o hb (oth b o hb e)
  exact ⟨k _ _ hS.2.1.symm hTI,h1.at fun o e=>k _ o hS.2.2.2.1.symm e,h2.at fun o e=>k _ o hS.2.2.2.2.1.symm e,hl1.at fun o e=>k _ o hS.2.2.2.2.2.1.symm e,hl2.at fun o e=>k _ o hS.2.2.2.2.2.2.symm e,e,rfl,fun j a e=>by simp at e,fun a ha=>by simp at ha,⟨_,k _ _ hS.2.2.1.symm hTO⟩,LI,.inl ⟨rfl,k _ _ hS.1.symm hz,a,b,k _ _ hS.2.2.1.symm hTO⟩⟩
 ·refine ⟨rfl,hQ h' ad' c' F (fun b o m1 m2 m3 m4 e=>kp b o m1 m2 m3 m4 (fun q=>lt b o e q.symm) (oth b o (fun q=>lt b o e q.symm) e)) fun a ha=>?_⟩
  cases hq:s.heap.get? a with
  |none=>rfl
  |some o=>
   have e:=oth a o (F.ne a ha) hq
   have q:=fr a ha
   rw[show ({s with heap:=(s.heap.push {cls:=.type "list",data:=.seq #[] }).update S (Dx (fun _=>(#[]:Array Value))) }:B7).heap.get? a=some o from e] at q
   cases q
end
end ST
namespace L2
open PySem PySem.Spec PyProof.Rows
theorem wU {a b:Nat} (h:a < b∨b < a):@Ne Addr a b:=fun e=>by
 have e':a=b:=e
 lia
theorem wE:EJ "zip"=some (.type "zip"):=by decide+kernel
section
variable {P:Cy}{w:World}{H:Hp}{h:Heap}{a:Addr}{o:HO}
theorem gH (x:cw P w H h a o):∃ob,h.get? a=some ob:=by
 cases o with
 |lst xs=>obtain ⟨_,_,_,_,e⟩:=x;exact ⟨_,e⟩
 |tup xs=>obtain ⟨_,_,_,ob,e,_⟩:=x;exact ⟨_,e⟩
 |dK kvs=>obtain ⟨_,_,_,_,o,_,_,e,_⟩:=x;exact ⟨_,e⟩
 |dT kvs=>obtain ⟨_,_,_,_,o,_,_,e,_⟩:=x;exact ⟨_,e⟩
 |set S n=>obtain ⟨o,_,_,_,e,_⟩:=x;exact ⟨_,e⟩
 |ins C dx fs=>obtain ⟨_,_,_,e,_⟩:=x;exact ⟨_,e⟩
 |own y=>exact x
 |xd fs=>obtain ⟨_,⟨_,_,_,e,_⟩,_⟩:=x;exact ⟨_,e⟩
 |rng lo hi=>obtain ⟨_,_,_,e⟩:=x;exact ⟨_,e⟩
 |frz ob u=>obtain ⟨e,_⟩:=x;exact ⟨_,e⟩
 |tbl ps=>exact ⟨_,(show h.get? a=some _ from x)⟩
 |met f y=>exact ⟨_,(show h.get? a=some _ from x)⟩
 |ext φ=>exact x.2.1
end
theorem yG {X:Cx}{pins:List (Addr×Obj)}{σ:List (Option V)}{H H':Hp}{s:B7}{h':Heap}{t':Nat} (I:Inv X pins σ H s) (k:∀b u,s.heap.get? b=some u→h'.get? b=some u)
  (old:∀b u,s.heap.get? b=some u→H' b=H b) (new:∀b o,s.heap.get? b=none→H' b=some o→cw X.prog X.w H' h' b o):Inv X pins σ H' {s with heap:=h',toks:=t' }:=by
 have at':∀b o,H b=some o→H' b=some o:=fun b o e=>let ⟨ob,q⟩:=gH (I.hok b o e);(old b ob q).trans e
 refine I.un ⟨fun b u q _ _ _=>k b u q,fun b u q _ _ _=>⟨u.slots,k b u q⟩,fun b u q n _=>(old b u q).trans n,fun b u q _=>⟨u,k b u q⟩,fun b xs q=>at' b _ q,fun b u xs q=>at' b _ q,fun b ps q=>⟨#[],by rw[at' b _ q];simp⟩⟩ fun b u e=>?_
 cases hb:s.heap.get? b with
 |some ob=>
  rw[old b ob hb] at e
  exact (I.hok b u e).stay (fun c v _ q=>k c v q) (fun c q=>at' c _ q) fun c xs q=>at' c _ q
 |none=>exact new b u hb e
def j7 (H:Hp):List Addr→List (List V)→Hp
 |[],_=>H
 |a::as,ps=>match ps with
  |[]=>H
  |p::ps=>upd (j7 H as ps) a (.tup p)
theorem oM {H:Hp}:∀{as:List Addr}{ps:List (List V)}{b:Addr},b ∉ as→j7 H as ps b=H b
 |[],_,_,_=>rfl
 |a::as,[],_,_=>rfl
 |a::as,p::ps,b,h=>by
  show upd (j7 H as ps) a (.tup p) b=H b
  rw[ba fun z=>h (by rw[z];exact Ci)]
  exact oM fun z=>h (B4 _ z)
theorem rE {H:Hp}:∀{as:List Addr}{ps:List (List V)}{j:Nat}{a:Addr}{p:List V},as.Nodup→as[j]?=some a→ps[j]?=some p→j7 H as ps a=some (.tup p)
 |[],_,j,_,_,_,e,_=>by simp at e
 |_::_,[],j,_,_,_,_,e=>by simp at e
 |b::as,q::ps,0,a,p,_,e1,e2=>by
  simp at e1 e2
  subst e1;subst e2
  exact aY
 |b::as,q::ps,j+1,a,p,nd,e1,e2=>by
  show upd (j7 H as ps) b (.tup q) a=_
  rw[GN] at e1 e2
  have nd':=E_.mp nd
  rw[ba fun z=>nd'.1 (by rw[←z];exact Cu e1)]
  exact rE nd'.2 e1 e2
theorem oD {H:Hp}:∀{as:List Addr}{ps:List (List V)}{b:Addr}{o:HO},j7 H as ps b=some o→H b=some o∨∃(j:Nat) (p:List V),as[j]?=some b∧ps[j]?=some p∧o=.tup p
 |[],_,_,_,e=>.inl e
 |_::_,[],_,_,e=>.inl e
 |a::as,p::ps,b,o,e=>by
  have e':upd (j7 H as ps) a (.tup p) b=some o:=e
  by_cases hb:b=a
  ·subst hb
   rw[aY] at e'
   cases e'
   exact .inr ⟨0,p,rfl,rfl,rfl⟩
  ·rw[ba hb] at e'
   rcases oD e' with z |⟨j,q,e1,e2,e3⟩
   ·exact .inl z
   ·exact .inr ⟨j+1,q,by simpa using e1,by simpa using e2,e3⟩
theorem kL:∀(ad:List Addr),aO (ad.map V.ref) (ad.map C8)
 |[]=>.nil
 |_::ad=>.cons rfl (kL ad)
section
variable {X:Cx}{H0:Hp}{O0:List Addr}{ps:PSt}{e f:Expr}{x y:U}{xs ys:List U}{pos pos' p p':Pos}
theorem qh (hc:X.calm=true) (hg:Gl X "list") (hm:X.mg "list"=none) (hgz:Gl X "zip") (hmz:X.mg "zip"=none) (ha:Ev X H0 O0 ps e x) (hx:x=.lst xs∨x=.scr xs) (hb:Ev X H0 O0 ps f y) (hy:y=.lst ys∨y=.scr ys) (hl:ys.length≤xs.length) (hn:xs.length≤1000)
  (he:Ce [e,f] X.env=(false,eval e X.env)::Ce [f] X.env:=by rfl) (hf:Ce [f] X.env=(false,eval f X.env)::Ce [] X.env:=by rfl):
  EvN X H0 O0 ps (.Call (.Name "list" p) [.Call (.Name "zip" p') [e,f] [] pos'] [] pos) (Jo (fun a b=>U.tup [a,b]) xs ys):=by
 rintro pins s σ H Q I ⟨O,R,q⟩
 have hh:X.A.handled=none:=I.ok.hd hc
 refine DM (c_ I hg hm J4 ?_)
 refine callWith_type1 (e:=.Call (.Name "zip" p') [e,f] [] pos') (rest:=[]) ?_ dB rfl
 rw[dB]
 show wpAny _ _ (spliced ((false,eval (.Call (.Name "zip" p') [e,f] [] pos') X.env)::Fp pos (Ce [] X.env))) _ _ s
 refine FP ?_
 refine DM (c_ I hgz hmz wE ?_)
 refine callWith_type1 (thn (dg ha (dg hb fQ hf) he pos' pins s σ H (fun vs H1=>∃v u,vs=[v,u]∧aK H H1∧Rp X.K (hid H1 O) v x∧Rp X.K (hid H1 O) u y) I ⟨O,R,fun v H1 s1 r1=>⟨O,R.go s1,fun u H2 s2 r2=>⟨v,u,rfl,s1.trans s2,r1.same (bi s2),r2⟩⟩⟩) fun us s1 hx'=>?_) he (by rw[hf];rfl)
 obtain ⟨vs,H1,I1,rv,v,u,rfl,sm,rp1,rp2⟩:=hx'
 obtain ⟨w1,w2,rfl,ru1,ru2⟩:=rM rv
 obtain ⟨a,va,rfl,hq1,rs1⟩:=yh rp1 hx
 obtain ⟨b,vb,rfl,hq2,rs2⟩:=yh rp2 hy
 cases ru1
 cases ru2
 obtain ⟨ia,ra,pl1,hz1⟩:=I1.list (ax.seq hq1)
 obtain ⟨ib,rb,pl2,hz2⟩:=I1.list (ax.seq hq2)
 have la:=ra.length
 have lb:=rb.length
 have l1:=rs1.len
 have l2:=rs2.len
 have al:@LT.lt Nat instLTNat a s1.heap.objs.size:=by obtain ⟨o,ho,_⟩:=pl1.isList;exact Cf ho
 have bl:@LT.lt Nat instLTNat b s1.heap.objs.size:=by obtain ⟨o,ho,_⟩:=pl2.isList;exact Cf ho
 refine PySem.call_zip_2 pl1.isList pl2.isList fun h' z1 z2 z3 z4 z5 z6 z7=>?_
 refine FZ ?_
 have D:Hh (s1.heap.objs.size+4) (s1.heap.objs.size+2) (s1.heap.objs.size+3) s1.heap.objs.size (s1.heap.objs.size+1) a b:=by constructor <;>exact wU (by lia)
 have sxy:ib.toArray.size≤ia.toArray.size:=by simp;lia
 have sx:ia.toArray.size≤1000:=by simp;lia
 refine ST.call_list_zip (s:={s1 with heap:=h' }) hh D sxy sx z1 z2 z3 z4 z5 (pl1.isList.at fun o e=>z7 _ o e) (pl2.isList.at fun o e=>z7 _ o e) fun h3 ad c F kp fr=>?_
 have lD:s1.heap.objs.size≤({s1 with heap:=h' }:B7).heap.objs.size:=by show _≤h'.objs.size;lia
 generalize ({s1 with heap:=h' }:B7).heap.objs.size=D0 at *
 have keep:∀b o,s1.heap.get? b=some o→h3.get? b=some o:=fun b o e=>by
  have this:@LT.lt Nat instLTNat b s1.heap.objs.size:=Cf e
  exact kp b o (wU (by lia)) (wU (by lia)) (wU (by lia)) (wU (by lia)) (z7 b o e)
 have fr':∀a∈ad,s1.heap.get? a=none:=fun a ha=>by
  cases hq:s1.heap.get? a with
  |none=>rfl
  |some o=>
   have q1:=fr a ha
   rw[show ({s1 with heap:=h' }:B7).heap.get? a=some o from z7 a o hq] at q1
   cases q1
 have frD:s1.heap.get? D0=none:=Hy lD
 have nH:∀a,s1.heap.get? a=none→H1 a=none:=fun a e=>by
  cases hq:H1 a with
  |none=>rfl
  |some o=>
   obtain ⟨ob,z⟩:=gH (I1.hok a o hq)
   rw[e] at z;cases z
 generalize hP:Jo (fun x y:V=>[x,y]) va vb=PS
 have old:∀b u,s1.heap.get? b=some u→upd (j7 H1 ad PS) D0 (.lst (ad.map V.ref)) b=H1 b:=fun b u e=>by
  rw[ba fun z=>by rw[z,frD] at e;cases e]
  exact oM fun z=>by rw[fr' b z] at e;cases e
 have sm1:aK H1 (upd (j7 H1 ad PS) D0 (.lst (ad.map V.ref))):=fun b o e=>let ⟨ob,z⟩:=gH (I1.hok b o e);(old b ob z).trans e
 have lad:ad.length=ib.length:=by rw[F.len];simp
 have atT:∀(j:Nat) (c:Addr) (v u:V),ad[j]?=some c→va[j]?=some v→vb[j]?=some u→upd (j7 H1 ad PS) D0 (.lst (ad.map V.ref)) c=some (.tup [v,u]):=fun j c v u e1 e2 e3=>by
  rw[ba (F.ne c (Cu e1))]
  refine rE F.nd e1 ?_
  rw[←hP]
  exact EY.mpr ⟨v,u,e2,e3,rfl⟩
 have I3:Inv X pins σ (upd (j7 H1 ad PS) D0 (.lst (ad.map V.ref))) {s1 with heap:=h3 }:=by
  refine yG (t':=s1.toks) I1 keep old fun b o nb e=>?_
  by_cases hbD:b=D0
  ·subst hbD
   rw[aY] at e
   cases e
   exact ⟨by rw[B3,lad,←lb];exact hz2,ad.map C8,c,kL ad,F.acc⟩
  ·rw[ba hbD] at e
   rcases oD e with z |⟨j,pr,e1,e2,rfl⟩
   ·rw[nH b nb] at z;cases z
   ·rw[←hP] at e2
    obtain ⟨v,u,f1,f2,rfl⟩:=EY.mp e2
    obtain ⟨xv,g1,r1⟩:=ra.get f1
    obtain ⟨yv,g2,r2⟩:=rb.get f2
    obtain ⟨xv',yv',k1,k2,k3⟩:=F.tup j b e1
    have m1:xv'=xv:=by
     have:ia.toArray[j]?=some xv:=by simpa using g1
     rw[this] at k1;cases k1;rfl
    have m2:yv'=yv:=by
     have:ib.toArray[j]?=some yv:=by simpa using g2
     rw[this] at k2;cases k2;rfl
    subst m1;subst m2
    exact ⟨(show 2≤sizeLine by decide),[xv',yv'],.cons r1 (.cons r2 .nil),_,k3,rfl,_,rfl⟩
 refine ⟨.ref D0,_,I3,rfl,q D0 _ _ (sm.trans sm1) (sm.free (nH _ frD)) aY ⟨?_,fun i v u h1 h2=>?_⟩⟩
 ·rw[B3,List.length_zipWith];lia
 ·rw[Cb] at h1
  cases hi:ad[i]? with
  |none=>rw[hi] at h1;cases h1
  |some c'=>
   rw[hi] at h1
   obtain rfl:V.ref c'=v:=by simpa using h1
   obtain ⟨xi,yi,f1,f2,rfl⟩:=EY.mp h2
   obtain ⟨vi,g1,r1⟩:=rs1.get f1
   obtain ⟨wi,g2,r2⟩:=rs2.get f2
   have S:=bF (O:=O) sm1 (nH _ frD)
   have rr:=Rps.cons (r1.same S) (Rps.cons (r2.same S) Rps.nil)
   have hc':=Cu hi
   refine .tup (SqT.of (dy (atT i c' vi wi hi g1 g2) fun z=>?_)) rr.len rr.at_
   rcases Cd.mp z with z |z
   ·exact F.ne c' hc' z
   ·exact (R.go sm).dom c' z (nH _ (fr' c' hc'))
theorem tP (hc:X.calm=true) (hg:Gl X "list") (hm:X.mg "list"=none) (hgz:Gl X "zip") (hmz:X.mg "zip"=none) (ha:Ev X H0 O0 ps e x) (hx:x=.lst xs∨x=.scr xs) (hb:Ev X H0 O0 ps f y) (hy:y=.lst ys∨y=.scr ys) (hl:ys.length=xs.length) (hn:xs.length≤1000)
  (he:Ce [e,f] X.env=(false,eval e X.env)::Ce [f] X.env:=by rfl) (hf:Ce [f] X.env=(false,eval f X.env)::Ce [] X.env:=by rfl):
  EvN X H0 O0 ps (.Call (.Name "list" p) [.Call (.Name "zip" p') [e,f] [] pos'] [] pos) (Jo (fun a b=>U.tup [a,b]) xs ys):=qh hc hg hm hgz hmz ha hx hb hy (Mp hl) hn he hf
end
theorem iT (ns:List Int):∀j,preSum (fun i=>ns.getD i 0) j=(ns.take j).sum
 |0=>by simp[preSum]
 |j+1=>by rw[preSum,iT ns j,PySem.sum_take_succ]
section
variable {X:Cx}{ns:List Int}{M:Int}
theorem j4 {K:B2}{H:Hp}{ws:List V}{its:List Value} (rv:aO ws its) (rs:Rps K H ws (ns.map U.int)) (i:Nat) (z:Value) (e:its.toArray[i]?=some z):∃t,z=.int (ns.getD i 0) t:=by
 have hl:=rs.len
 rw[B3] at hl
 have e4:its[i]?=some z:=by simpa using e
 have hi:i < its.length:=aF e4
 have hw:i < ws.length:=by rw[rv.length];exact hi
 have hb:i < ns.length:=by lia
 obtain ⟨u,e1,e2⟩:=rv.get (B1 hw)
 have e3:=rs.at_ i ws[i] (.int ns[i]) (B1 hw) (by rw[Cb,B1 hb];rfl)
 rw[e4] at e1
 cases e1
 generalize ws[i]=wi at *
 cases e3
 rw[CC,B1 hb]
 obtain ⟨t,rfl⟩:=e2
 exact ⟨t,rfl⟩
theorem qg (hc:X.calm=true) (hM:M∈ns∧∀a∈ns,M≤a):gC X (.builtin "min") [.lst (ns.map U.int)] (.int M):=by
 intro pins s σ H vs us Q I r hq
 obtain ⟨O,d,rs,q⟩:=hq
 obtain ⟨v,rfl,h1⟩:=cB rs
 obtain ⟨p1,rfl,r1⟩:=fk r
 cases h1 with
 | @lst a ws _ hq hl hh=>
  cases r1
  obtain ⟨its,rv,pl,_⟩:=I.list (SqL.of (ax _ _ hq))
  have hlen:its.length=ns.length:=by rw[←rv.length,hl,B3]
  have hat:=j4 (ns:=ns) rv ⟨hl,hh⟩
  have hn:0 < ns.length:=D4 hM.1
  refine call_min_walk (EM pl.isList ?_)
  have hal:a < s.heap.objs.size:=by obtain ⟨o,e,_⟩:=pl.isList;exact Cf e
  refine ⟨s.heap.objs.size,_,_,_,_,_,_,rfl,Walks.list (A:=X.A.in1) (I.ok.hd hc) s.heap.objs.size a (CP hal) its.toArray,⟨⟨_,Cm _ rfl,rfl,rfl⟩,pl.isList.push _⟩,fun b hb=>?_,by rw[Cp,hlen];exact hn,CmpOf.ints_lt (fun i=>ns.getD i 0) hat,fun v h' tk hP hk=>?_⟩
  ·show b < (s.heap.push _).objs.size
   rw[Em]
   rcases Cd.mp hb with z |z
   ·rw[z];exact Ep _
   ·rw[Ct.mp z];exact Ew hal
  ·obtain ⟨t,rfl⟩:=hat _ _ hP
   obtain ⟨b1,b2⟩:=argBest_lt (fun i=>ns.getD i 0) (its.toArray.size - 1)
   have e:ns.getD (Eb (fun i j=>decide (ns.getD i 0 < ns.getD j 0)) (its.toArray.size - 1)) 0=M:=by
    rw[Cp,hlen] at b1 b2 ⊢
    generalize Eb (fun i j=>decide (ns.getD i 0 < ns.getD j 0)) (ns.length - 1)=g at *
    have hg:g < ns.length:=by lia
    obtain ⟨j,hj,ej⟩:=DP hM.1
    have k1:=b2 j (by lia)
    have k2:=hM.2 ns[g] (Dm hg)
    simp only[CC,B1 hg,B1 hj,FI] at k1 ⊢
    lia
   rw[e]
   refine ⟨.int M,H,I.kept (t':=tk) fun b o e=>hk b o ?_ (B5 _ e),⟨t,rfl⟩,q _ H (.refl H) (.int _)⟩
   intro z
   have:b=s.heap.objs.size:=by simpa using z
   exact absurd (Cf e) (by rw[this];exact CU _)
theorem vM (hc:X.calm=true):gC X (.builtin "sum") [.lst (ns.map U.int)] (.int ns.sum):=by
 intro pins s σ H vs us Q I r hq
 obtain ⟨O,d,rs,q⟩:=hq
 obtain ⟨v,rfl,h1⟩:=cB rs
 obtain ⟨p1,rfl,r1⟩:=fk r
 cases h1 with
 | @lst a ws _ hq hl hh=>
  cases r1
  obtain ⟨its,rv,pl,_⟩:=I.list (SqL.of (ax _ _ hq))
  have hlen:its.length=ns.length:=by rw[←rv.length,hl,B3]
  have hat:=j4 (ns:=ns) rv ⟨hl,hh⟩
  refine call_sum_walkG (EM pl.isList ?_)
  have hal:a < s.heap.objs.size:=by obtain ⟨o,e,_⟩:=pl.isList;exact Cf e
  refine ⟨s.heap.objs.size,_,_,_,_,_,fun i=>ns.getD i 0,rfl,Walks.list (A:=X.A.in1) (I.ok.hd hc) s.heap.objs.size a (CP hal) its.toArray,⟨⟨_,Cm _ rfl,rfl,rfl⟩,pl.isList.push _⟩,fun b hb=>?_,hat,fun h' tk t' hk=>?_⟩
  ·show b < (s.heap.push _).objs.size
   rw[Em]
   rcases Cd.mp hb with z |z
   ·rw[z];exact Ep _
   ·rw[Ct.mp z];exact Ew hal
  ·rw[iT,Cp,hlen,EX]
   refine ⟨.int ns.sum,H,I.kept (t':=tk) fun b o e=>hk b o ?_ (B5 _ e),⟨t',rfl⟩,q _ H (.refl H) (.int _)⟩
   intro z
   have:b=s.heap.objs.size:=by simpa using z
   exact absurd (Cf e) (by rw[this];exact CU _)
end
end L2
namespace ST
open PySem PyProof.Rows
def leP (a b:Int×Int):Bool:=decide (a.1 < b.1∨(a.1=b.1∧a.2≤b.2))
section
variable {prog:Cy}{w:World}{A:Dc}{E:Value→B7→Prop}{s:B7}
end
end ST
namespace L2
open PySem PySem.Spec PyProof.Rows
section
variable {X:Cx}{H0:Hp}{O0:List Addr}{ps:PSt}{a b c:Expr}{pos:Pos}{x y z:U}{p q:P2}{k m:Bool}
end
section
variable {X:Cx}{p q:P2}{l:List P2}
theorem u0 {pins:List (Addr×Obj)}{σ:List (Option V)}{H:Hp}{s:B7} (I:Inv X pins σ H s) {v:V}{u:Value} (r:Rp X.K H v (pu p)) (e:bg v u):∃b,u=.ref b∧∀prog w,ST.TK prog w s.heap [p.1,p.2] b:=by
 cases r with
 | @tup b zs _ hs hsl hsi=>
  cases e
  refine ⟨b,rfl,fun prog w=>?_⟩
  obtain ⟨jts,rj,ht,_⟩:=I.tuple hs
  have z0:zs.length=2:=hsl
  match zs,z0,hsi,rj with
  |[z1,z2],_,hsi,rj=>
   have q1:=hsi 0 z1 _ rfl rfl
   have q2:=hsi 1 z2 _ rfl rfl
   cases q1
   cases q2
   obtain ⟨u1,u2,rfl,r1,r2⟩:=rM rj
   obtain ⟨t1,rfl⟩:=r1
   obtain ⟨t2,rfl⟩:=r2
   obtain ⟨o,ho,hoc,n,hod⟩:=ht
   exact ⟨o,_,n,ho,hoc,hod,.cons (ER _ _ _ _) (.cons (ER _ _ _ _) .nil)⟩
end
section
variable {X:Cx}{H0:Hp}{O0:List Addr}{ps:PSt}{e:Expr}{pts:List P2}{pos pos' p p':Pos}
end
end L2
namespace ST
open PySem
def sD (prog:Cy) (w:World) (A:Dc) (op:CmpOp) (G:Heap→Prop) (P:Nat→Value→Prop) (bt:Nat→Nat→Bool):Prop:=
 ∀i j vi vj (s:B7) (Q:Value→B7→Prop) (E:Value→B7→Prop),G s.heap→P i vi→P j vj→Q (.bool (bt i j)) s→wpAny (model prog w) A (IE op vi vj) Q E s
section
variable {prog:Cy}{w:World}{A:Dc}{R:K0→B7→Prop}{I S:Addr}{fp wr:List Addr}{n:Nat}{P:Nat→Value→Prop}{St:Nat→Heap→Prop}{G:Heap→Prop}{bt:Nat→Nat→Bool}
theorem t3 (W:Walks prog w A.in1 I fp wr n P St) (hc:sD prog w A.in1 .Lt G P bt) (stay:∀h h':Heap,G h→(∀b o,b ∉ wr→b≠S→h.get? b=some o→h'.get? b=some o)→G h') (hSf:S ∉ fp):
  ∀(k j:Nat) (s:B7) (vb:Value) (c:Nat),n - (j+1)=k→j+1≤n→G s.heap→St (j+1) s.heap→P (Eb bt j) vb→s.heap.get? S=some {cls:=.type "list",dict:=none,data:=.seq #[vb,vb] c,slots:=#[] }→
  (∀v h' tk,P (Eb bt (n - 1)) v→(∀b o,b ∉ wr→b≠S→s.heap.get? b=some o→h'.get? b=some o)→R (.ok (.ret v)) {s with heap:=h',toks:=tk })→
  Gg (model prog w) A (.builtin "min.loop" ⟨[.ref I,.none,.ref S],[]⟩) R s:=by
 have nw:S ∉ wr:=fun h=>hSf (W.sub _ h)
 have nm:(GR "min"++GR ".loop":String)="min.loop":=by decide
 intro k
 induction k with
 |zero=>
  intro j s vb c hk hj g st pb hS hR
  obtain rfl:j+1=n:=by lia
  refine D_ G4 ?_
  rw[DD Eh _]
  show wpAny _ A.in1 (Im (.ref S) >>=_) _ _ s
  refine B0 (Ec hS rfl ?_)
  show wpAny _ A.in1 (IF (Gk (.ref I)) _ >>=_) _ _ s
  refine B0 (Fn (W.done s _ _ st fun h' tk kp=>?_))
  show wpAny _ A.in1 (Gn S (fun _=>#[]) >>=_) _ _ _
  refine B0 (DU (kp S _ nw hS) rfl (B0 (FE (B6 ?_))))
  exact hR vb _ tk pb fun b o hw hb e=>(CJ _ _ (Ne.symm hb)).trans (kp b o hw e)
 |succ k ih=>
  intro j s vb c hk hj g st pb hS hR
  refine D_ G4 ?_
  rw[DD Eh _]
  show wpAny _ A.in1 (Im (.ref S) >>=_) _ _ s
  refine B0 (Ec hS rfl ?_)
  show wpAny _ A.in1 (IF (Gk (.ref I)) _ >>=_) _ _ s
  refine B0 (Fn (W.item (j+1) s _ _ (by lia) st fun v h' tk pv st' kp=>?_))
  have g':G h':=stay _ _ g fun b o hw _ e=>kp b o hw e
  have hS':=kp S _ nw hS
  show wpAny _ A.in1 (IF (holding [v,v] (IE .Lt v vb >>=_)) _ >>=_) _ _ _
  refine B0 (Fn (DJ (B0 (hc (j+1) (Eb bt j) v vb _ _ _ g' pv pb ?_))))
  refine B0 (DJ (E5 (B0 (FE (B6 ?_)))))
  by_cases hb:bt (j+1) (Eb bt j)=true
  ·rw[if_pos hb]
   refine B0 (DU hS' rfl (B0 (FE ?_)))
   rw[nm]
   have oth:∀b o,b≠S→h'.get? b=some o→(h'.update S (Dx fun _=>#[v,v])).get? b=some o:=fun b o h e=>(CJ _ _ (Ne.symm h)).trans e
   refine B6 ⟨D6 Eh _,ih (j+1) _ v _ (by lia) (by lia) (stay _ _ g' fun b o _ h e=>oth b o h e) (W.frame _ _ _ st' fun b hf o e=>oth b o (fun h=>hSf (h ▸ hf)) e) (by rw[Eb,if_pos hb];exact pv) (Da _ hS' rfl) fun v2 h2 t2 p2 k2=>?_⟩
   exact hR v2 h2 t2 p2 fun b o hw h e=>k2 b o hw h (oth b o h (kp b o hw e))
  ·rw[if_neg hb]
   refine B0 (FE ?_)
   rw[nm]
   refine B6 ⟨D6 Eh _,ih (j+1) _ vb c (by lia) (by lia) g' st' (by rw[Eb,if_neg hb];exact pb) hS' fun v2 h2 t2 p2 k2=>?_⟩
   exact hR v2 h2 t2 p2 fun b o hw h e=>k2 b o hw h (kp b o hw e)
theorem oX (W:Walks prog w A.in1 I fp wr n P St) (hc:sD prog w A.in1 .Lt G P bt) (stay:∀h h':Heap,G h→(∀b o,b ∉ wr→b≠S→h.get? b=some o→h'.get? b=some o)→G h') (hSf:S ∉ fp) (hn:0 < n) {s:B7}{c:Nat} (g:G s.heap) (st:St 0 s.heap)
  (hS:s.heap.get? S=some {cls:=.type "list",dict:=none,data:=.seq #[] c,slots:=#[] })
  (hR:∀v h' tk,P (Eb bt (n - 1)) v→(∀b o,b ∉ wr→b≠S→s.heap.get? b=some o→h'.get? b=some o)→R (.ok (.ret v)) {s with heap:=h',toks:=tk }):
  Gg (model prog w) A (.builtin "min.loop" ⟨[.ref I,.none,.ref S],[]⟩) R s:=by
 have nw:S ∉ wr:=fun h=>hSf (W.sub _ h)
 have nm:(GR "min"++GR ".loop":String)="min.loop":=by decide
 refine D_ G4 ?_
 rw[DD Eh _]
 show wpAny _ A.in1 (Im (.ref S) >>=_) _ _ s
 refine B0 (Ec hS rfl ?_)
 show wpAny _ A.in1 (IF (Gk (.ref I)) _ >>=_) _ _ s
 refine B0 (Fn (W.item 0 s _ _ hn st fun v h' tk pv st' kp=>?_))
 have hS':=kp S _ nw hS
 show wpAny _ A.in1 (Gn S (fun _=>#[v,v]) >>=_) _ _ _
 refine B0 (DU hS' rfl ?_)
 rw[nm]
 have oth:∀b o,b≠S→h'.get? b=some o→(h'.update S (Dx fun _=>#[v,v])).get? b=some o:=fun b o h e=>(CJ _ _ (Ne.symm h)).trans e
 refine B6 ⟨D6 Eh _,t3 W hc stay hSf _ 0 _ v _ rfl hn (stay _ _ g fun b o hw h e=>oth b o h (kp b o hw e)) (W.frame _ _ _ st' fun b hf o e=>oth b o (fun h=>hSf (h ▸ hf)) e) pv (Da _ hS' rfl) fun v2 h2 t2 p2 k2=>?_⟩
 exact hR v2 h2 t2 p2 fun b o hw h e=>k2 b o hw h (oth b o h (kp b o hw e))
end
section
variable {prog:Cy}{w:World}{A:Dc}{E:Value→B7→Prop}{s:B7}
theorem call_minG {l:Addr}{items:Array Value}{G:Heap→Prop}{bt:Nat→Nat→Bool}{Q:Value→B7→Prop} (hh:A.handled=none) (hl:s.heap.IsList l items) (hn:0 < items.size) (hc:sD prog w A.in1 .Lt G (fun i v=>items[i]?=some v) bt)
  (g:G s.heap) (stay:∀h h':Heap,G h→(∀b o,s.heap.get? b=some o→h.get? b=some o)→(∀b o,s.heap.get? b=some o→h'.get? b=some o)→G h')
  (hQ:∀v h' tk,items[Eb bt (items.size - 1)]?=some v→(∀b o,s.heap.get? b=some o→h'.get? b=some o)→Q v {s with heap:=h',toks:=tk }):
  wpAny (model prog w) A (call (.builtin "min") [.ref l]) Q E s:=by
 have nm:(GR "min"++GR ".loop":String)="min.loop":=by decide
 refine J5 PySem.F.kind_min PySem.F.plain_min PySem.F.entry_min (PySem.F.args_min1 _) ?_
 show wpAny _ A.in1 (Builtin.Builtins.bindParams "min" ["key","default"] 0 ⟨[],[]⟩ >>=_) _ _ s
 refine B0 (JO (show Builtin.Builtins.bindParams "min" ["key","default"] 0 ⟨[],[]⟩=pure [none,none] from rfl) ?_)
 refine B0 (B6 ?_)
 refine B0 (EM hl ?_)
 have hal:l < s.heap.objs.size:=by obtain ⟨o,e,_⟩:=hl;exact Cf e
 refine B0 (E6 ?_)
 rw[nm]
 have W:=Walks.list (prog:=prog) (w:=w) (A:=A.in1) hh s.heap.objs.size l (CP hal) items
 have up:∀b o,s.heap.get? b=some o→((s.heap.push {cls:=.type "list_iterator",data:=.fields #[.ref l,.int 0 0] }).push {cls:=.type "list",data:=.seq #[] }).get? b=some o:=fun b o e=>B5 _ (B5 _ e)
 have sI:(s.heap.push {cls:=.type "list_iterator",data:=.fields #[.ref l,.int 0 0] }).objs.size=s.heap.objs.size+1:=Em ..
 have lt:∀b o,s.heap.get? b=some o→b ∉ [s.heap.objs.size]∧b≠(s.heap.push {cls:=.type "list_iterator",data:=.fields #[.ref l,.int 0 0] }).objs.size:=fun b o e=>by
  have h:=Cf e
  refine ⟨fun z=>?_,fun z=>?_⟩
  ·rw[Ct.mp z] at h;exact CU _ h
  ·rw[z,sI] at h;exact CU _ (Ks h)
 refine B6 ⟨D6 Eh _,oX (G:=fun h=>G h∧∀b o,s.heap.get? b=some o→h.get? b=some o) W (fun i j vi vj s' Q' E' g'=>hc i j vi vj s' Q' E' g'.1) (fun h h' g' kp=>?_) ?_ hn ⟨stay _ _ g (fun _ _ e=>e) up,up⟩ ⟨⟨_,B5 _ (Cm _ rfl),rfl,rfl⟩,(hl.push _).push _⟩ (Cm _ rfl) fun v h' tk pv kp=>?_⟩
 ·have k2:∀b o,s.heap.get? b=some o→h'.get? b=some o:=fun b o e=>kp b o (lt b o e).1 (lt b o e).2 (g'.2 b o e)
  exact ⟨stay _ _ g'.1 g'.2 k2,k2⟩
 ·intro z
  have z':(s.heap.push {cls:=.type "list_iterator",data:=.fields #[.ref l,.int 0 0] }).objs.size∈[s.heap.objs.size,l]:=z
  rw[sI] at z'
  rcases Cd.mp z' with z |z
  ·exact absurd z (KN _)
  ·have e:=Ct.mp z
   rw[←e] at hal;exact absurd hal (KO (Ep _))
 ·exact hQ v h' tk pv fun b o e=>kp b o (lt b o e).1 (lt b o e).2 (up b o e)
end
section
variable {prog:Cy}{w:World}{A:Dc}{R:K0→B7→Prop}{I S:Addr}{fp wr:List Addr}{n:Nat}{P:Nat→Value→Prop}{St:Nat→Heap→Prop}{G:Heap→Prop}{bt:Nat→Nat→Bool}
theorem t5 (W:Walks prog w A.in1 I fp wr n P St) (hc:sD prog w A.in1 .Gt G P bt) (stay:∀h h':Heap,G h→(∀b o,b ∉ wr→b≠S→h.get? b=some o→h'.get? b=some o)→G h') (hSf:S ∉ fp):
  ∀(k j:Nat) (s:B7) (vb:Value) (c:Nat),n - (j+1)=k→j+1≤n→G s.heap→St (j+1) s.heap→P (Eb bt j) vb→s.heap.get? S=some {cls:=.type "list",dict:=none,data:=.seq #[vb,vb] c,slots:=#[] }→
  (∀v h' tk,P (Eb bt (n - 1)) v→(∀b o,b ∉ wr→b≠S→s.heap.get? b=some o→h'.get? b=some o)→R (.ok (.ret v)) {s with heap:=h',toks:=tk })→
  Gg (model prog w) A (.builtin "max.loop" ⟨[.ref I,.none,.ref S],[]⟩) R s:=by
 have nw:S ∉ wr:=fun h=>hSf (W.sub _ h)
 have nm:(GR "max"++GR ".loop":String)="max.loop":=by decide
 intro k
 induction k with
 |zero=>
  intro j s vb c hk hj g st pb hS hR
  obtain rfl:j+1=n:=by lia
  refine D_ G5 ?_
  rw[DD Ei _]
  show wpAny _ A.in1 (Im (.ref S) >>=_) _ _ s
  refine B0 (Ec hS rfl ?_)
  show wpAny _ A.in1 (IF (Gk (.ref I)) _ >>=_) _ _ s
  refine B0 (Fn (W.done s _ _ st fun h' tk kp=>?_))
  show wpAny _ A.in1 (Gn S (fun _=>#[]) >>=_) _ _ _
  refine B0 (DU (kp S _ nw hS) rfl (B0 (FE (B6 ?_))))
  exact hR vb _ tk pb fun b o hw hb e=>(CJ _ _ (Ne.symm hb)).trans (kp b o hw e)
 |succ k ih=>
  intro j s vb c hk hj g st pb hS hR
  refine D_ G5 ?_
  rw[DD Ei _]
  show wpAny _ A.in1 (Im (.ref S) >>=_) _ _ s
  refine B0 (Ec hS rfl ?_)
  show wpAny _ A.in1 (IF (Gk (.ref I)) _ >>=_) _ _ s
  refine B0 (Fn (W.item (j+1) s _ _ (by lia) st fun v h' tk pv st' kp=>?_))
  have g':G h':=stay _ _ g fun b o hw _ e=>kp b o hw e
  have hS':=kp S _ nw hS
  show wpAny _ A.in1 (IF (holding [v,v] (IE .Gt v vb >>=_)) _ >>=_) _ _ _
  refine B0 (Fn (DJ (B0 (hc (j+1) (Eb bt j) v vb _ _ _ g' pv pb ?_))))
  refine B0 (DJ (E5 (B0 (FE (B6 ?_)))))
  by_cases hb:bt (j+1) (Eb bt j)=true
  ·rw[if_pos hb]
   refine B0 (DU hS' rfl (B0 (FE ?_)))
   rw[nm]
   have oth:∀b o,b≠S→h'.get? b=some o→(h'.update S (Dx fun _=>#[v,v])).get? b=some o:=fun b o h e=>(CJ _ _ (Ne.symm h)).trans e
   refine B6 ⟨D6 Ei _,ih (j+1) _ v _ (by lia) (by lia) (stay _ _ g' fun b o _ h e=>oth b o h e) (W.frame _ _ _ st' fun b hf o e=>oth b o (fun h=>hSf (h ▸ hf)) e) (by rw[Eb,if_pos hb];exact pv) (Da _ hS' rfl) fun v2 h2 t2 p2 k2=>?_⟩
   exact hR v2 h2 t2 p2 fun b o hw h e=>k2 b o hw h (oth b o h (kp b o hw e))
  ·rw[if_neg hb]
   refine B0 (FE ?_)
   rw[nm]
   refine B6 ⟨D6 Ei _,ih (j+1) _ vb c (by lia) (by lia) g' st' (by rw[Eb,if_neg hb];exact pb) hS' fun v2 h2 t2 p2 k2=>?_⟩
   exact hR v2 h2 t2 p2 fun b o hw h e=>k2 b o hw h (kp b o hw e)
theorem oW (W:Walks prog w A.in1 I fp wr n P St) (hc:sD prog w A.in1 .Gt G P bt) (stay:∀h h':Heap,G h→(∀b o,b ∉ wr→b≠S→h.get? b=some o→h'.get? b=some o)→G h') (hSf:S ∉ fp) (hn:0 < n) {s:B7}{c:Nat} (g:G s.heap) (st:St 0 s.heap)
  (hS:s.heap.get? S=some {cls:=.type "list",dict:=none,data:=.seq #[] c,slots:=#[] })
  (hR:∀v h' tk,P (Eb bt (n - 1)) v→(∀b o,b ∉ wr→b≠S→s.heap.get? b=some o→h'.get? b=some o)→R (.ok (.ret v)) {s with heap:=h',toks:=tk }):
  Gg (model prog w) A (.builtin "max.loop" ⟨[.ref I,.none,.ref S],[]⟩) R s:=by
 have nw:S ∉ wr:=fun h=>hSf (W.sub _ h)
 have nm:(GR "max"++GR ".loop":String)="max.loop":=by decide
 refine D_ G5 ?_
 rw[DD Ei _]
 show wpAny _ A.in1 (Im (.ref S) >>=_) _ _ s
 refine B0 (Ec hS rfl ?_)
 show wpAny _ A.in1 (IF (Gk (.ref I)) _ >>=_) _ _ s
 refine B0 (Fn (W.item 0 s _ _ hn st fun v h' tk pv st' kp=>?_))
 have hS':=kp S _ nw hS
 show wpAny _ A.in1 (Gn S (fun _=>#[v,v]) >>=_) _ _ _
 refine B0 (DU hS' rfl ?_)
 rw[nm]
 have oth:∀b o,b≠S→h'.get? b=some o→(h'.update S (Dx fun _=>#[v,v])).get? b=some o:=fun b o h e=>(CJ _ _ (Ne.symm h)).trans e
 refine B6 ⟨D6 Ei _,t5 W hc stay hSf _ 0 _ v _ rfl hn (stay _ _ g fun b o hw h e=>oth b o h (kp b o hw e)) (W.frame _ _ _ st' fun b hf o e=>oth b o (fun h=>hSf (h ▸ hf)) e) pv (Da _ hS' rfl) fun v2 h2 t2 p2 k2=>?_⟩
 exact hR v2 h2 t2 p2 fun b o hw h e=>k2 b o hw h (oth b o h (kp b o hw e))
end
section
variable {prog:Cy}{w:World}{A:Dc}{E:Value→B7→Prop}{s:B7}
theorem call_maxG {l:Addr}{items:Array Value}{G:Heap→Prop}{bt:Nat→Nat→Bool}{Q:Value→B7→Prop} (hh:A.handled=none) (hl:s.heap.IsList l items) (hn:0 < items.size) (hc:sD prog w A.in1 .Gt G (fun i v=>items[i]?=some v) bt)
  (g:G s.heap) (stay:∀h h':Heap,G h→(∀b o,s.heap.get? b=some o→h.get? b=some o)→(∀b o,s.heap.get? b=some o→h'.get? b=some o)→G h')
  (hQ:∀v h' tk,items[Eb bt (items.size - 1)]?=some v→(∀b o,s.heap.get? b=some o→h'.get? b=some o)→Q v {s with heap:=h',toks:=tk }):
  wpAny (model prog w) A (call (.builtin "max") [.ref l]) Q E s:=by
 have nm:(GR "max"++GR ".loop":String)="max.loop":=by decide
 refine J5 PySem.F.kind_max PySem.F.plain_max PySem.F.entry_max (PySem.F.args_max1 _) ?_
 show wpAny _ A.in1 (Builtin.Builtins.bindParams "max" ["key","default"] 0 ⟨[],[]⟩ >>=_) _ _ s
 refine B0 (JO (show Builtin.Builtins.bindParams "max" ["key","default"] 0 ⟨[],[]⟩=pure [none,none] from rfl) ?_)
 refine B0 (B6 ?_)
 refine B0 (EM hl ?_)
 have hal:l < s.heap.objs.size:=by obtain ⟨o,e,_⟩:=hl;exact Cf e
 refine B0 (E6 ?_)
 rw[nm]
 have W:=Walks.list (prog:=prog) (w:=w) (A:=A.in1) hh s.heap.objs.size l (CP hal) items
 have up:∀b o,s.heap.get? b=some o→((s.heap.push {cls:=.type "list_iterator",data:=.fields #[.ref l,.int 0 0] }).push {cls:=.type "list",data:=.seq #[] }).get? b=some o:=fun b o e=>B5 _ (B5 _ e)
 have sI:(s.heap.push {cls:=.type "list_iterator",data:=.fields #[.ref l,.int 0 0] }).objs.size=s.heap.objs.size+1:=Em ..
 have lt:∀b o,s.heap.get? b=some o→b ∉ [s.heap.objs.size]∧b≠(s.heap.push {cls:=.type "list_iterator",data:=.fields #[.ref l,.int 0 0] }).objs.size:=fun b o e=>by
  have h:=Cf e
  refine ⟨fun z=>?_,fun z=>?_⟩
  ·rw[Ct.mp z] at h;exact CU _ h
  ·rw[z,sI] at h;exact CU _ (Ks h)
 refine B6 ⟨D6 Ei _,oW (G:=fun h=>G h∧∀b o,s.heap.get? b=some o→h.get? b=some o) W (fun i j vi vj s' Q' E' g'=>hc i j vi vj s' Q' E' g'.1) (fun h h' g' kp=>?_) ?_ hn ⟨stay _ _ g (fun _ _ e=>e) up,up⟩ ⟨⟨_,B5 _ (Cm _ rfl),rfl,rfl⟩,(hl.push _).push _⟩ (Cm _ rfl) fun v h' tk pv kp=>?_⟩
 ·have k2:∀b o,s.heap.get? b=some o→h'.get? b=some o:=fun b o e=>kp b o (lt b o e).1 (lt b o e).2 (g'.2 b o e)
  exact ⟨stay _ _ g'.1 g'.2 k2,k2⟩
 ·intro z
  have z':(s.heap.push {cls:=.type "list_iterator",data:=.fields #[.ref l,.int 0 0] }).objs.size∈[s.heap.objs.size,l]:=z
  rw[sI] at z'
  rcases Cd.mp z' with z |z
  ·exact absurd z (KN _)
  ·have e:=Ct.mp z
   rw[←e] at hal;exact absurd hal (KO (Ep _))
 ·exact hQ v h' tk pv fun b o e=>kp b o (lt b o e).1 (lt b o e).2 (up b o e)
end
end ST
namespace ST
open PySem PyProof.Rows
section
variable {prog:Cy}{w:World}{A:Dc}{E:Value→B7→Prop}{s:B7}
theorem ri {x y:Int}{t u:Tok}{Q:Value→B7→Prop} (h:Q (.bool (decide (x < y))) s):wpAny (model prog w) A (IE .Lt (.int x t) (.int y u)) Q E s:=
 Kt (op:=.Lt) (Jv s _ t) (Jv s _ u) PySem.F.slot_int_lt PySem.F.entry_int_lt (PySem.F.args_int_lt_2 _ _) (gives_int_lt _ _ t u) (fun x=>nomatch x) h
theorem uu {x y:Addr}{a b:Int×Int}{P:Fin→B7→Prop} (hx:TK prog w s.heap [a.1,a.2] x) (hy:TK prog w s.heap [b.1,b.2] y) (h:P (.done (.ret (.bool (ltP a b)))) s):
  wpAny (model prog w) A (Builtin.«tuple.__lt__» ⟨[.ref x,.ref y],[]⟩) P E s:=by
 have hTb:=hy.typeIs
 obtain ⟨o,its,n,t,u,ho,_,hd,hi⟩:=hx.two
 obtain ⟨o',its',n',t',u',ho',_,hd',hi'⟩:=hy.two
 show wpAny _ _ (isInstance (.ref y) (.type "tuple") >>=_) _ _ s
 refine B0 (Ff hTb Jp ?_)
 simp only[D5,Cn,if_false]
 refine B0 (GS ho hd ?_)
 refine B0 (GS ho' hd' ?_)
 have sz:its.size=its'.size:=by rw[←Cc,←Cc,hi,hi'];rfl
 rw[hi,hi']
 refine B0 ?_
 simp only[EF,Ku,FR,Hi]
 refine B0 (B0 ((Iy prog w).eqBool (a:=a.1) (b:=b.1) (ER _ _ _ _) (ER _ _ _ _) ?_))
 by_cases e1:a.1=b.1
 ·rw[decide_eq_true e1]
  simp only[D5,Cn,if_false]
  refine B6 ?_
  refine B0 (B0 ((Iy prog w).eqBool (a:=a.2) (b:=b.2) (ER _ _ _ _) (ER _ _ _ _) ?_))
  by_cases e2:a.2=b.2
  ·rw[decide_eq_true e2]
   simp only[D5,Cn,if_false]
   refine B6 (B6 ?_)
   have z:ltP a b=false:=by unfold ltP;simp;lia
   rw[z] at h
   refine B6 ?_
   show P (.done (.ret (.bool (decide (its.size < its'.size))))) s
   rw[sz,decide_eq_false (CU _)]
   exact h
  ·rw[decide_eq_false e2]
   simp only[Gm,if_true]
   have z:ltP a b=decide (a.2 < b.2):=by unfold ltP;rw[e1];simp
   rw[z] at h
   exact B0 (HH (B0 (ri (B0 (B6 (B6 (B6 (B6 h))))))))
 ·rw[decide_eq_false e1]
  simp only[Gm,if_true]
  have z:ltP a b=decide (a.1 < b.1):=by unfold ltP;simp[e1]
  rw[z] at h
  exact B0 (HH (B0 (ri (B0 (B6 (B6 (B6 (B6 h))))))))
theorem lt_ptsR {x y:Addr}{a b:Int×Int}{Q:Value→B7→Prop} (hu:A.units < cLine) (hx:TK prog w s.heap [a.1,a.2] x) (hy:TK prog w s.heap [b.1,b.2] y) (h:Q (.bool (ltP a b)) s):
  wpAny (model prog w) A (El .Lt (.ref x) (.ref y)) Q E s:=
 HK (op:=.Lt) hx.typeIs hy.typeIs Jq
  (DT Jq hx.typeIs PySem.F.entry_tuple_lt (uu hx hy ⟨_,rfl,(fun e=>nomatch e),h⟩) (PySem.F.args_tuple_lt_2 _ _)) hu
theorem qP {x y:Int}{t u:Tok}{Q:Value→B7→Prop} (h:Q (.bool (decide (y < x))) s):wpAny (model prog w) A (IE .Gt (.int x t) (.int y u)) Q E s:=
 Kt (op:=.Gt) (Jv s _ t) (Jv s _ u) PySem.F.slot_int_gt PySem.F.entry_int_gt (PySem.F.args_int_gt_2 _ _) (gives_int_gt _ _ t u) (fun x=>nomatch x) h
theorem wb {x y:Addr}{a b:Int×Int}{P:Fin→B7→Prop} (hx:TK prog w s.heap [a.1,a.2] x) (hy:TK prog w s.heap [b.1,b.2] y) (h:P (.done (.ret (.bool (ltP b a)))) s):
  wpAny (model prog w) A (Builtin.«tuple.__gt__» ⟨[.ref x,.ref y],[]⟩) P E s:=by
 have hTb:=hy.typeIs
 obtain ⟨o,its,n,t,u,ho,_,hd,hi⟩:=hx.two
 obtain ⟨o',its',n',t',u',ho',_,hd',hi'⟩:=hy.two
 show wpAny _ _ (isInstance (.ref y) (.type "tuple") >>=_) _ _ s
 refine B0 (Ff hTb Jp ?_)
 simp only[D5,Cn,if_false]
 refine B0 (GS ho hd ?_)
 refine B0 (GS ho' hd' ?_)
 have sz:its.size=its'.size:=by rw[←Cc,←Cc,hi,hi'];rfl
 rw[hi,hi']
 refine B0 ?_
 simp only[EF,Ku,FR,Hi]
 refine B0 (B0 ((Iy prog w).eqBool (a:=a.1) (b:=b.1) (ER _ _ _ _) (ER _ _ _ _) ?_))
 by_cases e1:a.1=b.1
 ·rw[decide_eq_true e1]
  simp only[D5,Cn,if_false]
  refine B6 ?_
  refine B0 (B0 ((Iy prog w).eqBool (a:=a.2) (b:=b.2) (ER _ _ _ _) (ER _ _ _ _) ?_))
  by_cases e2:a.2=b.2
  ·rw[decide_eq_true e2]
   simp only[D5,Cn,if_false]
   refine B6 (B6 ?_)
   have z:ltP b a=false:=by unfold ltP;simp;lia
   rw[z] at h
   refine B6 ?_
   show P (.done (.ret (.bool (decide (its.size >its'.size))))) s
   rw[sz,decide_eq_false (CU _)]
   exact h
  ·rw[decide_eq_false e2]
   simp only[Gm,if_true]
   have z:ltP b a=decide (b.2 < a.2):=by unfold ltP;rw[e1];simp
   rw[z] at h
   exact B0 (HH (B0 (qP (B0 (B6 (B6 (B6 (B6 h))))))))
 ·rw[decide_eq_false e1]
  simp only[Gm,if_true]
  have z:ltP b a=decide (b.1 < a.1):=by unfold ltP;simp[Ne.symm e1]
  rw[z] at h
  exact B0 (HH (B0 (qP (B0 (B6 (B6 (B6 (B6 h))))))))
theorem gt_ptsR {x y:Addr}{a b:Int×Int}{Q:Value→B7→Prop} (hu:A.units < cLine) (hx:TK prog w s.heap [a.1,a.2] x) (hy:TK prog w s.heap [b.1,b.2] y) (h:Q (.bool (ltP b a)) s):
  wpAny (model prog w) A (El .Gt (.ref x) (.ref y)) Q E s:=
 HK (op:=.Gt) hx.typeIs hy.typeIs Jr
  (DT Jr hx.typeIs PySem.F.entry_tuple_gt (wb hx hy ⟨_,rfl,(fun e=>nomatch e),h⟩) (PySem.F.args_tuple_gt_2 _ _)) hu
end
theorem ql {a b:Int×Int}:ltP a b=true↔(a.1 < b.1∨(a.1=b.1∧a.2 < b.2)):=by unfold ltP;exact decide_eq_true_iff
theorem ltP_no {a b:Int×Int}:ltP a b=false↔¬ (a.1 < b.1∨(a.1=b.1∧a.2 < b.2)):=by unfold ltP;exact decide_eq_false_iff_not
theorem ltP_one {a b:Int×Int} (h1:ltP a b=false) (h2:ltP b a=false):a=b:=by
 rw[ltP_no] at h1 h2
 obtain ⟨a1,a2⟩:=a
 obtain ⟨b1,b2⟩:=b
 simp only[Mh] at *
 lia
theorem best_min (f:Nat→Int×Int):∀k,Eb (fun i j=>ltP (f i) (f j)) k≤k∧∀j,j≤k→ltP (f j) (f (Eb (fun i j=>ltP (f i) (f j)) k))=false
 |0=>⟨B9 _,fun j hj=>by
  obtain rfl:j=0:=by lia
  rw[ltP_no];simp[Eb]⟩
 |k+1=>by
  obtain ⟨h1,h2⟩:=best_min f k
  by_cases hb:ltP (f (k+1)) (f (Eb (fun i j=>ltP (f i) (f j)) k))=true
  ·rw[Eb,if_pos hb]
   refine ⟨B9 _,fun j hj=>?_⟩
   rw[ql] at hb
   rcases D3 j (k+1) with z |z
   ·have:=ltP_no.mp (h2 j (by lia))
    rw[ltP_no];lia
   ·obtain rfl:j=k+1:=by lia
    rw[ltP_no];lia
  ·rw[Eb,if_neg hb]
   refine ⟨by lia,fun j hj=>?_⟩
   rcases D3 j (k+1) with z |z
   ·exact h2 j (by lia)
   ·obtain rfl:j=k+1:=by lia
    simpa using hb
theorem best_max (f:Nat→Int×Int):∀k,Eb (fun i j=>ltP (f j) (f i)) k≤k∧∀j,j≤k→ltP (f (Eb (fun i j=>ltP (f j) (f i)) k)) (f j)=false
 |0=>⟨B9 _,fun j hj=>by
  obtain rfl:j=0:=by lia
  rw[ltP_no];simp[Eb]⟩
 |k+1=>by
  obtain ⟨h1,h2⟩:=best_max f k
  by_cases hb:ltP (f (Eb (fun i j=>ltP (f j) (f i)) k)) (f (k+1))=true
  ·rw[Eb,if_pos hb]
   refine ⟨B9 _,fun j hj=>?_⟩
   rw[ql] at hb
   rcases D3 j (k+1) with z |z
   ·have:=ltP_no.mp (h2 j (by lia))
    rw[ltP_no];lia
   ·obtain rfl:j=k+1:=by lia
    rw[ltP_no];lia
  ·rw[Eb,if_neg hb]
   refine ⟨by lia,fun j hj=>?_⟩
   rcases D3 j (k+1) with z |z
   ·exact h2 j (by lia)
   ·obtain rfl:j=k+1:=by lia
    simpa using hb
end ST
namespace L2
open PySem PySem.Spec PyProof.Rows
section
variable {X:Cx}{pts:List P2}{M:P2}
theorem uh {pins:List (Addr×Obj)}{σ:List (Option V)}{H:Hp}{s:B7} (I:Inv X pins σ H s) {ws:List V}{its:List Value} (rv:aO ws its) (rs:Rps X.K H ws (pts.map pu)) (i:Nat) (y:Value) (hy:its.toArray[i]?=some y):
  i < pts.length∧∃c,y=.ref c∧ws[i]?=some (.ref c)∧∀prog w,ST.TK prog w s.heap [(pts.getD i (0,0)).1,(pts.getD i (0,0)).2] c:=by
 have hy':its[i]?=some y:=by simpa using hy
 have hll:ws.length=pts.length:=by rw[rs.len,B3]
 have hi:i < its.length:=aF hy'
 have hw:i < ws.length:=by rw[rv.length];exact hi
 have hq:i < pts.length:=by lia
 obtain ⟨u,e1,e2⟩:=rv.get (B1 hw)
 rw[hy'] at e1
 cases e1
 have r:=rs.at_ i _ (pu (pts.getD i (0,0))) (B1 hw) (by rw[Cb,B1 hq];simp[hq])
 obtain ⟨c,rfl,t⟩:=u0 I r e2
 refine ⟨hq,c,rfl,?_,t⟩
 rw[B1 hw]
 generalize ws[i]=z at *
 cases r
 cases e2
 rfl
theorem yQ {g:Nat} (hg:g < pts.length):(pts.map pu)[g]?=some (pu (pts.getD g (0,0))):=by
 rw[Cb,B1 hg];simp[hg]
theorem AE (hc:X.calm=true) (hu:X.A.units+10 < cLine) (hM:M∈pts) (hL:∀q∈pts,ST.ltP q M=false):gC X (.builtin "min") [lp pts] (pu M):=by
 intro pins s σ H vs us Q I r hq
 obtain ⟨O,d,rs,q⟩:=hq
 obtain ⟨v,rfl,h1⟩:=cB rs
 obtain ⟨p1,rfl,r1⟩:=fk r
 cases h1 with
 | @lst a ws _ hq hl hh=>
  cases r1
  obtain ⟨its,rv,pl,_⟩:=I.list (SqL.of (ax _ _ hq))
  have rs':Rps X.K (hid H O) ws (pts.map pu):=⟨hl,hh⟩
  have hlen:its.toArray.size=pts.length:=by rw[Cp,←rv.length,hl,B3]
  have hat:=uh (pts:=pts) I rv (rs'.same ax)
  have hn:0 < pts.length:=D4 hM
  refine ST.call_minG (G:=fun h=>∀(i:Nat) (y:Value),its.toArray[i]?=some y→∃c,y=.ref c∧ST.TK X.prog X.w h [(pts.getD i (0,0)).1,(pts.getD i (0,0)).2] c) (bt:=fun i j=>ST.ltP (pts.getD i (0,0)) (pts.getD j (0,0))) (I.ok.hd hc) pl.isList (by rw[hlen];exact hn) (fun i j vi vj s' Q' E' g hi hj k=>?_) (fun i y hy=>?_) (fun h h' _ _ k2 i y hy=>?_) fun y h' tk hy kp=>?_
  ·obtain ⟨c,rfl,t⟩:=g i vi hi
   obtain ⟨c',rfl,t'⟩:=g j vj hj
   exact ST.lt_ptsR (show X.A.units+1 < cLine by lia) t t' k
  ·obtain ⟨_,c,rfl,_,t⟩:=hat i y hy
   exact ⟨c,rfl,t _ _⟩
  ·obtain ⟨_,c,rfl,_,t⟩:=hat i y hy
   obtain ⟨o,items,n,ho,z⟩:=t X.prog X.w
   exact ⟨c,rfl,o,items,n,k2 c o ho,z⟩
  ·obtain ⟨hg,c,rfl,hw,t⟩:=hat _ y hy
   obtain ⟨b1,b2⟩:=ST.best_min (fun i=>pts.getD i (0,0)) (its.toArray.size - 1)
   have e:pts.getD (Eb (fun i j=>ST.ltP (pts.getD i (0,0)) (pts.getD j (0,0))) (its.toArray.size - 1)) (0,0)=M:=by
    rw[hlen] at b1 b2 hg ⊢
    generalize Eb (fun i j=>ST.ltP (pts.getD i (0,0)) (pts.getD j (0,0))) (pts.length - 1)=g at *
    obtain ⟨j,hj⟩:=DI.mp hM
    have k1:=b2 j (by have:=aF hj;lia)
    rw[show pts.getD j (0,0)=M by rw[CC,hj];rfl] at k1
    exact ST.ltP_one (hL _ (by simp[hg])) k1
   refine ⟨.ref c,H,I.kept (t':=tk) kp,rfl,q _ H (.refl H) ?_⟩
   have z:=rs'.at_ _ _ _ hw (yQ hg)
   rw[e] at z
   exact z
theorem Ag (hc:X.calm=true) (hu:X.A.units+10 < cLine) (hM:M∈pts) (hL:∀q∈pts,ST.ltP M q=false):gC X (.builtin "max") [lp pts] (pu M):=by
 intro pins s σ H vs us Q I r hq
 obtain ⟨O,d,rs,q⟩:=hq
 obtain ⟨v,rfl,h1⟩:=cB rs
 obtain ⟨p1,rfl,r1⟩:=fk r
 cases h1 with
 | @lst a ws _ hq hl hh=>
  cases r1
  obtain ⟨its,rv,pl,_⟩:=I.list (SqL.of (ax _ _ hq))
  have rs':Rps X.K (hid H O) ws (pts.map pu):=⟨hl,hh⟩
  have hlen:its.toArray.size=pts.length:=by rw[Cp,←rv.length,hl,B3]
  have hat:=uh (pts:=pts) I rv (rs'.same ax)
  have hn:0 < pts.length:=D4 hM
  refine ST.call_maxG (G:=fun h=>∀(i:Nat) (y:Value),its.toArray[i]?=some y→∃c,y=.ref c∧ST.TK X.prog X.w h [(pts.getD i (0,0)).1,(pts.getD i (0,0)).2] c) (bt:=fun i j=>ST.ltP (pts.getD j (0,0)) (pts.getD i (0,0))) (I.ok.hd hc) pl.isList (by rw[hlen];exact hn) (fun i j vi vj s' Q' E' g hi hj k=>?_) (fun i y hy=>?_) (fun h h' _ _ k2 i y hy=>?_) fun y h' tk hy kp=>?_
  ·obtain ⟨c,rfl,t⟩:=g i vi hi
   obtain ⟨c',rfl,t'⟩:=g j vj hj
   exact ST.gt_ptsR (show X.A.units+1 < cLine by lia) t t' k
  ·obtain ⟨_,c,rfl,_,t⟩:=hat i y hy
   exact ⟨c,rfl,t _ _⟩
  ·obtain ⟨_,c,rfl,_,t⟩:=hat i y hy
   obtain ⟨o,items,n,ho,z⟩:=t X.prog X.w
   exact ⟨c,rfl,o,items,n,k2 c o ho,z⟩
  ·obtain ⟨hg,c,rfl,hw,t⟩:=hat _ y hy
   obtain ⟨b1,b2⟩:=ST.best_max (fun i=>pts.getD i (0,0)) (its.toArray.size - 1)
   have e:pts.getD (Eb (fun i j=>ST.ltP (pts.getD j (0,0)) (pts.getD i (0,0))) (its.toArray.size - 1)) (0,0)=M:=by
    rw[hlen] at b1 b2 hg ⊢
    generalize Eb (fun i j=>ST.ltP (pts.getD j (0,0)) (pts.getD i (0,0))) (pts.length - 1)=g at *
    obtain ⟨j,hj⟩:=DI.mp hM
    have k1:=b2 j (by have:=aF hj;lia)
    rw[show pts.getD j (0,0)=M by rw[CC,hj];rfl] at k1
    exact ST.ltP_one k1 (hL _ (by simp[hg]))
   refine ⟨.ref c,H,I.kept (t':=tk) kp,rfl,q _ H (.refl H) ?_⟩
   have z:=rs'.at_ _ _ _ hw (yQ hg)
   rw[e] at z
   exact z
end
section
variable {X:Cx}{H0:Hp}{O0:List Addr}{ps:PSt}{xs:List U}{x:Str}{pos pc p':Pos}
end
section
variable {X:Cx}{H0:Hp}{O0:List Addr}{ps:PSt}{x:Str}{pos:Pos}{a b:Expr}{i j:Int}
theorem zk (hg:Gl X x) (h:∃t,X.mg x=some (.int i t)) (hd:(x==("__debug__":Str))=false:=by decide):Ev X H0 O0 ps (.Name x pos) (.int i):=by
 obtain ⟨t,hm⟩:=h
 exact PE.mono (yk (v:=.int i) hg hm ⟨t,rfl⟩ hd) fun _ H _ ⟨_,_,k⟩=>k _ H (.refl H) (.int i)
end
section
variable {X:Cx}{H0:Hp}{O0:List Addr}{ps:PSt}{e tg:Expr}{p pos:Pos}{xs:List U}{x:U}
end
section
variable {X:Cx}{H0:Hp}{O0:List Addr}{ps:PSt}{a b:Expr}{pos:Pos}{xs:List U}{u:U}{k:Int}
end
end L2
namespace L2
open PySem PySem.Spec PySem.W PyProof.Rows
section
variable {X:Cx}
def AN (i:Nat) (sp:Sp) (C:Addr) (ta:TA) (th:TS):TS:=fun D σ H=>ta σ H fun vs H1=>sp vs H1 (fun v H2=>D.nx (σ.set i (some v)) H2) fun cls _ H2=>cls=.ref C∧th D σ H2
theorem qz {k i:Nat}{fA C:Addr}{fd:CN}{ps:List Str}{sp:Sp}{f x y:Str}{e:Expr}{es:List Expr}{ta:TA}{th:TS}{b₀:Stmt}{suite:List Stmt}{p cpos epos np hpos pos yp:Pos}
  (hstk:X.stack=X.env::X.outer) (hfr:X.env.frame=some X.env.locals) (F:a_ X.prog X.w X.K X.mg X.base (CXF X.prog X.w) k fA fd ps sp) (hr:dc k X.A) (hg:Gl X f) (hm:X.mg f=some (.ref fA)) (hk:keepIn X.K (.ref fA)=true) (hb:aG X.K fd ps []) (ha:PA X.nox (e::es) ta)
  (hex:excIn X.K C [.type "ValueError",.type "Exception",.type "BaseException",.type "object"] "ValueError.__new__"=true) (hgx:Gl X x) (hmx:X.mg x=some (.ref C)) (hth:∀ea,PSs (gI X ea) (b₀::suite) th)
  (hN:X.N.Nodup) (hi:X.N[i]?=some y) (hy:Loc X.env.scope y) (hf:X.fn y=true∨X.env.scope.names.lookup y=some .local:=by first |exact .inl rfl |exact .inr rfl |assumption)
  (hdb:(f==("__debug__":Str))=false:=by decide) (hdx:(x==("__debug__":Str))=false:=by decide) (he:Ce (e::es) X.env=(false,eval e X.env)::Ce es X.env:=by rfl) (hpl:(Fp cpos (Ce es X.env)).any (·.1)=false:=by rfl)
  (hsw:Fv (.Call (.Name f p) (e::es) [] cpos) (some (.Name y yp)) epos.line X.env=pure false:=by rfl):
  PS X (.Try [.Assign [.Name y yp] (.Call (.Name f p) (e::es) [] cpos) epos] [.ExceptHandler (some (.Name x np)) none (b₀::suite) hpos] [] [] pos) (AN i sp C ta th):=by
 intro pins s σ H D I h
 refine wpAny_Try_except ?_
 refine KF (Kf (Q:=fun f s'=>match f with | .next=>wpAny (model X.prog X.w) X.A (execs [] X.env) (fun f s₁=>match f with | .next=>wpAny (model X.prog X.w) X.A (execs [] X.env) (SP X pins D) X.xe s₁ |f=>SP X pins D f s₁) _ s' |f=>_) ?_ hsw)
 refine DM (hV I hg hm ?_ hdb)
 refine JT (h₀:=X.base) I.ok.mod.kin hk (E4 (ha cpos pins s σ H _ (I.wish _) h) (fun us s1 ⟨vs,H1,I1,r,q⟩=>⟨I1.kIn,?_⟩) fun _ _ z=>z.elim) he hpl
 have J1:Inv X pins σ H1 s1:=I1.unwish
 have hl:us.length=ps.length:=by rw[←r.length];exact F.len _ _ _ _ q
 have hbd:=hb s1 us J1.kIn (by rw[DG];exact hl)
 rw[DG] at hbd
 refine L6 (Gv (F.run X.A X.stack s1 H1 ⟨us,[]⟩ us vs _ _ hr J1.env0 hbd r q) fun res s' hq=>?_)
 cases res with
 |ok fl=>
  cases fl with
  |ret u=>
   obtain ⟨v,H2,I2,rv,q2⟩:=J1.after hq
   exact jJ I2 hN hi hy rv (fun s2 I3=>GE (GE ⟨_,H2,I3,q2⟩)) hf
  |next=>exact False.elim hq
  |brk=>exact False.elim hq
  |cont=>exact False.elim hq
 |error ev=>
  obtain ⟨ea,cls,a0,B,H',rfl,os,bare,un,hok,hea,k1,k2,k3,fl,rfl,hT⟩:=hq
  have hfrs:=J1.ok.frames
  rw[hstk] at hfrs fl
  refine wpAny_looks_onW hfrs hfr fl fun h4 held4 up4=>?_
  refine wpAny_landsW held4 fun h5 fl5 up5=>?_
  have ffr:∀b∈frs X.stack,∀o,s1.heap.get? b=some o→∀vs,o.data≠.fields vs:=m7 J1.stack
  have inv:∀h6,B.StaysIn h6→s'.heap.UpToSlots h6→Inv X pins σ H' {s' with heap:=h6 }:=fun h6 st up=>
   J1.call' (s':={s' with heap:=h6 }) (ch:=[]) os (Ab un k1 k3 st up ffr J1.stkFree) (my hok k2 fl.1 st) bare (fun b z=>absurd z (by simp))
  have I5:=inv h5 fl5.1 (up4.trans up5)
  have O:=r8 I5.ok.mod.kin hmx hex
  obtain ⟨tl,NN,nm,q',bs,hdct,sn,sub,ab,col,dd,j0,j1,j2,j3,j5,mN,hC,hN',hni,T⟩:=O.obj
  refine wpAny_handleBy_cons (codeAny_handlers_test (hV (X:=gI X ea) (I5.hand ea) hgx hmx ?_ hdx)) (by intro z;cases z)
  obtain ⟨oe,hoe,hcls⟩:=fl5.there
  refine wpAny_excMatches_sub_self (I5.bk _ _ hC) hoe hcls (T.hasType Gf.hasBase) ?_
  refine codeAny_handlers_suite (lands_againW fl5 fun h6 fl6 up6=>?_)
  have I6:=inv h6 fl6.1 ((up4.trans up5).trans up6)
  exact E4 (hth ea pins _ σ H' D (I6.hand ea) hT) (fun f s2 z=>z.unhand I.ok.hd) fun _ _ z=>z.elim
end
end L2
namespace L2
open PySem PySem.Spec PyProof.Rows
section
variable {X:Cx}{H0:Hp}{O0:List Addr}{E:XK}{ps ps':PSt}{D:PD}{s:Stmt}{ss body:List Stmt}{a b c e:Expr}{es:List Expr}{pos p:Pos}{u x y:U}{xs ys us:List U}{k:Bool}
 {CX:CXT}{n:Nat}{f C:Addr}{fd:CN}{pn:List Str}{spec:List U→Out→Prop}{nm:Str}
theorem vy {i:Nat}{fA:Addr}{x f y:Str}{b₀:Stmt}{suite:List Stmt}{p cpos epos np hpos pos yp:Pos}
  (hstk:X.stack=X.env::X.outer) (hfr:X.env.frame=some X.env.locals) (F:a_ X.prog X.w X.K X.mg X.base (CXF X.prog X.w) n fA fd pn (spU X.K spec)) (hr:dc n X.A) (hg:Gl X f) (hm:X.mg f=some (.ref fA)) (hk:Cj X.K (.ref fA)=true) (hb:aG X.K fd pn []) (ha:EvA X.nox H0 O0 ps (e::es) us)
  (hex:Fh X.K C [.type "ValueError",.type "Exception",.type "BaseException",.type "object"] "ValueError.__new__"=true) (hgx:Gl X x) (hmx:X.mg x=some (.ref C)) (hsp:spec us (.exc C)) (hN:X.N.Nodup) (hi:X.N[i]?=some y) (hy:Loc X.env.scope y) (h:∀ea,Ws (gI X ea) H0 O0 E (b₀::suite) D ps)
  (hf:X.fn y=true∨X.env.scope.names.lookup y=some .local:=by first |exact .inl rfl |exact .inr rfl |assumption)
  (hdb:(f==("__debug__":Str))=false:=by decide) (hdx:(x==("__debug__":Str))=false:=by decide) (he:Ce (e::es) X.env=(false,eval e X.env)::Ce es X.env:=by rfl) (hpl:(Fp cpos (Ce es X.env)).any (·.1)=false:=by rfl)
  (hsw:Fv (.Call (.Name f p) (e::es) [] cpos) (some (.Name y yp)) epos.line X.env=pure false:=by rfl):
  W1 X H0 O0 E (.Try [.Assign [.Name y yp] (.Call (.Name f p) (e::es) [] cpos) epos] [.ExceptHandler (some (.Name x np)) none (b₀::suite) hpos] [] [] pos) D ps:=
 PS.mono (qz (th:=fun D' σ H=>Lf X.K H0 O0 E D D'∧∃O,Rs X.K H0 O0 ps σ H O) hstk hfr F hr hg hm hk hb ha hex hgx hmx (fun ea=>h ea) hN hi hy hf hdb hdx he hpl hsw) fun D' σ H ⟨L,O,R⟩=>⟨O,R,fun vs H1 s1 r1=>⟨us,O,.exc C,(R.go s1).dom,r1,hsp,fun H2 s2=>⟨rfl,L,O,R.go (s1.trans s2)⟩⟩⟩
end
theorem Rs.free {K:B2}{H0 H:Hp}{O0 O:List Addr}{ps:PSt}{σ:St}{xs:List U} (n:Nat) (h:ps[n]?=some (some (.own xs))) (R:Rs K H0 O0 ps σ H O):∃O',(∀b∈O',b∈O)∧Rs K H0 O0 (ps.set n (some (.val (.lst xs)))) σ H O':=by
 obtain ⟨v,hv,a,vs,rfl,ha,ha0,hH,rs⟩:=R.at_ n _ h
 have less:∀b∈O.filter (fun b=>decide (b≠a)),b∈O:=fun b hb=>(CS.mp hb).1
 have keep:∀b∈O,b≠a→b∈O.filter (fun b=>decide (b≠a)):=fun b hb ne=>CS.mpr ⟨hb,by simpa using ne⟩
 have sm:aK (hid H O) (hid H (O.filter (fun b=>decide (b≠a)))):=dh less
 have na:a ∉ O.filter (fun b=>decide (b≠a)):=fun z=>by have:=(CS.mp z).2;simp at this
 refine ⟨O.filter (fun b=>decide (b≠a)),less,R.same,fun b hb=>keep b (R.old b hb) fun e=>ha0 (e ▸ hb),fun b hb=>R.new b (less b hb),fun b hb=>R.dom b (less b hb),by rw[R.len,GJ],fun i s hs=>?_,fun i j ys zs b h1 h2 h3 h4=>?_⟩
 ·rcases dz hs with ⟨rfl,e⟩ |⟨ne,hs⟩
  ·cases e
   exact ⟨.ref a,hv,.lst (dy hH na) (rs.same sm).len (rs.same sm).at_⟩
  ·obtain ⟨w,hw,ok⟩:=R.at_ i s hs
   refine ⟨w,hw,?_⟩
   cases s with
   |val u=>exact Rp.same sm ok
   |own ys=>
    obtain ⟨b,ws,rfl,hb,hb0,hHb,rsb⟩:=ok
    refine ⟨b,ws,rfl,keep b hb fun e=>?_,hb0,hHb,rsb.same sm⟩
    subst e
    exact ne (R.inj n i _ _ b h hs hv hw)
   |pin z u=>exact ⟨ok.1,Rp.same sm ok.2⟩
 ·rcases dz h1 with ⟨_,e⟩ |⟨_,h1⟩
  ·cases e
  ·rcases dz h2 with ⟨_,e⟩ |⟨_,h2⟩
   ·cases e
   ·exact R.inj i j _ _ b h1 h2 h3 h4
section
variable {X:Cx}{H0:Hp}{O0:List Addr}{E:XK}{ps:PSt}{D:PD}{ss:List Stmt}{e:Expr}{xs:List U}{b:Bool}
theorem mZ (n:Nat) (h:ps[n]?=some (some (.own xs))) (w:Ws X H0 O0 E ss D (ps.set n (some (.val (.lst xs))))):Ws X H0 O0 E ss D ps:=
 PSs.mono w fun D' σ H ⟨L,O,R⟩=>by
  obtain ⟨O',_,R'⟩:=R.free n h
  exact ⟨L,O',R'⟩
end
section
variable {X:Cx}{ns:List Int}{M:Int}
theorem mX (hc:X.calm=true) (hM:M∈ns∧∀a∈ns,a≤M):gC X (.builtin "max") [.lst (ns.map U.int)] (.int M):=by
 intro pins s σ H vs us Q I r hq
 obtain ⟨O,d,rs,q⟩:=hq
 obtain ⟨v,rfl,h1⟩:=cB rs
 obtain ⟨p1,rfl,r1⟩:=fk r
 cases h1 with
 | @lst a ws _ hq hl hh=>
  cases r1
  obtain ⟨its,rv,pl,_⟩:=I.list (SqL.of (ax _ _ hq))
  have hlen:its.length=ns.length:=by rw[←rv.length,hl,B3]
  have hat:=j4 (ns:=ns) rv ⟨hl,hh⟩
  have hn:0 < ns.length:=D4 hM.1
  refine call_max_walk (EM pl.isList ?_)
  have hal:a < s.heap.objs.size:=by obtain ⟨o,e,_⟩:=pl.isList;exact Cf e
  refine ⟨s.heap.objs.size,_,_,_,_,_,_,rfl,Walks.list (A:=X.A.in1) (I.ok.hd hc) s.heap.objs.size a (CP hal) its.toArray,⟨⟨_,Cm _ rfl,rfl,rfl⟩,pl.isList.push _⟩,fun b hb=>?_,by rw[Cp,hlen];exact hn,CmpOf.ints_gt (fun i=>ns.getD i 0) hat,fun v h' tk hP hk=>?_⟩
  ·show b < (s.heap.push _).objs.size
   rw[Em]
   rcases Cd.mp hb with z |z
   ·rw[z];exact Ep _
   ·rw[Ct.mp z];exact Ew hal
  ·obtain ⟨t,rfl⟩:=hat _ _ hP
   obtain ⟨b1,b2⟩:=argBest_gt (fun i=>ns.getD i 0) (its.toArray.size - 1)
   have e:ns.getD (Eb (fun i j=>decide (ns.getD i 0 >ns.getD j 0)) (its.toArray.size - 1)) 0=M:=by
    rw[Cp,hlen] at b1 b2 ⊢
    generalize Eb (fun i j=>decide (ns.getD i 0 >ns.getD j 0)) (ns.length - 1)=g at *
    have hg:g < ns.length:=by lia
    obtain ⟨j,hj,ej⟩:=DP hM.1
    have k1:=b2 j (by lia)
    have k2:=hM.2 ns[g] (Dm hg)
    simp only[CC,B1 hg,B1 hj,FI] at k1 ⊢
    lia
   rw[e]
   refine ⟨.int M,H,I.kept (t':=tk) fun b o e=>hk b o ?_ (B5 _ e),⟨t,rfl⟩,q _ H (.refl H) (.int _)⟩
   intro z
   have:b=s.heap.objs.size:=by simpa using z
   exact absurd (Cf e) (by rw[this];exact CU _)
end
section
variable {X:Cx}{H0:Hp}{O0:List Addr}{E:XK}{ps:PSt}{D:PD}{e:Expr}{pos:Pos}{xs ys:List U}
theorem wt (i:Nat) {x:Str}{apos cpos xp:Pos} (hp:ps[i]?=some (some (.own xs))) (ha:Ev X H0 O0 ps e (.lst ys)) (hz:xs.length+ys.length≤sizeLine) (h:D.nx (ps.set i (some (.own (xs++ys)))))
  (hN:X.N[i]?=some x:=by rfl) (hv:Vis X.env.scope x:=by first |exact Or.inl rfl |exact Or.inr (Or.inl rfl) |exact Or.inr (Or.inr rfl)) (hd:(x==("__debug__":Str))=false:=by decide) (hcd:(x==("__classdict__":Str))=false:=by decide)
  (hbase:HC (.Name x xp) "extend" X.env (eval (.Name x xp) X.env)=eval (.Name x xp) X.env:=by rfl)
  (hfew:((Fp cpos (Ce [e] X.env)).all (fun x=>!x.1) && (backToKw cpos (K4 [] X.env)).all (fun x=>x.1.isSome) && decide ([e].length+([]:List JM).length+(if ([]:List JM).isEmpty then 0 else 1) < 30))=true:=by rfl)
  (hline:(apos.endLine==cpos.line)=true:=by rfl) (hse:Ce [e] X.env=(false,eval e X.env)::Ce [] X.env:=by rfl) (hplain:(Fp cpos (Ce [] X.env)).any (·.1)=false:=by rfl)
  (hs:Fv (.Call (.Attribute (.Name x xp) "extend" apos) [e] [] cpos) none pos.line X.env=pure false:=by rfl):W1 X H0 O0 E (.Expr (.Call (.Attribute (.Name x xp) "extend" apos) [e] [] cpos) pos) D ps:=
 PS.mono (gY (yM GM PySem.F.slot_list_extend PySem.F.type_list_extend tq (fH hN hv hd hcd) (dg ha fQ hse) hbase hfew hline hse hplain) hs) fun D' σ H ⟨L,O,R⟩=>by
  obtain ⟨v,h1,a,vs,rfl,h3,h4,h5,h6⟩:=R.at_ i _ hp
  refine ⟨_,h1,.inl ⟨rfl,_,SqL.of h5⟩,O,R,fun w H' s r=>?_⟩
  cases r with
  | @lst b zs _ hq hl hh=>
   refine ⟨a,b,vs,zs,rfl,rfl,s _ _ h5,ax _ _ hq,by rw[h6.len,hl];exact hz,?_⟩
   exact L.nx _ _ _ O ((R.go s).write hp h1 ((h6.same (bi s)).snoc ⟨hl,hh⟩)) h
end
end L2
namespace L2
open PySem PySem.Spec PySem.W PyProof.Rows
section
variable {X:Cx}
end
section
variable {X:Cx}{H0:Hp}{O0:List Addr}{E:XK}{ps:PSt}{D:PD}{a e:Expr}{es:List Expr}{us:List U}{k:Bool}{n:Nat}{fd:CN}{pn:List Str}{spec:List U→Out→Prop}
end
end L2
namespace L2
open PySem PySem.Spec PyProof.Rows
section
variable {X:Cx}{H0:Hp}{O0:List Addr}{ps:PSt}{a b:Expr}{p:P2}{l:List P2}
end
end L2
namespace ST
open PySem PySem.W PySem.Calls PyProof.Rows
section
variable {prog:Cy}{w:World}{A:Dc}{E:Value→B7→Prop}{s:B7}
end
end ST
namespace L2
open PySem PySem.Spec PyProof.Rows
section
variable {X:Cx}{H0:Hp}{O0:List Addr}{ps:PSt}{e:Expr}{p pos:Pos}{a b:P2}
end
end L2
namespace ST
open PySem PySem.W PySem.Calls PyProof.Rows
section
variable {prog:Cy}{w:World}{A:Dc}{E:Value→B7→Prop}{s:B7}
end
end ST
namespace L2
open PySem PySem.Spec PyProof.Rows
section
variable {X:Cx}{H0:Hp}{O0:List Addr}{ps:PSt}{e:Expr}{pts:List P2}{pos p:Pos}
end
end L2
namespace L2
open PySem PySem.Spec PySem.W PyProof.Rows
section
variable {X:Cx}
end
section
variable {X:Cx}{H0:Hp}{O0:List Addr}{E:XK}{ps:PSt}{D:PD}{a e:Expr}{es:List Expr}{us:List U}{k:Bool}{n:Nat}{fd:CN}{pn:List Str}{spec:List U→Out→Prop}
end
structure wk (K:B2) (x qual:Str) (st:Stmt) (f:Addr) (fd:CN) (D:Addr):Prop where
 ex:∃(oc:Value) (od:Option Addr) (kV doc pm:Value) (an:Option Addr) (cdv ct:Value) (osl:Array (Option Value)),
  fd=CB x qual (av st) (au st) (ai st) (.ref D) kV doc pm an cdv ct∧K.lookup f=some ⟨oc,od,.func fd,osl⟩∧Cv K cdv qual=true
 kp:Cj K (.ref f)=true
theorem w4 {K:B2}{x qual:Str}{st:Stmt}{f D:Addr}{oc:Value}{od an:Option Addr}{osl:Array (Option Value)}{kV doc pm cdv ct:Value} (l:K.lookup f=some ⟨oc,od,.func (CB x qual (av st) (au st) (ai st) (.ref D) kV doc pm an cdv ct),osl⟩)
  (c:Cv K cdv qual=true) (k:Cj K (.ref f)=true):wk K x qual st f (CB x qual (av st) (au st) (ai st) (.ref D) kV doc pm an cdv ct) D:=⟨⟨oc,od,kV,doc,pm,an,cdv,ct,osl,rfl,l,c⟩,k⟩
section
variable {P:Cy}{w:World}{K:B2}{mg:Str→Option Value}{base:Heap}{N pn:List Str}{qual nm:Str}{f D:Addr}
theorem wk.okF {x:Str}{st:Stmt}{fd:CN}{k:Nat}{sp:Sp} (F:wk K x qual st f fd D) (S:aw N pn (ai st)) (len:∀vs H Q E,sp vs H Q E→vs.length=pn.length)
  (hbody:∀(cdv:Value) (A:Dc) (outer:List Env) (s:B7) (H:Hp) (vs:List V) (Q:VK) (E:XK),dc k (A.deeper (Gw qual (ai st) s.heap.objs.size f cdv))→sp vs H Q E→
   ∃t,PSs (dY (CXF P w) P w K mg base N qual (ai st) f cdv A outer s H E) (au st) t∧t {nx:=fun _ H'=>Q .non H',rt:=Q } (start N vs) H):a_ P w K mg base (CXF P w) (k+1) f fd pn sp:=by
 obtain ⟨oc,od,kV,doc,pm,an,cdv,ct,osl,rfl,lk,hcd⟩:=F.ex
 exact yU lk hcd S len fun A outer s H vs Q E hr hsp=>hbody cdv A outer s H vs Q E hr hsp
theorem zD {st:Stmt}{fd:CN}{k:Nat}{spec:List U→Out→Prop} (F:wk K nm qual st f fd D) (S:aw N pn (ai st)) (len:∀us o,spec us o→us.length=pn.length)
  (hbody:∀(cdv:Value) (A:Dc) (outer:List Env) (s:B7) (H:Hp) (E:XK) (O:List Addr) (us:List U) (o:Out),dc k (A.deeper (Gw qual (ai st) s.heap.objs.size f cdv))→spec us o→
   Ws (dY (CXF P w) P w K mg base N qual (ai st) f cdv A outer s H E) H O E (au st) ⟨fun _=>o=.val .non,fun o'=>o'=o,fun _=>False,fun _=>False⟩ (fD N us)):a_ P w K mg base (CXF P w) (k+1) f fd pn (spU K spec):=by
 refine F.okF S (fun vs H Q E h=>?_) fun cdv A outer s H vs Q E hr h=>?_
 ·obtain ⟨us,O,o,_,r,hsp,_⟩:=h
  rw[r.len];exact len us o hsp
 ·obtain ⟨us,O,o,d,r,hsp,q⟩:=h
  refine ⟨_,hbody cdv A outer s H E O us o hr hsp,⟨fun ps σ H' O' R e=>?_,fun _ _ _ _ _ e=>e.elim,fun _ _ _ _ _ e=>e.elim,fun o' e=>by subst e;exact q⟩,O,?_⟩
  ·subst e;exact q .non H' R.same .non
  ·refine ⟨.refl H,fun a h=>h,fun a h=>.inl h,d,?_,fun i sl e=>?_,fun i j xs ys a e1 e2 _ _=>?_⟩
   ·unfold start fD
    rw[CW,CW,B3,B3,Fg,Fg,r.len]
   ·unfold fD at e
    by_cases hi:i < us.length
    ·rw[CF (by simpa using hi),Cb,B1 hi] at e
     cases e
     obtain ⟨v,h1,h2⟩:=r.get (B1 hi)
     refine ⟨v,?_,h2⟩
     unfold start
     rw[CF (by simpa [r.len] using hi),Cb,h1];rfl
    ·rw[CG (by simpa using hi),E1] at e
     split at e <;>cases e
   ·exfalso
    unfold fD at e1
    by_cases hi:i < us.length
    ·rw[CF (by simpa using hi),Cb,B1 hi] at e1
     cases e1
    ·rw[CG (by simpa using hi),E1] at e1
     split at e1 <;>cases e1
end
section
variable {X:Cx}{H0:Hp}{O0:List Addr}{ps:PSt}{e:Expr}{es:List Expr}{pos p:Pos}{u:U}{us:List U}{xs:List U}{CX:CXT}{n:Nat}{f:Addr}{fd:CN}{pn:List Str}{spec:List U→Out→Prop}{nm:Str}{j:Int}
theorem qE (F:a_ X.prog X.w X.K X.mg X.base CX n f fd pn (spU X.K spec)) (hr:dc n X.A) (hg:Gl X nm) (hm:X.mg nm=some (.ref f)) (hk:Cj X.K (.ref f)=true) (hb:∃t,aG X.K fd pn [.int j t]) (hx:e8 CX X E0)
  (ha:EvA X H0 O0 ps (e::es) us) (h:spec (us++[.int j]) (.val u)) (hdb:(nm==("__debug__":Str))=false:=by decide) (he:Ce (e::es) X.env=(false,eval e X.env)::Ce es X.env:=by rfl) (hpl:(Fp pos (Ce es X.env)).any (·.1)=false:=by rfl):
  Ev X H0 O0 ps (.Call (.Name nm p) (e::es) [] pos) u:=by
 obtain ⟨t,hb⟩:=hb
 refine PE.mono (h_ F hr hg hm hk hb (.cons (show bg (.int j) (.int j t) from ⟨t,rfl⟩) .nil) hx ha hdb he hpl) fun σ H Q ⟨O,R,q⟩=>⟨O,R,fun vs H1 s1 r1=>?_⟩
 show spU X.K spec (vs++[.int j]) H1 Q _
 exact ⟨us++[.int j],O,.val u,(R.go s1).dom,r1.snoc (.cons (.int _) .nil),h,fun v H2 s2 r2=>q v H2 (s1.trans s2) r2⟩
end
end L2
namespace L2
open PySem PySem.Spec PyProof.Rows
section
variable {X:Cx}{H0:Hp}{O0:List Addr}{ps:PSt}{a b:Expr}{k:Int}{ns:List Int}
end
theorem sF {P:Cy}{w:World}{K:B2}{tg:Expr} (it:Addr) (lo:Int) (n:Nat):wo P w K tg (Itr lo n) [it] it (fun i h=>IsLongIter h it (lo+(i:Nat) *1) ((n:Int) - (i:Nat)) 1) where
 mem:=by simp
 obj:=fun i h st b hb=>by
  have e:b=it:=by simpa using hb
  subst e
  exact ⟨_,st,fun v z=>by
   have z':Data.fields _=Data.cell v:=z
   cases z'⟩
 keep:=fun i h h' st k=>k it (by simp) _ st
 item:=by
  intro X hP hw hK hc i pins s σ H E I hf st hg
  subst hP hw hK
  obtain ⟨f0,f1,f2,f3,f4,f5⟩:=hf it (by simp)
  have W:=Walks.longrange (prog:=X.prog) (w:=X.w) (I.ok.hd hc) it lo 1 n
  refine W.item i s _ _ hg st fun v h' tk hv st' kk=>?_
  obtain ⟨t,rfl⟩:=hv
  have I1:Inv X pins σ H {s with heap:=h',toks:=tk }:=I.turned (fun b o hb e=>kk b o (by simpa using hb) e) f0 f1 f3 f4 f5
  refine ⟨_,rfl,rV (s:={s with heap:=h',toks:=tk }) (n:="longrange_iterator") st' rfl rfl (by decide) ⟨.int (lo+i),H,I1,⟨t,?_⟩,⟨rfl,rfl⟩,st',fun b hb=>(hf b hb).1⟩⟩
  rw[IA]
 done:=by
  intro X hP hw hK hc i pins s σ H E I hf st hg
  subst hP hw hK
  obtain ⟨f0,f1,f2,f3,f4,f5⟩:=hf it (by simp)
  exact wpAny_pyNext_long_end (I.ok.hd hc) st (by have:n≤i:=hg;lia) fun h' eb=>⟨rfl,I.turned (t':=s.toks) (fun b o hb e=>eb b o hb e) f0 f1 f3 f4 f5⟩
 self:=fun _ _ _ _ _ st h=>wpAny_pyIter_longiter st h
section
variable {X:Cx}{tg:Expr}
theorem lE {pins:List (Addr×Obj)}{σ:St}{H:Hp}{s:B7}{R:It→Hp→Prop}{E:Value→B7→Prop}{lo hi:Int}{t u v:Tok}{tk:Nat} (I:Inv X pins σ H s)
  (q:R (Itr lo (hi - lo).toNat) H):wpAny (model X.prog X.w) X.A (KY (.ref s.heap.objs.size)) (PIE X pins σ tg R) E {s with heap:=s.heap.push {cls:=.type "range",data:=.fields #[.int lo t,.int hi u,.int 1 v] },toks:=tk }:=by
 have I1:Inv X pins σ H {s with heap:=s.heap.push {cls:=.type "range",data:=.fields #[.int lo t,.int hi u,.int 1 v] },toks:=tk }:=I.kept fun b o e=>B5 _ e
 have e1:lo+((0:Nat):Int) *1=lo:=by simp
 have e2:(((hi - lo).toNat:Nat):Int) - ((0:Nat):Int)=Builtin.Range.rangeSize lo hi 1:=by rw[rangeSize_one];split <;>lia
 by_cases hs:Builtin.Range.small lo hi 1=true
 ·refine JR (IsRange.new ..) hs ?_
  refine ⟨(s.heap.push {cls:=.type "range",data:=.fields #[.int lo t,.int hi u,.int 1 v] }).objs.size,[(s.heap.push {cls:=.type "range",data:=.fields #[.int lo t,.int hi u,.int 1 v] }).objs.size],_,_,H,rfl,
   I1.kept (t':=tk) fun b o e=>B5 _ e,jt _ lo (hi - lo).toNat,?_,fun b hb=>?_,q⟩
  ·show KZ _ _ (lo+((0:Nat):Int) *1) ((((hi - lo).toNat:Nat):Int) - ((0:Nat):Int)) 1
   rw[e1,e2]
   exact Cm _ rfl
  ·have e:b=(s.heap.push {cls:=.type "range",data:=.fields #[.int lo t,.int hi u,.int 1 v] }).objs.size:=by simpa using hb
   subst e
   exact I1.fpOk (B9 _) (I1.hok.fresh (B9 _))
 ·refine wpAny_pyIter_longrange (IsRange.new ..) (by simpa using hs) ?_
  refine ⟨(s.heap.push {cls:=.type "range",data:=.fields #[.int lo t,.int hi u,.int 1 v] }).objs.size,[(s.heap.push {cls:=.type "range",data:=.fields #[.int lo t,.int hi u,.int 1 v] }).objs.size],_,_,H,rfl,
   I1.kept (t':=tk) fun b o e=>B5 _ e,sF _ lo (hi - lo).toNat,?_,fun b hb=>?_,q⟩
  ·show IsLongIter _ _ (lo+((0:Nat):Int) *1) ((((hi - lo).toNat:Nat):Int) - ((0:Nat):Int)) 1
   rw[e1,e2]
   exact Cm _ rfl
  ·have e:b=(s.heap.push {cls:=.type "range",data:=.fields #[.int lo t,.int hi u,.int 1 v] }).objs.size:=by simpa using hb
   subst e
   exact I1.fpOk (B9 _) (I1.hok.fresh (B9 _))
def z_ (ta:TA):TI:=fun σ H R=>ta σ H fun vs H1=>∃i j:Int,vs=[.int i,.int j]∧R (Itr i (j - i).toNat) H1
theorem pT {a b:Expr}{ta:TA}{p pos:Pos} (hg:Gl X "range") (hm:X.mg "range"=none) (ha:PA X [a,b] ta) (hs:Ce [a,b] X.env=[(false,eval a X.env),(false,eval b X.env)]:=by rfl) (hs2:Ce [b] X.env=[(false,eval b X.env)]:=by rfl):
  PI X tg (.Call (.Name "range" p) [a,b] [] pos) (z_ ta):=by
 intro pins s σ H R I h
 refine Call_ (c_ I hg hm LR (PyProof.Rows.callWith_type1 (thn (ha pos pins s σ H _ I h) fun us s1 ⟨vs,H1,I1,r1,q1⟩=>?_) (by rw[hs,hs2]) (by rw[hs2];rfl)))
 obtain ⟨i,j,e,q⟩:=q1
 subst e
 cases r1 with
 |cons r rr=>
  cases rr with
  |cons r' rr=>
   cases rr
   obtain ⟨t,rfl⟩:=r
   obtain ⟨t',rfl⟩:=r'
   exact call_range_2 (lE I1 q)
variable {H0:Hp}{O0:List Addr}{ps:PSt}{a b:Expr}{p pos:Pos}
theorem io {i j:Int} (hg:Gl X "range") (hm:X.mg "range"=none) (ha:EvA X H0 O0 ps [a,b] [.int i,.int j]) (hs:Ce [a,b] X.env=[(false,eval a X.env),(false,eval b X.env)]:=by rfl) (hs2:Ce [b] X.env=[(false,eval b X.env)]:=by rfl):
  EvI X H0 O0 ps tg (.Call (.Name "range" p) [a,b] [] pos) (e7 i (j - i).toNat):=
 PI.mono (pT hg hm ha hs hs2) fun σ H Q ⟨O,R,q⟩=>⟨O,R,fun vs H' s r=>by
  obtain ⟨v,w,rfl,k1,k2⟩:=qY r
  cases k1;cases k2
  exact ⟨i,j,rfl,q _ H' s jv⟩⟩
end
section
variable {X:Cx}{H0:Hp}{O0:List Addr}{E:XK}{ps ps':PSt}{D:PD}{tg iter cond:Expr}{pos p:Pos}{xs:List U}
end
section
variable {X:Cx}{H0:Hp}{O0:List Addr}{ps:PSt}{e:Expr}{ns:List Int}{pos p:Pos}
end
section
variable {X:Cx}{H0:Hp}{O0:List Addr}{E:XK}{ps:PSt}{D:PD}{c:Expr}{pos:Pos}{xs:List U}
end
end L2
namespace TS
open PySem PyProof.Rows
def lH:Bool→Keyed→Array Keyed→Nat→Nat→Nat→StateT En Sem (Option Nat):=sortPriv% PySem.Builtin.gallop
section
variable {prog:Cy}{w:World}{A:Dc}{E:Value→B7→Prop}{s:B7}
def gt (a:Array Keyed) (i:Nat):Keyed:=a.getD i (CO,CO)
theorem gt_eq {a:Array Keyed}{i:Nat} (h:i < a.toList.length):gt a i=a.toList[i]:=by
 have h':i < a.size:=by simpa using h
 simp[gt,Ga,h']
theorem aL {a:Array Keyed}{i:Nat} (h:i < a.size):gt a i∈a.toList:=by rw[gt_eq (by simpa using h)];exact Dm _
theorem el {a:Array Keyed}{i:Nat}{st:En}{Q:Keyed→En→Prop} (hi:i < a.size) (h:Q (gt a i) st):wpS (model prog w) A E s (elem' a i) Q st:=by
 rw[elem'_eq,C7 hi]
 refine B_ ?_
 rw[gt_eq (by simpa using hi)] at h
 simpa using h
end
section
variable {prog:Cy}{w:World}{A:Dc}{E:Value→B7→Prop}{s:B7}
theorem gal {left:Bool}{key:Keyed}{arr:Array Keyed}{base n hint:Nat}{st:En}{Q:Option Nat→En→Prop}{f:Nat→Bool}{p:Nat} (hh:hint < n)
  (hin:∀i,i < n→base+i < arr.size)
  (hT:left=true→∀i (Q:Option Bool→En→Prop),i < n→Q (some (f i)) st→wpS (model prog w) A E s (lt' (gt arr (base+i)) key) Q st)
  (hF:left=false→∀i (Q:Option Bool→En→Prop),i < n→Q (some (!f i)) st→wpS (model prog w) A E s (lt' key (gt arr (base+i))) Q st)
  (hp:p≤n) (hf:∀i,i < n→(f i=true↔i < p)) (h:Q (some p) st):wpS (model prog w) A E s (lH left key arr base n hint) Q st:=by
 refine Ca (EG (Q:=fun r st2=>r=some (f _)∧st2=st) (by
  refine Ca (el (hin _ hh) ?_)
  cases left with
  |true=>rw[if_pos rfl];exact hT rfl _ _ hh ⟨rfl,rfl⟩
  |false=>
   rw[if_neg (by decide)]
   exact Ca (hF rfl _ _ hh (B_ ⟨by simp,rfl⟩))) ?_)
 intro r0 st0 hr0
 rw[hr0.1,hr0.2]
 clear hr0 r0 st0
 dsimp only
 by_cases hr:f hint=true
 ·rw[if_pos hr]
  have hhp:=(hf hint hh).mp hr
  refine Ca (EG (Ez (I:=fun x c st'=>st'=st∧∃la ofs,c=(none,la,ofs)∧x+1≤ofs∧la < ofs∧hint+la < p) (Q:=fun c st'=>st'=st∧∃la ofs,c=(none,la,ofs)∧la < ofs∧hint+la < p∧p≤hint+min ofs (n - hint)) ?_ ?_ ⟨rfl,0,1,rfl,B9 _,ME,hhp⟩) ?_)
  ·rintro x c st' _ hx ⟨rfl,la,ofs,rfl,a1,a2,a3⟩
   dsimp only
   by_cases ho:ofs ≥ n - hint
   ·rw[if_pos ho]
    exact B_ ⟨rfl,la,ofs,rfl,a2,a3,by lia⟩
   ·rw[if_neg ho]
    have hm:hint+ofs < n:=by lia
    refine Ca (EG (Q:=fun r st2=>r=some (f _)∧st2=st') (by
     refine Ca (el (hin _ hm) ?_)
     cases left with
     |true=>rw[if_pos rfl];exact hT rfl _ _ hm ⟨rfl,rfl⟩
     |false=>
      rw[if_neg (by decide)]
      exact Ca (hF rfl _ _ hm (B_ ⟨by simp,rfl⟩))) ?_)
    intro r0 st0 hr0
    rw[hr0.1,hr0.2]
    clear hr0 r0 st0
    dsimp only
    by_cases hfm:f (hint+ofs)=true
    ·rw[if_neg (by rw[hfm];decide)]
     have:=(hf _ hm).mp hfm
     exact B_ ⟨rfl,_,_,rfl,by lia,by lia,this⟩
    ·rw[if_pos (by simpa using hfm)]
     have:¬ hint+ofs < p:=fun z=>hfm ((hf _ hm).mpr z)
     exact B_ ⟨rfl,la,ofs,rfl,a2,a3,by lia⟩
  ·rintro c st' ⟨rfl,la,ofs,rfl,a1,a2,a3⟩
   exact ⟨rfl,la,ofs,rfl,a2,a3,by lia⟩
  rintro c st' ⟨rfl,la,ofs,rfl,a1,a2,a3⟩
  dsimp only
  refine Ca (EG (Ez (I:=fun x c st2=>st2=st'∧∃lo hi,c=(none,lo,hi)∧lo≤p∧p≤hi∧hi≤n∧hi - lo≤n - x) (Q:=fun c st2=>st2=st'∧∃lo,c=(none,lo,p)) ?_ ?_ ⟨rfl,_,_,rfl,by lia,a3,by lia,by lia⟩) ?_)
  ·rintro x c st' _ hx ⟨rfl,lo,hi,rfl,a1,a2,a3,a4⟩
   dsimp only
   by_cases hlh:lo ≥ hi
   ·rw[if_pos hlh]
    exact B_ ⟨rfl,lo,by rw[show hi=p by lia]⟩
   ·rw[if_neg hlh]
    have hm:lo+(hi - lo) / 2 < n:=by lia
    refine Ca (EG (Q:=fun r st2=>r=some (f _)∧st2=st') (by
     refine Ca (el (hin _ hm) ?_)
     cases left with
     |true=>rw[if_pos rfl];exact hT rfl _ _ hm ⟨rfl,rfl⟩
     |false=>
      rw[if_neg (by decide)]
      exact Ca (hF rfl _ _ hm (B_ ⟨by simp,rfl⟩))) ?_)
    intro r0 st0 hr0
    rw[hr0.1,hr0.2]
    clear hr0 r0 st0
    dsimp only
    by_cases hfm:f (lo+(hi - lo) / 2)=true
    ·rw[if_pos hfm]
     have:=(hf _ hm).mp hfm
     exact B_ ⟨rfl,_,_,rfl,by lia,a2,a3,by lia⟩
    ·rw[if_neg hfm]
     have:¬ lo+(hi - lo) / 2 < p:=fun z=>hfm ((hf _ hm).mpr z)
     exact B_ ⟨rfl,_,_,rfl,a1,by lia,by lia,by lia⟩
  ·rintro c st' ⟨rfl,lo,hi,rfl,a1,a2,a3,a4⟩
   exact ⟨rfl,lo,by rw[show hi=p by lia]⟩
  ·rintro c st' ⟨rfl,lo,rfl⟩
   exact B_ h
 ·rw[if_neg hr]
  have hhp:¬ hint < p:=fun z=>hr ((hf hint hh).mpr z)
  refine Ca (EG (Ez (I:=fun x c st'=>st'=st∧∃la ofs,c=(none,la,ofs)∧x+1≤ofs∧la < ofs∧la≤hint∧p≤hint - la) (Q:=fun c st'=>st'=st∧∃la ofs,c=(none,la,ofs)∧la≤hint∧p≤hint - la∧hint+1 - min ofs (hint+1)≤p) ?_ ?_ ⟨rfl,0,1,rfl,B9 _,ME,DB _,by lia⟩) ?_)
  ·rintro x c st' _ hx ⟨rfl,la,ofs,rfl,a1,a2,a3,a4⟩
   dsimp only
   by_cases ho:ofs ≥ hint+1
   ·rw[if_pos ho]
    exact B_ ⟨rfl,la,ofs,rfl,a3,a4,by lia⟩
   ·rw[if_neg ho]
    have hm:hint - ofs < n:=by lia
    refine Ca (EG (Q:=fun r st2=>r=some (f _)∧st2=st') (by
     refine Ca (el (hin _ hm) ?_)
     cases left with
     |true=>rw[if_pos rfl];exact hT rfl _ _ hm ⟨rfl,rfl⟩
     |false=>
      rw[if_neg (by decide)]
      exact Ca (hF rfl _ _ hm (B_ ⟨by simp,rfl⟩))) ?_)
    intro r0 st0 hr0
    rw[hr0.1,hr0.2]
    clear hr0 r0 st0
    dsimp only
    by_cases hfm:f (hint - ofs)=true
    ·rw[if_pos hfm]
     have:=(hf _ hm).mp hfm
     exact B_ ⟨rfl,la,ofs,rfl,a3,a4,by lia⟩
    ·rw[if_neg hfm]
     have:¬ hint - ofs < p:=fun z=>hfm ((hf _ hm).mpr z)
     exact B_ ⟨rfl,_,_,rfl,by lia,by lia,by lia,by lia⟩
  ·rintro c st' ⟨rfl,la,ofs,rfl,a1,a2,a3,a4⟩
   exact ⟨rfl,la,ofs,rfl,a3,a4,by lia⟩
  rintro c st' ⟨rfl,la,ofs,rfl,a1,a2,a3⟩
  dsimp only
  refine Ca (EG (Ez (I:=fun x c st2=>st2=st'∧∃lo hi,c=(none,lo,hi)∧lo≤p∧p≤hi∧hi≤n∧hi - lo≤n - x) (Q:=fun c st2=>st2=st'∧∃lo,c=(none,lo,p)) ?_ ?_ ⟨rfl,_,_,rfl,a3,a2,by lia,by lia⟩) ?_)
  ·rintro x c st' _ hx ⟨rfl,lo,hi,rfl,a1,a2,a3,a4⟩
   dsimp only
   by_cases hlh:lo ≥ hi
   ·rw[if_pos hlh]
    exact B_ ⟨rfl,lo,by rw[show hi=p by lia]⟩
   ·rw[if_neg hlh]
    have hm:lo+(hi - lo) / 2 < n:=by lia
    refine Ca (EG (Q:=fun r st2=>r=some (f _)∧st2=st') (by
     refine Ca (el (hin _ hm) ?_)
     cases left with
     |true=>rw[if_pos rfl];exact hT rfl _ _ hm ⟨rfl,rfl⟩
     |false=>
      rw[if_neg (by decide)]
      exact Ca (hF rfl _ _ hm (B_ ⟨by simp,rfl⟩))) ?_)
    intro r0 st0 hr0
    rw[hr0.1,hr0.2]
    clear hr0 r0 st0
    dsimp only
    by_cases hfm:f (lo+(hi - lo) / 2)=true
    ·rw[if_pos hfm]
     have:=(hf _ hm).mp hfm
     exact B_ ⟨rfl,_,_,rfl,by lia,a2,a3,by lia⟩
    ·rw[if_neg hfm]
     have:¬ lo+(hi - lo) / 2 < p:=fun z=>hfm ((hf _ hm).mpr z)
     exact B_ ⟨rfl,_,_,rfl,a1,by lia,by lia,by lia⟩
  ·rintro c st' ⟨rfl,lo,hi,rfl,a1,a2,a3,a4⟩
   exact ⟨rfl,lo,by rw[show hi=p by lia]⟩
  ·rintro c st' ⟨rfl,lo,rfl⟩
   exact B_ h
end
def kD:Nat→StateT En Sem Unit:=sortPriv% PySem.Builtin.setMinGallop
abbrev gM (st:En) (g:Nat):En:=SortSt.mk' (kindOf st) (arrOf st) (EH st) g (HF st)
def wp:Array Keyed→Array Keyed→StateT En Sem (Array Keyed):=sortPriv% PySem.Builtin.mergeLo
section
variable {α:Type}{R:α→α→Bool}{A B out:List α}{ia ib:Nat}
structure MI (R:α→α→Bool) (A B out:List α) (ia ib:Nat):Prop where
 perm:out.Perm (A.take ia++B.take ib)
 srt:out.Pairwise fun x y=>R x y=true
 lA:∀x∈out,∀y∈A.drop ia,R x y=true
 lB:∀x∈out,∀y∈B.drop ib,R x y=true
structure MO (R:α→α→Bool) (A B:List α):Prop where
 tr:∀x y z,R x y=true→R y z=true→R x z=true
 sA:A.Pairwise fun x y=>R x y=true
 sB:B.Pairwise fun x y=>R x y=true
 tot:∀x∈A,∀y∈B,R y x=false→R x y=true
theorem e_ (tr:∀x y z,R x y=true→R y z=true→R x z=true) {L:List α} (sL:L.Pairwise fun x y=>R x y=true) {i:Nat} (hi:i < L.length) {x:α} (h:R x L[i]=true):∀y∈L.drop i,R x y=true:=fun y hy=>by
 rw[Dp hi] at hy
 rcases Cd.mp hy with e |e
 ·rw[e];exact h
 ·have:=(CH.mp (by rw[←Dp hi];exact sL.sublist (Fy i L))).1 y e
  exact tr _ _ _ h this
theorem lw {L:List α} (sL:L.Pairwise fun x y=>R x y=true) {i:Nat} (hi:i < L.length):∀y∈L.drop (i+1),R L[i] y=true:=fun y hy=>
 (CH.mp (by rw[←Dp hi];exact sL.sublist (Fy i L))).1 y hy
theorem gE {L:List α}{i:Nat}{y:α} (h:y∈L.drop (i+1)):y∈L.drop i:=by
 rw[←LJ] at h
 exact EI h
theorem iL {L:List α}{i:Nat} (hi:i < L.length):L[i]∈L.drop i:=by rw[Dp hi];exact Ci
theorem MI.pushA (O:MO R A B) (I:MI R A B out ia ib) (hi:ia < A.length) (h:∀y∈B.drop ib,R A[ia] y=true):MI R A B (out++[A[ia]]) (ia+1) ib where
 perm:=by
  rw[Fq hi]
  refine (I.perm.append_right _).trans ?_
  rw[CA,CA]
  exact Fj _ FW
 srt:=Dv.mpr ⟨I.srt,by simp,fun x hx y hy=>by rw[Ct.mp hy];exact I.lA x hx _ (iL hi)⟩
 lA:=fun x hx y hy=>by
  rcases Dq.mp hx with e |e
  ·exact I.lA x e y (gE hy)
  ·rw[Ct.mp e];exact lw O.sA hi y hy
 lB:=fun x hx y hy=>by
  rcases Dq.mp hx with e |e
  ·exact I.lB x e y hy
  ·rw[Ct.mp e];exact h y hy
theorem MI.pushB (O:MO R A B) (I:MI R A B out ia ib) (hi:ib < B.length) (h:∀y∈A.drop ia,R B[ib] y=true):MI R A B (out++[B[ib]]) ia (ib+1) where
 perm:=by
  rw[Fq hi,←CA]
  exact I.perm.append_right _
 srt:=Dv.mpr ⟨I.srt,by simp,fun x hx y hy=>by rw[Ct.mp hy];exact I.lB x hx _ (iL hi)⟩
 lA:=fun x hx y hy=>by
  rcases Dq.mp hx with e |e
  ·exact I.lA x e y hy
  ·rw[Ct.mp e];exact h y hy
 lB:=fun x hx y hy=>by
  rcases Dq.mp hx with e |e
  ·exact I.lB x e y (gE hy)
  ·rw[Ct.mp e];exact lw O.sB hi y hy
theorem MI.runA (O:MO R A B) (hb:ib < B.length):∀(k:Nat) {out:List α}{ia:Nat},MI R A B out ia ib→ia+k≤A.length→(∀i (h:ia+i < A.length),i < k→R A[ia+i] B[ib]=true)→MI R A B (out++(A.drop ia).take k) (ia+k) ib
 |0,out,ia,I,_,_=>by simpa using I
 |k+1,out,ia,I,hk,h=>by
  have hi:ia < A.length:=by lia
  have I':=I.pushA O hi (e_ O.tr O.sB hb (h 0 (by lia) (by lia)))
  have:=MI.runA O hb k I' (by lia) (fun i hi' hik=>by
   have:=h (i+1) (by lia) (by lia)
   have e:A[ia+1+i]=A[ia+(i+1)]'(by lia):=by congr 1;lia
   rw[e];exact this)
  rw[Dp hi,HL]
  rw[CA,show ia+1+k=ia+(k+1) by lia] at this
  exact this
theorem MI.runB (O:MO R A B) (ha:ia < A.length):∀(k:Nat) {out:List α}{ib:Nat},MI R A B out ia ib→ib+k≤B.length→(∀i (h:ib+i < B.length),i < k→R B[ib+i] A[ia]=true)→MI R A B (out++(B.drop ib).take k) ia (ib+k)
 |0,out,ib,I,_,_=>by simpa using I
 |k+1,out,ib,I,hk,h=>by
  have hi:ib < B.length:=by lia
  have I':=I.pushB O hi (e_ O.tr O.sA ha (h 0 (by lia) (by lia)))
  have:=MI.runB O ha k I' (by lia) (fun i hi' hik=>by
   have:=h (i+1) (by lia) (by lia)
   have e:B[ib+1+i]=B[ib+(i+1)]'(by lia):=by congr 1;lia
   rw[e];exact this)
  rw[Dp hi,HL]
  rw[CA,show ib+1+k=ib+(k+1) by lia] at this
  exact this
def Mgd (R:α→α→Bool) (A B r:List α):Prop:=r.Perm (A++B)∧r.Pairwise fun x y=>R x y=true
theorem MI.perm_all (I:MI R A B out ia ib):(out++A.drop ia++B.drop ib).Perm (A++B):=by
 have h:(out++A.drop ia++B.drop ib).Perm ((A.take ia++B.take ib)++A.drop ia++B.drop ib):=(I.perm.append_right _).append_right _
 refine h.trans ?_
 have e:A++B=(A.take ia++A.drop ia)++(B.take ib++B.drop ib):=by rw[CZ,CZ]
 rw[e,CA,CA,CA]
 refine Fj _ ?_
 rw[←CA,←CA]
 exact IX _ FW
theorem MI.doneB (O:MO R A B) (I:MI R A B out ia ib) (h:ib=B.length):Mgd R A B (out++A.drop ia++B.drop ib):=by
 refine ⟨I.perm_all,?_⟩
 rw[h,KP,DG]
 exact Dv.mpr ⟨I.srt,O.sA.sublist (Fy _ _),I.lA⟩
theorem MI.doneA (O:MO R A B) (I:MI R A B out ia ib) (h:ia=A.length):Mgd R A B (out++A.drop ia++B.drop ib):=by
 refine ⟨I.perm_all,?_⟩
 rw[h,KP,DG]
 exact Dv.mpr ⟨I.srt,O.sB.sublist (Fy _ _),I.lB⟩
theorem MI.last (O:MO R A B) (I:MI R A B out ia ib) (h:ia+1=A.length) (hl:∀y∈B,R y (A[ia]'(by lia))=true):Mgd R A B (out++B.drop ib++A.drop ia):=by
 refine ⟨?_,?_⟩
 ·refine Le ?_ I.perm_all
  rw[CA,CA]
  exact Fj _ FW
 ·have e:A.drop ia=[A[ia]'(by lia)]:=by rw[Dp (by lia),List.drop_of_length_le (by lia)]
  rw[e]
  refine Dv.mpr ⟨Dv.mpr ⟨I.srt,O.sB.sublist (Fy _ _),I.lB⟩,by simp,fun x hx y hy=>?_⟩
  rw[Ct.mp hy]
  rcases Dq.mp hx with z |z
  ·exact I.lA x z _ (by rw[e];simp)
  ·exact hl x (EI z)
end
section
variable {M:Model}{A:Dc}{E:Value→B7→Prop}{s:B7}{σ:Type}
theorem tj {β:Type}{n:Nat}{f:Nat→β→StateT σ Sem (ForInStep β)} (I:Nat→β→σ→Prop) {Q:β→σ→Prop}
  (hstep:∀i c st,i < n→I i c st→∀post:ForInStep β→σ→Prop,(∀c st',Q c st'→post (.done c) st')→(∀c st',I (i+1) c st'→post (.yield c) st')→wpS M A E s (f i c) post st)
  (hend:∀c st,I n c st→Q c st) {c:β}{st:σ} (h:I 0 c st):wpS M A E s (forIn [0:n] c f) Q st:=
 Ez I (fun i c st _ hi hI=>hstep i c st hi hI _ (fun _ _ h=>h) (fun _ _ h=>h)) (fun c st h=>hend c st (by rwa [Nat.zero_max] at h)) h
theorem hv {α β:Type}{v:β}{f:β→StateT σ Sem α}{Q:α→σ→Prop}{st:σ} (h:wpS M A E s (f v) Q st):wpS M A E s (have x:=v;f x) Q st:=h
end
section
variable {prog:Cy}{w:World}{A:Dc}{E:Value→B7→Prop}{s:B7}
theorem ru {x:String}{Q:Unit→En→Prop}{st:En} (h:Q () st):wpS (model prog w) A E s (liftM (rule x)) Q st:=wpS_lift (HH ⟨rfl,h⟩)
def Asks (prog:Cy) (w:World) (A:Dc) (E:Value→B7→Prop) (s:B7) (κ:HE) (P:Keyed→Prop) (R:Keyed→Keyed→Bool):Prop:=
 ∀x y st (Q:Option Bool→En→Prop),P x→P y→kindOf st=κ→Q (some (R x y)) st→wpS (model prog w) A E s (lt' x y) Q st
theorem rC {n:Nat} (q:Nat→Bool) (mono:∀i j,i < j→j < n→q j=true→q i=true):∃k,k≤n∧(∀i,i < k→q i=true)∧∀i,k≤i→i < n→q i=false:=by
 have go:∀m,m≤n→(∀i,m≤i→i < n→q i=false)→∃k,k≤n∧(∀i,i < k→q i=true)∧∀i,k≤i→i < n→q i=false:=by
  intro m
  induction m with
  |zero=>intro _ hm;exact ⟨0,DB _,fun i h=>by lia,hm⟩
  |succ m ih=>
   intro hmn hm
   by_cases hr:q m=true
   ·refine ⟨m+1,hmn,fun i him=>?_,hm⟩
    rcases CI (Ee him) with z |z
    ·exact mono i m z (by lia) hr
    ·subst z;exact hr
   ·refine ih (by lia) fun i him hi=>?_
    rcases CI him with z |z
    ·exact hm i z hi
    ·subst z;simpa using hr
 exact go n (B9 _) fun i h1 h2=>by lia
variable {κ:HE}{P:Keyed→Prop}{R:Keyed→Keyed→Bool} (K:Asks prog w A E s κ P R)
include K
theorem mM {key:Keyed}{b:Array Keyed}{ib n hint:Nat}{st:En}{Q:Option Nat→En→Prop} (hk:kindOf st=κ) (hn:ib+n≤b.size) (hh:hint < n) (pk:P key) (pb:∀i,i < n→P (gt b (ib+i))) (tr:∀x y z,R x y=true→R y z=true→R x z=true) (sb:∀i j,i < j→j < n→R (gt b (ib+i)) (gt b (ib+j))=true)
  (h:∀k,k≤n→(∀i,i < k→R (gt b (ib+i)) key=true)→(∀i,k≤i→i < n→R (gt b (ib+i)) key=false)→Q (some k) st):wpS (model prog w) A E s (lH true key b ib n hint) Q st:=by
 obtain ⟨k,kn,k1,k2⟩:=rC (n:=n) (fun i=>R (gt b (ib+i)) key) fun i j h1 h2 hj=>tr _ _ _ (sb i j h1 h2) hj
 refine gal (f:=fun i=>R (gt b (ib+i)) key) (p:=k) hh (fun i hi=>by lia) (fun _ i Q' hi hq=>K _ _ _ _ (pb i hi) pk hk hq) (fun z=>by cases z) kn (fun i hi=>?_) (h k kn k1 k2)
 ·constructor
  ·intro hr
   rcases D3 i k with z |z
   ·exact z
   ·rw[k2 i z hi] at hr;cases hr
  ·intro z;exact k1 i z
theorem uo {key:Keyed}{b:Array Keyed}{ib n hint:Nat}{st:En}{Q:Option Nat→En→Prop} (hk:kindOf st=κ) (hn:ib+n≤b.size) (hh:hint < n) (pk:P key) (pb:∀i,i < n→P (gt b (ib+i))) (tr:∀x y z,R x y=true→R y z=true→R x z=true) (sb:∀i j,i < j→j < n→R (gt b (ib+i)) (gt b (ib+j))=true)
  (h:∀k,k≤n→(∀i,i < k→R key (gt b (ib+i))=false)→(∀i,k≤i→i < n→R key (gt b (ib+i))=true)→Q (some k) st):wpS (model prog w) A E s (lH false key b ib n hint) Q st:=by
 obtain ⟨k,kn,k1,k2⟩:=rC (n:=n) (fun i=>!R key (gt b (ib+i))) fun i j h1 h2 hj=>by
  rw[Kl] at hj ⊢
  cases hc:R key (gt b (ib+i)) with
  |false=>rfl
  |true=>rw[tr _ _ _ hc (sb i j h1 h2)] at hj;cases hj
 refine gal (f:=fun i=>!R key (gt b (ib+i))) (p:=k) hh (fun i hi=>by lia) (fun z=>by cases z) (fun _ i Q' hi hq=>K _ _ _ _ pk (pb i hi) hk (by simpa using hq)) kn (fun i hi=>?_) (h k kn (fun i hi=>by simpa using k1 i hi) fun i h1 h2=>by simpa using k2 i h1 h2)
 ·constructor
  ·intro hr
   rcases D3 i k with z |z
   ·exact z
   ·have:=k2 i z hi
    rw[this] at hr;cases hr
  ·intro z;exact k1 i z
omit K in
theorem iD (a:Array Keyed) (i:Nat):(a.extract i a.size).toList=a.toList.drop i:=by simp[Fc]
omit K in
theorem ge (a:Array Keyed) (i k:Nat):(a.extract i (i+k)).toList=(a.toList.drop i).take k:=by simp
omit K in
theorem sg {g:Nat}{st:En}{Q:Unit→En→Prop} (h:Q () (gM st g)):wpS (model prog w) A E s (kD g) Q st:=FM h
theorem mlo {a b:Array Keyed}{st:En}{Q:Array Keyed→En→Prop} (O:MO R a.toList b.toList) (pa:∀x∈a.toList,P x) (pb:∀x∈b.toList,P x) (ha:0 < a.size) (hb:0 < b.size) (h0:R (gt b 0) (gt a 0)=true) (hl:∀y∈b.toList,R y (gt a (a.size - 1))=true) (hk:kindOf st=κ)
  (h:∀r g,Mgd R a.toList b.toList r.toList→Q r (gM st g)):wpS (model prog w) A E s (wp a b) Q st:=by
 have la:a.toList.length=a.size:=by simp
 have lb:b.toList.length=b.size:=by simp
 have dn:∀{out:Array Keyed}{ia ib:Nat},MI R a.toList b.toList out.toList ia ib→ib=b.size→Mgd R a.toList b.toList (out++a.extract ia a.size++b.extract ib b.size).toList:=fun {out ia ib} I e=>by
  rw[C9,C9,iD,iD]
  exact I.doneB O (by lia)
 have ls:∀{out:Array Keyed}{ia ib:Nat},MI R a.toList b.toList out.toList ia ib→ia+1=a.size→Mgd R a.toList b.toList (out++b.extract ib b.size++a.extract ia a.size).toList:=fun {out ia ib} I e=>by
  rw[C9,C9,iD,iD]
  refine I.last O (by lia) fun y hy=>?_
  have:=hl y hy
  rw[show a.size - 1=ia by lia,gt_eq (by lia)] at this
  exact this
 have pA:∀{out:Array Keyed}{ia ib:Nat},MI R a.toList b.toList out.toList ia ib→ia < a.size→ib < b.size→R (gt b ib) (gt a ia)=false→MI R a.toList b.toList (out.push (gt a ia)).toList (ia+1) ib:=fun {out ia ib} I h1 h2 hr=>by
  rw[Ex,gt_eq (show ia < a.toList.length by lia)]
  refine I.pushA O (by lia) (e_ O.tr O.sB (show ib < b.toList.length by lia) ?_)
  rw[gt_eq (show ib < b.toList.length by lia),gt_eq (show ia < a.toList.length by lia)] at hr
  exact O.tot _ (Dm _) _ (Dm _) hr
 have pB:∀{out:Array Keyed}{ia ib:Nat},MI R a.toList b.toList out.toList ia ib→ia < a.size→ib < b.size→R (gt b ib) (gt a ia)=true→MI R a.toList b.toList (out.push (gt b ib)).toList ia (ib+1):=fun {out ia ib} I h1 h2 hr=>by
  rw[Ex,gt_eq (show ib < b.toList.length by lia)]
  refine I.pushB O (by lia) (e_ O.tr O.sA (show ia < a.toList.length by lia) ?_)
  rw[gt_eq (show ib < b.toList.length by lia),gt_eq (show ia < a.toList.length by lia)] at hr
  exact hr
 have sa:∀{ia n:Nat},ia+n≤a.size→∀i j,i < j→j < n→R (gt a (ia+i)) (gt a (ia+j))=true:=fun {ia n} hn i j h1 h2=>by
  rw[gt_eq (show ia+i < a.toList.length by lia),gt_eq (show ia+j < a.toList.length by lia)]
  exact Cw.mp O.sA _ _ _ _ (by lia)
 have sb:∀{ib n:Nat},ib+n≤b.size→∀i j,i < j→j < n→R (gt b (ib+i)) (gt b (ib+j))=true:=fun {ib n} hn i j h1 h2=>by
  rw[gt_eq (show ib+i < b.toList.length by lia),gt_eq (show ib+j < b.toList.length by lia)]
  exact Cw.mp O.sB _ _ _ _ (by lia)
 have dA:∀{out:Array Keyed}{ia ib:Nat},MI R a.toList b.toList out.toList ia ib→ia=a.size→Mgd R a.toList b.toList (out++a.extract ia a.size++b.extract ib b.size).toList:=fun {out ia ib} I e=>by
  rw[C9,C9,iD,iD]
  exact I.doneA O (by lia)
 have rA:∀{out:Array Keyed}{ia ib k:Nat},MI R a.toList b.toList out.toList ia ib→ib < b.size→ia+k≤a.size→(∀i,i < k→R (gt b ib) (gt a (ia+i))=false)→MI R a.toList b.toList (out++a.extract ia (ia+k)).toList (ia+k) ib:=fun {out ia ib k} I h2 h1 hr=>by
  rw[C9,ge]
  refine I.runA O (show ib < b.toList.length by lia) k (by lia) fun i h hi=>?_
  have:=hr i hi
  rw[gt_eq (show ib < b.toList.length by lia),gt_eq h] at this
  exact O.tot _ (Dm _) _ (Dm _) this
 have rB:∀{out:Array Keyed}{ia ib k:Nat},MI R a.toList b.toList out.toList ia ib→ia < a.size→ib+k≤b.size→(∀i,i < k→R (gt b (ib+i)) (gt a ia)=true)→MI R a.toList b.toList (out++b.extract ib (ib+k)).toList ia (ib+k):=fun {out ia ib k} I h2 h1 hr=>by
  rw[C9,ge]
  refine I.runB O (show ia < a.toList.length by lia) k (by lia) fun i h hi=>?_
  have:=hr i hi
  rw[gt_eq (show ia < a.toList.length by lia),gt_eq h] at this
  exact this
 have start:MI R a.toList b.toList (#[gt b 0]:Array Keyed).toList 0 1:=by
  have e:(#[gt b 0]:Array Keyed)=(#[]:Array Keyed).push (gt b 0):=rfl
  rw[e]
  exact pB ⟨by simp,by simp,by simp,by simp⟩ ha hb h0
 refine Ca (ru ?_)
 refine Ca (el hb ?_)
 refine hv (hv (hv ?_))
 by_cases e1:(1==b.size)=true
 ·rw[if_pos e1]
  exact B_ (h _ (J6 st) (dn start (by simpa using e1)))
 rw[if_neg e1]
 have e1':1 < b.size:=by have:¬ 1=b.size:=by simpa using e1
                         lia
 by_cases e2:(0+1==a.size)=true
 ·rw[if_pos e2]
  exact B_ (h _ (J6 st) (ls start (by simpa using e2)))
 rw[if_neg e2]
 have e2':1 < a.size:=by have:¬ 0+1=a.size:=by simpa using e2
                         lia
 refine Ca (Hw ?_)
 refine hv ?_
 refine Ca (EG (tj (I:=fun x c st'=>∃g out ia ib mg,st'=gM st g∧c=(none,out,ia,ib,mg)∧MI R a.toList b.toList out.toList ia ib∧ia+1 < a.size∧ib < b.size∧x+1≤ia+ib) (Q:=fun c st'=>∃g r rest,st'=gM st g∧c=(some r,rest)∧Mgd R a.toList b.toList r.toList) ?step ?fin ⟨J6 st,_,_,_,_,rfl,rfl,start,e2',e1',B9 _⟩) ?post)
 case fin=>
  rintro c st' ⟨g,out,ia,ib,mg,rfl,rfl,I,i1,i2,pr⟩
  exfalso;lia
 case post=>
  rintro c st' ⟨g,r,rest,rfl,rfl,m⟩
  exact B_ (h r g m)
 case step=>
  rintro x c st' hx ⟨g,out,ia,ib,mg,rfl,rfl,I,i1,i2,pr⟩ post pd py
  refine hv (hv (hv (hv (hv (hv (hv (hv (hv ?_))))))))
  refine Ca (EG (tj (I:=fun x2 c st'=>∃out ia ib ac bc,st'=gM st g∧c=(none,out,ia,ib,ac,bc)∧MI R a.toList b.toList out.toList ia ib∧ia+1 < a.size∧ib < b.size∧x+1+x2≤ia+ib) (Q:=fun c st'=>st'=gM st g∧((∃r rest,c=(some r,rest)∧Mgd R a.toList b.toList r.toList)∨∃out ia ib ac bc,c=(none,out,ia,ib,ac,bc)∧MI R a.toList b.toList out.toList ia ib∧ia+1 < a.size∧ib < b.size∧x+2≤ia+ib)) ?s2 ?f2 ⟨out,ia,ib,0,0,rfl,rfl,I,i1,i2,pr⟩) ?p2)
  case f2=>
   rintro c st' ⟨out,ia,ib,ac,bc,rfl,rfl,I,j1,j2,pr'⟩
   exfalso;lia
  case s2=>
   rintro y c st' hy ⟨out,ia,ib,ac,bc,rfl,rfl,I,j1,j2,pr'⟩ post2 qd qy
   dsimp only
   have j0:ia < a.size:=by lia
   refine Ca (el j2 ?_)
   refine Ca (el j0 ?_)
   refine Ca (K _ _ _ _ (pb _ (aL j2)) (pa _ (aL j0)) hk ?_)
   dsimp only
   by_cases hw:R (gt b ib) (gt a ia)=true
   ·rw[if_pos hw]
    refine Ca (el j2 ?_)
    have I2:=pB I j0 j2 hw
    by_cases eb:(ib+1==b.size)=true
    ·rw[if_pos eb]
     exact B_ (qd _ _ ⟨rfl,.inl ⟨_,_,rfl,dn I2 (by simpa using eb)⟩⟩)
    ·rw[if_neg eb]
     have eb':ib+1 < b.size:=by have:¬ ib+1=b.size:=by simpa using eb
                                lia
     by_cases hm:bc+1 ≥ mg
     ·rw[if_pos hm]
      exact B_ (qd _ _ ⟨rfl,.inr ⟨_,_,_,_,_,rfl,I2,j1,eb',by lia⟩⟩)
     ·rw[if_neg hm]
      exact B_ (qy _ _ ⟨_,_,_,_,_,rfl,rfl,I2,j1,eb',by lia⟩)
   ·rw[if_neg hw]
    refine Ca (el j0 ?_)
    have I2:=pA I j0 j2 (by simpa using hw)
    by_cases ea:(ia+1+1==a.size)=true
    ·rw[if_pos ea]
     exact B_ (qd _ _ ⟨rfl,.inl ⟨_,_,rfl,ls I2 (by simpa using ea)⟩⟩)
    ·rw[if_neg ea]
     have ea':ia+1+1 < a.size:=by have:¬ ia+1+1=a.size:=by simpa using ea
                                  lia
     by_cases hm:ac+1 ≥ mg
     ·rw[if_pos hm]
      exact B_ (qd _ _ ⟨rfl,.inr ⟨_,_,_,_,_,rfl,I2,ea',j2,by lia⟩⟩)
     ·rw[if_neg hm]
      exact B_ (qy _ _ ⟨_,_,_,_,_,rfl,rfl,I2,ea',j2,by lia⟩)
  case p2=>
   rintro c st' ⟨rfl,⟨r,rest,rfl,m⟩ |⟨out,ia,ib,ac,bc,rfl,I,i1,i2,pr⟩⟩
   ·exact B_ (pd _ _ ⟨g,r,_,rfl,rfl,m⟩)
   ·refine hv (hv (hv (hv (hv (hv (hv (hv (hv (hv ?_)))))))))
    refine Ca (ru ?_)
    refine hv ?_
    refine Ca (EG (tj (I:=fun x3 c st'=>∃g out ia ib mg ac bc,st'=gM st g∧c=(none,out,ia,ib,mg,ac,bc)∧MI R a.toList b.toList out.toList ia ib∧ia+1 < a.size∧ib < b.size∧x+2+x3≤ia+ib) (Q:=fun c st'=>∃g,st'=gM st g∧((∃r rest,c=(some r,rest)∧Mgd R a.toList b.toList r.toList)∨∃out ia ib mg ac bc,c=(none,out,ia,ib,mg,ac,bc)∧MI R a.toList b.toList out.toList ia ib∧ia+1 < a.size∧ib < b.size∧x+2≤ia+ib)) ?s3 ?f3 ⟨g,out,ia,ib,_,ac,bc,rfl,rfl,I,i1,i2,pr⟩) ?p3)
    case f3=>
     rintro c st' ⟨g,out,ia,ib,mg,ac,bc,rfl,rfl,I,j1,j2,pr'⟩
     exfalso;lia
    case p3=>
     rintro c st' ⟨g,rfl,⟨r,rest,rfl,m⟩ |⟨out,ia,ib,mg,ac,bc,rfl,I,i1,i2,pr⟩⟩
     ·exact B_ (pd _ _ ⟨g,r,_,rfl,rfl,m⟩)
     ·refine hv (hv (hv (hv (hv (hv (hv (hv (hv (hv (hv (hv ?_)))))))))))
      refine hv ?_
      refine Ca (sg ?_)
      exact B_ (py _ _ ⟨_,_,_,_,_,rfl,rfl,I,i1,i2,pr⟩)
    case s3=>
     rintro x3 c st' hx3 ⟨g,out,ia,ib,mg,ac,bc,rfl,rfl,I,j1,j2,pr'⟩ post3 qd qy
     dsimp only
     have j0:ia < a.size:=by lia
     by_cases hg:mg >1
     ·rw[if_pos hg]
      refine Ca (sg ?_)
      refine Ca (el j2 ?_)
      refine Ca (uo K hk (show ia+(a.size - ia)≤a.size by lia) (by lia) (pb _ (aL j2)) (fun i hi=>pa _ (aL (by lia))) O.tr (sa (by lia)) fun k kn k1 k2=>?_)
      try dsimp only
      by_cases hk0:k >0
      ·rw[if_pos hk0]
       have I2:=rA I j2 (show ia+k≤a.size by lia) k1
       by_cases ec:(ia+k+1==a.size)=true
       ·rw[if_pos ec]
        exact B_ (qd _ _ ⟨_,rfl,.inl ⟨_,_,rfl,ls I2 (by simpa using ec)⟩⟩)
       rw[if_neg ec]
       by_cases ed:(ia+k==a.size)=true
       ·rw[if_pos ed]
        exact B_ (qd _ _ ⟨_,rfl,.inl ⟨_,_,rfl,dA I2 (by simpa using ed)⟩⟩)
       rw[if_neg ed]
       have ec':ia+k+1 < a.size:=by have h1:¬ ia+k+1=a.size:=(by simpa using ec);have h2:¬ ia+k=a.size:=(by simpa using ed);lia
       have ia0:ia+k < a.size:=by lia
       refine Ca (el j2 ?_)
       have I3:=pB I2 ia0 j2 (k2 k (B9 _) (by lia))
       try dsimp only
       by_cases eb:(ib+1==b.size)=true
       ·rw[if_pos eb]
        exact B_ (qd _ _ ⟨_,rfl,.inl ⟨_,_,rfl,dn I3 (by simpa using eb)⟩⟩)
       rw[if_neg eb]
       have eb':ib+1 < b.size:=by have h1:¬ ib+1=b.size:=(by simpa using eb);lia
       refine Ca (el ia0 ?_)
       refine Ca (mM K hk (show ib+1+(b.size - (ib+1))≤b.size by lia) (by lia) (pa _ (aL ia0)) (fun i hi=>pb _ (aL (by lia))) O.tr (sb (by lia)) fun l ln l1 l2=>?_)
       try dsimp only
       by_cases hl0:l >0
       ·rw[if_pos hl0]
        have I4:=rB I3 ia0 (show ib+1+l≤b.size by lia) l1
        by_cases ec:(ib+1+l==b.size)=true
        ·rw[if_pos ec]
         exact B_ (qd _ _ ⟨_,rfl,.inl ⟨_,_,rfl,dn I4 (by simpa using ec)⟩⟩)
        rw[if_neg ec]
        have ec':ib+1+l < b.size:=by have h1:¬ ib+1+l=b.size:=(by simpa using ec);lia
        refine Ca (el ia0 ?_)
        have I6:=pA I4 ia0 ec' (l2 l (B9 _) (by lia))
        try dsimp only
        by_cases ea:(ia+k+1+1==a.size)=true
        ·rw[if_pos ea]
         exact B_ (qd _ _ ⟨_,rfl,.inl ⟨_,_,rfl,ls I6 (by simpa using ea)⟩⟩)
        rw[if_neg ea]
        have ea':ia+k+1+1 < a.size:=by have h1:¬ ia+k+1+1=a.size:=(by simpa using ea);lia
        split
        ·exact B_ (qd _ _ ⟨_,rfl,.inr ⟨_,_,_,_,_,_,rfl,I6,ea',ec',by lia⟩⟩)
        ·exact B_ (qy _ _ ⟨_,_,_,_,_,_,_,rfl,rfl,I6,ea',ec',by lia⟩)
       ·rw[if_neg hl0]
        refine Ca (el ia0 ?_)
        have I6:=pA I3 ia0 eb' (l2 0 (by lia) (by lia))
        try dsimp only
        by_cases ea:(ia+k+1+1==a.size)=true
        ·rw[if_pos ea]
         exact B_ (qd _ _ ⟨_,rfl,.inl ⟨_,_,rfl,ls I6 (by simpa using ea)⟩⟩)
        rw[if_neg ea]
        have ea':ia+k+1+1 < a.size:=by have h1:¬ ia+k+1+1=a.size:=(by simpa using ea);lia
        split
        ·exact B_ (qd _ _ ⟨_,rfl,.inr ⟨_,_,_,_,_,_,rfl,I6,ea',eb',by lia⟩⟩)
        ·exact B_ (qy _ _ ⟨_,_,_,_,_,_,_,rfl,rfl,I6,ea',eb',by lia⟩)
      ·rw[if_neg hk0]
       have ia0:ia < a.size:=by lia
       refine Ca (el j2 ?_)
       have I3:=pB I ia0 j2 (k2 0 (by lia) (by lia))
       try dsimp only
       by_cases eb:(ib+1==b.size)=true
       ·rw[if_pos eb]
        exact B_ (qd _ _ ⟨_,rfl,.inl ⟨_,_,rfl,dn I3 (by simpa using eb)⟩⟩)
       rw[if_neg eb]
       have eb':ib+1 < b.size:=by have h1:¬ ib+1=b.size:=(by simpa using eb);lia
       refine Ca (el ia0 ?_)
       refine Ca (mM K hk (show ib+1+(b.size - (ib+1))≤b.size by lia) (by lia) (pa _ (aL ia0)) (fun i hi=>pb _ (aL (by lia))) O.tr (sb (by lia)) fun l ln l1 l2=>?_)
       try dsimp only
       by_cases hl0:l >0
       ·rw[if_pos hl0]
        have I4:=rB I3 ia0 (show ib+1+l≤b.size by lia) l1
        by_cases ec:(ib+1+l==b.size)=true
        ·rw[if_pos ec]
         exact B_ (qd _ _ ⟨_,rfl,.inl ⟨_,_,rfl,dn I4 (by simpa using ec)⟩⟩)
        rw[if_neg ec]
        have ec':ib+1+l < b.size:=by have h1:¬ ib+1+l=b.size:=(by simpa using ec);lia
        refine Ca (el ia0 ?_)
        have I6:=pA I4 ia0 ec' (l2 l (B9 _) (by lia))
        try dsimp only
        by_cases ea:(ia+1+1==a.size)=true
        ·rw[if_pos ea]
         exact B_ (qd _ _ ⟨_,rfl,.inl ⟨_,_,rfl,ls I6 (by simpa using ea)⟩⟩)
        rw[if_neg ea]
        have ea':ia+1+1 < a.size:=by have h1:¬ ia+1+1=a.size:=(by simpa using ea);lia
        split
        ·exact B_ (qd _ _ ⟨_,rfl,.inr ⟨_,_,_,_,_,_,rfl,I6,ea',ec',by lia⟩⟩)
        ·exact B_ (qy _ _ ⟨_,_,_,_,_,_,_,rfl,rfl,I6,ea',ec',by lia⟩)
       ·rw[if_neg hl0]
        refine Ca (el ia0 ?_)
        have I6:=pA I3 ia0 eb' (l2 0 (by lia) (by lia))
        try dsimp only
        by_cases ea:(ia+1+1==a.size)=true
        ·rw[if_pos ea]
         exact B_ (qd _ _ ⟨_,rfl,.inl ⟨_,_,rfl,ls I6 (by simpa using ea)⟩⟩)
        rw[if_neg ea]
        have ea':ia+1+1 < a.size:=by have h1:¬ ia+1+1=a.size:=(by simpa using ea);lia
        split
        ·exact B_ (qd _ _ ⟨_,rfl,.inr ⟨_,_,_,_,_,_,rfl,I6,ea',eb',by lia⟩⟩)
        ·exact B_ (qy _ _ ⟨_,_,_,_,_,_,_,rfl,rfl,I6,ea',eb',by lia⟩)
     ·rw[if_neg hg]
      refine Ca (sg ?_)
      refine Ca (el j2 ?_)
      refine Ca (uo K hk (show ia+(a.size - ia)≤a.size by lia) (by lia) (pb _ (aL j2)) (fun i hi=>pa _ (aL (by lia))) O.tr (sa (by lia)) fun k kn k1 k2=>?_)
      try dsimp only
      by_cases hk0:k >0
      ·rw[if_pos hk0]
       have I2:=rA I j2 (show ia+k≤a.size by lia) k1
       by_cases ec:(ia+k+1==a.size)=true
       ·rw[if_pos ec]
        exact B_ (qd _ _ ⟨_,rfl,.inl ⟨_,_,rfl,ls I2 (by simpa using ec)⟩⟩)
       rw[if_neg ec]
       by_cases ed:(ia+k==a.size)=true
       ·rw[if_pos ed]
        exact B_ (qd _ _ ⟨_,rfl,.inl ⟨_,_,rfl,dA I2 (by simpa using ed)⟩⟩)
       rw[if_neg ed]
       have ec':ia+k+1 < a.size:=by have h1:¬ ia+k+1=a.size:=(by simpa using ec);have h2:¬ ia+k=a.size:=(by simpa using ed);lia
       have ia0:ia+k < a.size:=by lia
       refine Ca (el j2 ?_)
       have I3:=pB I2 ia0 j2 (k2 k (B9 _) (by lia))
       try dsimp only
       by_cases eb:(ib+1==b.size)=true
       ·rw[if_pos eb]
        exact B_ (qd _ _ ⟨_,rfl,.inl ⟨_,_,rfl,dn I3 (by simpa using eb)⟩⟩)
       rw[if_neg eb]
       have eb':ib+1 < b.size:=by have h1:¬ ib+1=b.size:=(by simpa using eb);lia
       refine Ca (el ia0 ?_)
       refine Ca (mM K hk (show ib+1+(b.size - (ib+1))≤b.size by lia) (by lia) (pa _ (aL ia0)) (fun i hi=>pb _ (aL (by lia))) O.tr (sb (by lia)) fun l ln l1 l2=>?_)
       try dsimp only
       by_cases hl0:l >0
       ·rw[if_pos hl0]
        have I4:=rB I3 ia0 (show ib+1+l≤b.size by lia) l1
        by_cases ec:(ib+1+l==b.size)=true
        ·rw[if_pos ec]
         exact B_ (qd _ _ ⟨_,rfl,.inl ⟨_,_,rfl,dn I4 (by simpa using ec)⟩⟩)
        rw[if_neg ec]
        have ec':ib+1+l < b.size:=by have h1:¬ ib+1+l=b.size:=(by simpa using ec);lia
        refine Ca (el ia0 ?_)
        have I6:=pA I4 ia0 ec' (l2 l (B9 _) (by lia))
        try dsimp only
        by_cases ea:(ia+k+1+1==a.size)=true
        ·rw[if_pos ea]
         exact B_ (qd _ _ ⟨_,rfl,.inl ⟨_,_,rfl,ls I6 (by simpa using ea)⟩⟩)
        rw[if_neg ea]
        have ea':ia+k+1+1 < a.size:=by have h1:¬ ia+k+1+1=a.size:=(by simpa using ea);lia
        split
        ·exact B_ (qd _ _ ⟨_,rfl,.inr ⟨_,_,_,_,_,_,rfl,I6,ea',ec',by lia⟩⟩)
        ·exact B_ (qy _ _ ⟨_,_,_,_,_,_,_,rfl,rfl,I6,ea',ec',by lia⟩)
       ·rw[if_neg hl0]
        refine Ca (el ia0 ?_)
        have I6:=pA I3 ia0 eb' (l2 0 (by lia) (by lia))
        try dsimp only
        by_cases ea:(ia+k+1+1==a.size)=true
        ·rw[if_pos ea]
         exact B_ (qd _ _ ⟨_,rfl,.inl ⟨_,_,rfl,ls I6 (by simpa using ea)⟩⟩)
        rw[if_neg ea]
        have ea':ia+k+1+1 < a.size:=by have h1:¬ ia+k+1+1=a.size:=(by simpa using ea);lia
        split
        ·exact B_ (qd _ _ ⟨_,rfl,.inr ⟨_,_,_,_,_,_,rfl,I6,ea',eb',by lia⟩⟩)
        ·exact B_ (qy _ _ ⟨_,_,_,_,_,_,_,rfl,rfl,I6,ea',eb',by lia⟩)
      ·rw[if_neg hk0]
       have ia0:ia < a.size:=by lia
       refine Ca (el j2 ?_)
       have I3:=pB I ia0 j2 (k2 0 (by lia) (by lia))
       try dsimp only
       by_cases eb:(ib+1==b.size)=true
       ·rw[if_pos eb]
        exact B_ (qd _ _ ⟨_,rfl,.inl ⟨_,_,rfl,dn I3 (by simpa using eb)⟩⟩)
       rw[if_neg eb]
       have eb':ib+1 < b.size:=by have h1:¬ ib+1=b.size:=(by simpa using eb);lia
       refine Ca (el ia0 ?_)
       refine Ca (mM K hk (show ib+1+(b.size - (ib+1))≤b.size by lia) (by lia) (pa _ (aL ia0)) (fun i hi=>pb _ (aL (by lia))) O.tr (sb (by lia)) fun l ln l1 l2=>?_)
       try dsimp only
       by_cases hl0:l >0
       ·rw[if_pos hl0]
        have I4:=rB I3 ia0 (show ib+1+l≤b.size by lia) l1
        by_cases ec:(ib+1+l==b.size)=true
        ·rw[if_pos ec]
         exact B_ (qd _ _ ⟨_,rfl,.inl ⟨_,_,rfl,dn I4 (by simpa using ec)⟩⟩)
        rw[if_neg ec]
        have ec':ib+1+l < b.size:=by have h1:¬ ib+1+l=b.size:=(by simpa using ec);lia
        refine Ca (el ia0 ?_)
        have I6:=pA I4 ia0 ec' (l2 l (B9 _) (by lia))
        try dsimp only
        by_cases ea:(ia+1+1==a.size)=true
        ·rw[if_pos ea]
         exact B_ (qd _ _ ⟨_,rfl,.inl ⟨_,_,rfl,ls I6 (by simpa using ea)⟩⟩)
        rw[if_neg ea]
        have ea':ia+1+1 < a.size:=by have h1:¬ ia+1+1=a.size:=(by simpa using ea);lia
        split
        ·exact B_ (qd _ _ ⟨_,rfl,.inr ⟨_,_,_,_,_,_,rfl,I6,ea',ec',by lia⟩⟩)
        ·exact B_ (qy _ _ ⟨_,_,_,_,_,_,_,rfl,rfl,I6,ea',ec',by lia⟩)
       ·rw[if_neg hl0]
        refine Ca (el ia0 ?_)
        have I6:=pA I3 ia0 eb' (l2 0 (by lia) (by lia))
        try dsimp only
        by_cases ea:(ia+1+1==a.size)=true
        ·rw[if_pos ea]
         exact B_ (qd _ _ ⟨_,rfl,.inl ⟨_,_,rfl,ls I6 (by simpa using ea)⟩⟩)
        rw[if_neg ea]
        have ea':ia+1+1 < a.size:=by have h1:¬ ia+1+1=a.size:=(by simpa using ea);lia
        split
        ·exact B_ (qd _ _ ⟨_,rfl,.inr ⟨_,_,_,_,_,_,rfl,I6,ea',eb',by lia⟩⟩)
        ·exact B_ (qy _ _ ⟨_,_,_,_,_,_,_,rfl,rfl,I6,ea',eb',by lia⟩)
end
section
variable {α:Type}{R:α→α→Bool}{A B:List α}
theorem qv (L:List α) (i k:Nat) (h:i+k≤L.length):((L.drop i).take k).reverse=(L.reverse.drop (L.length - i - k)).take k:=by
 apply List.ext_getElem
 ·simp;lia
 ·intro n h1 h2
  simp only[Dl,Hs,FH] at h1 h2
  simp only[JC,Hb,Gb,Hs,FH]
  congr 1
  lia
theorem u7 (L:List α) (n:Nat) (h:n≤L.length):L.reverse.drop (L.length - n)=(L.take n).reverse:=by
 rw[List.drop_reverse,Nat.sub_sub_self h]
theorem MO.rev (O:MO R A B):MO (fun x y=>R y x) B.reverse A.reverse where
 tr:=fun _ _ _ h1 h2=>O.tr _ _ _ h2 h1
 sA:=ET.mpr O.sB
 sB:=ET.mpr O.sA
 tot:=fun x hx y hy h=>O.tot y (Cq.mp hy) x (Cq.mp hx) h
theorem Mgd.rev {r:List α} (m:Mgd (fun x y=>R y x) B.reverse A.reverse r):Mgd R A B r.reverse:=
 ⟨(Ir r).trans (m.1.trans ((FW).trans ((Ir A).append (Ir B)))),ET.mpr m.2⟩
end
section
variable {prog:Cy}{w:World}{A:Dc}{E:Value→B7→Prop}{s:B7}{κ:HE}{P:Keyed→Prop}{R:Keyed→Keyed→Bool} (K:Asks prog w A E s κ P R)
theorem e9 {a:Array Keyed}{n i:Nat} (hn:n≤a.size) (hi:i < n) (h:a.size - n+i < a.toList.reverse.length):a.toList.reverse[a.size - n+i]=gt a (n - 1 - i):=by
 rw[JC,gt_eq (by simp;lia)]
 congr 1
 simp
 lia
def u9:Array Keyed→Array Keyed→StateT En Sem (Array Keyed):=sortPriv% PySem.Builtin.mergeHi
include K
theorem mhi {a b:Array Keyed}{st:En}{Q:Array Keyed→En→Prop} (O:MO R a.toList b.toList) (pa:∀x∈a.toList,P x) (pb:∀x∈b.toList,P x) (ha:0 < a.size) (hb:0 < b.size) (h0:R (gt b (b.size - 1)) (gt a (a.size - 1))=true) (hl:∀y∈a.toList,R (gt b 0) y=true) (hk:kindOf st=κ)
  (h:∀r g,Mgd R a.toList b.toList r.toList→Q r (gM st g)):wpS (model prog w) A E s (u9 a b) Q st:=by
 have la:a.toList.reverse.length=a.size:=by simp
 have lb:b.toList.reverse.length=b.size:=by simp
 have O':=O.rev
 have xa:∀n,n≤a.size→(a.extract 0 n).toList=(a.toList.reverse.drop (a.size - n)).reverse:=fun n hn=>by
  have:=u7 a.toList n (by simpa using hn)
  rw[Cc] at this
  rw[this,HA];simp
 have xb:∀n,n≤b.size→(b.extract 0 n).toList=(b.toList.reverse.drop (b.size - n)).reverse:=fun n hn=>by
  have:=u7 b.toList n (by simpa using hn)
  rw[Cc] at this
  rw[this,HA];simp
 have dn:∀{out:Array Keyed}{na nb:Nat},MI (fun x y=>R y x) b.toList.reverse a.toList.reverse out.toList (b.size - nb) (a.size - na)→nb≤b.size→na=0→Mgd R a.toList b.toList (a.extract 0 na++b.extract 0 nb++out.reverse).toList:=fun {out na nb} I hn e=>by
  have:=(I.doneB O' (by lia)).rev
  rw[Fb,Fb,←CA,←xa na (by lia),←xb nb hn] at this
  rw[C9,C9,Fs]
  exact this
 have dA:∀{out:Array Keyed}{na nb:Nat},MI (fun x y=>R y x) b.toList.reverse a.toList.reverse out.toList (b.size - nb) (a.size - na)→na≤a.size→nb=0→Mgd R a.toList b.toList (a.extract 0 na++b.extract 0 nb++out.reverse).toList:=fun {out na nb} I hn e=>by
  have:=(I.doneA O' (by lia)).rev
  rw[Fb,Fb,←CA,←xa na hn,←xb nb (by lia)] at this
  rw[C9,C9,Fs]
  exact this
 have ls:∀{out:Array Keyed}{na nb:Nat},MI (fun x y=>R y x) b.toList.reverse a.toList.reverse out.toList (b.size - nb) (a.size - na)→na≤a.size→nb=1→Mgd R a.toList b.toList (b.extract 0 nb++a.extract 0 na++out.reverse).toList:=fun {out na nb} I hn e=>by
  have:=(I.last O' (by lia) fun y hy=>by
   have z:=hl y (Cq.mp hy)
   have g:=e9 (a:=b) (n:=nb) (i:=0) (by lia) (by lia) (by lia)
   simp only[FS] at g
   rw[g,e]
   exact z).rev
  rw[Fb,Fb,←CA,←xa na hn,←xb nb (by lia)] at this
  rw[C9,C9,Fs]
  exact this
 have pB:∀{out:Array Keyed}{na nb:Nat},MI (fun x y=>R y x) b.toList.reverse a.toList.reverse out.toList (b.size - nb) (a.size - na)→0 < na→na≤a.size→0 < nb→nb≤b.size→R (gt b (nb - 1)) (gt a (na - 1))=true→MI (fun x y=>R y x) b.toList.reverse a.toList.reverse (out.push (gt a (na - 1))).toList (b.size - nb) (a.size - (na - 1)):=fun {out na nb} I h1 h2 h3 h4 hr=>by
  have g:=e9 (a:=a) (n:=na) (i:=0) h2 h1 (by lia)
  have g2:=e9 (a:=b) (n:=nb) (i:=0) h4 h3 (by lia)
  simp only[FS,Js] at g g2
  rw[Ex,←g,show a.size - (na - 1)=a.size - na+1 by lia]
  refine I.pushB O' (by lia) (e_ O'.tr O'.sA (by lia) ?_)
  rw[g,g2];exact hr
 have pA:∀{out:Array Keyed}{na nb:Nat},MI (fun x y=>R y x) b.toList.reverse a.toList.reverse out.toList (b.size - nb) (a.size - na)→0 < na→na≤a.size→0 < nb→nb≤b.size→R (gt b (nb - 1)) (gt a (na - 1))=false→MI (fun x y=>R y x) b.toList.reverse a.toList.reverse (out.push (gt b (nb - 1))).toList (b.size - (nb - 1)) (a.size - na):=fun {out na nb} I h1 h2 h3 h4 hr=>by
  have g:=e9 (a:=a) (n:=na) (i:=0) h2 h1 (by lia)
  have g2:=e9 (a:=b) (n:=nb) (i:=0) h4 h3 (by lia)
  simp only[FS,Js] at g g2
  rw[Ex,←g2,show b.size - (nb - 1)=b.size - nb+1 by lia]
  refine I.pushA O' (by lia) (e_ O'.tr O'.sB (by lia) ?_)
  rw[g,g2]
  exact O.tot _ (aL (by lia)) _ (aL (by lia)) hr
 have rB:∀{out:Array Keyed}{na nb k:Nat},MI (fun x y=>R y x) b.toList.reverse a.toList.reverse out.toList (b.size - nb) (a.size - na)→k≤na→na≤a.size→0 < nb→nb≤b.size→(∀i,k≤i→i < na→R (gt b (nb - 1)) (gt a i)=true)→MI (fun x y=>R y x) b.toList.reverse a.toList.reverse (out++(a.extract k na).reverse).toList (b.size - nb) (a.size - k):=fun {out na nb k} I h1 h2 h3 h4 hr=>by
  have e:(a.extract k na).reverse.toList=(a.toList.reverse.drop (a.size - na)).take (na - k):=by
   rw[Fs,←show k+(na - k)=na by lia,ge,qv _ _ _ (by rw[Cc];lia),Cc]
   congr 1
   ·lia
   ·congr 1;lia
  rw[C9,e,show a.size - k=a.size - na+(na - k) by lia]
  refine I.runB O' (by lia) _ (by lia) fun i h hi=>?_
  have g2:=e9 (a:=b) (n:=nb) (i:=0) h4 h3 (by lia)
  simp only[FS,Js] at g2
  rw[e9 h2 (by lia),g2]
  exact hr _ (by lia) (by lia)
 have rA:∀{out:Array Keyed}{na nb k:Nat},MI (fun x y=>R y x) b.toList.reverse a.toList.reverse out.toList (b.size - nb) (a.size - na)→k≤nb→nb≤b.size→0 < na→na≤a.size→(∀i,k≤i→i < nb→R (gt b i) (gt a (na - 1))=false)→MI (fun x y=>R y x) b.toList.reverse a.toList.reverse (out++(b.extract k nb).reverse).toList (b.size - k) (a.size - na):=fun {out na nb k} I h1 h2 h3 h4 hr=>by
  have e:(b.extract k nb).reverse.toList=(b.toList.reverse.drop (b.size - nb)).take (nb - k):=by
   rw[Fs,←show k+(nb - k)=nb by lia,ge,qv _ _ _ (by rw[Cc];lia),Cc]
   congr 1
   ·lia
   ·congr 1;lia
  rw[C9,e,show b.size - k=b.size - nb+(nb - k) by lia]
  refine I.runA O' (by lia) _ (by lia) fun i h hi=>?_
  have g2:=e9 (a:=a) (n:=na) (i:=0) h4 h3 (by lia)
  simp only[FS,Js] at g2
  rw[e9 h2 (by lia),g2]
  exact O.tot _ (aL (by lia)) _ (aL (by lia)) (hr _ (by lia) (by lia))
 have sa:∀{n:Nat},n≤a.size→∀i j,i < j→j < n→R (gt a (0+i)) (gt a (0+j))=true:=fun {n} hn i j h1 h2=>by
  rw[gt_eq (show 0+i < a.toList.length by rw[Cc];lia),gt_eq (show 0+j < a.toList.length by rw[Cc];lia)]
  exact Cw.mp O.sA _ _ _ _ (by lia)
 have sb:∀{n:Nat},n≤b.size→∀i j,i < j→j < n→R (gt b (0+i)) (gt b (0+j))=true:=fun {n} hn i j h1 h2=>by
  rw[gt_eq (show 0+i < b.toList.length by rw[Cc];lia),gt_eq (show 0+j < b.toList.length by rw[Cc];lia)]
  exact Cw.mp O.sB _ _ _ _ (by lia)
 have start:MI (fun x y=>R y x) b.toList.reverse a.toList.reverse (#[gt a (a.size - 1)]:Array Keyed).toList (b.size - b.size) (a.size - (a.size - 1)):=by
  have e:(#[gt a (a.size - 1)]:Array Keyed)=(#[]:Array Keyed).push (gt a (a.size - 1)):=rfl
  rw[e]
  exact pB ⟨by simp,by simp,by simp,by simp⟩ ha (B9 _) hb (B9 _) h0
 refine Ca (ru ?_)
 refine Ca (el (show a.size - 1 < a.size by lia) ?_)
 try dsimp only
 by_cases e1:(a.size - 1==0)=true
 ·rw[if_pos e1]
  exact B_ (h _ (J6 st) (dn start (B9 _) (by simpa using e1)))
 rw[if_neg e1]
 have e1':0 < a.size - 1:=by have h1:¬ a.size - 1=0:=(by simpa using e1);lia
 by_cases e2:(b.size==1)=true
 ·rw[if_pos e2]
  exact B_ (h _ (J6 st) (ls start (by lia) (by simpa using e2)))
 rw[if_neg e2]
 have e2':1 < b.size:=by have h1:¬ b.size=1:=(by simpa using e2);lia
 refine Ca (Hw ?_)
 try dsimp only
 refine Ca (EG (tj (I:=fun x c st'=>∃g na nb out mg,st'=gM st g∧c=(none,na,nb,out,mg)∧MI (fun x y=>R y x) b.toList.reverse a.toList.reverse (out).toList (b.size - nb) (a.size - na)∧0 < na∧na≤a.size∧1 < nb∧nb≤b.size∧x+1≤(a.size - na)+(b.size - nb)) (Q:=fun c st'=>∃g r rest,st'=gM st g∧c=(some r,rest)∧Mgd R a.toList b.toList r.toList) ?step ?fin ⟨J6 st,_,_,_,_,rfl,rfl,start,e1',by lia,e2',B9 _,by lia⟩) ?post)
 case fin=>
  rintro c st' ⟨g,na,nb,out,mg,rfl,rfl,I,i1,i2,i3,i4,pr⟩
  exfalso;lia
 case post=>
  rintro c st' ⟨g,r,rest,rfl,rfl,m⟩
  exact B_ (h r g m)
 case step=>
  rintro x c st' hx ⟨g,na,nb,out,mg,rfl,rfl,I,i1,i2,i3,i4,pr⟩ post pd py
  refine Ca (EG (tj (I:=fun x2 c st'=>∃na nb out ac bc,st'=gM st g∧c=(none,na,nb,out,ac,bc)∧MI (fun x y=>R y x) b.toList.reverse a.toList.reverse (out).toList (b.size - nb) (a.size - na)∧0 < na∧na≤a.size∧1 < nb∧nb≤b.size∧x+1+x2≤(a.size - na)+(b.size - nb)) (Q:=fun c st'=>st'=gM st g∧((∃r rest,c=(some r,rest)∧Mgd R a.toList b.toList r.toList)∨∃na nb out ac bc,c=(none,na,nb,out,ac,bc)∧MI (fun x y=>R y x) b.toList.reverse a.toList.reverse (out).toList (b.size - nb) (a.size - na)∧0 < na∧na≤a.size∧1 < nb∧nb≤b.size∧x+2≤(a.size - na)+(b.size - nb))) ?s2 ?f2 ⟨na,nb,out,0,0,rfl,rfl,I,i1,i2,i3,i4,pr⟩) ?p2)
  case f2=>
   rintro c st' ⟨na,nb,out,ac,bc,rfl,rfl,I,i1,i2,i3,i4,pr⟩
   exfalso;lia
  case s2=>
   rintro y c st' hy ⟨na,nb,out,ac,bc,rfl,rfl,I,i1,i2,i3,i4,pr⟩ post2 qd qy
   try dsimp only
   refine Ca (el (show nb - 1 < b.size by lia) ?_)
   refine Ca (el (show na - 1 < a.size by lia) ?_)
   refine Ca (K _ _ _ _ (pb _ (aL (by lia))) (pa _ (aL (by lia))) hk ?_)
   try dsimp only
   by_cases hw:R (gt b (nb - 1)) (gt a (na - 1))=true
   ·rw[if_pos hw]
    refine Ca (el (show na - 1 < a.size by lia) ?_)
    have I2:=pB I i1 i2 (show 0 < nb by lia) i4 hw
    try dsimp only
    by_cases eb:(na - 1==0)=true
    ·rw[if_pos eb]
     exact B_ (qd _ _ ⟨rfl,.inl ⟨_,_,rfl,dn I2 (by lia) (by simpa using eb)⟩⟩)
    ·rw[if_neg eb]
     have eb':0 < na - 1:=by have h1:¬ na - 1=0:=(by simpa using eb);lia
     by_cases hm:ac+1 ≥ mg
     ·rw[if_pos hm]
      exact B_ (qd _ _ ⟨rfl,.inr ⟨_,_,_,_,_,rfl,I2,eb',by lia,i3,i4,by lia⟩⟩)
     ·rw[if_neg hm]
      exact B_ (qy _ _ ⟨_,_,_,_,_,rfl,rfl,I2,eb',by lia,i3,i4,by lia⟩)
   ·rw[if_neg hw]
    refine Ca (el (show nb - 1 < b.size by lia) ?_)
    have I2:=pA I i1 i2 (show 0 < nb by lia) i4 (by simpa using hw)
    try dsimp only
    by_cases ea:(nb - 1==1)=true
    ·rw[if_pos ea]
     exact B_ (qd _ _ ⟨rfl,.inl ⟨_,_,rfl,ls I2 (by lia) (by simpa using ea)⟩⟩)
    ·rw[if_neg ea]
     have ea':1 < nb - 1:=by have h1:¬ nb - 1=1:=(by simpa using ea);lia
     by_cases hm:bc+1 ≥ mg
     ·rw[if_pos hm]
      exact B_ (qd _ _ ⟨rfl,.inr ⟨_,_,_,_,_,rfl,I2,i1,i2,ea',by lia,by lia⟩⟩)
     ·rw[if_neg hm]
      exact B_ (qy _ _ ⟨_,_,_,_,_,rfl,rfl,I2,i1,i2,ea',by lia,by lia⟩)
  case p2=>
   rintro c st' ⟨rfl,⟨r,rest,rfl,m⟩ |⟨na,nb,out,ac,bc,rfl,I,i1,i2,i3,i4,pr⟩⟩
   ·exact B_ (pd _ _ ⟨g,r,_,rfl,rfl,m⟩)
   ·refine Ca (ru ?_)
    refine Ca (EG (tj (I:=fun x3 c st'=>∃g na nb out mg ac bc,st'=gM st g∧c=(none,na,nb,out,mg,ac,bc)∧MI (fun x y=>R y x) b.toList.reverse a.toList.reverse (out).toList (b.size - nb) (a.size - na)∧0 < na∧na≤a.size∧1 < nb∧nb≤b.size∧x+2+x3≤(a.size - na)+(b.size - nb)) (Q:=fun c st'=>∃g,st'=gM st g∧((∃r rest,c=(some r,rest)∧Mgd R a.toList b.toList r.toList)∨∃na nb out mg ac bc,c=(none,na,nb,out,mg,ac,bc)∧MI (fun x y=>R y x) b.toList.reverse a.toList.reverse (out).toList (b.size - nb) (a.size - na)∧0 < na∧na≤a.size∧1 < nb∧nb≤b.size∧x+2≤(a.size - na)+(b.size - nb))) ?s3 ?f3 ⟨g,na,nb,out,_,ac,bc,rfl,rfl,I,i1,i2,i3,i4,pr⟩) ?p3)
    case f3=>
     rintro c st' ⟨g,na,nb,out,mg,ac,bc,rfl,rfl,I,i1,i2,i3,i4,pr⟩
     exfalso;lia
    case p3=>
     rintro c st' ⟨g,rfl,⟨r,rest,rfl,m⟩ |⟨na,nb,out,mg,ac,bc,rfl,I,i1,i2,i3,i4,pr⟩⟩
     ·exact B_ (pd _ _ ⟨g,r,_,rfl,rfl,m⟩)
     ·refine Ca (sg ?_)
      exact B_ (py _ _ ⟨_,_,_,_,_,rfl,rfl,I,i1,i2,i3,i4,pr⟩)
    case s3=>
     rintro x3 c st' hx3 ⟨g,na,nb,out,mg,ac,bc,rfl,rfl,I,i1,i2,i3,i4,pr⟩ post3 qd qy
     try dsimp only
     by_cases hg:mg >1
     ·rw[if_pos hg]
      refine Ca (sg ?_)
      refine Ca (el (show nb - 1 < b.size by lia) ?_)
      refine Ca (uo K hk (show 0+na≤a.size by lia) (by lia) (pb _ (aL (by lia))) (fun i hi=>pa _ (aL (by lia))) O.tr (sa (by lia)) fun k kn k1 k2=>?_)
      simp only[FB] at k1 k2
      try dsimp only
      by_cases hk0:na - k >0
      ·rw[if_pos hk0]
       have I2:=rB I (show k≤na by lia) i2 (show 0 < nb by lia) i4 k2
       by_cases ec:(k==0)=true
       ·rw[if_pos ec]
        exact B_ (qd _ _ ⟨_,rfl,.inl ⟨_,_,rfl,dn I2 (by lia) (by simpa using ec)⟩⟩)
       rw[if_neg ec]
       have ec':0 < k:=by have h1:¬ k=0:=(by simpa using ec);lia
       have na0:0 < k:=by lia
       have na1:k≤a.size:=by lia
       refine Ca (el (show nb - 1 < b.size by lia) ?_)
       have I3:=pA I2 na0 na1 (show 0 < nb by lia) i4 (k1 (k - 1) (by lia))
       try dsimp only
       by_cases eb:(nb - 1==1)=true
       ·rw[if_pos eb]
        exact B_ (qd _ _ ⟨_,rfl,.inl ⟨_,_,rfl,ls I3 (by lia) (by simpa using eb)⟩⟩)
       rw[if_neg eb]
       have eb':1 < nb - 1:=by have h1:¬ nb - 1=1:=(by simpa using eb);lia
       refine Ca (el (show k - 1 < a.size by lia) ?_)
       refine Ca (mM K hk (show 0+(nb - 1)≤b.size by lia) (by lia) (pa _ (aL (by lia))) (fun i hi=>pb _ (aL (by lia))) O.tr (sb (by lia)) fun l ln l1 l2=>?_)
       simp only[FB] at l1 l2
       try dsimp only
       by_cases hl0:nb - 1 - l >0
       ·rw[if_pos hl0]
        have I4:=rA I3 (show l≤nb - 1 by lia) (show nb - 1≤b.size by lia) na0 na1 l2
        by_cases ec:(l==1)=true
        ·rw[if_pos ec]
         exact B_ (qd _ _ ⟨_,rfl,.inl ⟨_,_,rfl,ls I4 (by lia) (by simpa using ec)⟩⟩)
        rw[if_neg ec]
        by_cases ed:(l==0)=true
        ·rw[if_pos ed]
         exact B_ (qd _ _ ⟨_,rfl,.inl ⟨_,_,rfl,dA I4 (by lia) (by simpa using ed)⟩⟩)
        rw[if_neg ed]
        have ec':1 < l:=by have h1:¬ l=1:=(by simpa using ec);have h2:¬ l=0:=(by simpa using ed);lia
        refine Ca (el (show k - 1 < a.size by lia) ?_)
        have I6:=pB I4 na0 na1 (show 0 < l by lia) (show l≤b.size by lia) (l1 (l - 1) (by lia))
        try dsimp only
        by_cases ea:(k - 1==0)=true
        ·rw[if_pos ea]
         exact B_ (qd _ _ ⟨_,rfl,.inl ⟨_,_,rfl,dn I6 (by lia) (by simpa using ea)⟩⟩)
        rw[if_neg ea]
        have ea':0 < k - 1:=by have h1:¬ k - 1=0:=(by simpa using ea);lia
        split
        ·exact B_ (qd _ _ ⟨_,rfl,.inr ⟨_,_,_,_,_,_,rfl,I6,ea',by lia,by lia,by lia,by lia⟩⟩)
        ·exact B_ (qy _ _ ⟨_,_,_,_,_,_,_,rfl,rfl,I6,ea',by lia,by lia,by lia,by lia⟩)
       ·rw[if_neg hl0]
        refine Ca (el (show k - 1 < a.size by lia) ?_)
        have I6:=pB I3 na0 na1 (show 0 < nb - 1 by lia) (show nb - 1≤b.size by lia) (l1 (nb - 1 - 1) (by lia))
        try dsimp only
        by_cases ea:(k - 1==0)=true
        ·rw[if_pos ea]
         exact B_ (qd _ _ ⟨_,rfl,.inl ⟨_,_,rfl,dn I6 (by lia) (by simpa using ea)⟩⟩)
        rw[if_neg ea]
        have ea':0 < k - 1:=by have h1:¬ k - 1=0:=(by simpa using ea);lia
        split
        ·exact B_ (qd _ _ ⟨_,rfl,.inr ⟨_,_,_,_,_,_,rfl,I6,ea',by lia,by lia,by lia,by lia⟩⟩)
        ·exact B_ (qy _ _ ⟨_,_,_,_,_,_,_,rfl,rfl,I6,ea',by lia,by lia,by lia,by lia⟩)
      ·rw[if_neg hk0]
       have na0:0 < na:=by lia
       have na1:na≤a.size:=by lia
       refine Ca (el (show nb - 1 < b.size by lia) ?_)
       have I3:=pA I na0 na1 (show 0 < nb by lia) i4 (k1 (na - 1) (by lia))
       try dsimp only
       by_cases eb:(nb - 1==1)=true
       ·rw[if_pos eb]
        exact B_ (qd _ _ ⟨_,rfl,.inl ⟨_,_,rfl,ls I3 (by lia) (by simpa using eb)⟩⟩)
       rw[if_neg eb]
       have eb':1 < nb - 1:=by have h1:¬ nb - 1=1:=(by simpa using eb);lia
       refine Ca (el (show na - 1 < a.size by lia) ?_)
       refine Ca (mM K hk (show 0+(nb - 1)≤b.size by lia) (by lia) (pa _ (aL (by lia))) (fun i hi=>pb _ (aL (by lia))) O.tr (sb (by lia)) fun l ln l1 l2=>?_)
       simp only[FB] at l1 l2
       try dsimp only
       by_cases hl0:nb - 1 - l >0
       ·rw[if_pos hl0]
        have I4:=rA I3 (show l≤nb - 1 by lia) (show nb - 1≤b.size by lia) na0 na1 l2
        by_cases ec:(l==1)=true
        ·rw[if_pos ec]
         exact B_ (qd _ _ ⟨_,rfl,.inl ⟨_,_,rfl,ls I4 (by lia) (by simpa using ec)⟩⟩)
        rw[if_neg ec]
        by_cases ed:(l==0)=true
        ·rw[if_pos ed]
         exact B_ (qd _ _ ⟨_,rfl,.inl ⟨_,_,rfl,dA I4 (by lia) (by simpa using ed)⟩⟩)
        rw[if_neg ed]
        have ec':1 < l:=by have h1:¬ l=1:=(by simpa using ec);have h2:¬ l=0:=(by simpa using ed);lia
        refine Ca (el (show na - 1 < a.size by lia) ?_)
        have I6:=pB I4 na0 na1 (show 0 < l by lia) (show l≤b.size by lia) (l1 (l - 1) (by lia))
        try dsimp only
        by_cases ea:(na - 1==0)=true
        ·rw[if_pos ea]
         exact B_ (qd _ _ ⟨_,rfl,.inl ⟨_,_,rfl,dn I6 (by lia) (by simpa using ea)⟩⟩)
        rw[if_neg ea]
        have ea':0 < na - 1:=by have h1:¬ na - 1=0:=(by simpa using ea);lia
        split
        ·exact B_ (qd _ _ ⟨_,rfl,.inr ⟨_,_,_,_,_,_,rfl,I6,ea',by lia,by lia,by lia,by lia⟩⟩)
        ·exact B_ (qy _ _ ⟨_,_,_,_,_,_,_,rfl,rfl,I6,ea',by lia,by lia,by lia,by lia⟩)
       ·rw[if_neg hl0]
        refine Ca (el (show na - 1 < a.size by lia) ?_)
        have I6:=pB I3 na0 na1 (show 0 < nb - 1 by lia) (show nb - 1≤b.size by lia) (l1 (nb - 1 - 1) (by lia))
        try dsimp only
        by_cases ea:(na - 1==0)=true
        ·rw[if_pos ea]
         exact B_ (qd _ _ ⟨_,rfl,.inl ⟨_,_,rfl,dn I6 (by lia) (by simpa using ea)⟩⟩)
        rw[if_neg ea]
        have ea':0 < na - 1:=by have h1:¬ na - 1=0:=(by simpa using ea);lia
        split
        ·exact B_ (qd _ _ ⟨_,rfl,.inr ⟨_,_,_,_,_,_,rfl,I6,ea',by lia,by lia,by lia,by lia⟩⟩)
        ·exact B_ (qy _ _ ⟨_,_,_,_,_,_,_,rfl,rfl,I6,ea',by lia,by lia,by lia,by lia⟩)
     ·rw[if_neg hg]
      refine Ca (sg ?_)
      refine Ca (el (show nb - 1 < b.size by lia) ?_)
      refine Ca (uo K hk (show 0+na≤a.size by lia) (by lia) (pb _ (aL (by lia))) (fun i hi=>pa _ (aL (by lia))) O.tr (sa (by lia)) fun k kn k1 k2=>?_)
      simp only[FB] at k1 k2
      try dsimp only
      by_cases hk0:na - k >0
      ·rw[if_pos hk0]
       have I2:=rB I (show k≤na by lia) i2 (show 0 < nb by lia) i4 k2
       by_cases ec:(k==0)=true
       ·rw[if_pos ec]
        exact B_ (qd _ _ ⟨_,rfl,.inl ⟨_,_,rfl,dn I2 (by lia) (by simpa using ec)⟩⟩)
       rw[if_neg ec]
       have ec':0 < k:=by have h1:¬ k=0:=(by simpa using ec);lia
       have na0:0 < k:=by lia
       have na1:k≤a.size:=by lia
       refine Ca (el (show nb - 1 < b.size by lia) ?_)
       have I3:=pA I2 na0 na1 (show 0 < nb by lia) i4 (k1 (k - 1) (by lia))
       try dsimp only
       by_cases eb:(nb - 1==1)=true
       ·rw[if_pos eb]
        exact B_ (qd _ _ ⟨_,rfl,.inl ⟨_,_,rfl,ls I3 (by lia) (by simpa using eb)⟩⟩)
       rw[if_neg eb]
       have eb':1 < nb - 1:=by have h1:¬ nb - 1=1:=(by simpa using eb);lia
       refine Ca (el (show k - 1 < a.size by lia) ?_)
       refine Ca (mM K hk (show 0+(nb - 1)≤b.size by lia) (by lia) (pa _ (aL (by lia))) (fun i hi=>pb _ (aL (by lia))) O.tr (sb (by lia)) fun l ln l1 l2=>?_)
       simp only[FB] at l1 l2
       try dsimp only
       by_cases hl0:nb - 1 - l >0
       ·rw[if_pos hl0]
        have I4:=rA I3 (show l≤nb - 1 by lia) (show nb - 1≤b.size by lia) na0 na1 l2
        by_cases ec:(l==1)=true
        ·rw[if_pos ec]
         exact B_ (qd _ _ ⟨_,rfl,.inl ⟨_,_,rfl,ls I4 (by lia) (by simpa using ec)⟩⟩)
        rw[if_neg ec]
        by_cases ed:(l==0)=true
        ·rw[if_pos ed]
         exact B_ (qd _ _ ⟨_,rfl,.inl ⟨_,_,rfl,dA I4 (by lia) (by simpa using ed)⟩⟩)
        rw[if_neg ed]
        have ec':1 < l:=by have h1:¬ l=1:=(by simpa using ec);have h2:¬ l=0:=(by simpa using ed);lia
        refine Ca (el (show k - 1 < a.size by lia) ?_)
        have I6:=pB I4 na0 na1 (show 0 < l by lia) (show l≤b.size by lia) (l1 (l - 1) (by lia))
        try dsimp only
        by_cases ea:(k - 1==0)=true
        ·rw[if_pos ea]
         exact B_ (qd _ _ ⟨_,rfl,.inl ⟨_,_,rfl,dn I6 (by lia) (by simpa using ea)⟩⟩)
        rw[if_neg ea]
        have ea':0 < k - 1:=by have h1:¬ k - 1=0:=(by simpa using ea);lia
        split
        ·exact B_ (qd _ _ ⟨_,rfl,.inr ⟨_,_,_,_,_,_,rfl,I6,ea',by lia,by lia,by lia,by lia⟩⟩)
        ·exact B_ (qy _ _ ⟨_,_,_,_,_,_,_,rfl,rfl,I6,ea',by lia,by lia,by lia,by lia⟩)
       ·rw[if_neg hl0]
        refine Ca (el (show k - 1 < a.size by lia) ?_)
        have I6:=pB I3 na0 na1 (show 0 < nb - 1 by lia) (show nb - 1≤b.size by lia) (l1 (nb - 1 - 1) (by lia))
        try dsimp only
        by_cases ea:(k - 1==0)=true
        ·rw[if_pos ea]
         exact B_ (qd _ _ ⟨_,rfl,.inl ⟨_,_,rfl,dn I6 (by lia) (by simpa using ea)⟩⟩)
        rw[if_neg ea]
        have ea':0 < k - 1:=by have h1:¬ k - 1=0:=(by simpa using ea);lia
        split
        ·exact B_ (qd _ _ ⟨_,rfl,.inr ⟨_,_,_,_,_,_,rfl,I6,ea',by lia,by lia,by lia,by lia⟩⟩)
        ·exact B_ (qy _ _ ⟨_,_,_,_,_,_,_,rfl,rfl,I6,ea',by lia,by lia,by lia,by lia⟩)
      ·rw[if_neg hk0]
       have na0:0 < na:=by lia
       have na1:na≤a.size:=by lia
       refine Ca (el (show nb - 1 < b.size by lia) ?_)
       have I3:=pA I na0 na1 (show 0 < nb by lia) i4 (k1 (na - 1) (by lia))
       try dsimp only
       by_cases eb:(nb - 1==1)=true
       ·rw[if_pos eb]
        exact B_ (qd _ _ ⟨_,rfl,.inl ⟨_,_,rfl,ls I3 (by lia) (by simpa using eb)⟩⟩)
       rw[if_neg eb]
       have eb':1 < nb - 1:=by have h1:¬ nb - 1=1:=(by simpa using eb);lia
       refine Ca (el (show na - 1 < a.size by lia) ?_)
       refine Ca (mM K hk (show 0+(nb - 1)≤b.size by lia) (by lia) (pa _ (aL (by lia))) (fun i hi=>pb _ (aL (by lia))) O.tr (sb (by lia)) fun l ln l1 l2=>?_)
       simp only[FB] at l1 l2
       try dsimp only
       by_cases hl0:nb - 1 - l >0
       ·rw[if_pos hl0]
        have I4:=rA I3 (show l≤nb - 1 by lia) (show nb - 1≤b.size by lia) na0 na1 l2
        by_cases ec:(l==1)=true
        ·rw[if_pos ec]
         exact B_ (qd _ _ ⟨_,rfl,.inl ⟨_,_,rfl,ls I4 (by lia) (by simpa using ec)⟩⟩)
        rw[if_neg ec]
        by_cases ed:(l==0)=true
        ·rw[if_pos ed]
         exact B_ (qd _ _ ⟨_,rfl,.inl ⟨_,_,rfl,dA I4 (by lia) (by simpa using ed)⟩⟩)
        rw[if_neg ed]
        have ec':1 < l:=by have h1:¬ l=1:=(by simpa using ec);have h2:¬ l=0:=(by simpa using ed);lia
        refine Ca (el (show na - 1 < a.size by lia) ?_)
        have I6:=pB I4 na0 na1 (show 0 < l by lia) (show l≤b.size by lia) (l1 (l - 1) (by lia))
        try dsimp only
        by_cases ea:(na - 1==0)=true
        ·rw[if_pos ea]
         exact B_ (qd _ _ ⟨_,rfl,.inl ⟨_,_,rfl,dn I6 (by lia) (by simpa using ea)⟩⟩)
        rw[if_neg ea]
        have ea':0 < na - 1:=by have h1:¬ na - 1=0:=(by simpa using ea);lia
        split
        ·exact B_ (qd _ _ ⟨_,rfl,.inr ⟨_,_,_,_,_,_,rfl,I6,ea',by lia,by lia,by lia,by lia⟩⟩)
        ·exact B_ (qy _ _ ⟨_,_,_,_,_,_,_,rfl,rfl,I6,ea',by lia,by lia,by lia,by lia⟩)
       ·rw[if_neg hl0]
        refine Ca (el (show na - 1 < a.size by lia) ?_)
        have I6:=pB I3 na0 na1 (show 0 < nb - 1 by lia) (show nb - 1≤b.size by lia) (l1 (nb - 1 - 1) (by lia))
        try dsimp only
        by_cases ea:(na - 1==0)=true
        ·rw[if_pos ea]
         exact B_ (qd _ _ ⟨_,rfl,.inl ⟨_,_,rfl,dn I6 (by lia) (by simpa using ea)⟩⟩)
        rw[if_neg ea]
        have ea':0 < na - 1:=by have h1:¬ na - 1=0:=(by simpa using ea);lia
        split
        ·exact B_ (qd _ _ ⟨_,rfl,.inr ⟨_,_,_,_,_,_,rfl,I6,ea',by lia,by lia,by lia,by lia⟩⟩)
        ·exact B_ (qy _ _ ⟨_,_,_,_,_,_,_,rfl,rfl,I6,ea',by lia,by lia,by lia,by lia⟩)
end
section
theorem nT {κ:Type}:∀(m:List κ) (n p:Nat) (X Y:List κ) (arr:Array κ),arr.toList=X++Y→X.length=p+n→m.length≤Y.length→((m.zipIdx n).foldl (fun a (x:κ×Nat)=>a.setIfInBounds (p+x.2) x.1) arr).toList=X++m++Y.drop m.length
 |[],n,p,X,Y,arr,e,_,_=>by simpa using e
 |x::m,n,p,X,[],arr,e,h1,h2=>by simp at h2
 |x::m,n,p,X,y::Y,arr,e,h1,h2=>by
  rw[List.zipIdx_cons,ED]
  have:=nT m (n+1) p (X++[x]) Y (arr.setIfInBounds (p+n) x) (by
   rw[HW,e,←h1,Jt _ _ (B9 _)];simp) (by simp;lia) (by simpa using h2)
  rw[this];simp
theorem vo {M:Model}{A:Dc}{E:Value→B7→Prop}{s:B7}{σ:Type}{x:σ}{Q:PUnit→σ→Prop}{st:σ} (h:Q ⟨⟩ x):wpS M A E s (set x:StateT σ Sem PUnit) Q st:=by
 unfold wpS;rw[StateT.run_set];exact B6 ⟨rfl,h⟩
theorem seg {κ:Type} (X S Y:List κ):((X++S++Y).drop X.length).take S.length=S:=by simp
end
section
variable {prog:Cy}{w:World}{A:Dc}{E:Value→B7→Prop}{s:B7}{κ:HE}{P:Keyed→Prop}{R:Keyed→Keyed→Bool} (K:Asks prog w A E s κ P R)
include K
theorem mat {i sa na pw sb nb pw2:Nat}{X S1 S2 Y:List Keyed}{st:En}{Q:Bool→En→Prop} (hk:kindOf st=κ) (hf:HF st=none) (h1:(EH st)[i]?=some (sa,na,pw)) (h2:(EH st)[i+1]?=some (sb,nb,pw2)) (ha:(arrOf st).toList=X++S1++S2++Y) (lX:X.length=sa) (l1:S1.length=na) (l2:S2.length=nb) (hsb:sb=sa+na) (p1:0 < na) (p2:0 < nb) (pp:∀x∈S1++S2,P x) (O:MO R S1 S2)
  (h:∀S st',kindOf st'=κ→HF st'=none→EH st'=((EH st).setIfInBounds i (sa,na+nb,pw)).eraseIdxIfInBounds (i+1)→(arrOf st').toList=X++S++Y→Mgd R S1 S2 S→Q true st'):wpS (model prog w) A E s (mergeAt' i) Q st:=by
 have sz:(arrOf st).size=sa+na+nb+Y.length:=by rw[←Cc,ha];simp;lia
 have g1:∀j (hj:j < S1.length),gt (arrOf st) (sa+j)=S1[j]:=fun j hj=>by
  rw[gt_eq (by rw[Cc];lia)]
  simp only[ha]
  rw[Fz (by simp;lia),Fz (by simp;lia),Gp (by lia)]
  congr 1;lia
 have g2:∀j (hj:j < S2.length),gt (arrOf st) (sb+j)=S2[j]:=fun j hj=>by
  rw[gt_eq (by rw[Cc];lia)]
  simp only[ha]
  rw[Fz (by simp;lia),Gp (by simp;lia)]
  congr 1;simp;lia
 have q1:∀j,j < na→P (gt (arrOf st) (sa+j)):=fun j hj=>by rw[g1 j (by lia)];exact pp _ (DC _ (Dm _))
 have q2:∀j,j < nb→P (gt (arrOf st) (sb+j)):=fun j hj=>by rw[g2 j (by lia)];exact pp _ (Cz _ (Dm _))
 refine Ca (Hw ?_)
 rw[h1,h2]
 dsimp only
 refine Ca (vo ?_)
 refine Ca (el (show sb < (arrOf st).size by lia) ?_)
 refine Ca (uo K hk (show sa+na≤(arrOf st).size by lia) p1 (by have:=q2 0 p2;simpa using this) q1 O.tr (fun x y h3 h4=>by
  rw[g1 x (by lia),g1 y (by lia)]
  exact Cw.mp O.sA _ _ _ _ h3) fun k kn k1 k2=>?_)
 dsimp only
 have hb0:gt (arrOf st) sb=S2[0]'(by lia):=by have:=g2 0 (by lia);simpa using this
 rw[hb0] at k1 k2
 have hU:∀x∈S1.take k,∀y∈S2,R x y=true:=fun x hx y hy=>by
  obtain ⟨j,hj,rfl⟩:=DP hx
  have jk:j < k:=by simp at hj;lia
  have z:=k1 j jk
  rw[g1 j (by lia)] at z
  have z2:=O.tot _ (Dm _) _ (Dm _) z
  rw[Hb]
  exact e_ O.tr O.sB (show 0 < S2.length by lia) z2 y (by simpa using hy)
 have f1:∀v∈S1.drop k,R (S2[0]'(by lia)) v=true:=fun v hv=>by
  obtain ⟨j,hj,rfl⟩:=DP hv
  rw[FH] at hj
  rw[Gb,←g1 (k+j) (by lia)]
  exact k2 _ (by lia) (by lia)
 by_cases e1:(na - k==0)=true
 ·rw[if_pos e1]
  have e1':na - k=0:=by simpa using e1
  refine B_ (h (S1++S2) _ hk hf rfl (by rw[←CA];exact ha) ⟨JI _,Dv.mpr ⟨O.sA,O.sB,fun x hx y hy=>hU x (by rw[Fc (by lia)];exact hx) y hy⟩⟩)
 rw[if_neg e1]
 have e1':0 < na - k:=by have z:¬ na - k=0:=(by simpa using e1);lia
 have hlast:gt (arrOf st) (sa+k+(na - k) - 1)=S1[na - 1]'(by lia):=by
  rw[←g1 (na - 1) (by lia)];congr 1;lia
 refine Ca (el (show sa+k+(na - k) - 1 < (arrOf st).size by lia) ?_)
 refine Ca (mM K hk (show sb+nb≤(arrOf st).size by lia) (by lia) (by rw[hlast,←g1 (na - 1) (by lia)];exact q1 _ (by lia)) q2 O.tr (fun x y h3 h4=>by
  rw[g2 x (by lia),g2 y (by lia)]
  exact Cw.mp O.sB _ _ _ _ h3) fun l ln m1 m2=>?_)
 dsimp only
 rw[hlast] at m1 m2
 have hZ:∀x∈S1,∀z∈S2.drop l,R x z=true:=fun x hx z hz=>by
  obtain ⟨j,hj,rfl⟩:=DP hz
  rw[FH] at hj
  obtain ⟨i,hi,rfl⟩:=DP hx
  rw[Gb]
  have z:=m2 (l+j) (by lia) (by lia)
  rw[g2 (l+j) (by lia)] at z
  have z2:=O.tot _ (Dm _) _ (Dm _) z
  rcases D3 i (na - 1) with c |c
  ·exact O.tr _ _ _ (Cw.mp O.sA i (na - 1) hi (by lia) c) z2
  ·have:i=na - 1:=by lia
   subst this
   exact z2
 have f2:∀v∈S2.take l,R v (S1[na - 1]'(by lia))=true:=fun v hv=>by
  obtain ⟨j,hj,rfl⟩:=DP hv
  have jl:j < l:=by simp at hj;lia
  rw[Hb,←g2 j (by lia)]
  exact m1 _ jl
 have l0:0 < l:=by
  rcases GO l with c |c
  ·exfalso
   have z:=m2 0 (by lia) p2
   rw[g2 0 (by lia)] at z
   have z2:=f1 (S1[na - 1]'(by lia)) (by
    have:S1[na - 1]'(by lia)=(S1.drop k)[na - 1 - k]'(by rw[FH];lia):=by rw[Gb];congr 1;lia
    rw[this];exact Dm _)
   rw[z2] at z;cases z
  ·exact c
 rw[if_neg (by simp;lia)]
 have ll:∀{a:Array Keyed},a.toList.length=a.size:=by simp
 have eL:(arrOf st).toList=(X++S1.take k)++S1.drop k++(S2.take l++(S2.drop l++Y)):=by
  rw[ha]
  conv=>lhs;rw[←CZ k S1,←CZ l S2]
  simp only[CA]
 have ex1:((arrOf st).extract (sa+k) sb).toList=S1.drop k:=by
  rw[show sb=sa+k+(na - k) by lia,ge,eL]
  have:=seg (X++S1.take k) (S1.drop k) (S2.take l++(S2.drop l++Y))
  rw[show (X++S1.take k).length=sa+k by simp;lia,show (S1.drop k).length=na - k by simp;lia] at this
  exact this
 have ex2:((arrOf st).extract sb (sb+l)).toList=S2.take l:=by
  rw[ge,ha]
  have:=seg (X++S1) (S2.take l) (S2.drop l++Y)
  rw[show (X++S1).length=sb by simp;lia,show (S2.take l).length=l by simp;lia] at this
  rw[←CA,CA (X++S1),CZ] at this
  exact this
 generalize hx:(arrOf st).extract (sa+k) sb=x at ex1 ⊢
 generalize hy:(arrOf st).extract sb (sb+l)=y at ex2 ⊢
 have sx:x.size=na - k:=by rw[←ll,ex1];simp;lia
 have sy:y.size=l:=by rw[←ll,ex2];simp;lia
 have O2:MO R x.toList y.toList:=by
  rw[ex1,ex2]
  exact ⟨O.tr,O.sA.sublist (Fy _ _),O.sB.sublist (Ki _ _),fun u hu v hv=>O.tot u (EI hu) v (Gi hv)⟩
 have gx:gt x (x.size - 1)=S1[na - 1]'(by lia):=by
  rw[gt_eq (by rw[ll];lia)]
  simp only[ex1,sx,Gb]
  congr 1;lia
 have gy:gt y 0=S2[0]'(by lia):=by
  rw[gt_eq (by rw[ll];lia)]
  simp only[ex2,Hb]
 have px:∀u∈x.toList,P u:=fun u hu=>pp u (DC _ (EI (by rw[ex1] at hu;exact hu)))
 have py:∀u∈y.toList,P u:=fun u hu=>pp u (Cz _ (Gi (by rw[ex2] at hu;exact hu)))
 have hlo:∀v∈y.toList,R v (gt x (x.size - 1))=true:=fun v hv=>by rw[gx];exact f2 v (by rw[ex2] at hv;exact hv)
 have hhi:∀v∈x.toList,R (gt y 0) v=true:=fun v hv=>by rw[gy];exact f1 v (by rw[ex1] at hv;exact hv)
 have fin:∀r:Array Keyed,Mgd R x.toList y.toList r.toList→((r.toList.zipIdx).foldl (fun a (x:Keyed×Nat)=>a.setIfInBounds (sa+k+x.2) x.1) (arrOf st)).toList=X++(S1.take k++r.toList++S2.drop l)++Y∧Mgd R S1 S2 (S1.take k++r.toList++S2.drop l):=fun r m=>by
  have lr:r.toList.length=(S1.drop k++S2.take l).length:=by rw[←ex1,←ex2];exact m.1.length_eq
  constructor
  ·rw[nT r.toList 0 (sa+k) (X++S1.take k) (S1.drop k++S2.take l++(S2.drop l++Y)) _ (by rw[eL];simp only[CA]) (by simp;lia) (by rw[lr,CW (as:=S1.drop k++S2.take l)];lia)]
   rw[lr,List.drop_left]
   simp only[CA]
  ·have mp:r.toList.Perm (S1.drop k++S2.take l):=by rw[←ex1,←ex2];exact m.1
   constructor
   ·refine ((mp.append_left _).append_right _).trans ?_
    have e:S1++S2=S1.take k++(S1.drop k++S2.take l)++S2.drop l:=by
     conv=>lhs;rw[←CZ k S1,←CZ l S2]
     simp only[CA]
    rw[e]
   ·have sp1:=O.sA
    rw[←CZ k S1] at sp1
    have sp2:=O.sB
    rw[←CZ l S2] at sp2
    have c1:=Dv.mp sp1
    have c2:=Dv.mp sp2
    refine Dv.mpr ⟨Dv.mpr ⟨c1.1,m.2,fun u hu v hv=>?_⟩,c2.2.1,fun u hu v hv=>?_⟩
    ·rcases Dq.mp (mp.mem_iff.mp hv) with z |z
     ·exact c1.2.2 u hu v z
     ·exact hU u hu v (Gi z)
    ·rcases Dq.mp hu with z |z
     ·exact hU u z v (EI hv)
     ·rcases Dq.mp (mp.mem_iff.mp z) with z |z
      ·exact hZ u (EI z) v hv
      ·exact c2.2.2 u z v hv
 have fin2:∀(r:Array Keyed) g,Mgd R x.toList y.toList r.toList→Q true (SortSt.mk' (kindOf st) ((r.toList.zipIdx).foldl (fun a (x:Keyed×Nat)=>a.setIfInBounds (sa+k+x.2) x.1) (arrOf st)) (((EH st).setIfInBounds i (sa,na+nb,pw)).eraseIdxIfInBounds (i+1)) g (HF st)):=fun r g m=>h _ _ hk hf rfl (fin r m).1 (fin r m).2
 by_cases hc:na - k≤l
 ·rw[if_pos hc]
  refine Ca (mlo K O2 px py (by lia) (by lia) (hhi _ (aL (by lia))) hlo hk fun r g m=>?_)
  refine Ca (FM ?_)
  refine Ca (Hw ?_)
  have:=fin2 r g m
  refine B_ ?_
  show Q (HF st).isNone _
  rw[show (HF st).isNone=true by rw[hf];rfl]
  exact this
 ·rw[if_neg hc]
  refine Ca (mhi K O2 px py (by lia) (by lia) (hlo _ (aL (by lia))) hhi hk fun r g m=>?_)
  refine Ca (FM ?_)
  refine Ca (Hw ?_)
  have:=fin2 r g m
  refine B_ ?_
  show Q (HF st).isNone _
  rw[show (HF st).isNone=true by rw[hf];rfl]
  exact this
end
section
variable {prog:Cy}{w:World}{A:Dc}{E:Value→B7→Prop}{s:B7}{κ:HE}{P:Keyed→Prop}{R:Keyed→Keyed→Bool}
structure Ord (P:Keyed→Prop) (R:Keyed→Keyed→Bool) (l:List Keyed):Prop where
 tr:∀x y z,R x y=true→R y z=true→R x z=true
 tot:∀x∈l,∀y∈l,x≠y→R x y=false→R y x=true
 nd:l.Nodup
 hp:∀x∈l,P x
structure Stt (κ:HE) (l:List Keyed) (pd:Array (Nat×Nat×Nat)) (st:En):Prop where
 kind:kindOf st=κ
 failed:HF st=none
 perm:(arrOf st).toList.Perm l
 pend:EH st=pd
variable {l:List Keyed}{pd:Array (Nat×Nat×Nat)}
theorem Stt.size {st:En} (S:Stt κ l pd st):(arrOf st).size=l.length:=by rw[←Cc,S.perm.length_eq]
theorem Stt.p (O:Ord P R l) {st:En} (S:Stt κ l pd st) {i:Nat} (h:i < l.length):P (gt (arrOf st) i):=O.hp _ (S.perm.mem_iff.mp (aL (by rw[S.size];exact h)))
theorem Stt.tot (O:Ord P R l) {st:En} (S:Stt κ l pd st) {i j:Nat} (hi:i < l.length) (hj:j < l.length) (hne:i≠j) (hr:R (gt (arrOf st) i) (gt (arrOf st) j)=false):R (gt (arrOf st) j) (gt (arrOf st) i)=true:=by
 refine O.tot _ (S.perm.mem_iff.mp (aL (by rw[S.size];exact hi))) _ (S.perm.mem_iff.mp (aL (by rw[S.size];exact hj))) (fun e=>hne ?_) hr
 have li:i < (arrOf st).toList.length:=by rw[Cc,S.size];exact hi
 have lj:j < (arrOf st).toList.length:=by rw[Cc,S.size];exact hj
 rw[gt_eq li,gt_eq lj] at e
 exact (IK (S.perm.nodup_iff.mpr O.nd)).mp e
theorem Stt.arr {st:En} (S:Stt κ l pd st) {a:Array Keyed} (h:a.Perm (arrOf st)):Stt κ l pd (setArr st a):=⟨S.kind,S.failed,(Array.perm_iff_toList_perm.mp h).trans S.perm,S.pend⟩
theorem ltK (K:Asks prog w A E s κ P R) (O:Ord P R l) {i j:Nat}{st:En}{Q:Option Bool→En→Prop} (S:Stt κ l pd st) (hi:i < l.length) (hj:j < l.length) (h:Q (some (R (gt (arrOf st) i) (gt (arrOf st) j))) st):wpS (model prog w) A E s (ltAt' i j) Q st:=by
 rw[ltAt'_eq]
 refine Ca (Hw ?_)
 refine Ca (el (by rw[S.size];exact hi) ?_)
 refine Ca (el (by rw[S.size];exact hj) ?_)
 exact K _ _ _ _ (S.p O hi) (S.p O hj) S.kind h
theorem oj {a b:Array Keyed}{i j:Nat} (h:a[i]?=b[j]?):gt a i=gt b j:=by
 unfold gt
 rw[D9,D9,h]
def Up (R:Keyed→Keyed→Bool) (a:Array Keyed) (lo m:Nat):Prop:=∀i j,i < j→j < m→R (gt a (lo+i)) (gt a (lo+j))=true
def Dn (R:Keyed→Keyed→Bool) (a:Array Keyed) (lo m:Nat):Prop:=∀i j,i < j→j < m→R (gt a (lo+j)) (gt a (lo+i))=true
def Kept (a b:Array Keyed) (lo:Nat):Prop:=∀j,j < lo→gt b j=gt a j
theorem Ah {a:Array Keyed}{src d:Nat} (hs:src < a.size) (hd:d≤src) (k:Nat):gt (bubble a src d) k=if k=src - d then gt a src else if src - d < k∧k≤src then gt a (k - 1) else gt a k:=by
 have e:=getElem?_bubble hs d hd k
 by_cases h1:k=src - d
 ·rw[if_pos h1] at e ⊢;exact oj e
 ·rw[if_neg h1] at e ⊢
  by_cases h2:src - d < k∧k≤src
  ·rw[if_pos h2] at e ⊢;exact oj e
  ·rw[if_neg h2] at e ⊢;exact oj e
theorem p8 {a:Array Keyed}{i j:Nat} (hj:j≤a.size) (k:Nat):gt (mirror a i j ((j - i) / 2)) k=if i≤k∧k < j then gt a (i+j - 1 - k) else gt a k:=by
 have e:=getElem?_mirror_all (xs:=a) (i:=i) hj k
 by_cases h1:i≤k∧k < j
 ·rw[if_pos h1] at e ⊢;exact oj e
 ·rw[if_neg h1] at e ⊢;exact oj e
variable (K:Asks prog w A E s κ P R)
include K
theorem BC (O:Ord P R l) {lo n ok:Nat}{st:En}{Q:Bool→En→Prop} (hn:lo+n≤l.length) (hok:ok≤n) (S:Stt κ l pd st) (hs:Up R (arrOf st) lo ok)
  (h:∀st',Stt κ l pd st'→Kept (arrOf st) (arrOf st') lo→Up R (arrOf st') lo n→Q true st'):wpS (model prog w) A E s (binarySort' lo n ok) Q st:=by
 rw[binarySort'_eq]
 refine Ca (EG (Ez (I:=fun k c st'=>c=(none,())∧Stt κ l pd st'∧Kept (arrOf st) (arrOf st') lo∧Up R (arrOf st') lo (min k n))
  (Q:=fun c st'=>c=(none,())∧Stt κ l pd st'∧Kept (arrOf st) (arrOf st') lo∧Up R (arrOf st') lo n) ?step ?fin ?init) ?post)
 case post=>
  rintro c st' ⟨rfl,S',k',u'⟩
  exact B_ (h st' S' k' u')
 case init=>
  refine ⟨rfl,S,fun _ _=>rfl,fun i j hij hj=>?_⟩
  exact hs i j hij (by lia)
 case fin=>
  rintro c st' ⟨hc,S',k',u'⟩
  refine ⟨hc,S',k',?_⟩
  rwa [show min (max (max ok 1) n) n=n by lia] at u'
 case step=>
  rintro k c st' hak hkn ⟨rfl,S',k',u'⟩
  rw[show min k n=k by lia] at u'
  have hk:lo+k < l.length:=by lia
  refine Ca (EG (Ez (I:=fun x c st''=>st''=st'∧∃p r,c=(none,p,r)∧p≤r∧r≤k∧r - p≤k - x∧
    (∀i,i < p→R (gt (arrOf st') (lo+i)) (gt (arrOf st') (lo+k))=true)∧(∀i,r≤i→i < k→R (gt (arrOf st') (lo+k)) (gt (arrOf st') (lo+i))=true))
   (Q:=fun c st''=>st''=st'∧∃p r,c=(none,p,r)∧p≤k∧
    (∀i,i < p→R (gt (arrOf st') (lo+i)) (gt (arrOf st') (lo+k))=true)∧(∀i,p≤i→i < k→R (gt (arrOf st') (lo+k)) (gt (arrOf st') (lo+i))=true)) ?istep ?ifin ?iinit) ?ipost)
  case iinit=>exact ⟨rfl,0,k,rfl,by lia,by lia,by lia,fun i hi=>by lia,fun i h1 h2=>by lia⟩
  case ifin=>
   rintro c st'' ⟨rfl,p,r,rfl,hlr,hrk,hm,hlo,hhi⟩
   have:p=r:=by lia
   subst this
   exact ⟨rfl,p,p,rfl,hrk,hlo,hhi⟩
  case istep=>
   rintro x c st'' _ hxk ⟨rfl,p,r,rfl,hlr,hrk,hm,hlo,hhi⟩
   dsimp only
   by_cases hge:p ≥ r
   ·rw[if_pos hge]
    have:p=r:=by lia
    subst this
    exact B_ ⟨rfl,p,p,rfl,hrk,hlo,hhi⟩
   ·rw[if_neg hge]
    refine Ca (ltK K O S' hk (show lo+(p+r) / 2 < l.length by lia) ?_)
    dsimp only
    by_cases hless:R (gt (arrOf st'') (lo+k)) (gt (arrOf st'') (lo+(p+r) / 2))=true
    ·rw[if_pos hless]
     refine B_ ⟨rfl,p,(p+r) / 2,rfl,by lia,by lia,by lia,hlo,fun i h1 h2=>?_⟩
     rcases CI h1 with z |z
     ·exact O.tr _ _ _ hless (u' _ _ z h2)
     ·rw[←z];exact hless
    ·rw[if_neg hless]
     have ht:=S'.tot O hk (show lo+(p+r) / 2 < l.length by lia) (by lia) (by simpa using hless)
     refine B_ ⟨rfl,(p+r) / 2+1,r,rfl,by lia,by lia,by lia,fun i h1=>?_,hhi⟩
     rcases CI (Ee h1) with z |z
     ·exact O.tr _ _ _ (u' _ _ z (by lia)) ht
     ·rw[z];exact ht
  case ipost=>
   rintro c st'' ⟨rfl,p,r,rfl,hlk,hlo,hhi⟩
   show wpS _ _ _ _ (do moveDown' (lo+k) (lo+p);pure (ForInStep.yield (none,()))) _ _
   rw[moveDown'_eq]
   have hks:lo+k < (arrOf st'').size:=by rw[S'.size];exact hk
   have at_:∀j,gt (bubble (arrOf st'') (lo+k) (lo+k - (lo+p))) j=if j=lo+p then gt (arrOf st'') (lo+k) else if lo+p < j∧j≤lo+k then gt (arrOf st'') (j - 1) else gt (arrOf st'') j:=fun j=>by
    have:=Ah hks (show lo+k - (lo+p)≤lo+k by lia) j
    rwa [show lo+k - (lo+k - (lo+p))=lo+p by lia] at this
   refine Ca (FM (B_ ⟨rfl,S'.arr (bubble_perm _ _ _),fun j hj=>?_,?_⟩))
   ·show gt (bubble (arrOf st'') (lo+k) (lo+k - (lo+p))) j=_
    rw[at_,if_neg (by lia),if_neg (by lia)]
    exact k' j hj
   ·rw[show min (k+1) n=k+1 by lia]
    intro i j hij hj
    show R (gt (bubble (arrOf st'') (lo+k) (lo+k - (lo+p))) (lo+i)) (gt (bubble (arrOf st'') (lo+k) (lo+k - (lo+p))) (lo+j))=true
    rw[at_,at_]
    have sh:∀q,lo+p < lo+q→lo+q - 1=lo+(q - 1):=fun q hq=>by lia
    by_cases a1:lo+i=lo+p
    ·rw[if_pos a1,if_neg (by lia),if_pos (by lia),sh j (by lia)]
     exact hhi _ (by lia) (by lia)
    ·rw[if_neg a1]
     by_cases a2:lo+p < lo+i∧lo+i≤lo+k
     ·rw[if_pos a2,if_neg (by lia),if_pos (by lia),sh i (by lia),sh j (by lia)]
      exact u' _ _ (by lia) (by lia)
     ·rw[if_neg a2]
      by_cases b1:lo+j=lo+p
      ·rw[if_pos b1];exact hlo _ (by lia)
      ·rw[if_neg b1]
       by_cases b2:lo+p < lo+j∧lo+j≤lo+k
       ·rw[if_pos b2,sh j (by lia)]
        exact u' _ _ (by lia) (by lia)
       ·rw[if_neg b2];exact u' _ _ hij (by lia)
end
section
variable {prog:Cy}{w:World}{A:Dc}{E:Value→B7→Prop}{s:B7}{κ:HE}{P:Keyed→Prop}{R:Keyed→Keyed→Bool}{l:List Keyed}{pd:Array (Nat×Nat×Nat)}
theorem Up.more (tr:∀x y z,R x y=true→R y z=true→R x z=true) {a:Array Keyed}{lo m:Nat} (S:Up R a lo m) (h1:1≤m) (h:R (gt a (lo+m - 1)) (gt a (lo+m))=true):Up R a lo (m+1):=fun i j hij hj=>by
 rcases CI (Ee hj) with z |z
 ·exact S i j hij z
 ·subst z
  have e:lo+(j - 1)=lo+j - 1:=by lia
  rcases CI (show i≤j - 1 by lia) with y |y
  ·have:=S i (j - 1) y (by lia)
   rw[e] at this
   exact tr _ _ _ this h
  ·subst y;rw[e];exact h
theorem Dn.more (tr:∀x y z,R x y=true→R y z=true→R x z=true) {a:Array Keyed}{lo m:Nat} (S:Dn R a lo m) (h1:1≤m) (h:R (gt a (lo+m)) (gt a (lo+m - 1))=true):Dn R a lo (m+1):=fun i j hij hj=>by
 rcases CI (Ee hj) with z |z
 ·exact S i j hij z
 ·subst z
  have e:lo+(j - 1)=lo+j - 1:=by lia
  rcases CI (show i≤j - 1 by lia) with y |y
  ·have:=S i (j - 1) y (by lia)
   rw[e] at this
   exact tr _ _ _ h this
  ·subst y;rw[e];exact h
theorem rvs {i j:Nat}{Q:Unit→En→Prop}{st:En} (h:Q () (setArr st (mirror (arrOf st) i j ((j - i) / 2)))):wpS (model prog w) A E s (reverseSlice' i j) Q st:=by
 rw[reverseSlice'_eq];exact FM h
variable (K:Asks prog w A E s κ P R)
include K
theorem cnt (O:Ord P R l) {lo nrem:Nat}{st:En}{Q:Option Nat→En→Prop} (hn:lo+nrem≤l.length) (h1:1≤nrem) (S:Stt κ l pd st)
  (h:∀m st',Stt κ l pd st'→Kept (arrOf st) (arrOf st') lo→1≤m→m≤nrem→Up R (arrOf st') lo m→Q (some m) st'):wpS (model prog w) A E s (countRun' lo nrem) Q st:=by
 rw[countRun'_eq]
 dsimp only
 refine Ca (EG (Ez (I:=fun x c st'=>st'=st∧c=(none,x)∧Up R (arrOf st) lo x) (Q:=fun c st'=>st'=st∧∃n,c=(none,n)∧1≤n∧n≤nrem∧Up R (arrOf st) lo n∧(n < nrem→R (gt (arrOf st) (lo+n)) (gt (arrOf st) (lo+n - 1))=true)) ?s1 ?f1 ⟨rfl,rfl,fun i j h2 h3=>by lia⟩) ?p1)
 case s1=>
  rintro x c st' hx1 hx ⟨rfl,rfl,u⟩
  dsimp only
  refine Ca (ltK K O S (show lo+x < l.length by lia) (show lo+x - 1 < l.length by lia) ?_)
  dsimp only
  by_cases hc:R (gt (arrOf st') (lo+x)) (gt (arrOf st') (lo+x - 1))=true
  ·rw[if_pos hc]
   exact B_ ⟨rfl,x,rfl,hx1,by lia,u,fun _=>hc⟩
  ·rw[if_neg hc]
   exact B_ ⟨rfl,rfl,u.more O.tr hx1 (S.tot O (by lia) (by lia) (by lia) (by simpa using hc))⟩
 case f1=>
  rintro c st' ⟨rfl,rfl,u⟩
  rw[show max 1 nrem=nrem by lia] at u ⊢
  exact ⟨rfl,nrem,rfl,h1,B9 _,u,fun z=>by lia⟩
 case p1=>
  rintro c st' ⟨rfl,n,rfl,n1,n2,u,ht⟩
  dsimp only
  by_cases e:(n==nrem)=true
  ·rw[if_pos e]
   exact B_ (h n _ S (fun _ _=>rfl) n1 n2 u)
  rw[if_neg e]
  have e':n < nrem:=by have z:¬ n=nrem:=(by simpa using e);lia
  by_cases hg:n >1
  ·rw[if_pos hg]
   refine Ca (ltK K O S (show lo < l.length by lia) (show lo+n - 1 < l.length by lia) ?_)
   dsimp only
   have z:=u 0 (n - 1) (by lia) (by lia)
   rw[FS,show lo+(n - 1)=lo+n - 1 by lia] at z
   rw[if_pos z]
   exact B_ (h n _ S (fun _ _=>rfl) n1 n2 u)
  rw[if_neg hg]
  obtain rfl:n=1:=by lia
  have D2:Dn R (arrOf st') lo 2:=Dn.more O.tr (fun i j x y=>by lia) (B9 _) (ht e')
  refine Ca (ru ?_)
  try dsimp only
  refine Ca (EG (Ez (I:=fun x c st2=>st2=st'∧c=(none,x,0)∧Dn R (arrOf st') lo x) (Q:=fun c st2=>st2=st'∧∃n,c=(none,n,0)∧2≤n∧n≤nrem∧Dn R (arrOf st') lo n) ?s2 ?f2 ⟨rfl,rfl,D2⟩) ?p2)
  case s2=>
   rintro x c st2 hx1 hx ⟨rfl,rfl,u⟩
   dsimp only
   refine Ca (ltK K O S (show lo+x < l.length by lia) (show lo+x - 1 < l.length by lia) ?_)
   dsimp only
   by_cases hc:R (gt (arrOf st2) (lo+x)) (gt (arrOf st2) (lo+x - 1))=true
   ·rw[if_pos hc,if_neg (by lia)]
    exact B_ ⟨rfl,rfl,u.more O.tr (by lia) hc⟩
   ·rw[if_neg hc]
    refine Ca (ltK K O S (show lo+x - 1 < l.length by lia) (show lo+x < l.length by lia) ?_)
    dsimp only
    rw[if_pos (S.tot O (by lia) (by lia) (by lia) (by simpa using hc))]
    exact B_ ⟨rfl,x,rfl,hx1,by lia,u⟩
  case f2=>
   rintro c st2 ⟨rfl,rfl,u⟩
   rw[show max (1+1) nrem=nrem by lia] at u ⊢
   exact ⟨rfl,nrem,rfl,by lia,B9 _,u⟩
  case p2=>
   rintro c st2 ⟨rfl,n,rfl,n1,n2,d⟩
   dsimp only
   rw[if_neg (by lia)]
   refine Ca (rvs ?_)
   have sz:=S.size
   have S2:Stt κ l pd (setArr st2 (mirror (arrOf st2) lo (lo+n) ((lo+n - lo) / 2))):=S.arr (mirror_perm _ _ _ _)
   have kp:Kept (arrOf st2) (mirror (arrOf st2) lo (lo+n) ((lo+n - lo) / 2)) lo:=fun j hj=>by
    rw[p8 (by lia),if_neg (by lia)]
   have up:Up R (mirror (arrOf st2) lo (lo+n) ((lo+n - lo) / 2)) lo n:=fun i j hij hj=>by
    rw[p8 (by lia),p8 (by lia),if_pos (by lia),if_pos (by lia),show lo+(lo+n) - 1 - (lo+i)=lo+(n - 1 - i) by lia,show lo+(lo+n) - 1 - (lo+j)=lo+(n - 1 - j) by lia]
    exact d _ _ (by lia) (by lia)
   generalize hst:setArr st2 (mirror (arrOf st2) lo (lo+n) ((lo+n - lo) / 2))=st3 at S2 ⊢
   have ha:arrOf st3=mirror (arrOf st2) lo (lo+n) ((lo+n - lo) / 2):=by rw[←hst]
   rw[←ha] at kp up
   refine Ca (EG (Ez (I:=fun x c st'=>st'=st3∧c=(none,x)∧Up R (arrOf st3) lo x) (Q:=fun c st'=>st'=st3∧∃m,c=(none,m)∧1≤m∧m≤nrem∧Up R (arrOf st3) lo m) ?s3 ?f3 ⟨rfl,rfl,up⟩) ?p3)
   case s3=>
    rintro x c st' hx1 hx ⟨rfl,rfl,u⟩
    dsimp only
    refine Ca (ltK K O S2 (show lo+x < l.length by lia) (show lo+x - 1 < l.length by lia) ?_)
    dsimp only
    by_cases hc:R (gt (arrOf st') (lo+x)) (gt (arrOf st') (lo+x - 1))=true
    ·rw[if_pos hc]
     exact B_ ⟨rfl,x,rfl,by lia,by lia,u⟩
    ·rw[if_neg hc]
     exact B_ ⟨rfl,rfl,u.more O.tr (by lia) (S2.tot O (by lia) (by lia) (by lia) (by simpa using hc))⟩
   case f3=>
    rintro c st' ⟨rfl,rfl,u⟩
    rw[show max n nrem=nrem by lia] at u ⊢
    exact ⟨rfl,nrem,rfl,h1,B9 _,u⟩
   case p3=>
    rintro c st' ⟨rfl,m,rfl,m1,m2,u⟩
    exact B_ (h m _ S2 kp m1 m2 u)
end
section
variable {prog:Cy}{w:World}{A:Dc}{E:Value→B7→Prop}{s:B7}{κ:HE}{P:Keyed→Prop}{R:Keyed→Keyed→Bool}{l:List Keyed}
def Ch (R:Keyed→Keyed→Bool) (a:Array Keyed):List (Nat×Nat×Nat)→Nat→Nat→Prop
 |[],x,y=>x=y
 |r::t,x,y=>r.1=x∧0 < r.2.1∧Up R a x r.2.1∧Ch R a t (x+r.2.1) y
theorem Ch.len {a:Array Keyed}:∀{p:List (Nat×Nat×Nat)}{x y:Nat},Ch R a p x y→x+p.length≤y
 |[],x,y,h=>by have:x=y:=h;simp;lia
 |r::t,x,y,h=>by
  have:=Ch.len h.2.2.2
  have:=h.2.1
  simp;lia
theorem Ch.app {a:Array Keyed}:∀{p q:List (Nat×Nat×Nat)}{x y:Nat},Ch R a (p++q) x y↔∃z,Ch R a p x z∧Ch R a q z y
 |[],q,x,y=>⟨fun h=>⟨x,rfl,h⟩,fun ⟨z,h1,h2⟩=>by have:x=z:=h1;subst this;exact h2⟩
 |r::t,q,x,y=>by
  constructor
  ·rintro ⟨h1,h2,h3,h4⟩
   obtain ⟨z,z1,z2⟩:=Ch.app.mp h4
   exact ⟨z,⟨h1,h2,h3,z1⟩,z2⟩
  ·rintro ⟨z,⟨h1,h2,h3,h4⟩,h5⟩
   exact ⟨h1,h2,h3,Ch.app.mpr ⟨z,h4,h5⟩⟩
theorem Ch.congr {a b:Array Keyed}:∀{p:List (Nat×Nat×Nat)}{x y:Nat},(∀j,x≤j→j < y→gt b j=gt a j)→Ch R a p x y→Ch R b p x y
 |[],x,y,_,h=>h
 |r::t,x,y,e,h=>by
  have:=Ch.len h.2.2.2
  refine ⟨h.1,h.2.1,fun i j hij hj=>?_,Ch.congr (fun j h1 h2=>e j (by lia) h2) h.2.2.2⟩
  rw[e _ (by lia) (by lia),e _ (by lia) (by lia)]
  exact h.2.2.1 i j hij hj
theorem sV (a:Array Keyed) (j:Nat):gt a j=a.toList.getD j (CO,CO):=by simp[gt]
theorem Bn {X Y:List Keyed}{j:Nat}{d:Keyed} (h:j < X.length):(X++Y).getD j d=X.getD j d:=by
 rw[CC,CC,CF h]
theorem yI {X Y:List Keyed}{j:Nat}{d:Keyed} (h:X.length≤j):(X++Y).getD j d=Y.getD (j - X.length) d:=by
 rw[CC,CC,CG h]
theorem An {α:Type} (X:List α) (r1 r2 v:α) (Y:List α):((X++r1::r2::Y).set X.length v).eraseIdx (X.length+1)=X++v::Y:=by
 rw[Jt _ _ (B9 _),Kz,List.eraseIdx_append_of_length_le (by lia),Nat.add_sub_cancel_left]
 rfl
theorem parts (L:List Keyed) (x y z:Nat):L=L.take x++(L.drop x).take y++(L.drop (x+y)).take z++L.drop (x+y+z):=by
 have h1:=CZ x L
 have h2:=CZ y (L.drop x)
 have h3:=CZ z (L.drop (x+y))
 rw[LJ] at h2 h3
 rw[CA,h3,CA,h2,h1]
variable (K:Asks prog w A E s κ P R)
include K
theorem Ak (O:Ord P R l) {p:Array (Nat×Nat×Nat)}{lo i:Nat}{st:En}{Q:Bool→En→Prop} (S:Stt κ l p st) (C:Ch R (arrOf st) p.toList 0 lo) (hlo:lo≤l.length) (hi:i+1 < p.size)
  (h:∀p' st',Stt κ l p' st'→Ch R (arrOf st') p'.toList 0 lo→p'.size+1=p.size→(∀j,lo≤j→gt (arrOf st') j=gt (arrOf st) j)→Q true st'):wpS (model prog w) A E s (mergeAt' i) Q st:=by
 have lp:p.toList.length=p.size:=by simp
 have hi0:i < p.size:=by lia
 have ep:p.toList=p.toList.take i++(p[i]::p[i+1]::p.toList.drop (i+2)):=by
  conv=>lhs;rw[←CZ i p.toList,Dp (show i < p.toList.length by lia),Dp (show i+1 < p.toList.length by lia)]
  rfl
 have h1:(EH st)[i]?=some (p[i].1,p[i].2.1,p[i].2.2):=by rw[S.pend,C7 hi0]
 have h2:(EH st)[i+1]?=some (p[i+1].1,p[i+1].2.1,p[i+1].2.2):=by rw[S.pend,C7 hi]
 rw[ep] at C
 obtain ⟨sa,C1,e1,n1,u1,e2,n2,u2,C2⟩:=Ch.app.mp C
 have C2l:=C2.len
 generalize hp1:p[i]=r1 at *
 generalize hp2:p[i+1]=r2 at *
 obtain ⟨s1,na,pw⟩:=r1
 obtain ⟨sb,nb,pw2⟩:=r2
 dsimp only at *
 subst e1
 subst e2
 have sz:=S.size
 have la:(arrOf st).toList.length=l.length:=by rw[Cc,sz]
 have ha:=parts (arrOf st).toList s1 na nb
 have lX:((arrOf st).toList.take s1).length=s1:=by simp;lia
 have l1:(((arrOf st).toList.drop s1).take na).length=na:=by simp;lia
 have l2:(((arrOf st).toList.drop (s1+na)).take nb).length=nb:=by simp;lia
 have c1:∀j (hj:j < (((arrOf st).toList.drop s1).take na).length),(((arrOf st).toList.drop s1).take na)[j]=gt (arrOf st) (s1+j):=fun j hj=>by
  rw[gt_eq (by lia)];simp
 have c2:∀j (hj:j < (((arrOf st).toList.drop (s1+na)).take nb).length),(((arrOf st).toList.drop (s1+na)).take nb)[j]=gt (arrOf st) (s1+na+j):=fun j hj=>by
  rw[gt_eq (by lia)];simp
 generalize hX:(arrOf st).toList.take s1=X at *
 generalize hS1:((arrOf st).toList.drop s1).take na=S1 at *
 generalize hS2:((arrOf st).toList.drop (s1+na)).take nb=S2 at *
 generalize hY:(arrOf st).toList.drop (s1+na+nb)=Y at *
 have mem:∀x∈S1++S2,x∈l:=fun x hx=>S.perm.mem_iff.mp (by
  rw[ha]
  rcases Dq.mp hx with z |z <;>simp[z])
 have nd:(X++S1++S2++Y).Nodup:=by rw[←ha];exact S.perm.nodup_iff.mpr O.nd
 have MO1:MO R S1 S2:=by
  refine ⟨O.tr,Cw.mpr fun i j hi hj hij=>?_,Cw.mpr fun i j hi hj hij=>?_,fun x hx y hy hr=>O.tot y (mem y (Cz _ hy)) x (mem x (DC _ hx)) (fun e=>?_) hr⟩
  ·rw[c1 i hi,c1 j hj];exact u1 i j hij (by lia)
  ·rw[c2 i hi,c2 j hj];exact u2 i j hij (by lia)
  ·have nd2:=(E7.mp nd).1
   exact (E7.mp nd2).2.2 x (Cz _ hx) y hy e.symm
 refine mat K S.kind S.failed h1 h2 ha lX l1 l2 rfl n1 n2 (fun x hx=>O.hp x (mem x hx)) MO1 fun S' st' k f pd' ar m=>?_
 have lS:S'.length=na+nb:=by rw[m.1.length_eq,CW,l1,l2]
 have tl:(((EH st).setIfInBounds i (s1,na+nb,pw)).eraseIdxIfInBounds (i+1)).toList=p.toList.take i++((s1,na+nb,pw)::p.toList.drop (i+2)):=by
  rw[S.pend]
  have z:((p.setIfInBounds i (s1,na+nb,pw)).eraseIdxIfInBounds (i+1)).toList=(p.toList.set i (s1,na+nb,pw)).eraseIdx (i+1):=by
   rw[Array.eraseIdxIfInBounds,dif_pos (by simpa using hi),Array.toList_eraseIdx,HW]
  have li:(p.toList.take i).length=i:=by simp;lia
  have y:=An (p.toList.take i) (s1,na,pw) (s1+na,nb,pw2) (s1,na+nb,pw) (p.toList.drop (i+2))
  rw[←ep,li] at y
  rw[z,y]
 rw[←pd'] at tl
 refine h (EH st') st' ⟨k,f,?_,rfl⟩ ?_ ?_ fun j hj=>?_
 ·rw[ar]
  refine Le ?_ S.perm
  rw[ha]
  refine IX _ ?_
  rw[CA]
  exact Fj _ m.1
 ·rw[tl]
  refine Ch.app.mpr ⟨s1,C1.congr fun j h1 h2=>?_,rfl,(by dsimp only;lia),fun x y hxy hy=>?_,?_⟩
  ·rw[sV,sV,ar,ha]
   simp only[CA]
   rw[Bn (by lia),Bn (by lia)]
  ·have q:∀j (hj:j < S'.length),gt (arrOf st') (s1+j)=S'[j]:=fun j hj=>by
    rw[gt_eq (by rw[ar];simp;lia)]
    simp only[ar]
    rw[Fz (by simp;lia),Gp (by lia)]
    congr 1;lia
   dsimp only at hy
   rw[q x (by lia),q y (by lia)]
   exact Cw.mp m.2 _ _ _ _ hxy
  ·dsimp only
   rw[←Mf]
   refine C2.congr fun j h1 h2=>?_
   rw[sV,sV,ar,ha]
   rw[yI (by simp;lia),yI (by simp;lia)]
   congr 1
   simp;lia
 ·have:(EH st').toList.length=_:=congrArg MA tl
  simp at this
  lia
 ·rw[sV,sV,ar,ha]
  rw[yI (by simp;lia),yI (by simp;lia)]
  congr 1
  simp;lia
end
section
variable {prog:Cy}{w:World}{A:Dc}{E:Value→B7→Prop}{s:B7}{κ:HE}{P:Keyed→Prop}{R:Keyed→Keyed→Bool}{l:List Keyed}
theorem ilt {c:Prop} [Decidable c] {a b n:Nat} (h1:a+1 < n) (h2:b+1 < n):(if c then a else b)+1 < n:=by split <;>assumption
theorem Ch.modL {a:Array Keyed} (pw:Nat):∀{p:List (Nat×Nat×Nat)} (k:Nat) {x y:Nat},Ch R a p x y→Ch R a (p.modify k fun r=>(r.1,r.2.1,pw)) x y
 |[],k,x,y,h=>by rw[List.modify_nil];exact h
 |r::t,0,x,y,h=>by rw[List.modify_zero_cons];exact h
 |r::t,k+1,x,y,h=>by rw[List.modify_succ_cons];exact ⟨h.1,h.2.1,h.2.2.1,Ch.modL pw k h.2.2.2⟩
theorem Ch.mod {a:Array Keyed}{p:Array (Nat×Nat×Nat)}{x y:Nat} (h:Ch R a p.toList x y) (pw k:Nat):Ch R a (p.modify k fun r=>(r.1,r.2.1,pw)).toList x y:=by
 rw[Array.toList_modify];exact h.modL pw k
variable (K:Asks prog w A E s κ P R)
include K
theorem sruns (O:Ord P R l) {st:En}{Q:Unit→En→Prop} (S:Stt κ l #[] st) (h:∀pd st',Stt κ l pd st'→Up R (arrOf st') 0 l.length→Q () st'):wpS (model prog w) A E s sortRuns' Q st:=by
 rw[sortRuns'_eq]
 refine Ca (Hw ?_)
 try dsimp only
 simp only[S.size]
 generalize minRun' l.length l.length 0=mr
 refine Ca (EG (Ez (I:=fun x c st'=>∃lo pd,c=(none,lo)∧Stt κ l pd st'∧Ch R (arrOf st') pd.toList 0 lo∧lo≤l.length∧x≤lo) (Q:=fun c st'=>∃pd,c=(none,l.length)∧Stt κ l pd st'∧Ch R (arrOf st') pd.toList 0 l.length) ?step ?fin ⟨0,#[],rfl,S,rfl,DB _,DB _⟩) ?post)
 case fin=>
  rintro c st' ⟨lo,pd,rfl,S',C,hlo,px⟩
  obtain rfl:lo=l.length:=by lia
  exact ⟨pd,rfl,S',C⟩
 case step=>
  rintro x c st' _ hx ⟨lo,pd,rfl,S',C,hlo,px⟩
  try dsimp only
  by_cases hge:lo ≥ l.length
  ·rw[if_pos hge]
   obtain rfl:lo=l.length:=by lia
   exact B_ ⟨pd,rfl,S',C⟩
  rw[if_neg hge]
  refine Ca (cnt K O (show lo+(l.length - lo)≤l.length by lia) (by lia) S' fun m st2 S2 kp m1 m2 u=>?_)
  try dsimp only
  have C2:Ch R (arrOf st2) pd.toList 0 lo:=C.congr fun j _ hj=>kp j hj
  by_cases hm:m < mr
  ·rw[if_pos hm]
   refine Ca (ru ?_)
   refine Ca (BC K O (show lo+min (l.length - lo) mr≤l.length by lia) (show m≤min (l.length - lo) mr by lia) S2 u fun st3 S3 k3 u3=>?_)
   simp only[D5,Cn,if_false]
   have C3:Ch R (arrOf st3) pd.toList 0 lo:=C2.congr fun j _ hj=>k3 j hj
   have f1:0 < min (l.length - lo) mr:=by lia
   have f2:min (l.length - lo) mr≤l.length - lo:=by lia
   generalize min (l.length - lo) mr=nn at *
   refine Ca (Hw ?_)
   have hp:EH st3=pd:=S3.pend
   rw[hp]
   cases hb:pd.back? with
   |none=>
    try dsimp only
    refine Ca (FM (B_ ⟨lo+nn,pd.push (lo,nn,0),rfl,?_,?_,by lia,by lia⟩))
    ·exact ⟨S3.kind,S3.failed,S3.perm,by show (EH st3).push _=_;rw[hp]⟩
    ·rw[Ex]
     exact Ch.app.mpr ⟨lo,C3,rfl,f1,u3,rfl⟩
   |some v=>
    obtain ⟨s1,n1,pw0⟩:=v
    try dsimp only
    generalize power' _ _ _ _=pw
    refine Ca (EG (Ez (I:=fun _ c st'=>∃pd,c=(none,())∧Stt κ l pd st'∧Ch R (arrOf st') pd.toList 0 lo∧Up R (arrOf st') lo (nn)) (Q:=fun c st'=>∃pd,c=(none,())∧Stt κ l pd st'∧Ch R (arrOf st') pd.toList 0 lo∧Up R (arrOf st') lo (nn)) ?_ (fun _ _ z=>z) ⟨pd,rfl,S3,C3,u3⟩) ?_)
    ·rintro y c st4 _ hy ⟨pd,rfl,S4,C4,u4⟩
     try dsimp only
     refine Ca (Hw ?_)
     rw[S4.pend]
     by_cases hs:pd.size >1
     ·rw[if_pos hs,C7 (show pd.size - 2 < pd.size by lia)]
      generalize pd[pd.size - 2]=q
      obtain ⟨q1,q2,q3⟩:=q
      try dsimp only
      by_cases ho:q3≤pw
      ·rw[if_pos ho]
       exact B_ ⟨pd,rfl,S4,C4,u4⟩
      ·rw[if_neg ho]
       refine Ca (Ak K O S4 C4 hlo (show pd.size - 2+1 < pd.size by lia) fun p' st5 S5 C5 _ k5=>?_)
       simp only[D5,Cn,if_false]
       exact B_ ⟨p',rfl,S5,C5,fun i j hij hj=>by rw[k5 _ (by lia),k5 _ (by lia)];exact u4 i j hij hj⟩
     ·rw[if_neg hs]
      exact B_ ⟨pd,rfl,S4,C4,u4⟩
    ·rintro c st4 ⟨pd,rfl,S4,C4,u4⟩
     try dsimp only
     have hp4:=S4.pend
     refine Ca (FM ?_)
     refine Ca (FM (B_ ⟨lo+nn,(pd.modify (pd.size - 1) fun r=>(r.1,r.2.1,pw)).push (lo,nn,0),rfl,?_,?_,by lia,by lia⟩))
     ·refine ⟨S4.kind,S4.failed,S4.perm,?_⟩
      show ((EH st4).modify ((EH st4).size - 1) fun r=>(r.1,r.2.1,pw)).push _=_
      rw[hp4]
     ·rw[Ex]
      exact Ch.app.mpr ⟨lo,C4.mod pw _,rfl,f1,u4,rfl⟩
  ·rw[if_neg hm]
   refine Ca (Hw ?_)
   have hp:EH st2=pd:=S2.pend
   rw[hp]
   cases hb:pd.back? with
   |none=>
    try dsimp only
    refine Ca (FM (B_ ⟨lo+m,pd.push (lo,m,0),rfl,?_,?_,by lia,by lia⟩))
    ·exact ⟨S2.kind,S2.failed,S2.perm,by show (EH st2).push _=_;rw[hp]⟩
    ·rw[Ex]
     exact Ch.app.mpr ⟨lo,C2,rfl,(show 0 < m by lia),u,rfl⟩
   |some v=>
    obtain ⟨s1,n1,pw0⟩:=v
    try dsimp only
    generalize power' _ _ _ _=pw
    refine Ca (EG (Ez (I:=fun _ c st'=>∃pd,c=(none,())∧Stt κ l pd st'∧Ch R (arrOf st') pd.toList 0 lo∧Up R (arrOf st') lo (m)) (Q:=fun c st'=>∃pd,c=(none,())∧Stt κ l pd st'∧Ch R (arrOf st') pd.toList 0 lo∧Up R (arrOf st') lo (m)) ?_ (fun _ _ z=>z) ⟨pd,rfl,S2,C2,u⟩) ?_)
    ·rintro y c st4 _ hy ⟨pd,rfl,S4,C4,u4⟩
     try dsimp only
     refine Ca (Hw ?_)
     rw[S4.pend]
     by_cases hs:pd.size >1
     ·rw[if_pos hs,C7 (show pd.size - 2 < pd.size by lia)]
      generalize pd[pd.size - 2]=q
      obtain ⟨q1,q2,q3⟩:=q
      try dsimp only
      by_cases ho:q3≤pw
      ·rw[if_pos ho]
       exact B_ ⟨pd,rfl,S4,C4,u4⟩
      ·rw[if_neg ho]
       refine Ca (Ak K O S4 C4 hlo (show pd.size - 2+1 < pd.size by lia) fun p' st5 S5 C5 _ k5=>?_)
       simp only[D5,Cn,if_false]
       exact B_ ⟨p',rfl,S5,C5,fun i j hij hj=>by rw[k5 _ (by lia),k5 _ (by lia)];exact u4 i j hij hj⟩
     ·rw[if_neg hs]
      exact B_ ⟨pd,rfl,S4,C4,u4⟩
    ·rintro c st4 ⟨pd,rfl,S4,C4,u4⟩
     try dsimp only
     have hp4:=S4.pend
     refine Ca (FM ?_)
     refine Ca (FM (B_ ⟨lo+m,(pd.modify (pd.size - 1) fun r=>(r.1,r.2.1,pw)).push (lo,m,0),rfl,?_,?_,by lia,by lia⟩))
     ·refine ⟨S4.kind,S4.failed,S4.perm,?_⟩
      show ((EH st4).modify ((EH st4).size - 1) fun r=>(r.1,r.2.1,pw)).push _=_
      rw[hp4]
     ·rw[Ex]
      exact Ch.app.mpr ⟨lo,C4.mod pw _,rfl,(show 0 < m by lia),u4,rfl⟩
 case post=>
  rintro c st' ⟨pd,rfl,S',C⟩
  try dsimp only
  refine Ca (EG (Ez (I:=fun x c st'=>∃pd,c=(none,())∧Stt κ l pd st'∧Ch R (arrOf st') pd.toList 0 l.length∧(pd.size≤1∨pd.size≤l.length - x)) (Q:=fun c st'=>∃pd,c=(none,())∧Stt κ l pd st'∧Ch R (arrOf st') pd.toList 0 l.length∧pd.size≤1) ?s2 ?f2 ⟨pd,rfl,S',C,.inr (by have:=C.len;rw[Cc] at this;lia)⟩) ?p2)
  case s2=>
   rintro y c st4 _ hy ⟨pd,rfl,S4,C4,hs⟩
   try dsimp only
   refine Ca (Hw ?_)
   rw[S4.pend]
   by_cases h1:pd.size≤1
   ·rw[if_pos h1]
    exact B_ ⟨pd,rfl,S4,C4,h1⟩
   ·rw[if_neg h1]
    refine Ca (Ak K O S4 C4 (B9 _) (ilt (by lia) (by lia)) fun p' st5 S5 C5 e5 k5=>?_)
    simp only[D5,Cn,if_false]
    exact B_ ⟨p',rfl,S5,C5,by lia⟩
  case f2=>
   rintro c st4 ⟨pd,rfl,S4,C4,hs⟩
   exact ⟨pd,rfl,S4,C4,by lia⟩
  case p2=>
   rintro c st4 ⟨pd,rfl,S4,C4,h1⟩
   refine B_ (h pd st4 S4 ?_)
   rw[←Cc] at h1
   generalize pd.toList=L at *
   cases L with
   |nil=>have:0=l.length:=C4
         intro i j hij hj;lia
   |cons r t=>
    cases t with
    |nil=>
     obtain ⟨_,_,u,e⟩:=C4
     have e':0+r.2.1=l.length:=e
     rw[FB] at e'
     rw[←e'];exact u
    |cons r2 t=>simp at h1
end
end TS
namespace ST
open PySem PySem.W PyProof.Rows
theorem A2 {α β:Type}{f:α→β}:∀{l1 l2:List β},l1.Perm l2→∀l:List α,l2=l.map f→∃l':List α,l'.Perm l∧l'.map f=l1:=by
 intro l1 l2 h
 induction h with
 |nil=>intro l e;exact ⟨l,.refl _,e.symm⟩
 |cons x _ ih=>
  intro l e
  cases l with
  |nil=>cases e
  |cons a t=>
   obtain ⟨e1,e2⟩:=GT e
   obtain ⟨l',p,q⟩:=ih t e2
   exact ⟨a::l',p.cons a,by rw[CY,q,e1]⟩
 |swap x y r=>
  intro l e
  match l,e with
  |a::b::t,e=>
   obtain ⟨e1,e2⟩:=GT e
   obtain ⟨e3,e4⟩:=GT e2
   exact ⟨b::a::t,.swap a b t,by rw[CY,CY,e1,e3,e4]⟩
 |trans _ _ ih1 ih2=>
  intro l e
  obtain ⟨l',p,q⟩:=ih2 l e
  obtain ⟨l'',p2,q2⟩:=ih1 l' q.symm
  exact ⟨l'',p2.trans p,q2⟩
abbrev ky (p:(Int×Int)×Addr):Keyed:=(C8 p.2,C8 p.2)
open Classical in
noncomputable def RP (pb:PB) (x y:Keyed):Bool:=decide (∃p∈pb,∃q∈pb,x=ky p∧y=ky q∧ltP p.1 q.1=true)
theorem jZ {pb:PB}{x y:Keyed}:RP pb x y=true↔∃p∈pb,∃q∈pb,x=ky p∧y=ky q∧ltP p.1 q.1=true:=by unfold RP;exact decide_eq_true_iff
theorem Au {p q:(Int×Int)×Addr} (h:ky p=ky q):p.2=q.2:=by
 have:=(Prod.mk.inj h).1
 injection this
section
variable {prog:Cy}{w:World}{A:Dc}{E:Value→B7→Prop}{s:B7}
theorem TK.det {h:Heap}{p q:(Int×Int)×Addr} (hp:TK prog w h [p.1.1,p.1.2] p.2) (hq:TK prog w h [q.1.1,q.1.2] q.2) (e:p.2=q.2):p=q:=by
 obtain ⟨o,its,n,t,u,ho,_,hd,hi⟩:=hp.two
 obtain ⟨o',its',n',t',u',ho',_,hd',hi'⟩:=hq.two
 rw[e,ho'] at ho
 cases ho
 rw[hd'] at hd
 cases hd
 rw[hi'] at hi
 have h1:=(GT hi).1
 have h2:=(GT (GT hi).2).1
 injection h1 with h1 _
 injection h2 with h2 _
 exact Er (Er h1.symm h2.symm) e
theorem lh {a:Addr}{pb:PB}{n:Nat}{P:Ms→B7→Prop} (ho:s.heap.get? a=some (J7 "list" (refs pb).toArray n)) (htk:∀p∈pb,TK prog w s.heap [p.1.1,p.1.2] p.2) (hnd:(pb.map (·.1)).Nodup) (hsz:pb.length≤sizeLine)
  (h:∀pb':PB,pb'.Perm pb→(pb'.map (·.1)).Pairwise (fun x y=>ltP x y=true)→P (.done (.ret .none)) {s with heap:=sortedHeap s.heap a (refs pb) (refs pb').toArray }):
  wpAny (model prog w) A (Builtin.«list.sort» ⟨[.ref a],[]⟩) P E s:=by
 have hvl:(refs pb).length=pb.length:=by simp
 have hva:(refs pb).toArray.size=pb.length:=by simp
 rw[list_sort_plain]
 have ha:a < s.heap.objs.size:=Cf ho
 refine B0 (listItems_at ho rfl (B0 (J8 ho rfl ?_ (by rw[hva];exact hsz) (DB _))))
 obtain ⟨e1,ho1⟩:∃e1,(s.heap.update a (Dx fun _=>(#[]:Array Value))).get? a=some (J7 "list" #[] e1):=⟨_,get?_update_seq ho (fun _=>#[])⟩
 refine B0 (Lg ho1 rfl (B0 (LH ?_ (by show (refs pb).length≤_;rw[hvl];exact hsz))))
 refine B0 (J9 ?_ (DB _))
 refine DJ ?_
 generalize hh6:((s.heap.update a (Dx fun _=>(#[]:Array Value))).push (J7 "tuple" (refs pb).toArray 0)).push (J7 "list" #[] 0)=h6
 have old6:∀b o,b≠a→s.heap.get? b=some o→h6.get? b=some o:=fun b o hb e=>by
  rw[←hh6]
  exact B5 _ (B5 _ ((CJ _ _ (Ne.symm hb)).trans e))
 have ho6:h6.get? a=some (J7 "list" #[] e1):=by rw[←hh6];exact B5 _ (B5 _ ho1)
 have tk6:∀p∈pb,TK prog w h6 [p.1.1,p.1.2] p.2:=fun p hp=>by
  obtain ⟨o,its,k,hop,hc,r⟩:=htk p hp
  refine ⟨o,its,k,old6 p.2 o (fun z=>?_) hop,hc,r⟩
  rw[z,ho] at hop
  cases hop
  exact absurd hc (by show ¬ (DV "list"=DV "tuple");decide)
 have fin:∀pb':PB,pb'.Perm pb→(pb'.map (·.1)).Pairwise (fun x y=>ltP x y=true)→P (.done (.ret .none)) {s with heap:=h6.update a (Dx fun _=>(refs pb').toArray) }:=fun pb' p1 p2=>by
  rw[←hh6];exact h pb' p1 p2
 show wpAny (model prog w) A _ P E {s with heap:=h6 }
 dsimp only
 by_cases h2:(refs pb).toArray.size < 2
 ·rw[if_pos h2,if_pos h2]
  refine B0 (B6 ?_)
  rw[StateT.run_pure]
  refine B0 (B6 ?_)
  dsimp only
  have eout:(arrOf (SortSt.mk' general' ((refs pb).toArray.zip (refs pb).toArray) #[] 7 none)).map (·.2)=(refs pb).toArray:=by
   show (((refs pb).toArray.zip (refs pb).toArray)).map (·.2)=_
   apply IM.mp
   have zip2:∀l:List Value,(l.zip l).map (·.2)=l:=fun l=>by
    induction l with
    |nil=>rfl
    |cons x r ih=>rw[EF,CY,ih]
   rw[IP,KQ]
   exact zip2 _
  rw[eout]
  refine B0 (Lg ho6 rfl (B0 (J8 ho6 rfl ?_ (DB _) (by rw[hva];exact Kv hsz))))
  show wpAny _ _ (if (e1 !=e1)=true then _ else _) _ _ _
  rw[if_neg (by simp)]
  refine B6 (fin pb (JI _) ?_)
  match pb,hva,h2 with
  |[],_,_=>simp
  |[_],_,_=>simp
  |_::_::r,hva,h2=>rw[hva] at h2;exact absurd h2 (by simp)
 ·rw[if_neg h2,if_neg h2]
  rw[hva] at h2
  have h2':2≤(refs pb).length:=by rw[hvl];lia
  refine B0 (uB (s:={s with heap:=h6 }) tk6 (by lia) ?_)
  have one:∀p∈pb,∀q∈pb,ky p=ky q→p=q:=fun p hp q hq e=>TK.det (tk6 p hp) (tk6 q hq) (Au e)
  have val:∀p∈pb,∀q∈pb,RP pb (ky p) (ky q)=ltP p.1 q.1:=fun p hp q hq=>by
   cases hl:ltP p.1 q.1 with
   |true=>exact jZ.mpr ⟨p,hp,q,hq,rfl,rfl,hl⟩
   |false=>
    cases hr:RP pb (ky p) (ky q) with
    |false=>rfl
    |true=>
     obtain ⟨p',hp',q',hq',e1,e2,z⟩:=jZ.mp hr
     rw[←one p hp p' hp' e1,←one q hq q' hq' e2,hl] at z
     cases z
  have asks:TS.Asks prog w A E {s with heap:=h6 } (tuples' true) (fun x=>∃p∈pb,x=ky p) (RP pb):=by
   rintro x y st Q ⟨p,hp,rfl⟩ ⟨q,hq,rfl⟩ hk hQ
   rw[lt'_eq]
   refine Ca (Hw ?_)
   rw[hk]
   rw[val p hp q hq] at hQ
   refine Ca (wpS_lift (GP (AA (tk6 p hp) (tk6 q hq) ⟨rfl,?_⟩)))
   exact B_ hQ
  have ord:TS.Ord (fun x=>∃p∈pb,x=ky p) (RP pb) (pb.map ky):=by
   refine ⟨fun x y z h1 h2=>?_,fun x hx y hy hne hr=>?_,?_,fun x hx=>?_⟩
   ·obtain ⟨p,hp,q,hq,rfl,rfl,z1⟩:=jZ.mp h1
    obtain ⟨q',hq',r,hr,e,rfl,z2⟩:=jZ.mp h2
    rw[←one q hq q' hq' e] at z2
    exact jZ.mpr ⟨p,hp,r,hr,rfl,rfl,v5 z1 z2⟩
   ·obtain ⟨p,hp,rfl⟩:=B8.mp hx
    obtain ⟨q,hq,rfl⟩:=B8.mp hy
    rw[val p hp q hq] at hr
    rw[val q hq p hp]
    refine ltP_tot (fun e=>hne ?_) hr
    obtain ⟨i,hi,rfl⟩:=DP hp
    obtain ⟨j,hj,rfl⟩:=DP hq
    have:i=j:=(IK (xs:=pb.map (·.1)) (h₀:=by simpa using hi) (h₁:=by simpa using hj) hnd).mp (by simpa using e)
    subst this;rfl
   ·have ndp:pb.Nodup:=(Df.mp hnd).imp fun h e=>h (congrArg _ e)
    refine Df.mpr (Gy (fun hp hq hne e=>hne (one _ hp _ hq e)) ndp)
   ·obtain ⟨p,hp,rfl⟩:=B8.mp hx
    exact ⟨p,hp,rfl⟩
  have stt:TS.Stt (tuples' true) (pb.map ky) #[] (SortSt.mk' (tuples' true) ((refs pb).toArray.zip (refs pb).toArray) #[] 7 none):=by
   refine ⟨rfl,rfl,?_,rfl⟩
   have e:(arrOf (SortSt.mk' (tuples' true) ((refs pb).toArray.zip (refs pb).toArray) #[] 7 none)).toList=pb.map ky:=by
    show ((refs pb).toArray.zip (refs pb).toArray).toList=_
    rw[KQ]
    show (pb.map _).zip (pb.map _)=_
    rw[List.zip_map']
   rw[e]
  refine B0 (E4 (TS.sruns asks ord (Q:=fun _ st'=>HF st'=none∧∃pb':PB,pb'.Perm pb∧(pb'.map (·.1)).Pairwise (fun x y=>ltP x y=true)∧(arrOf st').map (·.2)=(refs pb').toArray) stt fun pd st' S' up=>?_) ?_ fun _ _ e=>e)
  ·refine ⟨S'.failed,?_⟩
   obtain ⟨pb',p1,p2⟩:=A2 S'.perm pb rfl
   refine ⟨pb',p1,?_,?_⟩
   ·refine Df.mpr (Cw.mpr fun i j hi hj hij=>?_)
    have lp:=p1.length_eq
    have u:=up i j hij (by rw[B3];lia)
    rw[FB,FB,TS.gt_eq (by rw[←p2,B3];exact hi),TS.gt_eq (by rw[←p2,B3];exact hj)] at u
    simp only[←p2,List.getElem_map] at u
    rw[val _ (p1.mem_iff.mp (Dm hi)) _ (p1.mem_iff.mp (Dm hj))] at u
    exact u
   ·apply IM.mp
    rw[IP,←p2,Dj]
    rfl
  ·rintro ⟨⟨⟩,st'⟩ s' ⟨rfl,hf,pb',p1,p2,hout⟩
   dsimp only at hf hout ⊢
   rw[hout]
   have hs2:(refs pb').toArray.size=pb.length:=by simp[p1.length_eq]
   refine B0 (Lg ho6 rfl (B0 (J8 ho6 rfl ?_ (DB _) (by rw[hs2];exact Kv hsz))))
   rw[hf]
   show wpAny _ _ (if (e1 !=e1)=true then _ else _) _ _ _
   rw[if_neg (by simp)]
   exact B6 (fin _ p1 p2)
end
end ST
namespace ST
open PySem PySem.W PyProof.Rows PySem.Calls
section
variable {prog:Cy}{w:World}{A:Dc}{E:Value→B7→Prop}{s:B7}
theorem call_sorted_setB {S:Addr}{kb:List (List Int×Addr)}{Q:Value→B7→Prop} (hh:A.handled=none) (P:SP prog w s.heap S kb) (h64:kb.length < 1000) (h2:∀p∈kb,p.1.length=2)
  (h:∀(h1 h':Heap) (tk:Nat) (pb:PB) (e:Nat),Lc pb (ptsOf kb)→(pb.map (·.1)).Pairwise (fun x y=>ltP x y=true)→(∀b o,s.heap.get? b=some o→h1.get? b=some o)→(∀b o,h1.get? b=some o→h'.get? b=some o)→h'.get? h1.objs.size=some (J7 "list" (refs pb).toArray e)→Q (.ref h1.objs.size) {s with heap:=h',toks:=tk }):
  wpAny (model prog w) A (call (.builtin "sorted") [.ref S]) Q E s:=by
 obtain ⟨⟨o,es,ep,t,ho,hex,hd,he,T,hl,hp,_,_⟩,hk,hnd⟩:=P
 have hsz:es.size=kb.length:=by rw[←Cc,he];simp[fv]
 have O:SO prog w o es ep t (kb.map fun p=>hsh prog w p.1):=⟨hex,hd,T,by rw[B3,hsz],hl,hp⟩
 have two:∀p∈kb,p.1=[p.1.getD 0 0,p.1.getD 1 0]:=fun p hp'=>by
  have:=h2 p hp'
  match hq:p.1,this with
  |[x,y],_=>rfl
 refine call_function_entry kind_sorted plain_sorted entry_sorted (args_sorted1 _) ?_
 unfold Builtin.«sorted»
 refine B0 (m:=checkCount "sorted" 1 1 _) (B6 ?_)
 refine B0 (kdu_collect (A:=A.in1) (yH O) hh ho (by rw[hsz,EB];lia) fun h' tk acc keep hacc=>?_)
 have hal:acc.toList=cg w S es ep:=by
  apply E9
  intro i
  rcases D3 i acc.size with z |z
  ·rw[Dy,C7 z]
   exact (hacc.2 i _ (C7 z)).symm
  ·rw[C0 (by simpa using z),C0]
   rw[(eI w S es ep).length_eq,B3,Cc,←hacc.1];exact z
 obtain ⟨kb1,pk,ek⟩:=vp (fun (p:List Int×Addr)=>C8 p.2) (eI w S es ep) kb (by rw[he];unfold fv;rw[Dj];rfl)
 have hl1:acc.toList=refs (ptsOf kb1):=by
  rw[hal,ek];unfold refs ptsOf;rw[Dj];rfl
 have hlen1:(ptsOf kb1).length=kb.length:=by unfold ptsOf;rw[B3,pk.length_eq]
 have hlenA:acc.toList.length=kb.length:=by rw[hl1];simp[hlen1]
 refine B0 (J9 ?_ (by rw[hlenA,EB];lia))
 have hD:(h'.push {cls:=.type "list",data:=.seq acc.toList.toArray }).get? h'.objs.size=some (J7 "list" (refs (ptsOf kb1)).toArray 0):=by
  rw[←hl1];exact Cm _ rfl
 have tk1:∀p∈ptsOf kb1,TK prog w (h'.push {cls:=.type "list",data:=.seq acc.toList.toArray }) [p.1.1,p.1.2] p.2:=fun p hp'=>by
  obtain ⟨q,hq,rfl⟩:=B8.mp hp'
  have hq':=pk.mem_iff.mp hq
  obtain ⟨oq,its,k,hoq,r⟩:=hk q hq'
  have e2:=two q hq'
  refine ⟨oq,its,k,B5 _ (keep _ _ hoq),?_⟩
  rw[←e2];exact r
 have nd1:((ptsOf kb1).map (·.1)).Nodup:=by
  have n1:(kb1.map (·.1)).Nodup:=((pk.map (·.1)).nodup_iff).mpr hnd
  unfold ptsOf
  rw[Dj]
  refine Df.mpr ((Df.mp n1).imp_of_mem fun {a b} ha hb hab=>?_)
  intro z
  have ea:=two a (pk.mem_iff.mp ha)
  have eb:=two b (pk.mem_iff.mp hb)
  have z':(a.1.getD 0 0,a.1.getD 1 0)=(b.1.getD 0 0,b.1.getD 1 0):=z
  rw[Mh] at z'
  rw[z'.1,z'.2] at ea
  exact hab (ea.trans eb.symm)
 refine B0 (DJ (DT LK ⟨_,hD,rfl⟩ Lh ?_ (LL _)))
 refine lh (s:={s with heap:=h'.push {cls:=.type "list",data:=.seq acc.toList.toArray },toks:=tk }) hD tk1 nd1 (by rw[EB];lia) fun pb' pp so=>⟨_,rfl,B6 ⟨_,rfl,?_⟩⟩
 obtain ⟨e,eD⟩:=sortedHeap_at (out:=(refs pb').toArray) hD
 refine h h' _ tk pb' e (pp.trans ?_) so keep (fun b x hb'=>?_) eD
 ·unfold ptsOf;exact pk.map _
 ·have hlt:=Cf hb'
  rw[LM (CP hlt) (by rw[Em];exact Ew hlt)]
  exact B5 _ hb'
end
end ST
namespace L2
open PySem PySem.Spec PyProof.Rows
theorem A7 {p:Nat→Addr→Prop}{n:Nat} (h:∀i,i < n→∃b,p i b):∃f:Nat→Addr,∀i,i < n→p i (f i):=by
 refine ⟨fun i=>if k:i < n then KM (h i k) else 0,fun i hi=>?_⟩
 dsimp only
 rw[dif_pos hi]
 exact Jl (h i hi)
section
variable {X:Cx}{H0:Hp}{O0:List Addr}{ps:PSt}{e:Expr}{pts:List P2}{pos pos' p p':Pos}
theorem gU (hc:X.calm=true) (hu:X.A.units+10 < cLine) (hg:Gl X "sorted") (hm:X.mg "sorted"=none) (hgs:Gl X "set") (hms:X.mg "set"=none) (ha:Ev X H0 O0 ps e (lp pts)) (hl:pts.length < 1000)
  (he:Ce [e] X.env=(false,eval e X.env)::Ce [] X.env:=by rfl):EvN X H0 O0 ps (.Call (.Name "sorted" p) [.Call (.Name "set" p') [e] [] pos'] [] pos) ((ST.srt pts).map pu):=by
 rintro pins s σ H Q I ⟨O,R,q⟩
 have hh:X.A.handled=none:=I.ok.hd hc
 refine DM (c_ I hg hm boot_sorted ?_)
 refine callWith_builtin1 (e:=.Call (.Name "set" p') [e] [] pos') (rest:=[]) ?_ rfl rfl
 show wpAny _ _ (spliced ((false,eval (.Call (.Name "set" p') [e] [] pos') X.env)::Fp pos (Ce [] X.env))) _ _ s
 refine FP ?_
 refine DM (c_ I hgs hms wg ?_)
 refine callWith_type1 (thn (dg ha fQ he pos' pins s σ H (fun vs H1=>∃v,vs=[v]∧aK H H1∧Rp X.K (hid H1 O) v (lp pts)) I ⟨O,R,fun v H1 s1 r1=>⟨v,rfl,s1,r1⟩⟩) fun us s1 hx=>?_) he rfl
 obtain ⟨vs,H1,I1,rv,v,rfl,sm,rp⟩:=hx
 obtain ⟨u,rfl,ru⟩:=fk rv
 cases rp with
 | @lst a ws _ hq hwl hwi=>
  cases ru
  obtain ⟨its,rw',pl,hz⟩:=I1.list (SqL.of (ax _ _ hq))
  have hlp:ws.length=pts.length:=by rw[hwl,B3]
  have hil:its.length=pts.length:=by rw[←rw'.length,hlp]
  have item:∀i,i < pts.length→∃b,its[i]?=some (.ref b)∧Rp X.K (hid H1 O) (.ref b) (pu (pts.getD i (0,0)))∧ST.TK X.prog X.w s1.heap [(pts.getD i (0,0)).1,(pts.getD i (0,0)).2] b:=fun i hi=>by
   have hw:ws[i]?=some ws[i]:=B1 (by lia)
   have hp:(pts.map pu)[i]?=some (pu (pts.getD i (0,0))):=by rw[Cb,B1 hi];simp[hi]
   have r:=hwi i _ _ hw hp
   obtain ⟨u',e1,e2⟩:=rw'.get hw
   generalize ws[i]=z at *
   cases r with
   | @tup b zs _ hs hsl hsi=>
    cases e2
    refine ⟨b,e1,Rp.tup hs hsl hsi,?_⟩
    obtain ⟨jts,rj,ht,_⟩:=I1.tuple (by exact ax.tup hs)
    have z0:zs.length=2:=hsl
    match zs,z0,hsi,rj with
    |[z1,z2],_,hsi,rj=>
     have q1:=hsi 0 z1 _ rfl rfl
     have q2:=hsi 1 z2 _ rfl rfl
     cases q1
     cases q2
     obtain ⟨u1,u2,rfl,r1,r2⟩:=rM rj
     obtain ⟨t1,rfl⟩:=r1
     obtain ⟨t2,rfl⟩:=r2
     obtain ⟨o,ho,hoc,n,hod⟩:=ht
     exact ⟨o,_,n,ho,hoc,hod,.cons (ER _ _ _ _) (.cons (ER _ _ _ _) .nil)⟩
  obtain ⟨ad',adE⟩:=A7 item
  have hsz:its.toArray.size=pts.length:=by simp[hil]
  refine ST.call_set_pts (fun i=>([(pts.getD i (0,0)).1,(pts.getD i (0,0)).2],ad' i)) hh (by show X.A.units+1+1+1 < cLine;lia) pl.isList (fun i z ez=>?_) (fun i hi=>?_) (by rw[hsz];lia) fun h2 tk kb sp got keep=>?_
  ·have hi:i < pts.length:=by have:=aF (show its[i]?=some z by simpa using ez);lia
   have:=(adE i hi).1
   rw[show its.toArray[i]?=its[i]? by simp,this] at ez
   cases ez;rfl
  ·exact (adE i (by rw[hsz] at hi;exact hi)).2.2
  ·rw[hsz] at got
   have I2:Inv X pins σ H1 {s1 with heap:=h2,toks:=tk }:=I1.kept (t':=tk) keep
   refine FZ ?_
   have hkl:kb.length < 1000:=by have:=got.len;lia
   refine ST.call_sorted_setB (s:={s1 with heap:=h2,toks:=tk }) hh sp hkl (fun z hz=>by obtain ⟨j,_,rfl⟩:=got.src z hz;rfl) fun h3 h4 tk2 pb ep pm so k1 k2 hD=>?_
   have I3:Inv X pins σ H1 {s1 with heap:=h3,toks:=tk2 }:=I2.kept (t':=tk2) k1
   have src:∀z∈pb,∃j,j < pts.length∧z=(pts.getD j (0,0),ad' j):=fun z hz=>by
    obtain ⟨y,hy,rfl⟩:=B8.mp (pm.mem_iff.mp hz)
    obtain ⟨j,hj,rfl⟩:=got.src y hy
    exact ⟨j,hj,rfl⟩
   have epts:pb.map (·.1)=ST.srt pts:=by
    refine ST.asc_one so (ST.srt_asc pts) fun z=>?_
    rw[ST.srt_mem]
    constructor
    ·intro hz
     obtain ⟨y,hy,rfl⟩:=B8.mp hz
     obtain ⟨j,hj,rfl⟩:=src y hy
     simp[hj]
    ·intro hz
     obtain ⟨j,hj⟩:=DI.mp hz
     have hjl:=aF hj
     have hk:=got.all j hjl
     obtain ⟨y,hy,ey⟩:=B8.mp hk
     have hin:((y.1.getD 0 0,y.1.getD 1 0),y.2)∈ST.ptsOf kb:=B8.mpr ⟨y,hy,rfl⟩
     have hin':=pm.mem_iff.mpr hin
     refine B8.mpr ⟨_,hin',?_⟩
     rw[ey]
     have:pts.getD j (0,0)=z:=by rw[CC,hj];rfl
     show ((pts.getD j (0,0)).1,(pts.getD j (0,0)).2)=z
     rw[this]
   have fr:H1 h3.objs.size=none:=I3.hok.fresh (B9 _)
   refine ⟨.ref h3.objs.size,upd H1 h3.objs.size (.lst (pb.map fun z=>V.ref z.2)),?_,rfl,?_⟩
   ·refine I3.laid (t':=tk2) k2 (B9 _) ⟨?_,(ST.refs pb),ep,?_,hD⟩
    ·rw[B3,←B3 (f:=(·.1)),epts,EB]
     have:=ST.srt_len pts
     lia
    ·have all:∀l:ST.PB,aO (l.map fun z=>V.ref z.2) (ST.refs l):=fun l=>by
      induction l with
      |nil=>exact .nil
      |cons z r ih=>exact .cons rfl ih
     exact all pb
   ·refine q _ _ _ (sm.trans (aZ fr _)) (sm.free fr) aY ⟨?_,fun i z x e1 e2=>?_⟩
    ·rw[B3,←epts,B3,B3]
    ·rw[←epts,Dj,Cb] at e2
     rw[Cb] at e1
     cases hpi:pb[i]? with
     |none=>rw[hpi] at e1;cases e1
     |some y=>
      rw[hpi] at e1 e2
      cases e1
      cases e2
      obtain ⟨j,hj,rfl⟩:=src y (Cu hpi)
      exact (adE j hj).2.1.same (bF (aZ fr _) fr)
end
section
variable {X:Cx}{tg:Expr}
def zU (ta:TA):TI:=fun σ H R=>ta σ H fun vs H1=>∃j:Int,vs=[.int j]∧R (Itr 0 (j - 0).toNat) H1
theorem ph {a:Expr}{ta:TA}{p pos:Pos} (hg:Gl X "range") (hm:X.mg "range"=none) (ha:PA X [a] ta) (hs:Ce [a] X.env=[(false,eval a X.env)]:=by rfl):
  PI X tg (.Call (.Name "range" p) [a] [] pos) (zU ta):=by
 intro pins s σ H R I h
 refine Call_ (c_ I hg hm LR (PyProof.Rows.callWith_type1 (thn (ha pos pins s σ H _ I h) fun us s1 ⟨vs,H1,I1,r1,q1⟩=>?_) (by rw[hs];rfl) rfl))
 obtain ⟨j,e,q⟩:=q1
 subst e
 cases r1 with
 |cons r rr=>
  cases rr
  obtain ⟨t,rfl⟩:=r
  exact call_range_1 (lE I1 q)
variable {H0:Hp}{O0:List Addr}{ps:PSt}{a:Expr}{p pos:Pos}
theorem tX {j:Int} (hg:Gl X "range") (hm:X.mg "range"=none) (ha:EvA X H0 O0 ps [a] [.int j]) (hs:Ce [a] X.env=[(false,eval a X.env)]:=by rfl):
  EvI X H0 O0 ps tg (.Call (.Name "range" p) [a] [] pos) (e7 0 (j - 0).toNat):=
 PI.mono (ph hg hm ha hs) fun σ H Q ⟨O,R,q⟩=>⟨O,R,fun vs H' s r=>by
  obtain ⟨v,rfl,h⟩:=cB r
  cases h
  exact ⟨j,rfl,q _ H' s jv⟩⟩
end
end L2
namespace ST
open PySem PySem.W PySem.Calls PyProof.Rows
section
variable {prog:Cy}{w:World}{A:Dc}{E:Value→B7→Prop}{s:B7}
theorem call_sortedLB {l:Addr}{pb:PB}{Q:Value→B7→Prop} (hl:s.heap.IsList l (refs pb).toArray) (htk:∀p∈pb,TK prog w s.heap [p.1.1,p.1.2] p.2) (hnd:(pb.map (·.1)).Nodup) (h64:pb.length < 1000)
  (h:∀(h1 h':Heap) (tk:Nat) (pb':PB) (e:Nat),pb'.Perm pb→(pb'.map (·.1)).Pairwise (fun x y=>ltP x y=true)→(∀c o,s.heap.get? c=some o→h1.get? c=some o)→(∀c o,h1.get? c=some o→h'.get? c=some o)→h'.get? h1.objs.size=some (J7 "list" (refs pb').toArray e)→Q (.ref h1.objs.size) {s with heap:=h',toks:=tk }):
  wpAny (model prog w) A (call (.builtin "sorted") [.ref l]) Q E s:=by
 have hrl:(refs pb).length=pb.length:=by simp
 refine Calls.call_function_entry kind_sorted plain_sorted entry_sorted (args_sorted1 _) ?_
 unfold Builtin.«sorted»
 refine B0 (m:=checkCount "sorted" 1 1 _) (B6 ?_)
 refine B0 (collect_list hl ?_ (by rw[hrl,EB];lia))
 refine B0 (J9 ?_ (by rw[hrl,EB];lia))
 generalize hg:(s.heap.push (J7 "list" #[] 0)).update s.heap.objs.size (Dx (·++(refs pb).toArray))=h1
 have keep:∀c o,s.heap.get? c=some o→h1.get? c=some o:=fun c o e=>by
  rw[←hg,CJ _ _ (Hj (Cf e))]
  exact B5 _ e
 have hD:(h1.push {cls:=.type "list",data:=.seq (refs pb).toArray }).get? h1.objs.size=some (J7 "list" (refs pb).toArray 0):=Cm _ rfl
 have up:∀p∈pb,TK prog w (h1.push {cls:=.type "list",data:=.seq (refs pb).toArray }) [p.1.1,p.1.2] p.2:=fun p hp=>by
  obtain ⟨o,its,n,ho,r⟩:=htk p hp
  exact ⟨o,its,n,B5 _ (keep _ _ ho),r⟩
 refine B0 (DJ (DT LK ⟨_,hD,rfl⟩ Lh ?_ (LL _)))
 refine lh (s:={s with heap:=h1.push {cls:=.type "list",data:=.seq (refs pb).toArray } }) hD up hnd (by rw[EB];lia) fun pb' pp so=>⟨_,rfl,B6 ⟨_,rfl,?_⟩⟩
 obtain ⟨e,eD⟩:=sortedHeap_at (out:=(refs pb').toArray) hD
 refine h h1 _ s.toks pb' e pp so keep (fun c o hb=>?_) eD
 have hlt:=Cf hb
 rw[LM (CP hlt) (by rw[Em];exact Ew hlt)]
 exact B5 _ hb
end
end ST
namespace L2
open PySem PySem.Spec PyProof.Rows
section
variable {X:Cx}{H0:Hp}{O0:List Addr}{ps:PSt}{e:Expr}{pts:List P2}{pos p:Pos}
theorem vz (hg:Gl X "sorted") (hm:X.mg "sorted"=none) (ha:Ev X H0 O0 ps e (lp pts)) (hl:pts.length < 1000∧pts.Nodup)
  (he:Ce [e] X.env=(false,eval e X.env)::Ce [] X.env:=by rfl):EvN X H0 O0 ps (.Call (.Name "sorted" p) [e] [] pos) ((ST.srt pts).map pu):=by
 obtain ⟨hl,hn⟩:=hl
 rintro pins s σ H Q I ⟨O,R,q⟩
 refine DM (c_ I hg hm boot_sorted ?_)
 refine callWith_builtin1 (e:=e) (rest:=[]) (thn (dg ha fQ he pos pins s σ H (fun vs H1=>∃v,vs=[v]∧aK H H1∧Rp X.K (hid H1 O) v (lp pts)) I ⟨O,R,fun v H1 s1 r1=>⟨v,rfl,s1,r1⟩⟩) fun us s1 hx=>?_) he rfl
 obtain ⟨vs,H1,I1,rv,v,rfl,sm,rp⟩:=hx
 obtain ⟨u,rfl,ru⟩:=fk rv
 cases rp with
 | @lst a ws _ hq hwl hwi=>
  cases ru
  obtain ⟨its,rw',pl,hz⟩:=I1.list (SqL.of (ax _ _ hq))
  have hlp:ws.length=pts.length:=by rw[hwl,B3]
  have hil:its.length=pts.length:=by rw[←rw'.length,hlp]
  have item:∀i,i < pts.length→∃b,its[i]?=some (.ref b)∧Rp X.K (hid H1 O) (.ref b) (pu (pts.getD i (0,0)))∧ST.TK X.prog X.w s1.heap [(pts.getD i (0,0)).1,(pts.getD i (0,0)).2] b:=fun i hi=>by
   have hw:ws[i]?=some ws[i]:=B1 (by lia)
   have hp:(pts.map pu)[i]?=some (pu (pts.getD i (0,0))):=by rw[Cb,B1 hi];simp[hi]
   have r:=hwi i _ _ hw hp
   obtain ⟨u',e1,e2⟩:=rw'.get hw
   obtain ⟨b,rfl,tb⟩:=u0 I1 (r.same ax) e2
   have ez:ws[i]=.ref b:=by
    generalize ws[i]=z at r e2
    cases r;cases e2;rfl
   rw[ez] at r
   exact ⟨b,e1,r,tb _ _⟩
  let ad:Nat→Addr:=fun i=>match its[i]? with |some (.ref b)=>b |_=>0
  have adE:∀i,i < pts.length→its[i]?=some (.ref (ad i))∧Rp X.K (hid H1 O) (.ref (ad i)) (pu (pts.getD i (0,0)))∧ST.TK X.prog X.w s1.heap [(pts.getD i (0,0)).1,(pts.getD i (0,0)).2] (ad i):=fun i hi=>by
   obtain ⟨b,e1,e2,e3⟩:=item i hi
   have:ad i=b:=by show (match its[i]? with |some (.ref b)=>b |_=>0)=b;rw[e1]
   rw[this];exact ⟨e1,e2,e3⟩
  generalize ad=ad' at adE
  clear ad
  generalize hpb:((Ds pts.length).map fun i=>((pts.getD i (0,0),ad' i):(Int×Int)×Addr))=pb
  have hits:its=ST.refs pb:=by
   apply E9
   intro i
   rw[←hpb]
   unfold ST.refs
   rcases D3 i pts.length with z |z
   ·rw[(adE i z).1];simp[z]
   ·rw[C0 (by lia),C0 (by simpa using z)]
  have h1p:pb.map (·.1)=pts:=by
   rw[←hpb,Dj]
   apply E9
   intro i
   rcases D3 i pts.length with z |z
   ·simp[z]
   ·rw[C0 (by simpa using z),C0 z]
  have srcb:∀z∈pb,∃j,j < pts.length∧z=(pts.getD j (0,0),ad' j):=fun z hz=>by
   rw[←hpb] at hz
   obtain ⟨j,hj,rfl⟩:=B8.mp hz
   exact ⟨j,Cr.mp hj,rfl⟩
  have hbl:pb.length=pts.length:=by rw[←h1p,B3]
  rw[hits] at pl
  refine ST.call_sortedLB (pb:=pb) pl.isList (fun z hz=>?_) (by rw[h1p];exact hn) (by lia) fun h3 h4 tk2 pb' ep pm so k1 k2 hD=>?_
  ·obtain ⟨j,hj,rfl⟩:=srcb z hz
   exact (adE j hj).2.2
  ·have I3:Inv X pins σ H1 {s1 with heap:=h3,toks:=tk2 }:=I1.kept (t':=tk2) k1
   have src:∀z∈pb',∃j,j < pts.length∧z=(pts.getD j (0,0),ad' j):=fun z hz=>srcb z (pm.mem_iff.mp hz)
   have epts:pb'.map (·.1)=ST.srt pts:=by
    refine ST.asc_one so (ST.srt_asc pts) fun z=>?_
    rw[ST.srt_mem,(pm.map (·.1)).mem_iff,h1p]
   have fr:H1 h3.objs.size=none:=I3.hok.fresh (B9 _)
   refine ⟨.ref h3.objs.size,upd H1 h3.objs.size (.lst (pb'.map fun z=>V.ref z.2)),?_,rfl,?_⟩
   ·refine I3.laid (t':=tk2) k2 (B9 _) ⟨?_,(ST.refs pb'),ep,?_,hD⟩
    ·rw[B3,pm.length_eq,hbl,EB]
     lia
    ·have all:∀l:ST.PB,aO (l.map fun z=>V.ref z.2) (ST.refs l):=fun l=>by
      induction l with
      |nil=>exact .nil
      |cons z r ih=>exact .cons rfl ih
     exact all pb'
   ·refine q _ _ _ (sm.trans (aZ fr _)) (sm.free fr) aY ⟨?_,fun i z x e1 e2=>?_⟩
    ·rw[B3,←epts,B3,B3]
    ·rw[←epts,Dj,Cb] at e2
     rw[Cb] at e1
     cases hpi:pb'[i]? with
     |none=>rw[hpi] at e1;cases e1
     |some y=>
      rw[hpi] at e1 e2
      cases e1
      cases e2
      obtain ⟨j,hj,rfl⟩:=src y (Cu hpi)
      exact (adE j hj).2.1.same (bF (aZ fr _) fr)
end
section
variable {X:Cx}{H0:Hp}{O0:List Addr}{E:XK}{ps ps':PSt}{D:PD}{a b c e:Expr}{es:List Expr}{u:U}{xs ys us:List U}
 {n:Nat}{C:Addr}{fd:CN}{pn:List Str}{spec:List U→Out→Prop}
theorem tH {i:Nat}{fA:Addr}{x f y:Str}{b₀:Stmt}{suite:List Stmt}{p cpos epos np hpos pos yp:Pos}
  (hstk:X.stack=X.env::X.outer) (hfr:X.env.frame=some X.env.locals) (F:a_ X.prog X.w X.K X.mg X.base (CXF X.prog X.w) n fA fd pn (spU X.K spec)) (hr:dc n X.A) (hg:Gl X f) (hm:X.mg f=some (.ref fA)) (hk:Cj X.K (.ref fA)=true) (hb:aG X.K fd pn []) (ha:EvA X.nox H0 O0 ps (e::es) us)
  (hex:Fh X.K C [.type "ValueError",.type "Exception",.type "BaseException",.type "object"] "ValueError.__new__"=true) (hgx:Gl X x) (hmx:X.mg x=some (.ref C)) (hsp:spec us (.new xs)) (hN:X.N.Nodup) (hi:X.N[i]?=some y) (hy:Loc X.env.scope y) (h:D.nx (ps.set i (some (.own xs))))
  (hf:X.fn y=true∨X.env.scope.names.lookup y=some .local:=by first |exact .inl rfl |exact .inr rfl |assumption)
  (hdb:(f==("__debug__":Str))=false:=by decide) (hdx:(x==("__debug__":Str))=false:=by decide) (he:Ce (e::es) X.env=(false,eval e X.env)::Ce es X.env:=by rfl) (hpl:(Fp cpos (Ce es X.env)).any (·.1)=false:=by rfl)
  (hsw:Fv (.Call (.Name f p) (e::es) [] cpos) (some (.Name y yp)) epos.line X.env=pure false:=by rfl):
  W1 X H0 O0 E (.Try [.Assign [.Name y yp] (.Call (.Name f p) (e::es) [] cpos) epos] [.ExceptHandler (some (.Name x np)) none (b₀::suite) hpos] [] [] pos) D ps:=
 PS.mono (qz hstk hfr F hr hg hm hk hb ha hex hgx hmx (fun ea=>(tI:PSs (gI X ea) (b₀::suite) ul)) hN hi hy hf hdb hdx he hpl hsw) fun D' σ H ⟨L,O,R⟩=>⟨O,R,fun vs H1 s1 r1=>⟨us,O,.new xs,(R.go s1).dom,r1,hsp,fun a ws H2 s2 n2 h2 r2=>L.nx _ _ _ _ ((R.go s1).own s2 n2 h2 r2) h⟩⟩
end
end L2
local macro_rules | `(tactic|walk_at "sz")=>`(tactic|first |with_reducible assumption | ((with_reducible apply L2.Sz.sub') <;>walk_at "sz") | ((with_reducible apply L2.Sz.add') <;>walk_at "sz") | ((with_reducible apply L2.Sz.mul) <;>walk_at "sz") | ((with_reducible apply L2.Sz.neg) <;>walk_at "sz") | ((with_reducible apply L2.Sz.ediv) <;>walk_at "sz") | ((with_reducible apply L2.Sz.abs) <;>walk_at "sz") |exact L2.Sz.lit (m:=8) (by decide) |exact L2.Sz.emod (m:=250) (by decide) (by decide) |exact L2.Sz.lit (m:=250) (by decide))
local macro_rules | `(tactic|walk_at "mul")=>`(tactic|exact L2.Sz.ok (by walk_at "sz") (by walk_at "sz") (by decide))
local macro_rules | `(tactic|walk_at "div")=>`(tactic|first |exact ⟨by decide,L2.Sz.mono (m:=250) (by decide) (by decide)⟩ |exact ⟨by lia,L2.Sz.mono (by walk_at "sz") (by decide)⟩)
local macro_rules | `(tactic|walk_at "mod")=>`(tactic|first |decide |lia)
local macro_rules | `(tactic|walk_at "szb")=>`(tactic|exact L2.Sz.mono (by walk_at "sz") (by decide))
local macro_rules | `(tactic|walk_at "kit")=>`(tactic|first |exact L2.kit_int_int _ |exact L2.kit_int_bool _ |exact L2.kit_tuple_tuple _ |exact L2.kit_list_list _ |exact L2.kit_bool_int _ |exact L2.kit_list_tuple _ |rfl)
local macro_rules | `(tactic|walk_at "ok")=>`(tactic|first |rfl |decide)
local macro_rules | `(tactic|walk_at "sub")=>`(tactic|first |exact trivial | (refine ⟨rfl,?_⟩;walk_at "sub") | (with_reducible apply L2.SubP.skip;walk_at "sub"))
local macro_rules | `(tactic|walk_at "len")=>`(tactic|first |decide | (simp only[List.length_append,List.length_cons,List.length_nil,List.length_map];decide))
namespace My
open PySem PySem.Spec PyProof.Rows L2
def top (i:Nat):Stmt:=PySem.Challenge.pw_stakefield_k24_stakes_near.main.body.getD i (.Pass ⟨0,0,0,0⟩)
abbrev cX:Stmt:=top 7
abbrev iJ:Stmt:=top 8
abbrev eT:Stmt:=top 9
abbrev ip:Stmt:=top 11
abbrev cY:Stmt:=top 12
abbrev cF:Stmt:=top 13
abbrev eM:Stmt:=top 14
abbrev fZ:Stmt:=top 15
abbrev cU:Stmt:=top 16
abbrev gd:Stmt:=top 17
abbrev gf:Stmt:=top 18
abbrev iF:Stmt:=top 20
abbrev ci:Stmt:=top 21
abbrev gc:Stmt:=top 22
abbrev fV:Stmt:=top 23
abbrev bK:Stmt:=top 24
abbrev jY:Stmt:=top 25
abbrev bH:Stmt:=top 26
abbrev gW:Stmt:=top 28
abbrev de:Stmt:=top 30
abbrev cD:Stmt:=top 31
abbrev cA:Stmt:=top 32
abbrev cV:Stmt:=top 35
abbrev cE:Stmt:=top 36
abbrev eQ:Stmt:=top 37
abbrev bO:Stmt:=top 39
abbrev ca:Stmt:=top 40
abbrev bC:Stmt:=top 41
abbrev cq:Stmt:=top 42
abbrev bN:Stmt:=top 43
abbrev cj:Stmt:=top 44
abbrev bu:Stmt:=top 45
abbrev bW:Stmt:=top 46
abbrev bI:Stmt:=top 47
abbrev kN:Stmt:=top 48
theorem nW:aw ["thing"] ["thing"] (ai cX):=⟨rfl,rfl,rfl,by decide+kernel,rfl,by decide+kernel,by decide+kernel⟩
theorem xz:aw ["number"] ["number"] (ai iJ):=⟨rfl,rfl,rfl,by decide+kernel,rfl,by decide+kernel,by decide+kernel⟩
theorem bv:aw ["a","b","high","high_times","low","low_times","fits","rest","rest_times","s"] ["a","b"] (ai eT):=⟨rfl,rfl,rfl,by decide+kernel,rfl,by decide+kernel,by decide+kernel⟩
theorem xY:aw ["move"] ["move"] (ai ip):=⟨rfl,rfl,rfl,by decide+kernel,rfl,by decide+kernel,by decide+kernel⟩
theorem jr:aw ["thing","number"] ["thing"] (ai cY):=⟨rfl,rfl,rfl,by decide+kernel,rfl,by decide+kernel,by decide+kernel⟩
theorem md:aw ["thing"] ["thing"] (ai cF):=⟨rfl,rfl,rfl,by decide+kernel,rfl,by decide+kernel,by decide+kernel⟩
theorem sH:aw ["P","move"] ["P","move"] (ai eM):=⟨rfl,rfl,rfl,by decide+kernel,rfl,by decide+kernel,by decide+kernel⟩
theorem n8:aw ["P","move","place"] ["P","move"] (ai fZ):=⟨rfl,rfl,rfl,by decide+kernel,rfl,by decide+kernel,by decide+kernel⟩
theorem cG:aw ["move","side","a","b","c","d"] ["move"] (ai cU):=⟨rfl,rfl,rfl,by decide+kernel,rfl,by decide+kernel,by decide+kernel⟩
theorem vh:aw ["P","Q"] ["P","Q"] (ai gd):=⟨rfl,rfl,rfl,by decide+kernel,rfl,by decide+kernel,by decide+kernel⟩
theorem dt:aw ["P","Q","far","u","v","parts","s","t"] ["P","Q"] (ai gf):=⟨rfl,rfl,rfl,by decide+kernel,rfl,by decide+kernel,by decide+kernel⟩
theorem xk:aw ["P","Q","R"] ["P","Q","R"] (ai iF):=⟨rfl,rfl,rfl,by decide+kernel,rfl,by decide+kernel,by decide+kernel⟩
theorem d9:aw ["row","kept","P"] ["row"] (ai ci):=⟨rfl,rfl,rfl,by decide+kernel,rfl,by decide+kernel,by decide+kernel⟩
theorem fG:aw ["points","row","there","back"] ["points"] (ai gc):=⟨rfl,rfl,rfl,by decide+kernel,rfl,by decide+kernel,by decide+kernel⟩
theorem vg:aw ["land"] ["land"] (ai fV):=⟨rfl,rfl,rfl,by decide+kernel,rfl,by decide+kernel,by decide+kernel⟩
theorem dN:aw ["land","A","B"] ["land"] (ai bK):=⟨rfl,rfl,rfl,by decide+kernel,rfl,by decide+kernel,by decide+kernel⟩
theorem pU:aw ["land","A","B"] ["land"] (ai jY):=⟨rfl,rfl,rfl,by decide+kernel,rfl,by decide+kernel,by decide+kernel⟩
theorem fP:aw ["land","move","P"] ["land","move"] (ai bH):=⟨rfl,rfl,rfl,by decide+kernel,rfl,by decide+kernel,by decide+kernel⟩
theorem qO:aw ["land","k","P"] ["land","k"] (ai gW):=⟨rfl,rfl,rfl,by decide+kernel,rfl,by decide+kernel,by decide+kernel⟩
theorem oa:aw ["land","k"] ["land","k"] (ai de):=⟨rfl,rfl,rfl,by decide+kernel,rfl,by decide+kernel,by decide+kernel⟩
theorem mw:aw ["land"] ["land"] (ai cD):=⟨rfl,rfl,rfl,by decide+kernel,rfl,by decide+kernel,by decide+kernel⟩
theorem n_:aw ["land","k","many"] ["land","k"] (ai cA):=⟨rfl,rfl,rfl,by decide+kernel,rfl,by decide+kernel,by decide+kernel⟩
theorem bX:aw ["land","y","begins","ends","A","B","rise","run"] ["land","y"] (ai cV):=⟨rfl,rfl,rfl,by decide+kernel,rfl,by decide+kernel,by decide+kernel⟩
theorem bR:aw ["land","move","levelled","back","found","y","ends","x","P"] ["land"] (ai cE):=⟨rfl,rfl,rfl,by decide+kernel,rfl,by decide+kernel,by decide+kernel⟩
theorem sZ:aw ["land"] ["land"] (ai eQ):=⟨rfl,rfl,rfl,by decide+kernel,rfl,by decide+kernel,by decide+kernel⟩
theorem iV:aw ["script","k"] ["script","k"] (ai bO):=⟨rfl,rfl,rfl,by decide+kernel,rfl,by decide+kernel,by decide+kernel⟩
theorem kw:aw ["found"] ["found"] (ai ca):=⟨rfl,rfl,rfl,by decide+kernel,rfl,by decide+kernel,by decide+kernel⟩
theorem iG:aw ["found"] ["found"] (ai bC):=⟨rfl,rfl,rfl,by decide+kernel,rfl,by decide+kernel,by decide+kernel⟩
theorem gF:aw ["one","two","three","made"] ["one","two","three"] (ai cq):=⟨rfl,rfl,rfl,by decide+kernel,rfl,by decide+kernel,by decide+kernel⟩
theorem bp:aw ["points","row","found","way","half","spot"] ["points"] (ai bN):=⟨rfl,rfl,rfl,by decide+kernel,rfl,by decide+kernel,by decide+kernel⟩
theorem gA:aw ["ends","spot","k"] ["ends","spot"] (ai cj):=⟨rfl,rfl,rfl,by decide+kernel,rfl,by decide+kernel,by decide+kernel⟩
theorem bj:aw ["ends","xs","spot","ys","some","x","y"] ["ends"] (ai bu):=⟨rfl,rfl,rfl,by decide+kernel,rfl,by decide+kernel,by decide+kernel⟩
theorem aQ:aw ["script","shape","wide","high","x","y","cells","cell"] ["script"] (ai bW):=⟨rfl,rfl,rfl,by decide+kernel,rfl,by decide+kernel,by decide+kernel⟩
theorem fL:aw ["found","due","spot"] ["found","due"] (ai bI):=⟨rfl,rfl,rfl,by decide+kernel,rfl,by decide+kernel,by decide+kernel⟩
theorem ff:aw ["script","ends","due","handed","found","refused"] ["script"] (ai kN):=⟨rfl,rfl,rfl,by decide+kernel,rfl,by decide+kernel,by decide+kernel⟩
set_option genInjectivity false in
set_option genSizeOf false in
set_option genSizeOfSpec false in
structure Txt (K:B2) (mg:Str→Option Value) where
 a_is_whole:Addr
 d_is_whole:CN
 F_is_whole:Fun K "is_whole" "is_whole" cX a_is_whole d_is_whole
 b_is_whole:aG K d_is_whole ["thing"] []
 m_is_whole:mg "is_whole"=some (.ref a_is_whole)
 a_sign:Addr
 d_sign:CN
 F_sign:Fun K "sign" "sign" iJ a_sign d_sign
 b_sign:aG K d_sign ["number"] []
 m_sign:mg "sign"=some (.ref a_sign)
 a_shares:Addr
 d_shares:CN
 F_shares:Fun K "shares" "shares" eT a_shares d_shares
 b_shares:aG K d_shares ["a","b"] []
 m_shares:mg "shares"=some (.ref a_shares)
 a_hand:Addr
 d_hand:CN
 F_hand:Fun K "hand" "hand" ip a_hand d_hand
 b_hand:aG K d_hand ["move"] []
 m_hand:mg "hand"=some (.ref a_hand)
 a_is_move:Addr
 d_is_move:CN
 F_is_move:Fun K "is_move" "is_move" cY a_is_move d_is_move
 b_is_move:aG K d_is_move ["thing"] []
 m_is_move:mg "is_move"=some (.ref a_is_move)
 a_need_move:Addr
 d_need_move:CN
 F_need_move:Fun K "need_move" "need_move" cF a_need_move d_need_move
 b_need_move:aG K d_need_move ["thing"] []
 m_need_move:mg "need_move"=some (.ref a_need_move)
 a_turned:Addr
 d_turned:CN
 F_turned:Fun K "turned" "turned" eM a_turned d_turned
 b_turned:aG K d_turned ["P","move"] []
 m_turned:mg "turned"=some (.ref a_turned)
 a_moved:Addr
 d_moved:CN
 F_moved:Fun K "moved" "moved" fZ a_moved d_moved
 b_moved:aG K d_moved ["P","move"] []
 m_moved:mg "moved"=some (.ref a_moved)
 a_way_back:Addr
 d_way_back:CN
 F_way_back:Fun K "way_back" "way_back" cU a_way_back d_way_back
 b_way_back:aG K d_way_back ["move"] []
 m_way_back:mg "way_back"=some (.ref a_way_back)
 a_steps:Addr
 d_steps:CN
 F_steps:Fun K "steps" "steps" gd a_steps d_steps
 b_steps:aG K d_steps ["P","Q"] []
 m_steps:mg "steps"=some (.ref a_steps)
 a_level:Addr
 d_level:CN
 F_level:Fun K "level" "level" gf a_level d_level
 b_level:aG K d_level ["P","Q"] []
 m_level:mg "level"=some (.ref a_level)
 a_turn:Addr
 d_turn:CN
 F_turn:Fun K "turn" "turn" iF a_turn d_turn
 b_turn:aG K d_turn ["P","Q","R"] []
 m_turn:mg "turn"=some (.ref a_turn)
 a_left_bends:Addr
 d_left_bends:CN
 F_left_bends:Fun K "left_bends" "left_bends" ci a_left_bends d_left_bends
 b_left_bends:aG K d_left_bends ["row"] []
 m_left_bends:mg "left_bends"=some (.ref a_left_bends)
 a_field:Addr
 d_field:CN
 F_field:Fun K "field" "field" gc a_field d_field
 b_field:aG K d_field ["points"] []
 m_field:mg "field"=some (.ref a_field)
 a_sides:Addr
 d_sides:CN
 F_sides:Fun K "sides" "sides" fV a_sides d_sides
 b_sides:aG K d_sides ["land"] []
 m_sides:mg "sides"=some (.ref a_sides)
 a_double_area:Addr
 d_double_area:CN
 F_double_area:Fun K "double_area" "double_area" bK a_double_area d_double_area
 b_double_area:aG K d_double_area ["land"] []
 m_double_area:mg "double_area"=some (.ref a_double_area)
 a_rim:Addr
 d_rim:CN
 F_rim:Fun K "rim" "rim" jY a_rim d_rim
 b_rim:aG K d_rim ["land"] []
 m_rim:mg "rim"=some (.ref a_rim)
 a_field_moved:Addr
 d_field_moved:CN
 F_field_moved:Fun K "field_moved" "field_moved" bH a_field_moved d_field_moved
 b_field_moved:aG K d_field_moved ["land","move"] []
 m_field_moved:mg "field_moved"=some (.ref a_field_moved)
 a_fold:Addr
 d_fold:CN
 F_fold:Fun K "fold" "fold" gW a_fold d_fold
 b_fold:aG K d_fold ["land","k"] []
 m_fold:mg "fold"=some (.ref a_fold)
 a_multiple:Addr
 d_multiple:CN
 F_multiple:Fun K "multiple" "multiple" de a_multiple d_multiple
 b_multiple:aG K d_multiple ["land","k"] []
 m_multiple:mg "multiple"=some (.ref a_multiple)
 a_points_in:Addr
 d_points_in:CN
 F_points_in:Fun K "points_in" "points_in" cD a_points_in d_points_in
 b_points_in:aG K d_points_in ["land"] []
 m_points_in:mg "points_in"=some (.ref a_points_in)
 a_count:Addr
 d_count:CN
 D_count:Addr
 F_count:wk K "count" "count" cA a_count d_count D_count
 b_count:aG K d_count ["land","k"] []
 bd_count:∃t,aG K d_count ["land","k"] [.int 1 t]
 m_count:mg "count"=some (.ref a_count)
 a_row_ends:Addr
 d_row_ends:CN
 F_row_ends:Fun K "row_ends" "row_ends" cV a_row_ends d_row_ends
 b_row_ends:aG K d_row_ends ["land","y"] []
 m_row_ends:mg "row_ends"=some (.ref a_row_ends)
 a_by_rows:Addr
 d_by_rows:CN
 F_by_rows:Fun K "by_rows" "by_rows" cE a_by_rows d_by_rows
 b_by_rows:aG K d_by_rows ["land"] []
 m_by_rows:mg "by_rows"=some (.ref a_by_rows)
 a_stakes:Addr
 d_stakes:CN
 F_stakes:Fun K "stakes" "stakes" eQ a_stakes d_stakes
 b_stakes:aG K d_stakes ["land"] []
 m_stakes:mg "stakes"=some (.ref a_stakes)
 a__law_cell_at:Addr
 d__law_cell_at:CN
 F__law_cell_at:Fun K "_law_cell_at" "_law_cell_at" bO a__law_cell_at d__law_cell_at
 b__law_cell_at:aG K d__law_cell_at ["script","k"] []
 m__law_cell_at:mg "_law_cell_at"=some (.ref a__law_cell_at)
 a__law_whole:Addr
 d__law_whole:CN
 F__law_whole:Fun K "_law_whole" "_law_whole" ca a__law_whole d__law_whole
 b__law_whole:aG K d__law_whole ["found"] []
 m__law_whole:mg "_law_whole"=some (.ref a__law_whole)
 a__law_is_point:Addr
 d__law_is_point:CN
 F__law_is_point:Fun K "_law_is_point" "_law_is_point" bC a__law_is_point d__law_is_point
 b__law_is_point:aG K d__law_is_point ["found"] []
 m__law_is_point:mg "_law_is_point"=some (.ref a__law_is_point)
 a__law_cross:Addr
 d__law_cross:CN
 F__law_cross:Fun K "_law_cross" "_law_cross" cq a__law_cross d__law_cross
 b__law_cross:aG K d__law_cross ["one","two","three"] []
 m__law_cross:mg "_law_cross"=some (.ref a__law_cross)
 a__law_corners:Addr
 d__law_corners:CN
 F__law_corners:Fun K "_law_corners" "_law_corners" bN a__law_corners d__law_corners
 b__law_corners:aG K d__law_corners ["points"] []
 m__law_corners:mg "_law_corners"=some (.ref a__law_corners)
 a__law_holds:Addr
 d__law_holds:CN
 F__law_holds:Fun K "_law_holds" "_law_holds" cj a__law_holds d__law_holds
 b__law_holds:aG K d__law_holds ["ends","spot"] []
 m__law_holds:mg "_law_holds"=some (.ref a__law_holds)
 a__law_walked:Addr
 d__law_walked:CN
 F__law_walked:Fun K "_law_walked" "_law_walked" bu a__law_walked d__law_walked
 b__law_walked:aG K d__law_walked ["ends"] []
 m__law_walked:mg "_law_walked"=some (.ref a__law_walked)
 a__law_ends:Addr
 d__law_ends:CN
 F__law_ends:Fun K "_law_ends" "_law_ends" bW a__law_ends d__law_ends
 b__law_ends:aG K d__law_ends ["script"] []
 m__law_ends:mg "_law_ends"=some (.ref a__law_ends)
 a__law_points:Addr
 d__law_points:CN
 F__law_points:Fun K "_law_points" "_law_points" bI a__law_points d__law_points
 b__law_points:aG K d__law_points ["found","due"] []
 m__law_points:mg "_law_points"=some (.ref a__law_points)
 a_law:Addr
 d_law:CN
 F_law:Fun K "law" "law" kN a_law d_law
 b_law:aG K d_law ["script"] []
 m_law:mg "law"=some (.ref a_law)
 c_NoField:Addr
 x_NoField:Fh K c_NoField [.type "ValueError",.type "Exception",.type "BaseException",.type "object"] "ValueError.__new__"=true
 mx_NoField:mg "NoField"=some (.ref c_NoField)
 c_NoMove:Addr
 x_NoMove:Fh K c_NoMove [.type "ValueError",.type "Exception",.type "BaseException",.type "object"] "ValueError.__new__"=true
 mx_NoMove:mg "NoMove"=some (.ref c_NoMove)
 c_TooMany:Addr
 x_TooMany:Fh K c_TooMany [.type "ValueError",.type "Exception",.type "BaseException",.type "object"] "ValueError.__new__"=true
 mx_TooMany:mg "TooMany"=some (.ref c_TooMany)
 z_abs:mg "abs"=none
 z_all:mg "all"=none
 z_bool:mg "bool"=none
 z_int:mg "int"=none
 z_isinstance:mg "isinstance"=none
 z_len:mg "len"=none
 z_list:mg "list"=none
 z_max:mg "max"=none
 z_min:mg "min"=none
 z_range:mg "range"=none
 z_reversed:mg "reversed"=none
 z_set:mg "set"=none
 z_sorted:mg "sorted"=none
 z_sum:mg "sum"=none
 z_tuple:mg "tuple"=none
 z_zip:mg "zip"=none
 g_MOST_STAKES:∃t,mg "MOST_STAKES"=some (.int 100 t)
section
variable {P:Cy}{w:World}{K:B2}{mg:Str→Option Value}{base:Heap}
def sgn (n:Int):Int:=if 0 < n then 1 else if n < 0 then -1 else 0
def bU (b:Int):Int:=if b < 0 then -b else b
theorem dq (b:Int):bU b=(b.natAbs:Int):=by unfold bU;split <;>lia
theorem gX {b:Int} (h:b≠0):0 < bU b:=by unfold bU;split <;>lia
theorem dr (d b:Int):d ∣ bU b↔d ∣ b:=by
 unfold bU;split
 ·exact HM
 ·exact Iff.rfl
theorem vd (d b:Int):bU b ∣ d↔b ∣ d:=by
 unfold bU;split
 ·exact Int.neg_dvd
 ·exact Iff.rfl
structure iN (a b high ht low lt:Int):Prop where
 hp:0 < high
 lo0:0≤low
 lolt:low < high
 dv:∀d,(d ∣ high∧d ∣ low)↔(d ∣ a∧d ∣ b)
 ch:b ∣ ht*a - high
 cl:b ∣ lt*a - low
 bd:ht.natAbs*low.natAbs+lt.natAbs*high.natAbs≤b.natAbs
 hi:high.natAbs≤b.natAbs
theorem oy {a b:Int} (hb:b≠0):iN a b (bU b) 0 (a % bU b) 1:=by
 have h0:=gX hb
 refine ⟨h0,EC _ (by lia),DH _ h0,fun d=>?_,?_,?_,?_,by rw[dq];simp⟩
 ·rw[dr]
  constructor
  ·rintro ⟨h1,h2⟩
   refine ⟨?_,h1⟩
   have e:=Dr a (bU b)
   rw[←e]
   exact FF h2 (C6 ((dr d b).mpr h1) (Ef _ _))
  ·rintro ⟨h1,h2⟩
   refine ⟨h2,?_⟩
   have e:a % bU b=a - bU b*(a / bU b):=by have:=Dr a (bU b);lia
   rw[e]
   exact HN h1 (C6 ((dr d b).mpr h2) (Ef _ _))
 ·rw[GA,Int.zero_sub,HM]
  exact (dr b b).mpr (GB b)
 ·have e:1*a - a % bU b=bU b*(a / bU b):=by have:=Dr a (bU b);lia
  rw[e]
  exact C6 ((dr b b).mpr (GB b)) (Ef _ _)
 ·rw[dq];simp
theorem qI {a b high ht low lt:Int} (I:iN a b high ht low lt) (h:low≠0):iN a b low lt (high - high / low*low) (ht - high / low*lt)∧high - high / low*low < low:=by
 obtain ⟨hp,lo0,lolt,dv,ch,cl,bd,hi⟩:=I
 have hl:0 < low:=by lia
 have e:=Dr high low
 have r0:=EC high h
 have r1:=DH high hl
 have hf:0≤high / low:=Li (by lia) (by lia)
 have er:high - high / low*low=high % low:=by rw[EU];lia
 rw[er]
 refine ⟨⟨hl,r0,r1,fun d=>?_,cl,?_,?_,by lia⟩,r1⟩
 ·rw[←dv d]
  constructor
  ·rintro ⟨h1,h2⟩
   refine ⟨?_,h1⟩
   rw[←e]
   exact FF h2 (C6 h1 (Ef _ _))
  ·rintro ⟨h1,h2⟩
   refine ⟨h2,?_⟩
   rw[show high % low=high - low*(high / low) by lia]
   exact HN h1 (C6 h2 (Ef _ _))
 ·have e2:(ht - high / low*lt) *a - high % low=(ht*a - high) - (high / low) *(lt*a - low):=by grind
  rw[e2]
  exact HN ch (C6 cl (Dg _ _))
 ·have n1:(ht - high / low*lt).natAbs≤ht.natAbs+(high / low).natAbs*lt.natAbs:=by
   have:=Int.natAbs_sub_le ht (high / low*lt)
   rw[Hf] at this
   exact this
  have n2:high.natAbs=(high % low).natAbs+low.natAbs*(high / low).natAbs:=by
   have:(high.natAbs:Int)=((high % low).natAbs+low.natAbs*(high / low).natAbs:Nat):=by
    push_cast
    rw[Gj r0,Gj hf,Gj (by lia:0≤high),Gj lo0]
    lia
   lia
  have n3:(ht - high / low*lt).natAbs*low.natAbs≤(ht.natAbs+(high / low).natAbs*lt.natAbs) *low.natAbs:=JA _ n1
  rw[n2] at bd
  refine DZ ?_ bd
  generalize (ht - high / low*lt).natAbs=A at *
  generalize ht.natAbs=B at *
  generalize lt.natAbs=C at *
  generalize low.natAbs=D at *
  generalize (high / low).natAbs=E at *
  generalize (high % low).natAbs=F at *
  grind
structure eG (a b g s t:Int):Prop where
 g0:0≤g
 eq:s*a+t*b=g
 da:g ∣ a
 db:g ∣ b
 z:b=0→t=0∧s=sgn a∧g=bU a
 nz:b≠0→0 < g∧0≤s∧s < bU b / g
theorem lz (a:Int):eG a 0 (bU a) (sgn a) 0:=by
 refine ⟨by unfold bU;split <;>lia,?_,(vd a a).mpr (GB a),Mt _,fun _=>⟨rfl,rfl,rfl⟩,fun h=>absurd rfl h⟩
 unfold sgn bU
 split
 ·split <;>lia
 ·split
  ·lia
  ·lia
theorem vK {a b high ht lt:Int} (hb:b≠0) (I:iN a b high ht 0 lt):eG a b high (ht % (bU b / high)) ((high - ht % (bU b / high) *a).fdiv b):=by
 obtain ⟨hp,lo0,lolt,dv,ch,cl,bd,hi⟩:=I
 obtain ⟨ga,gb⟩:=(dv high).mp ⟨GB _,Mt _⟩
 obtain ⟨a',rfl⟩:=ga
 have gb2:high ∣ bU b:=(dr _ _).mpr gb
 obtain ⟨b',hb'⟩:=gb2
 have hb0:=gX hb
 have hq:bU b / high=b':=by rw[hb',EA _ (by lia)]
 have hb1:0 < b':=by
  have:0 < high*b':=by lia
  exact D8 this (by lia)
 rw[hq]
 have es:=Dr ht b'
 have key:b ∣ high - ht % b'*(high*a'):=by
  have e:high - ht % b'*(high*a')=-(ht*(high*a') - high)+bU b*(a'*(ht / b')):=by
   rw[hb',show ht % b'=ht - b'*(ht / b') by lia];grind
  rw[e]
  refine FF (HM.mpr ch) (C6 ((dr b b).mpr (GB b)) (Ef _ _))
 refine ⟨by lia,?_,Ef _ _,gb,fun h=>absurd h hb,fun _=>⟨hp,EC _ (by lia),?_⟩⟩
 ·obtain ⟨c,hc⟩:=key
  rw[hc,Int.mul_fdiv_cancel_left _ hb,EU c b];lia
 ·rw[hq];exact DH _ hb1
theorem A3 {a b high ht low lt:Int} (I:iN a b high ht low lt):lt.natAbs≤b.natAbs:=by
 have h1:1≤high.natAbs:=by have:=I.hp;lia
 have h2:lt.natAbs*1≤lt.natAbs*high.natAbs:=Nat.mul_le_mul_left _ h1
 have:=I.bd
 lia
theorem v_ {a b g s t g' s' t':Int} (h:eG a b g s t) (h':eG a b g' s' t'):g=g'∧s=s'∧t=t':=by
 have d1:g ∣ g':=by rw[←h'.eq];exact FF (C6 h.da (Dg _ _)) (C6 h.db (Dg _ _))
 have d2:g' ∣ g:=by rw[←h.eq];exact FF (C6 h'.da (Dg _ _)) (C6 h'.db (Dg _ _))
 have eg:g=g':=IQ h.g0 h'.g0 d1 d2
 subst eg
 by_cases hb:b=0
 ·obtain ⟨h1,h2,_⟩:=h.z hb
  obtain ⟨k1,k2,_⟩:=h'.z hb
  exact ⟨rfl,by lia,by lia⟩
 ·obtain ⟨p,s0,s1⟩:=h.nz hb
  obtain ⟨_,s0',s1'⟩:=h'.nz hb
  obtain ⟨a',ha⟩:=h.da
  obtain ⟨b',hb'⟩:=(dr g b).mpr h.db
  obtain ⟨b'',hb''⟩:=h.db
  have hq:bU b / g=b':=by rw[hb',EA _ (by lia)]
  rw[hq] at s1 s1'
  have e1:=h.eq
  have e2:=h'.eq
  have bz:b''≠0:=by intro z;rw[z,DN] at hb'';exact hb hb''
  have k1:s*a'+t*b''=1:=by
   have:g*(s*a'+t*b'')=g*1:=by rw[ha,hb''] at e1;grind
   exact Dz (by lia) this
  have k2:s'*a'+t'*b''=1:=by
   have:g*(s'*a'+t'*b'')=g*1:=by rw[ha,hb''] at e2;grind
   exact Dz (by lia) this
  have k3:b'' ∣ s - s':=by
   refine ⟨s*(t' - t)+t*(s - s'),?_⟩
   grind
  have k4:b' ∣ s - s':=by
   have:b'.natAbs=b''.natAbs:=by
    have q1:(bU b).natAbs=b.natAbs:=by rw[dq];simp
    rw[hb',hb''] at q1
    rw[Hf,Hf] at q1
    exact Nat.eq_of_mul_eq_mul_left (by lia) q1
   exact Hl.mp (by rw[this];exact Hl.mpr k3)
  have k5:s=s':=by
   have:s - s'=0:=Int.eq_zero_of_dvd_of_natAbs_lt_natAbs k4 (by lia)
   lia
  subst k5
  refine ⟨rfl,rfl,?_⟩
  have:b*t=b*t':=by grind
  exact Dz hb this
theorem zi {a b:Int} (hb:b≠0):∀(n:Nat) (high ht low lt:Int),low.toNat≤n→iN a b high ht low lt→∃high' ht' lt',iN a b high' ht' 0 lt'
 |0,high,ht,low,lt,hn,I=>by
  have:low=0:=by have:=I.lo0;lia
  subst this
  exact ⟨_,_,_,I⟩
 |n+1,high,ht,low,lt,hn,I=>by
  by_cases h:low=0
  ·subst h;exact ⟨_,_,_,I⟩
  ·obtain ⟨I2,less⟩:=qI I h
   have:=I2.lo0
   exact zi hb n _ _ _ _ (by have:=I.lo0;lia) I2
theorem mj (a b:Int):∃g s t,eG a b g s t:=by
 by_cases hb:b=0
 ·subst hb;exact ⟨_,_,_,lz a⟩
 ·obtain ⟨h,ht,lt,I⟩:=zi hb _ _ _ _ _ (B9 _) (oy (a:=a) hb)
  exact ⟨_,_,_,vK hb I⟩
theorem mh {m:Nat}{a b g s t:Int} (G:eG a b g s t) (sa:Sz m a) (sb:Sz m b):Sz (m+8) g∧Sz (m+8) s∧Sz (2*m+8) t:=by
 by_cases hb:b=0
 ·subst hb
  obtain ⟨h1,h2,h3⟩:=G.z rfl
  rw[h1,h2,h3]
  have s1:Sz 8 (sgn a):=by unfold Sz sgn;split;decide;split <;>decide
  exact ⟨(Sz.abs sa).mono (by lia),s1.mono (by lia),Sz.mono (m:=8) (by decide) (by lia)⟩
 ·obtain ⟨g0,s0,s1⟩:=G.nz hb
  have h1:bU b / g≤bU b:=KS _ (by have:=gX hb;lia)
  have h2:=dq b
  have sg:Sz m g:=by
   refine sb.natle ?_
   exact Nat.le_of_dvd (by lia) (Hl.mpr G.db)
  have ss:Sz m s:=sb.natle (by lia)
  refine ⟨sg.mono (by lia),ss.mono (by lia),?_⟩
  have e:t*b=g - s*a:=by have:=G.eq;lia
  have q:Sz (2*m+1) (t*b):=by
   rw[e]
   have:Sz (m+m) (s*a):=ss.mul sa
   have h3:=(sg.mono (show m≤m+m by lia)).sub this
   exact h3.mono (by lia)
  refine (Sz.mono (m:=2*m+1) ?_ (by lia))
  unfold Sz at *
  rw[Hf] at q
  have:1≤b.natAbs:=by lia
  exact HZ (Nat.le_mul_of_pos_right _ this) q
def tR:List U→Out→Prop:=fun us o=>∃n:Int,us=[.int n]∧o=.val (.int (sgn n))
theorem qT (T:Txt K mg):a_ P w K mg base (CXF P w) 1 T.a_sign T.d_sign ["number"] (spU K (tR)):=by
 refine bn T.F_sign xz (fun us o h=>?_) (fun cdv A outer s H E O us o hr h=>?_)
 ·obtain ⟨n,rfl,rfl⟩:=h
  rfl
 obtain ⟨n,rfl,rfl⟩:=h
 refine Ws.nox ?_
 refine ae (ie (aT iA (aa 0 rfl) aj) (fun hT=>?_) (fun hF=>(aH ?_)))
 ·refine ae (aJ aj ?_)
  exact vIO (by unfold sgn;rw[if_pos (dTb hT)])
 ·refine ae (ie (aT ij (aa 0 rfl) aj) (fun hT=>?_) (fun hF=>(aH ?_)))
  ·refine ae (aJ (cR aj) ?_)
   exact vIO (by unfold sgn;rw[if_neg (dFb hF),if_pos (dTb hT)])
  ·rename_i hF2
   refine ae (aJ aj ?_)
   exact vIO (by unfold sgn;rw[if_neg (dFb hF),if_neg (dFb hF2)])
def oF:List U→Out→Prop:=fun us o=>∃a b g s t:Int,us=[.int a,.int b]∧Sz 4000 a∧Sz 4000 b∧eG a b g s t∧o=.val (.tup [.int g,.int s,.int t])
theorem nu {a b g s t g' s' t':Int} (G:eG a b g s t) (G':eG a b g' s' t'):Out.val (.tup [.int g,.int s,.int t])=Out.val (.tup [.int g',.int s',.int t']):=by
 obtain ⟨rfl,rfl,rfl⟩:=v_ G G'
 rfl
theorem kW (T:Txt K mg):a_ P w K mg base (CXF P w) 2 T.a_shares T.d_shares ["a","b"] (spU K (oF)):=by
 refine bn T.F_shares bv (fun us o h=>?_) (fun cdv A outer s H E O us o hr h=>?_)
 ·obtain ⟨a,b,g,s,t,rfl,sa,sb,G,rfl⟩:=h
  rfl
 obtain ⟨a,b,g,s,t,rfl,sa,sb,G,rfl⟩:=h
 refine Ws.nox ?_
 refine ae (ie (aT eo (aa 1 rfl) aj) (fun hT=>?_) (fun hF=>(aH ?_)))
 ·have hb:b=0:=dTb hT
  subst hb
  refine ae (aJ (cM (aA (aq uU rfl T.z_abs PyProof.Rows.boot_abs (ag (aa 0 rfl) ao ah)) (aA (aM ((qT T).mono (by decide)) hr rfl T.m_sign T.F_sign.kp T.b_sign aI (ag (aa 0 rfl) ao ah) ⟨_,rfl,rfl⟩) (aA aj bT fF) dB) dB)) ?_)
  exact nu (lz a) G
 ·have hb:b≠0:=dFb hF
  have hp0:=gX hb
  have sab:Sz 4000 (bU b):=Sz.abs sb
  refine ae (aE (i:=2) bv.nd rfl (Or.inl rfl) (aq uU rfl T.z_abs PyProof.Rows.boot_abs (ag (aa 1 rfl) ao ah)) ?_)
  refine ae (aE (i:=3) bv.nd rfl (Or.inl rfl) aj ?_)
  refine ae (aE (i:=4) bv.nd rfl (Or.inl rfl) (fm (aa 0 rfl) (aa 2 rfl) hp0) ?_)
  refine ae (aE (i:=5) bv.nd rfl (Or.inl rfl) aj ?_)
  refine ae (jB (fun m:Int×Int×Int×Int=>[some (.val (.int a)),some (.val (.int b)),some (.val (.int m.1)),some (.val (.int m.2.1)),some (.val (.int m.2.2.1)),some (.val (.int m.2.2.2)),none,none,none,none]) (fun n m=>n=m.2.2.1.toNat∧iN a b m.1 m.2.1 m.2.2.1 m.2.2.2) PassesOwn.never ?h0 ?hs)
  case h0=>exact ⟨_,(_,_,_,_),⟨rfl,oy hb⟩,rfl,rfl,rfl,rfl,rfl,rfl,trivial⟩
  case hs=>
   rintro m ⟨high,ht,low,lt⟩ ⟨rfl,I⟩
   dsimp only at I ⊢
   have hl0:=I.lo0
   have hl1:=I.lolt
   have sh:Sz 4000 high:=sb.natle I.hi
   have sl:Sz 4000 low:=sh.natle (by lia)
   have slt:Sz 4000 lt:=sb.natle (A3 I)
   refine ⟨_,(aT yK (aa 4 rfl) aj),fun h=>?_,fun h ps hps=>?_⟩
   ·have hl:low≠0:=nTb h
    obtain ⟨I2,less⟩:=qI I hl
    have hlt:(high - high / low*low).toNat < low.toNat:=by clear h;lia
    refine ae (aE (i:=6) bv.nd rfl (Or.inl rfl) (fq (aa 2 rfl) (aa 4 rfl) (by walk_at "div")) ?_)
    have sf:Sz 4000 (high / low):=sh.ediv
    refine ae (aE (i:=7) bv.nd rfl (Or.inl rfl) (bD (aa 2 rfl) (br (aa 6 rfl) (aa 4 rfl) (by walk_at "mul"))) ?_)
    refine ae (aE (i:=8) bv.nd rfl (Or.inl rfl) (bD (aa 3 rfl) (br (aa 6 rfl) (aa 5 rfl) (by walk_at "mul"))) ?_)
    refine ae (aE (i:=2) bv.nd rfl (Or.inl rfl) (aa 4 rfl) ?_)
    refine ae (aE (i:=3) bv.nd rfl (Or.inl rfl) (aa 5 rfl) ?_)
    refine ae (aE (i:=4) bv.nd rfl (Or.inl rfl) (aa 7 rfl) ?_)
    refine ae (aE (i:=5) bv.nd rfl (Or.inl rfl) (aa 8 rfl) (aH ?_))
    exact ⟨_,(_,_,_,_),hlt,⟨rfl,I2⟩,rfl,rfl,rfl,rfl,rfl,rfl,trivial⟩
   ·have hl:low=0:=nFb h
    subst hl
    refine d7 ?_ hps
    have G2:=vK hb I
    obtain ⟨g0,s0,s1⟩:=G2.nz hb
    have hm:0 < bU b / high:=by lia
    have hg:0 < high:=I.hp
    have ss:Sz 4000 (ht % (bU b / high)):=by
     refine sb.natle ?_
     have h1:bU b / high≤bU b:=KS _ (by lia)
     have h2:=dq b
     lia
    refine ae (aE (i:=9) bv.nd rfl (Or.inl rfl) (fm (aa 3 rfl) (fq (aq uU rfl T.z_abs PyProof.Rows.boot_abs (ag (aa 1 rfl) ao ah)) (aa 2 rfl) ⟨hg,sh.mono (by decide)⟩) hm) ?_)
    refine ae (aJ (cM (aA (aa 2 rfl) (aA (aa 9 rfl) (aA (zH (bD (aa 2 rfl) (br (aa 9 rfl) (aa 0 rfl) (Sz.ok ss sa (by decide)))) (aa 1 rfl) ⟨hb,sb.mono (by decide)⟩) bT bS) ah) ah)) ?_)
    exact nu G2 G
def isInt:U→Bool
 | .int _=>true
 |_=>false
abbrev mv (a b c d e f:Int):U:=.tup [.int a,.int b,.int c,.int d,.int e,.int f]
def iI:U→Bool
 | .tup [.int a,.int b,.int c,.int d,.int _,.int _]=>decide (a*d - b*c=1) ||decide (a*d - b*c=-1)
 |_=>false
structure mO (u:U):Prop where
 ty:∀m,u≠.ty m
 ity:∀xs,u=.tup xs→∀x∈xs,∀m,x≠.ty m
 len:∀xs,u=.tup xs→xs.length≤100
 sz:∀a b c d e f,u=mv a b c d e f→Sz 30000 a∧Sz 30000 b∧Sz 30000 c∧Sz 30000 d
theorem mO.of {a b c d e f:Int} (ha:Sz 30000 a) (hb:Sz 30000 b) (hc:Sz 30000 c) (hd:Sz 30000 d):mO (mv a b c d e f):=by
 refine ⟨fun m h=>(nomatch h),fun xs h x hx m e=>?_,fun xs h=>?_,fun a' b' c' d' e' f' h=>?_⟩
 ·cases h;subst e;simp at hx
 ·cases h;simp
 ·cases h;exact ⟨ha,hb,hc,hd⟩
theorem w8 {a b c d e f:Int} (h:a*d - b*c=1∨a*d - b*c=-1):iI (mv a b c d e f)=true:=by
 show (decide (a*d - b*c=1) ||decide (a*d - b*c=-1))=true
 simpa using h
theorem vO {xs:List U} (h:xs.length≠6):iI (.tup xs)=false:=by
 unfold iI
 split
 ·rename_i e;cases e;simp at h
 ·rfl
theorem zE {xs:List U} (h:xs.length=6) (hi:xs.all isInt=true):∃a b c d e f,xs=[.int a,.int b,.int c,.int d,.int e,.int f]:=by
 match xs,h with
 |[x1,x2,x3,x4,x5,x6],_=>
  simp only[GI,List.all_nil,GK,DL] at hi
  obtain ⟨h1,h2,h3,h4,h5,h6⟩:=hi
  have key:∀{x:U},isInt x=true→∃n,x=.int n:=fun {x} h=>by cases x <;>simp[isInt] at h;exact ⟨_,rfl⟩
  obtain ⟨a,rfl⟩:=key h1
  obtain ⟨b,rfl⟩:=key h2
  obtain ⟨c,rfl⟩:=key h3
  obtain ⟨d,rfl⟩:=key h4
  obtain ⟨e,rfl⟩:=key h5
  obtain ⟨f,rfl⟩:=key h6
  exact ⟨a,b,c,d,e,f,rfl⟩
theorem v3 {xs:List U} (h:xs.all isInt=false):iI (.tup xs)=false:=by
 unfold iI
 split
 ·rename_i e;cases e;simp[isInt] at h
 ·rfl
def pG:List U→Out→Prop:=fun us o=>∃u,us=[u]∧(∀m,u≠.ty m)∧o=.val (.bl (isInt u))
theorem n9 (T:Txt K mg):a_ P w K mg base (CXF P w) 1 T.a_is_whole T.d_is_whole ["thing"] (spU K (pG)):=by
 refine bn T.F_is_whole nW (fun us o h=>?_) (fun cdv A outer s H E O us o hr h=>?_)
 ·obtain ⟨u,rfl,hu,rfl⟩:=h
  rfl
 obtain ⟨u,rfl,hu,rfl⟩:=h
 refine Ws.nox ?_
 cases u with
 |ty m=>exact absurd rfl (hu m)
 |int n=>refine ae (aJ (fo (aq (aC (by intro _ h;cases h) (by walk_at "kit")) rfl T.z_isinstance CL (ag (aa 0 rfl) (ag (cQ rfl T.z_int Ia) ao ah) ah)) (fun hz=>(gD (h9 (aq (aC (by intro _ h;cases h) (by walk_at "kit")) rfl T.z_isinstance CL (ag (aa 0 rfl) (ag (cQ rfl T.z_bool Hm) ao ah) ah)))))) ?_);exact rfl
 |bl n=>refine ae (aJ (fo (aq (aC (by intro _ h;cases h) (by walk_at "kit")) rfl T.z_isinstance CL (ag (aa 0 rfl) (ag (cQ rfl T.z_int Ia) ao ah) ah)) (fun hz=>(gD (h9 (aq (aC (by intro _ h;cases h) (by walk_at "kit")) rfl T.z_isinstance CL (ag (aa 0 rfl) (ag (cQ rfl T.z_bool Hm) ao ah) ah)))))) ?_);exact rfl
 |non=>refine ae (aJ (fo (aq (aC (by intro _ h;cases h) (by walk_at "kit")) rfl T.z_isinstance CL (ag (aa 0 rfl) (ag (cQ rfl T.z_int Ia) ao ah) ah)) (fun hz=>(gD (h9 (aq (aC (by intro _ h;cases h) (by walk_at "kit")) rfl T.z_isinstance CL (ag (aa 0 rfl) (ag (cQ rfl T.z_bool Hm) ao ah) ah)))))) ?_);exact rfl
 |str n=>refine ae (aJ (fo (aq (aC (by intro _ h;cases h) (by walk_at "kit")) rfl T.z_isinstance CL (ag (aa 0 rfl) (ag (cQ rfl T.z_int Ia) ao ah) ah)) (fun hz=>(gD (h9 (aq (aC (by intro _ h;cases h) (by walk_at "kit")) rfl T.z_isinstance CL (ag (aa 0 rfl) (ag (cQ rfl T.z_bool Hm) ao ah) ah)))))) ?_);exact rfl
 |dic=>refine ae (aJ (fo (aq (aC (by intro _ h;cases h) (by walk_at "kit")) rfl T.z_isinstance CL (ag (aa 0 rfl) (ag (cQ rfl T.z_int Ia) ao ah) ah)) (fun hz=>(gD (h9 (aq (aC (by intro _ h;cases h) (by walk_at "kit")) rfl T.z_isinstance CL (ag (aa 0 rfl) (ag (cQ rfl T.z_bool Hm) ao ah) ah)))))) ?_);exact rfl
 |scr n=>refine ae (aJ (fo (aq (aC (by intro _ h;cases h) (by walk_at "kit")) rfl T.z_isinstance CL (ag (aa 0 rfl) (ag (cQ rfl T.z_int Ia) ao ah) ah)) (fun hz=>(gD (h9 (aq (aC (by intro _ h;cases h) (by walk_at "kit")) rfl T.z_isinstance CL (ag (aa 0 rfl) (ag (cQ rfl T.z_bool Hm) ao ah) ah)))))) ?_);exact rfl
 |lst n=>refine ae (aJ (fo (aq (aC (by intro _ h;cases h) (by walk_at "kit")) rfl T.z_isinstance CL (ag (aa 0 rfl) (ag (cQ rfl T.z_int Ia) ao ah) ah)) (fun hz=>(gD (h9 (aq (aC (by intro _ h;cases h) (by walk_at "kit")) rfl T.z_isinstance CL (ag (aa 0 rfl) (ag (cQ rfl T.z_bool Hm) ao ah) ah)))))) ?_);exact rfl
 |tup n=>refine ae (aJ (fo (aq (aC (by intro _ h;cases h) (by walk_at "kit")) rfl T.z_isinstance CL (ag (aa 0 rfl) (ag (cQ rfl T.z_int Ia) ao ah) ah)) (fun hz=>(gD (h9 (aq (aC (by intro _ h;cases h) (by walk_at "kit")) rfl T.z_isinstance CL (ag (aa 0 rfl) (ag (cQ rfl T.z_bool Hm) ao ah) ah)))))) ?_);exact rfl
def sX:List U→Out→Prop:=fun us o=>∃a b c d e f,us=[mv a b c d e f]∧Sz 30000 a∧Sz 30000 b∧Sz 30000 c∧Sz 30000 d∧o=.val (.int (a*d - b*c))
theorem qQ (T:Txt K mg):a_ P w K mg base (CXF P w) 1 T.a_hand T.d_hand ["move"] (spU K (sX)):=by
 refine bn T.F_hand xY (fun us o h=>?_) (fun cdv A outer s H E O us o hr h=>?_)
 ·obtain ⟨a,b,c,d,e,f,rfl,sa,sb,sc,sd,rfl⟩:=h
  rfl
 obtain ⟨a,b,c,d,e,f,rfl,sa,sb,sc,sd,rfl⟩:=h
 refine Ws.nox ?_
 refine ae (aJ (bD (br (aD (aa 0 rfl) aj rfl rfl) (aD (aa 0 rfl) aj rfl rfl) (by walk_at "mul")) (br (aD (aa 0 rfl) aj rfl rfl) (aD (aa 0 rfl) aj rfl rfl) (by walk_at "mul"))) ?_);exact rfl
def lM:List U→Out→Prop:=fun us o=>∃u,us=[u]∧mO u∧o=.val (.bl (iI u))
theorem o4 (T:Txt K mg):a_ P w K mg base (CXF P w) 2 T.a_is_move T.d_is_move ["thing"] (spU K (lM)):=by
 refine bn T.F_is_move jr (fun us o h=>?_) (fun cdv A outer s H E O us o hr h=>?_)
 ·obtain ⟨u,rfl,hu,rfl⟩:=h
  rfl
 obtain ⟨u,rfl,hu,rfl⟩:=h
 refine Ws.nox ?_
 cases u with
 |ty m=>exact absurd rfl (hu.ty m)
 |int n=>refine ae (cS (Tw.t (jN (ft (dS (aq (aC (by intro _ h;cases h) (by walk_at "kit")) rfl T.z_isinstance CL (ag (aa 0 rfl) (ag (cQ rfl T.z_tuple GC) ao ah) ah)))) rfl)) rfl ?_);refine ae (aJ iK ?_);exact rfl
 |bl n=>refine ae (cS (Tw.t (jN (ft (dS (aq (aC (by intro _ h;cases h) (by walk_at "kit")) rfl T.z_isinstance CL (ag (aa 0 rfl) (ag (cQ rfl T.z_tuple GC) ao ah) ah)))) rfl)) rfl ?_);refine ae (aJ iK ?_);exact rfl
 |non=>refine ae (cS (Tw.t (jN (ft (dS (aq (aC (by intro _ h;cases h) (by walk_at "kit")) rfl T.z_isinstance CL (ag (aa 0 rfl) (ag (cQ rfl T.z_tuple GC) ao ah) ah)))) rfl)) rfl ?_);refine ae (aJ iK ?_);exact rfl
 |str n=>refine ae (cS (Tw.t (jN (ft (dS (aq (aC (by intro _ h;cases h) (by walk_at "kit")) rfl T.z_isinstance CL (ag (aa 0 rfl) (ag (cQ rfl T.z_tuple GC) ao ah) ah)))) rfl)) rfl ?_);refine ae (aJ iK ?_);exact rfl
 |dic=>refine ae (cS (Tw.t (jN (ft (dS (aq (aC (by intro _ h;cases h) (by walk_at "kit")) rfl T.z_isinstance CL (ag (aa 0 rfl) (ag (cQ rfl T.z_tuple GC) ao ah) ah)))) rfl)) rfl ?_);refine ae (aJ iK ?_);exact rfl
 |scr n=>refine ae (cS (Tw.t (jN (ft (dS (aq (aC (by intro _ h;cases h) (by walk_at "kit")) rfl T.z_isinstance CL (ag (aa 0 rfl) (ag (cQ rfl T.z_tuple GC) ao ah) ah)))) rfl)) rfl ?_);refine ae (aJ iK ?_);exact rfl
 |lst n=>refine ae (cS (Tw.t (jN (ft (dS (aq (aC (by intro _ h;cases h) (by walk_at "kit")) rfl T.z_isinstance CL (ag (aa 0 rfl) (ag (cQ rfl T.z_tuple GC) ao ah) ah)))) rfl)) rfl ?_);refine ae (aJ iK ?_);exact rfl
 |tup xs=>
  refine ae (ie (Tw.t (yd (ft (dS (aq (aC (by intro _ h;cases h) (by walk_at "kit")) rfl T.z_isinstance CL (ag (aa 0 rfl) (ag (cQ rfl T.z_tuple GC) ao ah) ah)))) (fun hz=>(um (aT yK (aq (cJ rfl) rfl T.z_len Do (ag (aa 0 rfl) ao ah)) aj))))) (fun hT=>?_) (fun hF=>(aH ?_)))
  ·have:xs.length≠6:=fun e=>by rw[e] at hT;revert hT;decide
   refine ae (aJ iK ?_)
   exact vB (vO this).symm
  ·have hl:xs.length=6:=by
    have:=nFb (show (!decide ((xs.length:Int)=6))=false from hF)
    lia
   refine ae (ie (ft (dS (aq (Bh rfl (bs:=xs.map isInt)) rfl T.z_all boot_all (ag (EvN.ev (fT  rfl (blk (ai cY) ["thing","number"] [1] rfl rfl rfl rfl (by decide+kernel)) (A5 (aa 0 rfl)) (fun _ _ _ _=>bM (i:=1) jr.nd rfl (Or.inl rfl)) (cI (by decide)) ?clen ?csz (fun _ _=>trivial) ?celt)) ao d6)))) (fun hT=>?_) (fun hF=>(aH ?_)))
   case clen=>simp
   case csz=>exact DZ (hu.len xs rfl) (by decide)
   case celt=>
    intro C s' H' fp i x y hx hy
    rw[Cb,Cb,hx] at hy
    cases hy
    exact (aM ((n9 T).mono (by decide)) hr rfl T.m_is_whole T.F_is_whole.kp T.b_is_whole aI (ag (aa 1 rfl) ao ah) ⟨x,rfl,hu.ity xs rfl x (Cu hx),rfl⟩)
   ·have hall:xs.all isInt=false:=by simpa using hT
    refine ae (aJ iK ?_)
    exact vB (v3 hall).symm
   ·have hall:xs.all isInt=true:=by simpa using hF
    obtain ⟨a,b,c,d,e,f,rfl⟩:=zE hl hall
    obtain ⟨sa,sb,sc,sd⟩:=hu.sz a b c d e f rfl
    refine ae (aJ (ro (BE rfl rfl rfl) (aM ((qQ T).mono (by decide)) hr rfl T.m_hand T.F_hand.kp T.b_hand aI (ag (aa 0 rfl) ao ah) ⟨a,b,c,d,e,f,rfl,sa,sb,sc,sd,rfl⟩) (cM (aA aj (aA (cR aj) bT mS) fF))) ?_)
    refine vB ?_
    show inV (fl (.int (a*d - b*c))) ([U.int 1,.int (-1)].map fl)=_
    rw[show iI (.tup [.int a,.int b,.int c,.int d,.int e,.int f])=(decide (a*d - b*c=1) ||decide (a*d - b*c=-1)) from rfl]
    generalize a*d - b*c=h
    rw[Ek]
    simp[inV,fl,eqV]
    lia
def iE (C:Addr):List U→Out→Prop:=fun us o=>∃u,us=[u]∧mO u∧o=if iI u=true then .val .non else .exc C
theorem dF (T:Txt K mg):a_ P w K mg base (CXF P w) 3 T.a_need_move T.d_need_move ["thing"] (spU K (iE T.c_NoMove)):=by
 refine bn T.F_need_move md (fun us o h=>?_) (fun cdv A outer s H E O us o hr h=>?_)
 ·obtain ⟨u,rfl,hu,rfl⟩:=h
  rfl
 obtain ⟨u,rfl,hu,rfl⟩:=h
 refine ae (ie (ft (dS (aM ((o4 T).mono (by decide)) hr rfl T.m_is_move T.F_is_move.kp T.b_is_move aI (ag (aa 0 rfl) ao ah) ⟨u,rfl,hu,rfl⟩))) (fun hT=>?_) (fun hF=>(aH (aH ?_))))
 ·have h:iI u=false:=by simpa using hT
  refine ae (jc T.x_NoMove rfl T.mx_NoMove qj ?_)
  show Out.exc _=_
  rw[if_neg (by rw[h];decide)]
 ·have h:iI u=true:=by simpa using hF
  show _=_
  rw[if_pos h]
structure Mv (a b c d e f:Int):Prop where
 u:a*d - b*c=1∨a*d - b*c=-1
 a:Sz 30000 a
 b:Sz 30000 b
 c:Sz 30000 c
 d:Sz 30000 d
 e:Sz 30000 e
 f:Sz 30000 f
theorem Mv.ok {a b c d e f:Int} (M:Mv a b c d e f):mO (mv a b c d e f):=mO.of M.a M.b M.c M.d
theorem Mv.need {C:Addr}{a b c d e f:Int} (M:Mv a b c d e f):iE C [mv a b c d e f] (.val .non):=⟨_,rfl,M.ok,by rw[if_pos (w8 M.u)]⟩
theorem qJ {C:Addr}{u:U} (h:mO u) (n:iI u=false):iE C [u] (.exc C):=⟨_,rfl,h,by rw[if_neg (by rw[n];decide)]⟩
def oA:List U→Out→Prop:=fun us o=>∃x y a b c d e f,us=[pt x y,mv a b c d e f]∧(Sz 30000 x∧Sz 30000 y∧Sz 30000 a∧Sz 30000 b∧Sz 30000 c∧Sz 30000 d)∧o=.val (pt (a*x+b*y) (c*x+d*y))
theorem tO (T:Txt K mg):a_ P w K mg base (CXF P w) 1 T.a_turned T.d_turned ["P","move"] (spU K (oA)):=by
 refine bn T.F_turned sH (fun us o h=>?_) (fun cdv A outer s H E O us o hr h=>?_)
 ·obtain ⟨x,y,a,b,c,d,e,f,rfl,⟨sx,sy,sa,sb,sc,sd⟩,rfl⟩:=h
  rfl
 obtain ⟨x,y,a,b,c,d,e,f,rfl,⟨sx,sy,sa,sb,sc,sd⟩,rfl⟩:=h
 refine Ws.nox ?_
 refine ae (aJ (cM (aA (cu (br (aD (aa 1 rfl) aj rfl rfl) (aD (aa 0 rfl) aj rfl rfl) (by walk_at "mul")) (br (aD (aa 1 rfl) aj rfl rfl) (aD (aa 0 rfl) aj rfl rfl) (by walk_at "mul"))) (aA (cu (br (aD (aa 1 rfl) aj rfl rfl) (aD (aa 0 rfl) aj rfl rfl) (by walk_at "mul")) (br (aD (aa 1 rfl) aj rfl rfl) (aD (aa 0 rfl) aj rfl rfl) (by walk_at "mul"))) bT bS) bS)) ?_);exact rfl
def p0 (C:Addr):List U→Out→Prop:=fun us o=>(∃x y a b c d e f,us=[pt x y,mv a b c d e f]∧Mv a b c d e f∧Sz 30000 x∧Sz 30000 y∧o=.val (pt (a*x+b*y+e) (c*x+d*y+f)))∨(∃v u,us=[v,u]∧mO u∧iI u=false∧o=.exc C)
theorem oC (T:Txt K mg):a_ P w K mg base (CXF P w) 4 T.a_moved T.d_moved ["P","move"] (spU K (p0 T.c_NoMove)):=by
 refine bn T.F_moved n8 (by rintro us o (⟨x,y,a,b,c,d,e,f,rfl,_⟩ |⟨v,u,rfl,_⟩) <;>rfl) (fun cdv A outer s H E O us o hr h=>?_)
 rcases h with ⟨x,y,a,b,c,d,e,f,rfl,M,sx,sy,rfl⟩ |⟨v,u,rfl,hu,hn,rfl⟩
 ·refine ae (vf (aM ((dF T).mono (by decide)) hr rfl T.m_need_move T.F_need_move.kp T.b_need_move aI (ag (aa 1 rfl) ao ah) M.need) ?_)
  refine ae (aE (i:=2) n8.nd rfl (Or.inl rfl) (aM ((tO T).mono (by decide)) hr rfl T.m_turned T.F_turned.kp T.b_turned aI (ag (aa 0 rfl) (ag (aa 1 rfl) ao ah) ah) ⟨x,y,a,b,c,d,e,f,rfl,⟨sx,sy,M.a,M.b,M.c,M.d⟩,rfl⟩) ?_)
  refine ae (aJ (cM (aA (cu (aD (aa 2 rfl) aj rfl rfl) (aD (aa 1 rfl) aj rfl rfl)) (aA (cu (aD (aa 2 rfl) aj rfl rfl) (aD (aa 1 rfl) aj rfl rfl)) bT bS) bS)) ?_)
  exact rfl
 ·refine ae (re (uT ((dF T).mono (by decide)) hr rfl T.m_need_move T.F_need_move.kp T.b_need_move qs (ag (aa 1 rfl) ao ah) (qJ hu hn)) ?_)
  exact rfl
end
section
variable {P:Cy}{w:World}{K:B2}{mg:Str→Option Value}{base:Heap}
def Aw (a b c d e f:Int):U:=
 mv ((a*d - b*c) *d) (-(a*d - b*c) *b) (-(a*d - b*c) *c) ((a*d - b*c) *a) (-((a*d - b*c) *d*e+-(a*d - b*c) *b*f)) (-(-(a*d - b*c) *c*e+(a*d - b*c) *a*f))
def t6 (C:Addr):List U→Out→Prop:=fun us o=>(∃a b c d e f,us=[mv a b c d e f]∧Mv a b c d e f∧o=.val (Aw a b c d e f))∨(∃u,us=[u]∧mO u∧iI u=false∧o=.exc C)
theorem ov (T:Txt K mg):a_ P w K mg base (CXF P w) 4 T.a_way_back T.d_way_back ["move"] (spU K (t6 T.c_NoMove)):=by
 refine bn T.F_way_back cG (by rintro us o (⟨a,b,c,d,e,f,rfl,_⟩ |⟨u,rfl,_⟩) <;>rfl) (fun cdv A outer s H E O us o hr h=>?_)
 rcases h with ⟨a,b,c,d,e,f,rfl,M,rfl⟩ |⟨u,rfl,hu,hn,rfl⟩
 ·obtain ⟨hd,sa,sb,sc,sd,se,sf⟩:=M
  have M:Mv a b c d e f:=⟨hd,sa,sb,sc,sd,se,sf⟩
  have sh:Sz 8 (a*d - b*c):=by rcases hd with h |h <;>rw[h] <;>decide
  refine ae (vf (aM ((dF T).mono (by decide)) hr rfl T.m_need_move T.F_need_move.kp T.b_need_move aI (ag (aa 0 rfl) ao ah) M.need) ?_)
  refine ae (aE (i:=1) cG.nd rfl (Or.inl rfl) (aM ((qQ T).mono (by decide)) hr rfl T.m_hand T.F_hand.kp T.b_hand aI (ag (aa 0 rfl) ao ah) ⟨a,b,c,d,e,f,rfl,sa,sb,sc,sd,rfl⟩) ?_)
  refine ae (aE (i:=2) cG.nd rfl (Or.inl rfl) (br (aa 1 rfl) (aD (aa 0 rfl) aj rfl rfl) (by walk_at "mul")) ?_)
  refine ae (aE (i:=3) cG.nd rfl (Or.inl rfl) (br (cR (aa 1 rfl)) (aD (aa 0 rfl) aj rfl rfl) (by walk_at "mul")) ?_)
  refine ae (aE (i:=4) cG.nd rfl (Or.inl rfl) (br (cR (aa 1 rfl)) (aD (aa 0 rfl) aj rfl rfl) (by walk_at "mul")) ?_)
  refine ae (aE (i:=5) cG.nd rfl (Or.inl rfl) (br (aa 1 rfl) (aD (aa 0 rfl) aj rfl rfl) (by walk_at "mul")) ?_)
  refine ae (aJ (cM (aA (aa 2 rfl) (aA (aa 3 rfl) (aA (aa 4 rfl) (aA (aa 5 rfl) (aA (cR (cu (br (aa 2 rfl) (aD (aa 0 rfl) aj rfl rfl) (by walk_at "mul")) (br (aa 3 rfl) (aD (aa 0 rfl) aj rfl rfl) (by walk_at "mul")))) (aA (cR (cu (br (aa 4 rfl) (aD (aa 0 rfl) aj rfl rfl) (by walk_at "mul")) (br (aa 5 rfl) (aD (aa 0 rfl) aj rfl rfl) (by walk_at "mul")))) bT mS) mS) ah) ah) ah) ah)) ?_)
  exact rfl
 ·refine ae (re (uT ((dF T).mono (by decide)) hr rfl T.m_need_move T.F_need_move.kp T.b_need_move qs (ag (aa 0 rfl) ao ah) (qJ hu hn)) ?_)
  exact rfl
theorem wN {a b g s t:Int} (G:eG a b g s t):g=((FG a b:Nat):Int):=by
 have h1:g ∣ ((FG a b:Nat):Int):=GU G.da G.db
 have h2:((FG a b:Nat):Int) ∣ g:=by
  rw[←G.eq]
  exact FF (C6 (FJ ..) (Dg _ _)) (C6 (FA ..) (Dg _ _))
 exact IQ G.g0 (Int.natCast_nonneg _) h1 h2
theorem ki (a b:Int):∃s t,eG a b ((FG a b:Nat):Int) s t:=by
 obtain ⟨g,s,t,G⟩:=mj a b
 have e:=wN G
 subst e
 exact ⟨s,t,G⟩
theorem sM {a b g s t g' s' t':Int} (G:eG a b g s t) (gp:0 < g) (G':eG (a / g) (b / g) g' s' t'):g'=1:=by
 obtain ⟨a',ha⟩:=G.da
 obtain ⟨b',hb⟩:=G.db
 have ea:a / g=a':=by rw[ha,EA _ (by lia)]
 have eb:b / g=b':=by rw[hb,EA _ (by lia)]
 rw[ea,eb] at G'
 have e:=G.eq
 have k1:s*a'+t*b'=1:=by
  have:g*(s*a'+t*b')=g*1:=by rw[ha,hb] at e;grind
  exact Dz (by lia) this
 have d:g' ∣ 1:=by rw[←k1];exact FF (C6 G'.da (Dg _ _)) (C6 G'.db (Dg _ _))
 have:=Int.le_of_dvd (by decide) d
 have h0:=G'.g0
 rcases D7 h0 with h |h
 ·lia
 ·rw[←h] at d;exact absurd (KA.mp d) (by decide)
theorem tG {x0 y0 x1 y1 g s t:Int} (G:eG (x1 - x0) (y1 - y0) g s t) (h:g=0):x0=x1∧y0=y1:=by
 subst h
 have h1:=KA.mp G.da
 have h2:=KA.mp G.db
 lia
structure v6 (x0 y0 x1 y1:Int):Prop where
 s0:Sz 3000 x0
 t0:Sz 3000 y0
 s1:Sz 3000 x1
 t1:Sz 3000 y1
def o6:List U→Out→Prop:=fun us o=>∃x0 y0 x1 y1 g s t:Int,us=[pt x0 y0,pt x1 y1]∧v6 x0 y0 x1 y1∧eG (x1 - x0) (y1 - y0) g s t∧o=.val (.int g)
theorem gZ (T:Txt K mg):a_ P w K mg base (CXF P w) 3 T.a_steps T.d_steps ["P","Q"] (spU K (o6)):=by
 refine bn T.F_steps vh (fun us o h=>?_) (fun cdv A outer s H E O us o hr h=>?_)
 ·obtain ⟨x0,y0,x1,y1,g,s,t,rfl,⟨s0,t0,s1,t1⟩,G,rfl⟩:=h
  rfl
 obtain ⟨x0,y0,x1,y1,g,s,t,rfl,⟨s0,t0,s1,t1⟩,G,rfl⟩:=h
 refine Ws.nox ?_
 refine ae (aJ (aD (aM ((kW T).mono (by decide)) hr rfl T.m_shares T.F_shares.kp T.b_shares aI (ag (bD (aD (aa 1 rfl) aj rfl rfl) (aD (aa 0 rfl) aj rfl rfl)) (ag (bD (aD (aa 1 rfl) aj rfl rfl) (aD (aa 0 rfl) aj rfl rfl)) ao bS) bS) ⟨_,_,g,s,t,rfl,by walk_at "szb",by walk_at "szb",G,rfl⟩) aj rfl rfl) ?_)
 exact rfl
def oU (C:Addr):List U→Out→Prop:=fun us o=>(∃x0 y0 x1 y1 g a b s t:Int,us=[pt x0 y0,pt x1 y1]∧v6 x0 y0 x1 y1∧eG (x1 - x0) (y1 - y0) g a b∧g≠0∧eG ((x1 - x0) / g) ((y1 - y0) / g) 1 s t∧
  o=.val (mv s t (-((y1 - y0) / g)) ((x1 - x0) / g) (-s*x0 - t*y0) ((y1 - y0) / g*x0 - (x1 - x0) / g*y0)))∨(∃x0 y0:Int,us=[pt x0 y0,pt x0 y0]∧v6 x0 y0 x0 y0∧o=.exc C)
theorem t4 (x y:Int):eG (x - x) (y - y) 0 0 0:=by
 rw[KB,KB]
 exact ⟨by decide,by decide,⟨0,by simp⟩,⟨0,by simp⟩,fun _=>⟨rfl,rfl,rfl⟩,fun h=>absurd rfl h⟩
theorem wT (T:Txt K mg):a_ P w K mg base (CXF P w) 4 T.a_level T.d_level ["P","Q"] (spU K (oU T.c_NoMove)):=by
 refine bn T.F_level dt (by rintro us o (⟨x0,y0,x1,y1,g,a,b,s,t,rfl,_⟩ |⟨x0,y0,rfl,_⟩) <;>rfl) (fun cdv A outer s H E O us o hr h=>?_)
 rcases h with ⟨x0,y0,x1,y1,g,a,b,s,t,rfl,two,G,gn,G1,rfl⟩ |⟨x0,y0,rfl,two,rfl⟩
 ·have gp:0 < g:=by have:=G.g0;lia
  obtain ⟨s0,t0,s1,t1⟩:=two
  have two:v6 x0 y0 x1 y1:=⟨s0,t0,s1,t1⟩
  have sx:Sz 3001 (x1 - x0):=by walk_at "szb"
  have sy:Sz 3001 (y1 - y0):=by walk_at "szb"
  obtain ⟨sg,_,_⟩:=mh G sx sy
  have su:Sz 3001 ((x1 - x0) / g):=sx.ediv
  have sv:Sz 3001 ((y1 - y0) / g):=sy.ediv
  obtain ⟨_,ss,st⟩:=mh G1 su sv
  refine ae (aE (i:=2) dt.nd rfl (Or.inl rfl) (aM ((gZ T).mono (by decide)) hr rfl T.m_steps T.F_steps.kp T.b_steps aI (ag (aa 0 rfl) (ag (aa 1 rfl) ao ah) ah) ⟨x0,y0,x1,y1,g,a,b,rfl,two,G,rfl⟩) ?_)
  refine ae (dm (aT eo (aa 2 rfl) aj) (decide_eq_false gn) (aH ?_))
  refine ae (aE (i:=3) dt.nd rfl (Or.inl rfl) (fq (bD (aD (aa 1 rfl) aj rfl rfl) (aD (aa 0 rfl) aj rfl rfl)) (aa 2 rfl) ⟨gp,sg.mono (by decide)⟩) ?_)
  refine ae (aE (i:=4) dt.nd rfl (Or.inl rfl) (fq (bD (aD (aa 1 rfl) aj rfl rfl) (aD (aa 0 rfl) aj rfl rfl)) (aa 2 rfl) ⟨gp,sg.mono (by decide)⟩) ?_)
  refine ae (aE (i:=5) dt.nd rfl (Or.inl rfl) (aM ((kW T).mono (by decide)) hr rfl T.m_shares T.F_shares.kp T.b_shares aI (ag (aa 3 rfl) (ag (aa 4 rfl) ao ah) ah) ⟨_,_,1,s,t,rfl,su.mono (by decide),sv.mono (by decide),G1,rfl⟩) ?_)
  refine ae (aE (i:=6) dt.nd rfl (Or.inl rfl) (aD (aa 5 rfl) aj rfl rfl) ?_)
  refine ae (aE (i:=7) dt.nd rfl (Or.inl rfl) (aD (aa 5 rfl) aj rfl rfl) ?_)
  refine ae (aJ (cM (aA (aa 6 rfl) (aA (aa 7 rfl) (aA (cR (aa 4 rfl)) (aA (aa 3 rfl) (aA (bD (br (cR (aa 6 rfl)) (aD (aa 0 rfl) aj rfl rfl) (by walk_at "mul")) (br (aa 7 rfl) (aD (aa 0 rfl) aj rfl rfl) (by walk_at "mul"))) (aA (bD (br (aa 4 rfl) (aD (aa 0 rfl) aj rfl rfl) (by walk_at "mul")) (br (aa 3 rfl) (aD (aa 0 rfl) aj rfl rfl) (by walk_at "mul"))) bT bS) bS) ah) mS) ah) ah)) ?_)
  exact rfl
 ·refine ae (aE (i:=2) dt.nd rfl (Or.inl rfl) (aM ((gZ T).mono (by decide)) hr rfl T.m_steps T.F_steps.kp T.b_steps aI (ag (aa 0 rfl) (ag (aa 1 rfl) ao ah) ah) ⟨x0,y0,x0,y0,0,0,0,rfl,two,t4 x0 y0,rfl⟩) ?_)
  refine ae (cS (aT eo (aa 2 rfl) aj) rfl ?_)
  refine ae (jc T.x_NoMove rfl T.mx_NoMove qj ?_)
  exact rfl
def bQ (n:Nat) (a b m:Int):Int:=match n with
 |0=>0
 |n+1=>bQ n a b m+(a*(n:Int)+b) / m
theorem jC (a b m:Int):∀n:Nat,bQ (n+1) a b m=b / m+bQ n a (b+a) m
 |0=>by simp[bQ]
 |n+1=>by
  rw[show bQ (n+1+1) a b m=bQ (n+1) a b m+(a*((n+1:Nat):Int)+b) / m from rfl,jC a b m n]
  rw[show bQ (n+1) a (b+a) m=bQ n a (b+a) m+(a*(n:Int)+(b+a)) / m from rfl]
  have e:a*((n+1:Nat):Int)+b=a*(n:Int)+(b+a):=by push_cast;grind
  rw[e];lia
theorem l_ {a b m:Int} (hm:0 < m):∀n:Nat,bQ n a (b+m) m=bQ n a b m+n
 |0=>by simp[bQ]
 |n+1=>by
  show bQ n a (b+m) m+(a*(n:Int)+(b+m)) / m=bQ n a b m+(a*(n:Int)+b) / m+((n+1:Nat):Int)
  rw[l_ hm n,←Int.add_assoc,Int.add_ediv_of_dvd_right (GB m),Int.ediv_self (by lia)]
  push_cast;lia
theorem v4 (n:Nat):(((n+1:Nat):Int) *(((n+1:Nat):Int) - 1)) / 2=((n:Int) *((n:Int) - 1)) / 2+n:=by
 have e:(((n+1:Nat):Int) *(((n+1:Nat):Int) - 1))=(n:Int) *((n:Int) - 1)+(n:Int) *2:=by push_cast;grind
 rw[e,IY _ _ (by decide)]
theorem nE {a b m:Int} (hm:0 < m):∀n:Nat,bQ n a b m=a / m*((n:Int) *((n:Int) - 1) / 2)+b / m*n+bQ n (a % m) (b % m) m
 |0=>by simp[bQ]
 |n+1=>by
  show bQ n a b m+(a*(n:Int)+b) / m=_+(bQ n (a % m) (b % m) m+(a % m*(n:Int)+b % m) / m)
  rw[nE hm n,v4]
  have e:a*(n:Int)+b=(a % m*(n:Int)+b % m)+m*(a / m*n+b / m):=by
   have h1:=Dr a m
   have h2:=Dr b m
   grind
  rw[e,FX _ _ (by lia)]
  push_cast
  grind
theorem kO {a b m:Int} (ha:0 < a) (ham:a < m) (hb:0≤b) (hbm:b < m):∀n:Nat,bQ n a b m=bQ ((a*(n:Int)+b) / m).toNat m ((a*(n:Int)+b) % m) a
 |0=>by
  have e:(a*((0:Nat):Int)+b) / m=0:=by
   have:a*((0:Nat):Int)+b=b:=by simp
   rw[this];exact Ej hb hbm
  rw[e];rfl
 |n+1=>by
  have ih:=kO ha ham hb hbm n
  have hz:0≤a*(n:Int)+b:=LN (Cs (by lia) (by lia)) hb
  have hY:0≤(a*(n:Int)+b) / m:=Li hz (by lia)
  have hr0:=EC (a*(n:Int)+b) (show m≠0 by lia)
  have hr1:=DH (a*(n:Int)+b) (show 0 < m by lia)
  have hz2:=Dr (a*(n:Int)+b) m
  have ez:a*((n+1:Nat):Int)+b=(a*(n:Int)+b)+a:=by push_cast;grind
  show bQ n a b m+(a*(n:Int)+b) / m=_
  rw[ez,ih]
  generalize hZ:a*(n:Int)+b=z at *
  generalize hYY:z / m=Y at *
  generalize hRR:z % m=r at *
  obtain ⟨y,rfl⟩:=Int.eq_ofNat_of_zero_le hY
  by_cases hc:r+a < m
  ·have e1:(z+a) / m=(y:Int):=by
    rw[show z+a=(r+a)+m*(y:Int) by lia,FX _ _ (by lia),Ej (by lia) hc];lia
   have e2:(z+a) % m=r+a:=by
    rw[show z+a=(r+a)+m*(y:Int) by lia,HX,Iu (by lia) hc]
   rw[e1,e2,l_ ha]
   simp
  ·have e1:(z+a) / m=(y:Int)+1:=by
    rw[show z+a=(r+a - m)+m*((y:Int)+1) by rw[Lj];lia,FX _ _ (by lia),Ej (by lia) (by lia)];lia
   have e2:(z+a) % m=r+a - m:=by
    rw[show z+a=(r+a - m)+m*((y:Int)+1) by rw[Lj];lia,HX,Iu (by lia) (by lia)]
   rw[e1,e2,show ((y:Int)+1).toNat=y+1 by lia,jC,Ej (by lia) (by lia),show r+a - m+m=r+a by lia,l_ ha]
   simp
theorem pH {a b m:Int} (ha:0≤a) (hb:0≤b) (n:Nat) (h:a*(n:Int)+b < m):bQ n a b m=0:=by
 induction n with
 |zero=>rfl
 |succ n ih=>
  have e:a*((n+1:Nat):Int)+b=a*(n:Int)+b+a:=by push_cast;grind
  have h1:0≤a*(n:Int):=Cs ha (by lia)
  show bQ n a b m+(a*(n:Int)+b) / m=0
  rw[ih (by lia),Ej (by lia) (by lia)];rfl
theorem lq:∀(m:Nat) (a b g:Int),0 < m→0 < g→g ∣ a→g ∣ (m:Int)→(∀d,d ∣ a→d ∣ (m:Int)→d ∣ g)→2*bQ m a b m=(a - 1) *((m:Int) - 1)+g - 1+2*(g*(b / g)):=by
 intro m
 induction m using K_ with
 |ind m ih=>
  intro a b g hm hg ga gm gr
  have hm':(0:Int) < (m:Int):=by lia
  have red:=nE (a:=a) (b:=b) hm' m
  have ha0:=EC a (show (m:Int)≠0 by lia)
  have ha1:=DH a hm'
  have hb0:=EC b (show (m:Int)≠0 by lia)
  have hb1:=DH b hm'
  have ea:=Dr a (m:Int)
  have eb:=Dr b (m:Int)
  have tri:2*((m:Int) *((m:Int) - 1) / 2)=(m:Int) *((m:Int) - 1):=by
   have:(2:Int) ∣ (m:Int) *((m:Int) - 1):=by
    rcases Int.emod_two_eq (m:Int) with h |h
    ·exact C6 (GV h) (Ef _ _)
    ·exact C6 (GV (by lia)) (Dg _ _)
   exact Ft this
  have gb:g*(b / g)=(m:Int) *(b / (m:Int))+g*(b % (m:Int) / g):=by
   obtain ⟨c,hc⟩:=gm
   have:b=b % (m:Int)+g*(c*(b / (m:Int))):=by rw[←J_,←hc];lia
   conv=>lhs;rw[this]
   rw[FX _ _ (by lia),Lj,←J_ g c,←hc];lia
  by_cases hz:a % (m:Int)=0
  ·have gm2:g=(m:Int):=IQ (by lia) (by lia) gm (gr _ (GV hz) (GB _))
   have small:bQ m (a % (m:Int)) (b % (m:Int)) m=0:=pH ha0 hb0 m (by rw[hz];lia)
   rw[red,small,gb,gm2,Ej hb0 hb1]
   rw[hz] at ea
   have:a=(m:Int) *(a / (m:Int)):=by omega
   generalize a / (m:Int)=q at *
   subst this
   grind
  ·have hp:0 < a % (m:Int):=by lia
   have turn:=kO hp ha1 hb0 hb1 m
   have e1:(a % (m:Int) *(m:Int)+b % (m:Int)) / (m:Int)=a % (m:Int):=by
    rw[Mu,IY _ _ (by lia),Ej hb0 hb1];lia
   have e2:(a % (m:Int) *(m:Int)+b % (m:Int)) % (m:Int)=b % (m:Int):=by
    rw[Mu,Int.add_mul_emod_self_right,Iu hb0 hb1]
   rw[e1,e2] at turn
   have gd1:g ∣ a % (m:Int):=by
    rw[show a % (m:Int)=a - (m:Int) *(a / (m:Int)) by lia]
    exact HN ga (C6 gm (Ef _ _))
   have IH:=ih (a % (m:Int)).toNat (by lia) (m:Int) (b % (m:Int)) g (by lia) hg gm (by rw[HP ha0];exact gd1) (fun d h1 h2=>by
    rw[HP ha0] at h2
    refine gr d ?_ h1
    rw[←ea]
    exact FF h2 (C6 h1 (Ef _ _)))
   rw[HP ha0] at IH
   rw[red,turn,gb]
   have e3:2*(a / (m:Int) *((m:Int) *((m:Int) - 1) / 2))=a / (m:Int) *((m:Int) *((m:Int) - 1)):=by rw[←tri];grind
   generalize a / (m:Int)=q at *
   generalize a % (m:Int)=a' at *
   subst ea
   grind
end
section
variable {P:Cy}{w:World}{K:B2}{mg:Str→Option Value}{base:Heap}
abbrev Pt:=Int×Int
def plt (p q:Pt):Prop:=p.1 < q.1∨(p.1=q.1∧p.2 < q.2)
def af (a b p:Pt):Int:=(b.1 - a.1) *(p.2 - a.2) - (b.2 - a.2) *(p.1 - a.1)
theorem ce {a b c:Pt} (h1:plt a b) (h2:plt b c):plt a c:=by unfold plt at *;lia
theorem bq (a:Pt):¬ plt a a:=by unfold plt;lia
theorem lO (a b:Pt):plt a b∨a=b∨plt b a:=by
 unfold plt
 by_cases h1:a.1=b.1
 ·by_cases h2:a.2=b.2
  ·exact .inr (.inl (Er h1 h2))
  ·lia
 ·lia
def gh (x y:Int):Prop:=0 < x∨(x=0∧0 < y)
theorem bh {a b:Pt} (h:plt a b):gh (b.1 - a.1) (b.2 - a.2):=by unfold plt gh at *;lia
theorem fU {u1 u2 v1 v2 w1 w2:Int} (hu:gh u1 u2) (hv:gh v1 v2) (hw:gh w1 w2) (h1:0≤u1*v2 - u2*v1) (h2:0≤v1*w2 - v2*w1):0≤u1*w2 - u2*w1:=by
 unfold gh at *
 by_cases hv1:v1=0
 ·subst hv1
  have hv2:0 < v2:=by lia
  have hw1:w1=0:=by
   have:v2*w1≤0:=by rw[GA] at h2;lia
   by_cases hz:0 < w1
   ·have:=DK hv2 hz;lia
   ·lia
  subst hw1
  have hw2:0 < w2:=by lia
  have:=Cs (show 0≤u1 by lia) (show 0≤w2 by lia)
  simp;lia
 ·have hv':0 < v1:=by lia
  have e:v1*(u1*w2 - u2*w1)=u1*(v1*w2 - v2*w1)+w1*(u1*v2 - u2*v1):=by grind
  have p1:=Cs (show 0≤u1 by lia) h2
  have p2:=Cs (show 0≤w1 by lia) h1
  have:0≤v1*(u1*w2 - u2*w1):=by lia
  exact EV this hv'
theorem ke {u1 u2 v1 v2 w1 w2:Int} (hu:gh u1 u2) (hv:gh v1 v2) (hw:gh w1 w2) (h1:0 < u1*v2 - u2*v1) (h2:0≤v1*w2 - v2*w1):0 < u1*w2 - u2*w1:=by
 unfold gh at *
 by_cases hv1:v1=0
 ·subst hv1
  have hv2:0 < v2:=by lia
  have hw1:w1=0:=by
   have:v2*w1≤0:=by rw[GA] at h2;lia
   by_cases hz:0 < w1
   ·have:=DK hv2 hz;lia
   ·lia
  subst hw1
  have hw2:0 < w2:=by lia
  have hu1:0 < u1:=by
   rcases hu with h |⟨h,_⟩
   ·exact h
   ·subst h;simp at h1
  have:=DK hu1 hw2
  simp;lia
 ·have hv':0 < v1:=by lia
  have e:v1*(u1*w2 - u2*w1)=u1*(v1*w2 - v2*w1)+w1*(u1*v2 - u2*v1):=by grind
  have p1:=Cs (show 0≤u1 by lia) h2
  by_cases hw1:w1=0
  ·subst hw1
   have hw2:0 < w2:=by lia
   have hu1:0 < u1:=by
    rcases hu with h |⟨h,h'⟩
    ·exact h
    ·subst h
     have:=DK h' hv'
     simp at h1;lia
   have:=DK hu1 hw2
   simp;lia
  ·have p2:=DK (show 0 < w1 by lia) h1
   have:0 < v1*(u1*w2 - u2*w1):=by lia
   exact D8 this (by lia)
def lJ:List Pt→Prop
 |b::a::r=>plt a b∧lJ (a::r)
 |_=>True
def iO:List Pt→Prop
 |c::b::a::r=>0 < af a b c∧iO (b::a::r)
 |_=>True
def gw (done:List Pt):List Pt→Prop
 |b::a::r=>(∀q∈done,0≤af a b q)∧gw done (a::r)
 |_=>True
theorem iO.tail:∀{b:Pt}{st:List Pt},iO (b::st)→iO st
 |_,[],_=>trivial
 |_,[_],_=>trivial
 |_,_::_::_,h=>h.2
theorem lJ.tail:∀{b:Pt}{st:List Pt},lJ (b::st)→lJ st
 |_,[],_=>trivial
 |_,_::_,h=>h.2
theorem gw.tail {done:List Pt}:∀{b:Pt}{st:List Pt},gw done (b::st)→gw done st
 |_,[],_=>trivial
 |_,_::_,h=>h.2
def aW (P:Pt):List Pt→List Pt
 |b::a::r=>if af a b P≤0 then aW P (a::r) else b::a::r
 |st=>st
def ak (row:List Pt):List Pt:=row.foldl (fun st P=>P::aW P st) []
structure Kept (done st:List Pt):Prop where
 ne:st≠[]
 desc:lJ st
 turns:iO st
 cover:gw done st
 sub:∀p∈st,p∈done
structure sJ (done st:List Pt) (P:Pt):Prop extends Kept done st where
 pend:∀h r,st=h::r→∀q∈done,plt h q→0≤af h P q
theorem tV {done:List Pt}{P b a:Pt}{r:List Pt} (hP:∀q∈done,plt q P) (D:sJ done (b::a::r) P) (h:af a b P≤0):sJ done (a::r) P:=by
 refine ⟨⟨by simp,D.desc.tail,D.turns.tail,D.cover.tail,fun p hp=>D.sub p (B4 _ hp)⟩,?_⟩
 intro h' r' e q hq hlt
 cases e
 have hab:=D.desc.1
 have hq':=D.cover.1 q hq
 have hbP:=hP b (D.sub b Ci)
 have hqP:=hP q hq
 rcases lO q b with z |z |z
 ·have l1:=bh hlt
  have l2:=bh hab
  have l3:=bh (ce hab hbP)
  have:=fU (u1:=P.1 - a.1) (u2:=P.2 - a.2) (v1:=b.1 - a.1) (v2:=b.2 - a.2) (w1:=q.1 - a.1) (w2:=q.2 - a.2) l3 l2 l1 (by unfold af at h;grind) (by unfold af at hq';grind)
  unfold af;grind
 ·subst z;unfold af at *;grind
 ·have p:=D.pend b _ rfl q hq z
  unfold af at *
  grind
theorem nA {done:List Pt}{P:Pt} (hP:∀q∈done,plt q P):∀st:List Pt,sJ done st P→sJ done (aW P st) P∧(∀b a r,aW P st=b::a::r→0 < af a b P)∧(st.getLast?=(aW P st).getLast?)
 |[],D=>absurd rfl D.ne
 |[b],D=>⟨D,fun _ _ _ e=>by simp[aW] at e,rfl⟩
 |b::a::r,D=>by
  by_cases h:af a b P≤0
  ·rw[aW,if_pos h]
   obtain ⟨h1,h2,h3⟩:=nA hP (a::r) (tV hP D h)
   exact ⟨h1,h2,by rw[←h3];simp⟩
  ·rw[aW,if_neg h]
   refine ⟨D,fun b' a' r' e=>?_,rfl⟩
   cases e;lia
theorem ue {done st:List Pt}{P:Pt} (hP:∀q∈done,plt q P) (D:sJ done st P) (ht:∀b a r,st=b::a::r→0 < af a b P) (hmin:∀x,st=[x]→∀q∈done,q=x∨plt x q):Kept (done++[P]) (P::st):=by
 have up:∀(b:Pt) (r:List Pt),lJ (b::r)→iO (b::r)→gw done (b::r)→plt b P→(∀a r',r=a::r'→0≤af a b P)→gw (done++[P]) (b::r):=by
  intro b r
  induction r generalizing b with
  |nil=>intro _ _ _ _ _;trivial
  |cons a r ih=>
   intro hd htn hc hbP hl
   refine ⟨fun q hq=>?_,?_⟩
   ·rcases Dq.mp hq with z |z
    ·exact hc.1 q z
    ·rw[Ct.mp z];exact hl a r rfl
   ·refine ih a hd.tail htn.tail hc.tail (ce hd.1 hbP) (fun c r' e=>?_)
    subst e
    have t:=htn.1
    have g:=hl a _ rfl
    have l1:=bh hd.2.1
    have l2:=bh hd.1
    have l3:=bh (ce hd.1 hbP)
    have:=fU (u1:=a.1 - c.1) (u2:=a.2 - c.2) (v1:=b.1 - a.1) (v2:=b.2 - a.2) (w1:=P.1 - a.1) (w2:=P.2 - a.2) l1 l2 l3 (by unfold af at t;grind) (by unfold af at g;grind)
    unfold af;grind
 obtain ⟨h,r,e⟩:∃h r,st=h::r:=by
  cases hst:st with
  |nil=>exact absurd hst D.ne
  |cons h r=>exact ⟨h,r,rfl⟩
 subst e
 have hhP:=hP h (D.sub h Ci)
 refine ⟨by simp,⟨hhP,D.desc⟩,?_,⟨fun q hq=>?_,?_⟩,fun p hp=>?_⟩
 ·cases r with
  |nil=>trivial
  |cons a r'=>exact ⟨ht h a r' rfl,D.turns⟩
 ·rcases Dq.mp hq with z |z
  ·rcases lO q h with y |y |y
   ·cases r with
    |nil=>
     rcases hmin h rfl q z with w |w
     ·subst w;exact absurd y (bq _)
     ·exact absurd (ce y w) (bq _)
    |cons a r'=>
     have t:=ht h a r' rfl
     have c:=D.cover.1 q z
     have l1:=bh D.desc.1
     have l2:=bh y
     have l3:=bh hhP
     have:=fU (u1:=h.1 - q.1) (u2:=h.2 - q.2) (v1:=h.1 - a.1) (v2:=h.2 - a.2) (w1:=P.1 - h.1) (w2:=P.2 - h.2) l2 l1 l3 (by unfold af at c;grind) (by unfold af at t;grind)
     unfold af;grind
   ·subst y;unfold af;grind
   ·exact D.pend h r rfl q z y
  ·rw[Ct.mp z];unfold af;grind
 ·exact up h r D.desc D.turns D.cover hhP (fun a r' e=>Hn (ht h a r' (by rw[e])))
 ·rcases Cd.mp hp with z |z
  ·subst z;exact Cz _ Ci
  ·exact DC _ (D.sub p z)
theorem jP (row:List Pt) (P:Pt):ak (row++[P])=P::aW P (ak row):=by
 unfold ak;rw[List.foldl_append];rfl
theorem jo {row:List Pt} (hs:row.Pairwise plt):∀n,0 < n→n≤row.length→Kept (row.take n) (ak (row.take n))∧(ak (row.take n)).getLast?=row.head?∧(ak (row.take n)).head?=row[n - 1]?
 |0,h,_=>absurd h (by decide)
 |1,_,h=>by
  cases row with
  |nil=>simp at h
  |cons a r=>
   simp only[HL,JH]
   exact ⟨⟨by simp[ak],trivial,trivial,trivial,fun p hp=>by simpa [ak,aW] using hp⟩,rfl,rfl⟩
 |n+2,_,h=>by
  obtain ⟨K,hl,hh⟩:=jo hs (n+1) (by lia) (by lia)
  have hn:n+1 < row.length:=by lia
  have et:row.take (n+2)=row.take (n+1)++[row[n+1]]:=by rw[Fq hn]
  have hP:∀q∈row.take (n+1),plt q row[n+1]:=fun q hq=>by
   obtain ⟨i,hi,e⟩:=Gq.mp hq
   subst e
   exact Cw.mp hs i (n+1) (by lia) hn (by lia)
  have D:sJ (row.take (n+1)) (ak (row.take (n+1))) row[n+1]:=⟨K,fun h' r e q hq hlt=>by
   exfalso
   rw[e] at hh
   simp only[Lk,Ka] at hh
   have hn':n < row.length:=by lia
   rw[B1 hn'] at hh
   have hh':=Du hh
   obtain ⟨i,hi,e2⟩:=Gq.mp hq
   subst e2
   rw[hh'] at hlt
   rcases D3 i n with z |z
   ·exact bq _ (ce hlt (Cw.mp hs i n (by lia) hn' z))
   ·have:i=n:=by lia
    subst this
    exact bq _ hlt⟩
  obtain ⟨D2,ht,hlast⟩:=nA hP _ D
  rw[et,jP]
  refine ⟨ue hP D2 ht (fun x e q hq=>?_),?_,?_⟩
  ·rw[e,hl] at hlast
   simp at hlast
   obtain ⟨i,hi,e2⟩:=Gq.mp hq
   have h0:0 < row.length:=by lia
   have e3:row[0]=x:=by
    rw[FO,B1 h0] at hlast
    exact Du hlast
   subst e2
   rcases GO i with z |z
   ·subst z;exact .inl e3
   ·right;rw[←e3];exact Cw.mp hs 0 i h0 (by lia) z
  ·rw[List.getLast?_cons,←hlast,hl]
   cases row with
   |nil=>simp at hn
   |cons a r=>rfl
  ·simp only[Lk,Ka]
   rw[show n+2 - 1=n+1 by lia,B1 hn]
theorem cm {row:List Pt} (hs:row.Pairwise plt) (h:row≠[]):Kept row (ak row)∧(ak row).getLast?=row.head?∧(ak row).head?=row.getLast?:=by
 have h0:0 < row.length:=EN.mpr h
 obtain ⟨h1,h2,h3⟩:=jo hs row.length h0 (B9 _)
 rw[EX] at h1 h2 h3
 exact ⟨h1,h2,by rw[h3,Eo]⟩
theorem i0 {u1 u2 v1 v2 w1 w2:Int} (hu:gh u1 u2) (hv:gh v1 v2) (hw:gh w1 w2) (h1:0≤u1*v2 - u2*v1) (h2:0 < v1*w2 - v2*w1):0 < u1*w2 - u2*w1:=by
 unfold gh at *
 by_cases hv1:v1=0
 ·subst hv1
  have hv2:0 < v2:=by lia
  have:=Cs (show 0≤v2 by lia) (show 0≤w1 by lia)
  simp at h2;lia
 ·have hv':0 < v1:=by lia
  have hu1:0 < u1:=by
   rcases hu with h |⟨h,h'⟩
   ·exact h
   ·subst h
    have:=DK h' hv'
    simp at h1;lia
  have e:v1*(u1*w2 - u2*w1)=u1*(v1*w2 - v2*w1)+w1*(u1*v2 - u2*v1):=by grind
  have p1:=DK hu1 h2
  have p2:=Cs (show 0≤w1 by lia) h1
  have q:0 < v1*(u1*w2 - u2*w1):=by lia
  exact D8 q hv'
def low (row:List Pt) (p:Pt):Prop:=∀a∈row,∀b∈row,plt a p→plt p b→0 < af a p b
theorem yW {row:List Pt}{p:Pt}:∀(st:List Pt) (n:Pt),lJ (n::st)→iO (n::st)→gw row (n::st)→p∈st→(∀l,(n::st).getLast?=some l→plt l p)→
  ∃n' q,0 < af q p n'∧plt q p∧plt p n'∧(∀x∈row,0≤af p n' x)∧(∀x∈row,0≤af q p x)
 |[],n,_,_,_,hp,_=>by simp at hp
 |h::r,n,D,T,C,hp,hl=>by
  by_cases e:h=p
  ·subst e
   cases r with
   |nil=>exact absurd (hl h (by simp)) (bq h)
   |cons q r'=>exact ⟨n,q,T.1,D.2.1,D.1,C.1,C.2.1⟩
  ·have hp':p∈r:=by
    rcases Cd.mp hp with z |z
    ·exact absurd z.symm e
    ·exact z
   exact yW r h D.tail T.tail C.tail hp' (fun l hl'=>hl l (by rw[Dd];exact hl'))
theorem mT {row:List Pt} (hs:row.Pairwise plt) {p:Pt} (hp:p∈ak row):low row p:=by
 intro a ha b hb hap hpb
 have hne:row≠[]:=fun z=>by rw[z] at ha;simp at ha
 obtain ⟨K,hlast,hhead⟩:=cm hs hne
 have mn:∀x∈row,∀m,row.head?=some m→x=m∨plt m x:=fun x hx m hm=>by
  cases row with
  |nil=>simp at hx
  |cons y r=>
   cases hm
   rcases Cd.mp hx with z |z
   ·exact .inl z
   ·exact .inr ((CH.mp hs).1 x z)
 have mx:∀x∈row,∀m,row.getLast?=some m→x=m∨plt x m:=fun x hx m hm=>by
  obtain ⟨i,hi⟩:=DI.mp hx
  have hil:=(Cg.mp hi).1
  rw[Eo] at hm
  have hml:=(Cg.mp hm).1
  rcases CI (show i≤row.length - 1 by lia) with z |z
  ·right
   have h1:=Cw.mp hs i (row.length - 1) hil hml z
   rw[(Cg.mp hi).2,(Cg.mp hm).2] at h1
   exact h1
  ·left;rw[z,hm] at hi;exact (Du hi).symm
 cases hst:ak row with
 |nil=>exact absurd hst K.ne
 |cons n st=>
  rw[hst] at K hlast hhead hp
  have hn:row.getLast?=some n:=by rw[←hhead];rfl
  have hpn:p∈st:=by
   rcases Cd.mp hp with z |z
   ·rcases mx b hb n hn with y |y
    ·rw[y,←z] at hpb;exact absurd hpb (bq p)
    ·rw[z] at hpb;exact absurd (ce hpb y) (bq n)
   ·exact z
  obtain ⟨n',q,t,qp,pn,c1,c2⟩:=yW st n K.desc K.turns K.cover hpn (fun l hl=>by
   rw[hlast] at hl
   rcases mn a ha l hl with y |y
   ·rw[←y];exact hap
   ·exact ce y hap)
  have g1:=c2 a ha
  have g2:=c1 b hb
  unfold af at *
  have k1:0≤(p.1 - a.1) *(p.2 - q.2) - (p.2 - a.2) *(p.1 - q.1):=by grind
  have k2:0 < (p.1 - q.1) *(n'.2 - p.2) - (p.2 - q.2) *(n'.1 - p.1):=by grind
  have k3:0≤(n'.1 - p.1) *(b.2 - p.2) - (n'.2 - p.2) *(b.1 - p.1):=by grind
  have k4:=ke (bh qp) (bh pn) (bh hpb) k2 k3
  have k5:=i0 (bh hap) (bh qp) (bh hpb) k1 k4
  grind
theorem ug {row:List Pt}{p:Pt}:∀(st:List Pt) (h:Pt),lJ (h::st)→gw row (h::st)→p∈row→p ∉ h::st→plt p h→(∀l,(h::st).getLast?=some l→plt l p)→∃a∈h::st,∃b∈h::st,plt a p∧plt p b∧0≤af a b p
 |[],h,_,_,_,_,hp,hl=>absurd (ce hp (hl h (by simp))) (bq p)
 |a::r,h,D,C,hr,hno,hp,hl=>by
  rcases lO p a with z |z |z
  ·obtain ⟨x,hx,y,hy,k⟩:=ug r a D.tail C.tail hr (fun w=>hno (B4 _ w)) z (fun l hl'=>hl l (by rw[Dd];exact hl'))
   exact ⟨x,B4 _ hx,y,B4 _ hy,k⟩
  ·exact absurd (by rw[z];simp) hno
  ·exact ⟨a,by simp,h,by simp,z,hp,C.1 p hr⟩
theorem gap {row:List Pt} (hs:row.Pairwise plt) {p:Pt} (hp:p∈row) (hno:p ∉ ak row):∃a∈ak row,∃b∈ak row,plt a p∧plt p b∧af a p b≤0:=by
 have hne:row≠[]:=fun z=>by rw[z] at hp;simp at hp
 obtain ⟨K,hlast,hhead⟩:=cm hs hne
 cases hst:ak row with
 |nil=>exact absurd hst K.ne
 |cons n st=>
  rw[hst] at K hlast hhead hno
  have hn:row.getLast?=some n:=by rw[←hhead];rfl
  have pn:plt p n:=by
   obtain ⟨i,hi⟩:=DI.mp hp
   have hil:=(Cg.mp hi).1
   rw[Eo] at hn
   have hml:=(Cg.mp hn).1
   rcases CI (show i≤row.length - 1 by lia) with z |z
   ·have h1:=Cw.mp hs i (row.length - 1) hil hml z
    rw[(Cg.mp hi).2,(Cg.mp hn).2] at h1
    exact h1
   ·rw[z,hn] at hi;exact absurd (by rw[←Du hi];simp) hno
  obtain ⟨a,ha,b,hb,k1,k2,k3⟩:=ug st n K.desc K.cover hp hno pn (fun l hl=>by
   have hl':=hl
   rw[hlast] at hl
   cases row with
   |nil=>simp at hp
   |cons y r=>
    cases hl
    rcases Cd.mp hp with z |z
    ·exact absurd (by rw[z];exact Fu hl') hno
    ·exact (CH.mp hs).1 p z)
  refine ⟨a,ha,b,hb,k1,k2,?_⟩
  unfold af at *
  grind
theorem sY {row row':List Pt} (hs:row.Pairwise plt) (hs':row'.Pairwise plt) (h1:∀p∈row',p∈row) (h2:∀p∈ak row,p∈row') (sub:∀(r:List Pt) (q:Pt),q∈ak r→q∈r) (p:Pt):p∈ak row'↔p∈ak row:=by
 constructor
 ·intro hp
  refine DX fun hno=>?_
  obtain ⟨a,ha,b,hb,k1,k2,k3⟩:=gap hs (h1 p (sub _ _ hp)) hno
  have:=mT hs' hp a (h2 a ha) b (h2 b hb) k1 k2
  lia
 ·intro hp
  refine DX fun hno=>?_
  obtain ⟨a,ha,b,hb,k1,k2,k3⟩:=gap hs' (h2 p hp) hno
  have:=mT hs hp a (h1 a (sub _ _ ha)) b (h1 b (sub _ _ hb)) k1 k2
  lia
abbrev Szp (m:Nat) (p:P2):Prop:=Sz m p.1∧Sz m p.2
theorem y8 (b:P2) (r:List P2):atI ((b::r).reverse.map pu) (-1)=some (pu b):=by
 have h:ixN ((b::r).reverse.map pu).length (-1)=some r.length:=by
  unfold ixN
  simp
  lia
 unfold atI
 rw[h]
 simp
theorem yZ (b a:P2) (r:List P2):atI ((b::a::r).reverse.map pu) (-2)=some (pu a):=by
 have h:ixN ((b::a::r).reverse.map pu).length (-2)=some r.length:=by
  unfold ixN
  simp
  lia
 unfold atI
 rw[h]
 simp
theorem jd (P:P2):∀st:List P2,(aW P st).length≤st.length
 |[]=>B9 _
 |[_]=>B9 _
 |b::a::r=>by
  unfold aW
  split
  ·have:=jd P (a::r);simp only[Dt] at *;lia
  ·exact B9 _
theorem rh (P:P2):∀(st:List P2) (q:P2),q∈aW P st→q∈st
 |[],_,h=>h
 |[_],_,h=>h
 |b::a::r,q,h=>by
  unfold aW at h
  split at h
  ·exact B4 _ (rh P (a::r) q h)
  ·exact h
theorem eZ {row:List P2}{i:Nat}{P:P2} (h:row[i]?=some P):ak (row.take (i+1))=P::aW P (ak (row.take i)):=by
 rw[FL,h];exact jP _ _
theorem fX (row:List P2):∀i,(ak (row.take i)).length≤i
 |0=>by simp[ak]
 |i+1=>by
  have ih:=fX row i
  cases h:row[i]? with
  |none=>rw[FL,h];simp;lia
  |some P=>
   rw[eZ h]
   have:=jd P (ak (row.take i))
   simp only[Dt];lia
theorem eF (row:List P2):∀i q,q∈ak (row.take i)→q∈row
 |0,q,h=>by simp[ak] at h
 |i+1,q,h=>by
  cases hi:row[i]? with
  |none=>rw[FL,hi] at h;exact eF row i q (by simpa using h)
  |some P=>
   rw[eZ hi] at h
   rcases Cd.mp h with e |e
   ·rw[e];exact Cu hi
   ·exact eF row i q (rh P _ q e)
theorem uM (n:Int):decide (sgn n < 1)=decide (n≤0):=by
 have h:sgn n < 1↔n≤0:=by
  unfold sgn
  split
  ·lia
  ·split <;>lia
 exact decide_eq_decide.mpr h
theorem iH (l:List P2):gJ (l.map pu) none (some (-1))=l.dropLast.map pu:=by
 unfold gJ HT.sIx
 rw[Iw,List.dropLast_eq_take]
 simp
 try lia
def am (pts:List P2):List P2:=if (ST.srt pts).length=1 then ST.srt pts else (ak (ST.srt pts)).reverse.dropLast++(ak (ST.srt pts).reverse).reverse.dropLast
theorem lZ (a b:Pt):plt a b↔ST.ltP a b=true:=by unfold plt ST.ltP;simp
theorem il {l:List Pt}:ST.Asc l↔l.Pairwise plt:=⟨fun h=>h.imp fun {a b} k=>(lZ a b).mpr k,fun h=>h.imp fun {a b} k=>(lZ a b).mp k⟩
theorem lm:∀{st:List Pt},lJ st→st.Pairwise (fun x y=>plt y x)
 |[],_=>G9
 |[_],_=>by simp
 |b::a::r,h=>by
  have ih:=lm h.2
  refine CH.mpr ⟨fun x hx=>?_,ih⟩
  rcases Cd.mp hx with z |z
  ·rw[z];exact h.1
  ·exact ce ((CH.mp ih).1 x z) h.1
theorem bJ (row:List Pt) (q:Pt) (h:q∈ak row):q∈row:=by
 have:=eF row row.length q
 rw[EX] at this
 exact this h
theorem dM {row:List Pt} (hs:row.Pairwise plt):ST.Asc (ak row).reverse:=by
 by_cases hne:row=[]
 ·subst hne;exact G9
 ·exact il.mpr (ET.mpr (lm (cm hs hne).1.desc))
theorem oG {row row':List Pt} (hs:row.Pairwise plt) (hs':row'.Pairwise plt) (h1:∀p∈row',p∈row) (h2:∀p∈ak row,p∈row'):ak row'=ak row:=by
 have e:=ST.asc_one (dM hs') (dM hs) fun z=>by
  rw[Cq,Cq]
  exact sY hs hs' h1 h2 bJ z
 exact List.reverse_inj.mp e
def ng (p:Pt):Pt:=(-p.1,-p.2)
theorem gz (p:Pt):ng (ng p)=p:=by unfold ng;simp
theorem zl (l:List Pt):(l.map ng).map ng=l:=by
 rw[Dj,show ng ∘ ng=id from funext gz,MF]
theorem ka (a b c:Pt):af (ng a) (ng b) (ng c)=af a b c:=by unfold af ng;grind
theorem j9 {a b:Pt} (h:plt a b):plt (ng b) (ng a):=by unfold plt ng at *;simp;lia
theorem wu (P:Pt):∀st:List Pt,aW (ng P) (st.map ng)=(aW P st).map ng
 |[]=>rfl
 |[_]=>rfl
 |b::a::r=>by
  show aW (ng P) (ng b::ng a::r.map ng)=_
  unfold aW
  rw[ka]
  split
  ·exact wu P (a::r)
  ·rfl
theorem fO:∀row:List Pt,ak (row.map ng)=(ak row).map ng:=fun row=>by
 have key:∀(l:List Pt) (st:List Pt),(l.map ng).foldl (fun st P=>P::aW P st) (st.map ng)=(l.foldl (fun st P=>P::aW P st) st).map ng:=by
  intro l
  induction l with
  |nil=>intro st;rfl
  |cons p r ih=>
   intro st
   rw[CY,ED,ED,wu]
   exact ih (p::aW p st)
 exact key row []
theorem cN {row:List Pt} (hs:row.Pairwise plt):(row.reverse.map ng).Pairwise plt:=by
 rw[Df,ET]
 exact hs.imp fun {a b} h=>j9 h
theorem bP (row:List Pt):ak row.reverse=(ak (row.reverse.map ng)).map ng:=by rw[fO,zl]
theorem mF {row row':List Pt} (hs:row.Pairwise plt) (hs':row'.Pairwise plt) (h1:∀p∈row',p∈row) (h2:∀p∈ak row.reverse,p∈row'):ak row'.reverse=ak row.reverse:=by
 rw[bP row,bP row']
 congr 1
 refine oG (cN hs) (cN hs') (fun p hp=>?_) (fun p hp=>?_)
 ·obtain ⟨q,hq,rfl⟩:=B8.mp hp
  exact B8.mpr ⟨q,Cq.mpr (h1 q (Cq.mp hq)),rfl⟩
 ·rw[fO] at hp
  obtain ⟨q,hq,rfl⟩:=B8.mp hp
  exact B8.mpr ⟨q,Cq.mpr (h2 q hq),rfl⟩
theorem ends {row:List Pt} (hs:row.Pairwise plt) (h2:2≤row.length):∃mn mx t1 t2,ak row=mx::t1∧ak row.reverse=mn::t2∧mn∈t1∧mx∈t2∧(∀p∈row,p=mn∨plt mn p)∧(∀p∈row,p=mx∨plt p mx)∧mn∈row∧mx∈row:=by
 have hne:row≠[]:=fun z=>by rw[z] at h2;simp at h2
 obtain ⟨K,hl,hh⟩:=cm hs hne
 have hneR:row.reverse.map ng≠[]:=by simpa using hne
 obtain ⟨KR,hlR,hhR⟩:=cm (cN hs) hneR
 have e1:row.head?=some row[0]:=by rw[FO];exact B1 (by lia)
 have e2:row.getLast?=some row[row.length - 1]:=by rw[Eo];exact B1 (by lia)
 have l01:plt row[0] row[row.length - 1]:=Cw.mp hs 0 (row.length - 1) (by lia) (by lia) (by lia)
 have mnA:∀p∈row,p=row[0]∨plt row[0] p:=fun p hp=>by
  obtain ⟨i,hi,rfl⟩:=JD.mp hp
  rcases GO i with z |z
  ·left;subst z;rfl
  ·right;exact Cw.mp hs 0 i (by lia) hi z
 have mxA:∀p∈row,p=row[row.length - 1]∨plt p row[row.length - 1]:=fun p hp=>by
  obtain ⟨i,hi,rfl⟩:=JD.mp hp
  rcases CI (show i≤row.length - 1 by lia) with z |z
  ·right;exact Cw.mp hs i (row.length - 1) hi (by lia) z
  ·left;subst z;rfl
 have ne:row[0]≠row[row.length - 1]:=fun z=>by rw[z] at l01;exact bq _ l01
 generalize row[0]=mn at *
 generalize row[row.length - 1]=mx at *
 have mmn:mn∈row:=List.mem_of_head? e1
 have mmx:mx∈row:=Fu e2
 rw[e1] at hl
 rw[e2] at hh
 have hlR':(ak row.reverse).getLast?=some mx:=by
  rw[bP,Hc,hlR,Ig,Kb,e2];simp[gz]
 have hhR':(ak row.reverse).head?=some mn:=by
  rw[bP,Ig,hhR,Hc,Ho,e1];simp[gz]
 cases hb:ak row with
 |nil=>rw[hb] at hh;cases hh
 |cons x t1=>
  rw[hb] at hh hl
  cases hh
  cases hbR:ak row.reverse with
  |nil=>rw[hbR] at hhR';cases hhR'
  |cons y t2=>
   rw[hbR] at hhR' hlR'
   cases hhR'
   refine ⟨_,_,t1,t2,rfl,rfl,?_,?_,mnA,mxA,mmn,mmx⟩
   ·cases t1 with
    |nil=>simp at hl;exact absurd hl.symm ne
    |cons z r=>rw[Dd] at hl;exact Fu hl
   ·cases t2 with
    |nil=>simp at hlR';exact absurd hlR' ne
    |cons z r=>rw[Dd] at hlR';exact Fu hlR'
theorem vP (st:List Pt):st.reverse.dropLast=st.tail.reverse:=by
 cases st with
 |nil=>rfl
 |cons h t=>simp
theorem gg {l:List Pt}:l.reverse.Nodup↔l.Nodup:=by
 unfold List.Nodup
 rw[ET]
 exact ⟨fun h=>h.imp fun k=>Ne.symm k,fun h=>h.imp fun k=>Ne.symm k⟩
theorem dH:∀{l m:List Pt},l.Nodup→(∀x∈l,x∈m)→l.length≤m.length
 |[],_,_,_=>DB _
 |x::l,m,h,hs=>by
  obtain ⟨h1,h2⟩:=E_.mp h
  have hx:x∈m:=hs x Ci
  have ih:=dH (m:=m.erase x) h2 fun y hy=>(List.mem_erase_of_ne (fun e=>h1 (by rw[←e];exact hy))).mpr (hs y (B4 _ hy))
  rw[List.length_erase_of_mem hx] at ih
  have:=D4 hx
  simp only[Dt];lia
theorem dG (pts:List Pt):(ST.srt pts).Pairwise plt:=il.mp (ST.srt_asc pts)
theorem fS {pts:List Pt} (h:2≤(ST.srt pts).length):am pts=(ak (ST.srt pts)).tail.reverse++(ak (ST.srt pts).reverse).tail.reverse:=by
 unfold am;rw[if_neg (by lia),vP,vP]
theorem ji {pts:List Pt} (h:pts≠[]):am pts≠[]:=by
 have hs:ST.srt pts≠[]:=fun z=>by
  obtain ⟨p,r,rfl⟩:=List.exists_cons_of_ne_nil h
  have:=(ST.srt_mem p (p::r)).mpr Ci
  rw[z] at this;simp at this
 by_cases h1:(ST.srt pts).length=1
 ·unfold am;rw[if_pos h1];exact hs
 ·have h2:2≤(ST.srt pts).length:=by have:=EN.mpr hs;lia
  obtain ⟨mn,mx,t1,t2,e1,e2,m1,m2,_⟩:=ends (dG pts) h2
  rw[fS h2,e1,e2]
  intro z
  have:t1.reverse=[]:=(List.append_eq_nil_iff.mp z).1
  rw[List.reverse_eq_nil_iff.mp this] at m1
  simp at m1
theorem be (pts:List Pt):(am pts).Nodup:=by
 have nd:∀{l:List Pt},l.Pairwise plt→l.Nodup:=fun h=>h.imp fun {a b} k e=>by rw[e] at k;exact bq b k
 by_cases h2:2≤(ST.srt pts).length
 ·have hs:=dG pts
  obtain ⟨mn,mx,t1,t2,e1,e2,m1,m2,hmn,hmx,i1,i2⟩:=ends hs h2
  have n1:(mx::t1).Nodup:=by rw[←e1];exact gg.mp (nd (il.mp (dM hs)))
  have n2:(mn::t2).Nodup:=by
   rw[←e2,bP]
   have:=gg.mp (nd (il.mp (dM (cN hs))))
   refine Df.mpr (this.imp fun {a b} hab e=>hab ?_)
   rw[←gz a,e,gz]
  obtain ⟨x1,y1⟩:=E_.mp n1
  obtain ⟨x2,y2⟩:=E_.mp n2
  rw[fS h2,e1,e2,Fo,Fo,E7]
  refine ⟨gg.mpr y1,gg.mpr y2,fun p hp q hq=>?_⟩
  rintro rfl
  have p1:p∈t1:=Cq.mp hp
  have p2:p∈t2:=Cq.mp hq
  have b1:p∈ak (ST.srt pts):=by rw[e1];exact B4 _ p1
  have b2:p∈ak (ST.srt pts).reverse:=by rw[e2];exact B4 _ p2
  have pr:=bJ _ _ b1
  have l1:plt mn p:=(hmn p pr).resolve_left fun e=>x2 (by rw[←e];exact p2)
  have l2:plt p mx:=(hmx p pr).resolve_left fun e=>x1 (by rw[←e];exact p1)
  have d1:=mT hs b1 mn i1 mx i2 l1 l2
  have b3:ng p∈ak ((ST.srt pts).reverse.map ng):=by rw[fO];exact B8.mpr ⟨p,b2,rfl⟩
  have d2:=mT (cN hs) b3 (ng mx) (B8.mpr ⟨mx,Cq.mpr i2,rfl⟩) (ng mn) (B8.mpr ⟨mn,Cq.mpr i1,rfl⟩) (j9 l2) (j9 l1)
  rw[ka] at d2
  unfold af at d1 d2
  grind
 ·unfold am
  split
  ·exact nd (dG pts)
  ·have e:ST.srt pts=[]:=Ed.mp (by lia)
   rw[e];exact LI
theorem aV (pts:List Pt):∀p∈am pts,p∈pts:=fun p hp=>by
 unfold am at hp
 split at hp
 ·exact (ST.srt_mem p pts).mp hp
 ·rcases Dq.mp hp with h |h
  ·exact (ST.srt_mem p pts).mp (bJ _ _ (Cq.mp (JE _ h)))
  ·exact (ST.srt_mem p pts).mp (Cq.mp (bJ _ _ (Cq.mp (JE _ h))))
theorem mV (pts:List Pt):(am pts).length≤pts.length:=dH (be pts) (aV pts)
theorem lu (pts:List Pt):am (am pts)=am pts:=by
 by_cases h2:2≤(ST.srt pts).length
 ·have hs:=dG pts
  obtain ⟨mn,mx,t1,t2,e1,e2,m1,m2,hmn,hmx,i1,i2⟩:=ends hs h2
  have ec:=fS h2
  have mem1:∀p∈ak (ST.srt pts),p∈am pts:=fun p hp=>by
   rw[ec,e1,e2,Fo,Fo]
   rw[e1] at hp
   rcases Cd.mp hp with z |z
   ·rw[z];exact Cz _ (Cq.mpr m2)
   ·exact DC _ (Cq.mpr z)
  have mem2:∀p∈ak (ST.srt pts).reverse,p∈am pts:=fun p hp=>by
   rw[ec,e1,e2,Fo,Fo]
   rw[e2] at hp
   rcases Cd.mp hp with z |z
   ·rw[z];exact DC _ (Cq.mpr m1)
   ·exact Cz _ (Cq.mpr z)
  have hs':=dG (am pts)
  have sub:∀p∈ST.srt (am pts),p∈ST.srt pts:=fun p hp=>(ST.srt_mem p pts).mpr (aV pts p ((ST.srt_mem p _).mp hp))
  have q1:=oG hs hs' sub fun p hp=>(ST.srt_mem p _).mpr (mem1 p hp)
  have q2:=mF hs hs' sub fun p hp=>(ST.srt_mem p _).mpr (mem2 p hp)
  have len:2≤(ST.srt (am pts)).length:=by
   have a1:mn∈ST.srt (am pts):=(ST.srt_mem _ _).mpr (mem1 mn (by rw[e1];exact B4 _ m1))
   have a2:mx∈ST.srt (am pts):=(ST.srt_mem _ _).mpr (mem1 mx (by rw[e1];exact Ci))
   have ne:mn≠mx:=fun z=>by
    have nd:=be pts
    rw[ec,e1,e2,Fo,Fo,E7] at nd
    exact nd.2.2 mn (Cq.mpr m1) mx (Cq.mpr m2) z
   have:=dH (l:=[mn,mx]) (m:=ST.srt (am pts)) (by simp[ne]) (fun x hx=>by
    rcases Cd.mp hx with z |z
    ·rw[z];exact a1
    ·rw[Ct.mp z];exact a2)
   exact this
  rw[fS len,q1,q2,←ec]
 ·have e:am pts=ST.srt pts:=by
   unfold am
   split
   ·rfl
   ·have e:ST.srt pts=[]:=Ed.mp (by lia)
    rw[e];rfl
  rw[e]
  have e3:ST.srt (ST.srt pts)=ST.srt pts:=ST.asc_srt (ST.srt_asc pts)
  unfold am
  rw[e3]
  split
  ·rfl
  ·have e:ST.srt pts=[]:=Ed.mp (by lia)
   rw[e];rfl
end
section
variable {P:Cy}{w:World}{K:B2}{mg:Str→Option Value}{base:Heap}
def tY:List U→Out→Prop:=fun us o=>∃P Q R:P2,us=[pu P,pu Q,pu R]∧Szp 5000 P∧Szp 5000 Q∧Szp 5000 R∧o=.val (.int (sgn (af P Q R)))
theorem xm (T:Txt K mg):a_ P w K mg base (CXF P w) 2 T.a_turn T.d_turn ["P","Q","R"] (spU K (tY)):=by
 refine bn T.F_turn xk (fun us o h=>?_) (fun cdv A outer s H E O us o hr h=>?_)
 ·obtain ⟨P,Q,R,rfl,⟨p1,p2⟩,⟨q1,q2⟩,⟨r1,r2⟩,rfl⟩:=h
  rfl
 obtain ⟨P,Q,R,rfl,⟨p1,p2⟩,⟨q1,q2⟩,⟨r1,r2⟩,rfl⟩:=h
 refine Ws.nox ?_
 refine ae (aJ (aM ((qT T).mono (by decide)) hr rfl T.m_sign T.F_sign.kp T.b_sign aI (ag (bD (br (bD (aD (aa 1 rfl) aj rfl rfl) (aD (aa 0 rfl) aj rfl rfl)) (bD (aD (aa 2 rfl) aj rfl rfl) (aD (aa 0 rfl) aj rfl rfl)) (by walk_at "mul")) (br (bD (aD (aa 1 rfl) aj rfl rfl) (aD (aa 0 rfl) aj rfl rfl)) (bD (aD (aa 2 rfl) aj rfl rfl) (aD (aa 0 rfl) aj rfl rfl)) (by walk_at "mul"))) ao bS) ⟨_,rfl,rfl⟩) ?_)
 exact rfl
def o7:List U→Out→Prop:=fun us o=>∃row:List P2,us=[lp row]∧(∀p∈row,Szp 5000 p)∧row.length≤900∧o=.new ((ak row).reverse.map pu)
theorem gv (T:Txt K mg):a_ P w K mg base (CXF P w) 3 T.a_left_bends T.d_left_bends ["row"] (spU K (o7)):=by
 refine bn T.F_left_bends d9 (fun us o h=>?_) (fun cdv A outer s H E O us o hr h=>?_)
 ·obtain ⟨row,rfl,sz,hl,rfl⟩:=h
  rfl
 obtain ⟨row,rfl,sz,hl,rfl⟩:=h
 refine Ws.nox ?_
 refine ae (iR (i:=1) d9.nd rfl (Or.inl rfl) (dO bT) ?_)
 refine ae (fI (fun st:List P2=>[some (.val (lp row)),some (.own (st.reverse.map pu)),none]) (fun i st=>st=ak (row.take i)) rfl PassesOwn.never (cW (aa 0 rfl) (.inl rfl)) ?h0 ?hs ?hd)
 case h0=>exact ⟨[],rfl,rfl,rfl,trivial⟩
 case hs=>
  rintro H0 i x _ hx rfl
  obtain ⟨P,hP,mP,rfl⟩:=qU hx
  have hi:i < row.length:=aF hP
  have sP:=sz P mP
  refine ⟨_,(gN (i:=2) d9.nd rfl (Or.inl rfl)),?_⟩
  have len0:=fX row i
  refine iu (fun ps=>SubP [some (.val (lp row)),some (.own ((aW P (ak (row.take i))).reverse.map pu)),some (.val (pu P))] ps) (jB (fun s2:List P2=>[some (.val (lp row)),some (.own (s2.reverse.map pu)),some (.val (pu P))]) (fun m s2=>m=s2.length∧aW P s2=aW P (ak (row.take i))∧(∀p∈s2,p∈row)∧s2.length≤i) PassesOwn.never ?h0 ?hs) ?hj
  case h0=>exact ⟨_,_,⟨rfl,rfl,fun q hq=>eF row i q hq,len0⟩,rfl,rfl,rfl,trivial⟩
  case hs=>
   rintro m s2 ⟨rfl,e2,sub,len2⟩
   match s2,e2,sub,len2 with
   |[],e2,sub,len2=>
    refine ⟨false,?_,fun h=>(nomatch h),fun h ps hps=>e2 ▸ hps⟩
    exact (Tw.t (m8 (aT iA (gR 1 rfl rfl T.z_len) aj) rfl))
   |[b],e2,sub,len2=>
    refine ⟨false,?_,fun h=>(nomatch h),fun h ps hps=>e2 ▸ hps⟩
    exact (Tw.t (m8 (aT iA (gR 1 rfl rfl T.z_len) aj) rfl))
   |b::a::r,e2,sub,len2=>
    have sa:=sz a (sub a (by simp))
    have sb:=sz b (sub b (by simp))
    have e1:decide ((1:Int) < ((((b::a::r).reverse.map pu).length:Nat):Int))=true:=decide_eq_true (by simp;lia)
    refine ⟨decide ((1:Int) < ((((b::a::r).reverse.map pu).length:Nat):Int)) && decide (sgn (af a b P) < 1),?_,fun h=>?_,fun h ps hps=>?_⟩
    ·exact (Tw.t (vw (aT iA (gR 1 rfl rfl T.z_len) aj) (fun hz=>(wP (aT ij (aM ((xm T).mono (by decide)) hr rfl T.m_turn T.F_turn.kp T.b_turn aI (ag (rG 1 rfl (cR aj) (yZ b a r)) (ag (rG 1 rfl (cR aj) (y8 b (a::r))) (ag (aa 2 rfl) ao ah) cx) cx) ⟨a,b,P,rfl,sa,sb,sP,rfl⟩) aj)))))
    ·rw[e1,HD,uM] at h
     have hd:=dTb h
     refine ae (yL 1 rfl (by simp) (aH ?_))
     refine ⟨_,a::r,?_,⟨rfl,?_,fun q hq=>sub q (B4 _ hq),?_⟩,rfl,?_,rfl,trivial⟩
     ·simp
     ·rw[←e2];conv=>rhs;unfold aW
      rw[if_pos hd]
     ·simp only[Dt] at *;lia
     ·exact congrArg (fun l=>some (Sl.own l)) (by simp)
    ·rw[e1,HD,uM] at h
     have hd:=dFb h
     have e3:aW P (b::a::r)=b::a::r:=by conv=>lhs;unfold aW
                                        rw[if_neg hd]
     rw[←e2,e3]
     exact hps
  case hj=>
   intro ps hps
   refine d7 ?_ hps
   have e4:=eZ hP
   have len3:=jd P (ak (row.take i))
   refine ae (eK 1 rfl (aa 2 rfl) (by rw[B3,Dl];exact aN (by lia)) (aH ?_))
   refine ⟨_,rfl,rfl,?_,trivial⟩
   exact congrArg (fun l=>some (Sl.own l)) (by rw[e4];simp)
 case hd=>
  rintro st ps hst hps
  refine d7 ?_ hps
  refine ae (qc 1 rfl ?_)
  rw[hst]
  simp
end
section
variable {P:Cy}{w:World}{K:B2}{mg:Str→Option Value}{base:Heap}
theorem v0 {m:Nat}{pts:List P2} (h:∀p∈pts,Szp m p):∀p∈ST.srt pts,Szp m p:=fun p hp=>h p ((ST.srt_mem p pts).mp hp)
theorem fC (row:List P2):(ak row).length≤row.length:=by
 have:=fX row row.length
 rwa [EX] at this
def pN (C:Addr):List U→Out→Prop:=fun us o=>∃pts:List P2,us=[lp pts]∧(∀p∈pts,Szp 5000 p)∧pts.length < 64∧o=(if pts=[] then .exc C else .new ((am pts).map pu))
theorem ou (T:Txt K mg):a_ P w K mg base (CXF P w) 4 T.a_field T.d_field ["points"] (spU K (pN T.c_NoField)):=by
 refine bn T.F_field fG (by rintro us o ⟨_,rfl,_⟩;rfl) (fun cdv A outer s H E O us o hr h=>?_)
 obtain ⟨pts,rfl,sz,hl,rfl⟩:=h
 have hml:((pts.map pu).length:Int)=(pts.length:Int):=by rw[B3]
 by_cases hne:pts=[]
 ·subst hne
  refine ae (cS (aT eo (aq (cJ rfl) rfl T.z_len Do (ag (aa 0 rfl) ao ah)) aj) rfl ?_)
  refine ae (jc T.x_NoField rfl T.mx_NoField qj ?_)
  exact rfl
 ·have hpos:0 < pts.length:=EN.mpr hne
  rw[if_neg hne]
  refine ae (dm (aT eo (aq (cJ rfl) rfl T.z_len Do (ag (aa 0 rfl) ao ah)) aj) (by rw[hml];exact decide_eq_false (by lia)) (aH ?_))
  have sl:=ST.srt_len pts
  have hms:(((ST.srt pts).map pu).length:Int)=((ST.srt pts).length:Int):=by rw[B3]
  have szs:=v0 sz
  refine Ws.nox ?_
  by_cases h1:(ST.srt pts).length=1
  ·refine ae (iR (i:=1) fG.nd rfl (Or.inl rfl) (gU rfl (kF hr) rfl T.z_sorted rfl T.z_set (aa 0 rfl) (by lia) ah) ?_)
   refine ae (cS (aT eo (gR 1 rfl rfl T.z_len) aj) (by rw[hms];exact decide_eq_true (by lia)) ?_)
   refine ae (qc 1 rfl ?_)
   show Out.new _=Out.new _
   unfold am
   rw[if_pos h1]
  ·refine ae (aE (i:=1) fG.nd rfl (Or.inl rfl) (EvN.ev (gU rfl (kF hr) rfl T.z_sorted rfl T.z_set (aa 0 rfl) (by lia) ah)) ?_)
   refine ae (dm (aT eo (aq (cJ rfl) rfl T.z_len Do (ag (aa 1 rfl) ao ah)) aj) (by rw[hms];exact decide_eq_false (by lia)) (aH ?_))
   have b1:=fC (ST.srt pts)
   have b2:=fC (ST.srt pts).reverse
   rw[Dl] at b2
   refine ae (aE (i:=2) fG.nd rfl (Or.inl rfl) (EvN.ev (du ((gv T).mono (by decide)) hr rfl T.m_left_bends T.F_left_bends.kp T.b_left_bends aI (ag (aa 1 rfl) ao ah) ⟨ST.srt pts,rfl,szs,by lia,rfl⟩)) ?_)
   refine ae (aE (i:=3) fG.nd rfl (Or.inl rfl) (EvN.ev (du ((gv T).mono (by decide)) hr rfl T.m_left_bends T.F_left_bends.kp T.b_left_bends aI (ag (EvN.ev (AV (aa 1 rfl) (cR aj) (.inl rfl))) ao cx) ⟨(ST.srt pts).reverse,by rw[lp,EK],fun p hp=>szs p (Cq.mp hp),by rw[Dl];lia,rfl⟩)) ?_)
   refine ae (fB (uZ (EvN.ev (f_ (aa 2 rfl) jn (gO (cR aj)) (.inl rfl))) (EvN.ev (f_ (aa 3 rfl) jn (gO (cR aj)) (.inl rfl))) (by rw[iH,iH,B3,B3,EZ,EZ,Dl,Dl];exact DE (aN (by lia)))) ?_)
   show Out.new _=Out.new _
   unfold am
   rw[if_neg h1,iH,iH,←Di]
def ap (a b c d e f:Int) (p:P2):P2:=(a*p.1+b*p.2+e,c*p.1+d*p.2+f)
theorem y_ {m:Nat}{a b c d e f:Int}{p:P2} (sa:Sz 500 a) (sb:Sz 500 b) (sc:Sz 500 c) (sd:Sz 500 d) (se:Sz 500 e) (sf:Sz 500 f) (hm:m≤3000) (s:Szp m p):Szp (m+510) (ap a b c d e f p):=by
 have key:∀{x y z:Int},Sz 500 x→Sz 500 y→Sz 500 z→Sz (m+510) (x*p.1+y*p.2+z):=fun sx sy sz=>by
  have h1:=L2.Sz.add' (L2.Sz.mul sx s.1) (L2.Sz.mul sy s.2)
  have h2:=L2.Sz.add' h1 sz
  exact h2.mono (by lia)
 exact ⟨key sa sb se,key sc sd sf⟩
def xo (C:Addr):List U→Out→Prop:=fun us o=>∃(pts:List P2) (a b c d e f:Int),us=[lp pts,mv a b c d e f]∧(a*d - b*c=1∨a*d - b*c=-1)∧(Sz 500 a∧Sz 500 b∧Sz 500 c∧Sz 500 d∧Sz 500 e∧Sz 500 f)∧(∀p∈pts,Szp 3000 p)∧pts≠[]∧pts.length < 64∧o=.new ((am (pts.map (ap a b c d e f))).map pu)
theorem jA (T:Txt K mg):a_ P w K mg base (CXF P w) 5 T.a_field_moved T.d_field_moved ["land","move"] (spU K (xo T.c_NoField)):=by
 refine bn T.F_field_moved fP (fun us o h=>?_) (fun cdv A outer s H E O us o hr h=>?_)
 ·obtain ⟨pts,a,b,c,d,e,f,rfl,hu,⟨sa,sb,sc,sd,se,sf⟩,sz,hne,hl,rfl⟩:=h
  rfl
 obtain ⟨pts,a,b,c,d,e,f,rfl,hu,⟨sa,sb,sc,sd,se,sf⟩,sz,hne,hl,rfl⟩:=h
 have k5:500≤30000:=by decide
 have M:Mv a b c d e f:=⟨hu,sa.mono k5,sb.mono k5,sc.mono k5,sd.mono k5,se.mono k5,sf.mono k5⟩
 refine ae (fB (du ((ou T).mono (by decide)) hr rfl T.m_field T.F_field.kp T.b_field aI (ag (EvN.ev (fT (ys:=(pts.map fun p=>pu (ap a b c d e f p))) rfl (blk (ai bH) ["land","move","P"] [2] rfl rfl rfl rfl (by decide+kernel)) (cW (aa 0 rfl) (.inl rfl)) (fun _ _ _ _=>bM (i:=2) fP.nd rfl (Or.inl rfl)) (cI (by decide)) ?clen ?csz (fun _ _=>trivial) ?celt)) ao d6) ⟨pts.map (ap a b c d e f),by rw[lp,Dj];rfl,fun p hp=>by obtain ⟨q,hq,rfl⟩:=B8.mp hp;have z:=y_ sa sb sc sd se sf (B9 3000) (sz q hq);exact ⟨z.1.mono (by decide),z.2.mono (by decide)⟩,by rw[B3];exact hl,by rw[if_neg (by simpa using hne)]⟩) ?_)
 case clen=>simp
 case csz=>rw[B3];exact DE (aN (by lia))
 case celt=>
  intro C s' H' fp j x y hx hy
  obtain ⟨p,hp,mp,rfl,rfl⟩:=fc hx hy
  exact (aM ((oC T).mono (by decide)) hr rfl T.m_moved T.F_moved.kp T.b_moved aI (ag (aa 2 rfl) (ag (aa 1 rfl) ao ah) ah) (.inl ⟨p.1,p.2,a,b,c,d,e,f,rfl,M,(sz p mp).1.mono (by decide),(sz p mp).2.mono (by decide),rfl⟩))
 exact rfl
end
section
variable {P:Cy}{w:World}{K:B2}{mg:Str→Option Value}{base:Heap}
theorem pS {l m:List Pt} (h:ST.srt l=ST.srt m):am l=am m:=by unfold am;rw[h]
theorem lc {l m:List Pt} (h:∀z,z∈l↔z∈m):ST.srt l=ST.srt m:=ST.asc_one (ST.srt_asc l) (ST.srt_asc m) fun z=>by rw[ST.srt_mem,ST.srt_mem];exact h z
theorem dU {pts:List Pt} (h:¬ 2≤(ST.srt pts).length):am pts=ST.srt pts:=by
 unfold am
 split
 ·rfl
 ·have e:ST.srt pts=[]:=Ed.mp (by lia)
  rw[e];rfl
section
variable {f:Pt→Pt}
theorem xR (hf:∀a b,plt a b→plt (f a) (f b)) (l:List Pt):ST.srt (l.map f)=(ST.srt l).map f:=by
 refine ST.asc_one (ST.srt_asc _) (il.mpr (Df.mpr ((dG l).imp fun {a b} h=>hf a b h))) fun z=>?_
 rw[ST.srt_mem,B8,B8]
 exact ⟨fun ⟨x,hx,e⟩=>⟨x,(ST.srt_mem x l).mpr hx,e⟩,fun ⟨x,hx,e⟩=>⟨x,(ST.srt_mem x l).mp hx,e⟩⟩
theorem rT (hd:∀a b c,af (f a) (f b) (f c)≤0↔af a b c≤0) (P:Pt):∀st:List Pt,aW (f P) (st.map f)=(aW P st).map f
 |[]=>rfl
 |[_]=>rfl
 |b::a::r=>by
  show aW (f P) (f b::f a::r.map f)=_
  unfold aW
  by_cases h:af a b P≤0
  ·rw[if_pos h,if_pos ((hd a b P).mpr h)];exact rT hd P (a::r)
  ·rw[if_neg h,if_neg fun z=>h ((hd a b P).mp z)];rfl
theorem kK (hd:∀a b c,af (f a) (f b) (f c)≤0↔af a b c≤0) (row:List Pt):ak (row.map f)=(ak row).map f:=by
 have key:∀(l:List Pt) (st:List Pt),(l.map f).foldl (fun st P=>P::aW P st) (st.map f)=(l.foldl (fun st P=>P::aW P st) st).map f:=by
  intro l
  induction l with
  |nil=>intro st;rfl
  |cons p r ih=>
   intro st
   rw[CY,ED,ED,rT hd]
   exact ih (p::aW p st)
 exact key row []
theorem ut (hf:∀a b,plt a b→plt (f a) (f b)) (hd:∀a b c,af (f a) (f b) (f c)≤0↔af a b c≤0) (l:List Pt):am (l.map f)=(am l).map f:=by
 unfold am
 rw[xR hf,B3,←EK,kK hd,kK hd]
 split
 ·rfl
 ·rw[Di,Iw,Iw,EK,EK]
end
def scl (k:Int) (p:Pt):Pt:=(k*p.1,k*p.2)
theorem yJ (p:Pt):scl 1 p=p:=by unfold scl;simp
def lW:List Int→Int
 |[]=>0
 |a::l=>l.foldl min a
theorem gG:∀(l:List Int) (a:Int),l.foldl min a∈a::l
 |[],a=>by simp
 |b::l,a=>by
  have:=gG l (min a b)
  rw[ED]
  rcases Cd.mp this with e |e
  ·rw[e];rcases Ib a b with h |h
   ·rw[Int.min_eq_left h];simp
   ·rw[Int.min_eq_right h];simp
  ·exact B4 _ (B4 _ e)
theorem g9:∀(l:List Int) (a:Int),∀x∈a::l,l.foldl min a≤x
 |[],a,x,h=>by simp at h;rw[h];exact II _
 |b::l,a,x,h=>by
  have ih:=g9 l (min a b)
  rw[ED]
  have h0:=ih (min a b) Ci
  rcases Cd.mp h with rfl |h
  ·lia
  ·rcases Cd.mp h with rfl |h
   ·lia
   ·exact ih x (B4 _ h)
theorem bL {l:List Int} (h:l≠[]):lW l∈l∧∀a∈l,lW l≤a:=by
 cases l with
 |nil=>exact absurd rfl h
 |cons a l=>exact ⟨gG l a,g9 l a⟩
abbrev gp (l:List P2) (i:Nat):P2:=l.getD i (0,0)
def nxt (l:List P2) (i:Nat):P2:=gp l ((i+1) % l.length)
def sdl (l:List P2):List (P2×P2):=(Ds l.length).map fun i=>(gp l i,nxt l i)
abbrev pq (s:P2×P2):U:=.tup [pu s.1,pu s.2]
theorem dD {l:List P2}{i:Nat} (h:i < l.length):l[i]?=some (gp l i):=by simp[gp,h]
theorem fe {l:List P2}{i:Nat} (h:i < l.length):gp l i∈l:=Cu (dD h)
theorem yR (l:List U):gJ l (some 1) none=l.drop 1:=by
 unfold gJ HT.sIx
 cases l with
 |nil=>simp
 |cons a l=>simp
theorem y4 (l:List U):gJ l none (some 1)=l.take 1:=by
 unfold gJ HT.sIx
 cases l with
 |nil=>simp
 |cons a l=>simp
theorem uY (l:List P2):Jo (fun a b=>U.tup [a,b]) (l.map pu) (gJ (l.map pu) (some 1) none++gJ (l.map pu) none (some 1))=(sdl l).map pq:=by
 rw[yR,y4]
 apply E9
 intro i
 unfold sdl
 by_cases hi:i < l.length
 ·have e1:(l.map pu)[i]?=some (pu (gp l i)):=by rw[Cb,dD hi];rfl
  have e2:((l.map pu).drop 1++(l.map pu).take 1)[i]?=some (pu (nxt l i)):=by
   unfold nxt
   by_cases hj:i+1 < l.length
   ·rw[CF (by simp;lia),Fi,Nat.add_comm,CK hj,Cb,dD hj];rfl
   ·have e:i+1=l.length:=by lia
    rw[CG (by simp;lia),e,Hq]
    rw[show i - ((l.map pu).drop 1).length=0 by simp;lia,Eu (by lia),Cb,dD (by lia)];rfl
  rw[EY.mpr ⟨_,_,e1,e2,rfl⟩,Dj,Cb,FC hi]
  rfl
 ·rw[C0 (by simp;lia),C0 (by simp;lia)]
theorem m9 (l:List P2):(sdl l).length=l.length:=by simp[sdl]
theorem bo {l:List P2}{s:P2×P2} (h:s∈sdl l):s.1∈l∧s.2∈l:=by
 obtain ⟨i,hi,rfl⟩:=B8.mp h
 have hi':=Cr.mp hi
 exact ⟨fe hi',fe (EW _ (by lia))⟩
def o_:List U→Out→Prop:=fun us o=>∃l:List P2,us=[lp l]∧l.length≤900∧o=.new ((sdl l).map pq)
theorem jE (T:Txt K mg):a_ P w K mg base (CXF P w) 1 T.a_sides T.d_sides ["land"] (spU K (o_)):=by
 refine bn T.F_sides vg (fun us o h=>?_) (fun cdv A outer s H E O us o hr h=>?_)
 ·obtain ⟨l,rfl,hl,rfl⟩:=h
  rfl
 obtain ⟨l,rfl,hl,rfl⟩:=h
 refine Ws.nox ?_
 have hlen:(gJ (l.map pu) (some 1) none++gJ (l.map pu) none (some 1)).length=l.length:=by rw[yR,y4];simp;lia
 refine ae (fB (tP rfl rfl T.z_list rfl T.z_zip (aa 0 rfl) (.inl rfl) (EvN.ev (uZ (EvN.ev (f_ (aa 0 rfl) (gO aj) jn (.inl rfl))) (EvN.ev (f_ (aa 0 rfl) jn (gO aj) (.inl rfl))) (by rw[←CW,hlen];exact DE (aN (by lia))))) (.inl rfl) (by rw[hlen,B3]) (by rw[B3];lia) ah bS) ?_)
 rw[uY]
theorem BR {l:List P2} (h:0 < l.length):atI (l.map pu) 0=some (pu (gp l 0)):=ur (i:=0) rfl (by rw[Cb,dD h];rfl)
theorem qX {l:List P2} (h:0 < l.length):atI (l.map pu) (-1)=some (pu (gp l (l.length - 1))):=by
 have e:ixN (l.map pu).length (-1)=some (l.length - 1):=by
  unfold ixN
  simp
  lia
 unfold atI
 rw[e]
 show (l.map pu)[l.length - 1]?=_
 rw[Cb,dD (by lia)];rfl
end
section
variable {P:Cy}{w:World}{K:B2}{mg:Str→Option Value}{base:Heap}
def gst (s:P2×P2):Int:=((FG (s.2.1 - s.1.1) (s.2.2 - s.1.2):Nat):Int)
def crs (s:P2×P2):Int:=s.1.1*s.2.2 - s.1.2*s.2.1
def area (l:List P2):Int:=((sdl l).map crs).sum
def j8 (l:List P2):Int:=((sdl l).map gst).sum
def pin (l:List P2):Int:=if l.length < 3 then 0 else (area l - j8 l+2) / 2
theorem oR (s:P2×P2):0≤gst s:=by unfold gst;lia
theorem bV {s:P2×P2} (h:s.1≠s.2):0 < gst s:=by
 unfold gst
 have:FG (s.2.1 - s.1.1) (s.2.2 - s.1.2)≠0:=fun e=>by
  have:=HQ.mp e
  exact h (Er (by lia) (by lia))
 lia
def ev (p:P2):Int:=if p.1 % 2=0∧p.2 % 2=0 then 1 else 0
theorem qF (l:List P2):(sdl l).map (·.1)=l:=by
 apply E9
 intro i
 unfold sdl
 rw[Dj]
 by_cases hi:i < l.length
 ·rw[Cb,FC hi,dD hi];rfl
 ·rw[C0 (by simp;lia),C0 (by lia)]
theorem xQ (l:List P2):(sdl l).map (·.2)=l.drop 1++l.take 1:=by
 apply E9
 intro i
 unfold sdl
 rw[Dj]
 by_cases hi:i < l.length
 ·rw[Cb,FC hi]
  show some (nxt l i)=_
  unfold nxt
  by_cases hj:i+1 < l.length
  ·rw[CF (by simp;lia),Fi,show 1+i=i+1 by lia,CK hj,dD hj]
  ·have e:i+1=l.length:=by lia
   rw[CG (by simp;lia),e,Hq]
   rw[show i - (l.drop 1).length=0 by simp;lia,Eu (by lia),dD (by lia)]
 ·rw[C0 (by simp;lia),C0 (by simp;lia)]
theorem wI {l:List P2} (hn:l.Nodup) (h2:2≤l.length):∀s∈sdl l,s.1≠s.2:=fun s hs e=>by
 obtain ⟨i,hi,rfl⟩:=B8.mp hs
 have hi':=Cr.mp hi
 have hj:(i+1) % l.length < l.length:=EW _ (by lia)
 have e':gp l i=gp l ((i+1) % l.length):=e
 have:l[i]?=l[(i+1) % l.length]?:=by rw[dD hi',dD hj,e']
 have:=(Gc hi' hn).mp this
 by_cases hk:i+1 < l.length
 ·rw[CK hk] at this;lia
 ·have e:i+1=l.length:=by lia
  rw[e,Hq] at this;lia
theorem pO {m n:Nat}{l:List P2} (h:m≤n) (k:∀p∈l,Szp m p):∀p∈l,Szp n p:=fun p hp=>⟨(k p hp).1.mono h,(k p hp).2.mono h⟩
def tD:List U→Out→Prop:=fun us o=>∃l:List P2,us=[lp l]∧l.length≤900∧(∀p∈l,Szp 2500 p)∧o=.val (.int (area l))
theorem jQ (T:Txt K mg):a_ P w K mg base (CXF P w) 2 T.a_double_area T.d_double_area ["land"] (spU K (tD)):=by
 refine bn T.F_double_area dN (fun us o h=>?_) (fun cdv A outer s H E O us o hr h=>?_)
 ·obtain ⟨l,rfl,hl,sz,rfl⟩:=h
  rfl
 obtain ⟨l,rfl,hl,sz,rfl⟩:=h
 refine Ws.nox ?_
 refine ae (aJ (aq (vM rfl ) rfl T.z_sum boot_sum (ag (EvN.ev (fT (ys:=(((sdl l).map crs).map U.int)) rfl (blk (ai bK) ["land","A","B"] [1,2] rfl rfl rfl rfl (by decide+kernel)) (cW (EvN.ev (du ((jE T).mono (by decide)) hr rfl T.m_sides T.F_sides.kp T.b_sides aI (ag (aa 0 rfl) ao ah) ⟨l,rfl,hl,rfl⟩)) (.inl rfl)) (fun _ _ _ _=>pJ rfl (eE (bM (i:=1) dN.nd rfl (Or.inl rfl)) (eE (bM (i:=2) dN.nd rfl (Or.inl rfl)) mR))) (qH (js:=[1,2]) (by decide)) ?clen ?csz ?dom ?celt)) ao d6)) ?_)
 case clen=>simp
 case csz=>simp only[m9,B3];exact DE (aN (by lia))
 case dom=>
  intro x hx
  obtain ⟨s,_,rfl⟩:=B8.mp hx
  exact ⟨_,rfl,rfl⟩
 case celt=>
  intro C s' H' fp j x y hx hy
  rw[Dj] at hy
  obtain ⟨s,hs,ms,rfl,rfl⟩:=fc hx hy
  obtain ⟨m1,m2⟩:=bo ms
  have z1:=(sz _ m1).1
  have z2:=(sz _ m1).2
  have z3:=(sz _ m2).1
  have z4:=(sz _ m2).2
  exact (bD (br (aD (aa 1 rfl) aj rfl rfl) (aD (aa 2 rfl) aj rfl rfl) (by walk_at "mul")) (br (aD (aa 1 rfl) aj rfl rfl) (aD (aa 2 rfl) aj rfl rfl) (by walk_at "mul")))
 exact rfl
theorem nD {done:List Pt}:∀{st:List Pt},gw done st→∀(k:Nat) {a b:Pt},st[k]?=some b→st[k+1]?=some a→∀q∈done,0≤af a b q
 |[],_,k,_,_,h,_=>by simp at h
 |[_],_,k,_,_,_,h=>by simp at h
 |x::y::r,C,0,a,b,h1,h2=>by
  simp at h1 h2
  subst h1;subst h2
  exact C.1
 |x::y::r,C,k+1,a,b,h1,h2=>nD C.2 k (by simpa using h1) (by simpa using h2)
theorem om:∀{st:List Pt},iO st→∀(k:Nat) {a b c:Pt},st[k]?=some c→st[k+1]?=some b→st[k+2]?=some a→0 < af a b c
 |[],_,k,_,_,_,h,_,_=>by simp at h
 |[_],_,k,_,_,_,_,h,_=>by simp at h
 |[_,_],_,k,_,_,_,_,_,h=>by simp at h
 |x::y::z::r,C,0,a,b,c,h1,h2,h3=>by
  simp at h1 h2 h3
  subst h1;subst h2;subst h3
  exact C.1
 |x::y::z::r,C,k+1,a,b,c,h1,h2,h3=>om C.2 k (by simpa using h1) (by simpa using h2) (by simpa using h3)
theorem u6 {st:List Pt}{i:Nat}{a b:Pt} (h1:st.reverse[i]?=some a) (h2:st.reverse[i+1]?=some b):∃k,st[k]?=some b∧st[k+1]?=some a:=by
 have l2:i+1 < st.length:=by have:=(Cg.mp h2).1;simpa using this
 rw[Ea (by lia)] at h1
 rw[Ea l2] at h2
 exact ⟨st.length - 1 - (i+1),h2,by rw[←h1];congr 1;lia⟩
theorem tJ {st:List Pt}{i:Nat}{a b c:Pt} (h1:st.reverse[i]?=some a) (h2:st.reverse[i+1]?=some b) (h3:st.reverse[i+2]?=some c):∃k,st[k]?=some c∧st[k+1]?=some b∧st[k+2]?=some a:=by
 have l3:i+2 < st.length:=by have:=(Cg.mp h3).1;simpa using this
 rw[Ea (by lia)] at h1
 rw[Ea (by lia)] at h2
 rw[Ea l3] at h3
 exact ⟨st.length - 1 - (i+2),h3,by rw[←h2];congr 1;lia,by rw[←h1];congr 1;lia⟩
theorem fz {row:List Pt} (hs:row.Pairwise plt) (h:row≠[]) {i:Nat}{a b:Pt} (h1:(ak row).reverse[i]?=some a) (h2:(ak row).reverse[i+1]?=some b):∀q∈row,0≤af a b q:=by
 obtain ⟨k,e1,e2⟩:=u6 h1 h2
 exact nD (cm hs h).1.cover k e1 e2
theorem gT {row:List Pt} (hs:row.Pairwise plt) (h:row≠[]) {i:Nat}{a b c:Pt} (h1:(ak row).reverse[i]?=some a) (h2:(ak row).reverse[i+1]?=some b) (h3:(ak row).reverse[i+2]?=some c):0 < af a b c:=by
 obtain ⟨k,e1,e2,e3⟩:=tJ h1 h2 h3
 exact om (cm hs h).1.turns k e1 e2 e3
theorem fg {row:List Pt}{i:Nat}{a:Pt} (h1:(ak row.reverse).reverse[i]?=some a):(ak (row.reverse.map ng)).reverse[i]?=some (ng a):=by
 rw[bP,←EK,Cb] at h1
 cases e:(ak (row.reverse.map ng)).reverse[i]? with
 |none=>rw[e] at h1;cases h1
 |some z=>rw[e] at h1;cases h1;rw[gz]
theorem jO {row:List Pt} (hs:row.Pairwise plt) (h:row≠[]) {i:Nat}{a b:Pt} (h1:(ak row.reverse).reverse[i]?=some a) (h2:(ak row.reverse).reverse[i+1]?=some b):∀q∈row,0≤af a b q:=fun q hq=>by
 have:=fz (cN hs) (by simpa using h) (fg h1) (fg h2) (ng q) (CV (Cq.mpr hq))
 rwa [ka] at this
theorem lf {row:List Pt} (hs:row.Pairwise plt) (h:row≠[]) {i:Nat}{a b c:Pt} (h1:(ak row.reverse).reverse[i]?=some a) (h2:(ak row.reverse).reverse[i+1]?=some b) (h3:(ak row.reverse).reverse[i+2]?=some c):0 < af a b c:=by
 have:=gT (cN hs) (by simpa using h) (fg h1) (fg h2) (fg h3)
 rwa [ka] at this
theorem uA {u1 u2 v1 v2 w1 w2:Int} (hu:gh u1 u2) (hv:gh v1 v2) (h0:u1*v2 - u2*v1=0) (h1:u1*w2 - u2*w1≤0) (h2:0≤v1*w2 - v2*w1):u1*w2 - u2*w1=0∧v1*w2 - v2*w1=0:=by
 have e1:v1*(u1*w2 - u2*w1)=u1*(v1*w2 - v2*w1):=by grind
 have e2:v2*(u1*w2 - u2*w1)=u2*(v1*w2 - v2*w1):=by grind
 have fin:∀{s t A B:Int},0 < s→0 < t→s*A=t*B→A≤0→0≤B→A=0∧B=0:=fun {s t A B} hs ht e ha hb=>by
  have k1:s*A≤0:=Int.mul_nonpos_of_nonneg_of_nonpos (by lia) ha
  have k2:0≤t*B:=Cs (by lia) hb
  have z1:s*A=0:=by lia
  have z2:t*B=0:=by lia
  refine ⟨(Dw.mp z1).resolve_left (by lia),(Dw.mp z2).resolve_left (by lia)⟩
 rcases hu with hu |⟨hu,hu2⟩
 ·rcases hv with hv |⟨hv,hv2⟩
  ·exact fin hv hu e1 h1 h2
  ·rw[hv] at h0
   have:=DK hu hv2
   lia
 ·rcases hv with hv |⟨hv,hv2⟩
  ·rw[hu] at h0
   have:=DK hu2 hv
   lia
  ·exact fin hv2 hu2 e2 h1 h2
theorem tM {a m c:Pt} (ha:plt a m) (hc:plt c m) (h:af a m c=0) {q:Pt} (h1:0≤af a m q) (h2:0≤af m c q):af a m q=0∧af m c q=0:=by
 have k:=uA (w1:=m.1 - q.1) (w2:=m.2 - q.2) (bh ha) (bh hc) (by unfold af at h;grind) (by unfold af at h1;grind) (by unfold af at h2;grind)
 unfold af
 exact ⟨by grind,by grind⟩
theorem xt (a b c:Pt):af a b c=af b c a:=by unfold af;grind
theorem A_ {row:List Pt} (hs:row.Pairwise plt) (hne:row≠[]) {i:Nat}{a m c:Pt} (h1:(ak row).reverse[i]?=some a) (h2:(ak row).reverse[i+1]?=some m) (hl:(ak row).length=i+2)
  (h3:(ak row.reverse).reverse[0]?=some m) (h4:(ak row.reverse).reverse[1]?=some c) (ha:plt a m) (hc:plt c m) (big:2 < (ak row).length∨2 < (ak row.reverse).length):0 < af a m c:=by
 have mem:∀{j:Nat}{p:Pt},(ak row).reverse[j]?=some p→p∈row:=fun h=>bJ row _ (Cq.mp (Cu h))
 have memR:∀{j:Nat}{p:Pt},(ak row.reverse).reverse[j]?=some p→p∈row:=fun h=>Cq.mp (bJ _ _ (Cq.mp (Cu h)))
 have cv:=fz hs hne h1 h2
 have cb:=jO hs hne h3 h4
 have h0:=cv c (memR h4)
 rcases D7 h0 with z |z
 ·exact z
 ·exfalso
  have flat:∀q∈row,af a m q=0∧af m c q=0:=fun q hq=>tM ha hc z.symm (cv q hq) (cb q hq)
  rcases big with b |b
  ·have hi:0 < i:=by lia
   have hx:i - 1 < (ak row).reverse.length:=by simp;lia
   have e:=B1 hx
   have t:=gT hs hne e (by rw[Nat.sub_add_cancel hi];exact h1) (by rw[show i - 1+2=i+1 by lia];exact h2)
   rw[xt,(flat _ (mem e)).1] at t
   lia
  ·have hx:2 < (ak row.reverse).reverse.length:=by simpa using b
   have e:=B1 hx
   have t:=lf hs hne h3 h4 e
   rw[(flat _ (memR e)).2] at t
   lia
structure z9 (row T B:List Pt) (mn mx:Pt):Prop where
 t0:T[0]?=some mn
 t1:T[T.length - 1]?=some mx
 b0:B[0]?=some mx
 b1:B[B.length - 1]?=some mn
 lt:2≤T.length
 lb:2≤B.length
 least:∀p∈row,p=mn∨plt mn p
 most:∀p∈row,p=mx∨plt p mx
theorem y3 {l:List Pt}:l.reverse[0]?=l.getLast?:=by rw[List.getLast?_eq_head?_reverse,FO]
theorem yX {l:List Pt}:l.reverse[l.reverse.length - 1]?=l.head?:=by rw[←Eo,Ho]
theorem AS {row:List Pt} (hs:row.Pairwise plt) (h2:2≤row.length):∃mn mx,z9 row (ak row).reverse (ak row.reverse).reverse mn mx:=by
 have hne:row≠[]:=fun z=>by rw[z] at h2;simp at h2
 obtain ⟨mn,mx,t1,t2,e1,e2,m1,m2,least,most,_,_⟩:=ends hs h2
 obtain ⟨K,hl,hh⟩:=cm hs hne
 obtain ⟨KR,hlR,hhR⟩:=cm (cN hs) (by simpa using hne)
 have l1:2≤(ak row).length:=by rw[e1];have:=D4 m1;simp;lia
 have l2:2≤(ak row.reverse).length:=by rw[e2];have:=D4 m2;simp;lia
 have hd:row.head?=some row[0]:=by rw[FO];exact B1 (by lia)
 have ld:row.getLast?=some row[row.length - 1]:=by rw[Eo];exact B1 (by lia)
 have q1:row[0]=mn:=by
  have hb:=hhR
  rw[Hc,Ho,hd] at hb
  have:(ak row.reverse).head?=some row[0]:=by rw[bP,Ig,hb];simp[gz]
  rw[e2] at this
  exact (Du this).symm
 have q2:row[row.length - 1]=mx:=by
  rw[ld,e1] at hh
  exact (Du hh).symm
 refine ⟨mn,mx,?_,?_,?_,?_,by simpa using l1,by simpa using l2,least,most⟩
 ·rw[y3,hl,hd,q1]
 ·rw[yX,hh,ld,q2]
 ·rw[y3,bP,Hc,hlR,Ig,Kb,ld,q2];simp[gz]
 ·rw[yX,e2];rfl
section
variable {row T B:List Pt}{mn mx:Pt}
theorem dQ (W:z9 row T B mn mx) {k:Nat} (hk:k≤T.length - 1):(T.dropLast++B.dropLast)[k % (T.dropLast++B.dropLast).length]?=T[k]?:=by
 have h1:=W.lt
 have h2:=W.lb
 have hn:(T.dropLast++B.dropLast).length=T.length - 1+(B.length - 1):=by simp
 rw[hn,CK (by lia)]
 by_cases h:k < T.length - 1
 ·rw[CF (by simpa using h),FN,if_pos h]
 ·obtain rfl:k=T.length - 1:=by lia
  rw[CG (by simp),EZ,Kz,FN,if_pos (by lia),W.b0,W.t1]
theorem ja (W:z9 row T B mn mx) {k:Nat} (h0:T.length - 1≤k) (hk:k≤T.length - 1+(B.length - 1)):(T.dropLast++B.dropLast)[k % (T.dropLast++B.dropLast).length]?=B[k - (T.length - 1)]?:=by
 have h1:=W.lt
 have h2:=W.lb
 have hn:(T.dropLast++B.dropLast).length=T.length - 1+(B.length - 1):=by simp
 by_cases h:k < T.length - 1+(B.length - 1)
 ·rw[hn,CK h,CG (by simpa using h0),EZ,FN,if_pos (by lia)]
 ·obtain rfl:k=T.length - 1+(B.length - 1):=by lia
  have:=dQ W (k:=0) (by lia)
  rw[Mw] at this
  rw[hn,Hq,this,W.t0,show T.length - 1+(B.length - 1) - (T.length - 1)=B.length - 1 by lia,W.b1]
end
theorem d0 {l:List Pt}{i:Nat} (h:i < l.length):∃a,l[i]?=some a:=⟨_,B1 h⟩
theorem jT {pts:List Pt} (h2:2≤(ST.srt pts).length) {i:Nat} (hi:i < (am pts).length):∃a b,(am pts)[i]?=some a∧(am pts)[(i+1) % (am pts).length]?=some b∧(∀p∈pts,0≤af a b p)∧(2 < (am pts).length→∃c,(am pts)[(i+2) % (am pts).length]?=some c∧0 < af a b c):=by
 have hs:=dG pts
 have hne:ST.srt pts≠[]:=fun z=>by rw[z] at h2;simp at h2
 obtain ⟨mn,mx,W⟩:=AS hs h2
 have hmem:∀p∈pts,p∈ST.srt pts:=fun p hp=>(ST.srt_mem p pts).mpr hp
 have hc:am pts=(ak (ST.srt pts)).reverse.dropLast++(ak (ST.srt pts).reverse).reverse.dropLast:=by
  unfold am;rw[if_neg (by lia)]
 have tc:∀{j:Nat}{a b:Pt},(ak (ST.srt pts)).reverse[j]?=some a→(ak (ST.srt pts)).reverse[j+1]?=some b→∀q∈ST.srt pts,0≤af a b q:=fun h h'=>fz hs hne h h'
 have tt:∀{j:Nat}{a b c:Pt},(ak (ST.srt pts)).reverse[j]?=some a→(ak (ST.srt pts)).reverse[j+1]?=some b→(ak (ST.srt pts)).reverse[j+2]?=some c→0 < af a b c:=fun h h' h''=>gT hs hne h h' h''
 have bc:∀{j:Nat}{a b:Pt},(ak (ST.srt pts).reverse).reverse[j]?=some a→(ak (ST.srt pts).reverse).reverse[j+1]?=some b→∀q∈ST.srt pts,0≤af a b q:=fun h h'=>jO hs hne h h'
 have bt:∀{j:Nat}{a b c:Pt},(ak (ST.srt pts).reverse).reverse[j]?=some a→(ak (ST.srt pts).reverse).reverse[j+1]?=some b→(ak (ST.srt pts).reverse).reverse[j+2]?=some c→0 < af a b c:=fun h h' h''=>lf hs hne h h' h''
 have memT:∀{j:Nat}{p:Pt},(ak (ST.srt pts)).reverse[j]?=some p→p∈ST.srt pts:=fun h=>bJ _ _ (Cq.mp (Cu h))
 have memB:∀{j:Nat}{p:Pt},(ak (ST.srt pts).reverse).reverse[j]?=some p→p∈ST.srt pts:=fun h=>Cq.mp (bJ _ _ (Cq.mp (Cu h)))
 have ndT:(ak (ST.srt pts)).reverse.Nodup:=(dM hs).imp fun {a b} h e=>by subst e;exact bq _ ((lZ _ _).mpr h)
 have ndB:(ak (ST.srt pts).reverse).reverse.Nodup:=by
  rw[bP,←EK]
  have ndR:(ak ((ST.srt pts).reverse.map ng)).reverse.Nodup:=(dM (cN hs)).imp fun {a b} h e=>by subst e;exact bq _ ((lZ _ _).mpr h)
  exact Eg _ (fun a b (h:a≠b) e=>h (by have:=congrArg ng e;rwa [gz,gz] at this)) ndR
 have m1:∀{j:Nat}{a m c:Pt},(ak (ST.srt pts)).reverse[j]?=some a→(ak (ST.srt pts)).reverse[j+1]?=some m→(ak (ST.srt pts)).length=j+2→(ak (ST.srt pts).reverse).reverse[0]?=some m→(ak (ST.srt pts).reverse).reverse[1]?=some c→plt a m→plt c m→2 < (ak (ST.srt pts)).length∨2 < (ak (ST.srt pts).reverse).length→0 < af a m c:=fun a1 a2 a3 a4 a5 a6 a7 a8=>A_ hs hne a1 a2 a3 a4 a5 a6 a7 a8
 have m2:∀{j:Nat}{a m c:Pt},(ak (ST.srt pts).reverse).reverse[j]?=some a→(ak (ST.srt pts).reverse).reverse[j+1]?=some m→(ak (ST.srt pts).reverse).length=j+2→(ak (ST.srt pts)).reverse[0]?=some m→(ak (ST.srt pts)).reverse[1]?=some c→plt m a→plt m c→2 < (ak (ST.srt pts)).length∨2 < (ak (ST.srt pts).reverse).length→0 < af a m c:=fun {j a m c} a1 a2 a3 a4 a5 a6 a7 a8=>by
  have er:((ST.srt pts).reverse.map ng).reverse=(ST.srt pts).map ng:=by rw[←EK,HA]
  have fw:∀{k:Nat}{p:Pt},(ak (ST.srt pts)).reverse[k]?=some p→(ak ((ST.srt pts).reverse.map ng).reverse).reverse[k]?=some (ng p):=fun {k p} h=>by
   rw[er,fO,←EK,Cb,h];rfl
  have lb:(ak ((ST.srt pts).reverse.map ng)).length=(ak (ST.srt pts).reverse).length:=by rw[bP,B3]
  have lt:(ak ((ST.srt pts).reverse.map ng).reverse).length=(ak (ST.srt pts)).length:=by rw[er,fO,B3]
  have:=A_ (cN hs) (by simpa using hne) (fg a1) (fg a2) (by rw[lb];exact a3) (fw a4) (fw a5) (j9 a6) (j9 a7) (by rw[lb,lt];exact a8.symm)
  rwa [ka] at this
 rw[hc] at hi ⊢
 have lT:(ak (ST.srt pts)).reverse.length=(ak (ST.srt pts)).length:=Dl
 have lB:(ak (ST.srt pts).reverse).reverse.length=(ak (ST.srt pts).reverse).length:=Dl
 generalize (ak (ST.srt pts)).reverse=T at *
 generalize (ak (ST.srt pts).reverse).reverse=B at *
 have h1:=W.lt
 have h3:=W.lb
 have hn:(T.dropLast++B.dropLast).length=T.length - 1+(B.length - 1):=by simp
 have own:∀k,k < (T.dropLast++B.dropLast).length→(T.dropLast++B.dropLast)[k]?=(T.dropLast++B.dropLast)[k % (T.dropLast++B.dropLast).length]?:=fun k hk=>by rw[CK hk]
 have tne:∀{j k:Nat}{p q:Pt},T[j]?=some p→T[k]?=some q→j≠k→p≠q:=fun {j k p q} a1 a2 a3 e=>a3 ((Gc (aF a1) ndT).mp (by rw[a1,a2,e]))
 have bne:∀{j k:Nat}{p q:Pt},B[j]?=some p→B[k]?=some q→j≠k→p≠q:=fun {j k p q} a1 a2 a3 e=>a3 ((Gc (aF a1) ndB).mp (by rw[a1,a2,e]))
 by_cases c1:i < T.length - 1
 ·obtain ⟨a,ea⟩:=d0 (l:=T) (i:=i) (by lia)
  obtain ⟨b,eb⟩:=d0 (l:=T) (i:=i+1) (by lia)
  refine ⟨a,b,by rw[own i hi,dQ W (by lia)];exact ea,by rw[dQ W (by lia)];exact eb,fun p hp=>tc ea eb p (hmem p hp),fun big=>?_⟩
  by_cases c2:i+2≤T.length - 1
  ·obtain ⟨c,ec⟩:=d0 (l:=T) (i:=i+2) (by lia)
   exact ⟨c,by rw[dQ W c2];exact ec,tt ea eb ec⟩
  ·have e:i+1=T.length - 1:=by lia
   obtain ⟨c,ec⟩:=d0 (l:=B) (i:=1) (by lia)
   have emx:b=mx:=by have:=W.t1;rw[←e,eb] at this;exact Du this
   subst emx
   refine ⟨c,by rw[ja W (by lia) (by lia),show i+2 - (T.length - 1)=1 by lia];exact ec,m1 ea eb (by lia) W.b0 ec ?_ ?_ (by lia)⟩
   ·exact (W.most a (memT ea)).resolve_left (tne ea eb (by lia))
   ·exact (W.most c (memB ec)).resolve_left (bne ec W.b0 (by lia))
 ·obtain ⟨a,ea⟩:=d0 (l:=B) (i:=i - (T.length - 1)) (by lia)
  obtain ⟨b,eb⟩:=d0 (l:=B) (i:=i - (T.length - 1)+1) (by lia)
  refine ⟨a,b,by rw[own i hi,ja W (by lia) (by lia)];exact ea,by rw[ja W (by lia) (by lia),show i+1 - (T.length - 1)=i - (T.length - 1)+1 by lia];exact eb,fun p hp=>bc ea eb p (hmem p hp),fun big=>?_⟩
  by_cases c2:i+2≤T.length - 1+(B.length - 1)
  ·obtain ⟨c,ec⟩:=d0 (l:=B) (i:=i - (T.length - 1)+2) (by lia)
   exact ⟨c,by rw[ja W (by lia) c2,show i+2 - (T.length - 1)=i - (T.length - 1)+2 by lia];exact ec,bt ea eb ec⟩
  ·have e:i - (T.length - 1)+1=B.length - 1:=by lia
   obtain ⟨c,ec⟩:=d0 (l:=T) (i:=1) (by lia)
   have emn:b=mn:=by have:=W.b1;rw[←e,eb] at this;exact Du this
   subst emn
   refine ⟨c,?_,m2 ea eb (by lia) W.t0 ec ?_ ?_ (by lia)⟩
   ·have:=dQ W (k:=1) (by lia)
    rw[show (i+2) % (T.dropLast++B.dropLast).length=1 % (T.dropLast++B.dropLast).length by rw[hn,show i+2=1+(T.length - 1+(B.length - 1)) by lia,Gd],this]
    exact ec
   ·exact (W.least a (memB ea)).resolve_left (bne ea eb (by lia))
   ·exact (W.least c (memT ec)).resolve_left (tne ec W.t0 (by lia))
def cd (n q:Int):Int:=-(-n / q)
structure Chd (n q:Int):Prop where
 q0:0≤q
 qn:q < n
 g:FG n q=1
def unc:List Int→Int×Int
 |[]=>(1,0)
 |b::l=>(b*(unc l).1 - (unc l).2,(unc l).1)
structure Lvl (a b:Pt) (g u v s t:Int):Prop where
 g0:0 < g
 e1:b.1 - a.1=g*u
 e2:b.2 - a.2=g*v
 st:s*u+t*v=1
def tx (a c:Pt) (s t:Int):Int:=s*(c.1 - a.1)+t*(c.2 - a.2)
def ty (a c:Pt) (u v:Int):Int:=u*(c.2 - a.2) - v*(c.1 - a.1)
def bk (a:Pt) (u v s t x y:Int):Pt:=(u*x - t*y+a.1,v*x+s*y+a.2)
theorem Lvl.area {a b:Pt}{g u v s t:Int} (L:Lvl a b g u v s t) (c:Pt):af a b c=g*ty a c u v:=by
 have:=L.e1
 have:=L.e2
 unfold af ty
 grind
theorem Lvl.d1 {a b:Pt}{g u v s t:Int} (L:Lvl a b g u v s t) (x y:Int):af a b (bk a u v s t x y)=g*y:=by
 have:=L.e1
 have:=L.e2
 have:=L.st
 unfold af bk
 dsimp only
 grind
theorem Lvl.back {a b:Pt}{g u v s t:Int} (L:Lvl a b g u v s t) (c:Pt):c.1=u*tx a c s t - t*ty a c u v+a.1∧c.2=v*tx a c s t+s*ty a c u v+a.2:=by
 have:=L.st
 unfold tx ty
 constructor <;>grind
theorem Lvl.d3 {a b:Pt}{g u v s t:Int} (L:Lvl a b g u v s t) (c:Pt) (x y:Int):af c a (bk a u v s t x y)=ty a c u v*x - tx a c s t*y:=by
 obtain ⟨k1,k2⟩:=L.back c
 have h:=L.st
 generalize tx a c s t=X at *
 generalize ty a c u v=Y at *
 unfold af bk
 dsimp only
 rw[k1,k2]
 grind
theorem Lvl.d2 {a b:Pt}{g u v s t:Int} (L:Lvl a b g u v s t) (c:Pt) (x y:Int):af b c (bk a u v s t x y)=(tx a c s t - g) *y - ty a c u v*(x - g):=by
 obtain ⟨k1,k2⟩:=L.back c
 have h:=L.st
 have m1:b.1=a.1+g*u:=by have:=L.e1;lia
 have m2:b.2=a.2+g*v:=by have:=L.e2;lia
 generalize tx a c s t=X at *
 generalize ty a c u v=Y at *
 unfold af bk
 dsimp only
 rw[k1,k2,m1,m2]
 grind
def wth (a b:Int) (p:Pt):Int:=a*p.1+b*p.2
theorem Ac {a b:Int}{u p v:Pt} (hb:b≤0) (h1:plt u p) (h2:plt p v) (h:af u p v≤0):wth a b p≤wth a b u∨wth a b p≤wth a b v:=by
 rcases DO (wth a b u) (wth a b p) with c1 |c1
 ·rcases DO (wth a b v) (wth a b p) with c2 |c2
  ·exfalso
   have e:(v.1 - p.1) *(wth a b p - wth a b u)+(p.1 - u.1) *(wth a b p - wth a b v)=-((-b) *(-(af u p v))):=by unfold wth af;grind
   have n1:0≤(-b) *(-(af u p v)):=Cs (by lia) (by lia)
   have d1:0≤p.1 - u.1:=by unfold plt at h1;lia
   have d2:0≤v.1 - p.1:=by unfold plt at h2;lia
   have m1:0≤(v.1 - p.1) *(wth a b p - wth a b u):=Cs d2 (by lia)
   have m2:0≤(p.1 - u.1) *(wth a b p - wth a b v):=Cs d1 (by lia)
   rcases DO 0 (p.1 - u.1) with d |d
   ·have:=DK d (show 0 < wth a b p - wth a b v by lia)
    lia
   ·have ex:u.1=p.1:=by lia
    have ey:u.2 < p.2:=by unfold plt at h1;lia
    have:0≤(-b) *(p.2 - u.2):=Cs (by lia) (by lia)
    have e2:wth a b p - wth a b u=-((-b) *(p.2 - u.2)):=by unfold wth;rw[ex];grind
    lia
  ·exact .inr c2
 ·exact .inl c1
theorem qK {row:List Pt} (hs:row.Pairwise plt) {a b:Int} (hb:b≤0) {p:Pt} (hp:p∈row):∃c∈ak row,wth a b p≤wth a b c:=by
 by_cases h:p∈ak row
 ·exact ⟨p,h,II _⟩
 ·obtain ⟨u,hu,v,hv,k1,k2,k3⟩:=gap hs hp h
  rcases Ac (a:=a) hb k1 k2 k3 with e |e
  ·exact ⟨u,hu,e⟩
  ·exact ⟨v,hv,e⟩
theorem AH (a b:Int) (p:Pt):wth (-a) (-b) (ng p)=wth a b p:=by unfold wth ng;grind
theorem w9 (a b:Int) (p:Pt):wth a b (ng p)=wth (-a) (-b) p:=by unfold wth ng;grind
theorem wS {row:List Pt} (hs:row.Pairwise plt) {a b:Int} (hb:0≤b) {p:Pt} (hp:p∈row):∃c∈ak row.reverse,wth a b p≤wth a b c:=by
 obtain ⟨c,hc,k⟩:=qK (cN hs) (a:=-a) (b:=-b) (by lia) (p:=ng p) (B8.mpr ⟨p,Cq.mpr hp,rfl⟩)
 refine ⟨ng c,by rw[bP];exact B8.mpr ⟨c,hc,rfl⟩,?_⟩
 rw[AH] at k
 rw[w9]
 exact k
theorem nG {pts:List Pt} (a b:Int) {p:Pt} (hp:p∈pts):∃c∈am pts,wth a b p≤wth a b c:=by
 have hp':p∈ST.srt pts:=(ST.srt_mem p pts).mpr hp
 by_cases h2:2≤(ST.srt pts).length
 ·have hs:=dG pts
  obtain ⟨mn,mx,t1,t2,e1,e2,m1,m2,_⟩:=ends hs h2
  have big:=fS h2
  rw[e1,e2] at big
  rcases Ib b 0 with hb |hb
  ·obtain ⟨c,hc,k⟩:=qK hs (a:=a) hb hp'
   refine ⟨c,?_,k⟩
   rw[big]
   rw[e1] at hc
   rcases Cd.mp hc with rfl |hc
   ·exact Cz _ (Cq.mpr m2)
   ·exact DC _ (Cq.mpr hc)
  ·obtain ⟨c,hc,k⟩:=wS hs (a:=a) hb hp'
   refine ⟨c,?_,k⟩
   rw[big]
   rw[e2] at hc
   rcases Cd.mp hc with rfl |hc
   ·exact DC _ (Cq.mpr m1)
   ·exact Cz _ (Cq.mpr hc)
 ·exact ⟨p,by rw[dU h2];exact hp',II _⟩
def hiL:List Int→Int
 |[]=>0
 |a::l=>l.foldl max a
theorem d_:∀(l:List Int) (a:Int),l.foldl max a∈a::l
 |[],a=>by simp
 |b::l,a=>by
  have:=d_ l (max a b)
  rw[ED]
  rcases Cd.mp this with e |e
  ·rw[e];rcases Ib a b with h |h
   ·rw[Int.max_eq_right h];simp
   ·rw[Int.max_eq_left h];simp
  ·exact B4 _ (B4 _ e)
theorem fj:∀(l:List Int) (a:Int),∀x∈a::l,x≤l.foldl max a
 |[],a,x,h=>by simp at h;rw[h];exact II _
 |b::l,a,x,h=>by
  have ih:=fj l (max a b)
  rw[ED]
  have h0:=ih (max a b) Ci
  rcases Cd.mp h with rfl |h
  ·lia
  ·rcases Cd.mp h with rfl |h
   ·lia
   ·exact ih x (B4 _ h)
def hiW (a b:Int) (l:List Pt):Int:=hiL (l.map (wth a b))
theorem uz {l:List Pt} (a b:Int) (h:l≠[]):(∃p∈l,wth a b p=hiW a b l)∧∀p∈l,wth a b p≤hiW a b l:=by
 cases l with
 |nil=>exact absurd rfl h
 |cons q l=>
  refine ⟨?_,fun p hp=>?_⟩
  ·have:=d_ (l.map (wth a b)) (wth a b q)
   rw[←CY] at this
   obtain ⟨p,hp,e⟩:=B8.mp this
   exact ⟨p,hp,e⟩
  ·exact fj (l.map (wth a b)) (wth a b q) _ (by rw[←CY];exact CV hp)
theorem kX {l:List P2} (h3:3≤(am l).length):2≤(ST.srt l).length:=by
 rcases D3 (ST.srt l).length 2 with h |h
 ·rw[dU (by lia)] at h3;lia
 ·exact h
theorem rq {l:List P2}{i:Nat} (h:i < l.length):(gp l i,gp l ((i+1) % l.length))∈sdl l:=B8.mpr ⟨i,Cr.mpr h,rfl⟩
theorem iS {l:List P2}{i:Nat}{a:P2} (h:l[i]?=some a):gp l i=a:=by simp[gp,h]
theorem uK {n i:Nat}:((i+1) % n+1) % n=(i+2) % n:=by rw[Jf]
theorem bA {l:List P2} (h3:3≤(am l).length) {s:P2×P2} (hs:s∈sdl (am l)):∀q∈l,0≤af s.1 s.2 q:=by
 obtain ⟨i,hi,rfl⟩:=B8.mp hs
 obtain ⟨a,b,e1,e2,cov,_⟩:=jT (kX h3) (Cr.mp hi)
 show ∀q∈l,0≤af (gp (am l) i) (gp (am l) ((i+1) % (am l).length)) q
 rw[iS e1,iS e2];exact cov
theorem dE {l:List P2} (h3:3≤(am l).length) {A B:P2} (hs:(A,B)∈sdl (am l)):∃C,(B,C)∈sdl (am l)∧0 < af A B C:=by
 obtain ⟨i,hi,e⟩:=B8.mp hs
 have hi':=Cr.mp hi
 obtain ⟨a,b,e1,e2,_,tu⟩:=jT (kX h3) hi'
 obtain ⟨c,e3,pos⟩:=tu (by lia)
 have ea:A=a:=by rw[←iS e1];exact (congrArg IJ e).symm
 have eb:B=b:=by rw[←iS e2];exact (congrArg Kc e).symm
 refine ⟨c,?_,by rw[ea,eb];exact pos⟩
 have:=rq (l:=am l) (i:=(i+1) % (am l).length) (EW _ (by lia))
 rw[uK,iS e2,iS e3] at this
 rw[eb];exact this
theorem AT {l:List P2}{A:P2} (h:A∈l):∃B,(A,B)∈sdl l:=by
 obtain ⟨i,hi⟩:=DI.mp h
 have hi':=(Cg.mp hi).1
 have:=rq hi'
 rw[iS hi] at this
 exact ⟨_,this⟩
theorem ox {l:List P2}{A:P2} (h:A∈l):∃Z,(Z,A)∈sdl l:=by
 obtain ⟨i,hi⟩:=DI.mp h
 have hi':=(Cg.mp hi).1
 have hj:(i+l.length - 1) % l.length < l.length:=EW _ (by lia)
 have:=rq hj
 have e:((i+l.length - 1) % l.length+1) % l.length=i:=by
  rw[Jf,show i+l.length - 1+1=i+l.length by lia,Gd,CK hi']
 rw[e,iS hi] at this
 exact ⟨_,this⟩
theorem ix {l:List P2} (hn:l.Nodup) {A B C:P2} (h1:(A,B)∈sdl l) (h2:(A,C)∈sdl l):B=C:=by
 obtain ⟨i,hi,e⟩:=B8.mp h1
 obtain ⟨j,hj,e'⟩:=B8.mp h2
 have hi':=Cr.mp hi
 have hj':=Cr.mp hj
 have ea:gp l i=gp l j:=(congrArg IJ e).trans (congrArg IJ e').symm
 have:i=j:=(Gc hi' hn).mp (by rw[dD hi',dD hj',ea])
 subst this
 exact (congrArg Kc e).symm.trans (congrArg Kc e')
theorem zW {u1 u2 v1 v2 w1 w2:Int} (hd:0 < u1*v2 - u2*v1) (h1:u1*w2 - u2*w1=0) (h2:v1*w2 - v2*w1=0):w1=0∧w2=0:=by
 have e1:(u1*v2 - u2*v1) *w1=0:=by
  have:(u1*v2 - u2*v1) *w1=v1*(u1*w2 - u2*w1) - u1*(v1*w2 - v2*w1):=by grind
  rw[this,h1,h2];simp
 have e2:(u1*v2 - u2*v1) *w2=0:=by
  have:(u1*v2 - u2*v1) *w2=v2*(u1*w2 - u2*w1) - u2*(v1*w2 - v2*w1):=by grind
  rw[this,h1,h2];simp
 refine ⟨?_,?_⟩
 ·rcases Dw.mp e1 with h |h
  ·lia
  ·exact h
 ·rcases Dw.mp e2 with h |h
  ·lia
  ·exact h
def uc (l:List P2) (p:P2):Prop:=p∈l∧∃a b:Int,∀q∈l,q≠p→wth a b q < wth a b p
theorem fM {l:List P2}{p:P2} (h:uc l p):p∈am l:=by
 obtain ⟨hp,a,b,k⟩:=h
 obtain ⟨c,hc,e⟩:=nG a b hp
 by_cases hcp:c=p
 ·rw[←hcp];exact hc
 ·have:=k c (aV _ c hc) hcp
  lia
theorem dj {l:List P2} (h3:3≤(am l).length) {p:P2} (hp:p∈am l):uc l p:=by
 obtain ⟨Z,hZ⟩:=ox hp
 obtain ⟨B,hB,pos⟩:=dE h3 hZ
 refine ⟨aV _ p hp,B.2 - Z.2,Z.1 - B.1,fun q hq hne=>?_⟩
 have c1:=bA h3 hZ q hq
 have c2:=bA h3 hB q hq
 dsimp only at c1 c2
 have e:wth (B.2 - Z.2) (Z.1 - B.1) q - wth (B.2 - Z.2) (Z.1 - B.1) p=-(af Z p q+af p B q):=by unfold wth af;grind
 rcases D7 (LN c1 c2) with h |h
 ·lia
 ·exfalso
  have z1:af Z p q=0:=by lia
  have z2:af p B q=0:=by lia
  have:=zW (u1:=p.1 - Z.1) (u2:=p.2 - Z.2) (v1:=B.1 - p.1) (v2:=B.2 - p.2) (w1:=q.1 - p.1) (w2:=q.2 - p.2) (by rw[←(show af Z p B=(p.1 - Z.1) *(B.2 - p.2) - (p.2 - Z.2) *(B.1 - p.1) by unfold af;grind)];exact pos) (by rw[←z1];unfold af;grind) (by rw[←z2];unfold af;grind)
  exact hne (Er (by lia) (by lia))
theorem zq {u1 u2 v1 v2 w1 w2:Int} (h:u1*w2 - u2*w1=0):(u1*v2 - u2*v1) *w1=(w1*v2 - w2*v1) *u1∧(u1*v2 - u2*v1) *w2=(w1*v2 - w2*v1) *u2:=by
 constructor
 ·have:(u1*v2 - u2*v1) *w1 - (w1*v2 - w2*v1) *u1=v1*(u1*w2 - u2*w1):=by grind
  rw[h] at this;simp at this;lia
 ·have:(u1*v2 - u2*v1) *w2 - (w1*v2 - w2*v1) *u2=v2*(u1*w2 - u2*w1):=by grind
  rw[h] at this;simp at this;lia
theorem im {l:List P2} (h3:3≤(am l).length) {A B:P2}:(A,B)∈sdl (am l)↔A∈am l∧B∈am l∧A≠B∧∀q∈am l,0≤af A B q:=by
 constructor
 ·intro h
  exact ⟨(bo h).1,(bo h).2,wI (be l) (by lia) _ h,fun q hq=>bA h3 h q (aV _ q hq)⟩
 ·rintro ⟨hA,hB,hne,cov⟩
  obtain ⟨C,hC⟩:=AT hA
  obtain ⟨Z,hZ⟩:=ox hA
  by_cases hBC:B=C
  ·rw[hBC];exact hC
  ·exfalso
   obtain ⟨D,hD,pD⟩:=dE h3 hC
   obtain ⟨C',hC',pC⟩:=dE h3 hZ
   have:C'=C:=ix (be l) hC' hC
   subst this
   have mC:=(bo hC).2
   have mD:=(bo hD).2
   have lB:=aV _ B hB
   have k1:=bA h3 hC B lB
   have k2:=cov C' mC
   have k3:=bA h3 hZ B lB
   have k4:=bA h3 hD B lB
   dsimp only at k1 k3 k4 mC mD
   have z:(C'.1 - A.1) *(B.2 - A.2) - (C'.2 - A.2) *(B.1 - A.1)=0:=by
    have e1:af A C' B=(C'.1 - A.1) *(B.2 - A.2) - (C'.2 - A.2) *(B.1 - A.1):=rfl
    have e2:af A B C'=-((C'.1 - A.1) *(B.2 - A.2) - (C'.2 - A.2) *(B.1 - A.1)):=by unfold af;grind
    omega
   obtain ⟨p1,p2⟩:=zq (v1:=Z.1 - A.1) (v2:=Z.2 - A.2) z
   have dpos:0 < (C'.1 - A.1) *(Z.2 - A.2) - (C'.2 - A.2) *(Z.1 - A.1):=by
    rw[←(show af Z A C'=(C'.1 - A.1) *(Z.2 - A.2) - (C'.2 - A.2) *(Z.1 - A.1) by unfold af;grind)];exact pC
   have spos:0≤(B.1 - A.1) *(Z.2 - A.2) - (B.2 - A.2) *(Z.1 - A.1):=by
    rw[←(show af Z A B=(B.1 - A.1) *(Z.2 - A.2) - (B.2 - A.2) *(Z.1 - A.1) by unfold af;grind)];exact k3
   generalize (C'.1 - A.1) *(Z.2 - A.2) - (C'.2 - A.2) *(Z.1 - A.1)=d at *
   generalize (B.1 - A.1) *(Z.2 - A.2) - (B.2 - A.2) *(Z.1 - A.1)=s at *
   have s0:s≠0:=fun e=>by
    rw[e,GA] at p1 p2
    have q1:=(Dw.mp p1).resolve_left (by lia)
    have q2:=(Dw.mp p2).resolve_left (by lia)
    exact hne (Er (by lia) (by lia))
   have s1:s≠d:=fun e=>by
    rw[e] at p1 p2
    have q1:=Dz (by lia) p1
    have q2:=Dz (by lia) p2
    exact hBC (Er (by lia) (by lia))
   have s2:s≤d:=by
    have e:d*af C' D B=(d - s) *af A C' D:=by
     have e1:d*af C' D B=(D.1 - C'.1) *(d*(B.2 - A.2) - d*(C'.2 - A.2)) - (D.2 - C'.2) *(d*(B.1 - A.1) - d*(C'.1 - A.1)):=by unfold af;grind
     rw[e1,p1,p2];unfold af;grind
    have:0≤d*af C' D B:=Cs (by lia) k4
    rcases DO d s with h |h
    ·have:0 < (s - d) *af A C' D:=DK (by lia) pD
     have e3:(d - s) *af A C' D=-((s - d) *af A C' D):=by grind
     lia
    ·exact h
   obtain ⟨_,a,b,top⟩:=dj h3 hB
   have t1:=top A (aV _ A hA) hne
   have t2:=top C' (aV _ C' mC) (fun e=>hBC e.symm)
   have w1:d*(wth a b B - wth a b A)=s*(wth a b C' - wth a b A):=by
    have e1:d*(wth a b B - wth a b A)=a*(d*(B.1 - A.1))+b*(d*(B.2 - A.2)):=by unfold wth;grind
    rw[e1,p1,p2];unfold wth;grind
   have g1:0 < d*(wth a b B - wth a b A):=DK (by lia) (by lia)
   have g2:0 < wth a b C' - wth a b A:=by
    rcases DO 0 (wth a b C' - wth a b A) with h |h
    ·exact h
    ·have:0≤s* -(wth a b C' - wth a b A):=Cs (by lia) (by lia)
     have e3:s*(wth a b C' - wth a b A)=-(s* -(wth a b C' - wth a b A)):=by grind
     lia
   have g3:0 < (d - s) *(wth a b C' - wth a b A):=DK (by lia) g2
   have w2:d*(wth a b B - wth a b C')=-((d - s) *(wth a b C' - wth a b A)):=by
    have:d*(wth a b B - wth a b C')=d*(wth a b B - wth a b A) - d*(wth a b C' - wth a b A):=by grind
    rw[this,w1];grind
   have g4:0 < d*(wth a b B - wth a b C'):=DK (by lia) (by lia)
   lia
structure Lin (f:P2→P2) (d:Int):Prop where
 one:d=1∨d=-1
 ex:∃a b c e:Int,a*e - b*c=d∧∀p,f p=(a*p.1+b*p.2,c*p.1+e*p.2)
theorem Lin.det {f:P2→P2}{d:Int} (L:Lin f d) (A B q:P2):af (f A) (f B) (f q)=d*af A B q:=by
 obtain ⟨a,b,c,e,h,k⟩:=L.ex
 rw[k,k,k,←h];unfold af;grind
theorem mK {f:P2→P2}{d:Int} (L:Lin f d) (x y:Int):∃x' y':Int,∀p,wth x' y' (f p)=wth x y p:=by
 obtain ⟨a,b,c,e,h,k⟩:=L.ex
 refine ⟨d*(x*e - y*c),d*(y*a - x*b),fun p=>?_⟩
 rw[k]
 have dd:d*d=1:=by rcases L.one with z |z <;>rw[z] <;>rfl
 have:wth (d*(x*e - y*c)) (d*(y*a - x*b)) (a*p.1+b*p.2,c*p.1+e*p.2)=d*(a*e - b*c) *wth x y p:=by unfold wth;grind
 rw[this,h,dd,HR]
theorem Lin.inj {f:P2→P2}{d:Int} (L:Lin f d) {p q:P2} (e:f p=f q):p=q:=by
 obtain ⟨x,y,h⟩:=mK L 1 0
 obtain ⟨x',y',h'⟩:=mK L 0 1
 have h1:wth 1 0 p=wth 1 0 q:=by rw[←h,←h,e]
 have h2:wth 0 1 p=wth 0 1 q:=by rw[←h',←h',e]
 unfold wth at h1 h2
 exact Er (by lia) (by lia)
theorem rd {f:P2→P2}{d:Int} (L:Lin f d) {l:List P2}{p:P2} (h:uc l p):uc (l.map f) (f p):=by
 obtain ⟨hp,a,b,k⟩:=h
 obtain ⟨x,y,e⟩:=mK L a b
 refine ⟨CV hp,x,y,fun q hq hne=>?_⟩
 obtain ⟨r,hr,rfl⟩:=B8.mp hq
 rw[e,e]
 exact k r hr fun z=>hne (by rw[z])
theorem vx {f:P2→P2}{d:Int} (L:Lin f d) {l:List P2}{p:P2} (hp:p∈l) (h:uc (l.map f) (f p)):uc l p:=by
 obtain ⟨_,a,b,k⟩:=h
 obtain ⟨u,v,w,z,_,kf⟩:=L.ex
 refine ⟨hp,a*u+b*w,a*v+b*z,fun q hq hne=>?_⟩
 have e:∀r:P2,wth (a*u+b*w) (a*v+b*z) r=wth a b (f r):=fun r=>by rw[kf];unfold wth;grind
 rw[e,e]
 exact k (f q) (CV hq) fun z=>hne (L.inj z)
theorem fY {f:P2→P2}{d:Int} (L:Lin f d) {l:List P2} (h3:3≤(am l).length):3≤(am (l.map f)).length:=by
 have nd:((am l).map f).Nodup:=Eg _ (fun a b (h:a≠b) e=>h (L.inj e)) (be l)
 have:=dH nd (m:=am (l.map f)) fun x hx=>by
  obtain ⟨p,hp,rfl⟩:=B8.mp hx
  exact fM (rd L (dj h3 hp))
 rw[B3] at this
 lia
theorem di {f:P2→P2}{d:Int} (L:Lin f d) {l:List P2} (h3:3≤(am l).length) (x:P2):x∈am (l.map f)↔∃p∈am l,f p=x:=by
 constructor
 ·intro h
  obtain ⟨p,hp,rfl⟩:=B8.mp (aV _ x h)
  exact ⟨p,fM (vx L hp (dj (fY L h3) h)),rfl⟩
 ·rintro ⟨p,hp,rfl⟩
  exact fM (rd L (dj h3 hp))
def sdf (f:P2→P2) (d:Int) (s:P2×P2):P2×P2:=if d=1 then (f s.1,f s.2) else (f s.2,f s.1)
theorem vI {f:P2→P2}{d:Int} (L:Lin f d) {l:List P2} (h3:3≤(am l).length) (t:P2×P2):t∈sdl (am (l.map f))↔∃s∈sdl (am l),sdf f d s=t:=by
 have h3':=fY L h3
 have sw:∀A B q:P2,af B A q=-af A B q:=fun A B q=>by unfold af;grind
 constructor
 ·intro h
  obtain ⟨x,y⟩:=t
  obtain ⟨hx,hy,ne,cov⟩:=(im h3').mp h
  obtain ⟨A,hA,rfl⟩:=(di L h3 x).mp hx
  obtain ⟨B,hB,rfl⟩:=(di L h3 y).mp hy
  have cv:∀q∈am l,0≤d*af A B q:=fun q hq=>by
   have:=cov (f q) ((di L h3 _).mpr ⟨q,hq,rfl⟩)
   rwa [L.det] at this
  rcases L.one with z |z
  ·refine ⟨(A,B),(im h3).mpr ⟨hA,hB,fun e=>ne (by rw[e]),fun q hq=>?_⟩,by unfold sdf;rw[if_pos z]⟩
   have:=cv q hq
   rw[z] at this;lia
  ·refine ⟨(B,A),(im h3).mpr ⟨hB,hA,fun e=>ne (by rw[e]),fun q hq=>?_⟩,by unfold sdf;rw[if_neg (by lia)]⟩
   have:=cv q hq
   rw[sw]
   rw[z] at this;lia
 ·rintro ⟨⟨A,B⟩,hs,rfl⟩
  obtain ⟨hA,hB,ne,cov⟩:=(im h3).mp hs
  have cv:∀q∈am (l.map f),0≤d*af (f A) (f B) q:=fun q hq=>by
   obtain ⟨p,hp,rfl⟩:=(di L h3 q).mp hq
   have:=cov p hp
   rw[L.det,←J_,show d*d=1 by rcases L.one with z |z <;>rw[z] <;>rfl]
   lia
  unfold sdf
  rcases L.one with z |z
  ·rw[if_pos z]
   refine (im h3').mpr ⟨(di L h3 _).mpr ⟨A,hA,rfl⟩,(di L h3 _).mpr ⟨B,hB,rfl⟩,fun e=>ne (L.inj e),fun q hq=>?_⟩
   have:=cv q hq
   dsimp only
   rw[z] at this;lia
  ·rw[if_neg (by lia)]
   refine (im h3').mpr ⟨(di L h3 _).mpr ⟨B,hB,rfl⟩,(di L h3 _).mpr ⟨A,hA,rfl⟩,fun e=>ne (L.inj e.symm),fun q hq=>?_⟩
   have:=cv q hq
   dsimp only
   rw[sw]
   rw[z] at this;lia
theorem zP {l:List P2} (hn:l.Nodup):(sdl l).Nodup:=by
 have h:((sdl l).map (·.1)).Nodup:=by rw[qF];exact hn
 exact (Df.mp h).imp fun {a b} k e=>k (by rw[e])
def ub (s:P2×P2):Int:=(s.2.1 - s.1.1) / gst s
def vb (s:P2×P2):Int:=(s.2.2 - s.1.2) / gst s
def onS (s:P2×P2) (k:Int):P2:=(s.1.1+k*ub s,s.1.2+k*vb s)
theorem fR (s:P2×P2):s.2.1 - s.1.1=gst s*ub s:=by
 unfold ub
 have h:gst s ∣ s.2.1 - s.1.1:=FJ ..
 rw[Ft h]
theorem fK (s:P2×P2):s.2.2 - s.1.2=gst s*vb s:=by
 unfold vb
 have h:gst s ∣ s.2.2 - s.1.2:=FA ..
 rw[Ft h]
theorem p4 {s:P2×P2} (h:s.1≠s.2):∃cs ct,Lvl s.1 s.2 (gst s) (ub s) (vb s) cs ct:=by
 have g0:=bV h
 obtain ⟨cs,ct,G⟩:=ki (s.2.1 - s.1.1) (s.2.2 - s.1.2)
 have Ge:cs*(s.2.1 - s.1.1)+ct*(s.2.2 - s.1.2)=gst s:=G.eq
 refine ⟨cs,ct,g0,fR s,fK s,?_⟩
 have e:gst s*(cs*ub s+ct*vb s)=gst s*1:=by
  rw[IA]
  have:gst s*(cs*ub s+ct*vb s)=cs*(gst s*ub s)+ct*(gst s*vb s):=by grind
  rw[this,←fR,←fK];exact Ge
 exact Dz (by lia) e
theorem i8 {s:P2×P2} (h:s.1≠s.2) {p:P2} (hp:af s.1 s.2 p=0):∃k,p=onS s k:=by
 obtain ⟨cs,ct,L⟩:=p4 h
 have z:ty s.1 p (ub s) (vb s)=0:=by
  rw[L.area] at hp
  exact (Dw.mp hp).resolve_left (by have:=L.g0;lia)
 obtain ⟨b1,b2⟩:=L.back p
 rw[z] at b1 b2
 refine ⟨tx s.1 p cs ct,Er ?_ ?_⟩
 ·show p.1=s.1.1+tx s.1 p cs ct*ub s
  grind
 ·show p.2=s.1.2+tx s.1 p cs ct*vb s
  grind
theorem dw (s:P2×P2) (k:Int) (X Y:P2):gst s*af X Y (onS s k)=(gst s - k) *af X Y s.1+k*af X Y s.2:=by
 have h1:=fR s
 have h2:=fK s
 have e1:s.2.1=s.1.1+gst s*ub s:=by lia
 have e2:s.2.2=s.1.2+gst s*vb s:=by lia
 unfold onS af
 dsimp only
 rw[e1,e2]
 grind
theorem kg {s:P2×P2} (h:s.1≠s.2) {j k:Int} (e:onS s j=onS s k):j=k:=by
 obtain ⟨cs,ct,L⟩:=p4 h
 have st:=L.st
 have e1:s.1.1+j*ub s=s.1.1+k*ub s:=congrArg IJ e
 have e2:s.1.2+j*vb s=s.1.2+k*vb s:=congrArg Kc e
 have a1:(j - k) *ub s=0:=by have:(j - k) *ub s=j*ub s - k*ub s:=by grind
                             omega
 have a2:(j - k) *vb s=0:=by have:(j - k) *vb s=j*vb s - k*vb s:=by grind
                             omega
 have:(j - k) *(cs*ub s+ct*vb s)=cs*((j - k) *ub s)+ct*((j - k) *vb s):=by grind
 rw[st,a1,a2] at this
 simp at this
 lia
theorem aB {a b:Int} (ha:0 < a) (h:0≤a*b):0≤b:=by
 rcases DO b 0 with z |z
 ·have:=DK ha (show 0 < -b by lia)
  have e:a* -b=-(a*b):=by grind
  lia
 ·exact z
def spt (s:P2×P2):List P2:=(Ds (gst s).toNat).map fun (k:Nat)=>onS s (k:Int)
def apt (l:List P2):List P2:=((sdl l).map spt).flatten
def bdr (l:List P2) (p:P2):Prop:=(∀s∈sdl l,0≤af s.1 s.2 p)∧∃s∈sdl l,af s.1 s.2 p=0
theorem yF (s:P2×P2):(spt s).length=(gst s).toNat:=by simp[spt]
theorem ii {s:P2×P2}{p:P2}:p∈spt s↔∃k:Int,0≤k∧k < gst s∧p=onS s k:=by
 unfold spt
 rw[B8]
 constructor
 ·rintro ⟨k,hk,rfl⟩
  have:=Cr.mp hk
  exact ⟨k,by lia,by lia,rfl⟩
 ·rintro ⟨k,h0,h1,rfl⟩
  exact ⟨k.toNat,Cr.mpr (by lia),by rw[show ((k.toNat:Nat):Int)=k by lia]⟩
theorem yl (l:List P2):((apt l).length:Int)=j8 l:=by
 unfold apt j8
 generalize sdl l=ss
 induction ss with
 |nil=>rfl
 |cons s r ih=>
  rw[CY,Kw,CW,CY,Kd,yF]
  have:=oR s
  lia
section
variable {l:List P2} (h3:3≤(am l).length)
include h3
theorem ck {s:P2×P2} (hs:s∈sdl (am l)):s.1≠s.2:=wI (be l) (by lia) s hs
theorem xH {p:P2} (h:bdr (am l) p):p∈apt (am l):=by
 obtain ⟨hall,s,hs,h0⟩:=h
 obtain ⟨k,rfl⟩:=i8 (ck h3 hs) h0
 have g0:=bV (ck h3 hs)
 obtain ⟨A,B⟩:=s
 obtain ⟨Z,hZ⟩:=ox (bo hs).1
 obtain ⟨B',hB',pZ⟩:=dE h3 hZ
 have:B'=B:=ix (be l) hB' hs
 subst this
 obtain ⟨C,hC,pC⟩:=dE h3 hs
 have k0:0≤k:=by
  have m:=dw (A,B') k Z A
  have z:af Z A A=0:=by unfold af;grind
  dsimp only at m
  rw[z,DN,KC] at m
  have:0≤gst (A,B') *af Z A (onS (A,B') k):=Cs (by lia) (hall _ hZ)
  rw[m,EU] at this
  exact aB pZ this
 have k1:k≤gst (A,B'):=by
  have m:=dw (A,B') k B' C
  have z:af B' C B'=0:=by unfold af;grind
  have z2:af B' C A=af A B' C:=by unfold af;grind
  dsimp only at m
  rw[z,DN,Fl,z2] at m
  have:0≤gst (A,B') *af B' C (onS (A,B') k):=Cs (by lia) (hall _ hC)
  rw[m,EU] at this
  have:=aB pC this
  lia
 unfold apt
 by_cases hk:k < gst (A,B')
 ·exact FK.mpr ⟨_,CV hs,ii.mpr ⟨k,k0,hk,rfl⟩⟩
 ·have e:onS (A,B') k=onS (B',C) 0:=by
   have:k=gst (A,B'):=by lia
   rw[this]
   have h1:=fR (A,B')
   have h2:=fK (A,B')
   dsimp only at h1 h2
   unfold onS
   dsimp only
   exact Er (by dsimp only;lia) (by dsimp only;lia)
  rw[e]
  exact FK.mpr ⟨_,CV hC,ii.mpr ⟨0,by lia,bV (ck h3 hC),rfl⟩⟩
theorem xV {p:P2} (h:p∈apt (am l)):bdr (am l) p:=by
 unfold apt at h
 obtain ⟨q,hq,hp⟩:=FK.mp h
 obtain ⟨s,hs,rfl⟩:=B8.mp hq
 obtain ⟨k,k0,k1,rfl⟩:=ii.mp hp
 have g0:=bV (ck h3 hs)
 refine ⟨fun t ht=>?_,s,hs,?_⟩
 ·have c1:=bA h3 ht s.1 (aV _ _ (bo hs).1)
  have c2:=bA h3 ht s.2 (aV _ _ (bo hs).2)
  have m:=dw s k t.1 t.2
  have a1:=Cs (show 0≤gst s - k by lia) c1
  have a2:=Cs k0 c2
  exact aB g0 (by lia)
 ·have m:=dw s k s.1 s.2
  have z1:af s.1 s.2 s.1=0:=by unfold af;grind
  have z2:af s.1 s.2 s.2=0:=by unfold af;grind
  rw[z1,z2,DN,DN,Fl] at m
  exact (Dw.mp m).resolve_left (by lia)
theorem wF {s:P2×P2} (hs:s∈sdl (am l)) {k:Int} (k0:0 < k) (k1:k < gst s):onS s k ∉ am l:=fun h=>by
 obtain ⟨_,a,b,top⟩:=dj h3 h
 have ne:=ck h3 hs
 have w:gst s*(wth a b (onS s k) - wth a b s.1)=k*(wth a b s.2 - wth a b s.1):=by
  have h1:=fR s
  have h2:=fK s
  have e:wth a b s.2 - wth a b s.1=a*(s.2.1 - s.1.1)+b*(s.2.2 - s.1.2):=by unfold wth;grind
  rw[e,h1,h2]
  unfold wth onS
  grind
 have n1:s.1≠onS s k:=fun e=>by
  have:onS s 0=onS s k:=by rw[←e];unfold onS;simp
  have:=kg ne this
  lia
 have n2:s.2≠onS s k:=fun e=>by
  have h1:=fR s
  have h2:=fK s
  have:onS s (gst s)=onS s k:=by rw[←e];unfold onS;exact Er (by dsimp only;lia) (by dsimp only;lia)
  have:=kg ne this
  lia
 have t1:=top s.1 (aV _ _ (bo hs).1) n1
 have t2:=top s.2 (aV _ _ (bo hs).2) n2
 have g1:0 < gst s*(wth a b (onS s k) - wth a b s.1):=DK (by lia) (by lia)
 have g2:0 < wth a b s.2 - wth a b s.1:=by
  rcases DO 0 (wth a b s.2 - wth a b s.1) with z |z
  ·exact z
  ·have:=Cs (show 0≤k by lia) (show 0≤-(wth a b s.2 - wth a b s.1) by lia)
   have e:k* -(wth a b s.2 - wth a b s.1)=-(k*(wth a b s.2 - wth a b s.1)):=by grind
   lia
 have g3:k*(wth a b s.2 - wth a b s.1) < gst s*(wth a b s.2 - wth a b s.1):=Int.mul_lt_mul_of_pos_right k1 g2
 have g4:gst s*(wth a b (onS s k) - wth a b s.1) < gst s*(wth a b s.2 - wth a b s.1):=by lia
 have:=Int.lt_of_mul_lt_mul_left g4 (by lia)
 lia
theorem oY {s:P2×P2} (hs:s∈sdl (am l)) {P:P2} (hP:P∈am l) (h0:af s.1 s.2 P=0):P=s.1∨P=s.2:=by
 have hb:bdr (am l) P:=⟨fun t ht=>bA h3 ht P (aV _ _ hP),s,hs,h0⟩
 obtain ⟨k,e⟩:=i8 (ck h3 hs) h0
 have ne:=ck h3 hs
 have g0:=bV ne
 obtain ⟨A,B⟩:=s
 obtain ⟨Z,hZ⟩:=ox (bo hs).1
 obtain ⟨B',hB',pZ⟩:=dE h3 hZ
 have:B'=B:=ix (be l) hB' hs
 subst this
 obtain ⟨C,hC,pC⟩:=dE h3 hs
 have k0:0≤k:=by
  have m:=dw (A,B') k Z A
  have z:af Z A A=0:=by unfold af;grind
  dsimp only at m
  rw[z,DN,KC,←e] at m
  have:0≤gst (A,B') *af Z A P:=Cs (by lia) (hb.1 _ hZ)
  rw[m,EU] at this
  exact aB pZ this
 have k1:k≤gst (A,B'):=by
  have m:=dw (A,B') k B' C
  have z:af B' C B'=0:=by unfold af;grind
  have z2:af B' C A=af A B' C:=by unfold af;grind
  dsimp only at m
  rw[z,DN,Fl,z2,←e] at m
  have:0≤gst (A,B') *af B' C P:=Cs (by lia) (hb.1 _ hC)
  rw[m,EU] at this
  have:=aB pC this
  lia
 rcases D7 k0 with z |z
 ·rcases D7 k1 with w |w
  ·exact absurd (e ▸ hP) (wF h3 hs z w)
  ·right
   rw[e,w]
   have h1:=fR (A,B')
   have h2:=fK (A,B')
   dsimp only at h1 h2
   unfold onS
   exact Er (by dsimp only;lia) (by dsimp only;lia)
 ·left
  rw[e,←z];unfold onS;simp
theorem apart {s t:P2×P2} (hs:s∈sdl (am l)) (ht:t∈sdl (am l)) (hst:s≠t):∀p∈spt s,∀q∈spt t,p≠q:=by
 intro p hp q hq e
 subst e
 obtain ⟨k,k0,k1,rfl⟩:=ii.mp hp
 obtain ⟨j,j0,j1,e⟩:=ii.mp hq
 have gs:=bV (ck h3 hs)
 have gt:=bV (ck h3 ht)
 have mA:=(bo hs).1
 have mB:=(bo hs).2
 have key:∀{s t:P2×P2},s∈sdl (am l)→t∈sdl (am l)→∀{k j:Int},0≤k→k < gst s→0≤j→j < gst t→onS s k=onS t j→af t.1 t.2 s.1=0∧(k=0∨af t.1 t.2 s.2=0):=fun {s t} hs ht {k j} k0 k1 j0 j1 e=>by
  have z:af t.1 t.2 (onS s k)=0:=by
   rw[e]
   have m:=dw t j t.1 t.2
   have z1:af t.1 t.2 t.1=0:=by unfold af;grind
   have z2:af t.1 t.2 t.2=0:=by unfold af;grind
   rw[z1,z2,DN,DN,Fl] at m
   have:=bV (ck h3 ht)
   exact (Dw.mp m).resolve_left (by lia)
  have m:=dw s k t.1 t.2
  rw[z,DN] at m
  have c1:=bA h3 ht s.1 (aV _ _ (bo hs).1)
  have c2:=bA h3 ht s.2 (aV _ _ (bo hs).2)
  have a1:=Cs (show 0≤gst s - k by lia) c1
  have a2:=Cs k0 c2
  have b1:(gst s - k) *af t.1 t.2 s.1=0:=by omega
  have b2:k*af t.1 t.2 s.2=0:=by lia
  exact ⟨(Dw.mp b1).resolve_left (by lia),Dw.mp b2⟩
 obtain ⟨x1,x2⟩:=key hs ht k0 k1 j0 j1 e
 obtain ⟨y1,y2⟩:=key ht hs j0 j1 k0 k1 e.symm
 have nd:=be l
 have o0:∀r:P2×P2,onS r 0=r.1:=fun r=>by unfold onS;simp
 rcases x2 with kz |xB
 ·subst kz
  rcases y2 with jz |yD
  ·subst jz
   rw[o0,o0] at e
   obtain ⟨A,B⟩:=s
   obtain ⟨C,D⟩:=t
   dsimp only at e
   subst e
   exact hst (by rw[ix nd hs ht])
  ·rw[o0] at e
   rcases D7 j0 with z |z
   ·exact wF h3 ht z j1 (by rw[←e];exact mA)
   ·rw[←z,o0] at e
    obtain ⟨A,B⟩:=s
    obtain ⟨C,D⟩:=t
    dsimp only at e
    subst e
    exact hst (by rw[ix nd hs ht])
 ·have eA:=oY h3 ht mA x1
  have eB:=oY h3 ht mB xB
  have ns:=ck h3 hs
  have nt:=ck h3 ht
  rcases eA with a |a
  ·obtain ⟨A,B⟩:=s
   obtain ⟨C,D⟩:=t
   dsimp only at a
   subst a
   exact hst (by rw[ix nd hs ht])
  ·rcases eB with b |b
   ·-- the side and the same turned round:a third corner lies at both hands
    obtain ⟨C,D⟩:=t
    obtain ⟨A,B⟩:=s
    dsimp only at a b
    subst a b
    obtain ⟨E,hE,pE⟩:=dE h3 hs
    have c:=bA h3 ht E (aV _ _ (bo hE).2)
    have:af B A E=-af A B E:=by unfold af;grind
    dsimp only at c
    lia
   ·exact ns (by rw[a,b])
theorem tK:(apt (am l)).Nodup:=by
 unfold apt
 refine Hr.mpr ⟨fun q hq=>?_,?_⟩
 ·obtain ⟨s,hs,rfl⟩:=B8.mp hq
  unfold spt
  refine Eg _ (fun a b (h:a≠b) e=>h ?_) Fe
  have:=kg (ck h3 hs) e
  lia
 ·refine Df.mpr ?_
  exact (zP (be l)).imp_of_mem fun {s t} hs ht h=>apart h3 hs ht h
end
theorem jb {A B p:P2} (h:ST.ltP A B=true):(af A B p=0∧ST.leP A p=true∧ST.leP p B=true)↔∃k:Int,0≤k∧k≤gst (A,B)∧p=onS (A,B) k:=by
 have hne:(A,B).1≠(A,B).2:=fun e=>by
  dsimp only at e
  subst e
  unfold ST.ltP at h
  simp at h
 have g0:=bV hne
 have h1:=fR (A,B)
 have h2:=fK (A,B)
 dsimp only at h1 h2
 unfold ST.ltP at h
 have h:=of_decide_eq_true h
 have lex:0 < ub (A,B)∨(ub (A,B)=0∧0 < vb (A,B)):=by
  rcases h with z |⟨z,w⟩
  ·left
   have:0 < gst (A,B) *ub (A,B):=by lia
   exact D8 this (by lia)
  ·right
   have e:gst (A,B) *ub (A,B)=0:=by lia
   have:0 < gst (A,B) *vb (A,B):=by lia
   exact ⟨(Dw.mp e).resolve_left (by lia),D8 this (by lia)⟩
 have sg:∀k:Int,(ST.leP A (onS (A,B) k)=true↔0≤k)∧(ST.leP (onS (A,B) k) B=true↔k≤gst (A,B)):=fun k=>by
  have r:∀m:Int,(0 < m*ub (A,B)∨(m*ub (A,B)=0∧0≤m*vb (A,B)))↔0≤m:=fun m=>by
   rcases lex with u |⟨u,v⟩
   ·constructor
    ·rintro (z |⟨z,_⟩)
     ·exact Hn (Int.pos_of_mul_pos_left z (by lia))
     ·rcases Dw.mp z with w |w <;>lia
    ·intro hm
     rcases D7 hm with z |z
     ·left;exact DK z u
     ·right;rw[←z];simp
   ·rw[u,DN]
    constructor
    ·rintro (z |⟨_,z⟩)
     ·lia
     ·rw[EU] at z;exact aB v z
    ·intro hm
     exact .inr ⟨rfl,Cs hm (by lia)⟩
  have e1:(gst (A,B) - k) *ub (A,B)=B.1 - (A.1+k*ub (A,B)):=by
   have:(gst (A,B) - k) *ub (A,B)=gst (A,B) *ub (A,B) - k*ub (A,B):=by grind
   lia
  have e2:(gst (A,B) - k) *vb (A,B)=B.2 - (A.2+k*vb (A,B)):=by
   have:(gst (A,B) - k) *vb (A,B)=gst (A,B) *vb (A,B) - k*vb (A,B):=by grind
   lia
  have r1:=r k
  have r2:=r (gst (A,B) - k)
  rw[e1,e2] at r2
  unfold ST.leP onS
  rw[decide_eq_true_eq,decide_eq_true_eq]
  dsimp only
  constructor
  ·rw[←r1];omega
  ·rw[show k≤gst (A,B)↔0≤gst (A,B) - k by lia,←r2];lia
 constructor
 ·rintro ⟨d,a,b⟩
  obtain ⟨k,rfl⟩:=i8 hne d
  exact ⟨k,(sg k).1.mp a,(sg k).2.mp b,rfl⟩
 ·rintro ⟨k,k0,k1,rfl⟩
  refine ⟨?_,(sg k).1.mpr k0,(sg k).2.mpr k1⟩
  have m:=dw (A,B) k A B
  have z1:af A B A=0:=by unfold af;grind
  have z2:af A B B=0:=by unfold af;grind
  dsimp only at m
  rw[z1,z2,DN,DN,Fl] at m
  exact (Dw.mp m).resolve_left (by lia)
end
section
variable {P:Cy}{w:World}{K:B2}{mg:Str→Option Value}{base:Heap}
theorem lQ {a b c e x y:Int} (h:a*e - b*c=1∨a*e - b*c=-1):FG (a*x+b*y) (c*x+e*y)=FG x y:=by
 apply Nat.dvd_antisymm
 ·have h1:((FG (a*x+b*y) (c*x+e*y):Nat):Int) ∣ a*x+b*y:=FJ ..
  have h2:((FG (a*x+b*y) (c*x+e*y):Nat):Int) ∣ c*x+e*y:=FA ..
  generalize FG (a*x+b*y) (c*x+e*y)=g at *
  have k1:(g:Int) ∣ (a*e - b*c) *x:=by
   have:(a*e - b*c) *x=e*(a*x+b*y) - b*(c*x+e*y):=by grind
   rw[this];exact HN (C6 h1 (Dg ..)) (C6 h2 (Dg ..))
  have k2:(g:Int) ∣ (a*e - b*c) *y:=by
   have:(a*e - b*c) *y=a*(c*x+e*y) - c*(a*x+b*y):=by grind
   rw[this];exact HN (C6 h2 (Dg ..)) (C6 h1 (Dg ..))
  have up:∀z:Int,(g:Int) ∣ (a*e - b*c) *z→(g:Int) ∣ z:=fun z k=>by
   rcases h with w |w <;>rw[w] at k
   ·rwa [HR] at k
   ·rw[Int.neg_one_mul] at k;exact HM.mp k
  exact Mi.mp (GU (up x k1) (up y k2))
 ·have h1:((FG x y:Nat):Int) ∣ x:=FJ ..
  have h2:((FG x y:Nat):Int) ∣ y:=FA ..
  exact Mi.mp (GU (FF (C6 h1 (Dg ..)) (C6 h2 (Dg ..))) (FF (C6 h1 (Dg ..)) (C6 h2 (Dg ..))))
theorem eN (A B:P2):gst (B,A)=gst (A,B):=by
 unfold gst
 dsimp only
 rw[show A.1 - B.1=-(B.1 - A.1) by lia,show A.2 - B.2=-(B.2 - A.2) by lia,Int.gcd_neg,Int.neg_gcd]
theorem yz {f:P2→P2}{d:Int} (L:Lin f d) (s:P2×P2):gst (sdf f d s)=gst s:=by
 obtain ⟨A,B⟩:=s
 have key:gst (f A,f B)=gst (A,B):=by
  obtain ⟨a,b,c,e,h,k⟩:=L.ex
  unfold gst
  rw[k,k]
  dsimp only
  rw[show a*B.1+b*B.2 - (a*A.1+b*A.2)=a*(B.1 - A.1)+b*(B.2 - A.2) by grind,show c*B.1+e*B.2 - (c*A.1+e*A.2)=c*(B.1 - A.1)+e*(B.2 - A.2) by grind]
  rw[lQ (by rw[h];exact L.one)]
 unfold sdf
 split
 ·exact key
 ·exact (eN _ _).trans key
def loT (X Y y:Int):Int:=-((-X*y) / Y)
def hiT (g X Y y:Int):Int:=g+((X - g) *y) / Y
def lnT (g X Y y:Int):Int:=hiT g X Y y - loT X Y y+1
theorem pI {g X Y y:Int} (hY:0 < Y) (hg:0≤g) (h1:y≤Y):0≤lnT g X Y y:=by
 unfold lnT hiT loT
 have a1:=Dr (-X*y) Y
 have a2:=DH (-X*y) hY
 have b1:=Dr ((X - g) *y) Y
 have b2:=DH ((X - g) *y) hY
 generalize -X*y / Y=p at *
 generalize (X - g) *y / Y=q at *
 have e:-X*y+(X - g) *y=-(g*y):=by grind
 have gy:g*y≤g*Y:=Hx h1 hg
 have k:-(Y*(g+q+p+1)) < Y:=by
  have:Y*(g+q+p+1)=g*Y+Y*q+Y*p+Y:=by grind
  lia
 rcases DO (g+q+p+1) 0 with z |z
 ·have:Y*1≤Y* -(g+q+p+1):=Hx (by lia) (by lia)
  have e2:Y* -(g+q+p+1)=-(Y*(g+q+p+1)):=by grind
  lia
 ·lia
def nL (A:P2) (g u v s t X Y:Int) (y:Nat):List P2:=(Ds (lnT g X Y y).toNat).map fun (k:Nat)=>bk A u v s t (loT X Y y+(k:Int)) y
def jL (A:P2) (g u v s t X Y:Int) (n:Nat):List P2:=((Ds n).map (nL A g u v s t X Y)).flatten
theorem tS (A:P2) (g u v s t X Y:Int) (n:Nat):jL A g u v s t X Y (n+1)=jL A g u v s t X Y n++nL A g u v s t X Y n:=by
 unfold jL
 rw[GW,Di,HS]
 simp
theorem oI {A:P2}{g u v s t X Y:Int} (hY:0 < Y) (hg:0≤g):∀n:Nat,(n:Int)≤Y+1→((jL A g u v s t X Y n).length:Int)=n*(g+1)+bQ n (X - g) 0 Y+bQ n (-X) 0 Y
 |0,_=>by simp[jL,bQ]
 |n+1,h=>by
  have ih:=oI (A:=A) (g:=g) (u:=u) (v:=v) (s:=s) (t:=t) (X:=X) hY hg n (by lia)
  have l0:=pI (g:=g) (X:=X) (y:=(n:Int)) hY hg (by lia)
  rw[tS,CW]
  have rl:((nL A g u v s t X Y n).length:Int)=lnT g X Y n:=by unfold nL;simp;lia
  have e1:bQ (n+1) (X - g) 0 Y=bQ n (X - g) 0 Y+((X - g) *(n:Int)+0) / Y:=rfl
  have e2:bQ (n+1) (-X) 0 Y=bQ n (-X) 0 Y+(-X*(n:Int)+0) / Y:=rfl
  rw[e1,e2,Fl,Fl]
  have e3:((n+1:Nat):Int) *(g+1)=(n:Int) *(g+1)+(g+1):=by
   rw[show ((n+1:Nat):Int)=(n:Int)+1 by lia];grind
  rw[e3]
  unfold lnT hiT loT at rl
  lia
theorem vY {A:P2}{g u v s t X Y g1 g2:Int} (hY:0 < Y) (hg:0≤g) (h1:g1=((FG X Y:Nat):Int)) (h2:g2=((FG (X - g) Y:Nat):Int)):2*((jL A g u v s t X Y (Y.toNat+1)).length:Int)=g*Y+g+g1+g2+2:=by
 rw[oI hY hg _ (by lia)]
 have eY:((Y.toNat:Nat):Int)=Y:=by lia
 have gp1:0 < g1:=by
  have:FG X Y≠0:=fun z=>by have:=(HQ.mp z).2;lia
  lia
 have gp2:0 < g2:=by
  have:FG (X - g) Y≠0:=fun z=>by have:=(HQ.mp z).2;lia
  lia
 have r1:=lq Y.toNat (-X) 0 g1 (by lia) gp1 (by rw[h1];exact HM.mpr (FJ ..)) (by rw[h1,eY];exact FA ..) (fun d d1 d2=>by rw[h1];rw[eY] at d2;exact GU (HM.mp d1) d2)
 have r2:=lq Y.toNat (X - g) 0 g2 (by lia) gp2 (by rw[h2];exact FJ ..) (by rw[h2,eY];exact FA ..) (fun d d1 d2=>by rw[h2];rw[eY] at d2;exact GU d1 d2)
 rw[eY] at r1 r2
 have s1:bQ (Y.toNat+1) (X - g) 0 Y=bQ Y.toNat (X - g) 0 Y+((X - g) *((Y.toNat:Nat):Int)+0) / Y:=rfl
 have s2:bQ (Y.toNat+1) (-X) 0 Y=bQ Y.toNat (-X) 0 Y+(-X*((Y.toNat:Nat):Int)+0) / Y:=rfl
 rw[eY,Fl,Int.mul_ediv_cancel _ (by lia)] at s1 s2
 rw[s1,s2,show ((Y.toNat+1:Nat):Int)=Y+1 by lia]
 have z1:g1*(0 / g1)=0:=by simp
 have z2:g2*(0 / g2)=0:=by simp
 rw[z1] at r1
 rw[z2] at r2
 have e:2*((Y+1) *(g+1)+(bQ Y.toNat (X - g) 0 Y+(X - g))+(bQ Y.toNat (-X) 0 Y+-X))=2*((Y+1) *(g+1))+2*bQ Y.toNat (X - g) 0 Y+2*bQ Y.toNat (-X) 0 Y - 2*g:=by grind
 rw[e,r1,r2]
 grind
def inT (A B C p:P2):Prop:=0≤af A B p∧0≤af B C p∧0≤af C A p
theorem lP {a x Y:Int} (hY:0 < Y):x≤a / Y↔x*Y≤a:=G6 hY
theorem zp {A B C:P2}{g u v s t:Int} (L:Lvl A B g u v s t) (hY:0 < ty A C u v) (p:P2):inT A B C p↔0≤ty A p u v∧loT (tx A C s t) (ty A C u v) (ty A p u v)≤tx A p s t∧tx A p s t≤hiT g (tx A C s t) (ty A C u v) (ty A p u v):=by
 have g0:=L.g0
 obtain ⟨b1,b2⟩:=L.back p
 have ep:p=bk A u v s t (tx A p s t) (ty A p u v):=Er b1 b2
 have d1:=L.d1 (tx A p s t) (ty A p u v)
 have d2:=L.d2 C (tx A p s t) (ty A p u v)
 have d3:=L.d3 C (tx A p s t) (ty A p u v)
 rw[←ep] at d1 d2 d3
 unfold inT
 rw[d1,d2,d3]
 generalize tx A p s t=x at *
 generalize ty A p u v=y at *
 generalize tx A C s t=X at *
 generalize ty A C u v=Y at *
 have c1:0≤g*y↔0≤y:=⟨fun h=>by
  rcases DO y 0 with z |z
  ·have:=DK g0 (show 0 < -y by lia)
   have e:g* -y=-(g*y):=by grind
   lia
  ·exact z,fun h=>Cs (by lia) h⟩
 have c2:loT X Y y≤x↔0≤Y*x - X*y:=by
  unfold loT
  rw[show (-((-X*y) / Y)≤x)↔(-x≤(-X*y) / Y) by lia,lP hY]
  have e:-x*Y=-(Y*x):=by grind
  have e2:-X*y=-(X*y):=by grind
  rw[e,e2];lia
 have c3:x≤hiT g X Y y↔0≤(X - g) *y - Y*(x - g):=by
  unfold hiT
  rw[show (x≤g+((X - g) *y) / Y)↔(x - g≤((X - g) *y) / Y) by lia,lP hY]
  have e:(x - g) *Y=Y*(x - g):=EU ..
  rw[e];lia
 rw[c1,c2,c3]
 constructor
 ·rintro ⟨a,b,c⟩;exact ⟨a,c,b⟩
 ·rintro ⟨a,b,c⟩;exact ⟨a,c,b⟩
theorem vm {A B:P2}{g u v s t:Int} (L:Lvl A B g u v s t) (x y:Int):tx A (bk A u v s t x y) s t=x∧ty A (bk A u v s t x y) u v=y:=by
 have:=L.st
 unfold tx ty bk
 dsimp only
 constructor <;>grind
theorem vN {A B C:P2}{g u v s t:Int} (L:Lvl A B g u v s t) (hY:0 < ty A C u v) (p:P2):p∈jL A g u v s t (tx A C s t) (ty A C u v) ((ty A C u v).toNat+1)↔inT A B C p:=by
 have g0:=L.g0
 rw[zp L hY]
 unfold jL
 rw[FK]
 constructor
 ·rintro ⟨r,hr,hp⟩
  obtain ⟨y,hy,rfl⟩:=B8.mp hr
  have hy':=Cr.mp hy
  unfold nL at hp
  obtain ⟨k,hk,rfl⟩:=B8.mp hp
  have hk':=Cr.mp hk
  obtain ⟨e1,e2⟩:=vm L (loT (tx A C s t) (ty A C u v) y+(k:Int)) y
  rw[e1,e2]
  unfold lnT at hk'
  lia
 ·rintro ⟨y0,lo,hi⟩
  obtain ⟨b1,b2⟩:=L.back p
  have ep:p=bk A u v s t (tx A p s t) (ty A p u v):=Er b1 b2
  have yY:ty A p u v≤ty A C u v:=by
   have h1:0≤ty A C u v*tx A p s t - tx A C s t*ty A p u v:=by
    unfold loT at lo
    rw[show (-((-tx A C s t*ty A p u v) / ty A C u v)≤tx A p s t)↔(-tx A p s t≤(-tx A C s t*ty A p u v) / ty A C u v) by lia,lP hY] at lo
    have e:-tx A p s t*ty A C u v=-(ty A C u v*tx A p s t):=by grind
    have e2:-tx A C s t*ty A p u v=-(tx A C s t*ty A p u v):=by grind
    rw[e,e2] at lo;lia
   have h2:0≤(tx A C s t - g) *ty A p u v - ty A C u v*(tx A p s t - g):=by
    unfold hiT at hi
    rw[show (tx A p s t≤g+((tx A C s t - g) *ty A p u v) / ty A C u v)↔(tx A p s t - g≤((tx A C s t - g) *ty A p u v) / ty A C u v) by lia,lP hY] at hi
    have e:(tx A p s t - g) *ty A C u v=ty A C u v*(tx A p s t - g):=EU ..
    rw[e] at hi;lia
   have h3:0≤g*(ty A C u v - ty A p u v):=by
    have:g*(ty A C u v - ty A p u v)=(ty A C u v*tx A p s t - tx A C s t*ty A p u v)+((tx A C s t - g) *ty A p u v - ty A C u v*(tx A p s t - g)):=by grind
    lia
   rcases DO (ty A C u v) (ty A p u v) with z |z
   ·have:=DK g0 (show 0 < -(ty A C u v - ty A p u v) by lia)
    have e:g* -(ty A C u v - ty A p u v)=-(g*(ty A C u v - ty A p u v)):=by grind
    lia
   ·exact z
  refine ⟨_,B8.mpr ⟨(ty A p u v).toNat,Cr.mpr (by lia),rfl⟩,?_⟩
  unfold nL
  have ey:(((ty A p u v).toNat:Nat):Int)=ty A p u v:=by lia
  rw[ey]
  refine B8.mpr ⟨(tx A p s t - loT (tx A C s t) (ty A C u v) (ty A p u v)).toNat,Cr.mpr (by unfold lnT;lia),?_⟩
  rw[show loT (tx A C s t) (ty A C u v) (ty A p u v)+(((tx A p s t - loT (tx A C s t) (ty A C u v) (ty A p u v)).toNat:Nat):Int)=tx A p s t by lia]
  exact ep.symm
theorem pQ {A B:P2}{g u v s t X Y:Int} (L:Lvl A B g u v s t) (n:Nat):(jL A g u v s t X Y n).Nodup:=by
 unfold jL
 have inj:∀{x y x' y':Int},bk A u v s t x y=bk A u v s t x' y'→x=x'∧y=y':=fun {x y x' y'} e=>by
  have h1:=vm L x y
  have h2:=vm L x' y'
  rw[e] at h1
  exact ⟨h1.1.symm.trans h2.1,h1.2.symm.trans h2.2⟩
 refine Hr.mpr ⟨fun q hq=>?_,?_⟩
 ·obtain ⟨y,hy,rfl⟩:=B8.mp hq
  unfold nL
  refine Eg _ (fun a b (h:a≠b) e=>h ?_) Fe
  have:=(inj e).1
  lia
 ·refine Df.mpr ?_
  refine Fe.imp fun {y z} h p hp q hq e=>h ?_
  unfold nL at hp hq
  obtain ⟨k,_,rfl⟩:=B8.mp hp
  obtain ⟨j,_,rfl⟩:=B8.mp hq
  have:=(inj e).2
  lia
theorem jx (A B C:P2):af B C A=af A B C:=by unfold af;grind
theorem oz {A B C:P2} (hD:0 < af A B C) {W:List P2} (hW:W.Nodup) (hin:∀p,inT A B C p→p∈W) (f:P2→Bool) (hf:∀p,f p=true↔inT A B C p):2*(((W.filter f).length:Nat):Int)=af A B C+gst (A,B)+gst (B,C)+gst (C,A)+2:=by
 have hne:(A,B).1≠(A,B).2:=fun e=>by
  dsimp only at e
  subst e
  have:af A A C=0:=by unfold af;grind
  lia
 obtain ⟨s,t,L⟩:=p4 hne
 dsimp only at L
 have g0:=L.g0
 have ar:=L.area C
 have hY:0 < ty A C (ub (A,B)) (vb (A,B)):=by
  rw[ar] at hD
  exact D8 hD (by lia)
 have st:=L.st
 have p:Lc (W.filter f) (jL A (gst (A,B)) (ub (A,B)) (vb (A,B)) s t (tx A C s t) (ty A C (ub (A,B)) (vb (A,B))) ((ty A C (ub (A,B)) (vb (A,B))).toNat+1)):=(EL (hW.filter _) (pQ L _)).mpr fun q=>by
  rw[vN L hY,CS,hf]
  exact ⟨fun h=>h.2,fun h=>⟨hin q h,h⟩⟩
 have e1:gst (C,A)=((FG (tx A C s t) (ty A C (ub (A,B)) (vb (A,B))):Nat):Int):=by
  rw[eN]
  unfold gst tx ty
  dsimp only
  rw[show ub (A,B) *(C.2 - A.2) - vb (A,B) *(C.1 - A.1)=-vb (A,B) *(C.1 - A.1)+ub (A,B) *(C.2 - A.2) by grind,lQ (.inl (by grind))]
 have e2:gst (B,C)=((FG (tx A C s t - gst (A,B)) (ty A C (ub (A,B)) (vb (A,B))):Nat):Int):=by
  have h1:=L.e1
  have h2:=L.e2
  have x:tx A C s t - gst (A,B)=s*(C.1 - B.1)+t*(C.2 - B.2):=by
   have:s*(B.1 - A.1)+t*(B.2 - A.2)=gst (A,B) *(s*ub (A,B)+t*vb (A,B)):=by rw[h1,h2];grind
   rw[st,IA] at this
   unfold tx
   grind
  have y:ty A C (ub (A,B)) (vb (A,B))=-vb (A,B) *(C.1 - B.1)+ub (A,B) *(C.2 - B.2):=by
   have:ub (A,B) *(B.2 - A.2) - vb (A,B) *(B.1 - A.1)=0:=by rw[h1,h2];grind
   unfold ty
   grind
  rw[x,y,lQ (.inl (by grind))]
  rfl
 have:=vY (A:=A) (u:=ub (A,B)) (v:=vb (A,B)) (s:=s) (t:=t) hY (by lia) e1 e2
 rw[p.length_eq,this,ar]
 lia
theorem jU {A B C q:P2} (hD:0 < af A B C) (h:inT A B C q) {X Y:P2} (hA:0≤af X Y A) (hB:0≤af X Y B) (hC:0≤af X Y C):0≤af X Y q:=by
 obtain ⟨h1,h2,h3⟩:=h
 have e:af A B C*af X Y q=af B C q*af X Y A+af C A q*af X Y B+af A B q*af X Y C:=by unfold af;grind
 have a1:=Cs h2 hA
 have a2:=Cs h3 hB
 have a3:=Cs h1 hC
 exact aB hD (by lia)
def chn:List P2→P2→Prop
 |b::c::r,q=>0≤af b c q∧chn (c::r) q
 |_,_=>True
def inF (a:P2) (ch:List P2) (q:P2):Prop:=(∀b,ch.head?=some b→0≤af a b q)∧chn ch q∧∀z,ch.getLast?=some z→0≤af z a q
structure Cvx (a:P2) (ch:List P2):Prop where
 tr:ch.Pairwise fun x y=>0 < af a x y
 sd:∀x,x=a∨x∈ch→chn ch x
theorem ic {b:P2}:∀{r:List P2}{q:P2},chn (b::r) q→chn r q
 |[],_,_=>trivial
 |_::_,_,h=>h.2
theorem Cvx.tail {a b:P2}{r:List P2} (h:Cvx a (b::r)):Cvx a r:=⟨(CH.mp h.tr).2,fun x hx=>ic (h.sd x (hx.imp id fun z=>B4 _ z))⟩
theorem mQ (a b c q:P2):inF a [b,c] q↔inT a b c q:=by
 unfold inF inT chn chn
 simp
theorem i6 {a b c d:P2}{r:List P2} (q:P2):inF a (b::c::d::r) q↔0≤af a b q∧0≤af b c q∧chn (c::d::r) q∧∀z,(c::d::r).getLast?=some z→0≤af z a q:=by
 unfold inF
 rw[Dd]
 constructor
 ·rintro ⟨h1,h2,h3⟩;exact ⟨h1 b rfl,h2.1,h2.2,h3⟩
 ·rintro ⟨h1,h2,h3,h4⟩;exact ⟨fun x hx=>by cases hx;exact h1,⟨h2,h3⟩,h4⟩
theorem oP {a:P2}:∀(ch:List P2),2≤ch.length→Cvx a ch→∀q,inF a ch q→∀X Y,(∀x,x=a∨x∈ch→0≤af X Y x)→0≤af X Y q
 |[b,c],_,K,q,h,X,Y,hx=>by
  have D:0 < af a b c:=(CH.mp K.tr).1 c (by simp)
  exact jU D ((mQ a b c q).mp h) (hx a (.inl rfl)) (hx b (.inr (by simp))) (hx c (.inr (by simp)))
 |b::c::d::r,_,K,q,h,X,Y,hx=>by
  have D:0 < af a b c:=(CH.mp K.tr).1 c (by simp)
  obtain ⟨h1,h2,h3,h4⟩:=(i6 q).mp h
  rcases Ib 0 (af a c q) with z |z
  ·exact oP (c::d::r) (by simp) K.tail q ⟨fun x hx=>by cases hx;exact z,h3,h4⟩ X Y fun x hx'=>hx x (hx'.imp id fun w=>B4 _ w)
  ·have e:af c a q=-af a c q:=by unfold af;grind
   exact jU D ⟨h1,h2,by lia⟩ (hx a (.inl rfl)) (hx b (.inr (by simp))) (hx c (.inr (by simp)))
 |[],h,_,_,_,_,_,_=>by simp at h
 |[_],h,_,_,_,_,_,_=>by simp at h
def nS (a:P2):List P2→Int
 |b::c::r=>af a b c+nS a (c::r)
 |_=>0
def km:List P2→Int
 |b::c::r=>gst (b,c)+km (c::r)
 |_=>0
theorem Bw {f g h k:P2→Bool}:∀W:List P2,(∀q∈W,(if f q=true then 1 else 0)+(if g q=true then 1 else 0)=(if h q=true then 1 else 0)+(if k q=true then (1:Int) else 0))→(((W.filter f).length:Nat):Int)+((W.filter g).length:Nat)=((W.filter h).length:Nat)+((W.filter k).length:Nat)
 |[],_=>rfl
 |q::W,hq=>by
  have ih:=Bw W fun p hp=>hq p (B4 _ hp)
  have h0:=hq q Ci
  simp only[KJ]
  split at h0 <;>split at h0 <;>split at h0 <;>split at h0 <;>simp_all <;>lia
theorem qG {A B C:P2} (hD:0 < af A B C) (q:P2):(inT A B C q∧af A C q=0)↔∃k:Int,0≤k∧k≤gst (A,C)∧q=onS (A,C) k:=by
 have hne:(A,C).1≠(A,C).2:=fun e=>by
  dsimp only at e
  subst e
  have:af A B A=0:=by unfold af;grind
  lia
 have g0:=bV hne
 have mixes:∀k:Int,gst (A,C) *af A B (onS (A,C) k)=k*af A B C∧gst (A,C) *af B C (onS (A,C) k)=(gst (A,C) - k) *af A B C∧af A C (onS (A,C) k)=0:=fun k=>by
  have m1:=dw (A,C) k A B
  have m2:=dw (A,C) k B C
  have m3:=dw (A,C) k A C
  dsimp only at m1 m2 m3
  have z1:af A B A=0:=by unfold af;grind
  have z2:af B C A=af A B C:=jx A B C
  have z3:af B C C=0:=by unfold af;grind
  have z4:af A C A=0:=by unfold af;grind
  have z5:af A C C=0:=by unfold af;grind
  rw[z1,DN,KC] at m1
  rw[z2,z3,DN,Fl] at m2
  rw[z4,z5,DN,DN,Fl] at m3
  exact ⟨m1,m2,(Dw.mp m3).resolve_left (by lia)⟩
 constructor
 ·rintro ⟨⟨h1,h2,_⟩,h0⟩
  obtain ⟨k,rfl⟩:=i8 hne h0
  obtain ⟨m1,m2,_⟩:=mixes k
  refine ⟨k,?_,?_,rfl⟩
  ·have:0≤af A B C*k:=by rw[EU,←m1];exact Cs (by lia) h1
   exact aB hD this
  ·have:0≤af A B C*(gst (A,C) - k):=by rw[EU,←m2];exact Cs (by lia) h2
   have:=aB hD this
   lia
 ·rintro ⟨k,k0,k1,rfl⟩
  obtain ⟨m1,m2,m3⟩:=mixes k
  refine ⟨⟨aB g0 ?_,aB g0 ?_,?_⟩,m3⟩
  ·rw[m1];exact Cs k0 (by lia)
  ·rw[m2];exact Cs (by lia) (by lia)
  ·have:af C A (onS (A,C) k)=-af A C (onS (A,C) k):=by unfold af;grind
   lia
open Classical in
theorem nF {a:P2}:∀(ch:List P2),2≤ch.length→Cvx a ch→∀{W:List P2},W.Nodup→(∀p,inF a ch p→p∈W)→∀b z,ch.head?=some b→ch.getLast?=some z→2*(((W.filter fun q=>decide (inF a ch q)).length:Nat):Int)=nS a ch+(gst (a,b)+km ch+gst (z,a))+2
 |[b,c],_,K,W,hW,hin,b',z',hb,hz=>by
  cases hb
  have hz':c=z':=by simpa using hz
  subst hz'
  have D:0 < af a b c:=(CH.mp K.tr).1 c (by simp)
  have:=oz D hW (fun p hp=>hin p ((mQ a b c p).mpr hp)) (fun q=>decide (inF a [b,c] q)) (fun p=>by rw[decide_eq_true_eq];exact mQ a b c p)
  rw[this]
  unfold nS nS km km
  lia
 |b::c::d::r,_,K,W,hW,hin,b',z',hb,hz=>by
  cases hb
  have D:0 < af a b c:=(CH.mp K.tr).1 c (by simp)
  rw[Dd] at hz
  have swp:∀q,af c a q=-af a c q:=fun q=>by unfold af;grind
  have tl:∀q,inF a (c::d::r) q→inF a (b::c::d::r) q:=fun q h=>by
   have hull:=oP (c::d::r) (by simp) K.tail q h
   refine (i6 q).mpr ⟨hull a b fun x hx=>?_,hull b c fun x hx=>?_,h.2.1,h.2.2⟩
   ·rcases hx with rfl |hx
    ·have:af x b x=0:=by unfold af;grind
     lia
    ·exact Hn ((CH.mp K.tr).1 x hx)
   ·exact (K.sd x (hx.imp id fun w=>B4 _ w)).1
  have tt:∀q,inT a b c q→inF a (b::c::d::r) q:=fun q h=>by
   have bary:∀X Y,0≤af X Y a→0≤af X Y b→0≤af X Y c→0≤af X Y q:=fun X Y h1 h2 h3=>jU D h h1 h2 h3
   have cov:∀(ch:List P2),chn ch a→chn ch b→chn ch c→chn ch q:=fun ch=>by
    induction ch with
    |nil=>intros;trivial
    |cons x r ih=>
     cases r with
     |nil=>intros;trivial
     |cons y r=>intro h1 h2 h3;exact ⟨bary x y h1.1 h2.1 h3.1,ih h1.2 h2.2 h3.2⟩
   refine (i6 q).mpr ⟨h.1,h.2.1,cov _ (ic (K.sd a (.inl rfl))) (ic (K.sd b (.inr (by simp)))) (ic (K.sd c (.inr (by simp)))),fun z hz=>?_⟩
   have mz:z∈c::d::r:=Fu hz
   refine bary z a ?_ ?_ ?_
   ·have:af z a a=0:=by unfold af;grind
    lia
   ·have e:af z a b=af a b z:=by unfold af;grind
    rw[e];exact Hn ((CH.mp K.tr).1 z mz)
   ·have e:af z a c=af a c z:=by unfold af;grind
    rw[e]
    rcases Cd.mp mz with w |w
    ·rw[w];have:af a c c=0:=by unfold af;grind
     lia
    ·exact Hn ((CH.mp K.tail.tr).1 z w)
  have part:∀q,inF a (b::c::d::r) q→(0≤af a c q→inF a (c::d::r) q)∧(af a c q≤0→inT a b c q):=fun q h=>by
   obtain ⟨h1,h2,h3,h4⟩:=(i6 q).mp h
   exact ⟨fun w=>⟨fun x hx=>by cases hx;exact w,h3,h4⟩,fun w=>⟨h1,h2,by rw[swp];lia⟩⟩
  have ih:=nF (c::d::r) (by simp) K.tail hW (fun p hp=>hin p (tl p hp)) c z' rfl hz
  have tp:=oz D hW (fun p hp=>hin p (tt p hp)) (fun q=>decide (inT a b c q)) (fun p=>by rw[decide_eq_true_eq])
  have sg:(((W.filter fun q=>decide (inT a b c q∧af a c q=0)).length:Nat):Int)=gst (a,c)+1:=by
   have hne:(a,c).1≠(a,c).2:=fun e=>by
    dsimp only at e
    subst e
    have:af a b a=0:=by unfold af;grind
    lia
   have g0:=bV hne
   have nd:((Ds ((gst (a,c)).toNat+1)).map fun (k:Nat)=>onS (a,c) (k:Int)).Nodup:=by
    refine Eg _ (fun x y (h:x≠y) e=>h ?_) Fe
    have:=kg hne e
    lia
   have p:Lc (W.filter fun q=>decide (inT a b c q∧af a c q=0)) ((Ds ((gst (a,c)).toNat+1)).map fun (k:Nat)=>onS (a,c) (k:Int)):=(EL (hW.filter _) nd).mpr fun p=>by
    rw[CS,decide_eq_true_eq,qG D]
    constructor
    ·rintro ⟨_,k,k0,k1,rfl⟩
     exact B8.mpr ⟨k.toNat,Cr.mpr (by lia),by rw[show ((k.toNat:Nat):Int)=k by lia]⟩
    ·intro hin'
     obtain ⟨k,hk,rfl⟩:=B8.mp hin'
     have hk':=Cr.mp hk
     have w:∃j:Int,0≤j∧j≤gst (a,c)∧onS (a,c) (k:Int)=onS (a,c) j:=⟨k,by lia,by lia,rfl⟩
     exact ⟨hin _ (tt _ ((qG D _).mpr w).1),w⟩
   rw[p.length_eq]
   simp only[B3,Io]
   lia
  have four:=Bw (f:=fun q=>decide (inF a (b::c::d::r) q)) (g:=fun q=>decide (inT a b c q∧af a c q=0)) (h:=fun q=>decide (inT a b c q)) (k:=fun q=>decide (inF a (c::d::r) q)) W (fun q _=>by
   simp only[decide_eq_true_eq]
   by_cases hP:inF a (b::c::d::r) q
   ·obtain ⟨p1,p2⟩:=part q hP
    rcases Int.lt_trichotomy (af a c q) 0 with w |w |w
    ·have hT:=p2 (by lia)
     have hN:¬ inF a (c::d::r) q:=fun z=>by have:=z.1 c rfl;lia
     rw[if_pos hP,if_neg (fun z=>by lia),if_pos hT,if_neg hN]
    ·rw[if_pos hP,if_pos ⟨p2 (by lia),w⟩,if_pos (p2 (by lia)),if_pos (p1 (by lia))]
    ·have hN:¬ inT a b c q:=fun z=>by have:=z.2.2;rw[swp] at this;lia
     rw[if_pos hP,if_neg (fun z=>hN z.1),if_neg hN,if_pos (p1 (by lia))]
     rfl
   ·rw[if_neg hP,if_neg (fun z=>hP (tt q z.1)),if_neg (fun z=>hP (tt q z)),if_neg (fun z=>hP (tl q z))])
  have ga:gst (c,a)=gst (a,c):=eN a c
  show 2*_=(af a b c+nS a (c::d::r))+(gst (a,b)+(gst (b,c)+km (c::d::r))+gst (z',a))+2
  lia
 |[],h,_,_,_,_,_,_,_,_=>by simp at h
 |[_],h,_,_,_,_,_,_,_,_=>by simp at h
theorem eV (l:List P2):sdl l=C_ l (l.drop 1++l.take 1):=by
 have h1:=qF l
 have h2:=xQ l
 have:sdl l=C_ ((sdl l).map (·.1)) ((sdl l).map (·.2)):=by
  generalize sdl l=s
  induction s with
  |nil=>rfl
  |cons x r ih=>simp only[CY,EF];rw[←ih]
 rw[h1,h2] at this
 exact this
theorem qD (q a:P2):∀(x:P2) (r:List P2),(∀s∈C_ (x::r) (r++[a]),0≤af s.1 s.2 q)↔chn (x::r) q∧∀z,(x::r).getLast?=some z→0≤af z a q
 |x,[]=>by
  constructor
  ·intro h
   exact ⟨trivial,fun z hz=>by cases hz;exact h (x,a) (by simp)⟩
  ·rintro ⟨_,h⟩ s hs
   simp at hs
   rw[hs];exact h x rfl
 |x,y::r=>by
  rw[IR,EF]
  have ih:=qD q a y r
  rw[Dd]
  constructor
  ·intro h
   have:=ih.mp fun s hs=>h s (B4 _ hs)
   exact ⟨⟨h (x,y) Ci,this.1⟩,this.2⟩
  ·rintro ⟨⟨h1,h2⟩,h3⟩ s hs
   rcases Cd.mp hs with e |e
   ·rw[e];exact h1
   ·exact ih.mpr ⟨h2,h3⟩ s e
theorem mH (a b:P2) (r:List P2) (q:P2):(∀s∈sdl (a::b::r),0≤af s.1 s.2 q)↔inF a (b::r) q:=by
 rw[eV]
 show (∀s∈C_ (a::b::r) ((b::r)++[a]),0≤af s.1 s.2 q)↔_
 rw[qD,Dd]
 unfold inF
 constructor
 ·rintro ⟨⟨h1,h2⟩,h3⟩;exact ⟨fun x hx=>by cases hx;exact h1,h2,h3⟩
 ·rintro ⟨h1,h2,h3⟩;exact ⟨⟨h1 b rfl,h2⟩,h3⟩
def pP:List P2→Int
 |b::c::r=>crs (b,c)+pP (c::r)
 |_=>0
theorem qr (a:P2):∀(x:P2) (r:List P2) (z:P2),(x::r).getLast?=some z→((C_ (x::r) (r++[a])).map gst).sum=km (x::r)+gst (z,a)
 |x,[],z,hz=>by cases hz;simp[km]
 |x,y::r,z,hz=>by
  rw[Dd] at hz
  rw[IR,EF,CY,Kd,qr a y r z hz]
  show _=gst (x,y)+km (y::r)+gst (z,a)
  lia
theorem qo (a:P2):∀(x:P2) (r:List P2) (z:P2),(x::r).getLast?=some z→((C_ (x::r) (r++[a])).map crs).sum=pP (x::r)+crs (z,a)
 |x,[],z,hz=>by cases hz;simp[pP]
 |x,y::r,z,hz=>by
  rw[Dd] at hz
  rw[IR,EF,CY,Kd,qo a y r z hz]
  show _=crs (x,y)+pP (y::r)+crs (z,a)
  lia
theorem qw (a:P2):∀(b:P2) (r:List P2) (z:P2),(b::r).getLast?=some z→nS a (b::r)=crs (a,b)+pP (b::r)+crs (z,a)
 |b,[],z,hz=>by
  cases hz
  show (0:Int)=crs (a,b)+0+crs (b,a)
  unfold crs;grind
 |b,c::r,z,hz=>by
  rw[Dd] at hz
  have ih:=qw a c r z hz
  show af a b c+nS a (c::r)=crs (a,b)+(crs (b,c)+pP (c::r))+crs (z,a)
  rw[ih]
  have e:af a b c=crs (a,b)+crs (b,c) - crs (a,c):=by unfold af crs;grind
  lia
theorem wv (a b:P2) (r:List P2) (z:P2) (hz:(b::r).getLast?=some z):nS a (b::r)=area (a::b::r)∧gst (a,b)+km (b::r)+gst (z,a)=j8 (a::b::r):=by
 have hz':(a::b::r).getLast?=some z:=by rw[Dd];exact hz
 constructor
 ·rw[qw a b r z hz]
  unfold area
  rw[eV]
  have:=qo a a (b::r) z hz'
  show _=((C_ (a::b::r) ((b::r)++[a])).map crs).sum
  rw[this]
  show _=crs (a,b)+pP (b::r)+crs (z,a)
  lia
 ·unfold j8
  rw[eV]
  have:=qr a a (b::r) z hz'
  show _=((C_ (a::b::r) ((b::r)++[a])).map gst).sum
  rw[this]
  show _=gst (a,b)+km (b::r)+gst (z,a)
  lia
def xM (a:P2):List P2→Prop
 |b::c::r=>0 < af a b c∧xM a (c::r)
 |_=>True
theorem uV (a u p q r:P2):af a u q*af a p r=af a u p*af a q r+af a u r*af a p q:=by unfold af;grind
theorem rQ {a u x:P2} (hx:0≤af a u x):∀(y:P2) (r:List P2),0 < af a x y→xM a (y::r)→(∀w∈y::r,0 < af a u w)→∀w∈y::r,0 < af a x w
 |y,[],h,_,_,w,hw=>by rw[Ct.mp hw];exact h
 |y,z::r,h,hc,hu,w,hw=>by
  rcases Cd.mp hw with e |e
  ·rw[e];exact h
  ·have hz:0 < af a x z:=by
    have f:=uV a u x y z
    have a1:=Cs hx (Hn hc.1)
    have a2:=DK (hu z (by simp)) h
    have:0 < af a u y*af a x z:=by lia
    exact D8 this (hu y (by simp))
   exact rQ hx z r hz hc.2 (fun v hv=>hu v (B4 _ hv)) w e
theorem iQ {a u:P2}:∀(ch:List P2),xM a ch→(∀w∈ch,0≤af a u w)→(∀w∈ch.tail,0 < af a u w)→ch.Pairwise fun x y=>0 < af a x y
 |[],_,_,_=>.nil
 |[_],_,_,_=>by simp
 |x::y::r,hc,h0,h1=>by
  refine CH.mpr ⟨rQ (h0 x (by simp)) y r hc.1 hc.2 h1,?_⟩
  exact iQ (y::r) hc.2 (fun w hw=>h0 w (B4 _ hw)) fun w hw=>h1 w (B4 _ hw)
theorem rP {a:P2}:∀(ch:List P2),(∀s∈C_ ch ch.tail,0 < af a s.1 s.2)→xM a ch
 |[],_=>trivial
 |[_],_=>trivial
 |x::y::r,h=>⟨h (x,y) (by simp),rP (y::r) fun s hs=>h s (by
   show s∈(x,y)::C_ (y::r) r
   exact B4 _ hs)⟩
theorem rO (a:P2):∀(ch:List P2),∀s∈C_ ch ch.tail,s∈C_ ch (ch.tail++[a])
 |[],s,h=>by simp at h
 |[x],s,h=>by simp at h
 |x::y::r,s,h=>by
  have h':s∈(x,y)::C_ (y::r) r:=h
  show s∈(x,y)::C_ (y::r) (r++[a])
  rcases Cd.mp h' with e |e
  ·rw[e];exact Ci
  ·exact B4 _ (rO a (y::r) s e)
theorem vn {l:List P2}{a b:P2}{r:List P2} (h3:3≤(am l).length) (e:am l=a::b::r):Cvx a (b::r):=by
 have nd:=be l
 have sides:∀s∈sdl (a::b::r),∀x∈a::b::r,0≤af s.1 s.2 x∧(x≠s.1→x≠s.2→0 < af s.1 s.2 x):=fun s hs x hx=>by
  rw[←e] at hs hx
  have c:=bA h3 hs x (aV _ x hx)
  refine ⟨c,fun n1 n2=>?_⟩
  rcases D7 c with z |z
  ·exact z
  ·rcases oY h3 hs hx z.symm with w |w
   ·exact absurd w n1
   ·exact absurd w n2
 rw[e] at nd
 have na:∀x∈b::r,a≠x:=(CH.mp nd).1
 have sab:(a,b)∈sdl (a::b::r):=by rw[eV];show (a,b)∈(a,b)::_;simp
 have sch:∀s∈C_ (b::r) r,s∈sdl (a::b::r):=fun s hs=>by
  rw[eV]
  show s∈(a,b)::C_ (b::r) (r++[a])
  exact B4 _ (rO a (b::r) s hs)
 have zm:∀s∈C_ (b::r) r,s.1∈b::r∧s.2∈b::r:=fun s hs=>⟨(GH hs).1,B4 _ (GH hs).2⟩
 refine ⟨iQ (u:=b) (b::r) (rP _ fun s hs=>?_) (fun w hw=>?_) (fun w hw=>?_),fun x hx=>?_⟩
 ·have m:=zm s hs
  have:=(sides s (sch s hs) a (by simp)).2 (na _ m.1) (na _ m.2)
  rwa [←jx s.1 s.2 a,←jx] at this
 ·exact (sides _ sab w (B4 _ hw)).1
 ·have hw':w∈r:=hw
  exact (sides _ sab w (by simp[hw'])).2 (fun z=>na w (B4 _ hw') z.symm) (fun z=>by
   have:=(CH.mp (CH.mp nd).2).1 w hw'
   exact this z.symm)
 ·have mx:x∈a::b::r:=by
   rcases hx with h |h
   ·rw[h];simp
   ·exact B4 _ h
  exact ((mH a b r x).mp fun s hs=>(sides s hs x mx).1).2.1
open Classical in
theorem BG {l:List P2} (h3:3≤(am l).length) {W:List P2} (hW:W.Nodup) (hin:∀p,(∀s∈sdl (am l),0≤af s.1 s.2 p)→p∈W):2*(((W.filter fun q=>decide (∀s∈sdl (am l),0≤af s.1 s.2 q)).length:Nat):Int)=area (am l)+j8 (am l)+2:=by
 match e:am l,h3 with
 |a::b::c::r,h3=>
  have K:=vn (by rw[e];exact h3) e
  obtain ⟨z,hz⟩:∃z,(b::c::r).getLast?=some z:=⟨_,List.getLast?_eq_some_getLast (by simp)⟩
  have f:=nF (b::c::r) (by simp) K hW (fun p hp=>hin p (by rw[e];exact (mH a b (c::r) p).mpr hp)) b z rfl hz
  obtain ⟨s1,s2⟩:=wv a b (c::r) z hz
  rw[s1,s2] at f
  rw[←f]
  congr 3
  refine Kx fun q _=>?_
  exact decide_eq_decide.mpr (mH a b (c::r) q)
theorem q_ {l:List P2}{k:Int}{i:Nat} (e:k=(i:Int)) (h:i < l.length):atI (l.map pu) k=some (pu (gp l i)):=ur e (by rw[Cb,dD h];rfl)
theorem Szp.mono {m n:Nat}{p:P2} (h:Szp m p) (le:m≤n):Szp n p:=⟨h.1.mono le,h.2.mono le⟩
def prv (l:List P2) (j:Nat):P2:=gp l ((j+l.length - 1) % l.length)
theorem zV {l:List P2}{j:Nat} (h:j < l.length):atI (l.map pu) ((0+(j:Int)) - 1)=some (pu (prv l j)):=by
 unfold prv
 by_cases h0:j=0
 ·subst h0
  rw[show (0+l.length - 1) % l.length=l.length - 1 from by rw[CK] <;>lia]
  exact qX h
 ·rw[show (j+l.length - 1) % l.length=j - 1 from by rw[show j+l.length - 1=(j - 1)+l.length by lia,Gd,CK (by lia)]]
  exact q_ (by lia) (by lia)
theorem xq {l:List P2}{j:Nat} (h:j < l.length):prv l j∈l:=fe (EW _ (by lia))
theorem vR {l:List P2}{j:Nat} (h:j < l.length):(prv l j,gp l j)∈sdl l:=by
 have hi:(j+l.length - 1) % l.length < l.length:=EW _ (by lia)
 refine B8.mpr ⟨(j+l.length - 1) % l.length,Cr.mpr hi,?_⟩
 unfold prv nxt
 congr 2
 by_cases h0:j=0
 ·subst h0
  rw[show (0+l.length - 1) % l.length=l.length - 1 from by rw[CK] <;>lia,show l.length - 1+1=l.length by lia,Hq]
 ·rw[show (j+l.length - 1) % l.length=j - 1 from by rw[show j+l.length - 1=(j - 1)+l.length by lia,Gd,CK (by lia)],show j - 1+1=j by lia,CK h]
theorem wm {l:List P2}{s:P2×P2} (hs:s∈sdl l):∃j,j < l.length∧s=(prv l j,gp l j):=by
 obtain ⟨i,hi,rfl⟩:=B8.mp hs
 have hi':=Cr.mp hi
 refine ⟨(i+1) % l.length,EW _ (by lia),?_⟩
 unfold prv nxt
 congr 2
 by_cases hk:i+1 < l.length
 ·rw[CK hk,show i+1+l.length - 1=i+l.length by lia,Gd,CK hi']
 ·rw[show i+1=l.length by lia,Hq,show 0+l.length - 1=i by lia,CK hi']
def pvl (l:List P2):List (P2×P2):=(Ds l.length).map fun j=>(prv l j,gp l j)
theorem fh {l:List P2} (s:P2×P2):s∈pvl l↔s∈sdl l:=by
 constructor
 ·intro h
  obtain ⟨j,hj,rfl⟩:=B8.mp h
  exact vR (Cr.mp hj)
 ·intro h
  obtain ⟨j,hj,rfl⟩:=wm h
  exact B8.mpr ⟨j,Cr.mpr hj,rfl⟩
theorem xT (Z P B q:P2) (a b:Int):af Z P B*(wth a b q - wth a b P)=-(af P B q*(wth a b P - wth a b Z)) - af Z P q*(wth a b P - wth a b B):=by unfold af wth;grind
theorem yy {l:List P2} (h3:3≤(am l).length) (a b:Int):∃Z P B,(Z,P)∈sdl (am l)∧(P,B)∈sdl (am l)∧0 < af Z P B∧wth a b P=hiW a b (am l)∧wth a b Z≤wth a b P∧wth a b B≤wth a b P:=by
 obtain ⟨⟨P,hP,e⟩,k⟩:=uz a b (l:=am l) (fun z=>by rw[z] at h3;simp at h3)
 obtain ⟨Z,hZ⟩:=ox hP
 obtain ⟨B,hB,pos⟩:=dE h3 hZ
 refine ⟨Z,P,B,hZ,hB,pos,e,?_,?_⟩
 ·rw[e];exact k Z (bo hZ).1
 ·rw[e];exact k B (bo hB).2
theorem BU {l:List P2} (h3:3≤(am l).length) (a b:Int) {q:P2} (hq:∀s∈sdl (am l),0≤af s.1 s.2 q):wth a b q≤hiW a b (am l):=by
 obtain ⟨Z,P,B,hZ,hB,pos,e,k1,k2⟩:=yy h3 a b
 rw[←e]
 have i1:0≤af P B q*(wth a b P - wth a b Z):=Cs (hq _ hB) (by lia)
 have i2:0≤af Z P q*(wth a b P - wth a b B):=Cs (hq _ hZ) (by lia)
 have pe:=xT Z P B q a b
 rcases DO (wth a b P) (wth a b q) with h |h
 ·have:=DK pos (show 0 < wth a b q - wth a b P by lia)
  lia
 ·exact h
def kt (l:List P2):Int:=if l.length < 3 then gst (gp l 0,gp l (l.length - 1))+1 else j8 l
def plc (l:List P2) (p:P2):Int:=if ∃s∈pvl l,af s.1 s.2 p < 0 then -1 else if ∃s∈pvl l,af s.1 s.2 p=0 then 0 else 1
def fJ (a:Int) (n:Nat):List Int:=(Ds n).map fun (i:Nat)=>a+(i:Int)
def gP (x:Int) (n:Nat) (y:Int) (m:Nat):List P2:=((fJ x n).map fun a=>(fJ y m).map fun b=>(a,b)).flatten
theorem eU {a:Int}{n:Nat}{x:Int}:x∈fJ a n↔a≤x∧x < a+n:=by
 unfold fJ
 rw[B8]
 constructor
 ·rintro ⟨i,hi,rfl⟩
  have:=Cr.mp hi
  lia
 ·rintro ⟨h1,h2⟩
  exact ⟨(x - a).toNat,Cr.mpr (by lia),by lia⟩
theorem ma (a:Int) (n:Nat):(fJ a n).Nodup:=by
 unfold fJ
 exact Eg _ (fun i j (h:i≠j) e=>h (by lia)) Fe
theorem nC {x y:Int}{n m:Nat}{p:P2}:p∈gP x n y m↔(x≤p.1∧p.1 < x+n)∧y≤p.2∧p.2 < y+m:=by
 unfold gP
 rw[FK]
 constructor
 ·rintro ⟨q,hq,hp⟩
  obtain ⟨a,ha,rfl⟩:=B8.mp hq
  obtain ⟨b,hb,rfl⟩:=B8.mp hp
  exact ⟨eU.mp ha,eU.mp hb⟩
 ·rintro ⟨h1,h2⟩
  exact ⟨_,B8.mpr ⟨p.1,eU.mpr h1,rfl⟩,B8.mpr ⟨p.2,eU.mpr h2,rfl⟩⟩
theorem je (x:Int) (n:Nat) (y:Int) (m:Nat):(gP x n y m).Nodup:=by
 unfold gP
 refine Hr.mpr ⟨fun q hq=>?_,?_⟩
 ·obtain ⟨a,_,rfl⟩:=B8.mp hq
  exact Eg _ (fun i j (h:i≠j) e=>h (congrArg Kc e)) (ma y m)
 ·refine Df.mpr ((ma x n).imp fun {a b} h p hp q hq e=>?_)
  obtain ⟨_,_,rfl⟩:=B8.mp hp
  obtain ⟨_,_,rfl⟩:=B8.mp hq
  exact h (congrArg IJ e)
def iW (l W:List P2) (w:Int):Int:=((W.filter fun p=>decide (plc l p=w)).length:Nat)
def loX (l:List P2):Int:=lW (l.map (·.1))
def hiX (l:List P2):Int:=hiL (l.map (·.1))
def loY (l:List P2):Int:=lW (l.map (·.2))
def hiY (l:List P2):Int:=hiL (l.map (·.2))
theorem b_ {l:List Int} (h:l≠[]):hiL l∈l∧∀a∈l,a≤hiL l:=by
 cases l with
 |nil=>exact absurd rfl h
 |cons a l=>exact ⟨d_ l a,fj l a⟩
def bxN (l:List P2):Nat:=(hiX l+1 - loX l).toNat
def byN (l:List P2):Nat:=(hiY l+1 - loY l).toNat
def box (l:List P2):List P2:=gP (loX l) (bxN l) (loY l) (byN l)
theorem fW {l:List P2} (hne:l≠[]) {p:P2}:p∈box l↔(loX l≤p.1∧p.1≤hiX l)∧loY l≤p.2∧p.2≤hiY l:=by
 unfold box bxN byN
 rw[nC]
 lia
theorem wW (l:List P2) (p:P2):plc l p=-1∨plc l p=0∨plc l p=1:=by
 unfold plc;split
 ·exact .inl rfl
 ·split
  ·exact .inr (.inl rfl)
  ·exact .inr (.inr rfl)
theorem jf {l:List P2}{p:P2}:plc l p=-1↔¬ ∀s∈sdl l,0≤af s.1 s.2 p:=by
 unfold plc
 constructor
 ·intro h hall
  split at h
  ·rename_i k
   obtain ⟨s,hs,h0⟩:=k
   have:=hall s ((fh s).mp hs)
   lia
  ·split at h <;>simp at h
 ·intro h
  rw[if_pos]
  rcases Mx (∃s∈pvl l,af s.1 s.2 p < 0) with k |k
  ·exact k
  ·exfalso
   refine h fun s hs=>?_
   rcases DO (af s.1 s.2 p) 0 with z |z
   ·exact absurd ⟨s,(fh s).mpr hs,z⟩ k
   ·exact z
theorem nP {l:List P2}{p:P2}:plc l p=0↔bdr l p:=by
 constructor
 ·intro h
  have hn:∀s∈sdl l,0≤af s.1 s.2 p:=by
   rcases Mx (∀s∈sdl l,0≤af s.1 s.2 p) with k |k
   ·exact k
   ·rw[jf.mpr k] at h;cases h
  refine ⟨hn,?_⟩
  unfold plc at h
  split at h
  ·cases h
  ·split at h
   ·rename_i k
    obtain ⟨s,hs,h0⟩:=k
    exact ⟨s,(fh s).mp hs,h0⟩
   ·cases h
 ·rintro ⟨h1,s,hs,h0⟩
  unfold plc
  rw[if_neg (fun ⟨t,ht,k⟩=>by have:=h1 t ((fh t).mp ht);lia),if_pos ⟨s,(fh s).mpr hs,h0⟩]
theorem dX {A B:List P2} (hA:A.Nodup) (hB:B.Nodup) (h:∀p,p∈A↔p∈B):A.length=B.length:=((EL hA hB).mpr h).length_eq
theorem cT {W:List P2} (h:W.Nodup) (f:P2→Bool):(W.filter f).Nodup:=JF f h
open Classical in
theorem kM (l W:List P2):iW l W 0+iW l W 1=((W.filter fun q=>decide (∀s∈sdl l,0≤af s.1 s.2 q)).length:Nat):=by
 unfold iW
 induction W with
 |nil=>rfl
 |cons p W ih=>
  have hv:=wW l p
  by_cases hn:plc l p=-1
  ·have h2:¬ ∀s∈sdl l,0≤af s.1 s.2 p:=jf.mp hn
   rw[DQ (by rw[hn];decide),DQ (by rw[hn];decide),DQ (by rw[decide_eq_false h2];decide)]
   exact ih
  ·have h2:∀s∈sdl l,0≤af s.1 s.2 p:=DX fun k=>hn (jf.mpr k)
   rcases hv with h |h |h
   ·exact absurd h hn
   ·rw[DR (by rw[h];decide),DQ (by rw[h];decide),DR (by rw[decide_eq_true h2])]
    simp only[Dt];lia
   ·rw[DQ (by rw[h];decide),DR (by rw[h];decide),DR (by rw[decide_eq_true h2])]
    simp only[Dt];lia
theorem ig {l:List P2} (h3:3≤(am l).length) {p:P2} (h:∀s∈sdl (am l),0≤af s.1 s.2 p):p∈box (am l):=by
 have hne:am l≠[]:=fun z=>by rw[z] at h3;simp at h3
 have key:∀a b:Int,∃q∈am l,wth a b p≤wth a b q:=fun a b=>by
  obtain ⟨⟨q,hq,e⟩,_⟩:=uz a b hne
  exact ⟨q,hq,by rw[e];exact BU h3 a b h⟩
 have hx:(am l).map (·.1)≠[]:=by simpa using hne
 have hy:(am l).map (·.2)≠[]:=by simpa using hne
 obtain ⟨q1,m1,k1⟩:=key 1 0
 obtain ⟨q2,m2,k2⟩:=key (-1) 0
 obtain ⟨q3,m3,k3⟩:=key 0 1
 obtain ⟨q4,m4,k4⟩:=key 0 (-1)
 have a1:=(b_ hx).2 q1.1 (CV m1)
 have a2:=(bL hx).2 q2.1 (CV m2)
 have a3:=(b_ hy).2 q3.2 (CV m3)
 have a4:=(bL hy).2 q4.2 (CV m4)
 unfold wth at k1 k2 k3 k4
 rw[fW hne]
 unfold loX hiX loY hiY
 lia
theorem Bq {l:List P2} (h3:3≤(am l).length):iW (am l) (box (am l)) 0+iW (am l) (box (am l)) 1=pin (am l)+kt (am l)∧iW (am l) (box (am l)) 1=pin (am l):=by
 have nd:=je (loX (am l)) (bxN (am l)) (loY (am l)) (byN (am l))
 have P:=BG h3 (W:=box (am l)) nd fun p hp=>ig h3 hp
 rw[←kM] at P
 have Z:iW (am l) (box (am l)) 0=j8 (am l):=by
  rw[←yl]
  unfold iW
  congr 1
  refine dX (cT nd _) (tK h3) fun p=>?_
  rw[CS,decide_eq_true_eq,nP]
  constructor
  ·rintro ⟨_,h⟩;exact xH h3 h
  ·intro h
   have b:=xV h3 h
   exact ⟨ig h3 b.1,b⟩
 have e1:kt (am l)=j8 (am l):=by unfold kt;rw[if_neg (by lia)]
 have e2:pin (am l)=(area (am l) - j8 (am l)+2) / 2:=by unfold pin;rw[if_neg (by lia)]
 rw[e1,e2]
 lia
theorem lN (A:P2):box [A]=[A]:=by
 have h:∀p,p∈box [A]↔p∈[A]:=fun p=>by
  rw[fW (by simp),Ct]
  unfold loX hiX loY hiY lW hiL
  simp only[CY,Mo,List.foldl_nil]
  constructor
  ·intro h;exact Er (by lia) (by lia)
  ·rintro rfl;lia
 have hp:=(EL (je _ _ _ _) (by simp:[A].Nodup)).mpr h
 exact List.perm_singleton.mp hp
theorem g6 {A B p:P2} (h:ST.ltP A B=true):(p∈box [A,B]∧af A B p=0)↔∃k:Int,0≤k∧k≤gst (A,B)∧p=onS (A,B) k:=by
 rw[←jb h,fW (by simp)]
 have lt:=h
 unfold ST.ltP at lt
 have lt:=of_decide_eq_true lt
 have e1:loX [A,B]=A.1:=by show min A.1 B.1=A.1;lia
 have e2:hiX [A,B]=B.1:=by show max A.1 B.1=B.1;lia
 have e3:loY [A,B]=min A.2 B.2:=rfl
 have e4:hiY [A,B]=max A.2 B.2:=rfl
 rw[e1,e2,e3,e4]
 unfold ST.leP
 rw[decide_eq_true_eq,decide_eq_true_eq]
 constructor
 ·rintro ⟨⟨⟨a1,a2⟩,b1,b2⟩,d⟩
  refine ⟨d,?_,?_⟩
  ·rcases D7 a1 with z |z
   ·exact .inl z
   ·right
    refine ⟨z,?_⟩
    rcases lt with w |⟨w,w'⟩
    ·unfold af at d
     rw[←z,KB,DN,KD] at d
     have:=(Dw.mp d).resolve_left (by lia)
     lia
    ·lia
  ·rcases D7 a2 with z |z
   ·exact .inl z
   ·right
    refine ⟨z,?_⟩
    rcases lt with w |⟨w,w'⟩
    ·have d':(B.1 - A.1) *(p.2 - B.2)=0:=by
      have:af A B p=(B.1 - A.1) *(p.2 - B.2):=by unfold af;rw[z];grind
      lia
     have:=(Dw.mp d').resolve_left (by lia)
     lia
    ·lia
 ·rintro ⟨d,a,b⟩
  refine ⟨⟨⟨by lia,by lia⟩,?_⟩,d⟩
  rcases lt with w |⟨w,w'⟩
  ·have hd:(B.1 - A.1) *(p.2 - A.2)=(B.2 - A.2) *(p.1 - A.1):=by unfold af at d;lia
   have hd':(B.1 - A.1) *(B.2 - p.2)=(B.2 - A.2) *(B.1 - p.1):=by grind
   rcases Ib A.2 B.2 with u |u
   ·have x1:=Cs (show 0≤B.2 - A.2 by lia) (show 0≤p.1 - A.1 by lia)
    have x2:=Cs (show 0≤B.2 - A.2 by lia) (show 0≤B.1 - p.1 by lia)
    rw[←hd] at x1
    rw[←hd'] at x2
    have y1:=aB (by lia) x1
    have y2:=aB (by lia) x2
    lia
   ·have x1:=Cs (show 0≤A.2 - B.2 by lia) (show 0≤p.1 - A.1 by lia)
    have x2:=Cs (show 0≤A.2 - B.2 by lia) (show 0≤B.1 - p.1 by lia)
    have f1:(A.2 - B.2) *(p.1 - A.1)=(B.1 - A.1) *(A.2 - p.2):=by grind
    have f2:(A.2 - B.2) *(B.1 - p.1)=(B.1 - A.1) *(p.2 - B.2):=by grind
    rw[f1] at x1
    rw[f2] at x2
    have y1:=aB (by lia) x1
    have y2:=aB (by lia) x2
    lia
  ·lia
theorem i7 (A B:P2):sdl [A,B]=[(A,B),(B,A)]:=by
 unfold sdl nxt
 simp[GW]
theorem mY {A B p:P2}:(plc [A,B] p=0↔af A B p=0)∧plc [A,B] p≠1:=by
 have sw:af B A p=-af A B p:=by unfold af;grind
 have z:plc [A,B] p=0↔af A B p=0:=by
  rw[nP]
  unfold bdr
  rw[i7]
  constructor
  ·rintro ⟨h,_⟩
   have h1:0≤af A B p:=h (A,B) (by simp)
   have h2:0≤af B A p:=h (B,A) (by simp)
   lia
  ·intro h
   refine ⟨fun s hs=>?_,(A,B),by simp,h⟩
   simp at hs
   rcases hs with rfl |rfl
   ·show 0≤af A B p;lia
   ·show 0≤af B A p;lia
 refine ⟨z,fun h=>?_⟩
 by_cases hd:af A B p=0
 ·rw[z.mpr hd] at h;cases h
 ·have:plc [A,B] p=-1:=by
   rw[jf,i7]
   intro k
   have h1:0≤af A B p:=k (A,B) (by simp)
   have h2:0≤af B A p:=k (B,A) (by simp)
   lia
  rw[this] at h;cases h
theorem A4 {A B:P2} (h:ST.ltP A B=true):iW [A,B] (box [A,B]) 0=gst (A,B)+1∧iW [A,B] (box [A,B]) 1=0:=by
 have hne:(A,B).1≠(A,B).2:=fun e=>by
  dsimp only at e
  subst e
  unfold ST.ltP at h
  simp at h
 have g0:=bV hne
 unfold iW
 constructor
 ·have e:((box [A,B]).filter fun p=>decide (plc [A,B] p=0)).length=((Ds ((gst (A,B)).toNat+1)).map fun (k:Nat)=>onS (A,B) (k:Int)).length:=by
   refine dX (cT (je _ _ _ _) _) ?_ fun p=>?_
   ·exact Eg _ (fun i j (h:i≠j) e=>h (by have:=kg hne e;lia)) Fe
   ·rw[CS,decide_eq_true_eq,mY.1,g6 h,B8]
    constructor
    ·rintro ⟨k,k0,k1,rfl⟩
     exact ⟨k.toNat,Cr.mpr (by lia),by rw[show ((k.toNat:Nat):Int)=k by lia]⟩
    ·rintro ⟨k,hk,rfl⟩
     have:=Cr.mp hk
     exact ⟨k,by lia,by lia,rfl⟩
  rw[e,B3,Io]
  lia
 ·have:(box [A,B]).filter (fun p=>decide (plc [A,B] p=1))=[]:=List.filter_eq_nil_iff.mpr fun p _=>by
   rw[decide_eq_true_eq];exact mY.2
  rw[this];rfl
theorem t9 {A B:P2} (h:am [A,B]=[A,B]):ST.ltP A B=true:=by
 have nd:[A,B].Nodup:=by rw[←h];exact be _
 have ne:A≠B:=by simpa using nd
 have asc:=ST.srt_asc [A,B]
 have hm:=fun z=>ST.srt_mem z [A,B]
 match e:ST.srt [A,B],asc,hm with
 |[],_,hm=>have:=(hm A).mpr (by simp);simp at this
 |[X],_,hm=>
  have a:=(hm A).mpr (by simp)
  have b:=(hm B).mpr (by simp)
  rw[Ct] at a b
  exact absurd (a.trans b.symm) ne
 |X::Y::[],asc,_=>
  have c:am [A,B]=[X,Y]:=by unfold am;rw[e];simp[ak,aW]
  rw[h] at c
  injection c with c1 c2
  injection c2 with c2 _
  subst c1 c2
  exact (CH.mp asc).1 _ (by simp)
 |X::Y::Z::r,_,_=>
  have:=ST.srt_len [A,B]
  rw[e] at this
  simp at this
def jR (l:List P2):Int:=pin l+kt l
def TP:List P2→Prop
 |[]=>True
 |a::v=>(v.Pairwise fun x y=>0 < af a x y)∧TP v
section
variable {l:List P2} (R:∀s∈sdl l,∀w∈l,w≠s.1→w≠s.2→0 < af s.1 s.2 w) (nd:l.Nodup)
include R nd
end
theorem ym (f:P2→P2) (l:List P2):sdl (l.map f)=(sdl l).map fun s=>(f s.1,f s.2):=by
 rw[eV,eV,←J2,←J0,←Di]
 generalize l.drop 1++l.take 1=m
 induction l generalizing m with
 |nil=>rfl
 |cons a l ih=>
  cases m with
  |nil=>simp
  |cons b m=>simp only[CY,EF];rw[ih]
theorem lF {a b:P2} (h:ST.ltP a b=true):am [a,b]=[a,b]:=by
 have e:ST.srt [a,b]=[a,b]:=ST.asc_srt (by simp[ST.Asc,h])
 unfold am
 rw[e]
 simp[ak,aW]
end
section
variable {P:Cy}{w:World}{K:B2}{mg:Str→Option Value}{base:Heap}
def cP (l:List P2) (p:P2):Bool:=if l.length=1 then decide (p=gp l 0) else if l.length=2 then (decide (af (gp l 0) (gp l 1) p=0) && (ST.leP (gp l 0) p && ST.leP p (gp l 1))) else (sdl l).all fun s=>decide (0≤af s.1 s.2 p)
theorem gK {l:List P2} (h3:3≤l.length) (p:P2):cP l p=true↔∀s∈sdl l,0≤af s.1 s.2 p:=by
 unfold cP
 rw[if_neg (by lia),if_neg (by lia),Hv]
 simp only[decide_eq_true_eq]
theorem mq (A B p:P2):cP [A,B] p=true↔af A B p=0∧ST.leP A p=true∧ST.leP p B=true:=by
 unfold cP
 rw[if_neg (by simp),if_pos (by simp),DL,DL,decide_eq_true_eq]
 rfl
theorem iy (A p:P2):cP [A] p=true↔p=A:=by
 unfold cP
 rw[if_pos (by simp),decide_eq_true_eq];rfl
section
variable {l:List P2} (h3:3≤(am l).length)
include h3
end
theorem w_ (A:P2):sdl [A]=[(A,A)]:=by
 unfold sdl nxt
 simp[GW]
theorem zB {A B:P2} (h:ST.ltP A B=true):A.1 < B.1∨(A.1=B.1∧A.2 < B.2):=by
 unfold ST.ltP at h
 exact of_decide_eq_true h
theorem vt {A B:P2} (h:ST.ltP A B=true):loX [A,B]=A.1∧hiX [A,B]=B.1∧loY [A,B]=min A.2 B.2∧hiY [A,B]=max A.2 B.2:=by
 have:=zB h
 exact ⟨(by show min A.1 B.1=A.1;lia),(by show max A.1 B.1=B.1;lia),rfl,rfl⟩
theorem xE {A B:P2} (h:ST.ltP A B=true) {p:P2} (hp:cP [A,B] p=true):p∈box [A,B]:=by
 have:=(mq A B p).mp hp
 exact ((g6 h).mpr ((jb h).mp this)).1
structure Fld (l:List P2):Prop where
 ne:l≠[]
 cr:am l=l
theorem Fld.cases {l:List P2} (F:Fld l):(∃A,l=[A])∨(∃A B,l=[A,B]∧ST.ltP A B=true)∨3≤(am l).length:=by
 match l,F with
 |[],F=>exact absurd rfl F.ne
 |[A],_=>exact .inl ⟨A,rfl⟩
 |[A,B],F=>exact .inr (.inl ⟨A,B,rfl,t9 F.cr⟩)
 |A::B::C::r,F=>exact .inr (.inr (by rw[F.cr];simp))
theorem Fld.in_box {l:List P2} (F:Fld l) {p:P2} (h:cP l p=true):p∈box l:=by
 rcases F.cases with ⟨A,rfl⟩ |⟨A,B,rfl,lt⟩ |h3
 ·rw[(iy A p).mp h,lN];simp
 ·exact xE lt h
 ·rw[←F.cr] at h ⊢
  exact ig h3 ((gK h3 p).mp h)
def shf (s a b:Int) (p:P2):P2:=(p.1+a,p.2+s*p.1+b)
theorem yB (s a b:Int) (p q:P2) (h:plt p q):plt (shf s a b p) (shf s a b q):=by
 unfold plt shf at *
 dsimp only
 rcases h with h |⟨h,k⟩
 ·left;lia
 ·right;rw[h];lia
theorem mf (s a b:Int) (p q r:P2):af (shf s a b p) (shf s a b q) (shf s a b r)=af p q r:=by unfold af shf;grind
theorem xy {s a b:Int}{p q:P2} (e:shf s a b p=shf s a b q):p=q:=by
 have e1:p.1+a=q.1+a:=congrArg IJ e
 have e2:p.2+s*p.1+b=q.2+s*q.1+b:=congrArg Kc e
 have e1:p.1=q.1:=by lia
 rw[e1] at e2
 exact Er e1 (by lia)
theorem nK (s a b:Int) (l:List P2):am (l.map (shf s a b))=(am l).map (shf s a b):=ut (yB s a b) (fun p q r=>by rw[mf]) l
theorem qk (s a b:Int) (p q:P2):ST.leP (shf s a b p) (shf s a b q)=ST.leP p q:=by
 unfold ST.leP shf
 dsimp only
 rw[Ek,decide_eq_true_eq,decide_eq_true_eq]
 constructor
 ·rintro (h |⟨h,k⟩)
  ·left;lia
  ·right
   have:p.1=q.1:=by lia
   rw[this] at k
   lia
 ·rintro (h |⟨h,k⟩)
  ·left;lia
  ·right;rw[h];lia
theorem pR {f:P2→P2}{l:List P2}{i:Nat} (h:i < l.length):gp (l.map f) i=f (gp l i):=by simp[gp,h]
theorem AD (s a b:Int) (l:List P2) (hne:l≠[]) (p:P2):cP (l.map (shf s a b)) (shf s a b p)=cP l p:=by
 have h0:0 < l.length:=EN.mpr hne
 unfold cP
 rw[B3]
 by_cases h1:l.length=1
 ·rw[if_pos h1,if_pos h1,pR h0]
  exact decide_eq_decide.mpr ⟨xy,fun e=>by rw[e]⟩
 ·rw[if_neg h1,if_neg h1]
  by_cases h2:l.length=2
  ·rw[if_pos h2,if_pos h2,pR h0,pR (show 1 < l.length by lia),mf,qk,qk]
  ·rw[if_neg h2,if_neg h2,ym,Mq]
   congr 1
   funext t
   show decide (0≤af (shf s a b t.1) (shf s a b t.2) (shf s a b p))=_
   rw[mf]
theorem tQ {pts:List P2} (hne:pts≠[]):∃mn mx,(am pts)[0]?=some mn∧mn∈pts∧mx∈pts∧(∀q∈pts,ST.ltP q mn=false)∧(∀q∈pts,ST.ltP mx q=false)∧(¬ 2 < (am pts).length→(am pts)[(am pts).length - 1]?=some mx):=by
 have no:∀{a b:P2},(a=b∨plt a b)→ST.ltP b a=false:=fun {a b} h=>by
  rw[ST.ltP_no]
  rcases h with rfl |h
  ·lia
  ·unfold plt at h;lia
 by_cases h2:2≤(ST.srt pts).length
 ·have hs:=dG pts
  obtain ⟨mn,mx,W⟩:=AS hs h2
  have hc:am pts=(ak (ST.srt pts)).reverse.dropLast++(ak (ST.srt pts).reverse).reverse.dropLast:=by
   unfold am;rw[if_neg (by lia)]
  have memT:mn∈ST.srt pts:=bJ _ _ (Cq.mp (Cu W.t0))
  have memX:mx∈ST.srt pts:=bJ _ _ (Cq.mp (Cu W.t1))
  refine ⟨mn,mx,?_,(ST.srt_mem _ _).mp memT,(ST.srt_mem _ _).mp memX,fun q hq=>no ((W.least q ((ST.srt_mem _ _).mpr hq)).imp (fun e=>e.symm) id),fun q hq=>no (W.most q ((ST.srt_mem _ _).mpr hq)),fun h=>?_⟩
  ·have:=dQ W (k:=0) (by lia)
   rw[Mw] at this
   rw[hc,this];exact W.t0
  ·rw[hc] at h ⊢
   have h1:=W.lt
   have h3:=W.lb
   have hn:((ak (ST.srt pts)).reverse.dropLast++(ak (ST.srt pts).reverse).reverse.dropLast).length=(ak (ST.srt pts)).reverse.length - 1+((ak (ST.srt pts).reverse).reverse.length - 1):=by simp
   have:=dQ W (k:=(ak (ST.srt pts)).reverse.length - 1) (B9 _)
   rw[W.t1,CK (by lia)] at this
   rw[←this];congr 1;lia
 ·have h1:(ST.srt pts).length=1:=by
   obtain ⟨x,hx⟩:=List.exists_mem_of_ne_nil pts hne
   have:=D4 ((ST.srt_mem x pts).mpr hx)
   lia
  obtain ⟨x,hx⟩:=IZ.mp h1
  have all:∀q∈pts,q=x:=fun q hq=>by have:=(ST.srt_mem q pts).mpr hq;rw[hx] at this;simpa using this
  have mx:x∈pts:=(ST.srt_mem _ _).mp (by rw[hx];simp)
  rw[dU h2,hx]
  exact ⟨x,x,rfl,mx,mx,fun q hq=>no (.inl (all q hq).symm),fun q hq=>no (.inl (all q hq)),fun _=>rfl⟩
theorem qm {f:P2→P2}{d:Int} (L:Lin f d) (A B:P2):gst (f A,f B)=gst (A,B):=by
 have:=yz L (A,B)
 unfold sdf at this
 split at this
 ·exact this
 ·rw[←eN];exact this
theorem vZ {f:P2→P2}{d:Int} (L:Lin f d) {A B:P2} (h:A≠B) (k:Int):onS (f A,f B) k=f (onS (A,B) k):=by
 have g0:0 < gst (A,B):=bV h
 have e1:=fR (A,B)
 have e2:=fK (A,B)
 have eg:=qm L A B
 obtain ⟨a,b,c,e,_,hf⟩:=L.ex
 have u1:ub (f A,f B)=a*ub (A,B)+b*vb (A,B):=by
  unfold ub
  rw[eg]
  dsimp only at *
  rw[hf,hf]
  dsimp only
  rw[show a*B.1+b*B.2 - (a*A.1+b*A.2)=gst (A,B) *(a*ub (A,B)+b*vb (A,B)) by
   have:a*B.1+b*B.2 - (a*A.1+b*A.2)=a*(B.1 - A.1)+b*(B.2 - A.2):=by grind
   rw[this,e1,e2];grind]
  rw[EA _ (by lia)]
  rfl
 have v1:vb (f A,f B)=c*ub (A,B)+e*vb (A,B):=by
  unfold vb
  rw[eg]
  dsimp only at *
  rw[hf,hf]
  dsimp only
  rw[show c*B.1+e*B.2 - (c*A.1+e*A.2)=gst (A,B) *(c*ub (A,B)+e*vb (A,B)) by
   have:c*B.1+e*B.2 - (c*A.1+e*A.2)=c*(B.1 - A.1)+e*(B.2 - A.2):=by grind
   rw[this,e1,e2];grind]
  rw[EA _ (by lia)]
  rfl
 unfold onS
 rw[u1,v1]
 dsimp only
 rw[hf,hf]
 dsimp only
 exact Er (by dsimp only;grind) (by dsimp only;grind)
theorem yo {A B:P2} (h:A≠B) (k:Int):onS (B,A) k=onS (A,B) (gst (A,B) - k):=by
 have e1:=fR (A,B)
 have e2:=fK (A,B)
 have e3:=fR (B,A)
 have e4:=fK (B,A)
 have g0:0 < gst (A,B):=bV h
 rw[eN] at e3 e4
 dsimp only at *
 have u:ub (B,A)=-ub (A,B):=Dz (a:=gst (A,B)) (by lia) (by rw[MG];lia)
 have v:vb (B,A)=-vb (A,B):=Dz (a:=gst (A,B)) (by lia) (by rw[MG];lia)
 unfold onS
 rw[u,v]
 dsimp only
 exact Er (by dsimp only;grind) (by dsimp only;grind)
def nN (A B p:P2):Prop:=∃k:Int,0≤k∧k≤gst (A,B)∧p=onS (A,B) k
theorem wJ {A B:P2} (h:A≠B) (p:P2):nN B A p↔nN A B p:=by
 have key:∀{A B:P2},A≠B→nN B A p→nN A B p:=fun {A B} h ⟨k,k0,k1,e⟩=>by
  rw[eN] at k1
  exact ⟨gst (A,B) - k,by lia,by lia,by rw[e,yo h]⟩
 exact ⟨key h,key h.symm⟩
theorem xP {f:P2→P2}{d:Int} (L:Lin f d) {A B:P2} (h:A≠B) (p:P2):nN (f A) (f B) (f p)↔nN A B p:=by
 unfold nN
 rw[qm L]
 constructor
 ·rintro ⟨k,k0,k1,e⟩
  exact ⟨k,k0,k1,L.inj (by rw[e,vZ L h])⟩
 ·rintro ⟨k,k0,k1,e⟩
  exact ⟨k,k0,k1,by rw[e,vZ L h]⟩
theorem lI {A B:P2} (h:ST.ltP A B=true) (p:P2):cP [A,B] p=true↔nN A B p:=by rw[mq,jb h];rfl
theorem jy {A B:P2} (h:A≠B):(ST.ltP A B=true∧am [A,B]=[A,B])∨(ST.ltP B A=true∧am [A,B]=[B,A]):=by
 by_cases hl:ST.ltP A B=true
 ·exact .inl ⟨hl,lF hl⟩
 ·have hb:=ST.ltP_tot h (by simpa using hl)
  refine .inr ⟨hb,?_⟩
  rw[pS (lc (m:=[B,A]) fun z=>by simp[or_comm]),lF hb]
theorem zR {f:P2→P2}{d:Int} (L:Lin f d) {l:List P2} (F:Fld l) (p:P2):cP (am (l.map f)) (f p)=cP l p:=by
 rw[Ek]
 rcases F.cases with ⟨A,rfl⟩ |⟨A,B,rfl,lt⟩ |h3
 ·have e:am ([A].map f)=[f A]:=rfl
  rw[e,iy,iy]
  exact ⟨fun h=>L.inj h,fun h=>by rw[h]⟩
 ·have ne:A≠B:=fun e=>by rw[e,ST.asc_irr] at lt;cases lt
  have ne':f A≠f B:=fun e=>ne (L.inj e)
  rw[lI lt,←xP L ne]
  show cP (am [f A,f B]) (f p)=true↔_
  rcases jy ne' with ⟨h,e⟩ |⟨h,e⟩
  ·rw[e,lI h]
  ·rw[e,lI h,wJ ne']
 ·have l3:=fY L h3
  have h3':3≤l.length:=by rw[←F.cr];exact h3
  rw[gK l3,gK h3']
  constructor
  ·intro h s hs
   have:=h _ ((vI L h3 _).mpr ⟨s,by rw[F.cr];exact hs,rfl⟩)
   unfold sdf at this
   rcases L.one with e |e
   ·rw[if_pos e] at this
    dsimp only at this
    rw[L.det,e,HR] at this
    exact this
   ·rw[if_neg (by lia)] at this
    dsimp only at this
    rw[L.det,e] at this
    have sw:af s.2 s.1 p=-af s.1 s.2 p:=by unfold af;grind
    lia
  ·intro h t ht
   obtain ⟨s,hs,rfl⟩:=(vI L h3 t).mp ht
   have k:=h s (by rw[F.cr] at hs;exact hs)
   unfold sdf
   rcases L.one with e |e
   ·rw[if_pos e]
    dsimp only
    rw[L.det,e,HR];exact k
   ·rw[if_neg (by lia)]
    dsimp only
    rw[L.det,e]
    have sw:af s.2 s.1 p=-af s.1 s.2 p:=by unfold af;grind
    lia
theorem uG {a b c d:Int} (h:a*d - b*c=1∨a*d - b*c=-1):Lin (fun p:P2=>(a*p.1+b*p.2,c*p.1+d*p.2)) (a*d - b*c):=⟨h,a,b,c,d,rfl,fun _=>rfl⟩
theorem n6 (a b c d e f:Int) (l:List P2):l.map (ap a b c d e f)=(l.map fun p:P2=>(a*p.1+b*p.2,c*p.1+d*p.2)).map (shf 0 e f):=by
 rw[Dj]
 refine List.map_congr_left fun p _=>?_
 unfold ap shf
 exact Er rfl (by dsimp only[Function.comp];lia)
theorem AK {a b c d:Int} (e f:Int) (h:a*d - b*c=1∨a*d - b*c=-1) {l:List P2} (F:Fld l) (p:P2):cP (am (l.map (ap a b c d e f))) (ap a b c d e f p)=cP l p:=by
 rw[n6,nK]
 have hp:ap a b c d e f p=shf 0 e f (a*p.1+b*p.2,c*p.1+d*p.2):=by
  unfold ap shf
  exact Er rfl (by dsimp only;lia)
 rw[hp,AD _ _ _ _ (ji (by simpa using F.ne))]
 exact zR (uG h) F p
theorem zn {a b c d:Int} (e f:Int) {l:List P2} (F:Fld l):Fld (am (l.map (ap a b c d e f))):=⟨ji (by simpa using F.ne),lu _⟩
def yf (l:List P2) (f:P2→Bool):Int:=(((box l).filter fun p=>cP l p && f p).length:Nat)
theorem jq (l:List P2):(box l).Nodup:=je _ _ _ _
theorem rF {l:List P2} (F:Fld l):jR l=yf l fun _=>true:=by
 unfold yf
 rcases F.cases with ⟨A,rfl⟩ |⟨A,B,rfl,lt⟩ |h3
 ·rw[lN,DR (by rw[(iy A A).mpr rfl];rfl)]
  unfold jR pin kt
  rw[if_pos (by simp),if_pos (by simp)]
  show 0+(gst (A,A)+1)=_
  unfold gst
  simp
 ·have w:=(A4 lt).1
  unfold iW at w
  have e:((box [A,B]).filter fun p=>decide (plc [A,B] p=0)).length=((box [A,B]).filter fun p=>cP [A,B] p && true).length:=by
   refine dX (cT (jq _) _) (cT (jq _) _) fun p=>?_
   rw[CS,decide_eq_true_eq,mY.1,g6 lt,CS,GK,lI lt]
   exact ⟨fun h=>⟨((g6 lt).mpr h).1,h⟩,fun h=>h.2⟩
  rw[←e,w]
  unfold jR pin kt
  rw[if_pos (by simp),if_pos (by simp)]
  show 0+(gst (A,B)+1)=_
  lia
 ·have w:=(Bq h3).1
  rw[kM] at w
  rw[F.cr] at w
  unfold jR
  rw[←w]
  congr 2
  refine Kx fun p _=>?_
  rw[GK,Ek,decide_eq_true_eq,gK (by rw[←F.cr];exact h3)]
def jF (s:P2×P2) (y:Int):Int:=(s.2.1 - s.1.1) *(y - s.1.2)
def wB (y:Int) (s:P2×P2):Int:=s.1.1+jF s y / (s.2.2 - s.1.2)
def uf (y:Int) (s:P2×P2):Int:=s.1.1 - jF s y / -(s.2.2 - s.1.2)
def cH (l:List P2) (ss:List (P2×P2)) (y:Int):List Int:=hiX l::(ss.filter fun s=>decide (0 < s.2.2 - s.1.2)).map (wB y)
def cO (l:List P2) (ss:List (P2×P2)) (y:Int):List Int:=loX l::(ss.filter fun s=>decide (s.2.2 - s.1.2 < 0)).map (uf y)
def kv (l:List P2) (y:Int):Int:=lW (cH l (sdl l) y)
def fu (l:List P2) (y:Int):Int:=hiL (cO l (sdl l) y)
theorem jh (s:P2×P2) (x y:Int):af s.1 s.2 (x,y)=jF s y - (s.2.2 - s.1.2) *(x - s.1.1):=by unfold af jF;grind
theorem qV {s:P2×P2}{x y:Int} (h:0 < s.2.2 - s.1.2):0≤af s.1 s.2 (x,y)↔x≤wB y s:=by
 rw[jh]
 unfold wB
 have k:x - s.1.1≤jF s y / (s.2.2 - s.1.2)↔(x - s.1.1) *(s.2.2 - s.1.2)≤jF s y:=G6 h
 rw[EU] at k
 lia
theorem rJ {s:P2×P2}{x y:Int} (h:s.2.2 - s.1.2 < 0):0≤af s.1 s.2 (x,y)↔uf y s≤x:=by
 rw[jh]
 unfold uf
 have k:s.1.1 - x≤jF s y / -(s.2.2 - s.1.2)↔(s.1.1 - x) * -(s.2.2 - s.1.2)≤jF s y:=G6 (by lia)
 have e:(s.1.1 - x) * -(s.2.2 - s.1.2)=(s.2.2 - s.1.2) *(x - s.1.1):=by grind
 rw[e] at k
 lia
theorem qM {l:List P2}{ss:List (P2×P2)}{x y:Int}:x≤lW (cH l ss y)↔x≤hiX l∧∀s∈ss,0 < s.2.2 - s.1.2→x≤wB y s:=by
 have ok:=bL (l:=cH l ss y) (by unfold cH;simp)
 constructor
 ·intro h
  refine ⟨Ju h (ok.2 _ (by unfold cH;simp)),fun s hs hr=>Ju h (ok.2 _ ?_)⟩
  unfold cH
  exact B4 _ (CV (CS.mpr ⟨hs,decide_eq_true hr⟩))
 ·rintro ⟨h1,h2⟩
  have m:=ok.1
  unfold cH at m
  rcases Cd.mp m with e |e
  ·unfold cH;rw[e];exact h1
  ·obtain ⟨s,hs,e2⟩:=B8.mp e
   obtain ⟨hs,hr⟩:=CS.mp hs
   unfold cH;rw[←e2];exact h2 s hs (of_decide_eq_true hr)
theorem rS {l:List P2}{ss:List (P2×P2)}{x y:Int}:hiL (cO l ss y)≤x↔loX l≤x∧∀s∈ss,s.2.2 - s.1.2 < 0→uf y s≤x:=by
 have ok:=b_ (l:=cO l ss y) (by unfold cO;simp)
 constructor
 ·intro h
  refine ⟨Ju (ok.2 _ (by unfold cO;simp)) h,fun s hs hr=>Ju (ok.2 _ ?_) h⟩
  unfold cO
  exact B4 _ (CV (CS.mpr ⟨hs,decide_eq_true hr⟩))
 ·rintro ⟨h1,h2⟩
  have m:=ok.1
  unfold cO at m
  rcases Cd.mp m with e |e
  ·unfold cO;rw[e];exact h1
  ·obtain ⟨s,hs,e2⟩:=B8.mp e
   obtain ⟨hs,hr⟩:=CS.mp hs
   unfold cO;rw[←e2];exact h2 s hs (of_decide_eq_true hr)
theorem ux {l:List P2} (hne:l≠[]):∃q∈l,q.2=loY l:=by
 obtain ⟨q,hq,e⟩:=B8.mp (bL (l:=l.map (·.2)) (by simpa using hne)).1
 exact ⟨q,hq,e⟩
theorem uR {l:List P2} (hne:l≠[]):∃q∈l,q.2=hiY l:=by
 obtain ⟨q,hq,e⟩:=B8.mp (b_ (l:=l.map (·.2)) (by simpa using hne)).1
 exact ⟨q,hq,e⟩
theorem uH {l:List P2} (F:Fld l) (h3:3≤l.length) {x y:Int} (y0:loY l≤y) (y1:y≤hiY l):cP l (x,y)=true↔fu l y≤x∧x≤kv l y:=by
 have hc:=F.cr
 have c3:3≤(am l).length:=by rw[hc];exact h3
 unfold fu kv
 rw[qM,rS]
 constructor
 ·intro h
  have d:=(gK h3 _).mp h
  have b:=(fW F.ne).mp (F.in_box h)
  exact ⟨⟨b.1.1,fun s hs hr=>(rJ hr).mp (d s hs)⟩,b.1.2,fun s hs hr=>(qV hr).mp (d s hs)⟩
 ·rintro ⟨⟨_,hb⟩,_,he⟩
  refine (gK h3 _).mpr fun s hs=>?_
  rcases DO 0 (s.2.2 - s.1.2) with z |z
  ·exact (qV z).mpr (he s hs z)
  ·rcases DO (s.2.2 - s.1.2) 0 with w |w
   ·exact (rJ w).mpr (hb s hs w)
   ·have e0:s.2.2 - s.1.2=0:=by lia
    have cov:∀q∈l,0≤(s.2.1 - s.1.1) *(q.2 - s.1.2):=fun q hq=>by
     have k:=bA c3 (by rw[hc];exact hs) q hq
     have:=jh s q.1 q.2
     rw[e0,GA,KD] at this
     rw[←show jF s q.2=(s.2.1 - s.1.1) *(q.2 - s.1.2) from rfl,←this]
     exact k
    rw[jh,e0,GA,KD]
    show 0≤(s.2.1 - s.1.1) *(y - s.1.2)
    rcases DO 0 (s.2.1 - s.1.1) with u |u
    ·obtain ⟨q,hq,eq⟩:=ux F.ne
     have k:=EV (cov q hq) u
     exact Cs (by lia) (by lia)
    ·rcases DO (s.2.1 - s.1.1) 0 with v |v
     ·obtain ⟨q,hq,eq⟩:=uR F.ne
      have c:=cov q hq
      have e2:(s.2.1 - s.1.1) *(q.2 - s.1.2)=(-(s.2.1 - s.1.1)) *(s.1.2 - q.2):=by grind
      rw[e2] at c
      have k:=EV c (by lia)
      have e3:(s.2.1 - s.1.1) *(y - s.1.2)=(-(s.2.1 - s.1.1)) *(s.1.2 - y):=by grind
      rw[e3]
      exact Cs (by lia) (by lia)
     ·rw[show s.2.1 - s.1.1=0 by lia,GA];exact II _
theorem mt {a b:P2}:ST.leP a b=true↔a.1 < b.1∨(a.1=b.1∧a.2≤b.2):=by unfold ST.leP;exact decide_eq_true_iff
theorem we {A B:P2} (lt:ST.ltP A B=true) (h:A.2=B.2) {x y:Int} (hy:y=A.2):cP [A,B] (x,y)=true↔fu [A,B] y≤x∧x≤kv [A,B] y:=by
 obtain ⟨b1,b2,_,_⟩:=vt lt
 unfold fu kv
 rw[qM,rS,mq,i7,b1,b2]
 have hl:=zB lt
 constructor
 ·rintro ⟨_,h1,h2⟩
  rw[mt] at h1 h2
  dsimp only at h1 h2
  refine ⟨⟨by lia,fun s hs hr=>?_⟩,by lia,fun s hs hr=>?_⟩
  ·simp at hs;rcases hs with rfl |rfl <;>dsimp only at hr <;>lia
  ·simp at hs;rcases hs with rfl |rfl <;>dsimp only at hr <;>lia
 ·rintro ⟨⟨h1,_⟩,h2,_⟩
  rw[mt,mt]
  dsimp only
  refine ⟨?_,by lia,by lia⟩
  unfold af
  rw[hy,←h]
  grind
def jV (l:List P2) (y:Int):List P2:=(fJ (fu l y) (kv l y+1 - fu l y).toNat).map fun x=>(x,y)
def dW (l:List P2) (n:Nat):List P2:=((Ds n).map fun y:Nat=>jV l (0+(y:Int))).flatten
theorem eJ {l:List P2}{y:Int}{p:P2}:p∈jV l y↔p.2=y∧fu l y≤p.1∧p.1≤kv l y:=by
 unfold jV
 rw[B8]
 constructor
 ·rintro ⟨x,hx,rfl⟩
  have:=eU.mp hx
  exact ⟨rfl,by lia,by lia⟩
 ·rintro ⟨e,h1,h2⟩
  exact ⟨p.1,eU.mpr ⟨h1,by lia⟩,by rw[←e]⟩
theorem dL {l:List P2}{n:Nat}{p:P2}:p∈dW l n↔(0≤p.2∧p.2 < n)∧fu l p.2≤p.1∧p.1≤kv l p.2:=by
 unfold dW
 rw[FK]
 constructor
 ·rintro ⟨r,hr,hp⟩
  obtain ⟨y,hy,rfl⟩:=B8.mp hr
  have:=Cr.mp hy
  obtain ⟨e,h1,h2⟩:=eJ.mp hp
  rw[←e] at h1 h2
  exact ⟨by lia,h1,h2⟩
 ·rintro ⟨h0,h1,h2⟩
  exact ⟨_,B8.mpr ⟨p.2.toNat,Cr.mpr (by lia),rfl⟩,eJ.mpr ⟨by lia,by rw[show 0+(p.2.toNat:Int)=p.2 by lia];exact ⟨h1,h2⟩⟩⟩
theorem qL (l:List P2) (y:Int):(jV l y).Nodup:=Eg _ (fun a b h e=>h (congrArg IJ e)) (ma _ _)
theorem kj (l:List P2) (n:Nat):dW l (n+1)=dW l n++jV l (0+(n:Int)):=by
 unfold dW
 rw[GW,Di,HS]
 simp
theorem jG (l:List P2):∀n,(dW l n).Nodup
 |0=>by unfold dW;simp
 |n+1=>by
  rw[kj]
  refine E7.mpr ⟨jG l n,qL l _,fun a ha b hb e=>?_⟩
  have h1:=dL.mp ha
  have h2:=(eJ.mp hb).1
  rw[←e] at h2
  lia
structure Lev (l:List P2):Prop where
 F:Fld l
 y0:loY l=0
 two:l.length=2→hiY l=0
 ne1:2≤l.length
theorem jD {l:List P2} (L:Lev l) (p:P2):p∈dW l (hiY l+1).toNat↔cP l p=true:=by
 obtain ⟨q,hq,eq⟩:=ux L.F.ne
 have hh:0≤hiY l:=by
  have:=(b_ (l:=l.map (·.2)) (by simpa using L.F.ne)).2 q.2 (CV hq)
  have e:=L.y0
  unfold hiY
  lia
 rw[dL]
 have key:0≤p.2→p.2≤hiY l→(cP l (p.1,p.2)=true↔fu l p.2≤p.1∧p.1≤kv l p.2):=fun h0 h1=>by
  rcases L.F.cases with ⟨A,rfl⟩ |⟨A,B,e,lt⟩ |h3
  ·have:=L.ne1;simp at this
  ·subst e
   obtain ⟨_,_,b3,b4⟩:=vt lt
   have t:=L.two rfl
   have y0:=L.y0
   exact we lt (by lia) (by lia)
  ·exact uH L.F (by rw[←L.F.cr];exact h3) (by rw[L.y0];exact h0) h1
 constructor
 ·rintro ⟨h0,h1⟩
  exact (key h0.1 (by lia)).mpr h1
 ·intro h
  have b:=(fW L.F.ne).mp (L.F.in_box h)
  rw[L.y0] at b
  exact ⟨by lia,(key b.2.1 b.2.2).mp h⟩
structure LvP (a b:P2) (g u v s t:Int):Prop where
 gp:0 < g
 hu:g*u=b.1 - a.1
 hv:g*v=b.2 - a.2
 st:s*u+t*v=1
abbrev lvF (a:P2) (u v s t:Int):P2→P2:=ap s t (-v) u (-s*a.1 - t*a.2) (v*a.1 - u*a.2)
abbrev bkF (a:P2) (u v s t:Int):P2→P2:=ap u (-t) v s a.1 a.2
theorem qS {a b:P2}{g u v s t:Int} (L:LvP a b g u v s t) (p:P2):bkF a u v s t (lvF a u v s t p)=p∧lvF a u v s t (bkF a u v s t p)=p:=by
 have h:=L.st
 unfold bkF lvF ap
 refine ⟨Er ?_ ?_,Er ?_ ?_⟩ <;>dsimp only
 ·have:u*(s*p.1+t*p.2+(-s*a.1 - t*a.2))+-t*(-v*p.1+u*p.2+(v*a.1 - u*a.2))+a.1=(s*u+t*v) *p.1 - (s*u+t*v) *a.1+a.1:=by grind
  rw[this,h];lia
 ·have:v*(s*p.1+t*p.2+(-s*a.1 - t*a.2))+s*(-v*p.1+u*p.2+(v*a.1 - u*a.2))+a.2=(s*u+t*v) *p.2 - (s*u+t*v) *a.2+a.2:=by grind
  rw[this,h];lia
 ·have:s*(u*p.1+-t*p.2+a.1)+t*(v*p.1+s*p.2+a.2)+(-s*a.1 - t*a.2)=(s*u+t*v) *p.1:=by grind
  rw[this,h];lia
 ·have:-v*(u*p.1+-t*p.2+a.1)+u*(v*p.1+s*p.2+a.2)+(v*a.1 - u*a.2)=(s*u+t*v) *p.2:=by grind
  rw[this,h];lia
theorem Ao {a b:P2}{g u v s t:Int} (L:LvP a b g u v s t) (q:P2):g*(lvF a u v s t q).2=af a b q:=by
 unfold lvF ap af
 dsimp only
 rw[←L.hu,←L.hv];grind
theorem uy {l:List P2} (F:Fld l) (h2:2≤l.length) {g u v s t:Int} (L:LvP (gp l 0) (gp l 1) g u v s t):Lev (am (l.map (lvF (gp l 0) u v s t))):=by
 have hd:s*u - t* -v=1:=by have:=L.st;grind
 have F':=zn (a:=s) (b:=t) (c:=-v) (d:=u) (-s*(gp l 0).1 - t*(gp l 0).2) (v*(gp l 0).1 - u*(gp l 0).2) F
 have hg:=L.gp
 have im0:lvF (gp l 0) u v s t (gp l 0)=(0,0):=by unfold lvF ap;refine Er ?_ ?_ <;>dsimp only <;>grind
 have up:∀q∈l,0≤(lvF (gp l 0) u v s t q).2:=fun q hq=>by
  have e:=Ao L q
  have k:0≤af (gp l 0) (gp l 1) q:=by
   rcases F.cases with ⟨A,rfl⟩ |⟨A,B,rfl,lt⟩ |h3
   ·simp at h2
   ·simp at hq
    rcases hq with rfl |rfl
    ·show 0≤af q B q;unfold af;grind
    ·show 0≤af A q q;unfold af;grind
   ·have c3:3≤l.length:=by rw[←F.cr];exact h3
    have hs:=rq (l:=l) (i:=0) (by lia)
    rw[show (0+1) % l.length=1 from CK (by lia)] at hs
    exact bA h3 (by rw[F.cr];exact hs) q hq
  rw[←e] at k
  exact EV k hg
 have g0:gp l 0∈l:=fe (by lia)
 have yb:∀q∈am (l.map (lvF (gp l 0) u v s t)),0≤q.2:=fun q hq=>by
  obtain ⟨p,hp,rfl⟩:=B8.mp (aV _ q hq)
  exact up p hp
 have len3:3≤l.length→3≤(am (l.map (lvF (gp l 0) u v s t))).length:=fun h3=>by
  unfold lvF
  rw[n6,nK,B3]
  exact fY (uG (.inl hd)) (by rw[F.cr];exact h3)
 have two:∀A B,l=[A,B]→ST.ltP A B=true→am (l.map (lvF (gp l 0) u v s t))=[(0,0),(g,0)]:=fun A B e lt=>by
  subst e
  have im1:lvF A u v s t B=(g,0):=by
   have k1:=L.hu
   have k2:=L.hv
   have k3:=L.st
   have k1':g*u=B.1 - A.1:=k1
   have k2':g*v=B.2 - A.2:=k2
   unfold lvF ap
   refine Er ?_ ?_ <;>dsimp only
   ·have:s*B.1+t*B.2+(-s*A.1 - t*A.2)=s*(B.1 - A.1)+t*(B.2 - A.2):=by grind
    rw[this,←k1',←k2']
    have:s*(g*u)+t*(g*v)=g*(s*u+t*v):=by grind
    rw[this,k3,IA]
   ·have:-v*B.1+u*B.2+(v*A.1 - u*A.2)=u*(B.2 - A.2) - v*(B.1 - A.1):=by grind
    rw[this,←k1',←k2'];grind
  have im0':lvF A u v s t A=(0,0):=im0
  show am [lvF A u v s t A,lvF A u v s t B]=_
  rw[im0',im1]
  rcases jy (A:=(0,0)) (B:=(g,0)) (fun e=>by have:=congrArg IJ e;dsimp only at this;lia) with ⟨_,e⟩ |⟨z,_⟩
  ·exact e
  ·have:=zB z;dsimp only at this;lia
 refine ⟨F',?_,fun e=>?_,?_⟩
 ·obtain ⟨c,hc,k⟩:=nG 0 (-1) (CV (f:=lvF (gp l 0) u v s t) g0)
  rw[im0] at k
  unfold wth at k
  dsimp only at k
  have c0:=yb c hc
  have ok:=bL (l:=(am (l.map (lvF (gp l 0) u v s t))).map (·.2)) (by simpa using F'.ne)
  have le:=ok.2 c.2 (CV (f:=fun p:P2=>p.2) hc)
  obtain ⟨d,hd',ed⟩:=B8.mp ok.1
  have:=yb d hd'
  unfold loY
  lia
 ·rcases F.cases with ⟨A,rfl⟩ |⟨A,B,e2,lt⟩ |h3
  ·simp at h2
  ·rw[two A B e2 lt];rfl
  ·have:=len3 (by rw[←F.cr];exact h3);lia
 ·rcases F.cases with ⟨A,rfl⟩ |⟨A,B,e2,lt⟩ |h3
  ·simp at h2
  ·rw[two A B e2 lt];exact B9 _
  ·have:=len3 (by rw[←F.cr];exact h3);lia
def uW (l:List P2) (u v s t:Int):List P2:=(dW (am (l.map (lvF (gp l 0) u v s t))) (hiY (am (l.map (lvF (gp l 0) u v s t)))+1).toNat).map (bkF (gp l 0) u v s t)
theorem qi {l:List P2} (F:Fld l) (h2:2≤l.length) {g u v s t:Int} (L:LvP (gp l 0) (gp l 1) g u v s t) (p:P2):p∈uW l u v s t↔cP l p=true:=by
 have hd:s*u - t* -v=1:=by have:=L.st;grind
 have iw:=fun q=>AK (a:=s) (b:=t) (c:=-v) (d:=u) (-s*(gp l 0).1 - t*(gp l 0).2) (v*(gp l 0).1 - u*(gp l 0).2) (.inl hd) F q
 have V:=uy F h2 L
 unfold uW
 rw[B8]
 constructor
 ·rintro ⟨q,hq,rfl⟩
  have k:=(jD V q).mp hq
  rw[←(qS L q).2] at k
  rw[←iw];exact k
 ·intro h
  exact ⟨lvF (gp l 0) u v s t p,(jD V _).mpr (by rw[iw];exact h),(qS L p).1⟩
theorem uE {l:List P2}{g u v s t:Int} (L:LvP (gp l 0) (gp l 1) g u v s t):(uW l u v s t).Nodup:=
 Eg _ (fun a b h e=>h (by rw[←(qS L a).2,←(qS L b).2,e])) (jG _ _)
theorem yx {l:List P2} (F:Fld l) (h2:2≤l.length) {g u v s t:Int} (L:LvP (gp l 0) (gp l 1) g u v s t):((uW l u v s t).length:Int)=jR l:=by
 rw[rF F]
 unfold yf
 congr 1
 refine dX (uE L) (cT (jq l) _) fun p=>?_
 rw[qi F h2 L,CS]
 constructor
 ·intro h;exact ⟨F.in_box h,by rw[h];rfl⟩
 ·rintro ⟨_,h⟩;simpa using h
def g5 (l:List P2):List P2:=ST.srt ((box l).filter fun p=>cP l p)
theorem wq {l:List P2} (F:Fld l) (p:P2):p∈g5 l↔cP l p=true:=by
 unfold g5
 rw[ST.srt_mem,CS]
 exact ⟨fun h=>h.2,fun h=>⟨F.in_box h,h⟩⟩
theorem lY {l R:List P2} (F:Fld l) (h:∀p,p∈R↔cP l p=true):ST.srt R=g5 l:=by
 unfold g5
 refine lc fun p=>?_
 rw[h,CS]
 exact ⟨fun k=>⟨F.in_box k,k⟩,fun k=>k.2⟩
end
section
variable {P:Cy}{w:World}{K:B2}{mg:Str→Option Value}{base:Heap}
def vA:List U→Out→Prop:=fun us o=>∃l:List P2,us=[lp l]∧0 < l.length∧l.length≤900∧(∀p∈l,Szp 2500 p)∧o=.val (.int (kt l))
theorem u5 (T:Txt K mg):a_ P w K mg base (CXF P w) 4 T.a_rim T.d_rim ["land"] (spU K (vA)):=by
 refine bn T.F_rim pU (fun us o h=>?_) (fun cdv A outer s H E O us o hr h=>?_)
 ·obtain ⟨l,rfl,h0,hl,sz,rfl⟩:=h
  rfl
 obtain ⟨l,rfl,h0,hl,sz,rfl⟩:=h
 refine Ws.nox ?_
 have hm:((l.map pu).length:Int)=(l.length:Int):=by rw[B3]
 unfold kt
 by_cases h3:l.length < 3
 ·rw[if_pos h3]
  refine ae (cS (aT ij (aq (cJ rfl) rfl T.z_len Do (ag (aa 0 rfl) ao ah)) aj) (by rw[hm];exact decide_eq_true (by lia)) ?_)
  have z0:=sz _ (fe h0)
  have z1:=sz _ (fe (l:=l) (i:=l.length - 1) (by lia))
  obtain ⟨cs,ct,G⟩:=ki ((gp l (l.length - 1)).1 - (gp l 0).1) ((gp l (l.length - 1)).2 - (gp l 0).2)
  refine ae (aJ (cu (aM ((gZ T).mono (by decide)) hr rfl T.m_steps T.F_steps.kp T.b_steps aI (ag (aD (aa 0 rfl) aj rfl (BR h0)) (ag (aD (aa 0 rfl) (cR aj) rfl (qX h0)) ao cx) cx) ⟨_,_,_,_,_,cs,ct,rfl,⟨z0.1.mono (by decide),z0.2.mono (by decide),z1.1.mono (by decide),z1.2.mono (by decide)⟩,G,rfl⟩) aj) ?_)
  exact rfl
 ·rw[if_neg h3]
  refine ae (dm (aT ij (aq (cJ rfl) rfl T.z_len Do (ag (aa 0 rfl) ao ah)) aj) (by rw[hm];exact decide_eq_false (by lia)) (aH ?_))
  refine ae (aJ (aq (vM rfl ) rfl T.z_sum boot_sum (ag (EvN.ev (fT (ys:=(((sdl l).map gst).map U.int)) rfl (blk (ai jY) ["land","A","B"] [1,2] rfl rfl rfl rfl (by decide+kernel)) (cW (EvN.ev (du ((jE T).mono (by decide)) hr rfl T.m_sides T.F_sides.kp T.b_sides aI (ag (aa 0 rfl) ao ah) ⟨l,rfl,hl,rfl⟩)) (.inl rfl)) (fun _ _ _ _=>pJ rfl (eE (bM (i:=1) pU.nd rfl (Or.inl rfl)) (eE (bM (i:=2) pU.nd rfl (Or.inl rfl)) mR))) (qH (js:=[1,2]) (by decide)) ?clen ?csz ?dom ?celt)) ao d6)) ?_)
  case clen=>simp
  case csz=>simp only[m9,B3];exact DE (aN (by lia))
  case dom=>
   intro x hx
   obtain ⟨s,_,rfl⟩:=B8.mp hx
   exact ⟨_,rfl,rfl⟩
  case celt=>
   intro C s' H' fp j x y hx hy
   rw[Dj] at hy
   obtain ⟨s,hs,ms,rfl,rfl⟩:=fc hx hy
   obtain ⟨m1,m2⟩:=bo ms
   obtain ⟨cs,ct,G⟩:=ki (s.2.1 - s.1.1) (s.2.2 - s.1.2)
   exact (aM ((gZ T).mono (by decide)) hr rfl T.m_steps T.F_steps.kp T.b_steps aI (ag (aa 1 rfl) (ag (aa 2 rfl) ao ah) ah) ⟨_,_,_,_,_,cs,ct,rfl,⟨(sz _ m1).1.mono (by decide),(sz _ m1).2.mono (by decide),(sz _ m2).1.mono (by decide),(sz _ m2).2.mono (by decide)⟩,G,rfl⟩)
  exact rfl
end
section
variable {P:Cy}{w:World}{K:B2}{mg:Str→Option Value}{base:Heap}
theorem uq {m n:Nat}{k:Int}{p:P2} (sk:Sz n k) (s:Szp m p):Szp (n+m) (scl k p):=⟨L2.Sz.mul sk s.1,L2.Sz.mul sk s.2⟩
def sq:List U→Out→Prop:=fun us o=>∃(pts:List P2) (k:Int),us=[lp pts,.int k]∧Sz 1000 k∧(∀p∈pts,Szp 3000 p)∧pts≠[]∧pts.length < 64∧o=.new ((am (pts.map (scl k))).map pu)
theorem xK (T:Txt K mg):a_ P w K mg base (CXF P w) 5 T.a_fold T.d_fold ["land","k"] (spU K (sq)):=by
 refine bn T.F_fold qO (fun us o h=>?_) (fun cdv A outer s H E O us o hr h=>?_)
 ·obtain ⟨pts,k,rfl,sk,sz,hne,hl,rfl⟩:=h
  rfl
 obtain ⟨pts,k,rfl,sk,sz,hne,hl,rfl⟩:=h
 refine ae (fB (du ((ou T).mono (by decide)) hr rfl T.m_field T.F_field.kp T.b_field aI (ag (EvN.ev (fT (ys:=(pts.map fun p=>pu (scl k p))) rfl (blk (ai gW) ["land","k","P"] [2] rfl rfl rfl rfl (by decide+kernel)) (cW (aa 0 rfl) (.inl rfl)) (fun _ _ _ _=>bM (i:=2) qO.nd rfl (Or.inl rfl)) (cI (by decide)) ?clen ?csz (fun _ _=>trivial) ?celt)) ao d6) ⟨pts.map (scl k),by rw[lp,Dj];rfl,fun p hp=>by obtain ⟨q,hq,rfl⟩:=B8.mp hp;have z:=uq sk (sz q hq);exact ⟨z.1.mono (by decide),z.2.mono (by decide)⟩,by rw[B3];exact hl,by rw[if_neg (by simpa using hne)]⟩) ?_)
 case clen=>simp
 case csz=>rw[B3];exact DE (aN (by lia))
 case celt=>
  intro C s' H' fp j x y hx hy
  obtain ⟨p,hp,mp,rfl,rfl⟩:=fc hx hy
  have s1:=(sz p mp).1
  have s2:=(sz p mp).2
  exact (cM (aA (br (aa 1 rfl) (aD (aa 2 rfl) aj rfl rfl) (by walk_at "mul")) (aA (br (aa 1 rfl) (aD (aa 2 rfl) aj rfl rfl) (by walk_at "mul")) bT bS) bS))
 exact rfl
def tm:List U→Out→Prop:=fun us o=>∃(pts:List P2) (k:Int),us=[lp pts,.int k]∧0≤k∧Sz 1000 k∧(∀p∈pts,Szp 3000 p)∧pts≠[]∧pts.length < 64∧o=.new ((am (pts.map (scl k))).map pu)
theorem oO (T:Txt K mg):a_ P w K mg base (CXF P w) 6 T.a_multiple T.d_multiple ["land","k"] (spU K (tm)):=by
 refine bn T.F_multiple oa (fun us o h=>?_) (fun cdv A outer s H E O us o hr h=>?_)
 ·obtain ⟨pts,k,rfl,k0,sk,sz,hne,hl,rfl⟩:=h
  rfl
 obtain ⟨pts,k,rfl,k0,sk,sz,hne,hl,rfl⟩:=h
 refine Ws.nox ?_
 refine ae (dm (aT ij (aa 1 rfl) aj) (decide_eq_false (by lia)) (aH ?_))
 refine ae (fB (du ((xK T).mono (by decide)) hr rfl T.m_fold T.F_fold.kp T.b_fold aI (ag (aa 0 rfl) (ag (aa 1 rfl) ao ah) ah) ⟨pts,k,rfl,sk,sz,hne,hl,rfl⟩) ?_)
 exact rfl
def uP:List U→Out→Prop:=fun us o=>∃l:List P2,us=[lp l]∧l.length≤900∧(∀p∈l,Szp 2500 p)∧o=.val (.int (pin l))
theorem lK (T:Txt K mg):a_ P w K mg base (CXF P w) 5 T.a_points_in T.d_points_in ["land"] (spU K (uP)):=by
 refine bn T.F_points_in mw (fun us o h=>?_) (fun cdv A outer s H E O us o hr h=>?_)
 ·obtain ⟨l,rfl,hl,sz,rfl⟩:=h
  rfl
 obtain ⟨l,rfl,hl,sz,rfl⟩:=h
 refine Ws.nox ?_
 have hm:((l.map pu).length:Int)=(l.length:Int):=by rw[B3]
 by_cases h3:l.length < 3
 ·refine ae (cS (aT ij (aq (cJ rfl) rfl T.z_len Do (ag (aa 0 rfl) ao ah)) aj) (by rw[hm];exact decide_eq_true (by lia)) ?_)
  refine ae (aJ aj ?_)
  exact vIO (by unfold pin;rw[if_pos h3])
 ·refine ae (dm (aT ij (aq (cJ rfl) rfl T.z_len Do (ag (aa 0 rfl) ao ah)) aj) (by rw[hm];exact decide_eq_false (by lia)) (aH ?_))
  have er:kt l=j8 l:=by unfold kt;rw[if_neg h3]
  refine ae (aJ (fq (cu (bD (aM ((jQ T).mono (by decide)) hr rfl T.m_double_area T.F_double_area.kp T.b_double_area aI (ag (aa 0 rfl) ao ah) ⟨l,rfl,hl,sz,rfl⟩) (aM ((u5 T).mono (by decide)) hr rfl T.m_rim T.F_rim.kp T.b_rim aI (ag (aa 0 rfl) ao ah) ⟨l,rfl,by lia,hl,sz,rfl⟩)) aj) aj (by walk_at "div")) ?_)
  exact vIO (by unfold pin;rw[if_neg h3,er])
theorem wM {pts:List P2}{k:Int} (sk:Sz 1000 k) (sz:∀p∈pts,Szp 1500 p):∀p∈am (pts.map (scl k)),Szp 2500 p:=fun p hp=>by
 obtain ⟨q,hq,rfl⟩:=B8.mp (aV _ p hp)
 exact uq sk (sz q hq)
def jw:List U→Out→Prop:=fun us o=>∃(pts:List P2) (k:Int),us=[lp pts,.int k]∧0≤k∧Sz 1000 k∧(∀p∈pts,Szp 1500 p)∧pts≠[]∧pts.length < 64∧o=.val (.int (jR (am (pts.map (scl k)))))
theorem nV (T:Txt K mg):a_ P w K mg base (CXF P w) 7 T.a_count T.d_count ["land","k"] (spU K (jw)):=by
 refine zD T.F_count n_ (fun us o h=>?_) (fun cdv A outer s H E O us o hr h=>?_)
 ·obtain ⟨pts,k,rfl,k0,sk,sz,hne,hl,rfl⟩:=h
  rfl
 obtain ⟨pts,k,rfl,k0,sk,sz,hne,hl,rfl⟩:=h
 refine Ws.nox ?_
 have cl:(am (pts.map (scl k))).length≤900:=DZ (mV _) (by rw[B3];lia)
 have cn:0 < (am (pts.map (scl k))).length:=EN.mpr (ji (by simpa using hne))
 refine ae (aE (i:=2) n_.nd rfl (Or.inl rfl) (EvN.ev (du ((oO T).mono (by decide)) hr rfl T.m_multiple T.F_multiple.kp T.b_multiple aI (ag (aa 0 rfl) (ag (aa 1 rfl) ao ah) ah) ⟨pts,k,rfl,k0,sk,pO (by decide) sz,hne,hl,rfl⟩)) ?_)
 refine ae (aJ (cu (aM ((lK T).mono (by decide)) hr rfl T.m_points_in T.F_points_in.kp T.b_points_in aI (ag (aa 2 rfl) ao ah) ⟨_,rfl,cl,wM sk sz,rfl⟩) (aM ((u5 T).mono (by decide)) hr rfl T.m_rim T.F_rim.kp T.b_rim aI (ag (aa 2 rfl) ao ah) ⟨_,rfl,cn,cl,wM sk sz,rfl⟩)) ?_)
 exact rfl
end
section
variable {P:Cy}{w:World}{K:B2}{mg:Str→Option Value}{base:Heap}
theorem qa (l:List P2) (L:List (P2×P2)) (s:P2×P2) (y:Int):cH l (L++[s]) y=cH l L y++(if 0 < s.2.2 - s.1.2 then [wB y s] else []):=by
 unfold cH
 rw[GX,Di]
 by_cases h:0 < s.2.2 - s.1.2
 ·rw[if_pos h,DR (by simpa using h)];rfl
 ·rw[if_neg h,DQ (by simpa using h)];rfl
theorem o5 (l:List P2) (L:List (P2×P2)) (s:P2×P2) (y:Int):cO l (L++[s]) y=cO l L y++(if s.2.2 - s.1.2 < 0 then [uf y s] else []):=by
 unfold cO
 rw[GX,Di]
 by_cases h:s.2.2 - s.1.2 < 0
 ·rw[if_pos h,DR (by simpa using h)];rfl
 ·rw[if_neg h,DQ (by simpa using h)];rfl
theorem ww (l:List P2) (y:Int) (L:List (P2×P2)):(cH l L y).length≤L.length+1∧(cO l L y).length≤L.length+1:=by
 unfold cH cO
 simp only[Dt,B3]
 exact ⟨KU (FY _ _),KU (FY _ _)⟩
def pi:List U→Out→Prop:=fun us o=>∃(l:List P2) (y:Int),us=[lp l,.int y]∧l≠[]∧l.length≤900∧(∀q∈l,Szp 1000 q)∧Sz 1001 y∧o=.val (.tup [.int (fu l y),.int (kv l y)])
theorem nR (T:Txt K mg):a_ P w K mg base (CXF P w) 2 T.a_row_ends T.d_row_ends ["land","y"] (spU K (pi)):=by
 refine bn T.F_row_ends bX (fun us o h=>?_) (fun cdv A outer s H E O us o hr h=>?_)
 ·obtain ⟨l,y,rfl,hne,hl,sz,sy,rfl⟩:=h
  rfl
 obtain ⟨l,y,rfl,hne,hl,sz,sy,rfl⟩:=h
 refine Ws.nox ?_
 obtain ⟨mn,mx,_,m1,m2,q1,q2,_⟩:=tQ hne
 have hx:l.map (·.1)≠[]:=by simpa using hne
 have e1:mn.1=loX l:=by
  have ok:=bL hx
  obtain ⟨q,hq,e⟩:=B8.mp ok.1
  have a:=ok.2 mn.1 (CV (f:=fun p:P2=>p.1) m1)
  have b:=q1 q hq
  rw[ST.ltP_no] at b
  unfold loX
  lia
 have e2:mx.1=hiX l:=by
  have ok:=b_ hx
  obtain ⟨q,hq,e⟩:=B8.mp ok.1
  have a:=ok.2 mx.1 (CV (f:=fun p:P2=>p.1) m2)
  have b:=q2 q hq
  rw[ST.ltP_no] at b
  unfold hiX
  lia
 refine ae (iR (i:=2) bX.nd rfl (Or.inl rfl) (dO (aA (aD (aq (AE rfl (kF hr) m1 q1) rfl T.z_min Mj (ag (aa 0 rfl) ao ah)) aj rfl rfl) bT cx)) ?_)
 refine ae (iR (i:=3) bX.nd rfl (Or.inl rfl) (dO (aA (aD (aq (Ag rfl (kF hr) m2 q2) rfl T.z_max KW (ag (aa 0 rfl) ao ah)) aj rfl rfl) bT cx)) ?_)
 rw[e1,e2]
 refine ae (fI (fun i:Nat=>[some (.val (lp l)),some (.val (.int y)),some (.own ((cO l ((sdl l).take i) y).map U.int)),some (.own ((cH l ((sdl l).take i) y).map U.int)),none,none,none,none]) (fun i j=>i=j) rfl PassesOwn.never (cW (EvN.ev (du ((jE T).mono (by decide)) hr rfl T.m_sides T.F_sides.kp T.b_sides aI (ag (aa 0 rfl) ao ah) ⟨l,rfl,hl,rfl⟩)) (.inl rfl)) ?h0 ?hs ?hd)
 case h0=>exact ⟨0,rfl,rfl,rfl,rfl,rfl,trivial⟩
 case hs=>
  rintro H0 i x _ hx' rfl
  have hq:∃s,(sdl l)[i]?=some s∧x=pq s:=by
   rw[Cb] at hx'
   cases e:(sdl l)[i]? with
   |none=>rw[e] at hx';cases hx'
   |some s=>rw[e] at hx';cases hx';exact ⟨s,rfl,rfl⟩
  obtain ⟨s,hs,rfl⟩:=hq
  obtain ⟨n1,n2⟩:=bo (Cu hs)
  have hi:i < (sdl l).length:=aF hs
  rw[m9] at hi
  have z1:=(sz _ n1).1
  have z2:=(sz _ n1).2
  have z3:=(sz _ n2).1
  have z4:=(sz _ n2).2
  have tk:(sdl l).take (i+1)=(sdl l).take i++[s]:=by rw[FL,hs];rfl
  have bE:=qa l ((sdl l).take i) s y
  have bB:=o5 l ((sdl l).take i) s y
  rw[←tk] at bE bB
  obtain ⟨r1,r2⟩:=ww l y ((sdl l).take i)
  have r0:((sdl l).take i).length≤i:=by simp;lia
  refine ⟨_,(Bv [4,5] rfl (eE (bM (i:=4) bX.nd rfl (Or.inl rfl)) (eE (bM (i:=5) bX.nd rfl (Or.inl rfl)) mR)) rfl),?_⟩
  refine ae (aE (i:=6) bX.nd rfl (Or.inl rfl) (bD (aD (aa 5 rfl) aj rfl rfl) (aD (aa 4 rfl) aj rfl rfl)) ?_)
  refine ae (aE (i:=7) bX.nd rfl (Or.inl rfl) (br (bD (aD (aa 5 rfl) aj rfl rfl) (aD (aa 4 rfl) aj rfl rfl)) (bD (aa 1 rfl) (aD (aa 4 rfl) aj rfl rfl)) (by walk_at "mul")) ?_)
  rw[show (s.2.1 - s.1.1) *(y - s.1.2)=jF s y from rfl]
  have rz:Sz 1001 (s.2.2 - s.1.2):=(L2.Sz.sub' z4 z2).mono (by decide)
  have rn:Sz 1001 (-(s.2.2 - s.1.2)):=rz.natle (by lia)
  show Ws _ _ _ _ _ _ [some (.val (lp l)),some (.val (.int y)),some (.own ((cO l ((sdl l).take i) y).map U.int)),some (.own ((cH l ((sdl l).take i) y).map U.int)),some (.val (pu s.1)),some (.val (pu s.2)),some (.val (.int (s.2.2 - s.1.2))),some (.val (.int (jF s y)))]
  by_cases p:0 < s.2.2 - s.1.2
  ·rw[if_pos p] at bE
   rw[if_neg (by lia),DG] at bB
   refine ae (cS (aT iA (aa 6 rfl) aj) (decide_eq_true p) ?_)
   refine ae (eK 3 rfl (cu (aD (aa 4 rfl) aj rfl rfl) (fq (aa 7 rfl) (aa 6 rfl) ⟨p,rz.mono (by decide)⟩)) (by rw[B3];exact aN (by lia)) (aH ?_))
   refine ae (dm (aT ij (aa 6 rfl) aj) (decide_eq_false (by lia)) (aH (aH ?_)))
   refine ⟨i+1,rfl,rfl,rfl,?_,?_,trivial⟩
   ·exact congrArg (fun l=>some (Sl.own l)) (by rw[bB])
   ·exact congrArg (fun l=>some (Sl.own l)) (by rw[bE,Di];rfl)
  ·rw[if_neg p,DG] at bE
   refine ae (dm (aT iA (aa 6 rfl) aj) (decide_eq_false p) (aH ?_))
   by_cases n:s.2.2 - s.1.2 < 0
   ·rw[if_pos n] at bB
    refine ae (cS (aT ij (aa 6 rfl) aj) (decide_eq_true n) ?_)
    refine ae (eK 2 rfl (bD (aD (aa 4 rfl) aj rfl rfl) (fq (aa 7 rfl) (cR (aa 6 rfl)) ⟨by lia,rn.mono (by decide)⟩)) (by rw[B3];exact aN (by lia)) (aH (aH ?_)))
    refine ⟨i+1,rfl,rfl,rfl,?_,?_,trivial⟩
    ·exact congrArg (fun l=>some (Sl.own l)) (by rw[bB,Di];rfl)
    ·exact congrArg (fun l=>some (Sl.own l)) (by rw[bE])
   ·rw[if_neg n,DG] at bB
    refine ae (dm (aT ij (aa 6 rfl) aj) (decide_eq_false n) (aH (aH ?_)))
    refine ⟨i+1,rfl,rfl,rfl,?_,?_,trivial⟩
    ·exact congrArg (fun l=>some (Sl.own l)) (by rw[bB])
    ·exact congrArg (fun l=>some (Sl.own l)) (by rw[bE])
 case hd=>
  rintro q ps hq hps
  refine d7 ?_ hps
  have e:q=(sdl l).length:=by rw[←hq,B3]
  subst e
  rw[EX]
  refine mZ 2 rfl (mZ 3 rfl ?_)
  show Ws _ _ _ _ _ _ [some (.val (lp l)),some (.val (.int y)),some (.val (.lst ((cO l (sdl l) y).map U.int))),some (.val (.lst ((cH l (sdl l) y).map U.int))),none,none,none,none]
  refine ae (aJ (cM (aA (aq (mX rfl (b_ (l:=cO l (sdl l) y) (by unfold cO;simp))) rfl T.z_max KW (ag (aa 2 rfl) ao ah)) (aA (aq (qg rfl (bL (l:=cH l (sdl l) y) (by unfold cH;simp))) rfl T.z_min Mj (ag (aa 3 rfl) ao ah)) bT dB) dB)) ?_)
  exact rfl
end
section
variable {P:Cy}{w:World}{K:B2}{mg:Str→Option Value}{base:Heap}
theorem Bu {a b c d e f a' b' c' d' e' f':Int} (h1:a=a') (h2:b=b') (h3:c=c') (h4:d=d') (h5:e=e') (h6:f=f'):mv a b c d e f=mv a' b' c' d' e' f':=by rw[h1,h2,h3,h4,h5,h6]
theorem Aa {a b:P2} (h:a≠b):∃g s1 t1 s t:Int,eG (b.1 - a.1) (b.2 - a.2) g s1 t1∧g≠0∧eG ((b.1 - a.1) / g) ((b.2 - a.2) / g) 1 s t∧LvP a b g ((b.1 - a.1) / g) ((b.2 - a.2) / g) s t:=by
 obtain ⟨g,s1,t1,G⟩:=mj (b.1 - a.1) (b.2 - a.2)
 have gn:g≠0:=fun e=>h (by
  obtain ⟨h1,h2⟩:=tG G e
  exact Er h1 h2)
 have gp:0 < g:=by have:=G.g0;lia
 obtain ⟨g',s,t,G'⟩:=mj ((b.1 - a.1) / g) ((b.2 - a.2) / g)
 have:=sM G gp G'
 subst this
 exact ⟨g,s1,t1,s,t,G,gn,G',gp,Ft G.da,Ft G.db,G'.eq⟩
theorem xg {a:P2}{u v s t:Int} (h:s*u+t*v=1):Aw s t (-v) u (-s*a.1 - t*a.2) (v*a.1 - u*a.2)=mv u (-t) v s a.1 a.2:=by
 have k:s*u - t* -v=1:=by grind
 unfold Aw
 rw[k]
 refine Bu (by lia) (by lia) (by lia) (by lia) ?_ ?_
 ·have:-(1*u*(-s*a.1 - t*a.2)+-1*t*(v*a.1 - u*a.2))=(s*u+t*v) *a.1:=by grind
  rw[this,h,HR]
 ·have:-(-1* -v*(-s*a.1 - t*a.2)+1*s*(v*a.1 - u*a.2))=(s*u+t*v) *a.2:=by grind
  rw[this,h,HR]
theorem xU {l:List P2} (F:Fld l) (h2:2≤l.length):gp l 0≠gp l 1:=fun e=>by
 have nd:l.Nodup:=by rw[←F.cr];exact be l
 have:l[0]?=l[1]?:=by rw[dD (by lia),dD (by lia),e]
 have:=(Gc (by lia) nd).mp this
 lia
theorem xJ {l:List P2}{n y:Nat} (h:y < n):(jV l (0+(y:Int))).length≤(dW l n).length:=dH (qL _ _) fun p hp=>by
 have k:=eJ.mp hp
 refine dL.mpr ⟨by lia,?_⟩
 rw[k.1];exact k.2
theorem wR {l:List P2}{n y:Nat} (h:y≤n):(dW l y).length≤(dW l n).length:=dH (jG _ _) fun p hp=>by
 have k:=dL.mp hp
 exact dL.mpr ⟨by lia,k.2⟩
def nI:List U→Out→Prop:=fun us o=>∃l:List P2,us=[lp l]∧Fld l∧2≤l.length∧l.length < 64∧(∀p∈l,Szp 150 p)∧jR l≤100∧o=.new ((g5 l).map pu)
theorem pX (T:Txt K mg):a_ P w K mg base (CXF P w) 6 T.a_by_rows T.d_by_rows ["land"] (spU K (nI)):=by
 refine bn T.F_by_rows bR (fun us o h=>?_) (fun cdv A outer s H E O us o hr h=>?_)
 ·obtain ⟨l,rfl,F,h2,hl,sz,hc,rfl⟩:=h
  rfl
 obtain ⟨l,rfl,F,h2,hl,sz,hc,rfl⟩:=h
 refine Ws.nox ?_
 obtain ⟨g,s1,t1,s,t,G,gn,G1,L⟩:=Aa (xU F h2)
 have z0:=sz _ (fe (l:=l) (i:=0) (by lia))
 have z1:=sz _ (fe (l:=l) (i:=1) (by lia))
 have zx:Sz 151 ((gp l 1).1 - (gp l 0).1):=(L2.Sz.sub' z1.1 z0.1).mono (by decide)
 have zy:Sz 151 ((gp l 1).2 - (gp l 0).2):=(L2.Sz.sub' z1.2 z0.2).mono (by decide)
 have two:v6 (gp l 0).1 (gp l 0).2 (gp l 1).1 (gp l 1).2:=⟨z0.1.mono (by decide),z0.2.mono (by decide),z1.1.mono (by decide),z1.2.mono (by decide)⟩
 have su:Sz 151 (((gp l 1).1 - (gp l 0).1) / g):=zx.ediv
 have sv:Sz 151 (((gp l 1).2 - (gp l 0).2) / g):=zy.ediv
 obtain ⟨_,ss,st⟩:=mh G1 su sv
 refine ae (aE (i:=1) bR.nd rfl (Or.inl rfl) (aM ((wT T).mono (by decide)) hr rfl T.m_level T.F_level.kp T.b_level aI (ag (aD (aa 0 rfl) aj rfl (q_ (i:=0) (by decide) (by lia))) (ag (aD (aa 0 rfl) aj rfl (q_ (i:=1) (by decide) (by lia))) ao cx) cx) (.inl ⟨_,_,_,_,g,s1,t1,s,t,rfl,two,G,gn,G1,rfl⟩)) ?_)
 have V:=uy F h2 L
 have hlen:=yx F h2 L
 have hmem:=qi F h2 L
 have hnd:=uE L
 generalize hu:((gp l 1).1 - (gp l 0).1) / g=u at *
 generalize hv:((gp l 1).2 - (gp l 0).2) / g=v at *
 have hd:s*u - t* -v=1:=by have:=L.st;grind
 have a5:Sz 500 s:=ss.mono (by decide)
 have b5:Sz 500 t:=st.mono (by decide)
 have c5:Sz 500 (-v):=(sv.natle (by lia):Sz 151 (-v)).mono (by decide)
 have d5:Sz 500 u:=su.mono (by decide)
 have ns:Sz 310 (-s):=(ss.natle (by lia):Sz _ (-s)).mono (by decide)
 have e5:Sz 500 (-s*(gp l 0).1 - t*(gp l 0).2):=(L2.Sz.sub' (L2.Sz.mul ns z0.1) (L2.Sz.mul (st.mono (n:=310) (by decide)) z0.2)).mono (by decide)
 have f5:Sz 500 (v*(gp l 0).1 - u*(gp l 0).2):=(L2.Sz.sub' (L2.Sz.mul sv z0.1) (L2.Sz.mul su z0.2)).mono (by decide)
 have k5:500≤30000:=by decide
 have M:Mv s t (-v) u (-s*(gp l 0).1 - t*(gp l 0).2) (v*(gp l 0).1 - u*(gp l 0).2):=⟨.inl hd,a5.mono k5,b5.mono k5,c5.mono k5,d5.mono k5,e5.mono k5,f5.mono k5⟩
 refine ae (aE (i:=2) bR.nd rfl (Or.inl rfl) (EvN.ev (du ((jA T).mono (by decide)) hr rfl T.m_field_moved T.F_field_moved.kp T.b_field_moved aI (ag (aa 0 rfl) (ag (aa 1 rfl) ao ah) ah) ⟨l,_,_,_,_,_,_,rfl,.inl hd,⟨a5,b5,c5,d5,e5,f5⟩,pO (by decide) sz,F.ne,hl,rfl⟩)) ?_)
 have mz:∀p∈am (l.map (lvF (gp l 0) u v s t)),Szp 1000 p:=fun p hp=>by
  obtain ⟨q,hq,rfl⟩:=B8.mp (aV _ p hp)
  have z:=y_ a5 b5 c5 d5 e5 f5 (by decide) (sz q hq)
  exact ⟨z.1.mono (by decide),z.2.mono (by decide)⟩
 have ml:(am (l.map (lvF (gp l 0) u v s t))).length≤900:=DZ (mV _) (by rw[B3];lia)
 refine ae (aE (i:=3) bR.nd rfl (Or.inr rfl) (aM ((ov T).mono (by decide)) hr rfl T.m_way_back T.F_way_back.kp T.b_way_back aI (ag (aa 1 rfl) ao ah) (.inl ⟨_,_,_,_,_,_,rfl,M,rfl⟩)) ?_)
 rw[xg L.st]
 unfold uW at hlen hmem hnd
 rw[B3] at hlen
 have hbk:∀p:P2,pu (bkF (gp l 0) u v s t p)=pt (u*p.1+-t*p.2+(gp l 0).1) (v*p.1+s*p.2+(gp l 0).2):=fun p=>rfl
 have nt:Sz 30000 (-t):=(st.natle (by lia):Sz _ (-t)).mono (by decide)
 have MB:Mv u (-t) v s (gp l 0).1 (gp l 0).2:=⟨.inl (by have:=L.st;grind),d5.mono k5,nt,sv.mono (by decide),a5.mono k5,z0.1.mono (by decide),z0.2.mono (by decide)⟩
 have mne:=V.F.ne
 have hY:=b_ (l:=(am (l.map (lvF (gp l 0) u v s t))).map (·.2)) (by simpa using mne)
 have zY:Sz 1000 (hiY (am (l.map (lvF (gp l 0) u v s t)))):=by
  obtain ⟨q,hq,e⟩:=uR mne
  rw[←e];exact (mz q hq).2
 show Ws _ _ _ _ _ _ [some (.val (lp l)),some (.val (mv s t (-v) u (-s*(gp l 0).1 - t*(gp l 0).2) (v*(gp l 0).1 - u*(gp l 0).2))),some (.val (lp (am (l.map (lvF (gp l 0) u v s t))))),some (.val (mv u (-t) v s (gp l 0).1 (gp l 0).2)),none,none,none,none,none]
 generalize hM:am (l.map (lvF (gp l 0) u v s t))=m at *
 refine ae (iR (i:=4) bR.nd rfl (Or.inl rfl) (dO bT) ?_)
 refine ae (fI (fun i:Nat=>[some (.val (lp l)),some (.val (mv s t (-v) u (-s*(gp l 0).1 - t*(gp l 0).2) (v*(gp l 0).1 - u*(gp l 0).2))),some (.val (lp m)),some (.val (mv u (-t) v s (gp l 0).1 (gp l 0).2)),some (.own (((dW m i).map (bkF (gp l 0) u v s t)).map pu)),none,none,none,none]) (fun i j=>i=j) rfl PassesOwn.never (tX rfl T.z_range (ag (cu (aq (mX rfl hY) rfl T.z_max KW (ag (EvN.ev (fT (ys:=((m.map (·.2)).map U.int)) rfl (blk (ai cE) ["land","move","levelled","back","found","y","ends","x","P"] [8] rfl rfl rfl rfl (by decide+kernel)) (cW (aa 2 rfl) (.inl rfl)) (fun _ _ _ _=>bM (i:=8) bR.nd rfl (Or.inl rfl)) (cI (by decide)) ?clen ?csz (fun _ _=>trivial) ?celt)) ao d6)) aj) ao bS)) ?h0 ?hs ?hd)
 case clen=>simp
 case csz=>rw[B3];exact DE (aN (by lia))
 case celt=>
  intro C s' H' fp j x y hx hy
  rw[Dj] at hy
  obtain ⟨p,hp,mp,rfl,rfl⟩:=fc hx hy
  exact (aD (aa 8 rfl) aj rfl rfl)
 case h0=>exact ⟨0,rfl,rfl,rfl,rfl,rfl,rfl,trivial⟩
 case hs=>
  rintro H0 i x _ hx rfl
  obtain ⟨hi,rfl⟩:=dR hx
  have hi':i < (hiY m+1).toNat:=by
   have:hiL (m.map (·.2))=hiY m:=rfl
   rw[this] at hi
   lia
  have rf:=xJ (l:=m) hi'
  have rg:=wR (l:=m) (DE hi')
  have iz:Sz 1001 (0+(i:Int)):=by
   have one:Sz 1000 (1:Int):=Sz.mono (m:=8) (by decide) (by decide)
   exact Sz.le (by lia) (L2.Sz.add' zY one)
  have rl:(jV m (0+(i:Int))).length=(kv m (0+(i:Int))+1 - fu m (0+(i:Int))).toNat:=by unfold jV fJ;simp
  refine ⟨_,(gN (i:=5) bR.nd rfl (Or.inr rfl)),?_⟩
  refine ae (aE (i:=6) bR.nd rfl (Or.inl rfl) (aM ((nR T).mono (by decide)) hr rfl T.m_row_ends T.F_row_ends.kp T.b_row_ends aI (ag (aa 2 rfl) (ag (aa 5 rfl) ao ah) ah) ⟨m,_,rfl,mne,ml,mz,iz,rfl⟩) ?_)
  refine ae (wt 4 rfl (EvN.ev (fT (ys:=(((jV m (0+(i:Int))).map (bkF (gp l 0) u v s t)).map pu)) rfl (blk (ai cE) ["land","move","levelled","back","found","y","ends","x","P"] [7] rfl rfl rfl rfl (by decide+kernel)) (io rfl T.z_range (ag (aD (aa 6 rfl) aj rfl rfl) (ag (cu (aD (aa 6 rfl) aj rfl rfl) aj) ao bS) cx)) (fun _ _ _ _=>bM (i:=7) bR.nd rfl (Or.inl rfl)) (cI (by decide)) ?clen ?csz (fun _ _=>trivial) ?celt)) (by simp only[B3];exact DE (aN (by lia))) (aH ?_))
  case clen=>rw[bY,B3,B3,rl]
  case csz=>rw[bY];exact DE (aN (by lia))
  case celt=>
   intro C s' H' fp j x y hx hy
   obtain ⟨hj,rfl⟩:=dR hx
   have ey:y=pu (bkF (gp l 0) u v s t (fu m (0+(i:Int))+(j:Int),0+(i:Int))):=by
    unfold jV fJ at hy
    rw[Dj,Dj,Dj,Cb,FC hj] at hy
    cases hy;rfl
   have hp:(fu m (0+(i:Int))+(j:Int),0+(i:Int))∈jV m (0+(i:Int)):=eJ.mpr ⟨rfl,by dsimp only;lia,by dsimp only;lia⟩
   have hq:(fu m (0+(i:Int))+(j:Int),0+(i:Int))∈dW m (hiY m+1).toNat:=by
    have k:=eJ.mp hp
    exact dL.mpr ⟨by dsimp only;lia,k.2⟩
   have bx:=(fW mne).mp (V.F.in_box ((jD V _).mp hq))
   have zX:Sz 30000 (fu m (0+(i:Int))+(j:Int)):=by
    obtain ⟨q1,m1,e1⟩:=B8.mp (bL (l:=m.map (·.1)) (by simpa using mne)).1
    obtain ⟨q2,m2,e2⟩:=B8.mp (b_ (l:=m.map (·.1)) (by simpa using mne)).1
    have y1:=(mz q1 m1).1
    have y2:=(mz q2 m2).1
    have b1:q1.1≤fu m (0+(i:Int))+(j:Int):=by have:=bx.1.1;unfold loX at this;rw[←e1] at this;exact this
    have b2:fu m (0+(i:Int))+(j:Int)≤q2.1:=by have:=bx.1.2;unfold hiX at this;rw[←e2] at this;exact this
    rcases DO (fu m (0+(i:Int))+(j:Int)) 0 with z |z
    ·exact (y1.natle (by lia):Sz 1000 _).mono (by decide)
    ·exact (y2.natle (by lia):Sz 1000 _).mono (by decide)
   rw[ey,hbk]
   exact (aM ((oC T).mono (by decide)) hr rfl T.m_moved T.F_moved.kp T.b_moved aI (ag (cM (aA (aa 7 rfl) (aA (aa 5 rfl) bT ah) ah)) (ag (aa 3 rfl) ao ah) uX) (.inl ⟨_,_,_,_,_,_,_,_,rfl,MB,zX,iz.mono (by decide),rfl⟩))
  refine ⟨i+1,rfl,rfl,rfl,rfl,rfl,?_,trivial⟩
  exact congrArg (fun l=>some (Sl.own l)) (by rw[kj,Di,Di])
 case hd=>
  rintro q ps hq hps
  refine d7 ?_ hps
  rw[bY] at hq
  have e:q=(hiY m+1).toNat:=by rw[←hq];show (hiY m+1 - 0).toNat=_;lia
  subst e
  refine mZ 4 rfl ?_
  have fs:=lY F hmem
  have n64:((dW m (hiY m+1).toNat).map (bkF (gp l 0) u v s t)).length < 1000:=by rw[B3];lia
  refine ae (fB (vz rfl T.z_sorted (aa 4 rfl) ⟨n64,hnd⟩ ah) ?_)
  rw[fs]
def nQ (C:Addr):List U→Out→Prop:=fun us o=>∃l:List P2,us=[lp l]∧Fld l∧l.length < 64∧(∀p∈l,Szp 150 p)∧((jR l≤100∧o=.new ((g5 l).map pu))∨(100 < jR l∧o=.exc C))
theorem ly (T:Txt K mg):a_ P w K mg base (CXF P w) 8 T.a_stakes T.d_stakes ["land"] (spU K (nQ T.c_TooMany)):=by
 refine bn T.F_stakes sZ (by rintro us o ⟨_,rfl,_⟩;rfl) (fun cdv A outer s H E O us o hr h=>?_)
 obtain ⟨l,rfl,F,hl,sz,h⟩:=h
 have hm:((l.map pu).length:Int)=(l.length:Int):=by rw[B3]
 have one:am (l.map (scl 1))=l:=by rw[show scl 1=id from funext yJ,MF];exact F.cr
 have cs:jw [lp l,.int 1] (.val (.int (jR l))):=⟨l,1,rfl,by decide,Sz.mono (m:=8) (by decide) (by decide),pO (by decide) sz,F.ne,hl,by rw[one]⟩
 have l0:0 < l.length:=EN.mpr F.ne
 rcases h with ⟨hc,rfl⟩ |⟨hc,rfl⟩
 ·refine ae (dm (aT iA (qE ((nV T).mono (by decide)) hr rfl T.m_count T.F_count.kp T.bd_count aI (ag (aa 0 rfl) ao ah) cs) (zk rfl T.g_MOST_STAKES)) (decide_eq_false (by lia)) (aH ?_))
  refine Ws.nox ?_
  by_cases h1:l.length=1
  ·refine ae (cS (aT eo (aq (cJ rfl) rfl T.z_len Do (ag (aa 0 rfl) ao ah)) aj) (by rw[hm];exact decide_eq_true (by lia)) ?_)
   refine ae (fB (rc (v9 rfl) rfl T.z_list J4 (ag (aa 0 rfl) ao ah)) ?_)
   obtain ⟨A,rfl⟩:=IZ.mp h1
   have:g5 [A]=[A]:=by
    rw[←lY (R:=[A]) F fun p=>by rw[iy];simp]
    exact dU (pts:=[A]) (by have:=ST.srt_len [A];simp at this;lia) ▸ F.cr
   rw[this]
  ·refine ae (dm (aT eo (aq (cJ rfl) rfl T.z_len Do (ag (aa 0 rfl) ao ah)) aj) (by rw[hm];exact decide_eq_false (by lia)) (aH ?_))
   refine ae (fB (du ((pX T).mono (by decide)) hr rfl T.m_by_rows T.F_by_rows.kp T.b_by_rows aI (ag (aa 0 rfl) ao ah) ⟨l,rfl,F,by lia,hl,sz,hc,rfl⟩) ?_)
   exact rfl
 ·refine ae (cS (aT iA (qE ((nV T).mono (by decide)) hr rfl T.m_count T.F_count.kp T.bd_count aI (ag (aa 0 rfl) ao ah) cs) (zk rfl T.g_MOST_STAKES)) (decide_eq_true (by lia)) ?_)
  refine ae (jc T.x_TooMany rfl T.mx_TooMany qj ?_)
  exact rfl
end
section
variable {P:Cy}{w:World}{K:B2}{mg:Str→Option Value}{base:Heap}
def dZ (ns:List Int) (k:Int):Int:=if k < (ns.length:Int) then ns.getD k.toNat 0 else 0
def sQ:List U→Out→Prop:=fun us o=>∃(ns:List Int) (k:Int),us=[.scr (ns.map U.int),.int k]∧0≤k∧o=.val (.int (dZ ns k))
theorem dC (T:Txt K mg):a_ P w K mg base (CXF P w) 1 T.a__law_cell_at T.d__law_cell_at ["script","k"] (spU K (sQ)):=by
 refine bn T.F__law_cell_at iV (fun us o h=>?_) (fun cdv A outer s H E O us o hr h=>?_)
 ·obtain ⟨ns,k,rfl,h0,rfl⟩:=h
  rfl
 obtain ⟨ns,k,rfl,h0,rfl⟩:=h
 refine Ws.nox ?_
 have hm:((ns.map U.int).length:Int)=(ns.length:Int):=by rw[B3]
 refine ae (ie (aT ij (aa 1 rfl) (aq (cJ rfl) rfl T.z_len Do (ag (aa 0 rfl) ao ah))) (fun hT=>?_) (fun hF=>(aH ?_)))
 ·rw[hm] at hT
  have hk:=dTb hT
  refine ae (aJ (aD (aa 0 rfl) (aa 1 rfl) rfl (uD h0 hk)) ?_)
  exact vIO (by unfold dZ;rw[if_pos hk])
 ·rw[hm] at hF
  have hk:=dFb hF
  refine ae (aJ aj ?_)
  exact vIO (by unfold dZ;rw[if_neg hk])
def yr:List U→Out→Prop:=fun us o=>∃n:Int,us=[.int n]∧o=.val (.bl true)
theorem gu (T:Txt K mg):a_ P w K mg base (CXF P w) 1 T.a__law_whole T.d__law_whole ["found"] (spU K (yr)):=by
 refine bn T.F__law_whole kw (fun us o h=>?_) (fun cdv A outer s H E O us o hr h=>?_)
 ·obtain ⟨n,rfl,rfl⟩:=h
  rfl
 obtain ⟨n,rfl,rfl⟩:=h
 refine Ws.nox ?_
 refine ae (aJ (fo (aq (aC (by intro _ h;cases h) (by walk_at "kit")) rfl T.z_isinstance CL (ag (aa 0 rfl) (ag (cQ rfl T.z_int Ia) ao ah) ah)) (fun hz=>(gD (h9 (aq (aC (by intro _ h;cases h) (by walk_at "kit")) rfl T.z_isinstance CL (ag (aa 0 rfl) (ag (cQ rfl T.z_bool Hm) ao ah) ah)))))) ?_)
 exact rfl
def tL:List U→Out→Prop:=fun us o=>∃p:P2,us=[pu p]∧o=.val (.bl true)
theorem iB (T:Txt K mg):a_ P w K mg base (CXF P w) 2 T.a__law_is_point T.d__law_is_point ["found"] (spU K (tL)):=by
 refine bn T.F__law_is_point iG (fun us o h=>?_) (fun cdv A outer s H E O us o hr h=>?_)
 ·obtain ⟨p,rfl,rfl⟩:=h
  rfl
 obtain ⟨p,rfl,rfl⟩:=h
 refine Ws.nox ?_
 refine ae (aJ (fo (aq (aC (by intro _ h;cases h) (by walk_at "kit")) rfl T.z_isinstance CL (ag (aa 0 rfl) (ag (cQ rfl T.z_tuple GC) ao ah) ah)) (fun hz=>(fo (ro eo (aq (cJ rfl) rfl T.z_len Do (ag (aa 0 rfl) ao ah)) aj) (fun hz=>(fo (aM ((gu T).mono (by decide)) hr rfl T.m__law_whole T.F__law_whole.kp T.b__law_whole aI (ag (aD (aa 0 rfl) aj rfl rfl) ao cx) ⟨_,rfl,rfl⟩) (fun hz=>(gD (aM ((gu T).mono (by decide)) hr rfl T.m__law_whole T.F__law_whole.kp T.b__law_whole aI (ag (aD (aa 0 rfl) aj rfl rfl) ao cx) ⟨_,rfl,rfl⟩)))))))) ?_)
 exact rfl
def oZ:List U→Out→Prop:=fun us o=>∃P Q R:P2,us=[pu P,pu Q,pu R]∧Szp 5000 P∧Szp 5000 Q∧Szp 5000 R∧o=.val (.int (af P Q R))
theorem gq (T:Txt K mg):a_ P w K mg base (CXF P w) 1 T.a__law_cross T.d__law_cross ["one","two","three"] (spU K (oZ)):=by
 refine bn T.F__law_cross gF (fun us o h=>?_) (fun cdv A outer s H E O us o hr h=>?_)
 ·obtain ⟨P,Q,R,rfl,⟨p1,p2⟩,⟨q1,q2⟩,⟨r1,r2⟩,rfl⟩:=h
  rfl
 obtain ⟨P,Q,R,rfl,⟨p1,p2⟩,⟨q1,q2⟩,⟨r1,r2⟩,rfl⟩:=h
 refine Ws.nox ?_
 refine ae (aE (i:=3) gF.nd rfl (Or.inl rfl) (br (bD (aD (aa 1 rfl) aj rfl rfl) (aD (aa 0 rfl) aj rfl rfl)) (bD (aD (aa 2 rfl) aj rfl rfl) (aD (aa 0 rfl) aj rfl rfl)) (by walk_at "mul")) ?_)
 refine ae (aJ (bD (aa 3 rfl) (br (bD (aD (aa 1 rfl) aj rfl rfl) (aD (aa 0 rfl) aj rfl rfl)) (bD (aD (aa 2 rfl) aj rfl rfl) (aD (aa 0 rfl) aj rfl rfl)) (by walk_at "mul"))) ?_)
 exact rfl
end
section
variable {P:Cy}{w:World}{K:B2}{mg:Str→Option Value}{base:Heap}
theorem vE {pts:List P2} (h:(ST.srt pts).length=2):am pts=ST.srt pts:=by
 match e:ST.srt pts,h with
 |[a,b],_=>
  unfold am
  rw[e]
  simp[ak,aW]
def hJ (row:List P2) (j:Nat):List P2:=if j=0 then [] else if j=1 then (ak row).reverse.dropLast else (ak row).reverse.dropLast++(ak row.reverse).reverse.dropLast
def ku:List U→Out→Prop:=fun us o=>∃pts:List P2,us=[lp pts]∧(∀p∈pts,Szp 5000 p)∧pts.length < 64∧o=.val (lp (am pts))
theorem iY (T:Txt K mg):a_ P w K mg base (CXF P w) 2 T.a__law_corners T.d__law_corners ["points"] (spU K (ku)):=by
 refine bn T.F__law_corners bp (fun us o h=>?_) (fun cdv A outer s H E O us o hr h=>?_)
 ·obtain ⟨pts,rfl,sz,hl,rfl⟩:=h
  rfl
 obtain ⟨pts,rfl,sz,hl,rfl⟩:=h
 refine Ws.nox ?_
 have sl:=ST.srt_len pts
 have hms:(((ST.srt pts).map pu).length:Int)=((ST.srt pts).length:Int):=by rw[B3]
 have szs:=v0 sz
 have b1:=fC (ST.srt pts)
 have b2:=fC (ST.srt pts).reverse
 rw[Dl] at b2
 refine ae (aE (i:=1) bp.nd rfl (Or.inl rfl) (EvN.ev (gU rfl (kF hr) rfl T.z_sorted rfl T.z_set (aa 0 rfl) (by lia) ah)) ?_)
 by_cases h1:(ST.srt pts).length < 3
 ·have ec:am pts=ST.srt pts:=by
   by_cases h2:(ST.srt pts).length=2
   ·exact vE h2
   ·exact dU (by lia)
  refine ae (cS (aT ij (aq (cJ rfl) rfl T.z_len Do (ag (aa 1 rfl) ao ah)) aj) (by rw[hms];exact decide_eq_true (by lia)) ?_)
  refine ae (aJ (aa 1 rfl) ?_)
  rw[ec]
 ·have ec:am pts=hJ (ST.srt pts) 2:=by unfold am hJ;rw[if_neg (by lia)];rfl
  rw[ec]
  refine ae (dm (aT ij (aq (cJ rfl) rfl T.z_len Do (ag (aa 1 rfl) ao ah)) aj) (by rw[hms];exact decide_eq_false (by lia)) (aH ?_))
  generalize ST.srt pts=row at *
  refine ae (aE (i:=2) bp.nd rfl (Or.inl rfl) (EvN.ev (dO bT)) ?_)
  refine ae (fI (fun j:Nat=>[some (.val (lp pts)),some (.val (lp row)),some (.val (lp (hJ row j))),none,none,none]) (fun i j=>i=j) rfl PassesOwn.never (cW (EvN.ev (dO (aA (aa 1 rfl) (aA (EvN.ev (sU rfl rfl T.z_list rfl T.z_reversed (aa 1 rfl) ah)) bT dB) ah))) (.inl rfl)) ?h0 ?hs ?hd)
  case h0=>exact ⟨0,rfl,rfl,rfl,rfl,trivial⟩
  case hs=>
   rintro H0 j x _ hx rfl
   have hz:∃w:List P2,x=lp w∧(∀p∈w,Szp 5000 p)∧w.length≤63∧hJ row (j+1)=hJ row j++(ak w).reverse.dropLast∧(hJ row j).length≤63:=by
    match j,hx with
    |0,hx=>
     cases hx
     exact ⟨row,rfl,szs,by lia,by simp[hJ],by simp[hJ]⟩
    |1,hx=>
     have e:x=U.lst ((row.map pu).reverse):=by cases hx;rfl
     subst e
     exact ⟨row.reverse,by rw[lp,EK],fun p hp=>szs p (Cq.mp hp),by rw[Dl];lia,by simp[hJ],by simp[hJ];lia⟩
    |j+2,hx=>simp at hx
   obtain ⟨w,rfl,wz,wl,hacc,hal⟩:=hz
   refine ⟨_,(gN (i:=3) bp.nd rfl (Or.inl rfl)),?_⟩
   have bw:=fC w
   refine ae (iR (i:=4) bp.nd rfl (Or.inl rfl) (dO bT) ?_)
   refine iu (fun ps=>SubP [some (.val (lp pts)),some (.val (lp row)),some (.val (lp (hJ row j))),some (.val (lp w)),some (.own ((ak w).reverse.map pu)),none] ps) (fI (fun st:List P2=>[some (.val (lp pts)),some (.val (lp row)),some (.val (lp (hJ row j))),some (.val (lp w)),some (.own (st.reverse.map pu)),none]) (fun i st=>st=ak (w.take i)) rfl PassesOwn.never (cW (aa 3 rfl) (.inl rfl)) ?h02 ?hs2 ?hd2) ?hj
   case h02=>exact ⟨[],rfl,rfl,rfl,rfl,rfl,rfl,trivial⟩
   case hs2=>
    rintro H0 i x _ hx rfl
    obtain ⟨P,hP,mP,rfl⟩:=qU hx
    have hi:i < w.length:=aF hP
    have sP:=wz P mP
    refine ⟨_,(gN (i:=5) bp.nd rfl (Or.inl rfl)),?_⟩
    have len0:=fX w i
    refine iu (fun ps=>SubP [some (.val (lp pts)),some (.val (lp row)),some (.val (lp (hJ row j))),some (.val (lp w)),some (.own ((aW P (ak (w.take i))).reverse.map pu)),some (.val (pu P))] ps) (jB (fun s2:List P2=>[some (.val (lp pts)),some (.val (lp row)),some (.val (lp (hJ row j))),some (.val (lp w)),some (.own (s2.reverse.map pu)),some (.val (pu P))]) (fun m s2=>m=s2.length∧aW P s2=aW P (ak (w.take i))∧(∀p∈s2,p∈w)∧s2.length≤i) PassesOwn.never ?h03 ?hs3) ?hj3
    case h03=>exact ⟨_,_,⟨rfl,rfl,fun q hq=>eF w i q hq,len0⟩,rfl,rfl,rfl,rfl,rfl,rfl,trivial⟩
    case hs3=>
     rintro m s2 ⟨rfl,e2,sub,len2⟩
     match s2,e2,sub,len2 with
     |[],e2,sub,len2=>
      refine ⟨false,?_,fun h=>(nomatch h),fun h ps hps=>e2 ▸ hps⟩
      exact (Tw.t (m8 (aT iA (gR 4 rfl rfl T.z_len) aj) rfl))
     |[b],e2,sub,len2=>
      refine ⟨false,?_,fun h=>(nomatch h),fun h ps hps=>e2 ▸ hps⟩
      exact (Tw.t (m8 (aT iA (gR 4 rfl rfl T.z_len) aj) rfl))
     |b::a::r,e2,sub,len2=>
      have sa:=wz a (sub a (by simp))
      have sb:=wz b (sub b (by simp))
      have e1:decide ((1:Int) < ((((b::a::r).reverse.map pu).length:Nat):Int))=true:=decide_eq_true (by simp;lia)
      refine ⟨decide ((1:Int) < ((((b::a::r).reverse.map pu).length:Nat):Int)) && decide (af a b P≤0),?_,fun h=>?_,fun h ps hps=>?_⟩
      ·exact (Tw.t (vw (aT iA (gR 4 rfl rfl T.z_len) aj) (fun hz=>(wP (aT BW (aM ((gq T).mono (by decide)) hr rfl T.m__law_cross T.F__law_cross.kp T.b__law_cross aI (ag (rG 4 rfl (cR aj) (yZ b a r)) (ag (rG 4 rfl (cR aj) (y8 b (a::r))) (ag (aa 5 rfl) ao ah) cx) cx) ⟨a,b,P,rfl,sa,sb,sP,rfl⟩) aj)))))
      ·rw[e1,HD] at h
       have hd:=dTb h
       refine ae (yL 4 rfl (by simp) (aH ?_))
       refine ⟨_,a::r,?_,⟨rfl,?_,fun q hq=>sub q (B4 _ hq),?_⟩,rfl,rfl,rfl,rfl,?_,rfl,trivial⟩
       ·simp
       ·rw[←e2];conv=>rhs;unfold aW
        rw[if_pos hd]
       ·simp only[Dt] at *;lia
       ·exact congrArg (fun l=>some (Sl.own l)) (by simp)
      ·rw[e1,HD] at h
       have hd:=dFb h
       have e3:aW P (b::a::r)=b::a::r:=by conv=>lhs;unfold aW
                                          rw[if_neg hd]
       rw[←e2,e3]
       exact hps
    case hj3=>
     intro ps hps
     refine d7 ?_ hps
     have e4:=eZ hP
     have len3:=jd P (ak (w.take i))
     refine ae (eK 4 rfl (aa 5 rfl) (by rw[B3,Dl];exact aN (by lia)) (aH ?_))
     refine ⟨_,rfl,rfl,rfl,rfl,rfl,?_,trivial⟩
     exact congrArg (fun l=>some (Sl.own l)) (by rw[e4];simp)
   case hd2=>
    rintro st ps hst hps
    rw[hst] at hps
    rw[B3,EX] at hps
    exact hps
   case hj=>
    intro ps hps
    refine d7 ?_ hps
    refine mZ 4 rfl ?_
    refine ae (aE (i:=2) bp.nd rfl (Or.inl rfl) (EvN.ev (uZ (aa 2 rfl) (EvN.ev (f_ (aa 4 rfl) jn (gO (cR aj)) (.inl rfl))) (by rw[iH,B3,B3,EZ,Dl];exact DE (aN (by lia))))) (aH ?_))
    rw[iH,←Di,←hacc]
    exact ⟨j+1,rfl,rfl,rfl,rfl,trivial⟩
  case hd=>
   rintro q ps hq hps
   refine d7 ?_ hps
   have:q=2:=by rw[←hq];rfl
   subst this
   refine ae (aJ (aa 2 rfl) ?_)
   exact rfl
end
section
variable {P:Cy}{w:World}{K:B2}{mg:Str→Option Value}{base:Heap}
def jI (l:List P2) (p:P2):Bool:=decide (∀s∈pvl l,0≤af s.1 s.2 p)
def p9:List U→Out→Prop:=fun us o=>∃(l:List P2) (p:P2),us=[lp l,pu p]∧l.length≤900∧(∀q∈l,Szp 2500 q)∧Szp 2500 p∧o=.val (.bl (jI l p))
theorem ko (T:Txt K mg):a_ P w K mg base (CXF P w) 2 T.a__law_holds T.d__law_holds ["ends","spot"] (spU K (p9)):=by
 refine bn T.F__law_holds gA (fun us o h=>?_) (fun cdv A outer s H E O us o hr h=>?_)
 ·obtain ⟨l,p,rfl,hl,sz,sp,rfl⟩:=h
  rfl
 obtain ⟨l,p,rfl,hl,sz,sp,rfl⟩:=h
 refine Ws.nox ?_
 have hm:((l.map pu).length:Int)=(l.length:Int):=by rw[B3]
 refine ae (fI (fun _:Unit=>[some (.val (lp l)),some (.val (pu p)),none]) (fun i _=>∀j,j < i→0≤af (prv l j) (gp l j) p) rfl PassesOwn.never (wc rfl T.z_range (ag (aq (cJ rfl) rfl T.z_len Do (ag (aa 0 rfl) ao ah)) ao dB) (by rw[hm];lia) (by rw[hm];lia)) ?h0 ?hs ?hd)
 case h0=>exact ⟨(),fun j hj=>by lia,rfl,rfl,trivial⟩
 case hs=>
  rintro H0 i x _ hx I
  obtain ⟨hi,rfl⟩:=dR hx
  have hi':i < l.length:=by rw[hm] at hi;lia
  refine ⟨_,(gN (i:=2) gA.nd rfl (Or.inl rfl)),?_⟩
  refine ae (ie (aT ij (aM ((gq T).mono (by decide)) hr rfl T.m__law_cross T.F__law_cross.kp T.b__law_cross aI (ag (aD (aa 0 rfl) (bD (aa 2 rfl) aj) rfl (zV hi')) (ag (aD (aa 0 rfl) (aa 2 rfl) rfl (q_ (i:=i) (by lia) hi')) (ag (aa 1 rfl) ao ah) cx) cx) ⟨_,_,p,rfl,Szp.mono (sz _ (xq hi')) (by decide),Szp.mono (sz _ (fe hi')) (by decide),Szp.mono sp (by decide),rfl⟩) aj) (fun hT=>?_) (fun hF=>(aH (aH ?_))))
  ·have h:=dTb hT
   refine ae (aJ iK ?_)
   refine vB (Eq.symm (decide_eq_false fun z=>?_))
   have:=z (prv l i,gp l i) (B8.mpr ⟨i,Cr.mpr hi',rfl⟩)
   dsimp only at this;lia
  ·have h:=dFb hF
   refine ⟨(),fun j hj=>?_,rfl,rfl,trivial⟩
   by_cases hji:j < i
   ·exact I j hji
   ·have:j=i:=by lia
    subst this;lia
 case hd=>
  rintro _ ps I hps
  refine d7 ?_ hps
  refine ae (aJ iK ?_)
  refine vB (Eq.symm (decide_eq_true fun s hs=>?_))
  obtain ⟨j,hj,rfl⟩:=B8.mp hs
  exact I j (by rw[bY,hm];have:=Cr.mp hj;lia)
end
section
variable {P:Cy}{w:World}{K:B2}{mg:Str→Option Value}{base:Heap}
def iZ (a y:Int) (j:Nat):List P2:=(fJ y j).map fun b=>(a,b)
theorem lC (a:Int) (n:Nat):fJ a (n+1)=fJ a n++[a+(n:Int)]:=by
 unfold fJ
 rw[GW,Di];rfl
theorem sj (a y:Int) (j:Nat):iZ a y (j+1)=iZ a y j++[(a,y+(j:Int))]:=by
 unfold iZ
 rw[lC,Di];rfl
theorem iq (x:Int) (n:Nat) (y:Int) (m:Nat):gP x (n+1) y m=gP x n y m++iZ (x+(n:Int)) y m:=by
 unfold gP iZ
 rw[lC,Di,HS]
 congr 1
 show [List.map _ _].flatten=_
 rw[Kw,List.flatten_nil,DG]
theorem nM (a y:Int) (j:Nat):(iZ a y j).length=j:=by unfold iZ fJ;simp
theorem j_ (x:Int) (y:Int) (m:Nat):∀n:Nat,(gP x n y m).length=n*m
 |0=>by unfold gP fJ;simp
 |n+1=>by rw[iq,CW,j_ x y m n,nM,Nat.succ_mul]
theorem mL {n:Nat}{x a b:Int} (ha:Sz n a) (hb:Sz n b) (h1:a≤x) (h2:x≤b):Sz n x:=by
 rcases DO x 0 with z |z
 ·exact ha.natle (by lia)
 ·exact hb.natle (by lia)
theorem xF {l:List P2} (hne:l≠[]) (h:∀p∈l,Szp 150 p):loX l≤hiX l∧loY l≤hiY l∧Sz 150 (loX l)∧Sz 150 (hiX l)∧Sz 150 (loY l)∧Sz 150 (hiY l):=by
 have hx:l.map (·.1)≠[]:=by simpa using hne
 have hy:l.map (·.2)≠[]:=by simpa using hne
 obtain ⟨q1,m1,e1⟩:=B8.mp (bL hx).1
 obtain ⟨q2,m2,e2⟩:=B8.mp (b_ hx).1
 obtain ⟨q3,m3,e3⟩:=B8.mp (bL hy).1
 obtain ⟨q4,m4,e4⟩:=B8.mp (b_ hy).1
 have l1:=(bL hx).2 _ (b_ hx).1
 have l2:=(bL hy).2 _ (b_ hy).1
 refine ⟨l1,l2,?_,?_,?_,?_⟩
 ·unfold loX;rw[←e1];exact (h q1 m1).1
 ·unfold hiX;rw[←e2];exact (h q2 m2).1
 ·unfold loY;rw[←e3];exact (h q3 m3).2
 ·unfold hiY;rw[←e4];exact (h q4 m4).2
theorem vX {a b:P2} (h:a.1 < b.1∨(a.1=b.1∧a.2 < b.2)):ST.ltP a b=true:=by
 cases e:ST.ltP a b with
 |true=>rfl
 |false=>rw[ST.ltP_no] at e;lia
theorem qZ (x y:Int) (m:Nat):∀n,(gP x n y m).Pairwise (fun a b=>ST.ltP a b=true)
 |0=>by unfold gP fJ;simp
 |n+1=>by
  rw[iq,Dv]
  refine ⟨qZ x y m n,?_,fun a ha b hb=>?_⟩
  ·unfold iZ fJ
   rw[Dj,Df]
   refine MM (R:=fun i j:Nat=>i < j) ?_ GZ
   intro i j h
   exact vX (.inr ⟨rfl,show y+(i:Int) < y+(j:Int) by lia⟩)
  ·have k:=nC.mp ha
   obtain ⟨z,_,rfl⟩:=B8.mp hb
   exact vX (.inl (by dsimp only;lia))
def nv:List U→Out→Prop:=fun us o=>∃l:List P2,us=[lp l]∧l≠[]∧l.length≤60∧(∀q∈l,Szp 150 q)∧hiX l - loX l≤12∧hiY l - loY l≤12∧o=.new (((box l).filter (jI l)).map pu)
theorem kl (T:Txt K mg):a_ P w K mg base (CXF P w) 3 T.a__law_walked T.d__law_walked ["ends"] (spU K (nv)):=by
 refine bn T.F__law_walked bj (fun us o h=>?_) (fun cdv A outer s H E O us o hr h=>?_)
 ·obtain ⟨l,rfl,hne,hl,hs,wX,wY,rfl⟩:=h
  rfl
 obtain ⟨l,rfl,hne,hl,hs,wX,wY,rfl⟩:=h
 refine Ws.nox ?_
 have sz:∀q∈l,Szp 2500 q:=fun q hq=>Szp.mono (hs q hq) (by decide)
 have hx:l.map (·.1)≠[]:=by simpa using hne
 have hy:l.map (·.2)≠[]:=by simpa using hne
 refine ae (kZ (ys:=((l.map (·.1)).map U.int)) (j:=1) false rfl bj.nd rfl (Or.inl rfl) (blk (ai bu) ["ends","xs","spot","ys","some","x","y"] [2] rfl rfl rfl rfl (by decide+kernel)) (cW (aa 0 rfl) (.inl rfl)) (fun _ _ _ _=>bM (i:=2) bj.nd rfl (Or.inl rfl)) (cI (by decide)) ?clen ?csz (fun _ _=>trivial) ?celt ?_)
 case clen=>simp
 case csz=>rw[B3];exact DE (aN (by lia))
 case celt=>
  intro C s' H' fp j x y hx hy
  rw[Dj] at hy
  obtain ⟨p,hp,mp,rfl,rfl⟩:=fc hx hy
  exact (aD (aa 2 rfl) aj rfl rfl)
 refine ae (kZ (ys:=((l.map (·.2)).map U.int)) (j:=3) false rfl bj.nd rfl (Or.inl rfl) (blk (ai bu) ["ends","xs","spot","ys","some","x","y"] [2] rfl rfl rfl rfl (by decide+kernel)) (cW (aa 0 rfl) (.inl rfl)) (fun _ _ _ _=>bM (i:=2) bj.nd rfl (Or.inl rfl)) (cI (by decide)) ?clen ?csz (fun _ _=>trivial) ?celt ?_)
 case clen=>simp
 case csz=>rw[B3];exact DE (aN (by lia))
 case celt=>
  intro C s' H' fp j x y hx hy
  rw[Dj] at hy
  obtain ⟨p,hp,mp,rfl,rfl⟩:=fc hx hy
  exact (aD (aa 2 rfl) aj rfl rfl)
 obtain ⟨bx,by',zx0,zx1,zy0,zy1⟩:=xF hne hs
 have nX:bxN l≤13:=by unfold bxN;lia
 have nY:byN l≤13:=by unfold byN;lia
 refine ae (iR (i:=4) bj.nd rfl (Or.inl rfl) (dO bT) ?_)
 refine ae (fI (fun i:Nat=>[some (.val (lp l)),some (.val (.lst ((l.map (·.1)).map U.int))),none,some (.val (.lst ((l.map (·.2)).map U.int))),some (.own (((gP (loX l) i (loY l) (byN l)).filter (jI l)).map pu)),none,none]) (fun i j=>i=j) rfl PassesOwn.never (io rfl T.z_range (ag (aq (qg rfl (bL hx)) rfl T.z_min Mj (ag (aa 1 rfl) ao ah)) (ag (cu (aq (mX rfl (b_ hx)) rfl T.z_max KW (ag (aa 1 rfl) ao ah)) aj) ao bS) dB)) ?h0 ?hs ?hd)
 case h0=>exact ⟨0,rfl,rfl,rfl,rfl,rfl,trivial⟩
 case hs=>
  rintro H0 i x _ hx' rfl
  obtain ⟨hi,rfl⟩:=dR hx'
  have hi':i < bxN l:=hi
  refine ⟨_,(gN (i:=5) bj.nd rfl (Or.inl rfl)),?_⟩
  rw[show lW (l.map (·.1))=loX l from rfl]
  refine ae (fI (fun j:Nat=>[some (.val (lp l)),some (.val (.lst ((l.map (·.1)).map U.int))),none,some (.val (.lst ((l.map (·.2)).map U.int))),some (.own (((gP (loX l) i (loY l) (byN l)++iZ (loX l+(i:Int)) (loY l) j).filter (jI l)).map pu)),some (.val (.int (loX l+(i:Int)))),none]) (fun i j=>i=j) rfl PassesOwn.never (io rfl T.z_range (ag (aq (qg rfl (bL hy)) rfl T.z_min Mj (ag (aa 3 rfl) ao ah)) (ag (cu (aq (mX rfl (b_ hy)) rfl T.z_max KW (ag (aa 3 rfl) ao ah)) aj) ao bS) dB)) ?h02 ?hs2 ?hd2)
  case h02=>
   refine ⟨0,rfl,rfl,rfl,rfl,?_,rfl,trivial⟩
   exact congrArg (fun z=>some (Sl.own z)) (show _=(List.filter (jI l) (_++[])).map pu by rw[DG])
  case hs2=>
   rintro H1 j y _ hy' rfl
   obtain ⟨hj,rfl⟩:=dR hy'
   have hj':j < byN l:=hj
   refine ⟨_,(gN (i:=6) bj.nd rfl (Or.inl rfl)),?_⟩
   rw[show lW (l.map (·.2))=loY l from rfl]
   have pz:Szp 2500 (loX l+(i:Int),loY l+(j:Int)):=by
    have hi2:(i:Int) < hiX l+1 - loX l:=by unfold bxN at hi';lia
    have hj2:(j:Int) < hiY l+1 - loY l:=by unfold byN at hj';lia
    have u1:Sz 150 (loX l+(i:Int)):=mL zx0 zx1 (by lia) (by lia)
    have u2:Sz 150 (loY l+(j:Int)):=mL zy0 zy1 (by lia) (by lia)
    exact ⟨u1.mono (by decide),u2.mono (by decide)⟩
   have st:iZ (loX l+(i:Int)) (loY l) (j+1)=iZ (loX l+(i:Int)) (loY l) j++[(loX l+(i:Int),loY l+(j:Int))]:=sj _ _ _
   have room:(((gP (loX l) i (loY l) (byN l)++iZ (loX l+(i:Int)) (loY l) j).filter (jI l)).map pu).length≤200:=by
    rw[B3]
    refine DZ (FY _ _) ?_
    rw[CW,j_,nM]
    have:i*byN l≤13*13:=LO (by lia) nY
    lia
   refine ae (ie (dS (aM ((ko T).mono (by decide)) hr rfl T.m__law_holds T.F__law_holds.kp T.b__law_holds aI (ag (aa 0 rfl) (ag (cM (aA (aa 5 rfl) (aA (aa 6 rfl) bT ah) ah)) ao uX) ah) ⟨l,(loX l+(i:Int),loY l+(j:Int)),rfl,by lia,sz,pz,rfl⟩)) (fun hT=>?_) (fun hF=>(aH (aH ?_))))
   ·refine ae (eK 4 rfl (cM (aA (aa 5 rfl) (aA (aa 6 rfl) bT ah) ah)) (aN (by lia)) (aH (aH ?_)))
    refine ⟨j+1,rfl,rfl,rfl,rfl,?_,rfl,trivial⟩
    refine congrArg (fun z=>some (Sl.own z)) ?_
    rw[st,←CA,GX (p:=jI l) (l₁:=_++_),Di,DR hT]
    rfl
   ·refine ⟨j+1,rfl,rfl,rfl,rfl,?_,rfl,trivial⟩
    refine congrArg (fun z=>some (Sl.own z)) ?_
    rw[st,←CA,GX (p:=jI l) (l₁:=_++_),DQ (by rw[hF];decide)]
    simp
  case hd2=>
   rintro q ps hq hps
   rw[bY] at hq
   have:q=byN l:=hq.symm
   subst this
   refine aH ?_
   refine ⟨i+1,rfl,SubP.trans ?_ hps⟩
   refine ⟨rfl,rfl,rfl,?_,trivial⟩
   exact congrArg (fun z=>some (Sl.own z)) (by rw[iq])
 case hd=>
  rintro q ps hq hps
  refine d7 ?_ hps
  rw[bY] at hq
  have:q=bxN l:=hq.symm
  subst this
  refine ae (qc 4 rfl ?_)
  exact rfl
theorem xX {l:List P2} (F:Fld l) (p:P2):p∈(box l).filter (jI l)↔cP l p=true:=by
 rw[CS]
 unfold jI
 rw[decide_eq_true_iff]
 have hs:(∀s∈pvl l,0≤af s.1 s.2 p)↔∀s∈sdl l,0≤af s.1 s.2 p:=⟨fun h s m=>h s ((fh s).mpr m),fun h s m=>h s ((fh s).mp m)⟩
 rw[hs]
 rcases F.cases with ⟨A,rfl⟩ |⟨A,B,rfl,lt⟩ |h3
 ·rw[lN,iy,w_]
  simp
  intro e
  subst e
  unfold af;grind
 ·rw[mq,jb lt,←g6 lt,i7]
  simp
  intro _
  have e:af B A p=-af A B p:=by unfold af;grind
  lia
 ·have c3:3≤l.length:=by rw[←F.cr];exact h3
  rw[gK c3]
  exact ⟨fun h=>h.2,fun h=>⟨by have:=ig h3 (p:=p) (by rw[F.cr];exact h);rwa [F.cr] at this,h⟩⟩
theorem sG {l:List P2} (F:Fld l):(box l).filter (jI l)=g5 l:=by
 rw[←lY F (xX F)]
 refine ST.asc_one (JF _ (qZ _ _ _ _)) (ST.srt_asc _) fun z=>?_
 rw[ST.srt_mem]
end
section
variable {P:Cy}{w:World}{K:B2}{mg:Str→Option Value}{base:Heap}
theorem Av (l:List U):gJ l (some 3) (some 60)=(l.drop 3).take 57:=by
 unfold gJ
 rw[show HT.sIx l.length 0 (some 3)=min 3 l.length from rfl,show HT.sIx l.length l.length (some 60)=min 60 l.length from rfl]
 by_cases h5:3≤l.length
 ·rw[Ll h5]
  by_cases h60:60≤l.length
  ·rw[Ll h60]
  ·rw[Nat.min_eq_right (by lia),Fc (by simp),Fc (by simp;lia)]
 ·rw[I0 (by lia),I0 (by lia)];simp
def eC (ns:List Int):List Int:=if (ns.drop 3).take 57=[] then [0] else (ns.drop 3).take 57
def eW (ns:List Int):Int:=if dZ ns 0 / 98 % 8=1 then 8+dZ ns 0 % 6 else 1+dZ ns 0 % 7
def eH (ns:List Int):Int:=if dZ ns 0 / 98 % 8=1 then 8+dZ ns 0 / 6 % 6 else 1+dZ ns 0 / 7 % 7
def eX (ns:List Int):Int:=if dZ ns 0 / 49 % 2=1 then dZ ns 1 % (2*10 ^ (30:Int).toNat+1) - 10 ^ (30:Int).toNat else 0
def eY (ns:List Int):Int:=if dZ ns 0 / 49 % 2=1 then dZ ns 2 % (2*10 ^ (30:Int).toNat+1) - 10 ^ (30:Int).toNat else 0
def eP (ns:List Int):List P2:=(eC ns).map fun c=>(eX ns+c % eW ns,eY ns+c / eW ns % eH ns)
theorem zb {ns:List Int} (hB:∀m∈ns,Sz 1048576 m):(eC ns).length≤57∧eC ns≠[]∧∀c∈eC ns,Sz 1048576 c:=by
 unfold eC
 split
 ·exact ⟨by simp,by simp,fun c hc=>by simp at hc;rw[hc];exact Sz.mono (m:=8) (by decide) (by decide)⟩
 ·rename_i h
  exact ⟨by simp;lia,h,fun c hc=>hB c (EI (Gi hc))⟩
theorem eWH (ns:List Int):(0 < eW ns∧eW ns≤13)∧0 < eH ns∧eH ns≤13:=by unfold eW eH;split <;>lia
theorem s30 (c:Int):Sz 101 (c % (2*10 ^ (30:Int).toNat+1) - 10 ^ (30:Int).toNat):=by
 have h1:=EC c (show (2*10 ^ (30:Int).toNat+1:Int)≠0 by decide+kernel)
 have h2:=DH c (show (0:Int) < 2*10 ^ (30:Int).toNat+1 by decide+kernel)
 have z:Sz 101 ((10:Int) ^ (30:Int).toNat):=by decide+kernel
 exact z.natle (by lia)
theorem zM (ns:List Int):Sz 101 (eX ns)∧Sz 101 (eY ns):=by
 unfold eX eY
 split
 ·exact ⟨s30 _,s30 _⟩
 ·exact ⟨Sz.mono (m:=8) (by decide) (by decide),Sz.mono (m:=8) (by decide) (by decide)⟩
def Wn (a b:Int) (p:P2):Prop:=a≤p.1∧p.1≤a+12∧b≤p.2∧p.2≤b+12
theorem yV (ns:List Int):∀p∈eP ns,Wn (eX ns) (eY ns) p:=fun p hp=>by
 obtain ⟨c,_,rfl⟩:=B8.mp hp
 obtain ⟨w0,h0⟩:=eWH ns
 have a1:=EC c (show eW ns≠0 by lia)
 have a2:=DH c w0.1
 have b1:=EC (c / eW ns) (show eH ns≠0 by lia)
 have b2:=DH (c / eW ns) h0.1
 unfold Wn
 dsimp only
 lia
theorem yO {ns:List Int}{p:P2} (h:Wn (eX ns) (eY ns) p):Szp 150 p:=by
 obtain ⟨zx,zy⟩:=zM ns
 have s12:Sz 101 (12:Int):=Sz.mono (m:=8) (by decide) (by decide)
 unfold Wn at h
 exact ⟨(mL (zx.mono (n:=102) (by decide)) (L2.Sz.add' zx s12) h.1 h.2.1).mono (by decide),(mL (zy.mono (n:=102) (by decide)) (L2.Sz.add' zy s12) h.2.2.1 h.2.2.2).mono (by decide)⟩
theorem zO {a b:Int}{l:List P2} (hne:l≠[]) (h:∀p∈l,Wn a b p):hiX l - loX l≤12∧hiY l - loY l≤12:=by
 have hx:l.map (·.1)≠[]:=by simpa using hne
 have hy:l.map (·.2)≠[]:=by simpa using hne
 obtain ⟨q1,m1,e1⟩:=B8.mp (bL hx).1
 obtain ⟨q2,m2,e2⟩:=B8.mp (b_ hx).1
 obtain ⟨q3,m3,e3⟩:=B8.mp (bL hy).1
 obtain ⟨q4,m4,e4⟩:=B8.mp (b_ hy).1
 have n1:=h _ m1
 have n2:=h _ m2
 have n3:=h _ m3
 have n4:=h _ m4
 unfold Wn at n1 n2 n3 n4
 unfold loX hiX loY hiY
 lia
theorem rX (l:List Int):eqW (.lst (l.map U.int)) (.lst [])=decide (l=[]):=by
 cases l with
 |nil=>rfl
 |cons a l=>simp[eqW,eqWs]
def t_:List U→Out→Prop:=fun us o=>∃ns:List Int,us=[.scr (ns.map U.int)]∧(∀m∈ns,Sz 1048576 m)∧o=.val (lp (am (eP ns)))
theorem mG (T:Txt K mg):a_ P w K mg base (CXF P w) 3 T.a__law_ends T.d__law_ends ["script"] (spU K (t_)):=by
 refine bn T.F__law_ends aQ (fun us o h=>?_) (fun cdv A outer s H E O us o hr h=>?_)
 ·obtain ⟨ns,rfl,hB,rfl⟩:=h
  rfl
 obtain ⟨ns,rfl,hB,rfl⟩:=h
 refine Ws.nox ?_
 obtain ⟨w0,h0⟩:=eWH ns
 have wz:Sz 9000 (eW ns):=Sz.mono (m:=8) (by unfold Sz;lia) (by decide)
 obtain ⟨k1,k2,k3⟩:=zb hB
 have wn:=yV ns
 refine ae (aE (i:=1) aQ.nd rfl (Or.inl rfl) (aM ((dC T).mono (by decide)) hr rfl T.m__law_cell_at T.F__law_cell_at.kp T.b__law_cell_at aI (ag (aa 0 rfl) (ag aj ao fF) ah) ⟨ns,_,rfl,by decide,rfl⟩) ?_)
 refine ae (aE (i:=2) aQ.nd rfl (Or.inr rfl) (cu aj (fm (aa 1 rfl) aj (by walk_at "mod"))) ?_)
 refine ae (aE (i:=3) aQ.nd rfl (Or.inr rfl) (cu aj (fm (fq (aa 1 rfl) aj (by walk_at "div")) aj (by walk_at "mod"))) ?_)
 refine iu (fun ps=>SubP [some (.val (.scr (ns.map U.int))),some (.val (.int (dZ ns 0))),some (.val (.int (eW ns))),some (.val (.int (eH ns))),none,none,none,none] ps) (ie (aT eo (fm (fq (aa 1 rfl) aj (by walk_at "div")) aj (by walk_at "mod")) aj) (fun hT=>?_) (fun hF=>(aH ?_))) ?hj
 ·have e1:eW ns=8+dZ ns 0 % 6:=by unfold eW;rw[if_pos (dTb hT)]
  have e2:eH ns=8+dZ ns 0 / 6 % 6:=by unfold eH;rw[if_pos (dTb hT)]
  refine ae (aE (i:=2) aQ.nd rfl (Or.inr rfl) (cu aj (fm (aa 1 rfl) aj (by walk_at "mod"))) ?_)
  refine ae (aE (i:=3) aQ.nd rfl (Or.inr rfl) (cu aj (fm (fq (aa 1 rfl) aj (by walk_at "div")) aj (by walk_at "mod"))) (aH ?_))
  rw[e1,e2]
  exact ⟨rfl,rfl,rfl,rfl,trivial⟩
 ·have e1:eW ns=1+dZ ns 0 % 7:=by unfold eW;rw[if_neg (dFb hF)]
  have e2:eH ns=1+dZ ns 0 / 7 % 7:=by unfold eH;rw[if_neg (dFb hF)]
  rw[e1,e2]
  exact ⟨rfl,rfl,rfl,rfl,trivial⟩
 case hj=>
  intro ps hps
  refine d7 ?_ hps
  refine ae (aE (i:=4) aQ.nd rfl (Or.inr rfl) aj ?_)
  refine ae (aE (i:=5) aQ.nd rfl (Or.inr rfl) aj ?_)
  refine iu (fun ps=>SubP [some (.val (.scr (ns.map U.int))),some (.val (.int (dZ ns 0))),some (.val (.int (eW ns))),some (.val (.int (eH ns))),some (.val (.int (eX ns))),some (.val (.int (eY ns))),none,none] ps) (ie (aT eo (fm (fq (aa 1 rfl) aj (by walk_at "div")) aj (by walk_at "mod")) aj) (fun hT=>?_) (fun hF=>(aH ?_))) ?hj2
  ·have e1:eX ns=dZ ns 1 % (2*10 ^ (30:Int).toNat+1) - 10 ^ (30:Int).toNat:=by unfold eX;rw[if_pos (dTb hT)]
   have e2:eY ns=dZ ns 2 % (2*10 ^ (30:Int).toNat+1) - 10 ^ (30:Int).toNat:=by unfold eY;rw[if_pos (dTb hT)]
   refine ae (aE (i:=4) aQ.nd rfl (Or.inr rfl) (bD (fm (aM ((dC T).mono (by decide)) hr rfl T.m__law_cell_at T.F__law_cell_at.kp T.b__law_cell_at aI (ag (aa 0 rfl) (ag aj ao fF) ah) ⟨ns,_,rfl,by decide,rfl⟩) (cu (br aj (qB aj aj ⟨by decide,by decide,by decide⟩) (by walk_at "mul")) aj) (by decide+kernel)) (qB aj aj ⟨by decide,by decide,by decide⟩)) ?_)
   refine ae (aE (i:=5) aQ.nd rfl (Or.inr rfl) (bD (fm (aM ((dC T).mono (by decide)) hr rfl T.m__law_cell_at T.F__law_cell_at.kp T.b__law_cell_at aI (ag (aa 0 rfl) (ag aj ao fF) ah) ⟨ns,_,rfl,by decide,rfl⟩) (cu (br aj (qB aj aj ⟨by decide,by decide,by decide⟩) (by walk_at "mul")) aj) (by decide+kernel)) (qB aj aj ⟨by decide,by decide,by decide⟩)) (aH ?_))
   rw[e1,e2]
   exact ⟨rfl,rfl,rfl,rfl,rfl,rfl,trivial⟩
  ·have e1:eX ns=0:=by unfold eX;rw[if_neg (dFb hF)]
   have e2:eY ns=0:=by unfold eY;rw[if_neg (dFb hF)]
   rw[e1,e2]
   exact ⟨rfl,rfl,rfl,rfl,rfl,rfl,trivial⟩
  case hj2=>
   intro ps hps
   refine d7 ?_ hps
   refine ae (aE (i:=6) aQ.nd rfl (Or.inl rfl) (EvN.ev (f_ (aa 0 rfl) (gO aj) (gO aj) (.inr rfl))) ?_)
   rw[Av,←J2,←J0]
   refine iu (fun ps=>SubP [some (.val (.scr (ns.map U.int))),some (.val (.int (dZ ns 0))),some (.val (.int (eW ns))),some (.val (.int (eH ns))),some (.val (.int (eX ns))),some (.val (.int (eY ns))),some (.val (.lst ((eC ns).map U.int))),none] ps) (ie (aT (Bo (kF hr) (nj fun _=>rfl) rfl) (aa 6 rfl) (EvN.ev (dO bT))) (fun hT=>?_) (fun hF=>(aH ?_))) ?hj3
   ·rw[rX] at hT
    have e:eC ns=[0]:=by unfold eC;rw[if_pos (dTb hT)]
    refine ae (aE (i:=6) aQ.nd rfl (Or.inl rfl) (EvN.ev (dO (aA aj bT fF))) (aH ?_))
    rw[e]
    exact ⟨rfl,rfl,rfl,rfl,rfl,rfl,rfl,trivial⟩
   ·rw[rX] at hF
    have e:eC ns=(ns.drop 3).take 57:=by unfold eC;rw[if_neg (dFb hF)]
    rw[e]
    exact ⟨rfl,rfl,rfl,rfl,rfl,rfl,rfl,trivial⟩
   case hj3=>
    intro ps hps
    refine d7 ?_ hps
    refine ae (aJ (aM ((iY T).mono (by decide)) hr rfl T.m__law_corners T.F__law_corners.kp T.b__law_corners aI (ag (EvN.ev (fT (ys:=((eP ns).map pu)) rfl (blk (ai bW) ["script","shape","wide","high","x","y","cells","cell"] [7] rfl rfl rfl rfl (by decide+kernel)) (cW (aa 6 rfl) (.inl rfl)) (fun _ _ _ _=>bM (i:=7) aQ.nd rfl (Or.inl rfl)) (cI (by decide)) ?clen ?csz (fun _ _=>trivial) ?celt)) ao d6) ⟨eP ns,rfl,fun p hp=>Szp.mono (yO (wn p hp)) (by decide),by unfold eP;rw[B3];lia,rfl⟩) ?_)
    case clen=>unfold eP;simp
    case csz=>rw[B3];exact DE (aN (by lia))
    case celt=>
     intro C s' H' fp j x y hx hy
     unfold eP at hy
     rw[Dj] at hy
     rw[Cb] at hx hy
     cases e:(eC ns)[j]? with
     |none=>rw[e] at hx;cases hx
     |some c=>
      rw[e] at hx hy
      cases hx
      cases hy
      have cz:=k3 c (Cu e)
      exact (cM (aA (cu (aa 4 rfl) (fm (aa 7 rfl) (aa 2 rfl) w0.1)) (aA (cu (aa 5 rfl) (fm (fq (aa 7 rfl) (aa 2 rfl) ⟨w0.1,wz⟩) (aa 3 rfl) h0.1)) bT bS) bS))
    exact rfl
end
section
variable {P:Cy}{w:World}{K:B2}{mg:Str→Option Value}{base:Heap}
def tE:List U→Out→Prop:=fun us o=>∃R:List P2,us=[lp R,lp R]∧R.length≤900∧o=.val (.bl true)
theorem kh (T:Txt K mg):a_ P w K mg base (CXF P w) 3 T.a__law_points T.d__law_points ["found","due"] (spU K (tE)):=by
 refine bn T.F__law_points fL (fun us o h=>?_) (fun cdv A outer s H E O us o hr h=>?_)
 ·obtain ⟨R,rfl,hl,rfl⟩:=h
  rfl
 obtain ⟨R,rfl,hl,rfl⟩:=h
 refine Ws.nox ?_
 refine ae (dm (Tw.t (yd (ft (dS (aq (aC (by intro _ h;cases h) (L2.kit_list_list _)) rfl T.z_isinstance CL (ag (aa 0 rfl) (ag (cQ rfl T.z_list J4) ao ah) ah)))) (fun hz=>(um (aT (zA (kF hr) (iM _) (iM _)) (aa 0 rfl) (aa 1 rfl)))))) (show (!true || !eqW (lp R) (lp R))=false by rw[me];simp) (aH ?_))
 refine ae (aJ (ro eo (aq (cJ rfl) rfl T.z_len Do (ag (EvN.ev (xD (R.map fun p=>some (pu p)) rfl (blk (ai bI) ["found","due","spot"] [2] rfl rfl rfl rfl (by decide+kernel)) (cW (aa 0 rfl) (.inl rfl)) (fun _ _ _ _=>bM (i:=2) fL.nd rfl (Or.inl rfl)) (cI (by decide)) ?clen ?csz (fun _ _=>trivial) ?ctest ?celt)) ao d6)) (aq (cJ rfl) rfl T.z_len Do (ag (aa 1 rfl) ao ah))) ?_)
 case clen=>simp
 case csz=>rw[B3];exact DE (aN (by lia))
 case ctest=>
  intro C s' H' fp j x o hx ho
  obtain ⟨p,hp,mp,rfl⟩:=qU hx
  rw[Cb,hp] at ho
  cases ho
  exact (dS (aM ((iB T).mono (by decide)) hr rfl T.m__law_is_point T.F__law_is_point.kp T.b__law_is_point aI (ag (aa 2 rfl) ao ah) ⟨p,rfl,rfl⟩))
 case celt=>
  intro C s' H' fp j x y hx hy
  obtain ⟨p,hp,mp,rfl⟩:=qU hx
  rw[Cb,hp] at hy
  cases hy
  exact (aa 2 rfl)
 refine vB ?_
 simp
end
section
variable {P:Cy}{w:World}{K:B2}{mg:Str→Option Value}{base:Heap}
theorem Af (T:Txt K mg):a_ P w K mg base (CXF P w) 9 T.a_law T.d_law ["script"] (spU K (g8)):=by
 refine bn T.F_law ff (fun us o h=>?_) (fun cdv A outer s H E O us o hr h=>?_)
 ·obtain ⟨ns,rfl,h63,hB,rfl⟩:=h
  rfl
 obtain ⟨ns,rfl,h63,hB,rfl⟩:=h
 refine Ws.nox ?_
 obtain ⟨k1,k2,k3⟩:=zb hB
 have ene:eP ns≠[]:=by unfold eP;simpa using k2
 have el:(eP ns).length≤57:=by unfold eP;rw[B3];exact k1
 have F:Fld (am (eP ns)):=⟨ji ene,lu _⟩
 have cwn:∀p∈am (eP ns),Wn (eX ns) (eY ns) p:=fun p hp=>yV ns p (aV _ p hp)
 have cz:∀p∈am (eP ns),Szp 150 p:=fun p hp=>yO (cwn p hp)
 have cl:(am (eP ns)).length≤57:=DZ (mV _) el
 refine ae (aE (i:=1) ff.nd rfl (Or.inl rfl) (aM ((mG T).mono (by decide)) hr rfl T.m__law_ends T.F__law_ends.kp T.b__law_ends aI (ag (aa 0 rfl) ao ah) ⟨ns,rfl,hB,rfl⟩) ?_)
 generalize am (eP ns)=l at *
 obtain ⟨wX,wY⟩:=zO F.ne cwn
 have wf:=sG F
 have nX:bxN l≤13:=by unfold bxN;lia
 have nY:byN l≤13:=by unfold byN;lia
 have bl:(box l).length≤169:=by
  unfold box
  rw[j_]
  exact LO nX nY
 have wl:(g5 l).length≤169:=by rw[←wf];exact DZ (FY _ _) bl
 have cnt:jR l=((g5 l).length:Int):=by
  rw[rF F]
  unfold yf
  congr 1
  refine dX (cT (jq l) _) (by rw[←wf];exact cT (jq l) _) fun p=>?_
  rw[wq F,CS]
  exact ⟨fun h=>by simpa using h.2,fun h=>⟨F.in_box h,by rw[h];rfl⟩⟩
 refine ae (aE (i:=2) ff.nd rfl (Or.inl rfl) (EvN.ev (du ((kl T).mono (by decide)) hr rfl T.m__law_walked T.F__law_walked.kp T.b__law_walked aI (ag (aa 1 rfl) ao ah) ⟨l,rfl,F.ne,by lia,cz,wX,wY,rfl⟩)) ?_)
 rw[wf]
 refine ae (aE (i:=3) ff.nd rfl (Or.inl rfl) (EvN.ev (rc (v9 rfl) rfl T.z_list J4 (ag (aa 1 rfl) ao ah))) ?_)
 refine ae (iR (i:=4) ff.nd rfl (Or.inl rfl) (dO bT) ?_)
 refine ae (aE (i:=5) ff.nd rfl (Or.inl rfl) iK ?_)
 have hm:(((g5 l).map pu).length:Int)=((g5 l).length:Int):=by rw[B3]
 by_cases hc:100 < (g5 l).length
 ·refine ae (vy (i:=4) rfl rfl ((ly T).mono (by decide)) hr rfl T.m_stakes T.F_stakes.kp T.b_stakes (ag (aa 3 rfl) ao ah) T.x_TooMany rfl T.mx_TooMany ⟨l,rfl,F,by lia,cz,.inr ⟨by lia,rfl⟩⟩ ff.nd rfl (Or.inl rfl) (fun ea=>?_))
  refine ae (aE (i:=5) ff.nd rfl (Or.inl rfl) iK (aH ?_))
  refine ae (dm (aT (zA (kF hr) (iM _) (iM _)) (aa 3 rfl) (aa 1 rfl)) (show (!eqW (lp l) (lp l))=false by rw[me];simp) (aH ?_))
  refine ae (cS (aT iA (aq (cJ rfl) rfl T.z_len Do (ag (aa 2 rfl) ao ah)) aj) (by rw[hm];exact decide_eq_true (by lia)) ?_)
  refine ae (aJ (aa 5 rfl) ?_)
  exact vB rfl
 ·refine ae (tH (i:=4) rfl rfl ((ly T).mono (by decide)) hr rfl T.m_stakes T.F_stakes.kp T.b_stakes (ag (aa 3 rfl) ao ah) T.x_TooMany rfl T.mx_TooMany ⟨l,rfl,F,by lia,cz,.inl ⟨by lia,rfl⟩⟩ ff.nd rfl (Or.inl rfl) ?_)
  refine ae (dm (aT (zA (kF hr) (iM _) (iM _)) (aa 3 rfl) (aa 1 rfl)) (show (!eqW (lp l) (lp l))=false by rw[me];simp) (aH ?_))
  refine ae (dm (aT iA (aq (cJ rfl) rfl T.z_len Do (ag (aa 2 rfl) ao ah)) aj) (by rw[hm];exact decide_eq_false (by lia)) (aH ?_))
  refine ae (dm (Tw.t (yd (dS (aa 5 rfl)) (fun hz=>(um (ft (dS (xn 4 rfl ((kh T).mono (by decide)) hr rfl T.m__law_points T.F__law_points.kp T.b__law_points aI (ag (aa 2 rfl) ao ah) ⟨g5 l,rfl,by lia,rfl⟩))))))) (show (false || !true)=false from rfl) (aH ?_))
  refine ae (eK 4 rfl (cM (aA aj (aA aj bT fF) fF)) (by rw[B3];exact aN (by lia)) ?_)
  refine ae (aJ (ro (Bo (kF hr) (iM _) (iM _)) (aa 3 rfl) (aa 1 rfl)) ?_)
  exact vB (by rw[me];simp)
end
theorem ar1 {p:List Value→Prop}{us:List Value} (h:us.length=1) (q:∀a0,p [a0]):p us:=match us,h with |[a0],_=>q a0
theorem ar2 {p:List Value→Prop}{us:List Value} (h:us.length=2) (q:∀a0 a1,p [a0,a1]):p us:=match us,h with |[a0,a1],_=>q a0 a1
theorem ar3 {p:List Value→Prop}{us:List Value} (h:us.length=3) (q:∀a0 a1 a2,p [a0,a1,a2]):p us:=match us,h with |[a0,a1,a2],_=>q a0 a1 a2
theorem txt_mk {K:B2}{h:Heap}{mg:Str→Option Value}{fa f0 f1 f2 f3 f4 f5 f6 f7 f8 f9 f10 f11 f12 f13 f14 f15 f16 f17 f18 f19 f20 f21 f22 f23 f24 f25 f26 f27 f28 f29 f30 f31 f32 f33 f34 c_NoField c_NoMove c_TooMany:Addr} (X:K.In h) (G:h.Ns Ck mg) (hfa:mg "law"=some (.ref fa))
  {od0 an0 od1 an1 od2 an2 od3 an3 od4 an4 od5 an5 od6 an6 od7 an7 od8 an8 od9 an9 od10 an10 od11 an11 od12 an12 od13 an13 od14 an14 od15 an15 od16 an16 od17 an17 od18 an18 od19 an19 od20 an20 od21 an21 od22 an22 od23 an23 od24 an24 od25 an25 od26 an26 od27 an27 od28 an28 od29 an29 od30 an30 od31 an31 od32 an32 od33 an33 od34 an34:Option Addr}{sl0 sl1 sl2 sl3 sl4 sl5 sl6 sl7 sl8 sl9 sl10 sl11 sl12 sl13 sl14 sl15 sl16 sl17 sl18 sl19 sl20 sl21 sl22 sl23 sl24 sl25 sl26 sl27 sl28 sl29 sl30 sl31 sl32 sl33 sl34:Array (Option Value)}{oc0 kV0 dc0 pm0 cd0 ct0 oc1 kV1 dc1 pm1 cd1 ct1 oc2 kV2 dc2 pm2 cd2 ct2 oc3 kV3 dc3 pm3 cd3 ct3 oc4 kV4 dc4 pm4 cd4 ct4 oc5 kV5 dc5 pm5 cd5 ct5 oc6 kV6 dc6 pm6 cd6 ct6 oc7 kV7 dc7 pm7 cd7 ct7 oc8 kV8 dc8 pm8 cd8 ct8 oc9 kV9 dc9 pm9 cd9 ct9 oc10 kV10 dc10 pm10 cd10 ct10 oc11 kV11 dc11 pm11 cd11 ct11 oc12 kV12 dc12 pm12 cd12 ct12 oc13 kV13 dc13 pm13 cd13 ct13 oc14 kV14 dc14 pm14 cd14 ct14 oc15 kV15 dc15 pm15 cd15 ct15 oc16 kV16 dc16 pm16 cd16 ct16 oc17 kV17 dc17 pm17 cd17 ct17 oc18 kV18 dc18 pm18 cd18 ct18 oc19 kV19 dc19 pm19 cd19 ct19 oc20 kV20 dc20 pm20 cd20 ct20 oc21 kV21 dc21 pm21 cd21 ct21 oc22 kV22 dc22 pm22 cd22 ct22 oc23 kV23 dc23 pm23 cd23 ct23 oc24 kV24 dc24 pm24 cd24 ct24 oc25 kV25 dc25 pm25 cd25 ct25 oc26 kV26 dc26 pm26 cd26 ct26 oc27 kV27 dc27 pm27 cd27 ct27 oc28 kV28 dc28 pm28 cd28 ct28 oc29 kV29 dc29 pm29 cd29 ct29 oc30 kV30 dc30 pm30 cd30 ct30 oc31 kV31 dc31 pm31 cd31 ct31 oc32 kV32 dc32 pm32 cd32 ct32 oc33 kV33 dc33 pm33 cd33 ct33 oc34 kV34 dc34 pm34 cd34 ct34:Value}
  (a0:Co K Ck "is_whole"=some (some (.ref f0))) (l0:K.lookup f0=some ⟨oc0,od0,.func (CB "is_whole" "is_whole" (av cX) (au cX) (ai cX) .none kV0 dc0 pm0 an0 cd0 ct0),sl0⟩) (c0:Cv K cd0 "is_whole"=true) (k0:Cj K (.ref f0)=true)
  (a1:Co K Ck "sign"=some (some (.ref f1))) (l1:K.lookup f1=some ⟨oc1,od1,.func (CB "sign" "sign" (av iJ) (au iJ) (ai iJ) .none kV1 dc1 pm1 an1 cd1 ct1),sl1⟩) (c1:Cv K cd1 "sign"=true) (k1:Cj K (.ref f1)=true)
  (a2:Co K Ck "shares"=some (some (.ref f2))) (l2:K.lookup f2=some ⟨oc2,od2,.func (CB "shares" "shares" (av eT) (au eT) (ai eT) .none kV2 dc2 pm2 an2 cd2 ct2),sl2⟩) (c2:Cv K cd2 "shares"=true) (k2:Cj K (.ref f2)=true)
  (a3:Co K Ck "hand"=some (some (.ref f3))) (l3:K.lookup f3=some ⟨oc3,od3,.func (CB "hand" "hand" (av ip) (au ip) (ai ip) .none kV3 dc3 pm3 an3 cd3 ct3),sl3⟩) (c3:Cv K cd3 "hand"=true) (k3:Cj K (.ref f3)=true)
  (a4:Co K Ck "is_move"=some (some (.ref f4))) (l4:K.lookup f4=some ⟨oc4,od4,.func (CB "is_move" "is_move" (av cY) (au cY) (ai cY) .none kV4 dc4 pm4 an4 cd4 ct4),sl4⟩) (c4:Cv K cd4 "is_move"=true) (k4:Cj K (.ref f4)=true)
  (a5:Co K Ck "need_move"=some (some (.ref f5))) (l5:K.lookup f5=some ⟨oc5,od5,.func (CB "need_move" "need_move" (av cF) (au cF) (ai cF) .none kV5 dc5 pm5 an5 cd5 ct5),sl5⟩) (c5:Cv K cd5 "need_move"=true) (k5:Cj K (.ref f5)=true)
  (a6:Co K Ck "turned"=some (some (.ref f6))) (l6:K.lookup f6=some ⟨oc6,od6,.func (CB "turned" "turned" (av eM) (au eM) (ai eM) .none kV6 dc6 pm6 an6 cd6 ct6),sl6⟩) (c6:Cv K cd6 "turned"=true) (k6:Cj K (.ref f6)=true)
  (a7:Co K Ck "moved"=some (some (.ref f7))) (l7:K.lookup f7=some ⟨oc7,od7,.func (CB "moved" "moved" (av fZ) (au fZ) (ai fZ) .none kV7 dc7 pm7 an7 cd7 ct7),sl7⟩) (c7:Cv K cd7 "moved"=true) (k7:Cj K (.ref f7)=true)
  (a8:Co K Ck "way_back"=some (some (.ref f8))) (l8:K.lookup f8=some ⟨oc8,od8,.func (CB "way_back" "way_back" (av cU) (au cU) (ai cU) .none kV8 dc8 pm8 an8 cd8 ct8),sl8⟩) (c8:Cv K cd8 "way_back"=true) (k8:Cj K (.ref f8)=true)
  (a9:Co K Ck "steps"=some (some (.ref f9))) (l9:K.lookup f9=some ⟨oc9,od9,.func (CB "steps" "steps" (av gd) (au gd) (ai gd) .none kV9 dc9 pm9 an9 cd9 ct9),sl9⟩) (c9:Cv K cd9 "steps"=true) (k9:Cj K (.ref f9)=true)
  (a10:Co K Ck "level"=some (some (.ref f10))) (l10:K.lookup f10=some ⟨oc10,od10,.func (CB "level" "level" (av gf) (au gf) (ai gf) .none kV10 dc10 pm10 an10 cd10 ct10),sl10⟩) (c10:Cv K cd10 "level"=true) (k10:Cj K (.ref f10)=true)
  (a11:Co K Ck "turn"=some (some (.ref f11))) (l11:K.lookup f11=some ⟨oc11,od11,.func (CB "turn" "turn" (av iF) (au iF) (ai iF) .none kV11 dc11 pm11 an11 cd11 ct11),sl11⟩) (c11:Cv K cd11 "turn"=true) (k11:Cj K (.ref f11)=true)
  (a12:Co K Ck "left_bends"=some (some (.ref f12))) (l12:K.lookup f12=some ⟨oc12,od12,.func (CB "left_bends" "left_bends" (av ci) (au ci) (ai ci) .none kV12 dc12 pm12 an12 cd12 ct12),sl12⟩) (c12:Cv K cd12 "left_bends"=true) (k12:Cj K (.ref f12)=true)
  (a13:Co K Ck "field"=some (some (.ref f13))) (l13:K.lookup f13=some ⟨oc13,od13,.func (CB "field" "field" (av gc) (au gc) (ai gc) .none kV13 dc13 pm13 an13 cd13 ct13),sl13⟩) (c13:Cv K cd13 "field"=true) (k13:Cj K (.ref f13)=true)
  (a14:Co K Ck "sides"=some (some (.ref f14))) (l14:K.lookup f14=some ⟨oc14,od14,.func (CB "sides" "sides" (av fV) (au fV) (ai fV) .none kV14 dc14 pm14 an14 cd14 ct14),sl14⟩) (c14:Cv K cd14 "sides"=true) (k14:Cj K (.ref f14)=true)
  (a15:Co K Ck "double_area"=some (some (.ref f15))) (l15:K.lookup f15=some ⟨oc15,od15,.func (CB "double_area" "double_area" (av bK) (au bK) (ai bK) .none kV15 dc15 pm15 an15 cd15 ct15),sl15⟩) (c15:Cv K cd15 "double_area"=true) (k15:Cj K (.ref f15)=true)
  (a16:Co K Ck "rim"=some (some (.ref f16))) (l16:K.lookup f16=some ⟨oc16,od16,.func (CB "rim" "rim" (av jY) (au jY) (ai jY) .none kV16 dc16 pm16 an16 cd16 ct16),sl16⟩) (c16:Cv K cd16 "rim"=true) (k16:Cj K (.ref f16)=true)
  (a17:Co K Ck "field_moved"=some (some (.ref f17))) (l17:K.lookup f17=some ⟨oc17,od17,.func (CB "field_moved" "field_moved" (av bH) (au bH) (ai bH) .none kV17 dc17 pm17 an17 cd17 ct17),sl17⟩) (c17:Cv K cd17 "field_moved"=true) (k17:Cj K (.ref f17)=true)
  (a18:Co K Ck "fold"=some (some (.ref f18))) (l18:K.lookup f18=some ⟨oc18,od18,.func (CB "fold" "fold" (av gW) (au gW) (ai gW) .none kV18 dc18 pm18 an18 cd18 ct18),sl18⟩) (c18:Cv K cd18 "fold"=true) (k18:Cj K (.ref f18)=true)
  (a19:Co K Ck "multiple"=some (some (.ref f19))) (l19:K.lookup f19=some ⟨oc19,od19,.func (CB "multiple" "multiple" (av de) (au de) (ai de) .none kV19 dc19 pm19 an19 cd19 ct19),sl19⟩) (c19:Cv K cd19 "multiple"=true) (k19:Cj K (.ref f19)=true)
  (a20:Co K Ck "points_in"=some (some (.ref f20))) (l20:K.lookup f20=some ⟨oc20,od20,.func (CB "points_in" "points_in" (av cD) (au cD) (ai cD) .none kV20 dc20 pm20 an20 cd20 ct20),sl20⟩) (c20:Cv K cd20 "points_in"=true) (k20:Cj K (.ref f20)=true)
  {D21:Addr}{dod21 dn21 dsl21 dt21:_} (q21:K.lookup D21=some ⟨.type "tuple",dod21,.seq #[.int 1 dt21] dn21,dsl21⟩)
  (a21:Co K Ck "count"=some (some (.ref f21))) (l21:K.lookup f21=some ⟨oc21,od21,.func (CB "count" "count" (av cA) (au cA) (ai cA) (.ref D21) kV21 dc21 pm21 an21 cd21 ct21),sl21⟩) (c21:Cv K cd21 "count"=true) (k21:Cj K (.ref f21)=true)
  (a22:Co K Ck "row_ends"=some (some (.ref f22))) (l22:K.lookup f22=some ⟨oc22,od22,.func (CB "row_ends" "row_ends" (av cV) (au cV) (ai cV) .none kV22 dc22 pm22 an22 cd22 ct22),sl22⟩) (c22:Cv K cd22 "row_ends"=true) (k22:Cj K (.ref f22)=true)
  (a23:Co K Ck "by_rows"=some (some (.ref f23))) (l23:K.lookup f23=some ⟨oc23,od23,.func (CB "by_rows" "by_rows" (av cE) (au cE) (ai cE) .none kV23 dc23 pm23 an23 cd23 ct23),sl23⟩) (c23:Cv K cd23 "by_rows"=true) (k23:Cj K (.ref f23)=true)
  (a24:Co K Ck "stakes"=some (some (.ref f24))) (l24:K.lookup f24=some ⟨oc24,od24,.func (CB "stakes" "stakes" (av eQ) (au eQ) (ai eQ) .none kV24 dc24 pm24 an24 cd24 ct24),sl24⟩) (c24:Cv K cd24 "stakes"=true) (k24:Cj K (.ref f24)=true)
  (a25:Co K Ck "_law_cell_at"=some (some (.ref f25))) (l25:K.lookup f25=some ⟨oc25,od25,.func (CB "_law_cell_at" "_law_cell_at" (av bO) (au bO) (ai bO) .none kV25 dc25 pm25 an25 cd25 ct25),sl25⟩) (c25:Cv K cd25 "_law_cell_at"=true) (k25:Cj K (.ref f25)=true)
  (a26:Co K Ck "_law_whole"=some (some (.ref f26))) (l26:K.lookup f26=some ⟨oc26,od26,.func (CB "_law_whole" "_law_whole" (av ca) (au ca) (ai ca) .none kV26 dc26 pm26 an26 cd26 ct26),sl26⟩) (c26:Cv K cd26 "_law_whole"=true) (k26:Cj K (.ref f26)=true)
  (a27:Co K Ck "_law_is_point"=some (some (.ref f27))) (l27:K.lookup f27=some ⟨oc27,od27,.func (CB "_law_is_point" "_law_is_point" (av bC) (au bC) (ai bC) .none kV27 dc27 pm27 an27 cd27 ct27),sl27⟩) (c27:Cv K cd27 "_law_is_point"=true) (k27:Cj K (.ref f27)=true)
  (a28:Co K Ck "_law_cross"=some (some (.ref f28))) (l28:K.lookup f28=some ⟨oc28,od28,.func (CB "_law_cross" "_law_cross" (av cq) (au cq) (ai cq) .none kV28 dc28 pm28 an28 cd28 ct28),sl28⟩) (c28:Cv K cd28 "_law_cross"=true) (k28:Cj K (.ref f28)=true)
  (a29:Co K Ck "_law_corners"=some (some (.ref f29))) (l29:K.lookup f29=some ⟨oc29,od29,.func (CB "_law_corners" "_law_corners" (av bN) (au bN) (ai bN) .none kV29 dc29 pm29 an29 cd29 ct29),sl29⟩) (c29:Cv K cd29 "_law_corners"=true) (k29:Cj K (.ref f29)=true)
  (a30:Co K Ck "_law_holds"=some (some (.ref f30))) (l30:K.lookup f30=some ⟨oc30,od30,.func (CB "_law_holds" "_law_holds" (av cj) (au cj) (ai cj) .none kV30 dc30 pm30 an30 cd30 ct30),sl30⟩) (c30:Cv K cd30 "_law_holds"=true) (k30:Cj K (.ref f30)=true)
  (a31:Co K Ck "_law_walked"=some (some (.ref f31))) (l31:K.lookup f31=some ⟨oc31,od31,.func (CB "_law_walked" "_law_walked" (av bu) (au bu) (ai bu) .none kV31 dc31 pm31 an31 cd31 ct31),sl31⟩) (c31:Cv K cd31 "_law_walked"=true) (k31:Cj K (.ref f31)=true)
  (a32:Co K Ck "_law_ends"=some (some (.ref f32))) (l32:K.lookup f32=some ⟨oc32,od32,.func (CB "_law_ends" "_law_ends" (av bW) (au bW) (ai bW) .none kV32 dc32 pm32 an32 cd32 ct32),sl32⟩) (c32:Cv K cd32 "_law_ends"=true) (k32:Cj K (.ref f32)=true)
  (a33:Co K Ck "_law_points"=some (some (.ref f33))) (l33:K.lookup f33=some ⟨oc33,od33,.func (CB "_law_points" "_law_points" (av bI) (au bI) (ai bI) .none kV33 dc33 pm33 an33 cd33 ct33),sl33⟩) (c33:Cv K cd33 "_law_points"=true) (k33:Cj K (.ref f33)=true)
  (a34:Co K Ck "law"=some (some (.ref f34))) (l34:K.lookup f34=some ⟨oc34,od34,.func (CB "law" "law" (av kN) (au kN) (ai kN) .none kV34 dc34 pm34 an34 cd34 ct34),sl34⟩) (c34:Cv K cd34 "law"=true) (k34:Cj K (.ref f34)=true)
  (e_NoField:Co K Ck "NoField"=some (some (.ref c_NoField))) (x_NoField:Fh K c_NoField [.type "ValueError",.type "Exception",.type "BaseException",.type "object"] "ValueError.__new__"=true)
  (e_NoMove:Co K Ck "NoMove"=some (some (.ref c_NoMove))) (x_NoMove:Fh K c_NoMove [.type "ValueError",.type "Exception",.type "BaseException",.type "object"] "ValueError.__new__"=true)
  (e_TooMany:Co K Ck "TooMany"=some (some (.ref c_TooMany))) (x_TooMany:Fh K c_TooMany [.type "ValueError",.type "Exception",.type "BaseException",.type "object"] "ValueError.__new__"=true)
  (z_abs:Co K Ck "abs"=some none)
  (z_all:Co K Ck "all"=some none)
  (z_bool:Co K Ck "bool"=some none)
  (z_int:Co K Ck "int"=some none)
  (z_isinstance:Co K Ck "isinstance"=some none)
  (z_len:Co K Ck "len"=some none)
  (z_list:Co K Ck "list"=some none)
  (z_max:Co K Ck "max"=some none)
  (z_min:Co K Ck "min"=some none)
  (z_range:Co K Ck "range"=some none)
  (z_reversed:Co K Ck "reversed"=some none)
  (z_set:Co K Ck "set"=some none)
  (z_sorted:Co K Ck "sorted"=some none)
  (z_sum:Co K Ck "sum"=some none)
  (z_tuple:Co K Ck "tuple"=some none)
  (z_zip:Co K Ck "zip"=some none)
  {t_MOST_STAKES:_} (g_MOST_STAKES:Co K Ck "MOST_STAKES"=some (some (.int 100 t_MOST_STAKES)))
  :∃T:Txt K mg,T.a_law=fa∧(∀(s:B7) (v:Value),JL s T.d_law ⟨[v],[]⟩ [("script",v)]):=by
 have e:=hfa.symm.trans (CD X G a34)
 cases e
 have F0:=aR (st:=cX) l0 c0 k0
 have b0:=F0.binds (ps:=["thing"]) fun _ _ _ _ _ _ us hl=>ar1 (p:=fun us=>DF _ ⟨us,[]⟩=pure (C_ _ us)) hl fun _=>rfl
 have F1:=aR (st:=iJ) l1 c1 k1
 have b1:=F1.binds (ps:=["number"]) fun _ _ _ _ _ _ us hl=>ar1 (p:=fun us=>DF _ ⟨us,[]⟩=pure (C_ _ us)) hl fun _=>rfl
 have F2:=aR (st:=eT) l2 c2 k2
 have b2:=F2.binds (ps:=["a","b"]) fun _ _ _ _ _ _ us hl=>ar2 (p:=fun us=>DF _ ⟨us,[]⟩=pure (C_ _ us)) hl fun _ _=>rfl
 have F3:=aR (st:=ip) l3 c3 k3
 have b3:=F3.binds (ps:=["move"]) fun _ _ _ _ _ _ us hl=>ar1 (p:=fun us=>DF _ ⟨us,[]⟩=pure (C_ _ us)) hl fun _=>rfl
 have F4:=aR (st:=cY) l4 c4 k4
 have b4:=F4.binds (ps:=["thing"]) fun _ _ _ _ _ _ us hl=>ar1 (p:=fun us=>DF _ ⟨us,[]⟩=pure (C_ _ us)) hl fun _=>rfl
 have F5:=aR (st:=cF) l5 c5 k5
 have b5:=F5.binds (ps:=["thing"]) fun _ _ _ _ _ _ us hl=>ar1 (p:=fun us=>DF _ ⟨us,[]⟩=pure (C_ _ us)) hl fun _=>rfl
 have F6:=aR (st:=eM) l6 c6 k6
 have b6:=F6.binds (ps:=["P","move"]) fun _ _ _ _ _ _ us hl=>ar2 (p:=fun us=>DF _ ⟨us,[]⟩=pure (C_ _ us)) hl fun _ _=>rfl
 have F7:=aR (st:=fZ) l7 c7 k7
 have b7:=F7.binds (ps:=["P","move"]) fun _ _ _ _ _ _ us hl=>ar2 (p:=fun us=>DF _ ⟨us,[]⟩=pure (C_ _ us)) hl fun _ _=>rfl
 have F8:=aR (st:=cU) l8 c8 k8
 have b8:=F8.binds (ps:=["move"]) fun _ _ _ _ _ _ us hl=>ar1 (p:=fun us=>DF _ ⟨us,[]⟩=pure (C_ _ us)) hl fun _=>rfl
 have F9:=aR (st:=gd) l9 c9 k9
 have b9:=F9.binds (ps:=["P","Q"]) fun _ _ _ _ _ _ us hl=>ar2 (p:=fun us=>DF _ ⟨us,[]⟩=pure (C_ _ us)) hl fun _ _=>rfl
 have F10:=aR (st:=gf) l10 c10 k10
 have b10:=F10.binds (ps:=["P","Q"]) fun _ _ _ _ _ _ us hl=>ar2 (p:=fun us=>DF _ ⟨us,[]⟩=pure (C_ _ us)) hl fun _ _=>rfl
 have F11:=aR (st:=iF) l11 c11 k11
 have b11:=F11.binds (ps:=["P","Q","R"]) fun _ _ _ _ _ _ us hl=>ar3 (p:=fun us=>DF _ ⟨us,[]⟩=pure (C_ _ us)) hl fun _ _ _=>rfl
 have F12:=aR (st:=ci) l12 c12 k12
 have b12:=F12.binds (ps:=["row"]) fun _ _ _ _ _ _ us hl=>ar1 (p:=fun us=>DF _ ⟨us,[]⟩=pure (C_ _ us)) hl fun _=>rfl
 have F13:=aR (st:=gc) l13 c13 k13
 have b13:=F13.binds (ps:=["points"]) fun _ _ _ _ _ _ us hl=>ar1 (p:=fun us=>DF _ ⟨us,[]⟩=pure (C_ _ us)) hl fun _=>rfl
 have F14:=aR (st:=fV) l14 c14 k14
 have b14:=F14.binds (ps:=["land"]) fun _ _ _ _ _ _ us hl=>ar1 (p:=fun us=>DF _ ⟨us,[]⟩=pure (C_ _ us)) hl fun _=>rfl
 have F15:=aR (st:=bK) l15 c15 k15
 have b15:=F15.binds (ps:=["land"]) fun _ _ _ _ _ _ us hl=>ar1 (p:=fun us=>DF _ ⟨us,[]⟩=pure (C_ _ us)) hl fun _=>rfl
 have F16:=aR (st:=jY) l16 c16 k16
 have b16:=F16.binds (ps:=["land"]) fun _ _ _ _ _ _ us hl=>ar1 (p:=fun us=>DF _ ⟨us,[]⟩=pure (C_ _ us)) hl fun _=>rfl
 have F17:=aR (st:=bH) l17 c17 k17
 have b17:=F17.binds (ps:=["land","move"]) fun _ _ _ _ _ _ us hl=>ar2 (p:=fun us=>DF _ ⟨us,[]⟩=pure (C_ _ us)) hl fun _ _=>rfl
 have F18:=aR (st:=gW) l18 c18 k18
 have b18:=F18.binds (ps:=["land","k"]) fun _ _ _ _ _ _ us hl=>ar2 (p:=fun us=>DF _ ⟨us,[]⟩=pure (C_ _ us)) hl fun _ _=>rfl
 have F19:=aR (st:=de) l19 c19 k19
 have b19:=F19.binds (ps:=["land","k"]) fun _ _ _ _ _ _ us hl=>ar2 (p:=fun us=>DF _ ⟨us,[]⟩=pure (C_ _ us)) hl fun _ _=>rfl
 have F20:=aR (st:=cD) l20 c20 k20
 have b20:=F20.binds (ps:=["land"]) fun _ _ _ _ _ _ us hl=>ar1 (p:=fun us=>DF _ ⟨us,[]⟩=pure (C_ _ us)) hl fun _=>rfl
 have F21:=w4 (st:=cA) l21 c21 k21
 have b21:aG K (CB "count" "count" (av cA) (au cA) (ai cA) (.ref D21) kV21 dc21 pm21 an21 cd21 ct21) ["land","k"] []:=fun s us X hl=>match us,hl with |[_,_],_=>BindsTo.of_defaults rfl (X _ _ q21) rfl rfl rfl
 have bd21:∃t,aG K (CB "count" "count" (av cA) (au cA) (ai cA) (.ref D21) kV21 dc21 pm21 an21 cd21 ct21) ["land","k"] [.int 1 t]:=⟨dt21,fun s us X hl=>match us,(show us.length=1 by simpa using hl) with |[_],_=>BindsTo.of_defaults rfl (X _ _ q21) rfl rfl rfl⟩
 have F22:=aR (st:=cV) l22 c22 k22
 have b22:=F22.binds (ps:=["land","y"]) fun _ _ _ _ _ _ us hl=>ar2 (p:=fun us=>DF _ ⟨us,[]⟩=pure (C_ _ us)) hl fun _ _=>rfl
 have F23:=aR (st:=cE) l23 c23 k23
 have b23:=F23.binds (ps:=["land"]) fun _ _ _ _ _ _ us hl=>ar1 (p:=fun us=>DF _ ⟨us,[]⟩=pure (C_ _ us)) hl fun _=>rfl
 have F24:=aR (st:=eQ) l24 c24 k24
 have b24:=F24.binds (ps:=["land"]) fun _ _ _ _ _ _ us hl=>ar1 (p:=fun us=>DF _ ⟨us,[]⟩=pure (C_ _ us)) hl fun _=>rfl
 have F25:=aR (st:=bO) l25 c25 k25
 have b25:=F25.binds (ps:=["script","k"]) fun _ _ _ _ _ _ us hl=>ar2 (p:=fun us=>DF _ ⟨us,[]⟩=pure (C_ _ us)) hl fun _ _=>rfl
 have F26:=aR (st:=ca) l26 c26 k26
 have b26:=F26.binds (ps:=["found"]) fun _ _ _ _ _ _ us hl=>ar1 (p:=fun us=>DF _ ⟨us,[]⟩=pure (C_ _ us)) hl fun _=>rfl
 have F27:=aR (st:=bC) l27 c27 k27
 have b27:=F27.binds (ps:=["found"]) fun _ _ _ _ _ _ us hl=>ar1 (p:=fun us=>DF _ ⟨us,[]⟩=pure (C_ _ us)) hl fun _=>rfl
 have F28:=aR (st:=cq) l28 c28 k28
 have b28:=F28.binds (ps:=["one","two","three"]) fun _ _ _ _ _ _ us hl=>ar3 (p:=fun us=>DF _ ⟨us,[]⟩=pure (C_ _ us)) hl fun _ _ _=>rfl
 have F29:=aR (st:=bN) l29 c29 k29
 have b29:=F29.binds (ps:=["points"]) fun _ _ _ _ _ _ us hl=>ar1 (p:=fun us=>DF _ ⟨us,[]⟩=pure (C_ _ us)) hl fun _=>rfl
 have F30:=aR (st:=cj) l30 c30 k30
 have b30:=F30.binds (ps:=["ends","spot"]) fun _ _ _ _ _ _ us hl=>ar2 (p:=fun us=>DF _ ⟨us,[]⟩=pure (C_ _ us)) hl fun _ _=>rfl
 have F31:=aR (st:=bu) l31 c31 k31
 have b31:=F31.binds (ps:=["ends"]) fun _ _ _ _ _ _ us hl=>ar1 (p:=fun us=>DF _ ⟨us,[]⟩=pure (C_ _ us)) hl fun _=>rfl
 have F32:=aR (st:=bW) l32 c32 k32
 have b32:=F32.binds (ps:=["script"]) fun _ _ _ _ _ _ us hl=>ar1 (p:=fun us=>DF _ ⟨us,[]⟩=pure (C_ _ us)) hl fun _=>rfl
 have F33:=aR (st:=bI) l33 c33 k33
 have b33:=F33.binds (ps:=["found","due"]) fun _ _ _ _ _ _ us hl=>ar2 (p:=fun us=>DF _ ⟨us,[]⟩=pure (C_ _ us)) hl fun _ _=>rfl
 have F34:=aR (st:=kN) l34 c34 k34
 have b34:=F34.binds (ps:=["script"]) fun _ _ _ _ _ _ us hl=>ar1 (p:=fun us=>DF _ ⟨us,[]⟩=pure (C_ _ us)) hl fun _=>rfl
 exact ⟨⟨_,_,F0,b0,CD X G a0,_,_,F1,b1,CD X G a1,_,_,F2,b2,CD X G a2,_,_,F3,b3,CD X G a3,_,_,F4,b4,CD X G a4,_,_,F5,b5,CD X G a5,_,_,F6,b6,CD X G a6,_,_,F7,b7,CD X G a7,_,_,F8,b8,CD X G a8,_,_,F9,b9,CD X G a9,_,_,F10,b10,CD X G a10,_,_,F11,b11,CD X G a11,_,_,F12,b12,CD X G a12,_,_,F13,b13,CD X G a13,_,_,F14,b14,CD X G a14,_,_,F15,b15,CD X G a15,_,_,F16,b16,CD X G a16,_,_,F17,b17,CD X G a17,_,_,F18,b18,CD X G a18,_,_,F19,b19,CD X G a19,_,_,F20,b20,CD X G a20,_,_,_,F21,b21,bd21,CD X G a21,_,_,F22,b22,CD X G a22,_,_,F23,b23,CD X G a23,_,_,F24,b24,CD X G a24,_,_,F25,b25,CD X G a25,_,_,F26,b26,CD X G a26,_,_,F27,b27,CD X G a27,_,_,F28,b28,CD X G a28,_,_,F29,b29,CD X G a29,_,_,F30,b30,CD X G a30,_,_,F31,b31,CD X G a31,_,_,F32,b32,CD X G a32,_,_,F33,b33,CD X G a33,_,_,F34,b34,CD X G a34,_,x_NoField,CD X G e_NoField,_,x_NoMove,CD X G e_NoMove,_,x_TooMany,CD X G e_TooMany,De X G z_abs,De X G z_all,De X G z_bool,De X G z_int,De X G z_isinstance,De X G z_len,De X G z_list,De X G z_max,De X G z_min,De X G z_range,De X G z_reversed,De X G z_set,De X G z_sorted,De X G z_sum,De X G z_tuple,De X G z_zip,⟨_,CD X G g_MOST_STAKES⟩⟩,rfl,fun s v=>.of_eq rfl⟩
abbrev spLaw (K:B2):Sp:=spU K g8
theorem law_start (K:B2) (H:Hp) (a:Addr) (ns:List Int) (h1:ns.length≤63) (h2:∀m∈ns,Sz 1048576 m) (_:xW H) (h3:SqL K H a (ns.map V.int)):spLaw K [.ref a] H (fun v _=>v=.bl true) fun _ _ _=>False:=tT h1 h2 h3
theorem law_ok {P:Cy}{w:World}{K:B2}{mg:Str→Option Value}{fa:Addr} (h:∃T:Txt K mg,T.a_law=fa∧(∀(s:B7) (v:Value),JL s T.d_law ⟨[v],[]⟩ [("script",v)])):
  ∃fd:CN,(∀(s:B7) (u:Value),JL s fd ⟨[u],[]⟩ [("script",u)])∧∀base:Heap,K.In base→base.Ns Ck mg→a_ P w K mg base CX0 9 fa fd ["script"] (spLaw K):=by
 obtain ⟨T,rfl,hb⟩:=h
 exact ⟨T.d_law,hb,fun base _ _=>(Af T).calm v7⟩
end My
namespace PySem.W.Fast
def tw8426001368104113326:Unit:=()
def tw5141490403149870171:Unit:=()
def tw15264211120336097398:Unit:=()
def tw17611407046113408040:Unit:=()
def tw17104072581276898350:Unit:=()
def tw17986376754182318394:Unit:=()
def tw15850309862981867122:Unit:=()
def tw8114746791643813066:Unit:=()
def tw16377815122693737567:Unit:=()
def tw9360445831578764519:Unit:=()
def tw4802863417888775575:Unit:=()
def tw14595193742795333095:Unit:=()
def tw12961325815891145508:Unit:=()
def tw1695995687919285425:Unit:=()
def tw16066206741000290892:Unit:=()
def tw4935700654420626908:Unit:=()
def tw17523440497278172269:Unit:=()
def tw2525410106001846659:Unit:=()
def tw7230598117628767026:Unit:=()
def tw11532570270048382140:Unit:=()
end PySem.W.Fast
open PySem PySem.W PyProof.Rows L2
set_option maxRecDepth 100000 in
set_option maxHeartbeats 0 in
set_option maxHeartbeats 0 in
theorem PySem.Challenge.cw_stakefield_k24_stakes_near_holds : PySem.Challenge.rw_stakefield_k24_stakes_near.Holds := by
 w_on;o_law;k_head;(case hw=>w_witness2)
 k_fill
 refine L2.walk_ofB (l:=PySem.Challenge.rw_stakefield_k24_stakes_near) (n:=63) (k:=9) (x:="script") (CX:=CX0) (sp:=My.spLaw) rfl (by decide) rfl ⟨rfl,by decide,by decide⟩ (fun w h Y=>by first |exact Lz Y |exact PySem.W.km_in_of Y) ?F My.law_start (fun _ _ _ _ z=>z)
 case F=>
  intro w mg fa h KX G hmg
  refine My.law_ok ?T
  refine' My.txt_mk KX G hmg ?a0 ?l0 ?c0 ?k0 ?a1 ?l1 ?c1 ?k1 ?a2 ?l2 ?c2 ?k2 ?a3 ?l3 ?c3 ?k3 ?a4 ?l4 ?c4 ?k4 ?a5 ?l5 ?c5 ?k5 ?a6 ?l6 ?c6 ?k6 ?a7 ?l7 ?c7 ?k7 ?a8 ?l8 ?c8 ?k8 ?a9 ?l9 ?c9 ?k9 ?a10 ?l10 ?c10 ?k10 ?a11 ?l11 ?c11 ?k11 ?a12 ?l12 ?c12 ?k12 ?a13 ?l13 ?c13 ?k13 ?a14 ?l14 ?c14 ?k14 ?a15 ?l15 ?c15 ?k15 ?a16 ?l16 ?c16 ?k16 ?a17 ?l17 ?c17 ?k17 ?a18 ?l18 ?c18 ?k18 ?a19 ?l19 ?c19 ?k19 ?a20 ?l20 ?c20 ?k20 ?q21 ?a21 ?l21 ?c21 ?k21 ?a22 ?l22 ?c22 ?k22 ?a23 ?l23 ?c23 ?k23 ?a24 ?l24 ?c24 ?k24 ?a25 ?l25 ?c25 ?k25 ?a26 ?l26 ?c26 ?k26 ?a27 ?l27 ?c27 ?k27 ?a28 ?l28 ?c28 ?k28 ?a29 ?l29 ?c29 ?k29 ?a30 ?l30 ?c30 ?k30 ?a31 ?l31 ?c31 ?k31 ?a32 ?l32 ?c32 ?k32 ?a33 ?l33 ?c33 ?k33 ?a34 ?l34 ?c34 ?k34 ?e_NoField ?x_NoField ?e_NoMove ?x_NoMove ?e_TooMany ?x_TooMany ?z_abs ?z_all ?z_bool ?z_int ?z_isinstance ?z_len ?z_list ?z_max ?z_min ?z_range ?z_reversed ?z_set ?z_sorted ?z_sum ?z_tuple ?z_zip  ?g_MOST_STAKES
  (case a0=>k_is);(case l0=>k_is);(case c0=>k_is);(case k0=>k_is)
  (case a1=>k_is);(case l1=>k_is);(case c1=>k_is);(case k1=>k_is)
  (case a2=>k_is);(case l2=>k_is);(case c2=>k_is);(case k2=>k_is)
  (case a3=>k_is);(case l3=>k_is);(case c3=>k_is);(case k3=>k_is)
  (case a4=>k_is);(case l4=>k_is);(case c4=>k_is);(case k4=>k_is)
  (case a5=>k_is);(case l5=>k_is);(case c5=>k_is);(case k5=>k_is)
  (case a6=>k_is);(case l6=>k_is);(case c6=>k_is);(case k6=>k_is)
  (case a7=>k_is);(case l7=>k_is);(case c7=>k_is);(case k7=>k_is)
  (case a8=>k_is);(case l8=>k_is);(case c8=>k_is);(case k8=>k_is)
  (case a9=>k_is);(case l9=>k_is);(case c9=>k_is);(case k9=>k_is)
  (case a10=>k_is);(case l10=>k_is);(case c10=>k_is);(case k10=>k_is)
  (case a11=>k_is);(case l11=>k_is);(case c11=>k_is);(case k11=>k_is)
  (case a12=>k_is);(case l12=>k_is);(case c12=>k_is);(case k12=>k_is)
  (case a13=>k_is);(case l13=>k_is);(case c13=>k_is);(case k13=>k_is)
  (case a14=>k_is);(case l14=>k_is);(case c14=>k_is);(case k14=>k_is)
  (case a15=>k_is);(case l15=>k_is);(case c15=>k_is);(case k15=>k_is)
  (case a16=>k_is);(case l16=>k_is);(case c16=>k_is);(case k16=>k_is)
  (case a17=>k_is);(case l17=>k_is);(case c17=>k_is);(case k17=>k_is)
  (case a18=>k_is);(case l18=>k_is);(case c18=>k_is);(case k18=>k_is)
  (case a19=>k_is);(case l19=>k_is);(case c19=>k_is);(case k19=>k_is)
  (case a20=>k_is);(case l20=>k_is);(case c20=>k_is);(case k20=>k_is)
  (case a21=>k_is);(case l21=>k_is);(case c21=>k_is);(case k21=>k_is);(case q21=>k_is)
  (case a22=>k_is);(case l22=>k_is);(case c22=>k_is);(case k22=>k_is)
  (case a23=>k_is);(case l23=>k_is);(case c23=>k_is);(case k23=>k_is)
  (case a24=>k_is);(case l24=>k_is);(case c24=>k_is);(case k24=>k_is)
  (case a25=>k_is);(case l25=>k_is);(case c25=>k_is);(case k25=>k_is)
  (case a26=>k_is);(case l26=>k_is);(case c26=>k_is);(case k26=>k_is)
  (case a27=>k_is);(case l27=>k_is);(case c27=>k_is);(case k27=>k_is)
  (case a28=>k_is);(case l28=>k_is);(case c28=>k_is);(case k28=>k_is)
  (case a29=>k_is);(case l29=>k_is);(case c29=>k_is);(case k29=>k_is)
  (case a30=>k_is);(case l30=>k_is);(case c30=>k_is);(case k30=>k_is)
  (case a31=>k_is);(case l31=>k_is);(case c31=>k_is);(case k31=>k_is)
  (case a32=>k_is);(case l32=>k_is);(case c32=>k_is);(case k32=>k_is)
  (case a33=>k_is);(case l33=>k_is);(case c33=>k_is);(case k33=>k_is)
  (case a34=>k_is);(case l34=>k_is);(case c34=>k_is);(case k34=>k_is)
  (case e_NoField=>k_is);(case x_NoField=>k_exc)
  (case e_NoMove=>k_is);(case x_NoMove=>k_exc)
  (case e_TooMany=>k_is);(case x_TooMany=>k_exc)
  (case z_abs=>k_is)
  (case z_all=>k_is)
  (case z_bool=>k_is)
  (case z_int=>k_is)
  (case z_isinstance=>k_is)
  (case z_len=>k_is)
  (case z_list=>k_is)
  (case z_max=>k_is)
  (case z_min=>k_is)
  (case z_range=>k_is)
  (case z_reversed=>k_is)
  (case z_set=>k_is)
  (case z_sorted=>k_is)
  (case z_sum=>k_is)
  (case z_tuple=>k_is)
  (case z_zip=>k_is)
  (case g_MOST_STAKES=>k_is)
