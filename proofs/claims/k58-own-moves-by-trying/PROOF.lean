import PyProof.Rows.All
import Wide.All
import OpenK.AllK
import Wide.FinOn
import Lean
import PyProof.EqAt
import PyProof.EqKinds
import PyProof.NeKinds
import PyProof.TupleCall
import KE.KDictSum
import KE.KSortTup
import KE.KRevIter
import KE.KRevSl
import KE.KLam
import KE.KNestM
import KE.KMinKey
import PySem.Challenge.RW_stakefield_k58_own_moves_by_trying
open List renaming getElem?_eq_getElem → An, length_map → Ar, getElem?_map → Av, mem_cons_of_mem → Aw, getD_eq_getElem?_getD → Ax, mem_map → Az, mem_cons → AB, mem_cons_self → AF, getElem?_eq_some_iff → AG, mem_append_right → AH, mem_reverse → AN, mem_of_getElem? → AO, mem_range → AQ, size_toArray → AV, getElem?_eq_none → AZ, getElem?_append_right → A0, getElem?_append_left → A7, pairwise_iff_getElem → A8, length_cons → A_, getElem?_set_ne → Ba, length_append → Bd, map_map → Bf, range → Bi, pairwise_cons → Bl, length_reverse → Bn, mem_append_left → Bu, map_cons → Bz, mem_singleton → BA, map_append → BB, pairwise_map → BD, zip → BG, mem_iff_getElem? → BH, not_mem_nil → BL, getElem?_reverse → BU, lookup_cons → BW, mem_append → B4, getLast?_eq_getElem? → B8, filterMap_cons → Ca, mem_filter → Cd, nodup_cons → Ce, length_eq_zero_iff → Cf, map_reverse → Cq, length_pos_of_mem → Cr, ext_getElem? → Cz, length_dropLast → CH, getElem?_replicate → CI, getElem?_dropLast → CT, mem_filterMap → CZ, length_replicate → C3, tail_cons → C9, getElem?_take_of_lt → Dc, length_erase_of_mem → Dg, getElem?_cons_succ → Di, getLast?_cons_cons → Dk, take_length → Dm, take_of_length_le → Dr, head?_eq_getElem? → Ds, getElem?_drop → Du, append_nil → Dy, getElem?_toArray → Dz, mem_erase_of_ne → DH, mem_of_getLast? → DJ, take_succ → DL, mem_take_iff_getElem → DO, getElem_mem → DR, length_pos_iff → DU, getElem?_range → DV, length_set → D7, length_nil → D8, foldl_cons → D9, zip_cons_cons → Eb, drop_eq_nil_of_le → Eg, append_assoc → Ek, nodup_append → Em, getLast?_map → En, getElem?_inj → Eo, filterMap_append → EA, pairwise_reverse → ED, getLast?_reverse → EE, getElem_inj → EG, filter_cons → EH, mem_iff_getElem → EM, all_cons → EO, forIn_cons → EZ, mem_map_of_mem → E5, nodup_iff_pairwise_ne → E7, drop_eq_getElem_cons → Fg, head?_map → Fk, getElem?_set → Fp, length_range → Ft, map_dropLast → Fu, length_filterMap_le → Fx, all_eq_true → FI, getElem?_set_self → FN, pairwise_lt_range → FT, of_mem_zip → FZ, length_singleton → F_, take_append_drop → Gd, range_succ → Gr, dropLast_subset → GB, take_zero → GF, forIn_nil → GM, take_succ_cons → GO, map_congr_left → GQ, getD_cons_zero → GS, getD_cons_succ → GT, map_drop → G6, head?_reverse → Hc, reverse_cons → Hn, take_add_one → Hq, toArray → Ht, length_take → HA, length_drop → HB, nodup_range → HD, perm_middle → HE, ext_getElem → HG, zipIdx_cons → HI, mem_flatMap → HL, lookup → HS, zipIdx_nil → Ic, head?_cons → Ik, replicate → IB, filterMap → IJ, any_cons → Jf, map_take → Jj, take → JM, drop → JN, Perm → JO
open PySem renaming wpAny_bind → Ao, Shared → As, wpAny_pure → Au, Program → AD, mainGlobals → AK, starEach → AL, Around → A5, FuncData → A9, wpAny_Call_Name_kw → Bp, wpAny_holding → Bt, bindArgs → Bv, foldedSetIterable → Bw, sizeLine_eq → BC, boot_len → BF, mem_of_lookup → BI, compareOp → B5, wpAny_seqItems → B7, wpAny_call_entry → B9, wpAny_loadPart' → Cj, intKind_is → Co, bootBuiltins → Cp, wpAny_mono → Cs, wpAny_pyIter_list → Ct, wpAny_setState_of → Cy, codeAny_builtin → CC, plainId_quiet → CJ, wpAny_truthy_bool → CN, assignEach → CV, behindInMarks → CY, wpAny_passesOwn → Da, wpAny_ite_split → De, wpAny_updateSeq → Df, wpAny_callSpecial?_slot → Dj, wpAny_isInstance → Dp, wpAny_pyNext_list_item → Dq, rawInt → Dt, wpAny_setField_rec → Dv, builtinLookup_eq_fast → DA, GenState → DC, wpAny_newObj_type → DE, intKind → DF, isSubtype_type → DM, wpAny_tryCatch → DN, wpAny_askSetting → DS, wpAny_letGo → DW, wpAny_field → DX, wpAny_specialOf → D6, wpAny_newList → Ea, backTo → Ec, wpAny_nextOf_list_item → Ee, sliceBounds → Ei, ofAClassStatement → Ej, binaryOp → Er, swapsWith → Ew, wpAny_pyNext_list_end → Ex, codeAny_mono → Ey, wpAny_newFunctionEnv → EK, NameKind → EN, builtinsNs → EU, PassesOwn → EV, pyNext → EW, codeAny → EY, typeLookup_type → E1, wpAny_setEntries_of → E2, recursionLimit → Ff, wpAny_getItem_list_slice → Fo, wpAny_comprehension_free → Fq, attributeBase → Fz, wpAny_standAt → FA, setSearchFrom → FC, wpAny_attempt → FD, richCompare → FE, wpAny_onRaise → FF, wpAny_forIn_list → FJ, codeAny_compStart_list → FR, wpAny_isTrue_Compare1 → FW, wpAny_execs_nil → FX, letOwnedTupleGo → FY, wpAny_eqIsQuiet_tuple → Gc, updateSeq → Gj, compEnvC → Gu, closureFor → Gv, wpAny_rule → Gw, codeAny_extend_loopS → GA, wpAny_setField → GH, wpAny_newTuple → GI, BindsTo → GN, hashByValue → GP, Result → GV, Arguments → GW, evalPart_none → GX, pickOrder → G7, wpAny_tupleItemsOf → G_, wpAny_assign_Name → Hd, callerA → Hg, searchCouldBeSeen → Hi, wpAny_storeSet_of → Hj, wpAny_pyIter_slot → Hk, wpAny_typeOf → Hs, checkBuiltinCall → HF, wpAny_pyIter_zip → HJ, Keyword → HM, cellsFrom → HN, theTreesLotGoes → HR, seqItems? → HW, putSet_of → HX, codeAny_of_tree → HY, wpAny_of_eq → HZ, codeAmong → Ih, entryFor_alias → IE, wpAny_fieldsOf → IF, firstArgMember → IG, isSubtype_stop → IH, sysModules → IK, wpAny_Name → IL, wpAny_call → I_, typeIs_int → Jb, setsByText → Jc, checkCount → Jd, Operator → Je, compPost → Ji, tupleKind → Jo, Within → Jp, pyIter → Jr, argsOk → Jv, Fin → Jw, revObj → JJ, call → JK
open PySem.W renaming Frag → Ap, keepIn → AI, codeIn → AJ, nsIn → AM, mg_of → AU, fnOf → AW, mg_none_of → Bm, kia_one → BJ, codeHdIn → BK, cellsFrom_some → Ed, findIn → Es, kitOne → Fe, methodObj → Fl, kitx_list → Fn, instObj → FV, kla_obj → Gm, lookIn → GC, kitx_tuple → GU, specialIn → He, kitx_dict → Hf, plainGet → Hz, OpenLaw → HQ, kla_fn → II, WalkO → Jh, isFn → Js
open PySem.Heap renaming get?_push_of_some → Aq, lt_size → AC, get?_push_size → AE, get?_update_other → Bc, size_push → BE, get?_update_self → BS, SameBut → Dw, IsList → Ie, ExtBut → JD
open Nat renaming le_refl → Ay, lt_of_lt_of_le → A3, ne_of_lt → A4, lt_or_eq_of_le → A6, mod_eq_of_lt → Bb, zero_le → Bh, lt_irrefl → Bs, le_of_lt → By, le_trans → BR, le_of_lt_succ → Cc, mod_lt → Cm, lt_succ_of_lt → Cu, lt_trichotomy → Cv, ne_of_gt → CA, lt_or_ge → CB, pow_succ → CL, lt_succ_self → Do, pow_le_pow_right → DG, le_of_not_lt → DP, le_add_right → DT, mod_self → D4, add_mod_right → Ep, lt_of_le_of_lt → E8, mod_eq_sub_mod → E9, eq_zero_or_pos → E_, div_div_eq_div_mul → FS, lt_trans → Ga, mod_add_mod → Gb, mul_le_mul_right → Gz, mod_mod_of_dvd → G4, add_sub_cancel → Hb, le_max_right → HC, le_max_left → HP, not_lt_zero → HV, min_eq_left → Il, min_self → Jt, add_zero → Ju, zero_add → Jy, add_mod → JE, le_succ → JF
open Bool renaming false_eq_true → AR, false_ne_true → AX, and_eq_true → BV, eq_iff_iff → CP, not_true → C4, beq_eq_decide_eq → Ez, true_and → ER, not_false → Fh, and_eq_true_iff → Gy, and_false → GE, and_true → G0, or_eq_true → HU
open Array renaming length_toList → AS, getElem?_toList → Bj, getD_eq_getD_getElem? → Br, getD → Cw, getElem?_eq_some_iff → CU, getElem?_eq_getElem → C8, getElem?_replicate → DZ, mem_toList_iff → EJ, toList_inj → FK, toList_map → FL, forIn_toList → G5, toList_zip → HH, size_map → ID, toList → Jq
open PySem.Value renaming none → AY, int → Be, bool → Bg, ref → Bk, str → Bq, type → BY, isInt_shape → CM, float → JB
open Option.some renaming inj → Bo
open Int renaming eq_of_mul_eq_mul_left → BN, emod_lt_of_pos → BP, mul_nonneg → BX, one_mul → B0, dvd_trans → B_, mul_pos → Cb, emod_nonneg → Cg, mul_eq_zero → Ck, mul_ediv_cancel_left → CF, mul_assoc → CK, dvd_mul_right → CO, dvd_mul_left → CW, emod_add_mul_ediv → C6, mul_zero → C7, toNat_natCast → Dd, mul_one → Dx, natAbs_of_nonneg → DI, mul_ediv_cancel' → DK, mul_comm → D0, pos_of_mul_pos_right → D3, natAbs_mul → Et, zero_mul → EB, natAbs_dvd_natAbs → EC, mul_le_mul_of_nonneg_right → EF, dvd_add → E4, dvd_refl → Fb, lt_or_eq_of_le → Fc, lt_or_le → Fd, emod_eq_of_lt → Fw, mul_ediv_add_emod → Gn, add_zero → Gp, zero_add → Gq, lt_trichotomy → Ho, zero_dvd → Hy, ediv_le_self → HK, dvd_neg → Ii, dvd_sub → Ij, le_of_dvd → Jn, dvd_zero → Jx, sub_self → Jz, le_refl → JG
open Option renaming map_eq_some_iff → BO, getD_some → DQ, isSome_iff_exists → DY, getD_none → FH, map_some → Gs, toList_some → G3, map → Hl, none → JC
open PySem.Obj renaming mapSeq → BQ, data_mapFields → C5, putSet → El, isFreed_of_fields → Gg, cls_mapFields → Hm
open PySem.Around renaming under_plainId → BZ, frames_deeper → Gx, in1 → JL
open PySem.F renaming plain_min_loop → B3, called_set → Ci, slot_zip_next → DB, entry_min_loop → Ef, plain_extend_loop → Fi, plainAttrs_list → FB, args_zip_next_1 → FG, entry_zip_next → FU, plain_set_new → Ge, slot_set_iter → Gf, slot_tuple_lt → Gk
open Classical renaming byContradiction → B6
open Prod renaming ext → CD, fst → ES, snd → ET
open PySem.MeetsSeq3 renaming plain_eq_loop → CG, entry_eq_loop → EI
open PySem.Heap.SameBut renaming update → CQ, refl → Hh
open List.cons renaming injEq → CS
open PyProof.Rows renaming seqObj → C_, boot_isinstance → Dh, listUpdate_at → D_, SortKind → Eu, seqEpoch_at → E3, AllBare → Fy, subscriptTail_builtinR → FO, get?_update_seq → Gh, entry_list_sort → Gi, envOfC → GD, slot_list_sort → GJ, args_list_sort → GK, sortedHeap_old → GL, boot_sorted → GR, subscriptTail → GZ, sortedHeap_at → G8, boot_list → G9, plain_sorted → Hu, entry_sorted → Hv, args_sorted1 → Hw, list_sort_plain → H_, kind_sorted → Ib, Subscript_ → Ja, IntsAre → Jg
open List.Pairwise renaming nil → DD, imp_of_mem → Fs, map → Fv, filter → JA
open PySem.Calls renaming spliced_cons → D5, spliced_nil → Eh, Name_function_global → E6, call_function_entry → Fj, callWith_builtin → FQ
open PySem.Heap.IsList renaming push → FM
open List.Perm renaming refl → GG
open PySem.Heap.IsSliceOf renaming new → GY
open MonadExcept renaming tryCatch → Ha
open List.Nodup renaming length_le_of_subset → Hr
open PySem.Shared renaming heap → Ig, TypeIs → Jk
open PySem.EqNone renaming eq_none_none → Im, eq_none_bool → Io, eq_bool_none → Ip, ne_none_none → Iu, ne_none_bool → Iw, ne_bool_none → Iy, eq_none_int → IM, eq_none_str → IP, eq_int_none → IQ, eq_str_none → IS, ne_none_int → IU, ne_none_str → IV, ne_int_none → IW, ne_str_none → IY
open PySem.EqMixed renaming eq_bool_str → Iq, eq_str_bool → Ir, ne_bool_str → Iz, ne_str_bool → IA, eq_int_str → IR, eq_str_int → IT, ne_int_str → IX, ne_str_int → IZ
open PySem.Value.type renaming inj → IC
open Prod.mk renaming injEq → Jl
open ToString renaming toString → Jm
open PySem.W.Dflts renaming none → JH, noKw → JI
open PySem.W.Frag renaming In → JP
set_option maxHeartbeats 8000000
set_option Elab.async false
set_option linter.all false
set_option maxRecDepth 100000
namespace L2
open PySem PySem.Spec PyProof.Rows
abbrev Key:=Sum Int Str
def wt:Key→Value→Bool
 | .inl k,v=>Value.isInt k v
 | .inr x,v=>Value.isStrOf x v
def zI (w:World):Key→Int
 | .inl k=>hashInt k
 | .inr x=>hashStr w x
theorem bN:∀{k:Key}{v:Value},wt k v=true→(∃i t,k=Sum.inl i∧v=Be i t)∨(∃x t,k=Sum.inr x∧v=Bq x t)
 | .inl i,v,h=>by
  obtain ⟨t,e⟩:=CM (k:=i) (v:=v) h
  exact .inl ⟨i,t,rfl,e⟩
 | .inr x,v,h=>by
  obtain ⟨t,e⟩:=Value.isStrOf_shape (x:=x) (v:=v) h
  exact .inr ⟨x,t,rfl,e⟩
theorem w9 (a b:Int):decide ((Sum.inl a:Key)=Sum.inl b)=(a==b):=by
 by_cases e:a=b
 ·subst e;simp
 ·have h:¬ (Sum.inl a:Key)=Sum.inl b:=fun q=>e (Sum.inl.inj q)
  rw[decide_eq_false h]
  exact (beq_eq_false_iff_ne.mpr e).symm
theorem x_ (a b:Str):decide ((Sum.inr a:Key)=Sum.inr b)=decide (a=b):=by
 by_cases e:a=b
 ·subst e;simp
 ·have h:¬ (Sum.inr a:Key)=Sum.inr b:=fun q=>e (Sum.inr.inj q)
  rw[decide_eq_false h,decide_eq_false e]
theorem x8 (a:Int) (b:Str):decide ((Sum.inl a:Key)=Sum.inr b)=false:=decide_eq_false (fun q=>nomatch q)
theorem xu (a:Str) (b:Int):decide ((Sum.inr a:Key)=Sum.inl b)=false:=decide_eq_false (fun q=>nomatch q)
def pz (prog:AD) (w:World):PySem.KeyKind prog w Key where
 is:=wt
 hash:=zI w
 inj:=fun v a b ha hb=>by
  rcases bN ha with ⟨i,t,rfl,rfl⟩ |⟨x,t,rfl,rfl⟩
  ·rcases bN hb with ⟨j,u,rfl,e⟩ |⟨y,u,rfl,e⟩
   ·injection e with e1 _;rw[e1]
   ·exact nomatch e
  ·rcases bN hb with ⟨j,u,rfl,e⟩ |⟨y,u,rfl,e⟩
   ·exact nomatch e
   ·injection e with e1 _;rw[e1]
 byValue:=fun k v h=>by
  rcases bN h with ⟨i,t,rfl,rfl⟩ |⟨x,t,rfl,rfl⟩ <;>rfl
 pyHash:=fun hv h=>by
  rcases bN hv with ⟨i,t,rfl,rfl⟩ |⟨x,t,rfl,rfl⟩
  ·exact wpAny_pyHash_int h
  ·exact wpAny_pyHash_str h
 eqBool:=fun hu hv h=>by
  rcases bN hu with ⟨i,t,rfl,rfl⟩ |⟨x,t,rfl,rfl⟩
  ·rcases bN hv with ⟨j,u,rfl,rfl⟩ |⟨y,u,rfl,rfl⟩
   ·rw[w9] at h;exact wpAny_eqBool_int h
   ·rw[x8] at h;exact SeqAt.EqAt.int_str i t y u _ _ _ _ h
  ·rcases bN hv with ⟨j,u,rfl,rfl⟩ |⟨y,u,rfl,rfl⟩
   ·rw[xu] at h;exact SeqAt.EqAt.str_int x t j u _ _ _ _ h
   ·rw[x_] at h;exact wpAny_eqBool_str h
 «strs»:=fun k x t v h=>by
  rcases bN h with ⟨i,u,rfl,e⟩ |⟨y,u,rfl,e⟩
  ·exact nomatch e
  ·injection e with e1 _
   subst e1
   cases v <;>rfl
inductive V where
 |non |bl (b:Bool) |int (i:Int) |str (x:Str) |byt (b:Array UInt8) |flt (b:UInt64) |ref (a:Addr) |ty (n:String)
 deriving DecidableEq
def aW:V→Value→Prop
 | .non,u=>u=AY
 | .bl b,u=>u=Bg b
 | .int i,u=>∃t,u=Be i t
 | .str x,u=>∃t,u=Bq x t
 | .byt b,u=>∃t,u=Value.bytes b t
 | .flt b,u=>∃t,u=JB b t
 | .ref a,u=>u=Bk a
 | .ty n,u=>u=BY n
abbrev aR:List V→List Value→Prop:=Paired aW
theorem aR.length {xs:List V}{us:List Value} (r:aR xs us):xs.length=us.length:=Paired.length r
theorem aR.get:∀{xs:List V}{us:List Value}{i:Nat}{x:V},aR xs us→xs[i]?=some x→∃u,us[i]?=some u∧aW x u
 |_,_,_,_,.nil,e=>by simp at e
 |_,_,0,_,.cons r _,e=>by simp at e;subst e;exact ⟨_,rfl,r⟩
 |_,_,i+1,x,.cons _ t,e=>by
  obtain ⟨u,h1,h2⟩:=aR.get (i:=i) (x:=x) t (by simpa using e)
  exact ⟨u,by simpa using h1,h2⟩
theorem aR.append:∀{xs ys:List V}{us ws:List Value},aR xs us→aR ys ws→aR (xs++ys) (us++ws)
 |_,_,_,_,.nil,s=>s
 |_,_,_,_,.cons r t,s=>.cons r (aR.append t s)
theorem aR.take:∀{xs:List V}{us:List Value} (n:Nat),aR xs us→aR (xs.take n) (us.take n)
 |_,_,0,_=>.nil
 |_,_,_+1,.nil=>.nil
 |_,_,n+1,.cons r t=>.cons r (aR.take n t)
theorem aR.drop:∀{xs:List V}{us:List Value} (n:Nat),aR xs us→aR (xs.drop n) (us.drop n)
 |_,_,0,r=>r
 |_,_,_+1,.nil=>.nil
 |_,_,n+1,.cons _ t=>aR.drop n t
def ya:Option V→Option Value→Prop
 |some v,some u=>aW v u
 |none,none=>True
 |_,_=>False
def KV {κ:Type}:List (κ×V)→List (κ×Value)→Prop:=Paired fun (p:κ×V) (q:κ×Value)=>p.1=q.1∧aW p.2 q.2
def kV:Key→V
 | .inl i=>.int i
 | .inr x=>.str x
inductive HO where
 /-- a list -/
 |lst (xs:List V)
 /-- a tuple (never changes) -/
 |tup (xs:List V)
 /-- a dict whose keys are ints and texts;one whose keys are tuples of ints and texts (the empty one is both) -/
 |dK (kvs:List (Key×V)) |dT (kvs:List (List Key×V))
 /-- a set of ints:its members,its size -/
 |set (S:Int→Bool) (n:Nat)
 /-- an instance of the class at C,its dict at dx,its attributes -/
 |ins (C dx:Addr) (fs:List (Str×V))
 /-- the dict of the instance at x -/
 |own (x:Addr)
 /-- the dict of an exception -/
 |xd (fs:List (Str×V))
 /-- a bound method,f of x -/
 |met (f x:Addr)
 /-- a range object lo,lo+1,.. below hi -/
 |rng (lo hi:Int)
 /-- a thing that is known to the object (the script;a dict while a loop walks it):read,never written while it is so -/
 |frz (o:Obj) (u:HO)
 /-- a code object's table -/
 |tbl (ps:Array Value)
 /-- any other thing,by what is true of its one object (a def of one's own:SetO a S n:=HO.ext fun h=>..) -/
 |ext (φ:Heap→Prop)
abbrev Hp:=Addr→Option HO
def upd (H:Hp) (a:Addr) (o:HO):Hp:=fun b=>if b=a then some o else H b
theorem aQ {H:Hp}{a:Addr}{o:HO}:upd H a o a=some o:=by unfold upd;rw[if_pos rfl]
theorem aL {H:Hp}{a b:Addr}{o:HO} (h:b≠a):upd H a o b=H b:=by unfold upd;rw[if_neg h]
theorem ce {H:Hp}{a b:Addr}{o:HO} (h:H a=some o) (h':H b=none):a≠b:=by
 intro e;subst e;rw[h] at h';cases h'
def ik:Str:="to_form.<locals>.<lambda>"
def fh:List (Nat×Nat×Addr)→List Value
 |[]=>[]
 |t::ts=>Dt t.1::Dt t.2.1::.ref t.2.2::fh ts
def uF (H:Hp) (h:Heap) (a:Addr):Prop:=∃ts:List (Nat×Nat×Addr),h.get? a=some {cls:=.none,data:=.fields (fh ts).toArray }∧∀t∈ts,∃oc u vs t',H t.2.2=some (.frz oc u)∧oc.data=.fields vs∧vs[1]?=some (.str ik t')
section
variable (P:AD) (w:World)
def cH (H:Hp) (h:Heap) (a:Addr):HO→Prop
 | .lst xs=>xs.length≤sizeLine∧∃(its:List Value) (n:Nat),aR xs its∧h.get? a=some {cls:=.type "list",data:=.seq its.toArray n }
 | .tup xs=>xs.length≤sizeLine∧∃its:List Value,aR xs its∧IsTup h a its.toArray
 | .dK kvs=>kvs.length≤sizeLine∧(a==IK)=false∧∃vs,KV kvs vs∧h.DictOf (pz P w) a vs
 | .dT kvs=>kvs.length≤sizeLine∧(a==IK)=false∧∃xs:List (List Key×Addr×Value),
   Paired (fun (p:List Key×V) (q:List Key×Addr×Value)=>p.1=q.1∧H q.2.1=some (.tup (p.1.map kV))∧aW p.2 q.2.2) kvs xs∧
   ∃o es ep,h.get? a=some o∧o.ExactDict∧o.data=.dict es ep∧es.toList=xs.map (entryOfKey (Jo (pz P w)))∧(xs.map (·.1)).Nodup
 | .set S n=>h.SetOf (DF P w) a S n
 | .ins C dx fs=>H dx=some (.own a)∧fs.length≤1000∧dx≠a∧h.get? a=some (FV C dx)∧
   ∃mA,h.Ns1 dx mA∧(∀f,ya (fs.lookup f) (mA f))∧Jp mA (fs.map (·.1))
 | .own _=>∃o,h.get? a=some o
 | .xd fs=>∃mA,h.Ns1 a mA∧∀f,ya (fs.lookup f) (mA f)
 | .rng lo hi=>∃t u v,h.get? a=some {cls:=.type "range",data:=.fields #[.int lo t,.int hi u,.int 1 v] }
 | .frz o u=>h.get? a=some o∧cH H h a u
 | .tbl _=>uF H h a
 | .met f x=>h.get? a=some (Fl (.ref f) (.ref x))
 | .ext φ=>φ h∧(∃o,h.get? a=some o)∧∀h1 h2:Heap,φ h1→(∀o,h1.get? a=some o→h2.get? a=some o)→φ h2
def HOk (H:Hp) (h:Heap):Prop:=∀a o,H a=some o→cH P w H h a o
end
section
variable {P:AD}{w:World}{H H':Hp}{h h':Heap}{a:Addr}{o:HO}
theorem cH.lt (x:cH P w H h a o):a < h.objs.size:=by
 cases o with
 |lst xs=>obtain ⟨_,_,_,_,e⟩:=x;exact AC e
 |tup xs=>obtain ⟨_,_,_,p⟩:=x;exact p.lt
 |dK kvs=>obtain ⟨_,_,_,_,o,_,_,e,_⟩:=x;exact AC e
 |dT kvs=>obtain ⟨_,_,_,_,o,_,_,e,_⟩:=x;exact AC e
 |set S n=>obtain ⟨o,_,_,_,e,_⟩:=x;exact AC e
 |ins C dx fs=>obtain ⟨_,_,_,e,_⟩:=x;exact AC e
 |own y=>obtain ⟨_,e⟩:=x;exact AC e
 |xd fs=>obtain ⟨_,⟨_,_,_,e,_⟩,_⟩:=x;exact AC e
 |rng lo hi=>obtain ⟨_,_,_,e⟩:=x;exact AC e
 |frz ob u=>obtain ⟨e,_⟩:=x;exact AC e
 |tbl ps=>obtain ⟨_,e,_⟩:=x;exact AC e
 |met f y=>exact AC (show h.get? a=some _ from x)
 |ext φ=>obtain ⟨_,⟨_,e⟩,_⟩:=x;exact AC e
theorem Paired.mapP {α β:Type}{F G:α→β→Prop}:∀{l₁:List α}{l₂:List β},Paired F l₁ l₂→(∀a b,F a b→G a b)→Paired G l₁ l₂
 |_,_,.nil,_=>.nil
 |_,_,.cons r t,f=>.cons (f _ _ r) (Paired.mapP t f)
theorem cH.stay (x:cH P w H h a o) (k:∀b u,(b=a∨H b=some (.own a))→h.get? b=some u→h'.get? b=some u)
  (ho:∀b,H b=some (.own a)→H' b=some (.own a)) (hz:∀b o u,H b=some (.frz o u)→H' b=some (.frz o u)) (ht:∀b xs,H b=some (.tup xs)→H' b=some (.tup xs)):cH P w H' h' a o:=by
 induction o with
 |lst xs=>obtain ⟨z,its,n,r,e⟩:=x;exact ⟨z,its,n,r,k _ _ (.inl rfl) e⟩
 |tup xs=>obtain ⟨z,its,r,ob,e,c⟩:=x;exact ⟨z,its,r,ob,k _ _ (.inl rfl) e,c⟩
 |dK kvs=>obtain ⟨z,y,vs,r,ob,es,ep,e,c⟩:=x;exact ⟨z,y,vs,r,ob,es,ep,k _ _ (.inl rfl) e,c⟩
 |dT kvs=>
  obtain ⟨z,y,xs,r,ob,es,ep,e,c⟩:=x
  exact ⟨z,y,xs,Paired.mapP r fun p q z=>⟨z.1,ht _ _ z.2.1,z.2.2⟩,ob,es,ep,k _ _ (.inl rfl) e,c⟩
 |set S n=>obtain ⟨ob,es,ep,t,e,c⟩:=x;exact ⟨ob,es,ep,t,k _ _ (.inl rfl) e,c⟩
 |ins C dx fs=>
  obtain ⟨d,z,ne,e,mA,⟨od,es,ep,e2,c⟩,r⟩:=x
  exact ⟨ho _ d,z,ne,k _ _ (.inl rfl) e,mA,⟨od,es,ep,k _ _ (.inr d) e2,c⟩,r⟩
 |own y=>obtain ⟨ob,e⟩:=x;exact ⟨ob,k _ _ (.inl rfl) e⟩
 |xd fs=>obtain ⟨mA,⟨od,es,ep,e,c⟩,r⟩:=x;exact ⟨mA,⟨od,es,ep,k _ _ (.inl rfl) e,c⟩,r⟩
 |rng lo hi=>obtain ⟨t,u,v,e⟩:=x;exact ⟨t,u,v,k _ _ (.inl rfl) e⟩
 |frz ob u ih=>obtain ⟨e,q⟩:=x;exact ⟨k _ _ (.inl rfl) e,ih q⟩
 |tbl ps=>
  obtain ⟨ts,e,q⟩:=x
  refine ⟨ts,k a _ (.inl rfl) e,fun t ht=>?_⟩
  obtain ⟨oc,u,vs,t',h1,h2⟩:=q t ht
  exact ⟨oc,u,vs,t',hz _ _ _ h1,h2⟩
 |met f y=>
  have e:h.get? a=some (Fl (.ref f) (.ref y)):=x
  show h'.get? a=some (Fl (.ref f) (.ref y))
  exact k a _ (.inl rfl) e
 |ext φ=>obtain ⟨p,⟨o,e⟩,st⟩:=x;exact ⟨st _ _ p fun o q=>k _ _ (.inl rfl) q,⟨o,k _ _ (.inl rfl) e⟩,st⟩
theorem HOk.lt (x:HOk P w H h) (e:H a=some o):a < h.objs.size:=(x a o e).lt
theorem HOk.fresh (x:HOk P w H h) (e:h.objs.size≤a):H a=none:=by
 cases q:H a with
 |none=>rfl
 |some u=>exact absurd (A3 (x.lt q) e) (Bs _)
theorem HOk.kept (x:HOk P w H h) (k:∀b u,h.get? b=some u→h'.get? b=some u):HOk P w H h':=fun a o e=>
 (x a o e).stay (fun b u _ q=>k b u q) (fun _ q=>q) (fun _ _ _ q=>q) fun _ _ q=>q
theorem HOk.laid (x:HOk P w H h) (k:∀b u,h.get? b=some u→h'.get? b=some u) (hp:h.objs.size≤a) (new:cH P w (upd H a o) h' a o):HOk P w (upd H a o) h':=fun b u e=>by
 have hn:=x.fresh hp
 by_cases hb:b=a
 ·subst hb;rw[aQ] at e;cases e;exact new
 ·rw[aL hb] at e
  exact (x b u e).stay (fun c v _ q=>k c v q) (fun c q=>by rw[aL (ce q hn)];exact q) (fun c o' u' q=>by rw[aL (ce q hn)];exact q) fun c xs q=>by rw[aL (ce q hn)];exact q
end
def Rd (H:Hp) (a:Addr) (u:HO):Prop:=H a=some u∨∃o,H a=some (.frz o u)
theorem Rd.ok {P:AD}{w:World}{H:Hp}{h:Heap}{a:Addr}{u:HO} (r:Rd H a u) (x:HOk P w H h):cH P w H h a u:=by
 rcases r with r |⟨o,r⟩
 ·exact x a u r
 ·obtain ⟨_,q⟩:=x a _ r
  exact q
def Mut:Option HO→Prop
 |some (.lst _)=>True
 |some (.dK _)=>True
 |some (.dT _)=>True
 |some (.set _ _)=>True
 |some (.ins _ _ _)=>True
 |some (.ext _)=>True
 |_=>False
section
variable {P:AD}{w:World}{H:Hp}{h h':Heap}{x e:Addr}{o':HO}
theorem HOk.write (ok:HOk P w H h) (mu:Mut (H x)) (he:e=x∨H e=some (.own x)) (k:∀b u,b≠e→h.get? b=some u→h'.get? b=some u) (heo:∃u,h'.get? e=some u)
  (new:cH P w (upd H x o') h' x o'):HOk P w (upd H x o') h':=fun b u q=>by
 have nown:∀c y,H c=some (.own y)→c≠x:=fun c y r z=>by subst z;rw[r] at mu;exact mu
 have ntup:∀c xs,H c=some (.tup xs)→c≠x:=fun c xs r z=>by subst z;rw[r] at mu;exact mu
 by_cases hb:b=x
 ·subst hb;rw[aQ] at q;cases q;exact new
 ·rw[aL hb] at q
  by_cases hbe:b=e
  ·have q':H b=some (.own x):=by
    rcases he with z |z
    ·exact absurd (hbe.trans z) hb
    ·rw[hbe];exact z
   rw[q] at q';cases q'
   obtain ⟨v,hv⟩:=heo
   exact ⟨v,by rw[hbe];exact hv⟩
  ·refine (ok b u q).stay (fun c v hc r=>k c v ?_ r) (fun c r=>by rw[aL (nown c b r)];exact r) (fun c o' u' r=>by rw[aL (fun z=>by subst z;rw[r] at mu;exact mu)];exact r) fun c xs r=>by rw[aL (ntup c xs r)];exact r
   rcases hc with rfl |hc
   ·exact hbe
   ·rintro rfl
    rcases he with z |z
    ·exact nown c b hc z
    ·rw[hc] at z;cases z;exact hb rfl
end
structure Un (fs ex:List Addr) (H H':Hp) (h h':Heap):Prop where
 keep:∀b o,h.get? b=some o→H b=none→b ∉ fs→b ∉ ex→h'.get? b=some o
 slot:∀b o,h.get? b=some o→H b=none→b∈fs→b ∉ ex→∃sl,h'.get? b=some {o with slots:=sl }
 free:∀b o,h.get? b=some o→H b=none→b ∉ ex→H' b=none
 there:∀b o,h.get? b=some o→b ∉ ex→∃o',h'.get? b=some o'
 tups:∀b xs,H b=some (.tup xs)→H' b=some (.tup xs)
 frzs:∀b o u,H b=some (.frz o u)→H' b=some (.frz o u)
 tbls:∀b ps,H b=some (.tbl ps)→∃more,H' b=some (.tbl (ps++more))
section
variable {fs fs' ex ex':List Addr}{H H1 H2:Hp}{h h1 h2 h':Heap}{a x e:Addr}{o:HO}
theorem Un.any (u:Un fs ex H H1 h h1) {b:Addr}{ob:Obj} (q:h.get? b=some ob) (n:H b=none) (hx:b ∉ ex):∃sl,h1.get? b=some {ob with slots:=sl }:=by
 by_cases hb:b∈fs
 ·exact u.slot b ob q n hb hx
 ·exact ⟨ob.slots,u.keep b ob q n hb hx⟩
theorem Un.kept (k:∀b u,h.get? b=some u→h'.get? b=some u):Un fs ex H H h h':=
 ⟨fun b ob q _ _ _=>k b ob q,fun b ob q _ _ _=>⟨ob.slots,k b ob q⟩,fun _ _ _ n _=>n,fun b ob q _=>⟨ob,k b ob q⟩,fun _ _ q=>q,fun _ _ _ q=>q,fun _ ps q=>⟨#[],by rw[q];simp⟩⟩
theorem Un.refl:Un fs ex H H h h:=Un.kept fun _ _ q=>q
theorem Un.laid (k:∀b u,h.get? b=some u→h'.get? b=some u) (hp:h.objs.size≤a) (hn:H a=none):Un fs ex H (upd H a o) h h' where
 keep:=fun b u q _ _ _=>k b u q
 slot:=fun b u q _ _ _=>⟨u.slots,k b u q⟩
 free:=fun b u q n _=>by rw[aL (A4 (A3 (AC q) hp))];exact n
 there:=fun b u q _=>⟨u,k b u q⟩
 tups:=fun b xs q=>by rw[aL (ce q hn)];exact q
 frzs:=fun b u xs q=>by rw[aL (ce q hn)];exact q
 tbls:=fun b ps q=>⟨#[],by rw[aL (ce q hn),q];simp⟩
theorem Un.write (mu:Mut (H x)) (he:e=x∨H e=some (.own x)) (k:∀b u,b≠e→h.get? b=some u→h'.get? b=some u) (heo:∃u,h'.get? e=some u):Un fs ex H (upd H x o) h h':=by
 have hx:∀b,H b=none→b≠x:=fun b n z=>by subst z;rw[n] at mu;exact mu
 have hb:∀b,H b=none→b≠e:=fun b n z=>by
  subst z
  rcases he with r |r
  ·exact hx b n r
  ·rw[n] at r;cases r
 have hm:∀b u,H b=some u→¬ Mut (some u)→b≠x:=fun b u q nm z=>by subst z;rw[q] at mu;exact nm mu
 refine ⟨fun b u q n _ _=>k b u (hb b n) q,fun b u q n _ _=>⟨u.slots,k b u (hb b n) q⟩,fun b u q n _=>by rw[aL (hx b n)];exact n,fun b u q _=>?_,
  fun b xs q=>by rw[aL (hm b _ q fun z=>z)];exact q,fun b u xs q=>by rw[aL (hm b _ q fun z=>z)];exact q,fun b ps q=>⟨#[],by rw[aL (hm b _ q fun z=>z),q];simp⟩⟩
 by_cases hbe:b=e
 ·subst hbe;exact heo
 ·exact ⟨u,k b u hbe q⟩
end
def trk (h:Heap) (H:Hp):List Addr:=(Bi h.objs.size).filter fun a=>(H a).isSome
def jK (h:Heap) (H:Hp):Heap:=PySem.W.hideAll h (trk h H)
theorem qL (h:Heap) (H:Hp):(jK h H).objs.size=h.objs.size:=PySem.W.hideAll_size _ _
theorem tp {h:Heap}{H:Hp}{b:Addr}{o:Obj} (e:h.get? b=some o) (n:H b=none):(jK h H).get? b=some o:=
 PySem.W.hideAll_get _ e fun hm=>by
  have q:(H b).isSome=true:=(Cd.mp hm).2
  rw[n] at q;simp at q
theorem pQ {h:Heap}{H:Hp}{b:Addr}{o:Obj} (e:(jK h H).get? b=some o):h.get? b=some o∧H b=none:=by
 have e':h.get? b=some o:=PySem.W.of_hideAll (trk h H) e
 refine ⟨e',?_⟩
 cases q:H b with
 |none=>rfl
 |some x=>
  have hm:b∈trk h H:=Cd.mpr ⟨AQ.mpr (AC e'),by simp[q]⟩
  have z:(jK h H).get? b=none:=PySem.W.hideAll_none (trk h H) hm
  rw[z] at e;cases e
def uE (g h:Heap) (L:Addr):List (Addr×Obj):=(Bi h.objs.size).filterMap fun a=>if a=L∨(g.get? a).isSome=true then none else (h.get? a).map fun o=>(a,o)
def rest (g h:Heap) (L d:Addr):List (Addr×Obj):=(uE g h L).filter fun p=>decide (p.1≠d)
structure Mod (K:Ap) (mg:Str→Option Value) (base:Heap):Prop where
 kin:K.In base
 glob:base.Ns AK mg
 blt:∃mb,base.Ns EU mb∧∀x:Str,x≠"__name__"→mb x=Cp x
 nolimit:base.NoLimit
structure Cx where
 prog:AD
 w:World
 K:Ap
 mg:Str→Option Value
 base:Heap
 A:A5
 N:List Str
 s₀:As
 H₀:Hp
 env:Env
 outer:List Env
 stack:List Env
 ex:List Addr
 fn:Str→Bool
 calm:Bool
 pn:List (Addr×Obj)
 xe:Value→As→Prop
def frs (l:List Env):List Addr:=l.filterMap (·.frame)
abbrev Cx.fs (X:Cx):List Addr:=frs X.outer
def Vis (sc:Scope) (x:Str):Prop:=sc.names.lookup x=some .local∨sc.names.lookup x=some .cell∨sc.names.lookup x=some .free
def Loc (sc:Scope) (x:Str):Prop:=sc.names.lookup x=some .local∨sc.names.lookup x=some .cell
def zJ (env:Env) (h:Heap) (m:Str→Option Value) (x:Str) (u:Value):Prop:=
 (env.kindOf x=some .local∧m x=some u)∨((env.kindOf x=some .cell∨env.kindOf x=some .free)∧∃c,env.cells.lookup x=some c∧h.IsCell c (some u))
def Amb (mg:Str→Option Value) (base:Heap) (H:Hp):Prop:=∀f o fd c oc vs P,mg "to_form"=some (.ref f)→base.get? f=some o→o.data=.func fd→fd.code=.ref c→base.get? c=some oc→oc.data=.fields vs→vs.getD 11 .none=.ref P→∃ps,H P=some (.tbl ps)
structure Frf (mg:Str→Option Value) (base:Heap) (fs:List Addr) (H:Hp):Prop where
 fr:∀b∈fs,H b=none
 amb:Amb mg base H
structure Cx.Ok (X:Cx):Prop where
 mod:Mod X.K X.mg X.base
 kind:X.env.scope.kind=.function
 glob:X.env.globals=AK
 blt:X.env.builtins=EU
 above:X.s₀.heap.objs.size≤X.env.locals
 inj:∀x y c,X.env.cells.lookup x=some c→X.env.cells.lookup y=some c→x=y
 has:∀x,(X.env.kindOf x=some .cell∨X.env.kindOf x=some .free)→∃c,X.env.cells.lookup x=some c
 cab:∀x c,X.fn x=true→X.env.cells.lookup x=some c→X.s₀.heap.objs.size≤c
 hd:X.calm=true→X.A.handled=none
 frames:X.A.frames=some X.stack
 stk:X.stack=X.outer∨(X.stack=X.env::X.outer∧X.env.frame=some X.env.locals)
 exf:∀b∈X.ex,b≠X.env.locals∧∀x c,X.env.cells.lookup x=some c→c≠b
 bs:∀b o,X.base.get? b=some o→X.s₀.heap.get? b=some o∧X.H₀ b=none
 bsz:X.base.objs.size≤X.s₀.heap.objs.size
 noex:∀b o,X.base.get? b=some o→b ∉ X.ex
 exfs:∀b∈X.ex,b ∉ X.fs
 funs:X.s₀.heap.FunFrames X.base X.outer
 frf:Frf X.mg X.base X.fs X.H₀
structure Inv (X:Cx) (pins:List (Addr×Obj)) (σ:List (Option V)) (H:Hp) (s:As):Prop where
 ok:X.Ok
 os:s.os=X.s₀.os
 bare:Fy s.gens
 base:Un X.fs X.ex X.H₀ H X.s₀.heap s.heap
 loc:∃m,s.heap.Ns X.env.locals m∧∀(i:Nat) (x:Str) (v:V),X.N[i]?=some x→σ[i]?=some (some v)→Vis X.env.scope x→∃u,aW v u∧zJ X.env s.heap m x u
 cell:∀x c,X.env.cells.lookup x=some c→∃v,s.heap.IsCell c v
 free:H X.env.locals=none
 freeC:∀x c,X.env.cells.lookup x=some c→H c=none
 pin:∀p∈X.pn++pins,s.heap.get? p.1=some p.2∧H p.1=none∧p.1≠X.env.locals∧p.1 ∉ X.fs∧∀v,p.2.data≠.cell v
 hok:HOk X.prog X.w H s.heap
 len:σ.length=X.N.length
section
variable {X:Cx}{pins:List (Addr×Obj)}{σ:List (Option V)}{H H':Hp}{s:As}{h':Heap}
theorem Cx.Ok.nofr (ok:X.Ok) {b:Addr}{o:Obj} (e:X.base.get? b=some o):b ∉ X.fs:=fun hb=>by
 have:=(ok.funs.mem hb).1
 rw[e] at this;cases this
theorem Inv.bs (I:Inv X pins σ H s):∀b o,X.base.get? b=some o→s.heap.get? b=some o∧H b=none:=fun b o e=>
 ⟨I.base.keep b o (I.ok.bs b o e).1 (I.ok.bs b o e).2 (I.ok.nofr e) (I.ok.noex b o e),I.base.free b o (I.ok.bs b o e).1 (I.ok.bs b o e).2 (I.ok.noex b o e)⟩
theorem Inv.bk (I:Inv X pins σ H s):∀b o,X.base.get? b=some o→s.heap.get? b=some o:=fun b o e=>(I.bs b o e).1
theorem Inv.mod (I:Inv X pins σ H s):Mod X.K X.mg X.base:=I.ok.mod
theorem Inv.kIn (I:Inv X pins σ H s):X.K.In s.heap:=I.ok.mod.kin.keeps I.bk
theorem Inv.nolimit (I:Inv X pins σ H s):s.heap.NoLimit:=I.ok.mod.nolimit.keeps I.bk
theorem Inv.lt (I:Inv X pins σ H s):X.env.locals < s.heap.objs.size:=let ⟨_,hn,_⟩:=I.loc;hn.lt
theorem Inv.sz (I:Inv X pins σ H s):X.s₀.heap.objs.size≤s.heap.objs.size:=BR I.ok.above (By I.lt)
theorem Inv.nofs (I:Inv X pins σ H s) {a:Addr} (h:s.heap.objs.size≤a):a ∉ X.fs:=fun hb=>by
 obtain ⟨_,o,ho,_⟩:=I.ok.funs.mem hb
 exact absurd (A3 (AC ho) (BR I.sz h)) (Bs _)
theorem Inv.cne (I:Inv X pins σ H s):∀x c,X.env.cells.lookup x=some c→c≠X.env.locals:=fun x c e z=>by
 obtain ⟨v,o,ho,hd⟩:=I.cell x c e
 obtain ⟨m,⟨o',es,ep,ho',hd',_⟩,_⟩:=I.loc
 rw[z,ho'] at ho;cases ho;rw[hd'] at hd;cases hd
theorem Inv.funs (I:Inv X pins σ H s):s.heap.FunFrames X.base X.outer:=by
 have all:∀(l:List Env),(∀b∈frs l,b∈X.fs)→X.s₀.heap.FunFrames X.base l→s.heap.FunFrames X.base l:=by
  intro l
  induction l with
  |nil=>intro _ _;trivial
  |cons env r ih=>
   intro hs hl
   obtain ⟨hk,⟨L,o,hf,hn,ho,hd⟩,hr⟩:=hl
   have hL:L∈X.fs:=hs L (by unfold frs;rw[Ca,hf];exact AF)
   obtain ⟨sl,e⟩:=I.base.slot L o ho (I.ok.frf.fr L hL) hL fun z=>I.ok.exfs L z hL
   exact ⟨hk,⟨L,_,hf,hn,e,hd⟩,ih (fun b hb=>hs b (by unfold frs;rw[Ca,hf];exact Aw _ hb)) hr⟩
 exact all X.outer (fun _ hb=>hb) I.ok.funs
theorem Inv.stack (I:Inv X pins σ H s):s.heap.FunFrames X.base X.stack:=by
 rcases I.ok.stk with e |⟨e,hf⟩
 ·rw[e];exact I.funs
 ·rw[e]
  obtain ⟨m,hn,_⟩:=I.loc
  refine .cons (by rw[I.ok.kind];decide) hf hn ?_ I.funs
  exact Heap.get?_none_of_le (BR I.ok.bsz I.ok.above)
theorem Inv.stkSub (I:Inv X pins σ H s):∀b∈frs X.stack,b∈X.env.locals::X.fs:=fun b hb=>by
 rcases I.ok.stk with e |⟨e,hf⟩
 ·rw[e] at hb;exact Aw _ hb
 ·rw[e] at hb
  unfold frs at hb
  rw[Ca,hf] at hb
  exact hb
theorem Inv.amb (I:Inv X pins σ H s):Amb X.mg X.base H:=fun f o fd c oc vs P h1 h2 h3 h4 h5 h6 h7=>by
 obtain ⟨ps,e⟩:=I.ok.frf.amb f o fd c oc vs P h1 h2 h3 h4 h5 h6 h7
 obtain ⟨m,q⟩:=I.base.tbls P ps e
 exact ⟨_,q⟩
theorem Inv.stkFree (I:Inv X pins σ H s):∀b∈frs X.stack,H b=none:=fun b hb=>by
 rcases AB.mp (I.stkSub b hb) with e |hb
 ·rw[e];exact I.free
 ·obtain ⟨_,o,ho,_⟩:=I.ok.funs.mem hb
  exact I.base.free b o ho (I.ok.frf.fr b hb) fun z=>I.ok.exfs b z hb
theorem Inv.step {g':Array DC}{t':Nat}{d':Drawn}{ch:List Addr} (I:Inv X pins σ H s)
  (hch:∀b∈ch,(b∈X.ex∨X.s₀.heap.objs.size≤b)∧b≠X.env.locals∧(∀x c,X.env.cells.lookup x=some c→c≠b)∧∀p∈X.pn++pins,p.1≠b)
  (keep:∀b o,b≠X.env.locals→b ∉ X.fs→b ∉ ch→s.heap.get? b=some o→H b=none→h'.get? b=some o)
  (slot:∀b o,b≠X.env.locals→b∈X.fs→b ∉ ch→s.heap.get? b=some o→H b=none→∃sl,h'.get? b=some {o with slots:=sl }) (free:∀b o,b ∉ ch→s.heap.get? b=some o→H b=none→H' b=none)
  (there:∀b o,b ∉ ch→s.heap.get? b=some o→∃o',h'.get? b=some o')
  (tups:∀b xs,H b=some (.tup xs)→H' b=some (.tup xs)) (frzs:∀b o u,H b=some (.frz o u)→H' b=some (.frz o u)) (tbls:∀b ps,H b=some (.tbl ps)→∃more,H' b=some (.tbl (ps++more)))
  (ns:∀m,s.heap.Ns X.env.locals m→h'.Ns X.env.locals m) (hok:HOk X.prog X.w H' h') (hg:Fy g'):
  Inv X pins σ H' {s with heap:=h',gens:=g',drawn:=d',toks:=t' }:=by
 have neL:∀b o,X.s₀.heap.get? b=some o→b≠X.env.locals:=fun b o e=>A4 (A3 (AC e) I.ok.above)
 have neC:∀b o,X.s₀.heap.get? b=some o→b ∉ X.ex→b ∉ ch:=fun b o e hx hb=>by
  rcases (hch b hb).1 with z |z
  ·exact hx z
  ·exact absurd (A3 (AC e) z) (Bs _)
 have cellK:∀x c,X.env.cells.lookup x=some c→∀v,s.heap.IsCell c v→h'.IsCell c v:=fun x c e v ⟨o,ho,hd⟩=>by
  have nch:c ∉ ch:=fun z=>(hch c z).2.2.1 x c e rfl
  by_cases hc:c∈X.fs
  ·obtain ⟨sl,q⟩:=slot c o (I.cne x c e) hc nch ho (I.freeC x c e)
   exact ⟨_,q,hd⟩
  ·exact ⟨o,keep c o (I.cne x c e) hc nch ho (I.freeC x c e),hd⟩
 refine ⟨I.ok,I.os,hg,⟨fun b o e n hb hx=>?_,fun b o e n hb hx=>?_,fun b o e n hx=>?_,fun b o e hx=>?_,fun b xs e=>tups b xs (I.base.tups b xs e),fun b o xs e=>frzs b o xs (I.base.frzs b o xs e),fun b ps e=>?_⟩,?_,fun x c e=>?_,?_,fun x c e=>?_,fun p hp=>?_,hok,I.len⟩
 ·exact keep b o (neL b o e) hb (neC b o e hx) (I.base.keep b o e n hb hx) (I.base.free b o e n hx)
 ·obtain ⟨sl,e1⟩:=I.base.slot b o e n hb hx
  obtain ⟨sl',e2⟩:=slot b _ (neL b o e) hb (neC b o e hx) e1 (I.base.free b o e n hx)
  exact ⟨sl',e2⟩
 ·obtain ⟨o',e1⟩:=I.base.there b o e hx
  exact free b o' (neC b o e hx) e1 (I.base.free b o e n hx)
 ·obtain ⟨o',e1⟩:=I.base.there b o e hx
  exact there b o' (neC b o e hx) e1
 ·obtain ⟨m1,e1⟩:=I.base.tbls b ps e
  obtain ⟨m2,e2⟩:=tbls b _ e1
  exact ⟨m1++m2,by rw[e2,Array.append_assoc]⟩
 ·obtain ⟨m,hn,hl⟩:=I.loc
  refine ⟨m,ns m hn,fun i x v e1 e2 e3=>?_⟩
  obtain ⟨u,r,l⟩:=hl i x v e1 e2 e3
  refine ⟨u,r,?_⟩
  rcases l with l |⟨k,c,e,z⟩
  ·exact .inl l
  ·exact .inr ⟨k,c,e,cellK x c e _ z⟩
 ·obtain ⟨v,z⟩:=I.cell x c e
  exact ⟨v,cellK x c e v z⟩
 ·obtain ⟨m,⟨o,_,_,ho,_⟩,_⟩:=I.loc
  exact free _ o (fun z=>(hch _ z).2.1 rfl) ho I.free
 ·obtain ⟨v,o,ho,hd⟩:=I.cell x c e
  exact free c o (fun z=>(hch c z).2.2.1 x c e rfl) ho (I.freeC x c e)
 ·obtain ⟨e,n,ne,nf,d⟩:=I.pin p hp
  have nch:p.1 ∉ ch:=fun z=>(hch p.1 z).2.2.2 p hp rfl
  exact ⟨keep p.1 p.2 ne nf nch e n,free p.1 p.2 nch e n,ne,nf,d⟩
theorem Inv.un {t':Nat} (I:Inv X pins σ H s) (u:Un X.fs [] H H' s.heap h') (hok:HOk X.prog X.w H' h'):Inv X pins σ H' {s with heap:=h',toks:=t' }:=by
 obtain ⟨m,⟨o,es,ep,ho,r⟩,_⟩:=id I.loc
 obtain ⟨sl,hL⟩:=u.any ho I.free (by simp)
 exact I.step (g':=s.gens) (d':=s.drawn) (ch:=[]) (fun _ z=>nomatch z) (fun b o _ hb _ e n=>u.keep b o e n hb (by simp)) (fun b o _ hb _ e n=>u.slot b o e n hb (by simp)) (fun b o _ e n=>u.free b o e n (by simp)) (fun b o _ e=>u.there b o e (by simp)) u.tups u.frzs u.tbls (fun m' hm=>by
  obtain ⟨o',es',ep',ho',r'⟩:=hm
  rw[ho] at ho';cases ho'
  exact ⟨_,es',ep',hL,r'⟩) hok I.bare
theorem Inv.call {g':Array DC}{t':Nat}{d':Drawn}{ch:List Addr} (I:Inv X pins σ H s) (u:Un (frs X.stack) ch H H' s.heap h') (hok:HOk X.prog X.w H' h') (hg:Fy g')
  (hch:∀b∈ch,(b∈X.ex∨X.s₀.heap.objs.size≤b)∧b≠X.env.locals∧(∀x c,X.env.cells.lookup x=some c→c≠b)∧∀p∈X.pn++pins,p.1≠b):
  Inv X pins σ H' {s with heap:=h',gens:=g',drawn:=d',toks:=t' }:=by
 obtain ⟨m,⟨o,es,ep,ho,r⟩,_⟩:=id I.loc
 obtain ⟨sl,hL⟩:=u.any ho I.free fun z=>(hch _ z).2.1 rfl
 exact I.step (ch:=ch) hch (fun b o hL hb hc e n=>u.keep b o e n (fun z=>(AB.mp (I.stkSub b z)).elim hL hb) hc) (fun b o _ _ hc e n=>u.any e n hc) (fun b o hc e n=>u.free b o e n hc) (fun b o hc e=>u.there b o e hc) u.tups u.frzs u.tbls (fun m' hm=>by
  obtain ⟨o',es',ep',ho',r'⟩:=hm
  rw[ho] at ho';cases ho'
  exact ⟨_,es',ep',hL,r'⟩) hok hg
theorem Inv.turned {t':Nat}{it:Addr} (I:Inv X pins σ H s) (k:∀b o,b≠it→s.heap.get? b=some o→h'.get? b=some o) (hn:H it=none) (hL:it≠X.env.locals)
  (h1:it∈X.ex∨X.s₀.heap.objs.size≤it) (h2:∀x c,X.env.cells.lookup x=some c→c≠it) (h3:∀p∈X.pn++pins,p.1≠it):Inv X pins σ H {s with heap:=h',toks:=t' }:=by
 have nit:∀b u,H b=some u→b≠it:=fun b u e z=>by rw[z,hn] at e;cases e
 refine I.step (g':=s.gens) (d':=s.drawn) (ch:=[it]) (fun b hb=>?_) (fun b o _ _ hc e _=>k b o (fun z=>hc (by simp[z])) e) (fun b o _ _ hc e _=>⟨o.slots,k b o (fun z=>hc (by simp[z])) e⟩) (fun _ _ _ _ n=>n)
  (fun b o hc e=>⟨o,k b o (fun z=>hc (by simp[z])) e⟩) (fun _ _ e=>e) (fun _ _ _ e=>e) (fun b ps e=>⟨#[],by rw[e];simp⟩) (fun m hm=>?_) (fun b u e=>?_) I.bare
 ·have e:b=it:=by simpa using hb
  subst e
  exact ⟨h1,hL,h2,h3⟩
 ·obtain ⟨o,es,ep,ho,r⟩:=hm
  exact ⟨o,es,ep,k _ o (Ne.symm hL) ho,r⟩
 ·refine (I.hok b u e).stay (fun c v hc q=>k c v ?_ q) (fun _ q=>q) (fun _ _ _ q=>q) fun _ _ q=>q
  rcases hc with z |z
  ·rw[z];exact nit b u e
  ·exact nit c _ z
theorem Inv.tok (I:Inv X pins σ H s) (t:Nat):Inv X pins σ H {s with toks:=t }:=I.un (h':=s.heap) (t':=t) Un.refl I.hok
theorem Inv.kept {t':Nat} (I:Inv X pins σ H s) (k:∀b u,s.heap.get? b=some u→h'.get? b=some u):Inv X pins σ H {s with heap:=h',toks:=t' }:=I.un (Un.kept k) (I.hok.kept k)
theorem Inv.laid {a:Addr}{o:HO}{t':Nat} (I:Inv X pins σ H s) (k:∀b u,s.heap.get? b=some u→h'.get? b=some u) (hp:s.heap.objs.size≤a) (new:cH X.prog X.w (upd H a o) h' a o):
  Inv X pins σ (upd H a o) {s with heap:=h',toks:=t' }:=I.un (Un.laid k hp (I.hok.fresh hp)) (I.hok.laid k hp new)
theorem Inv.write {x e:Addr}{o:HO}{t':Nat} (I:Inv X pins σ H s) (mu:Mut (H x)) (he:e=x∨H e=some (.own x)) (k:∀b u,b≠e→s.heap.get? b=some u→h'.get? b=some u) (heo:∃u,h'.get? e=some u)
  (new:cH X.prog X.w (upd H x o) h' x o):Inv X pins σ (upd H x o) {s with heap:=h',toks:=t' }:=I.un (Un.write mu he k heo) (I.hok.write mu he k heo new)
theorem Inv.weak {σ':List (Option V)} (I:Inv X pins σ H s) (hl:σ'.length=σ.length) (w:∀(i:Nat) v,σ'[i]?=some (some v)→σ[i]?=some (some v)):Inv X pins σ' H s:=
 ⟨I.ok,I.os,I.bare,I.base,let ⟨m,hn,hl'⟩:=I.loc;⟨m,hn,fun i x v e1 e2 e3=>hl' i x v e1 (w i v e2) e3⟩,I.cell,I.free,I.freeC,I.pin,I.hok,hl.trans I.len⟩
theorem Inv.pins_of {pins':List (Addr×Obj)} (I:Inv X pins σ H s) (h:∀p∈pins',s.heap.get? p.1=some p.2∧H p.1=none∧p.1≠X.env.locals∧p.1 ∉ X.fs∧∀v,p.2.data≠.cell v):Inv X pins' σ H s:=
 ⟨I.ok,I.os,I.bare,I.base,I.loc,I.cell,I.free,I.freeC,fun p hp=>(B4.mp hp).elim (fun z=>I.pin p (Bu _ z)) (h p),I.hok,I.len⟩
theorem ma {N:List Str} (hN:N.Nodup) {i j:Nat}{x:Str} (a:N[i]?=some x) (b:N[j]?=some x):i=j:=by
 obtain ⟨h1,e1⟩:=AG.mp a
 obtain ⟨h2,e2⟩:=AG.mp b
 exact (EG hN).mp (e1.trans e2.symm)
theorem j4 {M:Model}{A:A5}{E:Value→As→Prop}{i:Nat}{x:Str}{v:V}{u:Value}{Q:Unit→As→Prop} (I:Inv X pins σ H s) (hN:X.N.Nodup) (hi:X.N[i]?=some x) (hx:Loc X.env.scope x) (r:aW v u)
  (h:∀s',Inv X pins (σ.set i (some v)) H s'→(∃a,Dw a s.heap s'.heap∧(a=X.env.locals∨X.env.cells.lookup x=some a))→Q () s') (hf:X.fn x=true∨X.env.scope.names.lookup x=some .local:=by first |exact .inl rfl |exact .inr rfl |assumption):wpAny M A (storeName X.env x u) Q E s:=by
 obtain ⟨m,hn,hl⟩:=id I.loc
 have hcls:(X.env.scope.kind==.class || (X.env.scope.kind==.module && X.env.locals !=X.env.globals))=false:=by rw[I.ok.kind];rfl
 have hiσ:i < σ.length:=by rw[I.len];exact (AG.mp hi).1
 have cne:=I.cne
 have tracked:∀{a:Addr}{h':Heap},(∃o,s.heap.get? a=some o∧H a=none)→Dw a s.heap h'→HOk X.prog X.w H h':=fun {a h'} ha hs b ob e=>by
  obtain ⟨_,_,hfree⟩:=ha
  refine (I.hok b ob e).stay (fun c w' hc q=>(hs.2 c ?_).trans q) (fun _ q=>q) (fun _ _ _ q=>q) fun _ _ q=>q
  rintro rfl
  rcases hc with rfl |hc
  ·rw[hfree] at e;cases e
  ·rw[hfree] at hc;cases hc
 rcases hx with hk |hk
 ·refine wpAny_storeName_local hk hn (fun h' hn' hs=>?_) hcls
  obtain ⟨oL,_,_,hoL,_⟩:=id hn
  refine h _ ⟨I.ok,I.os,I.bare,⟨fun b o e n hb hx=>?_,fun b o e n hb hx=>?_,I.base.free,fun b o e hx=>?_,I.base.tups,I.base.frzs,I.base.tbls⟩,⟨_,hn',fun j y v' e1 e2 e3=>?_⟩,fun y c e=>?_,I.free,I.freeC,fun p hp=>?_,tracked ⟨oL,hoL,I.free⟩ hs,by simpa using I.len⟩ ⟨_,hs,.inl rfl⟩
  ·exact (hs.2 b (A4 (A3 (AC e) I.ok.above))).trans (I.base.keep b o e n hb hx)
  ·obtain ⟨sl,e1⟩:=I.base.slot b o e n hb hx
   exact ⟨sl,(hs.2 b (A4 (A3 (AC e) I.ok.above))).trans e1⟩
  ·obtain ⟨o',e1⟩:=I.base.there b o e hx
   exact ⟨o',(hs.2 b (A4 (A3 (AC e) I.ok.above))).trans e1⟩
  ·by_cases hj:j=i
   ·subst hj
    rw[hi] at e1;cases e1
    rw[FN hiσ] at e2
    cases e2
    exact ⟨u,r,.inl ⟨hk,by simp⟩⟩
   ·rw[Ba (Ne.symm hj)] at e2
    obtain ⟨u',r',q⟩:=hl j y v' e1 e2 e3
    refine ⟨u',r',?_⟩
    rcases q with ⟨k,e⟩ |⟨k,c,e,z⟩
    ·refine .inl ⟨k,?_⟩
     have:y≠x:=fun e=>hj (ma hN e1 (e ▸ hi))
     simp[this,e]
    ·exact .inr ⟨k,c,e,z.sameBut hs (cne y c e)⟩
  ·obtain ⟨w',z⟩:=I.cell y c e
   exact ⟨w',z.sameBut hs (cne y c e)⟩
  ·obtain ⟨e,n,ne,nf,d⟩:=I.pin p hp
   exact ⟨(hs.2 p.1 ne).trans e,n,ne,nf,d⟩
 ·have hfn:X.fn x=true:=by
   rcases hf with z |z
   ·exact z
   ·rw[z] at hk;cases hk
  obtain ⟨c,hc⟩:=I.ok.has x (.inl hk)
  obtain ⟨w',z⟩:=I.cell x c hc
  refine wpAny_storeName_cell I.ok.kind hk hc z (fun h' hc' hs=>?_)
  obtain ⟨oc,hoc,hocd⟩:=id z
  refine h {s with heap:=h' } ⟨I.ok,I.os,I.bare,⟨fun b o e n hb hx=>?_,fun b o e n hb hx=>?_,I.base.free,fun b o e hx=>?_,I.base.tups,I.base.frzs,I.base.tbls⟩,⟨m,hn.sameBut hs (Ne.symm (cne x c hc)),fun j y v' e1 e2 e3=>?_⟩,fun y c' e=>?_,I.free,I.freeC,fun p hp=>?_,tracked ⟨oc,hoc,I.freeC x c hc⟩ hs,by simpa using I.len⟩ ⟨c,hs,.inr hc⟩
  ·exact (hs.2 b (A4 (A3 (AC e) (I.ok.cab x c hfn hc)))).trans (I.base.keep b o e n hb hx)
  ·obtain ⟨sl,e1⟩:=I.base.slot b o e n hb hx
   exact ⟨sl,(hs.2 b (A4 (A3 (AC e) (I.ok.cab x c hfn hc)))).trans e1⟩
  ·obtain ⟨o',e1⟩:=I.base.there b o e hx
   exact ⟨o',(hs.2 b (A4 (A3 (AC e) (I.ok.cab x c hfn hc)))).trans e1⟩
  ·by_cases hj:j=i
   ·subst hj
    rw[hi] at e1;cases e1
    rw[FN hiσ] at e2
    cases e2
    exact ⟨u,r,.inr ⟨.inl hk,c,hc,hc'⟩⟩
   ·rw[Ba (Ne.symm hj)] at e2
    obtain ⟨u',r',q⟩:=hl j y v' e1 e2 e3
    refine ⟨u',r',?_⟩
    rcases q with q |⟨k,c',e,z'⟩
    ·exact .inl q
    ·refine .inr ⟨k,c',e,z'.sameBut hs ?_⟩
     rintro rfl
     exact hj (ma hN e1 (I.ok.inj _ _ _ e hc ▸ hi))
  ·by_cases hcc:c'=c
   ·subst hcc;exact ⟨_,hc'⟩
   ·obtain ⟨w2,z2⟩:=I.cell y c' e
    exact ⟨w2,z2.sameBut hs hcc⟩
  ·obtain ⟨e,n,ne,nf,d⟩:=I.pin p hp
   refine ⟨(hs.2 p.1 ?_).trans e,n,ne,nf,d⟩
   intro q
   rw[q,hoc] at e
   have q':oc=p.2:=Bo e
   exact d w' (by rw[←q'];exact hocd)
theorem nF {M:Model}{A:A5}{E:Value→As→Prop}{i:Nat}{x:Str}{v:V}{u:Value}{Q:Unit→As→Prop} (I:Inv X pins σ H s) (hN:X.N.Nodup) (hi:X.N[i]?=some x) (hx:Loc X.env.scope x) (r:aW v u)
  (h:∀s',Inv X pins (σ.set i (some v)) H s'→Q () s') (hf:X.fn x=true∨X.env.scope.names.lookup x=some .local:=by first |exact .inl rfl |exact .inr rfl |assumption):wpAny M A (storeName X.env x u) Q E s:=
 j4 I hN hi hx r (fun s' I' _=>h s' I') hf
theorem Inv.call' {s':As}{ch:List Addr} (I:Inv X pins σ H s) (ho:s'.os=s.os) (u:Un (frs X.stack) ch H H' s.heap s'.heap) (hok:HOk X.prog X.w H' s'.heap) (hg:Fy s'.gens)
  (hch:∀b∈ch,(b∈X.ex∨X.s₀.heap.objs.size≤b)∧b≠X.env.locals∧(∀x c,X.env.cells.lookup x=some c→c≠b)∧∀p∈X.pn++pins,p.1≠b):Inv X pins σ H' s':=by
 obtain ⟨h',g',d',t',o'⟩:=s'
 have e:o'=s.os:=ho
 subst e
 exact I.call (g':=g') (t':=t') (d':=d') u hok hg hch
end
abbrev XK:=Value→Option Addr→Hp→Prop
abbrev St:=List (Option V)
abbrev VK:=V→Hp→Prop
abbrev TE:=St→Hp→VK→Prop
abbrev TT:=St→Hp→(Bool→Hp→Prop)→Prop
abbrev TA:=St→Hp→(List V→Hp→Prop)→Prop
structure kM where
 nx:St→Hp→Prop
 rt:VK
 bk:St→Hp→Prop:=fun _ _=>False
 ct:St→Hp→Prop:=fun _ _=>False
abbrev TS:=kM→St→Hp→Prop
def EP (X:Cx) (pins:List (Addr×Obj)) (σ:St) (Q:VK) (u:Value) (s':As):Prop:=∃v H',Inv X pins σ H' s'∧aW v u∧Q v H'
def TP (X:Cx) (pins:List (Addr×Obj)) (σ:St) (Q:Bool→Hp→Prop) (b:Bool) (s':As):Prop:=∃H',Inv X pins σ H' s'∧Q b H'
def AP (X:Cx) (pins:List (Addr×Obj)) (σ:St) (Q:List V→Hp→Prop) (us:List Value) (s':As):Prop:=∃vs H',Inv X pins σ H' s'∧aR vs us∧Q vs H'
def SP (X:Cx) (pins:List (Addr×Obj)) (D:kM) (f:Flow) (s':As):Prop:=
 match f with
 | .next=>∃σ' H',Inv X pins σ' H' s'∧D.nx σ' H'
 | .brk=>∃σ' H',Inv X pins σ' H' s'∧D.bk σ' H'
 | .cont=>∃σ' H',Inv X pins σ' H' s'∧D.ct σ' H'
 | .ret u=>∃v σ' H',Inv X pins σ' H' s'∧aW v u∧D.rt v H'
def PE (X:Cx) (e:Expr) (t:TE):Prop:=
 ∀(pins:List (Addr×Obj)) (s:As) (σ:St) (H:Hp) (Q:VK),Inv X pins σ H s→t σ H Q→wpAny (model X.prog X.w) X.A (eval e X.env) (EP X pins σ Q) X.xe s
def PT (X:Cx) (e:Expr) (t:TT):Prop:=
 ∀(pins:List (Addr×Obj)) (s:As) (σ:St) (H:Hp) (Q:Bool→Hp→Prop),Inv X pins σ H s→t σ H Q→wpAny (model X.prog X.w) X.A (isTrue e X.env (eval e X.env)) (TP X pins σ Q) X.xe s
def PW (X:Cx) (e:Expr) (t:TT):Prop:=
 ∀(whole:Sem Value) (pins:List (Addr×Obj)) (s:As) (σ:St) (H:Hp) (Q:Bool→Hp→Prop),Inv X pins σ H s→t σ H Q→wpAny (model X.prog X.w) X.A (isTrue e X.env whole) (TP X pins σ Q) X.xe s
theorem PW.pt {X:Cx}{e:Expr}{t:TT} (h:PW X e t):PT X e t:=h _
def PA (X:Cx) (es:List Expr) (t:TA):Prop:=
 ∀(pos:Pos) (pins:List (Addr×Obj)) (s:As) (σ:St) (H:Hp) (Q:List V→Hp→Prop),Inv X pins σ H s→t σ H Q→wpAny (model X.prog X.w) X.A (spliced (Ec pos (AL es X.env))) (AP X pins σ Q) X.xe s
def PS (X:Cx) (st:Stmt) (t:TS):Prop:=
 ∀(pins:List (Addr×Obj)) (s:As) (σ:St) (H:Hp) (D:kM),Inv X pins σ H s→t D σ H→wpAny (model X.prog X.w) X.A (exec st X.env) (SP X pins D) X.xe s
def PSs (X:Cx) (st:List Stmt) (t:TS):Prop:=
 ∀(pins:List (Addr×Obj)) (s:As) (σ:St) (H:Hp) (D:kM),Inv X pins σ H s→t D σ H→wpAny (model X.prog X.w) X.A (execs st X.env) (SP X pins D) X.xe s
theorem thn {α:Type}{t:Sem α}{Q Q':α→As→Prop}{M:Model}{A:A5}{E:Value→As→Prop}{s:As} (h:wpAny M A t Q E s) (hQ:∀a s,Q a s→Q' a s):wpAny M A t Q' E s:=Cs h hQ fun _ _ x=>x
section
variable {X:Cx}
def z8 (i:Nat):TE:=fun σ H Q=>∃v,σ[i]?=some (some v)∧Q v H
def tC (v:V):TE:=fun _ H Q=>Q v H
theorem iw {i:Nat}{x:Str}{pos:Pos} (hN:X.N[i]?=some x) (hv:Vis X.env.scope x) (hd:(x==("__debug__":Str))=false:=by decide) (hcd:(x==("__classdict__":Str))=false:=by decide):PE X (.Name x pos) (z8 i):=by
 intro pins s σ H Q I h
 obtain ⟨v,e,h⟩:=h
 obtain ⟨m,hn,hl⟩:=I.loc
 obtain ⟨u,r,l⟩:=hl i x v hN e hv
 have fin:EP X pins σ Q u s:=⟨v,H,I,r,h⟩
 rcases l with ⟨hk,hm⟩ |⟨hk,c,hc,hcell⟩
 ·exact IL (wpAny_loadName_local I.ok.kind hk hn hm fin) hd
 ·rcases hk with hk |hk
  ·exact IL (wpAny_loadName_cell I.ok.kind hk hc hcell fin) hd
  ·exact IL (wpAny_loadName_free I.ok.kind hk hc hcell fin hcd) hd
theorem yg {i j pos}:PE X (.Constant (.int i) j pos) (tC (.int i)):=fun _ _ _ H _ I h=>wpAny_Constant_int ⟨.int i,H,I.tok _,⟨_,rfl⟩,h⟩
theorem yS {b j pos}:PE X (.Constant (.bool b) j pos) (tC (.bl b)):=fun _ _ _ H _ I h=>Constant_bool ⟨.bl b,H,I,rfl,h⟩
theorem xU {j pos}:PE X (.Constant .none j pos) (tC .non):=fun _ _ _ H _ I h=>Constant_none ⟨.non,H,I,rfl,h⟩
def Gl (X:Cx) (x:Str):Prop:=X.env.kindOf x=some .globalImplicit
theorem uT {E:Value→As→Prop}{pins:List (Addr×Obj)}{s:As}{σ:St}{H:Hp}{x:Str}{u:Value}{pos:Pos}{Q:Value→As→Prop} (I:Inv X pins σ H s) (hg:Gl X x) (hm:X.mg x=some u) (h:Q u s)
  (hd:(x==("__debug__":Str))=false:=by decide):wpAny (model X.prog X.w) X.A (eval (.Name x pos) X.env) Q E s:=
 E6 I.ok.kind hg (Calls.loadGlobal_global (by rw[I.ok.glob];exact I.mod.glob.keeps I.bk) hm h) hd
theorem cT {E:Value→As→Prop}{pins:List (Addr×Obj)}{s:As}{σ:St}{H:Hp}{x:Str}{u:Value}{pos:Pos}{Q:Value→As→Prop} (I:Inv X pins σ H s) (hg:Gl X x) (hm:X.mg x=none) (hv:Cp x=some u) (h:Q u s)
  (hn:x≠"__name__":=by decide) (hd:(x==("__debug__":Str))=false:=by decide):wpAny (model X.prog X.w) X.A (eval (.Name x pos) X.env) Q E s:=by
 obtain ⟨mb,h1,h2⟩:=I.mod.blt
 exact E6 I.ok.kind hg (Calls.loadGlobal_builtin (by rw[I.ok.glob];exact I.mod.glob.keeps I.bk) hm (by rw[I.ok.blt];exact h1.keeps I.bk) ((h2 x hn).trans hv) h) hd
theorem uY {x:Str}{v:V}{u:Value}{pos:Pos} (hg:Gl X x) (hm:X.mg x=none) (hv:Cp x=some u) (r:aW v u) (hn:x≠"__name__":=by decide) (hd:(x==("__debug__":Str))=false:=by decide):PE X (.Name x pos) (tC v):=
 fun _ _ _ H _ I h=>cT I hg hm hv ⟨v,H,I,r,h⟩ hn hd
variable {a b:Expr}{ta tb:TE}{pos:Pos}
def PC (X:Cx) (op:CmpOp) (a b:Expr) (t:TE):Prop:=
 ∀(pins:List (Addr×Obj)) (s:As) (σ:St) (H:Hp) (Q:VK),Inv X pins σ H s→t σ H Q→
  wpAny (model X.prog X.w) X.A (eval a X.env) (fun v s₁=>wpAny (model X.prog X.w) X.A (eval b X.env) (fun u s₂=>wpAny (model X.prog X.w) X.A (B5 op v u) (EP X pins σ Q) X.xe s₂) X.xe s₁) X.xe s
theorem ug (b:Expr) {op:CmpOp} (h:op≠.In) (h2:op≠.NotIn):CY op b=false:=by
 have e1:(op==CmpOp.In)=false:=by cases op <;>first |rfl |exact absurd rfl h
 have e2:(op==CmpOp.NotIn)=false:=by cases op <;>first |rfl |exact absurd rfl h2
 cases b <;>simp[CY,e1,e2]
def zm (ta:TE):TE:=fun σ H Q=>ta σ H fun x H1=>Q (.bl (!decide (x=.non))) H1
theorem aW.none_iff {x:V}{v:Value} (r:aW x v):(v==AY)=decide (x=.non):=by
 cases x with
 |non=>cases r;rfl
 |bl _=>cases r;rfl
 |int _=>obtain ⟨t,rfl⟩:=r;rfl
 |str _=>obtain ⟨t,rfl⟩:=r;rfl
 |byt _=>obtain ⟨t,rfl⟩:=r;rfl
 |flt _=>obtain ⟨t,rfl⟩:=r;rfl
 |ref _=>cases r;rfl
 |ty _=>cases r;rfl
theorem vh {j pos'} (ha:PE X a ta):PC X .IsNot a (.Constant .none j pos') (zm ta):=by
 intro pins s σ H Q I h
 refine thn (ha pins s σ H _ I h) fun v s1 ⟨x,H1,I1,r1,q1⟩=>?_
 exact Constant_none (isnot_none_gen ⟨.bl _,H1,I1,by rw[r1.none_iff];rfl,q1⟩)
def tB (t:TE):TT:=fun σ H Q=>t σ H fun x H1=>∃c,x=.bl c∧Q c H1
theorem yk {op:CmpOp}{t:TE} (h:PC X op a b t) (h1:CY op b=false:=by first |exact ug _ (by decide) (by decide) |rfl):PT X (.Compare a [op] [b] pos) (tB t):=by
 intro pins s σ H Q I hw
 refine FW (thn (h pins s σ H _ I hw) fun v s1 h1=>thn h1 fun u s2 h2=>thn h2 fun c s3 ⟨x,H1,I1,r1,q1⟩=>?_) h1
 obtain ⟨d,rfl,q⟩:=q1
 cases r1
 exact CN ⟨H1,I1,q⟩
theorem xo {e:Expr}{t:TE} (h:PE X e t) (he:∀whole,isTrue e X.env whole=(do let v ←whole;standAt e.pos;holding [v] (truthy v)):=by intro _;rfl):PT X e (tB t):=by
 intro pins s σ H Q I hw
 refine isTrue_plain (thn (h pins s σ H _ I hw) fun v s1 ⟨x,H1,I1,r1,q1⟩=>?_) (he _)
 obtain ⟨d,rfl,q⟩:=q1
 cases r1
 exact CN ⟨H1,I1,q⟩
variable {tA tB':TT}{rest:List Expr}
def zU (t u:TT):TT:=fun σ H Q=>t σ H fun c H1=>if c=true then u σ H1 Q else Q false H1
def tOr (t u:TT):TT:=fun σ H Q=>t σ H fun c H1=>if c=true then Q true H1 else u σ H1 Q
def zH (t:TT):TT:=fun σ H Q=>t σ H fun c H1=>Q (!c) H1
theorem vp (ha:PT X a tA):PW X (.BoolOp .And [a] pos) tA:=by
 intro wh pins s σ H Q I h
 refine isTrue_and (thn (ha pins s σ H Q I h) fun c s1 e=>?_)
 cases c with
 |true=>exact isTrue_and_nil e
 |false=>exact e
theorem xw (ha:PT X a tA):PW X (.BoolOp .Or [a] pos) tA:=by
 intro wh pins s σ H Q I h
 refine isTrue_or (thn (ha pins s σ H Q I h) fun c s1 e=>?_)
 cases c with
 |false=>exact isTrue_or_nil e
 |true=>exact e
theorem tj (ha:PT X a tA) (hb:PW X (.BoolOp .And (b::rest) pos) tB'):PW X (.BoolOp .And (a::b::rest) pos) (zU tA tB'):=by
 intro wh pins s σ H Q I h
 refine isTrue_and (thn (ha pins s σ H _ I h) fun c s1 ⟨H1,I1,q1⟩=>?_)
 cases c with
 |true=>exact hb wh pins s1 σ H1 Q I1 q1
 |false=>exact ⟨H1,I1,q1⟩
theorem v8 (ha:PT X a tA) (hb:PW X (.BoolOp .Or (b::rest) pos) tB'):PW X (.BoolOp .Or (a::b::rest) pos) (tOr tA tB'):=by
 intro wh pins s σ H Q I h
 refine isTrue_or (thn (ha pins s σ H _ I h) fun c s1 ⟨H1,I1,q1⟩=>?_)
 cases c with
 |true=>exact ⟨H1,I1,q1⟩
 |false=>exact hb wh pins s1 σ H1 Q I1 q1
theorem w4 (ha:PT X a tA):PT X (.UnaryOp .Not a pos) (zH tA):=by
 intro pins s σ H Q I h
 exact isTrue_not (ha pins s σ H (fun c H1=>Q (!c) H1) I h)
def y6 (ta tb:TE):TE:=fun σ H Q=>ta σ H fun x H1=>∃c,x=.bl c∧if c=true then tb σ H1 Q else Q (.bl false) H1
def zj (ta:TE):TE:=fun σ H Q=>ta σ H fun x H1=>∃c,x=.bl c∧Q (.bl (!c)) H1
theorem xK {op}{t:TE} (h:PE X a t):PE X (.BoolOp op [a] pos) t:=fun pins s σ H Q I hw=>BoolOp_one (h pins s σ H Q I hw)
theorem tU (ha:PE X a ta) (hb:PE X (.BoolOp .And (b::rest) pos) tb):PE X (.BoolOp .And (a::b::rest) pos) (y6 ta tb):=by
 intro pins s σ H Q I h
 refine BoolOp_and (thn (ha pins s σ H _ I h) fun v s1 ⟨x,H1,I1,r1,q1⟩=>?_)
 obtain ⟨c,rfl,q1⟩:=q1
 cases r1
 refine CN ?_
 cases c with
 |true=>exact hb pins s1 σ H1 Q I1 q1
 |false=>exact ⟨.bl false,H1,I1,rfl,q1⟩
theorem xC (ha:PE X a ta):PE X (.UnaryOp .Not a pos) (zj ta):=by
 intro pins s σ H Q I h
 refine UnaryOp_ (thn (ha pins s σ H _ I h) fun v s1 ⟨x,H1,I1,r1,q1⟩=>?_)
 obtain ⟨c,rfl,q1⟩:=q1
 cases r1
 exact not_of (CN ⟨.bl (!c),H1,I1,rfl,q1⟩)
end
def SqL (K:Ap) (H:Hp) (a:Addr) (xs:List V):Prop:=
 Rd H a (.lst xs)∨
  ∃(o:Obj) (its:Array Value) (n:Nat),K.lookup a=some o∧o.cls=.type "list"∧o.dict=none∧o.data=.seq its n∧its.size≤sizeLine∧aR xs its.toList
def SqT (K:Ap) (H:Hp) (a:Addr) (xs:List V):Prop:=
 Rd H a (.tup xs)∨
  ∃(o:Obj) (its:Array Value) (n:Nat),K.lookup a=some o∧o.cls=.type "tuple"∧o.data=.seq its n∧its.size≤sizeLine∧aR xs its.toList
def Ae:Value→Option V
 | .none=>some .non
 | .bool b=>some (.bl b)
 | .int i _=>some (.int i)
 | .str x _=>some (.str x)
 | .bytes b _=>some (.byt b)
 | .float b _=>some (.flt b)
 | .ref a=>some (.ref a)
 | .type n=>some (.ty n)
 |_=>none
theorem aW.abs {x:V}{u:Value} (r:aW x u):Ae u=some x:=by
 cases x with
 |non=>cases r;rfl
 |bl _=>cases r;rfl
 |int _=>obtain ⟨t,rfl⟩:=r;rfl
 |str _=>obtain ⟨t,rfl⟩:=r;rfl
 |byt _=>obtain ⟨t,rfl⟩:=r;rfl
 |flt _=>obtain ⟨t,rfl⟩:=r;rfl
 |ref _=>cases r;rfl
 |ty _=>cases r;rfl
theorem aW.inj {x y:V}{u:Value} (r:aW x u) (q:aW y u):x=y:=Bo (r.abs.symm.trans q.abs)
theorem aR.inj:∀{xs ys:List V}{us:List Value},aR xs us→aR ys us→xs=ys
 |_,_,_,.nil,.nil=>rfl
 |_,_,_,.cons r t,.cons r' t'=>by rw[r.inj r',aR.inj t t']
section
variable {X:Cx}{pins:List (Addr×Obj)}{σ:St}{H:Hp}{s:As}{a:Addr}{xs ys:List V}
theorem SqL.of {K:Ap} (h:H a=some (.lst xs)):SqL K H a xs:=.inl (.inl h)
theorem SqT.of {K:Ap} (h:H a=some (.tup xs)):SqT K H a xs:=.inl (.inl h)
theorem Inv.list (I:Inv X pins σ H s) (h:SqL X.K H a xs):∃its:List Value,aR xs its∧PlainL s.heap a its.toArray∧xs.length≤sizeLine:=by
 rcases h with h |⟨o,its,n,hk,hc,hd,hs,hz,r⟩
 ·obtain ⟨z,its,n,r,e⟩:=h.ok I.hok
  exact ⟨its,r,⟨_,n,e,rfl,rfl,rfl⟩,z⟩
 ·refine ⟨its.toList,r,⟨o,n,I.kIn a o hk,hc,hd,by simpa using hs⟩,?_⟩
  have e:=r.length
  simp only[AS] at e
  omega
theorem Inv.tuple (I:Inv X pins σ H s) (h:SqT X.K H a xs):∃its:List Value,aR xs its∧IsTup s.heap a its.toArray∧xs.length≤sizeLine:=by
 rcases h with h |⟨o,its,n,hk,hc,hs,hz,r⟩
 ·obtain ⟨z,its,r,p⟩:=h.ok I.hok
  exact ⟨its,r,p,z⟩
 ·refine ⟨its.toList,r,⟨o,I.kIn a o hk,hc,n,by simpa using hs⟩,?_⟩
  have e:=r.length
  simp only[AS] at e
  omega
theorem Inv.list_inj (I:Inv X pins σ H s) (h:SqL X.K H a xs) (h':SqL X.K H a ys):xs=ys:=by
 obtain ⟨its,r,⟨o,n,e,_,_,d⟩,_⟩:=I.list h
 obtain ⟨its',r',⟨o',n',e',_,_,d'⟩,_⟩:=I.list h'
 rw[e] at e';cases e'
 rw[d] at d'
 injection d' with d1 _
 have:its=its':=by simpa using congrArg Jq d1
 subst this
 exact r.inj r'
theorem Inv.tuple_inj (I:Inv X pins σ H s) (h:SqT X.K H a xs) (h':SqT X.K H a ys):xs=ys:=by
 obtain ⟨its,r,⟨o,e,_,n,d⟩,_⟩:=I.tuple h
 obtain ⟨its',r',⟨o',e',_,n',d'⟩,_⟩:=I.tuple h'
 rw[e] at e';cases e'
 rw[d] at d'
 injection d' with d1 _
 have:its=its':=by simpa using congrArg Jq d1
 subst this
 exact r.inj r'
end
abbrev Cx.wish (X:Cx) (E:Value→As→Prop):Cx:={X with xe:=E }
abbrev Cx.nox (X:Cx):Cx:=X.wish fun _ _=>False
theorem Cx.Ok.wish {X:Cx} (ok:X.Ok) (E:Value→As→Prop):(X.wish E).Ok:=
 ⟨ok.mod,ok.kind,ok.glob,ok.blt,ok.above,ok.inj,ok.has,ok.cab,ok.hd,ok.frames,ok.stk,ok.exf,ok.bs,ok.bsz,ok.noex,ok.exfs,ok.funs,ok.frf⟩
theorem Cx.Ok.unwish {X:Cx}{E:Value→As→Prop} (ok:(X.wish E).Ok):X.Ok:=
 ⟨ok.mod,ok.kind,ok.glob,ok.blt,ok.above,ok.inj,ok.has,ok.cab,ok.hd,ok.frames,ok.stk,ok.exf,ok.bs,ok.bsz,ok.noex,ok.exfs,ok.funs,ok.frf⟩
section
variable {X:Cx}{pins:List (Addr×Obj)}{σ:St}{H:Hp}{s:As}{E:Value→As→Prop}
theorem Inv.wish (I:Inv X pins σ H s) (E:Value→As→Prop):Inv (X.wish E) pins σ H s:=⟨I.ok.wish E,I.os,I.bare,I.base,I.loc,I.cell,I.free,I.freeC,I.pin,I.hok,I.len⟩
theorem Inv.unwish (I:Inv (X.wish E) pins σ H s):Inv X pins σ H s:=⟨I.ok.unwish,I.os,I.bare,I.base,I.loc,I.cell,I.free,I.freeC,I.pin,I.hok,I.len⟩
theorem SP.unwish {D:kM}{f:Flow}{s':As} (h:SP (X.wish E) pins D f s'):SP X pins D f s':=by
 cases f with
 |next=>obtain ⟨σ',H',I,q⟩:=h;exact ⟨σ',H',I.unwish,q⟩
 |brk=>obtain ⟨σ',H',I,q⟩:=h;exact ⟨σ',H',I.unwish,q⟩
 |cont=>obtain ⟨σ',H',I,q⟩:=h;exact ⟨σ',H',I.unwish,q⟩
 |ret u=>obtain ⟨v,σ',H',I,r,q⟩:=h;exact ⟨v,σ',H',I.unwish,r,q⟩
theorem PSs.nox {st:List Stmt}{t:TS} (h:PSs X.nox st t):PSs X st t:=fun pins s σ H D I hw=>
 Cs (h pins s σ H D (I.wish _) hw) (fun _ _ q=>q.unwish) fun _ _ z=>False.elim z
end
section
variable {X:Cx}{st:Stmt}{rest:List Stmt}{t u:TS}{e:Expr}{te:TE}{pos:Pos}
def zo:TS:=fun D σ H=>D.nx σ H
def z_ (t u:TS):TS:=fun D σ H=>t {D with nx:=u D } σ H
theorem vt:PSs X [] zo:=fun _ _ σ H _ I h=>FX ⟨σ,H,I,h⟩
theorem sX (h1:PS X st t) (h2:PSs X rest u):PSs X (st::rest) (z_ t u):=by
 intro pins s σ H D I h
 refine wpAny_execs_cons (thn (h1 pins s σ H {D with nx:=u D } I h) fun f s1 q=>?_)
 cases f with
 |next=>
  obtain ⟨σ',H',I',q⟩:=q
  exact h2 pins s1 σ' H' D I' q
 |ret v=>exact q
 |brk=>exact q
 |cont=>exact q
theorem Inv.quiet {pins:List (Addr×Obj)}{σ:St}{H:Hp}{s:As} (I:Inv X pins σ H s):interactive X.env=false:=by simp[interactive,I.ok.kind]
def yU (te:TE):TS:=fun D σ H=>te σ H fun _ H1=>D.nx σ H1
theorem lj (he:PE X e te) (hs:Ew e none pos.line X.env=pure false:=by rfl):PS X (.Expr e pos) (yU te):=by
 intro pins s σ H D I h
 exact wpAny_Expr_any (thn (he pins s σ H _ I h) fun v s1 ⟨x,H1,I1,r1,q1⟩=>⟨σ,H1,I1,q1⟩) I.quiet hs
def zV (te:TE):TS:=fun D σ H=>te σ H D.rt
theorem oz (he:PE X e te):PS X (.Return (some e) pos) (zV te):=by
 intro pins s σ H D I h
 exact wpAny_Return_some (thn (he pins s σ H _ I h) fun v s1 ⟨x,H1,I1,r1,q1⟩=>⟨x,σ,H1,I1,r1,q1⟩)
def zW (c:TT) (t u:TS):TS:=fun D σ H=>c σ H fun b H1=>if b=true then t D σ H1 else u D σ H1
theorem v7 {c:Expr}{a b:List Stmt}{tc:TT} (hc:PT X c tc) (ha:PSs X a t) (hb:PSs X b u):PS X (.If c a b pos) (zW tc t u):=by
 intro pins s σ H D I h
 refine wpAny_If (thn (hc pins s σ H _ I h) fun d s1 ⟨H1,I1,q1⟩=>?_)
 cases d with
 |true=>exact ha pins s1 σ H1 D I1 q1
 |false=>exact hb pins s1 σ H1 D I1 q1
end
abbrev TG:=V→St→Hp→(St→Hp→Prop)→Prop
abbrev TGs:=List V→St→Hp→(St→Hp→Prop)→Prop
def PG (X:Cx) (target:Expr) (t:TG):Prop:=
 ∀(pins:List (Addr×Obj)) (s:As) (σ:St) (H:Hp) (v:V) (u:Value) (Q:St→Hp→Prop),Inv X pins σ H s→aW v u→t v σ H Q→
  wpAny (model X.prog X.w) X.A (assign target X.env u) (fun _ s'=>∃σ' H',Inv X pins σ' H' s'∧Q σ' H') X.xe s
def PGs (X:Cx) (ts:List Expr) (t:TGs):Prop:=
 ∀(pins:List (Addr×Obj)) (s:As) (σ:St) (H:Hp) (vs:List V) (us:List Value) (Q:St→Hp→Prop),Inv X pins σ H s→aR vs us→t vs σ H Q→
  wpAny (model X.prog X.w) X.A (assignInOrder ((CV ts X.env).map (·.2)) us) (fun _ s'=>∃σ' H',Inv X pins σ' H' s'∧Q σ' H') X.xe s
section
variable {X:Cx}{pos:Pos}
def mI (i:Nat):TG:=fun v σ H Q=>Q (σ.set i (some v)) H
theorem bj {i:Nat}{x:Str} (hN:X.N.Nodup) (hi:X.N[i]?=some x) (hx:Loc X.env.scope x) (hf:X.fn x=true∨X.env.scope.names.lookup x=some .local:=by first |exact .inl rfl |exact .inr rfl |assumption):PG X (.Name x pos) (mI i):=by
 intro pins s σ H v u Q I r h
 exact Hd (nF I hN hi hx r (fun s' I'=>⟨_,H,I',h⟩) hf)
def yO:TGs:=fun vs σ H Q=>vs=[]∧Q σ H
def wM (t:TG) (u:TGs):TGs:=fun vs σ H Q=>∃v r,vs=v::r∧t v σ H fun σ' H'=>u r σ' H' Q
theorem gZ:PGs X [] yO:=by
 intro pins s σ H vs us Q I r h
 obtain ⟨e,h⟩:=h
 subst e
 cases r
 exact assignInOrder_nil ⟨σ,H,I,h⟩
theorem bS {e:Expr}{es:List Expr}{t:TG}{u:TGs} (h1:PG X e t) (h2:PGs X es u)
  (hs:(CV (e::es) X.env).map (·.2)=assign e X.env::(CV es X.env).map (·.2):=by rfl):PGs X (e::es) (wM t u):=by
 intro pins s σ H vs us Q I r h
 obtain ⟨v,vr,e1,h⟩:=h
 subst e1
 cases r with
 |cons r rr=>
  rw[hs]
  refine assignInOrder_cons (thn (h1 pins s σ H _ _ _ I r h) fun _ s1 ⟨σ1,H1,I1,q1⟩=>?_)
  exact h2 pins s1 σ1 H1 _ _ Q I1 rr q1
def yV (K:Ap) (n:Nat) (t:TGs):TG:=fun v σ H Q=>∃a xs,v=.ref a∧SqT K H a xs∧xs.length=n∧t xs σ H Q
theorem nJ {es:List Expr}{k:Nat}{t:TGs}{n:Nat} (hc:X.calm=true) (h:PGs X es t)
  (hn:(CV es X.env).length=n:=by rfl) (hst:(CV es X.env).findIdx? (·.1)=none:=by rfl):PG X (.Tuple es k pos) (yV X.K n t):=by
 intro pins s σ H v u Q I r hw
 obtain ⟨a,xs,e1,hq,hl,hw⟩:=hw
 subst e1
 cases r
 obtain ⟨its,rv,ht,hz⟩:=I.tuple hq
 refine assign_Tuple_tuple (I.ok.hd hc) ht (by simp[hn,←hl,rv.length]) hst fun h' hx=>?_
 have I1:Inv X pins σ H {s with heap:=h' }:=I.kept (t':=s.toks) fun b o e=>hx b o (A4 (AC e)) e
 exact h pins _ σ H xs _ Q I1 (by simpa using rv) hw
def wX (te:TE) (g:TG):TS:=fun D σ H=>te σ H fun x H1=>g x σ H1 D.nx
theorem xG {tg e:Expr}{te:TE}{g:TG} (he:PE X e te) (hg:PG X tg g) (hs:swapsWithSole [tg] e pos.line X.env=pure false:=by rfl) (hw:swappedStores [tg] e X.env=pure none:=by rfl)
  (h1:(CV [tg] X.env).map (·.2)=[assign tg X.env]:=by rfl):PS X (.Assign [tg] e pos) (wX te g):=by
 intro pins s σ H D I h
 refine wpAny_Assign_stores (thn (he pins s σ H _ I h) fun v s1 ⟨x,H1,I1,r1,q1⟩=>?_) hs hw
 rw[h1]
 exact thn (hg pins s1 σ H1 x v _ I1 r1 q1) fun _ s2 q=>q
theorem tw {i:Nat}{x:Str}{e:Expr}{te:TE}{pos':Pos} (hN:X.N.Nodup) (hi:X.N[i]?=some x) (hx:Loc X.env.scope x) (he:PE X e te) (hs:Ew e (some (.Name x pos')) pos.line X.env=pure false:=by rfl) (hf:X.fn x=true∨X.env.scope.names.lookup x=some .local:=by first |exact .inl rfl |exact .inr rfl |assumption):
  PS X (.Assign [.Name x pos'] e pos) (wX te (mI i)):=by
 intro pins s σ H D I h
 refine wpAny_Assign_Name (thn (he pins s σ H _ I h) fun v s1 ⟨y,H1,I1,r1,q1⟩=>?_) hs
 exact nF I1 hN hi hx r1 (fun s2 I2=>⟨_,H1,I2,q1⟩) hf
end
section
variable {X:Cx}{pos:Pos}
def xM (c:TT) (tb:TS):TS:=fun D σ H=>∃W:Nat→St→Hp→Prop,(∃m,W m σ H)∧∀m σ H,W m σ H→
 c σ H fun b H1=>if b=true then ∃N:St→Hp→Prop,(∀σ' H',N σ' H'→∃m',m' < m∧W m' σ' H')∧tb {D with nx:=N,ct:=N,bk:=D.nx } σ H1 else D.nx σ H1
theorem rL {c:Expr}{body:List Stmt}{tc:TT}{tb:TS} (hp:EV (model X.prog X.w) X.A X.env X.xe) (hc:PT X c tc) (hb:PSs X body tb):PS X (.While c body [] pos) (xM tc tb):=by
 intro pins s σ H D I h
 obtain ⟨W,⟨m0,w0⟩,turn⟩:=h
 refine wpAny_While (codeAny_whileLoop (fun n s'=>∃σ' H',Inv X pins σ' H' s'∧W n σ' H') ?_ m0 ⟨σ,H,I,w0⟩)
 rintro n s1 ⟨σ1,H1,I1,w1⟩
 refine Da hp (thn (hc pins s1 σ1 H1 _ I1 (turn n σ1 H1 w1)) fun b s2 ⟨H2,I2,q2⟩=>?_)
 cases b with
 |true=>
  obtain ⟨N,hN,q2⟩:=q2
  rw[if_pos rfl]
  refine Da hp (thn (hb pins s2 σ1 H2 _ I2 q2) fun f s3 q3=>?_)
  cases f with
  |next=>
   obtain ⟨σ3,H3,I3,n3⟩:=q3
   obtain ⟨m',hm,w3⟩:=hN σ3 H3 n3
   exact ⟨m',hm,σ3,H3,I3,w3⟩
  |cont=>
   obtain ⟨σ3,H3,I3,n3⟩:=q3
   obtain ⟨m',hm,w3⟩:=hN σ3 H3 n3
   exact ⟨m',hm,σ3,H3,I3,w3⟩
  |brk=>exact q3
  |ret v=>exact q3
 |false=>
  rw[if_neg AX]
  exact FX ⟨σ1,H2,I2,q2⟩
end
structure It where
 go:Nat→Hp→Prop
 yld:Nat→Hp→V→Hp→Prop
 stop:Nat→Hp→Prop
def d7 (X:Cx) (pins:List (Addr×Obj)) (H:Hp) (b:Addr):Prop:=
 H b=none∧b≠X.env.locals∧b ∉ X.fs∧(b∈X.ex∨X.s₀.heap.objs.size≤b)∧(∀x c,X.env.cells.lookup x=some c→c≠b)∧∀p∈X.pn++pins,p.1≠b
theorem Inv.fpOk {X:Cx}{pins:List (Addr×Obj)}{σ:St}{H H':Hp}{s:As}{b:Addr} (I:Inv X pins σ H s) (hb:s.heap.objs.size≤b) (hn:H' b=none):d7 X pins H' b:=by
 refine ⟨hn,CA (A3 I.lt hb),I.nofs hb,.inr (BR I.sz hb),fun x c e z=>?_,fun p hp z=>?_⟩
 ·obtain ⟨v,q⟩:=I.cell x c e
  exact absurd (A3 q.lt (by rw[z];exact hb)) (Bs _)
 ·exact absurd (A3 (AC (I.pin p hp).1) (by rw[z];exact hb)) (Bs _)
structure uq (P:AD) (w:World) (K:Ap) (tg:Expr) (J:It) (fp:List Addr) (it:Addr) (tn:Nat→Heap→Prop):Prop where
 mem:it∈fp
 obj:∀i h,tn i h→∀b∈fp,∃o,h.get? b=some o∧∀v,o.data≠.cell v
 keep:∀i h h',tn i h→(∀b∈fp,∀o,h.get? b=some o→h'.get? b=some o)→tn i h'
 item:∀(X:Cx),X.prog=P→X.w=w→X.K=K→X.calm=true→∀(i:Nat) (pins:List (Addr×Obj)) (s:As) (σ:St) (H:Hp) (E:Value→As→Prop),Inv X pins σ H s→(∀b∈fp,d7 X pins H b)→tn i s.heap→J.go i H→
  wpAny (model P w) X.A (EW (.ref it)) (fun r s1=>∃u,r=some u∧
   wpAny (model P w) X.A (FY tg (.ref it) u) (fun _ s2=>∃x H',Inv X pins σ H' s2∧aW x u∧J.yld i H x H'∧tn (i+1) s2.heap∧∀b∈fp,H' b=none) E s1) E s
 done:∀(X:Cx),X.prog=P→X.w=w→X.K=K→X.calm=true→∀(i:Nat) (pins:List (Addr×Obj)) (s:As) (σ:St) (H:Hp) (E:Value→As→Prop),Inv X pins σ H s→(∀b∈fp,d7 X pins H b)→tn i s.heap→J.stop i H→
  wpAny (model P w) X.A (EW (.ref it)) (fun r s1=>r=none∧Inv X pins σ H s1) E s
 self:∀(A:A5) (i:Nat) (s:As) (Q:Value→As→Prop) (E:Value→As→Prop),tn i s.heap→Q (.ref it) s→wpAny (model P w) A (Jr (.ref it)) Q E s
abbrev TI:=St→Hp→(It→Hp→Prop)→Prop
def PIE (X:Cx) (pins:List (Addr×Obj)) (σ:St) (tg:Expr) (R:It→Hp→Prop) (itv:Value) (s2:As):Prop:=
 ∃(it:Addr) (fp:List Addr) (tn:Nat→Heap→Prop) (J:It) (H':Hp),itv=.ref it∧Inv X pins σ H' s2∧uq X.prog X.w X.K tg J fp it tn∧tn 0 s2.heap∧(∀b∈fp,d7 X pins H' b)∧R J H'
def PI (X:Cx) (tg iter:Expr) (wi:TI):Prop:=
 ∀(pins:List (Addr×Obj)) (s:As) (σ:St) (H:Hp) (R:It→Hp→Prop),Inv X pins σ H s→wi σ H R→
  wpAny (model X.prog X.w) X.A (eval iter X.env) (fun v s1=>wpAny (model X.prog X.w) X.A (Jr v) (PIE X pins σ tg R) X.xe s1) X.xe s
theorem sn {M:Model}{A:A5}{E:Value→As→Prop}{s:As}{tg:Expr}{it:Addr}{u:Value}{o:Obj}{n:String}{vs:Array Value}{Q:Unit→As→Prop} (ho:s.heap.get? it=some o) (hc:o.cls=.type n) (hd:o.data=.fields vs)
  (hn:["enumerate","zip","dict_itemiterator","dict_reverseitemiterator","odict_iterator","itertools.zip_longest","itertools.pairwise"].contains n=false) (hQ:Q () s):wpAny M A (FY tg (.ref it) u) Q E s:=by
 unfold FY
 cases tg <;>first
  |exact Au hQ
  | (cases u <;>first
    |exact Au hQ
    | (refine Ao (wpAny_load ho ?_)
       rw[hc,hd]
       show wpAny M A (if (["enumerate","zip","dict_itemiterator","dict_reverseitemiterator","odict_iterator","itertools.zip_longest","itertools.pairwise"].contains n && vs[0]?==some (Dt _))=true then _ else _) Q E s
       rw[if_neg (by intro h;rw[hn,Bool.false_and] at h;cases h)]
       exact Au hQ))
def Itl (K:Ap) (a:Addr):It:=
 ⟨fun i H=>∃xs x,SqL K H a xs∧xs[i]?=some x,fun i H x H'=>H'=H∧∀xs,SqL K H a xs→xs[i]?=some x,fun i H=>∃xs,SqL K H a xs∧xs.length≤i⟩
def Itt (K:Ap) (a:Addr):It:=
 ⟨fun i H=>∃xs x,SqT K H a xs∧xs[i]?=some x,fun i H x H'=>H'=H∧∀xs,SqT K H a xs→xs[i]?=some x,fun i H=>∃xs,SqT K H a xs∧xs.length≤i⟩
def Itr (lo:Int) (n:Nat):It:=⟨fun i _=>i < n,fun i H x H'=>H'=H∧x=.int (lo+i),fun i _=>n≤i⟩
theorem rg {P:AD}{w:World}{K:Ap}{tg:Expr} (a it:Addr):uq P w K tg (Itl K a) [it] it (fun i h=>h.IsListIter it a i) where
 mem:=by simp
 obj:=fun i h st b hb=>by
  have e:b=it:=by simpa using hb
  subst e
  obtain ⟨o,e,c,d⟩:=st
  exact ⟨o,e,fun v z=>by rw[d] at z;cases z⟩
 keep:=fun i h h' st k=>st.at fun o e=>k it (by simp) o e
 item:=by
  intro X hP hw hK hc i pins s σ H E I hf st hg
  subst hP hw hK
  obtain ⟨xs,x,hq,hx⟩:=hg
  obtain ⟨its,rv,p,hz⟩:=I.list hq
  obtain ⟨u,hu,ru⟩:=rv.get hx
  obtain ⟨f0,f1,f2,f3,f4,f5⟩:=hf it (by simp)
  refine Dq st p.isList (x:=u) (by simpa using hu) fun h' st' sb=>?_
  have I1:Inv X pins σ H {s with heap:=h' }:=I.turned (t':=s.toks) (fun b o hb e=>(sb.2 b hb).trans e) f0 f1 f3 f4 f5
  obtain ⟨o,e,c,d⟩:=id st'
  exact ⟨u,rfl,sn (s:={s with heap:=h' }) e c d (by decide) ⟨x,H,I1,ru,⟨rfl,fun ys hy=>by rw[I.list_inj hy hq];exact hx⟩,st',fun b hb=>(hf b hb).1⟩⟩
 done:=by
  intro X hP hw hK hc i pins s σ H E I hf st hg
  subst hP hw hK
  obtain ⟨xs,hq,hx⟩:=hg
  obtain ⟨its,rv,p,hz⟩:=I.list hq
  obtain ⟨f0,f1,f2,f3,f4,f5⟩:=hf it (by simp)
  have hl:=rv.length
  exact Ex (I.ok.hd hc) st p.isList (by simp;omega) fun h' eb=>⟨rfl,I.turned (t':=s.toks) (fun b o hb e=>eb b o hb e) f0 f1 f3 f4 f5⟩
 self:=fun _ _ _ _ _ st h=>wpAny_pyIter_listiter st h
theorem n_ {P:AD}{w:World}{K:Ap}{tg:Expr} (a it:Addr):uq P w K tg (Itt K a) [it] it (fun i h=>h.IsTupleIter it a i) where
 mem:=by simp
 obj:=fun i h st b hb=>by
  have e:b=it:=by simpa using hb
  subst e
  obtain ⟨o,e,c,d⟩:=st
  exact ⟨o,e,fun v z=>by rw[d] at z;cases z⟩
 keep:=fun i h h' st k=>st.at fun o e=>k it (by simp) o e
 item:=by
  intro X hP hw hK hc i pins s σ H E I hf st hg
  subst hP hw hK
  obtain ⟨xs,x,hq,hx⟩:=hg
  obtain ⟨its,rv,p,hz⟩:=I.tuple hq
  obtain ⟨u,hu,ru⟩:=rv.get hx
  obtain ⟨f0,f1,f2,f3,f4,f5⟩:=hf it (by simp)
  refine wpAny_pyNext_tuple_item st (show s.heap.IsTuple a its.toArray from p) (x:=u) (by simpa using hu) fun h' st' sb=>?_
  have I1:Inv X pins σ H {s with heap:=h' }:=I.turned (t':=s.toks) (fun b o hb e=>(sb.2 b hb).trans e) f0 f1 f3 f4 f5
  obtain ⟨o,e,c,d⟩:=id st'
  exact ⟨u,rfl,sn (s:={s with heap:=h' }) e c d (by decide) ⟨x,H,I1,ru,⟨rfl,fun ys hy=>by rw[I.tuple_inj hy hq];exact hx⟩,st',fun b hb=>(hf b hb).1⟩⟩
 done:=by
  intro X hP hw hK hc i pins s σ H E I hf st hg
  subst hP hw hK
  obtain ⟨xs,hq,hx⟩:=hg
  obtain ⟨its,rv,p,hz⟩:=I.tuple hq
  obtain ⟨f0,f1,f2,f3,f4,f5⟩:=hf it (by simp)
  have hl:=rv.length
  exact wpAny_pyNext_tuple_end (I.ok.hd hc) st (show s.heap.IsTuple a its.toArray from p) (by simp;omega) fun h' eb=>⟨rfl,I.turned (t':=s.toks) (fun b o hb e=>eb b o hb e) f0 f1 f3 f4 f5⟩
 self:=fun _ _ _ _ _ st h=>wpAny_pyIter_tupleiter st h
theorem oh {P:AD}{w:World}{K:Ap}{tg:Expr} (it:Addr) (lo:Int) (n:Nat):uq P w K tg (Itr lo n) [it] it (fun i h=>IsRangeIter h it (lo+(i:Nat) *1) ((n:Int) - (i:Nat)) 1) where
 mem:=by simp
 obj:=fun i h st b hb=>by
  have e:b=it:=by simpa using hb
  subst e
  exact ⟨_,st,fun v z=>by
   have z':Data.fields _=Data.cell v:=z
   cases z'⟩
 keep:=fun i h h' st k=>k it (by simp) _ st
 item:=by
  intro X hP hw hK hc i pins s σ H E I hf st hg
  subst hP hw hK
  obtain ⟨f0,f1,f2,f3,f4,f5⟩:=hf it (by simp)
  have W:=Walks.range (prog:=X.prog) (w:=X.w) (I.ok.hd hc) it lo 1 n
  refine W.item i s _ _ hg st fun v h' tk hv st' kk=>?_
  obtain ⟨t,rfl⟩:=hv
  have I1:Inv X pins σ H {s with heap:=h',toks:=tk }:=I.turned (fun b o hb e=>kk b o (by simpa using hb) e) f0 f1 f3 f4 f5
  refine ⟨_,rfl,sn (s:={s with heap:=h',toks:=tk }) (n:="range_iterator") st' rfl rfl (by decide) ⟨.int (lo+i),H,I1,⟨t,?_⟩,⟨rfl,rfl⟩,st',fun b hb=>(hf b hb).1⟩⟩
  rw[Dx]
 done:=by
  intro X hP hw hK hc i pins s σ H E I hf st hg
  subst hP hw hK
  obtain ⟨f0,f1,f2,f3,f4,f5⟩:=hf it (by simp)
  exact wpAny_pyNext_range_end (I.ok.hd hc) st (by have:n≤i:=hg;omega) fun h' eb=>⟨rfl,I.turned (t':=s.toks) (fun b o hb e=>eb b o hb e) f0 f1 f3 f4 f5⟩
 self:=fun _ _ _ _ _ st h=>wpAny_pyIter_rangeiter st h
section
variable {X:Cx}{tg:Expr}
def y_ (K:Ap) (tl:TE):TI:=fun σ H R=>tl σ H fun x H1=>∃a,x=.ref a∧(∃xs,SqL K H1 a xs)∧R (Itl K a) H1
def zM (K:Ap) (tl:TE):TI:=fun σ H R=>tl σ H fun x H1=>∃a,x=.ref a∧(∃xs,SqT K H1 a xs)∧R (Itt K a) H1
theorem uI {l:Expr}{tl:TE} (hl:PE X l tl):PI X tg l (y_ X.K tl):=by
 intro pins s σ H R I h
 refine thn (hl pins s σ H _ I h) fun v s1 ⟨x,H1,I1,r1,q1⟩=>?_
 obtain ⟨a,e,⟨xs,hq⟩,q⟩:=q1
 subst e
 cases r1
 obtain ⟨its,rv,p,hz⟩:=I1.list hq
 refine Ct p.isList ?_
 refine ⟨s1.heap.objs.size,[s1.heap.objs.size],_,_,H1,rfl,I1.kept (t':=s1.toks) fun b o e=>Aq _ e,rg a _,⟨_,AE _ rfl,rfl,rfl⟩,fun b hb=>?_,q⟩
 have e:b=s1.heap.objs.size:=by simpa using hb
 subst e
 exact I1.fpOk (Ay _) (I1.hok.fresh (Ay _))
theorem yd {l:Expr}{tl:TE} (hl:PE X l tl):PI X tg l (zM X.K tl):=by
 intro pins s σ H R I h
 refine thn (hl pins s σ H _ I h) fun v s1 ⟨x,H1,I1,r1,q1⟩=>?_
 obtain ⟨a,e,⟨xs,hq⟩,q⟩:=q1
 subst e
 cases r1
 obtain ⟨its,rv,p,hz⟩:=I1.tuple hq
 refine wpAny_pyIter_tuple (show s1.heap.IsTuple a its.toArray from p) ?_
 refine ⟨s1.heap.objs.size,[s1.heap.objs.size],_,_,H1,rfl,I1.kept (t':=s1.toks) fun b o e=>Aq _ e,n_ a _,⟨_,AE _ rfl,rfl,rfl⟩,fun b hb=>?_,q⟩
 have e:b=s1.heap.objs.size:=by simpa using hb
 subst e
 exact I1.fpOk (Ay _) (I1.hok.fresh (Ay _))
theorem ux {pins:List (Addr×Obj)}{σ:St}{H:Hp}{s:As}{R:It→Hp→Prop}{E:Value→As→Prop}{lo hi:Int}{t u v:Tok}{tk:Nat} (I:Inv X pins σ H s) (h1:-(2 ^ 62)≤lo) (h2:lo < 2 ^ 62) (h3:-(2 ^ 62)≤hi) (h4:hi < 2 ^ 62)
  (q:R (Itr lo (hi - lo).toNat) H):wpAny (model X.prog X.w) X.A (Jr (.ref s.heap.objs.size)) (PIE X pins σ tg R) E {s with heap:=s.heap.push {cls:=.type "range",data:=.fields #[.int lo t,.int hi u,.int 1 v] },toks:=tk }:=by
 refine wpAny_pyIter_range (IsRange.new ..) (small_one h1 h2 h3 h4) ?_
 have I1:Inv X pins σ H {s with heap:=s.heap.push {cls:=.type "range",data:=.fields #[.int lo t,.int hi u,.int 1 v] },toks:=tk }:=I.kept fun b o e=>Aq _ e
 refine ⟨(s.heap.push {cls:=.type "range",data:=.fields #[.int lo t,.int hi u,.int 1 v] }).objs.size,[(s.heap.push {cls:=.type "range",data:=.fields #[.int lo t,.int hi u,.int 1 v] }).objs.size],_,_,H,rfl,
  I1.kept (t':=tk) fun b o e=>Aq _ e,oh _ lo (hi - lo).toNat,?_,fun b hb=>?_,q⟩
 ·have e1:lo+((0:Nat):Int) *1=lo:=by simp
  have e2:(((hi - lo).toNat:Nat):Int) - ((0:Nat):Int)=Builtin.Range.rangeSize lo hi 1:=by rw[rangeSize_one];split <;>omega
  show IsRangeIter _ _ (lo+((0:Nat):Int) *1) ((((hi - lo).toNat:Nat):Int) - ((0:Nat):Int)) 1
  rw[e1,e2]
  exact AE _ rfl
 ·have e:b=(s.heap.push {cls:=.type "range",data:=.fields #[.int lo t,.int hi u,.int 1 v] }).objs.size:=by simpa using hb
  subst e
  exact I1.fpOk (Ay _) (I1.hok.fresh (Ay _))
def yP (ta:TA):TI:=fun σ H R=>ta σ H fun vs H1=>∃j:Int,vs=[.int j]∧-(2 ^ 62)≤j∧j < 2 ^ 62∧R (Itr 0 j.toNat) H1
theorem qB {a:Expr}{ta:TA}{p pos:Pos} (hg:Gl X "range") (hm:X.mg "range"=none) (ha:PA X [a] ta) (hs:AL [a] X.env=[(false,eval a X.env)]:=by rfl):PI X tg (.Call (.Name "range" p) [a] [] pos) (yP ta):=by
 intro pins s σ H R I h
 refine Call_ (cT I hg hm boot_range (PyProof.Rows.callWith_type1 (thn (ha pos pins s σ H _ I h) fun us s1 ⟨vs,H1,I1,r1,q1⟩=>?_) hs rfl))
 obtain ⟨j,e,q1,q2,q⟩:=q1
 subst e
 cases r1 with
 |cons r rr=>
  cases rr
  obtain ⟨t,rfl⟩:=r
  exact call_range_1 (ux I1 (by omega) (by omega) q1 q2 (by simpa using q))
def Aj (wi:TI) (g:TG) (tb:TS):TS:=fun D σ H=>wi σ H fun J H1=>∃W:Nat→Nat→St→Hp→Prop,(∃m,W 0 m σ H1)∧∀i m σ H,W i m σ H→
 (J.stop i H∧D.nx σ H)∨(J.go i H∧∃N:St→Hp→Prop,(∀σ' H',N σ' H'→∃m',m' < m∧W (i+1) m' σ' H')∧∀x H',J.yld i H x H'→g x σ H' fun σ2 H2=>tb {D with nx:=N,ct:=N,bk:=D.nx } σ2 H2)
def jd (fp:List Addr) (h:Heap):List (Addr×Obj):=fp.filterMap fun b=>(h.get? b).map fun o=>(b,o)
theorem bP {fp:List Addr}{h:Heap}{b:Addr}{o:Obj} (hb:b∈fp) (e:h.get? b=some o):(b,o)∈jd fp h:=CZ.mpr ⟨b,hb,by rw[e];rfl⟩
theorem qc {fp:List Addr}{h:Heap}{p:Addr×Obj} (hp:p∈jd fp h):p.1∈fp∧h.get? p.1=some p.2:=by
 obtain ⟨b,hb,e⟩:=CZ.mp hp
 cases q:h.get? b with
 |none=>rw[q] at e;cases e
 |some o=>
  rw[q] at e
  have e':(b,o)=p:=Bo e
  subst e'
  exact ⟨hb,q⟩
theorem Inv.pinned {pins:List (Addr×Obj)}{σ:St}{H:Hp}{s:As}{fp:List Addr} (I:Inv X pins σ H s) (hf:∀b∈fp,d7 X pins H b) (ho:∀b∈fp,∃o,s.heap.get? b=some o∧∀v,o.data≠.cell v):Inv X (pins++jd fp s.heap) σ H s:=
 I.pins_of fun p hp=>(B4.mp hp).elim (fun z=>I.pin p (AH _ z)) fun z=>by
  obtain ⟨hb,e⟩:=qc z
  obtain ⟨f0,f1,f2,_⟩:=hf p.1 hb
  obtain ⟨o,e',d⟩:=ho p.1 hb
  rw[e] at e';cases e'
  exact ⟨e,f0,f1,f2,d⟩
theorem Inv.unpinned {pins pl:List (Addr×Obj)}{σ:St}{H:Hp}{s:As} (I:Inv X (pins++pl) σ H s):Inv X pins σ H s:=I.pins_of fun p hp=>I.pin p (AH _ (Bu _ hp))
theorem sM {iter:Expr}{body:List Stmt}{wi:TI}{g:TG}{tb:TS}{pos:Pos} (hp:EV (model X.prog X.w) X.A X.env X.xe) (hc:X.calm=true) (hi:PI X tg iter wi) (hg:PG X tg g) (hb:PSs X body tb)
  (hs:∀x,Bw iter X.env x=pure x:=by intro _;rfl):PS X (.For tg iter body [] pos) (Aj wi g tb):=by
 intro pins s σ H D I h
 refine wpAny_For (thn (hi pins s σ H _ I h) fun v s1 h1=>thn h1 fun itv s2 h2=>?_) hs
 obtain ⟨it,fp,tn,J,H2,e,I2,T,st2,f2,W,⟨m0,w0⟩,turn⟩:=h2
 subst e
 have stat:∀{H':Hp},(∀b∈fp,H' b=none)→∀b∈fp,d7 X pins H' b:=fun hn b hb=>⟨hn b hb,(f2 b hb).2⟩
 refine codeAny_forLoop_any (fun n s'=>∃i σ' H',Inv X pins σ' H' s'∧tn i s'.heap∧(∀b∈fp,H' b=none)∧W i n σ' H') ?_ m0 ⟨0,σ,H2,I2,st2,fun b hb=>(f2 b hb).1,w0⟩
 rintro n s3 ⟨i,σ3,H3,I3,st3,fr3,w3⟩
 rcases turn i n σ3 H3 w3 with ⟨stop,qn⟩ |⟨go,N,hN,step⟩
 ·refine Da hp (thn (T.done X rfl rfl rfl hc i pins s3 σ3 H3 X.xe I3 (stat fr3) st3 stop) fun r s4 ⟨hr,I4⟩=>?_)
  subst hr
  exact FX ⟨σ3,H3,I4,qn⟩
 ·refine Da hp (thn (T.item X rfl rfl rfl hc i pins s3 σ3 H3 X.xe I3 (stat fr3) st3 go) fun r s4 ⟨u,hr,h4⟩=>?_)
  subst hr
  refine Da hp (thn h4 fun _ s5 ⟨x,H5,I5,r5,y5,st5,fr5⟩=>?_)
  have I5':=I5.pinned (stat fr5) (T.obj _ _ st5)
  refine Da hp (thn (hg _ s5 σ3 H5 x u _ I5' r5 (step x H5 y5)) fun _ s6 ⟨σ6,H6,I6,q6⟩=>?_)
  refine Da hp (thn (hb _ s6 σ6 H6 _ I6 q6) fun f s7 q7=>?_)
  have again:∀{σ7:St}{H7:Hp},Inv X (pins++jd fp s5.heap) σ7 H7 s7→N σ7 H7→∃m,m < n∧∃i σ' H',Inv X pins σ' H' s7∧tn i s7.heap∧(∀b∈fp,H' b=none)∧W i m σ' H':=fun {σ7 H7} I7 n7=>by
   obtain ⟨m',hm,w7⟩:=hN σ7 H7 n7
   refine ⟨m',hm,i+1,σ7,H7,I7.unpinned,T.keep _ _ _ st5 fun b hb o e=>(I7.pin (b,o) (AH _ (AH _ (bP hb e)))).1,fun b hb=>?_,w7⟩
   obtain ⟨o,e,d⟩:=T.obj _ _ st5 b hb
   exact (I7.pin (b,o) (AH _ (AH _ (bP hb e)))).2.1
  cases f with
  |next=>obtain ⟨σ7,H7,I7,n7⟩:=q7;exact again I7 n7
  |cont=>obtain ⟨σ7,H7,I7,n7⟩:=q7;exact again I7 n7
  |brk=>obtain ⟨σ7,H7,I7,q7⟩:=q7;exact ⟨σ7,H7,I7.unpinned,q7⟩
  |ret v=>obtain ⟨x7,σ7,H7,I7,r7,q7⟩:=q7;exact ⟨x7,σ7,H7,I7.unpinned,r7,q7⟩
end
abbrev R2:=V→V→Hp→VK→Prop
def OpR (X:Cx) (f:Value→Value→Sem Value) (r:R2):Prop:=
 ∀(pins:List (Addr×Obj)) (s:As) (σ:St) (H:Hp) (x y:V) (v u:Value) (Q:VK),Inv X pins σ H s→aW x v→aW y u→r x y H Q→
  wpAny (model X.prog X.w) X.A (f v u) (EP X pins σ Q) X.xe s
def UnR (X:Cx) (f:Value→Sem Value) (r:V→Hp→VK→Prop):Prop:=
 ∀(pins:List (Addr×Obj)) (s:As) (σ:St) (H:Hp) (x:V) (v:Value) (Q:VK),Inv X pins σ H s→aW x v→r x H Q→
  wpAny (model X.prog X.w) X.A (f v) (EP X pins σ Q) X.xe s
def eY (X:Cx) (f:Value) (r:List V→Hp→VK→Prop):Prop:=
 ∀(pins:List (Addr×Obj)) (s:As) (σ:St) (H:Hp) (xs:List V) (us:List Value) (Q:VK),Inv X pins σ H s→aR xs us→r xs H Q→
  wpAny (model X.prog X.w) X.A (call f us) (EP X pins σ Q) X.xe s
def tOp (r:R2) (ta tb:TE):TE:=fun σ H Q=>ta σ H fun x H1=>tb σ H1 fun y H2=>r x y H2 Q
def tUn (r:V→Hp→VK→Prop) (ta:TE):TE:=fun σ H Q=>ta σ H fun x H1=>r x H1 Q
def rI (C:Int→Int→Prop) (g:Int→Int→V):R2:=fun x y H Q=>∃i j,x=.int i∧y=.int j∧C i j∧Q (g i j) H
def rI0 (g:Int→Int→V):R2:=fun x y H Q=>∃i j,x=.int i∧y=.int j∧Q (g i j) H
def rU (g:Int→V):V→Hp→VK→Prop:=fun x H Q=>∃i,x=.int i∧Q (g i) H
section
variable {X:Cx}{a b c:Expr}{ta tb tc:TE}{pos:Pos}
theorem w6 (ha:PE X a ta) (hb:PE X b tb) {pins:List (Addr×Obj)}{s:As}{σ:St}{H:Hp}{R:V→V→Hp→Prop} (I:Inv X pins σ H s)
  (h:ta σ H fun x H1=>tb σ H1 fun y H2=>R x y H2) {Q:Value→As→Prop}{f:Value→Value→Sem Value}
  (hf:∀v u s2 x y H2,Inv X pins σ H2 s2→aW x v→aW y u→R x y H2→wpAny (model X.prog X.w) X.A (f v u) Q X.xe s2):
  wpAny (model X.prog X.w) X.A (eval a X.env) (fun v s₁=>wpAny (model X.prog X.w) X.A (eval b X.env) (fun u s₂=>wpAny (model X.prog X.w) X.A (f v u) Q X.xe s₂) X.xe s₁) X.xe s:=by
 refine thn (ha pins s σ H _ I h) fun v s1 ⟨x,H1,I1,r1,q1⟩=>?_
 refine thn (hb pins s1 σ H1 _ I1 q1) fun u s2 ⟨y,H2,I2,r2,q2⟩=>?_
 exact hf v u s2 x y H2 I2 r1 r2 q2
theorem sO {op:Je}{r:R2} (ho:OpR X (Er op) r) (ha:PE X a ta) (hb:PE X b tb):PE X (.BinOp a op b pos) (tOp r ta tb):=by
 intro pins s σ H Q I h
 exact wpAny_BinOp (w6 ha hb I h fun v u s2 x y H2 I2 rx ry q=>ho pins s2 σ H2 x y v u Q I2 rx ry q)
theorem y8 {op:UnaryOp}{r:V→Hp→VK→Prop} (ho:UnR X (unaryOp op) r) (ha:PE X a ta):PE X (.UnaryOp op a pos) (tUn r ta):=by
 intro pins s σ H Q I h
 exact UnaryOp_ (thn (ha pins s σ H _ I h) fun v s1 ⟨x,H1,I1,r1,q1⟩=>ho pins s1 σ H1 x v Q I1 r1 q1)
theorem opI {f:Value→Value→Sem Value}{C:Int→Int→Prop}{g:Int→Int→Int}
  (rule:∀(i j:Int) (t u:Tok) (s:As) (Q:Value→As→Prop) (E:Value→As→Prop),C i j→Q (.int (g i j) s.toks) {s with toks:=s.toks+1 }→wpAny (model X.prog X.w) X.A (f (.int i t) (.int j u)) Q E s):
  OpR X f (rI C fun i j=>.int (g i j)):=by
 intro pins s σ H x y v u Q I rx ry h
 obtain ⟨i,j,rfl,rfl,hc,q⟩:=h
 obtain ⟨t,rfl⟩:=rx
 obtain ⟨t',rfl⟩:=ry
 exact rule i j t t' s _ _ hc ⟨.int (g i j),H,I.tok _,⟨_,rfl⟩,q⟩
theorem zg {f:Value→Value→Sem Value}{g:Int→Int→Int}
  (rule:∀(i j:Int) (t u:Tok) (s:As) (Q:Value→As→Prop) (E:Value→As→Prop),Q (.int (g i j) s.toks) {s with toks:=s.toks+1 }→wpAny (model X.prog X.w) X.A (f (.int i t) (.int j u)) Q E s):
  OpR X f (rI0 fun i j=>.int (g i j)):=by
 intro pins s σ H x y v u Q I rx ry h
 obtain ⟨i,j,rfl,rfl,q⟩:=h
 obtain ⟨t,rfl⟩:=rx
 obtain ⟨t',rfl⟩:=ry
 exact rule i j t t' s _ _ ⟨.int (g i j),H,I.tok _,⟨_,rfl⟩,q⟩
theorem wW {f:Value→Value→Sem Value}{g:Int→Int→Bool}
  (rule:∀(i j:Int) (t u:Tok) (s:As) (Q:Value→As→Prop) (E:Value→As→Prop),Q (.bool (g i j)) s→wpAny (model X.prog X.w) X.A (f (.int i t) (.int j u)) Q E s):
  OpR X f (rI0 fun i j=>.bl (g i j)):=by
 intro pins s σ H x y v u Q I rx ry h
 obtain ⟨i,j,rfl,rfl,q⟩:=h
 obtain ⟨t,rfl⟩:=rx
 obtain ⟨t',rfl⟩:=ry
 exact rule i j t t' s _ _ ⟨.bl (g i j),H,I,rfl,q⟩
def yX (i j:Int):Prop:=0≤j∧j≤1000000∧i.natAbs < 2 ^ 64
theorem wV:OpR X (Er .Add) (rI0 fun i j=>.int (i+j)):=zg fun _ _ _ _ _ _ _ q=>add_int q
theorem x6:OpR X (Er .Sub) (rI0 fun i j=>.int (i - j)):=zg fun _ _ _ _ _ _ _ q=>sub_int q
theorem xZ:OpR X (Er .Mod) (rI (fun _ j=>0 < j) fun i j=>.int (i % j)):=opI fun i j _ _ _ _ _ hc q=>by
 have h1:(0:Int) < j:=hc
 exact mod_int' (by omega) (by rw[Int.fmod_eq_emod_of_nonneg i (by omega)];exact q)
theorem xy:OpR X (Er .Pow) (rI yX fun i j=>.int (i ^ j.toNat)):=opI fun _ _ _ _ _ _ _ hc q=>pow_int_small hc.1 hc.2.1 hc.2.2 q
theorem unI {f:Value→Sem Value}{g:Int→Int}
  (rule:∀(i:Int) (t:Tok) (s:As) (Q:Value→As→Prop) (E:Value→As→Prop),Q (.int (g i) s.toks) {s with toks:=s.toks+1 }→wpAny (model X.prog X.w) X.A (f (.int i t)) Q E s):
  UnR X f (rU fun i=>.int (g i)):=by
 intro pins s σ H x v Q I rx h
 obtain ⟨i,rfl,q⟩:=h
 obtain ⟨t,rfl⟩:=rx
 exact rule i t s _ _ ⟨.int (g i),H,I.tok _,⟨_,rfl⟩,q⟩
theorem xB:UnR X (unaryOp .USub) (rU fun i=>.int (-i)):=unI fun _ _ _ _ _ q=>neg_int q
end
def zF:V→V→Bool
 | .non,.non=>true | .non,.int _=>true | .int _,.non=>true | .non,.bl _=>true | .bl _,.non=>true | .non,.str _=>true | .str _,.non=>true
 | .int _,.int _=>true | .bl _,.bl _=>true | .str _,.str _=>true | .byt _,.byt _=>true
 | .int _,.str _=>true | .str _,.int _=>true | .bl _,.str _=>true | .str _,.bl _=>true
 |_,_=>false
def rEq:R2:=fun x y H Q=>zF x y=true∧Q (.bl (decide (x=y))) H
def rNe:R2:=fun x y H Q=>zF x y=true∧Q (.bl (!decide (x=y))) H
theorem iT {i j:Int}:decide (V.int i=V.int j)=(i==j):=by
 rw[CP]
 simp
theorem rA {i j:Bool}:decide (V.bl i=V.bl j)=(i==j):=by
 rw[CP]
 simp
theorem o8 {i j:Str}:decide (V.str i=V.str j)=(i==j):=by
 rw[CP]
 simp
theorem o_ {i j:Array UInt8}:decide (V.byt i=V.byt j)=(i.toList==j.toList):=by
 rw[CP]
 cases i
 cases j
 simp
section
variable {X:Cx}{a b c:Expr}{ta tb tc:TE}{pos:Pos}
theorem aZ {pins:List (Addr×Obj)}{σ:St}{H:Hp}{s:As}{Q:VK}{k k':Bool} (I:Inv X pins σ H s) (q:Q (.bl k) H) (e:k=k'):EP X pins σ Q (.bool k') s:=by
 subst e
 exact ⟨.bl k,H,I,rfl,q⟩
theorem y3:OpR X (B5 .Eq) rEq:=by
 intro pins s σ H x y v u Q I rx ry h
 obtain ⟨hs,q⟩:=h
 cases x with
 |non=>
  cases rx
  cases y with
  |non=>cases ry;exact Im (aZ I q (by simp))
  |bl j=>cases ry;exact Io (aZ I q (by simp))
  |int j=>obtain ⟨t',rfl⟩:=ry;exact IM (aZ I q (by simp))
  |str j=>obtain ⟨t',rfl⟩:=ry;exact IP (aZ I q (by simp))
  |_=>exact absurd (show false=true from hs) AX
 |bl i=>
  cases rx
  cases y with
  |non=>cases ry;exact Ip (aZ I q (by simp))
  |bl j=>cases ry;exact eq_bool (aZ I q rA)
  |str j=>obtain ⟨t',rfl⟩:=ry;exact Iq (aZ I q (by simp))
  |_=>exact absurd (show false=true from hs) AX
 |int i=>
  obtain ⟨t,rfl⟩:=rx
  cases y with
  |non=>cases ry;exact IQ (aZ I q (by simp))
  |int j=>obtain ⟨t',rfl⟩:=ry;exact eq_int (aZ I q iT)
  |str j=>obtain ⟨t',rfl⟩:=ry;exact IR (aZ I q (by simp))
  |_=>exact absurd (show false=true from hs) AX
 |str i=>
  obtain ⟨t,rfl⟩:=rx
  cases y with
  |non=>cases ry;exact IS (aZ I q (by simp))
  |bl j=>cases ry;exact Ir (aZ I q (by simp))
  |int j=>obtain ⟨t',rfl⟩:=ry;exact IT (aZ I q (by simp))
  |str j=>obtain ⟨t',rfl⟩:=ry;exact eq_str (aZ I q o8)
  |_=>exact absurd (show false=true from hs) AX
 |byt i=>
  obtain ⟨t,rfl⟩:=rx
  cases y with
  |byt j=>obtain ⟨t',rfl⟩:=ry;exact PySem.W.eq_bytes (aZ I q o_)
  |_=>exact absurd (show false=true from hs) AX
 |_=>cases y <;>exact absurd (show false=true from hs) AX
theorem yt:OpR X (B5 .NotEq) rNe:=by
 intro pins s σ H x y v u Q I rx ry h
 obtain ⟨hs,q⟩:=h
 cases x with
 |non=>
  cases rx
  cases y with
  |non=>cases ry;exact Iu (aZ I q (by simp))
  |bl j=>cases ry;exact Iw (aZ I q (by simp))
  |int j=>obtain ⟨t',rfl⟩:=ry;exact IU (aZ I q (by simp))
  |str j=>obtain ⟨t',rfl⟩:=ry;exact IV (aZ I q (by simp))
  |_=>exact absurd (show false=true from hs) AX
 |bl i=>
  cases rx
  cases y with
  |non=>cases ry;exact Iy (aZ I q (by simp))
  |bl j=>cases ry;exact ne_bool (aZ I q (congrArg not rA))
  |str j=>obtain ⟨t',rfl⟩:=ry;exact Iz (aZ I q (by simp))
  |_=>exact absurd (show false=true from hs) AX
 |int i=>
  obtain ⟨t,rfl⟩:=rx
  cases y with
  |non=>cases ry;exact IW (aZ I q (by simp))
  |int j=>obtain ⟨t',rfl⟩:=ry;exact ne_int (aZ I q (congrArg not iT))
  |str j=>obtain ⟨t',rfl⟩:=ry;exact IX (aZ I q (by simp))
  |_=>exact absurd (show false=true from hs) AX
 |str i=>
  obtain ⟨t,rfl⟩:=rx
  cases y with
  |non=>cases ry;exact IY (aZ I q (by simp))
  |bl j=>cases ry;exact IA (aZ I q (by simp))
  |int j=>obtain ⟨t',rfl⟩:=ry;exact IZ (aZ I q (by simp))
  |str j=>obtain ⟨t',rfl⟩:=ry;exact ne_str (aZ I q (congrArg not o8))
  |_=>exact absurd (show false=true from hs) AX
 |byt i=>
  obtain ⟨t,rfl⟩:=rx
  cases y with
  |byt j=>obtain ⟨t',rfl⟩:=ry;exact PySem.W.ne_bytes (aZ I q (congrArg not o_))
  |_=>exact absurd (show false=true from hs) AX
 |_=>cases y <;>exact absurd (show false=true from hs) AX
theorem yC:OpR X (B5 .Lt) (rI0 fun i j=>.bl (decide (i < j))):=wW fun _ _ _ _ _ _ _ q=>lt_int q
theorem yR:OpR X (B5 .LtE) (rI0 fun i j=>.bl (decide (i≤j))):=wW fun _ _ _ _ _ _ _ q=>le_int q
theorem yQ:OpR X (B5 .Gt) (rI0 fun i j=>.bl (decide (j < i))):=wW fun _ _ _ _ _ _ _ q=>gt_int q
theorem tD (b:Expr) {op:CmpOp} (h:op≠.In:=by decide) (h2:op≠.NotIn:=by decide):CY op b=false:=by
 have e1:(op==CmpOp.In)=false:=by cases op <;>first |rfl |exact absurd rfl h
 have e2:(op==CmpOp.NotIn)=false:=by cases op <;>first |rfl |exact absurd rfl h2
 cases b <;>simp[CY,e1,e2]
theorem vK {op:CmpOp}{r:R2} (ho:OpR X (B5 op) r) (ha:PE X a ta) (hb:PE X b tb) (hm:CY op b=false):PE X (.Compare a [op] [b] pos) (tOp r ta tb):=by
 intro pins s σ H Q I h
 exact wpAny_Compare1 (w6 ha hb I h fun v u s2 x y H2 I2 rx ry q=>ho pins s2 σ H2 x y v u Q I2 rx ry q) hm
def yH (t:TE):TT:=fun σ H Q=>t σ H fun x H'=>∃k,x=.bl k∧Q k H'
theorem uG {op:CmpOp}{r:R2} (ho:OpR X (B5 op) r) (ha:PE X a ta) (hb:PE X b tb) (hm:CY op b=false):PT X (.Compare a [op] [b] pos) (yH (tOp r ta tb)):=by
 intro pins s σ H Q I h
 refine FW (thn (ha pins s σ H _ I h) fun v s1 ⟨x,H1,I1,r1,q1⟩=>thn (hb pins s1 σ H1 _ I1 q1) fun u s2 ⟨y,H2,I2,r2,q2⟩=>
  thn (ho pins s2 σ H2 x y v u _ I2 r1 r2 q2) fun c s3 ⟨z,H3,I3,r3,k,e,q3⟩=>?_) hm
 subst e
 cases r3
 exact CN ⟨H3,I3,q3⟩
theorem oC:(sizeLine:Nat) < 2 ^ 63:=by rw[BC];decide
theorem gu {x:V}{us:List Value} (r:aR [x] us):∃u,us=[u]∧aW x u:=by
 cases r with
 |cons r1 r2=>cases r2;exact ⟨_,rfl,r1⟩
theorem mq {x y:V}{us:List Value} (r:aR [x,y] us):∃u w',us=[u,w']∧aW x u∧aW y w':=by
 cases r with
 |cons r1 r2=>
  cases r2 with
  |cons r3 r4=>cases r4;exact ⟨_,_,rfl,r1,r3⟩
theorem sF:eY X (.builtin "abs") (fun xs H Q=>∃i,xs=[.int i]∧Q (.int (if i < 0 then -i else i)) H):=by
 intro pins s σ H xs us Q I r h
 obtain ⟨i,rfl,q⟩:=h
 obtain ⟨u,rfl,t,rfl⟩:=gu r
 exact call_abs_int fun u tk=>⟨.int (if i < 0 then -i else i),H,I.tok _,⟨_,rfl⟩,q⟩
end
structure ym (h:Heap) (x dx C:Addr) (mA:Str→Option Value):Prop where
 obj:h.get? x=some (FV C dx)
 ns:h.Ns1 dx mA
 ne:dx≠x
theorem qA {h:Heap}{dx:Addr}{mA:Str→Option Value} (n:h.Ns1 dx mA):∃od,h.get? dx=some od∧∀name,GC name od=some (mA name):=by
 obtain ⟨o,es,ep,ho,hd,hk,_,hm⟩:=n
 refine ⟨o,ho,fun name=>?_⟩
 have e:=hm name
 unfold nsFind findBy at e
 rw[←Array.find?_toList] at e
 unfold GC
 rw[hd]
 dsimp only
 split
 ·rename_i y q
  rw[q] at e
  exact congrArg some e
 ·rename_i q
  rw[q] at e
  have a:es.toList.any (·.refKey)=false:=by
   rw[List.any_eq_false]
   intro y hy
   obtain ⟨z,t,hkey⟩:=hk y (EJ.mp hy)
   simp[DictEntry.refKey,hkey]
  have a':¬ es.toList.any (·.refKey)=true:=by rw[a];exact AX
  rw[if_neg a']
  exact congrArg some e
theorem ym.look {h:Heap}{x dx C:Addr}{mA:Str→Option Value} (I:ym h x dx C mA):∃od,PySem.W.InstAt h x (FV C dx) C (some od)∧∀name,GC name od=some (mA name):=
 let ⟨od,ho,hl⟩:=qA I.ns
 ⟨od,⟨I.obj,rfl,rfl,ho⟩,hl⟩
section
variable {prog:AD}{w:World}{A:A5}{E:Value→As→Prop}{s:As}{K:Ap}{x dx C f:Addr}{mA:Str→Option Value}{name:Str}{v:Value}
end
def putF (f:Str) (v:V):List (Str×V)→List (Str×V)
 |[]=>[(f,v)]
 | (g,x)::r=>if g=f then (g,v)::r else (g,x)::putF f v r
section
variable {P:AD}{w:World}{H H':Hp}{h h':Heap}{a C dx:Addr}{fs fs':List (Str×V)}
theorem uK (hok:HOk P w H h) (e:H a=some (.ins C dx fs)):∃mA,ym h a dx C mA∧(∀f,ya (fs.lookup f) (mA f))∧Jp mA (fs.map (·.1))∧fs.length≤1000∧H dx=some (.own a):=by
 obtain ⟨d,z,ne,ob,mA,n,r,q⟩:=(show cH P w H h a (.ins C dx fs) from hok a _ e)
 exact ⟨mA,⟨ob,n,ne⟩,r,q,z,d⟩
end
structure Cls (K:Ap) (C:Addr):Prop where
 pg:Hz K C Str.empty=true
 hd:PySem.W.hasDictIn K C=true
 po:PySem.W.plainOver K C=true
 sa:Es K (.ref C) "__setattr__"=some (some (.builtin "object.__setattr__"))
theorem Cls.get {K:Ap}{C:Addr} (c:Cls K C) (f:Str):Hz K C f=true:=c.pg
structure Con (K:Ap) (C:Addr) (f:Str) (v:V) (u:Value):Prop where
 at_:Es K (.ref C) f=some (some u)
 rel:aW v u
 get:He K u "__get__"=some none
 cp:PySem.W.copiedNames.contains f=false
structure Ak (K:Ap) (C:Addr) (m:Str) (f:Addr):Prop where
 at_:Es K (.ref C) m=some (some (.ref f))
 fn:Js K (.ref f)=true
 kp:AI K (.ref f)=true
section
variable {X:Cx}{pins:List (Addr×Obj)}{σ:St}{H:Hp}{s:As}{a C dx:Addr}{fs:List (Str×V)}{f:Str}{v:V}{A:A5}{E:Value→As→Prop}
end
section
variable {X:Cx}{o e value:Expr}{f:Str}{pos pos' tpos:Pos}{ta tv:TE}
end
section
variable {X:Cx}{pins:List (Addr×Obj)}{σ:St}{H:Hp}{s:As}{A:A5}{E:Value→As→Prop}{Q:Value→As→Prop}{c:Value}{b:Bool}
inductive iK (K:Ap) (H:Hp):V→Value→Prop where
 |non:iK K H .non (.type "NoneType")
 |bl (x:Bool):iK K H (.bl x) (.type "bool")
 |int (i:Int):iK K H (.int i) (.type "int")
 |str (x:Str):iK K H (.str x) (.type "str")
 |flt (x:UInt64):iK K H (.flt x) (.type "float")
 |lst {a:Addr}{xs:List V} (e:H a=some (.lst xs)):iK K H (.ref a) (.type "list")
 |frz {a:Addr}{o:Obj}{xs:List V} (e:H a=some (.frz o (.lst xs))):iK K H (.ref a) (.type "list")
 |tup {a:Addr}{xs:List V} (e:H a=some (.tup xs)):iK K H (.ref a) (.type "tuple")
 |dK {a:Addr}{kvs:List (Key×V)} (e:H a=some (.dK kvs)):iK K H (.ref a) (.type "dict")
 |dT {a:Addr}{kvs:List (List Key×V)} (e:H a=some (.dT kvs)):iK K H (.ref a) (.type "dict")
 |ins {a C dx:Addr}{fs:List (Str×V)} (e:H a=some (.ins C dx fs)) (cl:Cls K C) (ha:Es K (.ref C) "__class__"=some (some (.builtin "object.__class__")))
   (hn:He K (.builtin "object.__class__") "__get__"=some (some (.builtin "getset_descriptor.__get__"))) (htk:PySem.W.takesIn K (.builtin "object.__class__")=some true)
   (hm:PySem.W.mroIn K C (.type "object")=some true):iK K H (.ref a) (.ref C)
theorem dw {x:V}{u t:Value} (I:Inv X pins σ H s) (rx:aW x u) (ty:iK X.K H x t) (e:Fe X.K t c=some b) (h:∀tk,Q (.bool b) {s with toks:=tk }):
  wpAny (model X.prog X.w) A (call (.builtin "isinstance") [u,c]) Q E s:=by
 cases ty with
 |non=>cases (show u=AY from rx);exact BJ PySem.W.kitx_none I.kIn True.intro e (fun z=>nomatch z) h
 |bl y=>cases (show u=Bg y from rx);exact BJ PySem.W.kitx_bool I.kIn True.intro e (fun z=>nomatch z) h
 |int i=>obtain ⟨t,q⟩:=(show ∃t,u=Be i t from rx);cases q;exact BJ PySem.W.kitx_int I.kIn True.intro e (fun z=>nomatch z) h
 |str y=>obtain ⟨t,q⟩:=(show ∃t,u=Bq y t from rx);cases q;exact BJ PySem.W.kitx_str I.kIn True.intro e (fun z=>nomatch z) h
 |flt y=>obtain ⟨t,q⟩:=(show ∃t,u=JB y t from rx);cases q;exact BJ PySem.W.kitx_float I.kIn True.intro e (fun z=>nomatch z) h
 | @lst a xs ea=>
  cases (show u=Bk a from rx)
  obtain ⟨_,_,n,_,h1⟩:=(show cH X.prog X.w H s.heap a (.lst xs) from I.hok a _ ea)
  exact BJ Fn I.kIn ⟨_,h1,rfl⟩ e (fun z=>nomatch z) h
 | @frz a ob xs ea=>
  cases (show u=Bk a from rx)
  obtain ⟨_,_,_,n,_,h1⟩:=(show cH X.prog X.w H s.heap a (.frz ob (.lst xs)) from I.hok a _ ea)
  exact BJ Fn I.kIn ⟨_,h1,rfl⟩ e (fun z=>nomatch z) h
 | @tup a xs ea=>
  cases (show u=Bk a from rx)
  obtain ⟨_,_,_,p⟩:=(show cH X.prog X.w H s.heap a (.tup xs) from I.hok a _ ea)
  obtain ⟨o,h1,h2,_⟩:=p
  exact BJ GU I.kIn ⟨o,h1,h2⟩ e (fun z=>nomatch z) h
 | @dK a kvs ea=>
  cases (show u=Bk a from rx)
  obtain ⟨_,_,vs,_,p⟩:=(show cH X.prog X.w H s.heap a (.dK kvs) from I.hok a _ ea)
  obtain ⟨o,es,ep,h1,h2,_⟩:=p
  exact BJ Hf I.kIn ⟨o,h1,h2.1⟩ e (fun z=>nomatch z) h
 | @dT a kvs ea=>
  cases (show u=Bk a from rx)
  obtain ⟨_,_,xs,_,o,es,ep,h1,h2,_⟩:=(show cH X.prog X.w H s.heap a (.dT kvs) from I.hok a _ ea)
  exact BJ Hf I.kIn ⟨o,h1,h2.1⟩ e (fun z=>nomatch z) h
 | @ins a C dx fs ea cl ha hn htk hm=>
  cases (show u=Bk a from rx)
  obtain ⟨mA,O,_⟩:=uK I.hok ea
  obtain ⟨od,J,_⟩:=O.look
  exact BJ (PySem.W.kitx_own (cl.get _) cl.hd ha hn htk hm) I.kIn J e (fun z=>nomatch z) h
end
structure dC (k:Nat) (A:A5):Prop where
 hd:A.handled=none
 dp:A.depth+3*k+5 < Ff
 un:A.units+16*k+200 < cLine
theorem dC.mono {j k:Nat}{A:A5} (r:dC k A) (h:j≤k):dC j A:=⟨r.hd,by have:=r.dp;omega,by have:=r.un;omega⟩
theorem dC.deeper {k:Nat}{A:A5} (r:dC (k+1) A) (env:Env):dC k (A.deeper env):=
 ⟨r.hd,by have:=r.dp;show A.depth+1+3*k+5 < _;omega,by have:=r.un;show A.units+3+16*k+200 < _;omega⟩
theorem dC.in1 {k:Nat}{A:A5} (r:dC (k+1) A):dC k A.in1:=
 ⟨r.hd,by have:=r.dp;show A.depth+3*k+5 < _;omega,by have:=r.un;show A.units+1+16*k+200 < _;omega⟩
theorem dC.depth {k:Nat}{A:A5} (r:dC k A):A.depth < Ff:=by have:=r.dp;omega
def zY:TA:=fun _ H Q=>Q [] H
def yA (ta:TE) (tr:TA):TA:=fun σ H Q=>ta σ H fun x H1=>tr σ H1 fun xs H2=>Q (x::xs) H2
section
variable {X:Cx}{e:Expr}{es:List Expr}{te:TE}{t:TA}{pos:Pos}
theorem d8:PA X [] zY:=fun _ _ _ _ H Q I h=>Eh ⟨[],H,I,.nil,h⟩
theorem cJ (ha:PE X e te) (hr:PA X es t) (hs:AL (e::es) X.env=(false,eval e X.env)::AL es X.env:=by rfl):PA X (e::es) (yA te t):=by
 intro pos pins s σ H Q I h
 rw[hs]
 show wpAny _ _ (spliced ((false,eval e X.env)::Ec pos (AL es X.env))) _ _ s
 refine D5 (thn (ha pins s σ H _ I h) fun u s1 ⟨x,H1,I1,r1,q1⟩=>?_)
 exact thn (hr pos pins s1 σ H1 _ I1 q1) fun us s2 ⟨xs,H2,I2,r2,q2⟩=>⟨x::xs,H2,I2,.cons r1 r2,q2⟩
def zG (t:TA):TE:=fun σ H Q=>t σ H fun xs H1=>xs.length≤sizeLine∧∀p,H1 p=none→Q (.ref p) (upd H1 p (.tup xs))
def zL (t:TA):TE:=fun σ H Q=>t σ H fun xs H1=>xs.length≤sizeLine∧∀p,H1 p=none→Q (.ref p) (upd H1 p (.lst xs))
theorem xh {x1} (h:PA X es t):PE X (.Tuple es x1 pos) (zG t):=by
 intro pins s σ H Q I hq
 refine wpAny_Tuple_spliced (thn (h pos pins s σ H _ I hq) fun us s1 ⟨xs,H1,I1,r,z,q⟩=>⟨by rw[←r.length];exact z,?_⟩)
 have hf:H1 s1.heap.objs.size=none:=I1.hok.fresh (Ay _)
 refine ⟨.ref s1.heap.objs.size,upd H1 s1.heap.objs.size (.tup xs),I1.laid (t':=s1.toks) (fun b u e=>Aq _ e) (Ay _) ?_,rfl,q _ hf⟩
 exact ⟨z,us,r,⟨_,AE _ rfl,rfl,_,rfl⟩⟩
theorem wZ (h:PA X es t):PE X (.List es pos) (zL t):=by
 intro pins s σ H Q I hq
 refine wpAny_List_spliced (thn (h pos pins s σ H _ I hq) fun us s1 ⟨xs,H1,I1,r,z,q⟩=>⟨by rw[←r.length];exact z,?_⟩)
 have hf:H1 s1.heap.objs.size=none:=I1.hok.fresh (Ay _)
 refine ⟨.ref s1.heap.objs.size,upd H1 s1.heap.objs.size (.lst xs),I1.laid (t':=s1.toks) (fun b u e=>Aq _ e) (Ay _) ?_,rfl,q _ hf⟩
 exact ⟨z,us,0,r,AE _ rfl⟩
end
abbrev Sp:=List V→Hp→VK→XK→Prop
abbrev CXT:=List Env→Hp→As→XK→Value→As→Prop
structure nL (P:AD) (w:World) (K:Ap) (mg:Str→Option Value) (base:Heap) (A:A5) (outer:List Env) (s:As) (H:Hp):Prop where
 frames:A.frames=some outer
 mod:Mod K mg base
 bs:∀b o,base.get? b=some o→s.heap.get? b=some o∧H b=none
 bsz:base.objs.size≤s.heap.objs.size
 funs:s.heap.FunFrames base outer
 frf:Frf mg base (frs outer) H
 hok:HOk P w H s.heap
 bare:Fy s.gens
def CE (outer:List Env) (P:AD) (w:World) (H:Hp) (s:As) (Q:VK) (u:Value) (s':As):Prop:=
 ∃v H',s'.os=s.os∧Fy s'.gens∧Un (frs outer) [] H H' s.heap s'.heap∧HOk P w H' s'.heap∧aW v u∧Q v H'
def CR (CX:CXT) (outer:List Env) (P:AD) (w:World) (H:Hp) (s:As) (Q:VK) (E:XK) (r:GV) (s':As):Prop:=
 match r with
 | .ok (.ret u)=>CE outer P w H s Q u s'
 | .ok _=>False
 | .error e=>CX outer H s E e s'
structure bF (P:AD) (w:World) (K:Ap) (mg:Str→Option Value) (base:Heap) (CX:CXT) (k:Nat) (f:Addr) (fd:A9) (ps:List Str) (sp:Sp):Prop where
 len:∀vs H Q E,sp vs H Q E→vs.length=ps.length
 run:∀(A:A5) (outer:List Env) (s:As) (H:Hp) (args:Args) (us:List Value) (vs:List V) (Q:VK) (E:XK),dC k A→nL P w K mg base A outer s H→GN s fd args (ps.zip us)→aR vs us→sp vs H Q E→
  EY (model P w) A (.call (.ref f) args) (CR CX outer P w H s Q E) s
theorem bF.mono {P:AD}{w:World}{K:Ap}{mg:Str→Option Value}{base:Heap}{CX:CXT}{j k:Nat}{f:Addr}{fd:A9}{ps:List Str}{sp:Sp} (F:bF P w K mg base CX j f fd ps sp) (h:j≤k):
  bF P w K mg base CX k f fd ps sp:=⟨F.len,fun A outer s H args us vs Q E hr=>F.run A outer s H args us vs Q E (hr.mono h)⟩
theorem nL.in1 {P:AD}{w:World}{K:Ap}{mg:Str→Option Value}{base:Heap}{A:A5}{outer:List Env}{s:As}{H:Hp} (e:nL P w K mg base A outer s H):
  nL P w K mg base A.in1 outer s H:=⟨e.frames,e.mod,e.bs,e.bsz,e.funs,e.frf,e.hok,e.bare⟩
section
variable {X:Cx}{pins:List (Addr×Obj)}{σ:St}{H:Hp}{s s':As}
theorem Inv.env0 (I:Inv X pins σ H s):nL X.prog X.w X.K X.mg X.base X.A X.stack s H:=
 ⟨I.ok.frames,I.ok.mod,I.bs,BR I.ok.bsz I.sz,I.stack,⟨I.stkFree,I.amb⟩,I.hok,I.bare⟩
theorem Inv.after {Q:VK}{u:Value} (I:Inv X pins σ H s) (h:CE X.stack X.prog X.w H s Q u s'):EP X pins σ Q u s':=by
 obtain ⟨v,H',os,bare,un,hok,r,q⟩:=h
 obtain ⟨hh,g,d,t,os'⟩:=s'
 obtain rfl:os'=s.os:=os
 exact ⟨v,H',I.call (h':=hh) (g':=g) (d':=d) (t':=t) (ch:=[]) un hok bare (fun b z=>absurd z (by simp)),r,q⟩
end
def zl (sp:Sp) (dvs:List V) (E:XK) (t:TA):TE:=fun σ H Q=>t σ H fun vs H1=>sp (vs++dvs) H1 Q E
def bi (K:Ap) (fd:A9) (ps:List Str) (ds:List Value):Prop:=
 ∀(s:As) (us:List Value),K.In s.heap→(us++ds).length=ps.length→GN s fd ⟨us,[]⟩ (ps.zip (us++ds))
theorem bi.all {K:Ap}{fd:A9}{ps:List Str} (h:∀us:List Value,us.length=ps.length→Bv fd ⟨us,[]⟩=pure (ps.zip us)):bi K fd ps []:=fun s us _ hl=>by
 rw[Dy] at hl ⊢
 exact .of_eq (h us hl)
def jt (CX:CXT) (X:Cx) (E:XK):Prop:=∀(pins:List (Addr×Obj)) (σ:St) (H:Hp) (s:As) (e:Value) (s':As),Inv X pins σ H s→CX X.stack H s E e s'→X.xe e s'
section
variable {X:Cx}{CX:CXT}{k:Nat}{f C:Addr}{fd:A9}{ps:List Str}{sp:Sp}{dvs:List V}{ds:List Value}{E:XK}{x m:Str}{p pos apos:Pos}{e o:Expr}{es:List Expr}{ta:TE}{t:TA}
theorem xW {pins:List (Addr×Obj)}{σ:St}{H:Hp}{s:As}{Q:VK}{us:List Value}{vs:List V} (F:bF X.prog X.w X.K X.mg X.base CX k f fd ps sp) (hr:dC k X.A) (hb:bi X.K fd ps ds) (hd:aR dvs ds) (hx:jt CX X E)
  (I:Inv X pins σ H s) (r:aR vs us) (h:sp (vs++dvs) H Q E):wpAny (model X.prog X.w) X.A (call (.ref f) us) (EP X pins σ Q) X.xe s:=by
 have r2:aR (vs++dvs) (us++ds):=r.append hd
 have hl:(us++ds).length=ps.length:=by rw[←r2.length];exact F.len _ _ _ _ h
 refine I_ (Ey (F.run X.A X.stack s H ⟨us,[]⟩ (us++ds) (vs++dvs) Q E hr I.env0 (hb s us I.kIn hl) r2 h) fun r s' hq=>?_)
 cases r with
 |error e=>exact hx pins σ H s e s' I hq
 |ok fl=>
  cases fl with
  |ret u=>exact I.after hq
  |next=>exact False.elim hq
  |brk=>exact False.elim hq
  |cont=>exact False.elim hq
theorem oW (F:bF X.prog X.w X.K X.mg X.base CX k f fd ps sp) (hr:dC k X.A) (hg:Gl X x) (hm:X.mg x=some (.ref f)) (hk:AI X.K (.ref f)=true) (hb:bi X.K fd ps ds) (hd:aR dvs ds) (hx:jt CX X E)
  (ha:PA X (e::es) t) (hdb:(x==("__debug__":Str))=false:=by decide) (he:AL (e::es) X.env=(false,eval e X.env)::AL es X.env:=by rfl) (hpl:(Ec pos (AL es X.env)).any (·.1)=false:=by rfl):
  PE X (.Call (.Name x p) (e::es) [] pos) (zl sp dvs E t):=by
 intro pins s σ H Q I h
 refine Bp (uT I hg hm ?_ hdb)
 refine PySem.W.callWith_K (h₀:=X.base) I.ok.mod.kin hk (thn (ha pos pins s σ H _ I h) fun us s1 ⟨vs,H1,I1,r,q⟩=>⟨I1.kIn,?_⟩) he hpl
 exact xW F hr hb hd hx I1 r q
structure Mk (K:Ap) (C f:Addr):Prop where
 makes:PySem.W.makesIn K C=true
 init:Es K (.ref C) "__init__"=some (some (.ref f))
 fn:Js K (.ref f)=true
 kp:AI K (.ref C)=true
end
section
variable {X:Cx}{CX:CXT}{k:Nat}{f C:Addr}{fd:A9}{ps ks:List Str}{sp:Sp}{E:XK}{x m:Str}{p pos apos kpos:Pos}{e o:Expr}{es:List Expr}{kws:List HM}{te ta:TE}{t tk:TA}{nm:Option Str}
structure zO (K:Ap) (fd:A9) (ps ks:List Str) (g:List Value→List Value→List Value) (gV:List V→List V→List V):Prop where
 to:∀(s:As) (us ws:List Value),K.In s.heap→(g us ws).length=ps.length→GN s fd ⟨us,ks.zip ws⟩ (ps.zip (g us ws))
 rel:∀{vs:List V}{us:List Value}{zs:List V}{ws:List Value},aR vs us→aR zs ws→aR (gV vs zs) (g us ws)
variable {g:List Value→List Value→List Value}{gV:List V→List V→List V}
end
structure aE (N P:List Str) (sc:Scope):Prop where
 kind:sc.kind=.function
 co:sc.isCoroutine=false
 gen:sc.isGenerator=false
 nd:N.Nodup
 pre:N.take P.length=P
 par:∀x∈P,sc.names.lookup x=some .local∨sc.names.lookup x=some .cell
 nofree:∀y∈sc.names,y.2≠.free
theorem kn {kindOf:Str→Option EN}{x:Str}:∀{binds:List (Str×Value)}{m:Str→Option Value},(∀v,(x,v) ∉ binds)→bindL kindOf binds m x=m x
 |[],_,_=>rfl
 | (n,v)::r,m,h=>by
  unfold bindL
  rw[kn fun w hw=>h w (Aw _ hw)]
  split
  ·have:x≠n:=by rintro rfl;exact h v AF
   simp[this]
  ·rfl
theorem j0 {kindOf:Str→Option EN}{x:Str}:∀{binds:List (Str×Value)}{m:Str→Option Value},(∀v,(x,v) ∉ binds)→bindC kindOf binds m x=m x
 |[],_,_=>rfl
 | (n,v)::r,m,h=>by
  unfold bindC
  rw[j0 fun w hw=>h w (Aw _ hw)]
  split
  ·rfl
  ·have:x≠n:=by rintro rfl;exact h v AF
   simp[this]
theorem kl {kindOf:Str→Option EN}{x:Str}{v:Value}:∀{P:List Str}{vs:List Value}{i:Nat}{m:Str→Option Value},P.Nodup→P[i]?=some x→vs[i]?=some v→kindOf x=some .local→
  bindL kindOf (P.zip vs) m x=some v
 |[],_,_,_,_,h,_,_=>by simp at h
 |_::_,[],_,_,_,_,h,_=>by simp at h
 |p::P,w::vs,0,m,nd,h1,h2,hk=>by
  simp at h1 h2;subst h1;subst h2
  show bindL kindOf ((p,w)::P.zip vs) m p=_
  unfold bindL
  rw[kn fun v hv=>(Ce.mp nd).1 (FZ hv).1,if_pos hk]
  simp
 |p::P,w::vs,i+1,m,nd,h1,h2,hk=>by
  show bindL kindOf ((p,w)::P.zip vs) m x=_
  unfold bindL
  exact kl (i:=i) (Ce.mp nd).2 (by simpa using h1) (by simpa using h2) hk
theorem km {kindOf:Str→Option EN}{x:Str}{v:Value}:∀{P:List Str}{vs:List Value}{i:Nat}{m:Str→Option Value},P.Nodup→P[i]?=some x→vs[i]?=some v→kindOf x≠some .local→
  bindC kindOf (P.zip vs) m x=some v
 |[],_,_,_,_,h,_,_=>by simp at h
 |_::_,[],_,_,_,_,h,_=>by simp at h
 |p::P,w::vs,0,m,nd,h1,h2,hk=>by
  simp at h1 h2;subst h1;subst h2
  show bindC kindOf ((p,w)::P.zip vs) m p=_
  unfold bindC
  rw[j0 fun v hv=>(Ce.mp nd).1 (FZ hv).1,if_neg hk]
  simp
 |p::P,w::vs,i+1,m,nd,h1,h2,hk=>by
  show bindC kindOf ((p,w)::P.zip vs) m x=_
  unfold bindC
  exact km (i:=i) (Ce.mp nd).2 (by simpa using h1) (by simpa using h2) hk
def start (N:List Str) (vs:List V):St:=vs.map some++IB (N.length - vs.length) none
def mS (CX:CXT) (P:AD) (w:World) (K:Ap) (mg:Str→Option Value) (base:Heap) (N:List Str) (qual:Str) (scope:Scope) (f:Addr) (cd:Value) (A:A5) (outer:List Env) (s:As) (H:Hp) (E:XK):Cx where
 prog:=P
 w:=w
 K:=K
 mg:=mg
 base:=base
 A:=A.deeper (GD qual scope s.heap.objs.size f cd)
 N:=N
 s₀:=s
 H₀:=H
 env:=GD qual scope s.heap.objs.size f cd
 outer:=outer
 stack:=GD qual scope s.heap.objs.size f cd::outer
 ex:=[]
 calm:=true
 fn:=fun _=>true
 pn:=[]
 xe:=fun e s'=>wpAny (model P w) (A.deeper (GD qual scope s.heap.objs.size f cd)) (leaving (GD qual scope s.heap.objs.size f cd) e) (fun _ s''=>CX outer H s E e s'') (fun e' s''=>CX outer H s E e' s'') s'
theorem mQ {sc:Scope}{n:Nat}{x:Str} (h:sc.names.lookup x=some .cell):∃c,(HN n sc.names []).lookup x=some c:=by
 have q:=Ed sc.names n [] (.inl h)
 exact DY.mp q
theorem qJ {CX:CXT}{P:AD}{w:World}{K:Ap}{mg:Str→Option Value}{base:Heap}{N ps:List Str}{qual:Str}{scope:Scope}{f:Addr}{cd:Value}{A:A5}{outer:List Env}{s s1:As}{H:Hp}{E:XK}{us:List Value}{vs:List V}
  (S:aE N ps scope) (hd:A.handled=none) (e0:nL P w K mg base A outer s H) (hl:vs.length=ps.length) (r:aR vs us)
  (x:InCallC s s.heap.objs.size (bindL (GD qual scope s.heap.objs.size f cd).kindOf (ps.zip us) fun _=>none) (HN (s.heap.objs.size+1) scope.names []) (bindC (GD qual scope s.heap.objs.size f cd).kindOf (ps.zip us) fun _=>none) s1):
  Inv (mS CX P w K mg base N qual scope f cd A outer s H E) [] (start N vs) H s1:=by
 have hpl:ps.length≤N.length:=by have:=congrArg List.length S.pre;rw[HA] at this;omega
 obtain ⟨h1,tk,rfl,hk⟩:=x.done
 have noA:∀b:Addr,b ∉ (mS CX P w K mg base N qual scope f cd A outer s H E).ex:=fun b z=>absurd (show b∈([]:List Addr) from z) (by simp)
 refine ⟨⟨e0.mod,S.kind,rfl,rfl,Ay _,fun y z c h1 h2=>?_,fun y hy=>?_,fun y c _ h=>?_,fun _=>hd,Gx e0.frames,.inr ⟨rfl,rfl⟩,fun b z=>absurd z (noA b),e0.bs,e0.bsz,fun b _ _=>noA b,fun b z=>absurd z (noA b),e0.funs,e0.frf⟩,
  rfl,e0.bare,Un.kept hk,⟨_,x.toInCall.ns,fun i y v h1 h2 h3=>?_⟩,fun y c h=>⟨_,x.cell y c h⟩,e0.hok.fresh (Ay _),fun y c h=>?_,fun p hp=>absurd (show p∈([]:List (Addr×Obj)) from hp) (by simp),e0.hok.kept hk,?_⟩
 ·exact name_of_addr x.apart (BI h1) (BI h2)
 ·have hy:scope.names.lookup y=some .cell∨scope.names.lookup y=some .free:=hy
  rcases hy with hy |hy
  ·exact mQ hy
  ·exact absurd rfl (S.nofree _ (BI hy))
 ·exact By (x.above y c (BI h))
 ·have hi:i < vs.length:=by
   unfold start at h2
   by_cases hi:i < vs.length
   ·exact hi
   ·rw[A0 (by simpa using hi)] at h2
    rw[CI] at h2
    split at h2 <;>cases h2
  have ha:vs[i]?=some v:=by
   unfold start at h2
   rw[A7 (by simpa using hi),Av] at h2
   cases e:vs[i]? with
   |none=>rw[e] at h2;cases h2
   |some a=>rw[e] at h2;cases h2;rfl
  obtain ⟨u,hu,rv⟩:=r.get ha
  have hp:ps[i]?=some y:=by
   rw[←S.pre,Dc (by omega)];exact h1
  have ndP:ps.Nodup:=by rw[←S.pre];exact S.nd.sublist (List.take_sublist _ _)
  refine ⟨u,rv,?_⟩
  rcases S.par y (AO hp) with k |k
  ·exact .inl ⟨k,kl ndP hp hu k⟩
  ·obtain ⟨c,e⟩:=mQ (n:=s.heap.objs.size+1) k
   refine .inr ⟨.inl k,c,e,?_⟩
   have q:=x.cell y c e
   rw[km ndP hp hu (by show scope.names.lookup y≠_;rw[k];decide)] at q
   exact q
 ·exact e0.hok.fresh (By (x.above y c (BI h)))
 ·unfold start
  show _=N.length
  rw[Bd,Ar,C3]
  omega
theorem wj {CX:CXT}{P:AD}{w:World}{K:Ap}{mg:Str→Option Value}{base:Heap}{k:Nat}{f:Addr}{name qual:Str}{params:GW}{body:List Stmt}{scope:Scope}{dV kV doc pm cdv ct oc:Value}{an od:Option Addr}
  {osl:Array (Option Value)}{N ps:List Str}{sp:Sp} (lk:K.lookup f=some ⟨oc,od,.func (AW name qual params body scope dV kV doc pm an cdv ct),osl⟩) (hcd:AJ K cdv qual=true) (S:aE N ps scope)
  (len:∀vs H Q E,sp vs H Q E→vs.length=ps.length)
  (hbody:∀(A:A5) (outer:List Env) (s:As) (H:Hp) (vs:List V) (Q:VK) (E:XK),dC k (A.deeper (GD qual scope s.heap.objs.size f cdv))→sp vs H Q E→
   ∃t,PSs (mS CX P w K mg base N qual scope f cdv A outer s H E) body t∧t {nx:=fun _ H'=>Q .non H',rt:=Q } (start N vs) H):
  bF P w K mg base CX (k+1) f (AW name qual params body scope dV kV doc pm an cdv ct) ps sp:=by
 refine ⟨len,fun A outer s H args us vs Q E hr e0 hb r hsp=>?_⟩
 have hl:=len _ _ _ _ hsp
 have KX:K.In s.heap:=e0.mod.kin.keeps fun b o e=>(e0.bs b o e).1
 have lim:s.heap.NoLimit:=e0.mod.nolimit.keeps fun b o e=>(e0.bs b o e).1
 have hkind:∀y∈ps.zip us,scope.names.lookup y.1=some .local∨(scope.names.lookup y.1=some .cell∧((HN (s.heap.objs.size+1) scope.names []).lookup y.1).isSome=true):=fun ⟨n,v⟩ hy=>by
  rcases S.par n (FZ hy).1 with q |q
  ·exact .inl q
  ·exact .inr ⟨q,Ed _ _ _ (.inl q)⟩
 refine codeAny_call_function hr.depth (KX _ _ lk) rfl S.co S.gen rfl (PySem.W.codeRec_of KX hcd) (hb _ _ _ _ ?_)
 refine wpAny_newFunctionEnv_cells S.kind hkind fun env he s1 x=>?_
 subst he
 refine ⟨lim.keeps x.toInCall.keep,codeAny_func ?_⟩
 obtain ⟨t,ht,hq⟩:=hbody A outer s H vs Q E (hr.deeper _) hsp
 have I:Inv (mS CX P w K mg base N qual scope f cdv A outer s H E) [] (start N vs) H s1:=qJ S hr.hd e0 hl r x
 refine Cs (ht [] s1 (start N vs) H _ I hq) (fun fl s' hs=>?_) fun e s' hs=>hs
 have fin:∀{σ':St}{H':Hp}{v:V}{u:Value},Inv (mS CX P w K mg base N qual scope f cdv A outer s H E) [] σ' H' s'→aW v u→Q v H'→CE outer P w H s Q u s':=
  fun {σ' H' v u} J rv q=>⟨v,H',J.os,J.bare,J.base,J.hok,rv,q⟩
 cases fl with
 |ret u=>
  obtain ⟨v,σ',H',J,rv,q⟩:=hs
  exact fin J rv q
 |next=>
  obtain ⟨σ',H',J,q⟩:=hs
  exact fin (v:=V.non) (u:=AY) J rfl q
 |brk=>
  obtain ⟨_,_,_,q⟩:=hs
  exact False.elim q
 |cont=>
  obtain ⟨_,_,_,q⟩:=hs
  exact False.elim q
section
variable {X:Cx}{x:Str}{p pos:Pos}{e:Expr}{es:List Expr}{t:TA}{id T:String}{r:List V→Hp→VK→Prop}
def tCB (r:List V→Hp→VK→Prop) (t:TA):TE:=fun σ H Q=>t σ H fun vs H1=>r vs H1 Q
theorem mh (hc:eY X (.builtin id) r) (hg:Gl X x) (hm:X.mg x=none) (hv:Cp x=some (.builtin id)) (ha:PA X (e::es) t) (hn:x≠"__name__":=by decide) (hdb:(x==("__debug__":Str))=false:=by decide)
  (he:AL (e::es) X.env=(false,eval e X.env)::AL es X.env:=by rfl) (hpl:(Ec pos (AL es X.env)).any (·.1)=false:=by rfl):PE X (.Call (.Name x p) (e::es) [] pos) (tCB r t):=by
 intro pins s σ H Q I h
 refine Bp (cT I hg hm hv ?_ hn hdb)
 exact PyProof.Rows.callWith_builtin1 (thn (ha pos pins s σ H _ I h) fun us s1 ⟨vs,H1,I1,r1,q1⟩=>hc pins s1 σ H1 vs us Q I1 r1 q1) he hpl
theorem qC (hc:eY X (.type T) r) (hg:Gl X x) (hm:X.mg x=none) (hv:Cp x=some (.type T)) (ha:PA X (e::es) t) (hn:x≠"__name__":=by decide) (hdb:(x==("__debug__":Str))=false:=by decide)
  (he:AL (e::es) X.env=(false,eval e X.env)::AL es X.env:=by rfl) (hpl:(Ec pos (AL es X.env)).any (·.1)=false:=by rfl):PE X (.Call (.Name x p) (e::es) [] pos) (tCB r t):=by
 intro pins s σ H Q I h
 refine Bp (cT I hg hm hv ?_ hn hdb)
 exact PyProof.Rows.callWith_type1 (thn (ha pos pins s σ H _ I h) fun us s1 ⟨vs,H1,I1,r1,q1⟩=>hc pins s1 σ H1 vs us Q I1 r1 q1) he hpl
end
end L2
namespace HT
open PySem PyProof.Rows
section
open PySem.SeqAt
open PySem.AutoSeq1 (wpAny_loadPart')
open PySem.MeetsSeq PySem.MeetsSeq2 PySem.MeetsSeq3
end
section
variable {prog:AD}{w:World}{A:A5}{E:Value→As→Prop}{s:As}
def sIx (n d:Nat):Option Int→Nat
 |none=>d
 |some v=>if v < 0 then (v+(n:Int)).toNat else min v.toNat n
end
end HT
namespace L2
open PySem PySem.Spec PyProof.Rows
abbrev TO:=St→Hp→(Option Int→Hp→Prop)→Prop
def PO (X:Cx) (e:Option Expr) (t:TO):Prop:=
 ∀(pins:List (Addr×Obj)) (s:As) (σ:St) (H:Hp) (Q:Option Int→Hp→Prop),Inv X pins σ H s→t σ H Q→
  wpAny (model X.prog X.w) X.A (evalPart e X.env) (fun u s'=>∃o H',Inv X pins σ H' s'∧IsPart u o∧Q o H') X.xe s
def vC:TO:=fun _ H Q=>Q none H
def yZ (t:TE):TO:=fun σ H Q=>t σ H fun x H1=>∃i,x=.int i∧Q (some i) H1
section
variable {X:Cx}{e:Expr}{te:TE}{lo hi:Option Expr}{tl th:TO}{pos p2:Pos}
theorem uQ:PO X none vC:=by
 intro pins s σ H Q I h
 rw[GX]
 exact Au ⟨none,H,I,.none,h⟩
theorem v4 (h:PE X e te):PO X (some e) (yZ te):=by
 intro pins s σ H Q I hw
 rw[evalPart_some]
 refine thn (h pins s σ H _ I hw) fun u s1 ⟨x,H1,I1,r1,q1⟩=>?_
 obtain ⟨i,rfl,q⟩:=q1
 obtain ⟨t,rfl⟩:=r1
 exact ⟨some i,H1,I1,.int i t,q⟩
def SlR (X:Cx) (r:V→Option Int→Option Int→Hp→VK→Prop):Prop:=
 ∀(pins:List (Addr×Obj)) (s:As) (σ:St) (H:Hp) (x:V) (v vl vu:Value) (lo hi:Option Int) (sl:Addr) (Q:VK),Inv X pins σ H s→aW x v→s.heap.IsSliceOf sl vl vu .none→IsPart vl lo→IsPart vu hi→r x lo hi H Q→
  ∃T id,typeLookup (.type T) "__getitem__"=pure (some (.builtin id))∧s.TypeIs v T∧wpAny (model X.prog X.w) X.A (getItem v (.ref sl)) (EP X pins σ Q) X.xe s
def tSl (r:V→Option Int→Option Int→Hp→VK→Prop) (te:TE) (tl th:TO):TE:=fun σ H Q=>te σ H fun x H1=>tl σ H1 fun l H2=>th σ H2 fun u H3=>r x l u H3 Q
theorem rG {r:V→Option Int→Option Int→Hp→VK→Prop} (hr:SlR X r) (he:PE X e te) (hl:PO X lo tl) (hu:PO X hi th):PE X (.Subscript e (.Slice lo hi none p2) pos) (tSl r te tl th):=by
 intro pins s σ H Q I h
 refine Ja (thn (he pins s σ H _ I h) fun v s1 ⟨x,H1,I1,r1,q1⟩=>?_)
 refine wpAny_Slice (thn (hl pins s1 σ H1 _ I1 q1) fun vl s2 ⟨l,H2,I2,pl,q2⟩=>thn (hu pins s2 σ H2 _ I2 q2) fun vu s3 ⟨u,H3,I3,pu,q3⟩=>?_)
 rw[GX]
 refine Au ?_
 have I4:Inv X pins σ H3 {s3 with heap:=s3.heap.push {cls:=.type "slice",data:=.fields #[vl,vu,.none] } }:=I3.kept (t':=s3.toks) fun b ob q=>Aq _ q
 obtain ⟨T,id,hT,ht,hg⟩:=hr pins {s3 with heap:=s3.heap.push {cls:=.type "slice",data:=.fields #[vl,vu,.none] } } σ H3 x v vl vu l u s3.heap.objs.size Q I4 r1 (GY ..) pl pu q3
 show wpAny (model X.prog X.w) X.A (GZ e (.Slice lo hi none p2) v (.ref s3.heap.objs.size)) (EP X pins σ Q) X.xe {s3 with heap:=s3.heap.push {cls:=.type "slice",data:=.fields #[vl,vu,.none] } }
 exact tail_any (ops:=[.ref s3.heap.objs.size,v]) ht hT hg (by with_unfolding_all rfl)
def qF (xs:List V) (lo hi:Option Int):List V:=(xs.drop (HT.sIx xs.length 0 lo)).take (HT.sIx xs.length xs.length hi - HT.sIx xs.length 0 lo)
theorem mH (xs:List V) (lo hi:Option Int):(qF xs lo hi).length≤xs.length:=by
 unfold qF
 rw[HA,HB]
 omega
end
def ixN (n:Nat) (i:Int):Option Nat:=if 0≤i then (if i < n then some i.toNat else none) else if -(n:Int)≤i then some (i+n).toNat else none
def atI {α:Type} (xs:List α) (i:Int):Option α:=(ixN xs.length i).bind fun j=>xs[j]?
theorem vN {n:Nat}{i:Int}{j:Nat} (h:ixN n i=some j):seqIndex? i n=some j∧j < n∧-(n:Int)≤i∧i < n:=by
 unfold ixN at h
 by_cases h0:0≤i
 ·rw[if_pos h0] at h
  by_cases h1:i < n
  ·rw[if_pos h1] at h
   have e:i.toNat=j:=Bo h
   exact ⟨by rw[seqIndex_of h0 h1,e],by omega,by omega,h1⟩
  ·rw[if_neg h1] at h;cases h
 ·rw[if_neg h0] at h
  by_cases h1:-(n:Int)≤i
  ·rw[if_pos h1] at h
   have e:(i+n).toNat=j:=Bo h
   exact ⟨by rw[seqIndex_neg (by omega) h1,e],by omega,h1,by omega⟩
  ·rw[if_neg h1] at h;cases h
theorem pF {α:Type}{xs:List α}{i:Int}{v:α} (h:atI xs i=some v):∃j,seqIndex? i xs.length=some j∧xs[j]?=some v∧j < xs.length∧-(xs.length:Int)≤i∧i < xs.length:=by
 unfold atI at h
 cases e:ixN xs.length i with
 |none=>rw[e] at h;cases h
 |some j=>
  rw[e] at h
  obtain ⟨h1,h2,h3,h4⟩:=vN e
  exact ⟨j,h1,h,h2,h3,h4⟩
theorem pK {α:Type}{xs:List α}{j:Nat}{v:α} (h:xs[j]?=some v):atI xs (j:Int)=some v:=by
 have hj:j < xs.length:=(AG.mp h).1
 have e:ixN xs.length (j:Int)=some j:=by
  unfold ixN
  rw[if_pos (by omega),if_pos (by omega)];simp
 unfold atI;rw[e];exact h
def iP (b:Expr):Prop:=∀o i,subscripted b false o i=operate [o,i] (getItem o i)
def IxR (X:Cx) (r:R2):Prop:=
 ∀(value slice:Expr) (pins:List (Addr×Obj)) (s:As) (σ:St) (H:Hp) (x y:V) (v u:Value) (Q:VK),Inv X pins σ H s→aW x v→aW y u→r x y H Q→
  subscripted slice false v u=operate [v,u] (getItem v u)→wpAny (model X.prog X.w) X.A (GZ value slice v u) (EP X pins σ Q) X.xe s
def MtR (X:Cx) (id:String) (r:V→List V→Hp→VK→Prop):Prop:=
 ∀(pins:List (Addr×Obj)) (s:As) (σ:St) (H:Hp) (x:V) (xs:List V) (v:Value) (us:List Value) (Q:VK),Inv X pins σ H s→aW x v→aR xs us→r x xs H Q→
  wpAny (model X.prog X.w) X.A (call (.builtin id) (v::us)) (EP X pins σ Q) X.xe s
section
variable {X:Cx}{a b:Expr}{ta tb:TE}{pos:Pos}
theorem IxR.or {r r':R2} (h:IxR X r) (h':IxR X r'):IxR X (fun x y H Q=>r x y H Q∨r' x y H Q):=by
 intro value slice pins s σ H x y v u Q I rx ry q hs
 rcases q with q |q
 ·exact h value slice pins s σ H x y v u Q I rx ry q hs
 ·exact h' value slice pins s σ H x y v u Q I rx ry q hs
theorem wH {r:R2} (hr:IxR X r) (ha:PE X a ta) (hb:PE X b tb) (hs:iP b):PE X (.Subscript a b pos) (tOp r ta tb):=by
 intro pins s σ H Q I h
 exact Ja (w6 ha hb I h fun v u s2 x y H2 I2 rx ry q=>hr a b pins s2 σ H2 x y v u Q I2 rx ry q (hs _ _))
def Ac (K:Ap):R2:=fun x y H Q=>∃p xs i v,x=.ref p∧y=.int i∧SqL K H p xs∧atI xs i=some v∧Q v H
def Af (K:Ap):R2:=fun x y H Q=>∃p xs i v,x=.ref p∧y=.int i∧SqT K H p xs∧atI xs i=some v∧Q v H
theorem pN:IxR X (Ac X.K):=by
 intro value slice pins s σ H x y v u Q I rx ry h hs
 obtain ⟨p,xs,i,z,rfl,rfl,hq,he,q⟩:=h
 cases rx
 obtain ⟨t,rfl⟩:=ry
 obtain ⟨its,r,pl,hz⟩:=I.list hq
 obtain ⟨j,h1,h2,h3,h4,h5⟩:=pF he
 obtain ⟨w,ew,rw'⟩:=r.get h2
 have hl:=r.length
 have hn:=oC
 have fin:EP X pins σ Q w s:=⟨z,H,I,rw',q⟩
 by_cases h0:0≤i
 ·have hj:i.toNat=j:=by
   rw[seqIndex_of h0 h5] at h1
   exact Bo h1
  exact item_listR pl.isList h0 (by omega) (by rw[hj];simpa using ew) fin hs
 ·have hj:(i+(its.toArray.size:Int)).toNat=j:=by
   rw[seqIndex_neg (by omega) h4] at h1
   rw[AV,←hl]
   exact Bo h1
  exact FO (x:=w) pl.isList.typeIs slot_list_getitem.lookup
   (wpAny_getItem_list_neg (Q:=fun r s'=>r=w∧EP X pins σ Q r s') pl.isList (by omega) (by rw[AV] <;>omega) (by omega) (by rw[hj];simpa using ew) ⟨rfl,fin⟩) hs
theorem yh:IxR X (Af X.K):=by
 intro value slice pins s σ H x y v u Q I rx ry h hs
 obtain ⟨p,xs,i,z,rfl,rfl,hq,he,q⟩:=h
 cases rx
 obtain ⟨t,rfl⟩:=ry
 obtain ⟨its,r,pl,hz⟩:=I.tuple hq
 obtain ⟨j,h1,h2,h3,h4,h5⟩:=pF he
 obtain ⟨w,ew,rw'⟩:=r.get h2
 have hl:=r.length
 have hn:=oC
 have fin:EP X pins σ Q w s:=⟨z,H,I,rw',q⟩
 exact FO (x:=w) pl.typeIs slot_tuple_getitem.lookup
  (getItem_tuple (j:=j) (Q:=fun r s'=>r=w∧EP X pins σ Q r s') pl (by omega) (by omega) (by rw[AV,←hl];exact h1) (by simpa using ew) ⟨rfl,fin⟩) hs
theorem kX (lo hi:Option Int) (n:Nat):(Ei lo hi none n).1=((HT.sIx n 0 lo:Nat):Int)∧(Ei lo hi none n).2.1=((HT.sIx n n hi:Nat):Int)∧(Ei lo hi none n).2.2=1:=by
 refine ⟨?_,?_,rfl⟩
 ·cases lo with
  |none=>simp[Ei,HT.sIx]
  |some i=>
   simp only[Ei,HT.sIx,FH,show (1:Int) >0 by decide,if_true]
   by_cases h:i < 0
   ·simp only[h,if_true] <;>omega
   ·simp only[h,if_false] <;>omega
 ·cases hi with
  |none=>simp[Ei,HT.sIx]
  |some i=>
   simp only[Ei,HT.sIx,FH,show (1:Int) >0 by decide,if_true]
   by_cases h:i < 0
   ·simp only[h,if_true] <;>omega
   ·simp only[h,if_false] <;>omega
theorem jS (its:List Value) (lo hi:Option Int):slicePick its.toArray lo hi none=((its.drop (HT.sIx its.length 0 lo)).take (HT.sIx its.length its.length hi - HT.sIx its.length 0 lo)).toArray:=by
 obtain ⟨h1,h2,h3⟩:=kX lo hi its.toArray.size
 unfold slicePick
 rw[h1,h2,h3]
 simp only[sliceRange_one,pick_run,AV] <;>rfl
def Ab (K:Ap):V→Option Int→Option Int→Hp→VK→Prop:=fun x lo hi H Q=>∃a xs,x=.ref a∧SqL K H a xs∧∀p,H p=none→Q (.ref p) (upd H p (.lst (qF xs lo hi)))
theorem uV:SlR X (Ab X.K):=by
 intro pins s σ H x v vl vu lo hi sl Q I rx hs pl pu h
 obtain ⟨a,xs,rfl,hx,q⟩:=h
 cases rx
 obtain ⟨its,r,ht,hz⟩:=I.list hx
 have hlen:=r.length
 refine ⟨"list",_,slot_list_getitem.lookup,ht.isList.typeIs,?_⟩
 refine Fo ht.isList hs pl pu .none (by simp) ?_ (by rw[AV] <;>omega)
 rw[jS,←hlen]
 refine ⟨.ref s.heap.objs.size,_,I.laid (t':=s.toks) (o:=.lst (qF xs lo hi)) (fun b ob q=>Aq _ q) (Ay _) ?_,rfl,q _ (I.hok.fresh (Ay _))⟩
 exact ⟨BR (mH xs lo hi) hz,_,0,(r.drop (HT.sIx xs.length 0 lo)).take (HT.sIx xs.length xs.length hi - HT.sIx xs.length 0 lo),AE _ rfl⟩
def gj:V→Bool
 | .non=>true
 | .bl _=>true
 | .int _=>true
 | .str _=>true
 |_=>false
def eqV:V→V→Bool
 | .non,.non=>true
 | .bl a,.bl b=>a==b
 | .bl a,.int b=>(if a then 1 else 0)==b
 | .int a,.bl b=>a==(if b then 1 else 0)
 | .int a,.int b=>a==b
 | .str a,.str b=>a==b
 |_,_=>false
theorem yj {A:A5}{s:As}{y x:V}{u v:Value} (ry:aW y u) (rx:aW x v) (fy:gj y=true) (fx:gj x=true):SeqAt.EqAt A s u v (eqV y x):=by
 cases y with
 |non=>
  cases ry
  cases x with
  |non=>cases rx;exact SeqAt.EqAt.same _
  |bl b=>cases rx;exact SeqAt.EqAt.none_bool b
  |int b=>obtain ⟨t,rfl⟩:=rx;exact SeqAt.EqAt.none_int b t
  |str b=>obtain ⟨t,rfl⟩:=rx;exact SeqAt.EqAt.none_str b t
  |_=>exact absurd (show false=true from fx) AX
 |bl a=>
  cases ry
  cases x with
  |non=>cases rx;exact SeqAt.EqAt.bool_none a
  |bl b=>cases rx;exact SeqAt.EqAt.bool_bool a b
  |int b=>obtain ⟨t,rfl⟩:=rx;exact SeqAt.EqAt.bool_int a b t
  |str b=>obtain ⟨t,rfl⟩:=rx;exact SeqAt.EqAt.bool_str a b t
  |_=>exact absurd (show false=true from fx) AX
 |int a=>
  obtain ⟨t',rfl⟩:=ry
  cases x with
  |non=>cases rx;exact SeqAt.EqAt.int_none a t'
  |bl b=>cases rx;exact SeqAt.EqAt.int_bool a t' b
  |int b=>obtain ⟨t,rfl⟩:=rx;exact SeqAt.EqAt.int_int a t' b t
  |str b=>obtain ⟨t,rfl⟩:=rx;exact SeqAt.EqAt.int_str a t' b t
  |_=>exact absurd (show false=true from fx) AX
 |str a=>
  obtain ⟨t',rfl⟩:=ry
  cases x with
  |non=>cases rx;exact SeqAt.EqAt.str_none a t'
  |bl b=>cases rx;exact SeqAt.EqAt.str_bool a t' b
  |int b=>obtain ⟨t,rfl⟩:=rx;exact SeqAt.EqAt.str_int a t' b t
  |str b=>obtain ⟨t,rfl⟩:=rx;exact SeqAt.EqAt.str_str a t' b t
  |_=>exact absurd (show false=true from fx) AX
 |_=>exact absurd (show false=true from fy) AX
def eqU (x:V) (u:Value):Bool:=match u with
 | .none=>eqV .non x
 | .bool b=>eqV (.bl b) x
 | .int i _=>eqV (.int i) x
 | .str z _=>eqV (.str z) x
 |_=>false
theorem ui {x y:V}{u:Value} (r:aW y u) (f:gj y=true):eqU x u=eqV y x:=by
 cases y with
 |non=>cases r;rfl
 |bl b=>cases r;rfl
 |int i=>obtain ⟨t,rfl⟩:=r;rfl
 |str z=>obtain ⟨t,rfl⟩:=r;rfl
 |_=>exact absurd (show false=true from f) AX
theorem lF {x:V}:∀{xs:List V}{us:List Value},aR xs us→xs.all gj=true→us.any (eqU x)=xs.any fun y=>eqV y x
 |_,_,.nil,_=>rfl
 |y::xs,u::us,.cons r t,f=>by
  rw[EO,BV] at f
  rw[Jf,Jf,ui r f.1,lF t f.2]
theorem jp {A:A5}{s:As}{x:V}{v:Value} (rx:aW x v) (fx:gj x=true):∀{xs:List V}{us:List Value},aR xs us→xs.all gj=true→∀u∈us,SeqAt.EqAt A s u v (eqU x u)
 |_,_,.nil,_=>fun u hu=>by cases hu
 |y::xs,u::us,.cons r t,f=>fun u' hu=>by
  rw[EO,BV] at f
  rcases AB.mp hu with rfl |hu
  ·rw[ui r f.1];exact yj r rx f.1 fx
  ·exact jp rx fx t f.2 u' hu
def inV (x:V) (xs:List V):Bool:=xs.any fun y=>eqV y x
def rIn (K:Ap) (neg:Bool):R2:=fun x y H Q=>∃p xs,y=.ref p∧(SqL K H p xs∨SqT K H p xs)∧gj x=true∧xs.all gj=true∧Q (.bl (if neg then !inV x xs else inV x xs)) H
theorem qH:OpR X (B5 .In) (rIn X.K false):=by
 intro pins s σ H x y v u Q I rx ry h
 obtain ⟨p,xs,rfl,hq,fx,fs,q⟩:=h
 cases ry
 rcases hq with hq |hq
 ·obtain ⟨its,r,pl,hz⟩:=I.list hq
  refine SeqAt.in_listAt (eqU x) pl.isList (fun w hw=>jp rx fx r fs w (by simpa using hw)) ⟨.bl _,H,I,rfl,?_⟩
  rw[show its.toArray.any (eqU x)=its.any (eqU x) by simp,lF r fs]
  exact q
 ·obtain ⟨its,r,pl,hz⟩:=I.tuple hq
  refine SeqAt.in_tupleAt (eqU x) pl (fun w hw=>jp rx fx r fs w (by simpa using hw)) ⟨.bl _,H,I,rfl,?_⟩
  rw[show its.toArray.any (eqU x)=its.any (eqU x) by simp,lF r fs]
  exact q
theorem hJ:eY X (.builtin "len") (fun xs H Q=>∃p ys,xs=[.ref p]∧(SqL X.K H p ys∨SqT X.K H p ys)∧Q (.int ys.length) H):=by
 intro pins s σ H xs us Q I r h
 obtain ⟨p,ys,rfl,hq,q⟩:=h
 obtain ⟨u,rfl,rx⟩:=gu r
 cases rx
 have hn:=oC
 rcases hq with hq |hq
 ·obtain ⟨its,r',pl,hz⟩:=I.list hq
  have hlen:=r'.length
  exact Calls.call_len_list pl.isList (by simp only[AV] <;>omega) ⟨.int ys.length,H,I.tok _,⟨s.toks+1,by rw[AV,hlen]⟩,q⟩
 ·obtain ⟨its,r',pl,hz⟩:=I.tuple hq
  have hlen:=r'.length
  exact len_tuple pl (by simp only[AV] <;>omega) ⟨.int ys.length,H,I.tok _,⟨s.toks+1,by rw[AV,hlen]⟩,q⟩
theorem kN:eY X (.type "list") (fun xs H Q=>∃p ys,xs=[.ref p]∧(SqL X.K H p ys∨SqT X.K H p ys)∧∀l,H l=none→Q (.ref l) (upd H l (.lst ys))):=by
 intro pins s σ H xs us Q I r h
 obtain ⟨p,ys,rfl,hq,q⟩:=h
 obtain ⟨u,rfl,rx⟩:=gu r
 cases rx
 have fin:∀(its:List Value),aR ys its→ys.length≤sizeLine→∀(h':Heap) (c':Nat),(∀b o',s.heap.get? b=some o'→h'.get? b=some o')→
   h'.get? s.heap.objs.size=some {cls:=.type "list",dict:=none,data:=.seq its.toArray c',slots:=#[] }→EP X pins σ Q (.ref s.heap.objs.size) {s with heap:=h' }:=fun its r' hz h' c' kp e=>
  ⟨.ref s.heap.objs.size,_,I.laid (t':=s.toks) kp (Ay _) (show cH X.prog X.w _ h' _ (.lst ys) from ⟨hz,its,c',r',e⟩),rfl,q _ (I.hok.fresh (Ay _))⟩
 rcases hq with hq |hq
 ·obtain ⟨its,r',pl,hz⟩:=I.list hq
  have hlen:=r'.length
  obtain ⟨o,ho,hc,n,hd⟩:=pl.isList
  exact call_list_seq p (.inl rfl) ho hc hd (fun h' c' kp e=>fin its r' hz h' c' kp e) (by simp only[AV] <;>omega)
 ·obtain ⟨its,r',pl,hz⟩:=I.tuple hq
  have hlen:=r'.length
  obtain ⟨o,ho,hc,n,hd⟩:=pl
  exact call_list_seq p (.inr rfl) ho hc hd (fun h' c' kp e=>fin its r' hz h' c' kp e) (by simp only[AV] <;>omega)
def tyV (K:Ap) (T:String) (x:V) (H:Hp):Prop:=match x with
 | .str _=>T="str"
 | .int _=>T="int"
 | .ref p=>(T="list"∧∃xs,SqL K H p xs)∨(T="tuple"∧∃o,K.lookup p=some o∧o.cls=.type "tuple"∧o.dict=none)∨
   (T="dict"∧((∃kvs,H p=some (.dK kvs))∨∃kvs,H p=some (.dT kvs)))∨(T="set"∧∃S n,H p=some (.set S n))
 |_=>False
theorem tq {pins:List (Addr×Obj)}{σ:St}{H:Hp}{s:As}{T:String}{x:V}{v:Value} (I:Inv X pins σ H s) (r:aW x v) (ty:tyV X.K T x H):
  s.TypeIs v T∧∀a,v=.ref a→∃ob,s.heap.get? a=some ob∧ob.dict=none:=by
 cases x with
 |str z=>
  obtain ⟨t,rfl⟩:=r
  cases (show T="str" from ty)
  exact ⟨typeIs_str s z t,fun _ e=>nomatch e⟩
 |int i=>
  obtain ⟨t,rfl⟩:=r
  cases (show T="int" from ty)
  exact ⟨Jb s i t,fun _ e=>nomatch e⟩
 |ref p=>
  cases r
  rcases ty with ⟨rfl,xs,hq⟩ |⟨rfl,o,hk,hc,hd⟩ |⟨rfl,hk⟩ |⟨rfl,S,n,hk⟩
  ·obtain ⟨its,_,pl,_⟩:=I.list hq
   refine ⟨pl.isList.typeIs,fun a e=>?_⟩
   cases e
   obtain ⟨o,n,e,c,hd,_⟩:=pl
   exact ⟨o,e,hd⟩
  ·refine ⟨⟨o,I.kIn p o hk,hc⟩,fun a e=>?_⟩
   cases e
   exact ⟨o,I.kIn _ o hk,hd⟩
  ·have z:∃o,s.heap.get? p=some o∧o.ExactDict:=by
    rcases hk with ⟨kvs,hk⟩ |⟨kvs,hk⟩
    ·obtain ⟨_,_,_,_,o,_,_,e,ex,_⟩:=I.hok p _ hk
     exact ⟨o,e,ex⟩
    ·obtain ⟨_,_,_,_,o,_,_,e,ex,_⟩:=I.hok p _ hk
     exact ⟨o,e,ex⟩
   obtain ⟨o,e,ex⟩:=z
   refine ⟨⟨o,e,ex.1⟩,fun a e2=>?_⟩
   cases e2
   exact ⟨o,e,ex.2.1⟩
  ·obtain ⟨o,_,_,_,e,ex,_⟩:=I.hok p _ hk
   refine ⟨⟨o,e,ex.1⟩,fun a e2=>?_⟩
   cases e2
   exact ⟨o,e,ex.2.1⟩
 |_=>exact False.elim ty
def Aa (K:Ap) (T:String) (r:V→List V→Hp→VK→Prop) (to:TE):TE:=fun σ H Q=>to σ H fun x H1=>tyV K T x H1∧r x [] H1 Q
def tBM (K:Ap) (T:String) (r:V→List V→Hp→VK→Prop) (to:TE) (t:TA):TE:=fun σ H Q=>to σ H fun x H1=>tyV K T x H1∧t σ H1 fun xs H2=>r x xs H2 Q
variable {o e:Expr}{es:List Expr}{to:TE}{t:TA}{name:Str}{apos cpos:Pos}{T id:String}{r:V→List V→Hp→VK→Prop}
theorem wT (pa:PlainAttrs T) (slot:Slot T name id) (hty:typeOf (.builtin id)=pure (.type "method_descriptor")) (hm:MtR X id r) (ho:PE X o to)
  (hbase:Fz o name X.env (eval o X.env)=eval o X.env:=by rfl) (hline:(apos.endLine==cpos.line)=true:=by rfl):PE X (.Call (.Attribute o name apos) [] [] cpos) (Aa X.K T r to):=by
 intro pins s σ H Q I h
 refine wpAny_Call_method0_late hbase hline (thn (ho pins s σ H _ I h) fun v s1 ⟨x,H1,I1,r1,ty,q1⟩=>?_)
 obtain ⟨h1,h2⟩:=tq I1 r1 ty
 exact ⟨T,id,pa,slot,hty,h1,h2,FQ rfl (PySem.evalArgs_none (hm pins s1 σ H1 x [] v [] Q I1 r1 .nil q1))⟩
theorem yJ (pa:PlainAttrs T) (slot:Slot T name id) (hty:typeOf (.builtin id)=pure (.type "method_descriptor")) (hm:MtR X id r) (ho:PE X o to) (ha:PA X (e::es) t)
  (hbase:Fz o name X.env (eval o X.env)=eval o X.env:=by rfl)
  (hfew:((Ec cpos (AL (e::es) X.env)).all (fun x=>!x.1) && (backToKw cpos (keywordEach [] X.env)).all (fun x=>x.1.isSome)
   && decide ((e::es).length+([]:List HM).length+(if ([]:List HM).isEmpty then 0 else 1) < 30))=true:=by rfl)
  (hline:(apos.endLine==cpos.line)=true:=by rfl) (hs:AL (e::es) X.env=(false,eval e X.env)::AL es X.env:=by rfl) (hplain:(Ec cpos (AL es X.env)).any (·.1)=false:=by rfl):
  PE X (.Call (.Attribute o name apos) (e::es) [] cpos) (tBM X.K T r to t):=by
 intro pins s σ H Q I h
 refine wpAny_Call_method_late hbase hfew hline rfl (thn (ho pins s σ H _ I h) fun v s1 ⟨x,H1,I1,r1,ty,q1⟩=>?_)
 obtain ⟨h1,h2⟩:=tq I1 r1 ty
 refine ⟨T,id,pa,slot,hty,h1,h2,?_⟩
 have hA:=ha cpos pins s1 σ H1 _ I1 q1
 rw[hs] at hA ⊢
 refine FQ (by show (false || (Ec cpos (AL es X.env)).any (·.1))=false;rw[hplain] <;>rfl) (Calls.evalArgs_plain ?_)
 exact thn hA fun us s2 ⟨vs,H2,I2,r2,q2⟩=>hm pins s2 σ H2 x vs v us Q I2 r1 r2 q2
/- xs.append(e),list.index on a module's tuple .. are MtR facts of 06m -/
end
def MtM (X:Cx) (id:String) (r:V→List V→Hp→VK→Prop):Prop:=
 ∀(pins:List (Addr×Obj)) (s:As) (σ:St) (H:Hp) (x:V) (xs:List V) (v:Value) (us:List Value) (Q:VK),Inv X pins σ H s→aW x v→aR xs us→r x xs H Q→
  wpAny (model X.prog X.w) X.A (call (.builtin id) (v::us)) (EP X pins σ Q) X.xe s
theorem aR.one:∀{x:V}{us:List Value},aR [x] us→∃u,us=[u]∧aW x u
 |_,_,.cons r .nil=>⟨_,rfl,r⟩
theorem aR.zero:∀{us:List Value},aR [] us→us=[]
 |_,.nil=>rfl
theorem aR.dropLast {xs:List V}{us:List Value} (h:aR xs us):aR xs.dropLast us.dropLast:=by
 induction h with
 |nil=>exact .nil
 |cons r t ih=>
  cases t with
  |nil=>exact .nil
  |cons q t'=>exact .cons r ih
theorem oF {α:Type} (l:List α):l.eraseIdx (l.length - 1)=l.dropLast:=by
 induction l with
 |nil=>rfl
 |cons a r ih=>
  cases r with
  |nil=>rfl
  |cons b r=>
   have e:(a::b::r).length - 1=((b::r).length - 1)+1:=by
    have h1:(a::b::r).length=r.length+2:=rfl
    have h2:(b::r).length=r.length+1:=rfl
    omega
   rw[e,List.eraseIdx_cons_succ,ih]
   all_goals rfl
section
variable {X:Cx}{pins:List (Addr×Obj)}{σ:St}{H:Hp}{s:As}{l b:Addr}{xs ys zs:List V}
theorem Inv.lset {its its':List Value}{n:Nat}{f:Array Value→Array Value}{t':Nat} (I:Inv X pins σ H s) (hH:H l=some (.lst xs))
  (e:s.heap.get? l=some {cls:=.type "list",data:=.seq its.toArray n }) (hf:f its.toArray=its'.toArray) (hv:aR ys its') (hz:ys.length≤sizeLine):
  Inv X pins σ (upd H l (.lst ys)) {s with heap:=s.heap.update l (BQ f),toks:=t' }:=by
 have q:=PySem.IsL.update e f
 rw[hf] at q
 refine I.write (x:=l) (e:=l) (by rw[hH];exact trivial) (.inl rfl) (fun b' u hb hu=>(Bc s.heap (BQ f) (Ne.symm hb)).trans hu) ⟨_,q⟩ ?_
 exact ⟨hz,its',_,hv,q⟩
theorem Inv.lnew {its:List Value}{t':Nat} (I:Inv X pins σ H s) (hv:aR ys its) (hz:ys.length≤sizeLine):
  Inv X pins σ (upd H s.heap.objs.size (.lst ys)) {s with heap:=s.heap.push {cls:=.type "list",data:=.seq its.toArray },toks:=t' }:=
 I.laid (fun _ _ q=>Aq _ q) (Ay _) ⟨hz,its,0,hv,AE _ rfl⟩
theorem Inv.fresh (I:Inv X pins σ H s):H s.heap.objs.size=none:=I.hok.fresh (Ay _)
theorem Inv.lstM (I:Inv X pins σ H s) (hH:H l=some (.lst xs)):xs.length≤sizeLine∧∃(its:List Value) (n:Nat),aR xs its∧xs.length=its.length∧s.heap.get? l=some {cls:=.type "list",data:=.seq its.toArray n }:=by
 obtain ⟨z,its,n,r,e⟩:=I.hok l _ hH
 exact ⟨z,its,n,r,r.length,e⟩
theorem yE {n:Nat} (h:n≤sizeLine):Builtin.List.listTooLong n=false:=by
 unfold Builtin.List.listTooLong
 exact decide_eq_false (by omega)
end
section
variable {X:Cx}
def vW:V→List V→Hp→VK→Prop:=fun x vs H Q=>∃l xs y,x=.ref l∧vs=[y]∧H l=some (.lst xs)∧xs.length < sizeLine∧Q .non (upd H l (.lst (xs++[y])))
theorem hX:MtM X "list.append" vW:=by
 intro pins s σ H x vs v us Q I rx rv h
 obtain ⟨l,xs,y,rfl,rfl,hH,hz,q⟩:=h
 cases rx
 obtain ⟨u,rfl,ru⟩:=rv.one
 obtain ⟨z,its,n,r,hl,e⟩:=I.lstM hH
 refine call_meets F.slot_list_append ⟨_,e,rfl⟩ F.entry_list_append (F.args_list_append_2 _ _) (PySem.list_append l its.toArray n u (by rw[AV];omega)) ⟨e,?_⟩
 refine ⟨.non,_,I.lset (its':=its++[u]) hH e (by simp) (r.append (.cons ru .nil)) ?_,rfl,q⟩
 rw[Bd,F_]
 omega
def Ai:V→List V→Hp→VK→Prop:=fun x vs H Q=>∃l xs y,x=.ref l∧vs=[]∧H l=some (.lst xs)∧xs[xs.length - 1]?=some y∧Q y (upd H l (.lst xs.dropLast))
theorem xT:MtM X "list.pop" Ai:=by
 intro pins s σ H x vs v us Q I rx rv h
 obtain ⟨l,xs,y,rfl,rfl,hH,hy,q⟩:=h
 cases rx
 have hus:=rv.zero
 subst hus
 obtain ⟨z,its,n,r,hl,e⟩:=I.lstM hH
 obtain ⟨u,hu,ru⟩:=r.get hy
 have hy':its.toArray[its.toArray.size - 1]?=some u:=by
  show its.toArray[its.length - 1]?=some u
  rw[←Bj,←hl]
  exact hu
 refine call_meets F.slot_list_pop ⟨_,e,rfl⟩ F.entry_list_pop (F.args_list_pop_1 _) (MeetsSeq.list_pop_last l its.toArray n u hy' (by rw[AV];omega)) ⟨e,?_⟩
 refine ⟨y,_,I.lset (its':=its.dropLast) hH e ?_ r.dropLast ?_,ru,q⟩
 ·show its.toArray.eraseIdxIfInBounds (its.toArray.size - 1)=its.dropLast.toArray
  rw[AV,List.eraseIdxIfInBounds_toArray,oF]
 ·rw[CH]
  omega
def zN:R2:=fun x y H Q=>∃l b xs zs,x=.ref l∧y=.ref b∧H l=some (.lst xs)∧H b=some (.lst zs)∧xs.length+zs.length≤sizeLine∧∀p,H p=none→Q (.ref p) (upd H p (.lst (xs++zs)))
theorem xi:OpR X (Er .Add) zN:=by
 intro pins s σ H x y v u Q I rx ry h
 obtain ⟨l,b,xs,zs,rfl,rfl,hH,hB,hz,q⟩:=h
 cases rx
 cases ry
 obtain ⟨z,its,n,r,hl,e⟩:=I.lstM hH
 obtain ⟨z2,its2,n2,r2,hl2,e2⟩:=I.lstM hB
 refine PySem.P.add_list e e2 ?_ (by rw[AV,AV];omega)
 have ea:its.toArray++its2.toArray=(its++its2).toArray:=by simp
 rw[ea]
 exact ⟨.ref _,_,I.lnew (t':=s.toks) (r.append r2) (by rw[Bd];omega),rfl,q _ I.fresh⟩
end
section
variable {prog:AD}{w:World}{A:A5}{E:Value→As→Prop}{s:As}
end
section
variable {X:Cx}
end
end L2
namespace Att
open PySem PySem.W PySem.Calls PyProof.Rows
theorem iJ {P:Params}{h:Heap}:∀(ns:List Int) (vs:List Value),WellAll P h vs (ns.map WData.int)→Jg vs ns:=by
 intro ns
 induction ns with
 |nil=>
  intro vs w
  rw[List.map_nil] at w
  cases w
  exact .nil
 |cons n ns ih=>
  intro vs w
  rw[Bz] at w
  cases w with
  |cons a b=>
   cases a
   exact .cons _ _ (ih _ b)
theorem script_of {l:OpenLaw}{n:Nat} (hn:l.most=some n) {P:Params}{h:Heap}{args:List WData}{vals:List Value}
  (hpre:l.row.toRowW.claim.pre args=true) (hwl:WellAll P h vals args):
  ∃a vs ns,vals=[Bk a]∧args=[WData.list (ns.map WData.int)]∧h.get? a=some {cls:=.type "list",data:=.seq vs.toArray }∧Jg vs ns∧ns.length≤n:=by
 have hsh:WShape.hasAll [] args [.list .int]=true:=(pre_splitW hpre).1
 have hc:l.pre.holds [] {args:=args }=true:=(pre_splitW hpre).2
 obtain ⟨d,r,rfl,h1,h2⟩:=hasAllW_cons hsh
 obtain rfl:=hasAllW_nil h2
 obtain ⟨xs,rfl,h3⟩:=hasW_list h1
 obtain ⟨ns,rfl⟩:=items_int h3
 have hlen:ns.length≤n:=by
  unfold OpenLaw.pre at hc
  have h4:(WTm.not (.lt (.lit (.int (n:Int))) (.len (.arg 0)))).holds [] {args:=[.list (ns.map .int)] }=true:=by
   have h4:=(holds_andW hc).1
   rw[hn] at h4
   exact h4
  have h5:=condW_of h4 (w_not (w_lt w_lit (w_len_list (w_arg rfl))))
  rw[Ar] at h5
  refine DP fun q=>?_
  have q':(n:Int) < ((ns.length:Nat):Int):=by omega
  first
   | (rw[decide_eq_true q'] at h5;exact absurd h5 (by decide))
   | (simp at h5;omega)
 cases hwl with
 |cons w1 w2=>
  cases w2
  cases w1 with
  |list ho hall=>exact ⟨_,_,ns,rfl,rfl,ho,iJ ns _ hall,hlen⟩
theorem post_true (l:OpenLaw) (args:List WData):l.row.toRowW.claim.post args (.bool true) args=true:=
 postW_of (r:=l.row.toRowW) (X:=(true==true))
  (show WShape.has [] (.bool true) .bool=true by first |rfl |decide |simp[WShape.has,WShape.arms,WShape.armsAll])
  (show (WTm.eq .res (.lit (.bool true))).value [] {args:=args,res:=some (.bool true),after:=args }=some (.bool (true==true)) from w_eq_bool (w_res rfl) w_lit) rfl
section
variable {prog:AD}{w:World}{A:A5}{E:Value→As→Prop}{s:As}{K:Frag}
end
end Att
namespace L2
open PySem PySem.Spec PyProof.Rows
theorem ku:∀{vs:List Value}{ns:List Int},Jg vs ns→aR (ns.map V.int) vs
 |_,_,.nil=>.nil
 |_,_,.cons n t h=>.cons ⟨t,rfl⟩ (ku h)
end L2
/- THE LAST THEOREM (shape;LID,My.*are yours):
   My.Adr:a structure of the addresses that your layer names (classes,functions);My.Txt K t:a structure (Prop) of the equations over K;
   My.txt_mk:{K}{implicit addresses ..} (e1:nsIn K AK "law"=some (some (.ref f))) (e2:K.lookup f=some ⟨oc,od,.func (fnOf "law" "law" params body scope dV kV doc pm an cdv ct),sl⟩) (e3:codeIn K cdv "law"=true) ..:∃t,My.Txt K t
set_option maxRecDepth 100000 in
theorem PySem.Challenge.cw_LID_holds : PySem.Challenge.rw_LID.Holds := by
 w_on;o_law;k_head;(case hw=>w_witness2)
 k_fill
 refine L2.walk_of (l:=PySem.Challenge.rw_LID) (n:=63) (k:=40) (x:="script") (CX:=fun w=>..) (sp:=fun _=>My.sp_law) rfl (by decide) rfl ⟨rfl,by decide,by decide⟩ (fun w h Y=>PySem.W.kIn_of Y) ?F ?S ?C
 case F=>
  intro w mg fa h KX G hmg
  have T:∃t,My.Txt (L2.KOf KX) t:=by
   dsimp only[L2.KOf]                          -- K must stand as «<heap const> w.params» for k_is
   refine' My.txt_mk ?e1 ?e2 ?e3 ..
   (case e1=>PySem.W.k_is)                    -- in the order:a name ->its address ->its object ->its parts
   (case e2=>PySem.W.k_is)
   ..
  obtain ⟨t,T⟩:=T
  have e0:=hmg.symm.trans (AU KX G T.law)
  cases e0                                       -- fa is the law's own address
  exact ⟨_,fun s u=>.of_eq rfl,fun base kb nb=>My.law_fn T kb nb⟩     -- if «.of_eq rfl» comes too early:refine' ⟨_,?b,fun base kb nb=>My.law_fn T kb nb⟩;exact fun s u=>.of_eq rfl
 case S=>exact fun w H a ns hl hO hS=>..
 case C=>exact ..
(the tactic k_is has no namespace:write k_is) -/
namespace L2
open PySem PySem.Spec PyProof.Rows
def aD (s:Stmt):GW:=match s with
 | .FunctionDef _ a _ _ _ _ _ _ _ _=>a
 |_=>{posonlyargs:=[],args:=[],vararg:=none,kwonlyargs:=[],kw_defaults:=[],kwarg:=none,defaults:=[] }
def ay (s:Stmt):List Stmt:=match s with
 | .FunctionDef _ _ b _ _ _ _ _ _ _=>b
 |_=>[]
def ag (s:Stmt):Scope:=match s with
 | .FunctionDef _ _ _ _ _ _ sc _ _ _=>sc
 |_=>{kind:=.function,names:=[],isGenerator:=false,isCoroutine:=false }
abbrev CX0:CXT:=fun _ _ _ _ _ _=>False
abbrev E0:XK:=fun _ _ _=>False
structure Fun (K:Ap) (x qual:Str) (st:Stmt) (f:Addr) (fd:A9):Prop where
 ex:∃(oc:Value) (od:Option Addr) (kV doc pm:Value) (an:Option Addr) (cdv ct:Value) (osl:Array (Option Value)),
  fd=AW x qual (aD st) (ay st) (ag st) .none kV doc pm an cdv ct∧K.lookup f=some ⟨oc,od,.func fd,osl⟩∧AJ K cdv qual=true
 kp:AI K (.ref f)=true
section
variable {P:AD}{w:World}{K:Ap}{mg:Str→Option Value}{base:Heap}
theorem Fun.binds {x qual:Str}{st:Stmt}{f:Addr}{fd:A9}{ps:List Str} (F:Fun K x qual st f fd)
  (h:∀(kV doc pm:Value) (an:Option Addr) (cdv ct:Value) (us:List Value),us.length=ps.length→Bv (AW x qual (aD st) (ay st) (ag st) .none kV doc pm an cdv ct) ⟨us,[]⟩=pure (ps.zip us)):bi K fd ps []:=by
 obtain ⟨oc,od,kV,doc,pm,an,cdv,ct,osl,rfl,lk,hcd⟩:=F.ex
 exact .all (h kV doc pm an cdv ct)
theorem aY {x qual:Str}{st:Stmt}{f:Addr}{oc:Value}{od an:Option Addr}{osl:Array (Option Value)}{kV doc pm cdv ct:Value} (l:K.lookup f=some ⟨oc,od,.func (AW x qual (aD st) (ay st) (ag st) .none kV doc pm an cdv ct),osl⟩)
  (c:AJ K cdv qual=true) (k:AI K (.ref f)=true):Fun K x qual st f (AW x qual (aD st) (ay st) (ag st) .none kV doc pm an cdv ct):=⟨⟨oc,od,kV,doc,pm,an,cdv,ct,osl,rfl,l,c⟩,k⟩
end
theorem aS {n:Nat} (h:n≤1000):n < sizeLine:=E8 h (by decide)
section
variable {X:Cx}
end
theorem p0 {A B:Prop} (h:B):if false=true then A else B:=by
 rw[if_neg AX]
 exact h
theorem qO {A B:Prop} (h:A):if true=true then A else B:=by
 rw[if_pos rfl]
 exact h
def aI (H H':Hp):Prop:=∀b o,H b=some o→H' b=some o
theorem aI.refl (H:Hp):aI H H:=fun _ _ h=>h
theorem aI.trans {H H1 H2:Hp} (a:aI H H1) (b:aI H1 H2):aI H H2:=fun c o h=>b c o (a c o h)
theorem aI.free {H H':Hp} (e:aI H H') {l:Addr} (h:H' l=JC):H l=JC:=by
 cases q:H l with
 |none=>rfl
 |some o=>
  rw[e l o q] at h
  cases h
theorem aI.seq {K:Ap}{H H':Hp}{a:Addr}{xs:List V} (e:aI H H') (h:SqL K H a xs):SqL K H' a xs:=by
 rcases h with (h |⟨o,h⟩) |h
 ·exact .inl (.inl (e _ _ h))
 ·exact .inl (.inr ⟨o,e _ _ h⟩)
 ·exact .inr h
def bU (tb:Addr) (K:Ap):Ap:=K.filter fun p=>!(p.1==tb)
theorem dL (tb:Addr):∀(K:Ap) (b:Addr),(bU tb K).lookup b=if b=tb then none else K.lookup b
 |[],b=>by unfold bU;simp
 | (c,o)::K,b=>by
  have ih:=dL tb K b
  unfold bU at *
  by_cases hc:c=tb
  ·rw[EH,if_neg (by simp[hc]),ih]
   by_cases hb:b=tb
   ·rw[if_pos hb,if_pos hb]
   ·rw[if_neg hb,if_neg hb,BW,beq_eq_false_iff_ne.mpr (fun z=>hb (z.trans hc))]
  ·rw[EH,if_pos (by simp[hc]),BW,BW,ih]
   by_cases hb:b=c
   ·subst hb
    simp[hc]
   ·rw[beq_eq_false_iff_ne.mpr hb]
theorem n9 (tb:Addr) (K:Ap):(bU tb K).lookup tb=none:=by rw[dL,if_pos rfl]
theorem sT {tb b:Addr}{K:Ap}{o:Obj} (h:(bU tb K).lookup b=some o):K.lookup b=some o:=by
 rw[dL] at h
 split at h
 ·cases h
 ·exact h
theorem gH {tb b:Addr}{K:Ap}{o:Obj} (n:b≠tb) (h:K.lookup b=some o):(bU tb K).lookup b=some o:=by rw[dL,if_neg n];exact h
abbrev jN:Obj:={cls:=.none,data:=.fields #[] }
structure mU (K:Ap) (mg:Str→Option Value) (f c tb:Addr):Prop where
 m:mg "to_form"=some (.ref f)
 lf:∃o fd,K.lookup f=some o∧o.data=.func fd∧fd.code=.ref c
 hd:BK K c tb=true
 t0:K.lookup tb=some jN
theorem iq {K:Ap}{c tb:Addr} (h:BK K c tb=true):∃o vs,K.lookup c=some o∧o.cls=.type "code"∧o.data=.fields vs∧vs[11]?=some (.ref tb):=by
 unfold BK at h
 split at h
 ·rename_i vs _ hk
  simp only[BV] at h
  obtain ⟨⟨⟨⟨⟨e1,_⟩,_⟩,_⟩,_⟩,_⟩:=h
  split at e1
  ·rename_i P' h11
   exact ⟨_,vs,hk,rfl,rfl,by rw[h11,beq_iff_eq.mp e1]⟩
  ·cases e1
 ·cases h
theorem mU.amb {K:Ap}{mg:Str→Option Value}{f c tb:Addr} (T:mU K mg f c tb) {h base:Heap}{H:Hp} (X:K.In h) (hb:∀b o,base.get? b=some o→h.get? b=some o) (hH:∃ps,H tb=some (.tbl ps)):Amb mg base H:=by
 intro f' o fd c' oc vs P h1 h2 h3 h4 h5 h6 h7
 obtain ⟨o1,fd1,l1,l2,l3⟩:=T.lf
 obtain ⟨o2,vs2,m1,_,m3,m4⟩:=iq T.hd
 rw[T.m] at h1
 cases h1
 have e1:=hb _ _ h2
 rw[X _ _ l1] at e1
 cases e1
 rw[l2] at h3
 cases h3
 rw[l3] at h4
 cases h4
 have e2:=hb _ _ h5
 rw[X _ _ m1] at e2
 cases e2
 rw[m3] at h6
 cases h6
 rw[Br,m4] at h7
 cases h7
 exact hH
theorem q0 {P:AD}{w:World}{K:Ap}{mg mb:Str→Option Value}{CX:CXT}{k:Nat}{fa a f c tb:Addr}{fd:A9}{x:Str}{sp:Sp}{s1:As}{vs:List Value}{ns:List Int}
  (KX:K.In s1.heap) (TB:mU K mg f c tb) (hns:s1.heap.Ns AK mg) (hb:s1.heap.Ns EU mb) (hbb:∀x:Str,x≠"__name__"→mb x=Cp x) (hlim:s1.heap.NoLimit) (hg:s1.gens=#[])
  (ha:s1.heap.get? a=some {cls:=.type "list",data:=.seq vs.toArray }) (hi:Jg vs ns) (hl:ns.length≤sizeLine) (hr:dC k Hg)
  (F:∀base:Heap,(bU tb K).In base→base.Ns AK mg→bF P w (bU tb K) mg base CX k fa fd [x] sp) (hbind:∀(s:As) (u:Value),GN s fd ⟨[u],[]⟩ [(x,u)])
  (hsp:∀H:Hp,SqL (bU tb K) H a (ns.map V.int)→sp [.ref a] H (fun v _=>v=.bl true) fun _ _ _=>False)
  (hCX:∀H e s',CX [] H s1 (fun _ _ _=>False) e s'→False):
  EY (model P w) Hg (.call (.ref fa) ⟨[.ref a],[]⟩) (fun r s'=>r=.ok (.ret (.bool true))∧OldK s1.heap s'.heap∧s'.os=s1.os∧Fy s'.gens) s1:=by
 have rv:=ku hi
 have lenV:=hi.length
 have hT:s1.heap.get? tb=some jN:=KX _ _ TB.t0
 have nat:a≠tb:=fun z=>by
  rw[z,hT] at ha
  cases ha
 have isT:isCodeTable s1.heap tb:=by
  obtain ⟨o2,vs2,m1,m2,m3,m4⟩:=iq TB.hd
  exact ⟨c,o2,vs2,KX _ _ m1,m2,m3,m4⟩
 have core:∀H:Hp,SqL (bU tb K) H a (ns.map V.int)→HOk P w H s1.heap→(∀b,H b≠none→b=a∨b=tb)→(H a≠none→K.lookup a=none)→(∀u,H a=some u→∃xs,u=.frz {cls:=.type "list",data:=.seq vs.toArray } (.lst xs))→H tb=some (.tbl #[])→
   EY (model P w) Hg (.call (.ref fa) ⟨[.ref a],[]⟩) (fun r s'=>r=.ok (.ret (.bool true))∧OldK s1.heap s'.heap∧s'.os=s1.os∧Fy s'.gens) s1:=by
  intro H hS hok hA hK hF hB
  have base_of:∀{b:Addr}{o:Obj},s1.heap.get? b=some o→H b=none→(jK s1.heap H).get? b=some o:=fun e n=>tp e n
  have noA:∀{b:Addr}{o:Obj}{es:Array DictEntry}{ep:Nat},s1.heap.get? b=some o→o.data=.dict es ep→H b=none:=fun {b o es ep} e d=>by
   cases q:H b with
   |none=>rfl
   |some u=>
    rcases hA b (by rw[q];simp) with z |z
    ·rw[z,ha] at e;cases e;cases d
    ·rw[z,hT] at e;cases e;cases d
  have nsK:∀{b:Addr}{m:Str→Option Value},s1.heap.Ns b m→(jK s1.heap H).Ns b m:=fun {b m} ⟨o,es,ep,e,d,r⟩=>⟨o,es,ep,base_of e (noA e d),d,r⟩
  have hKb:(bU tb K).In (jK s1.heap H):=fun b o e=>base_of (KX b o (sT e)) (by
   cases q:H b with
   |none=>rfl
   |some u=>
    rcases hA b (by rw[q];simp) with z |z
    ·rw[z,dL,if_neg nat,hK (by rw[←z,q];simp)] at e;cases e
    ·rw[z,n9] at e;cases e)
  have hM:Mod (bU tb K) mg (jK s1.heap H):=⟨hKb,nsK hns,⟨mb,nsK hb,hbb⟩,let ⟨mc,h1,h2⟩:=hlim;⟨mc,nsK h1,h2⟩⟩
  have am:Amb mg (jK s1.heap H) H:=TB.amb KX (fun b o e=>(pQ e).1) ⟨_,hB⟩
  have e0:nL P w (bU tb K) mg (jK s1.heap H) Hg [] s1 H:=⟨rfl,hM,fun b o e=>pQ e,Nat.le_of_eq (qL _ _),trivial,⟨fun b hb=>absurd (show b∈([]:List Addr) from hb) (by simp),am⟩,hok,.of_eq hg⟩
  refine Ey ((F _ hKb (nsK hns)).run Hg [] s1 H ⟨[.ref a],[]⟩ [.ref a] [.ref a] _ _ hr e0 (hbind s1 (.ref a)) (.cons rfl .nil) (hsp H hS)) fun r s' h=>?_
  cases r with
  |error e=>exact (hCX H e s' h).elim
  |ok fl=>
   cases fl with
   |next=>exact False.elim h
   |brk=>exact False.elim h
   |cont=>exact False.elim h
   |ret u=>
    obtain ⟨v,H',os,bare,un,hok',r',q⟩:=h
    have q':v=.bl true:=q
    subst q'
    obtain rfl:u=Bg true:=r'
    refine ⟨rfl,⟨fun b o e=>?_,fun b o e=>un.there b o e (by simp)⟩,os,bare⟩
    cases q:H b with
    |none=>exact .inl (un.keep b o e q (by intro z;exact absurd (show b∈([]:List Addr) from z) (by simp)) (by simp))
    |some u=>
     rcases hA b (by rw[q];simp) with z |z
     ·subst z
      obtain ⟨xs,rfl⟩:=hF u q
      have z2:=un.frzs b _ _ q
      obtain ⟨e1,_⟩:=hok b _ q
      obtain ⟨e2,_⟩:=hok' b _ z2
      rw[e] at e1;cases e1
      exact .inl e2
     ·subst z
      obtain ⟨m,z2⟩:=un.tbls b _ hB
      obtain ⟨ts,e2,_⟩:=(show uF H' s'.heap b from hok' b _ z2)
      rw[hT] at e;cases e
      exact .inr (.inl ⟨isT,rfl,#[],(fh ts).toArray,rfl,by rw[e2];simp⟩)
 have tbOk:∀H:Hp,uF H s1.heap tb:=fun H=>⟨[],hT,fun t ht=>by cases ht⟩
 cases hk:K.lookup a with
 |some o=>
  have e:=KX a o hk
  rw[ha] at e
  cases e
  refine core (fun b=>if b=tb then some (.tbl #[]) else none) (.inr ⟨_,vs.toArray,_,gH nat hk,rfl,rfl,rfl,by rw[AV,lenV];exact hl,by simpa using rv⟩) (fun b u z=>?_) (fun b z=>?_) (fun z=>absurd (if_neg nat) z) (fun u z=>?_) (if_pos rfl)
  ·by_cases hb:b=tb
   ·have z':=(if_pos hb).symm.trans z
    cases z'
    rw[hb];exact tbOk _
   ·have z':=(if_neg hb).symm.trans z
    cases z'
  ·by_cases hb:b=tb
   ·exact .inr hb
   ·exact absurd (if_neg hb) z
  ·have z':=(if_neg nat).symm.trans z
   cases z'
 |none=>
  have at_:∀{b:Addr},b=a→(fun b=>if b=a then some (HO.frz {cls:=.type "list",data:=.seq vs.toArray } (.lst (ns.map V.int))) else if b=tb then some (.tbl #[]) else none:Hp) b=some (HO.frz {cls:=.type "list",data:=.seq vs.toArray } (.lst (ns.map V.int))):=fun e=>if_pos e
  have at2:∀{b:Addr},b=tb→(fun b=>if b=a then some (HO.frz {cls:=.type "list",data:=.seq vs.toArray } (.lst (ns.map V.int))) else if b=tb then some (.tbl #[]) else none:Hp) b=some (.tbl #[]):=fun e=>by
   dsimp only
   rw[if_neg (fun z=>nat (z.symm.trans e)),if_pos e]
  have at3:∀{b:Addr},b≠a→b≠tb→(fun b=>if b=a then some (HO.frz {cls:=.type "list",data:=.seq vs.toArray } (.lst (ns.map V.int))) else if b=tb then some (.tbl #[]) else none:Hp) b=none:=fun n1 n2=>by
   dsimp only
   rw[if_neg n1,if_neg n2]
  generalize (fun b=>if b=a then some (HO.frz {cls:=.type "list",data:=.seq vs.toArray } (.lst (ns.map V.int))) else if b=tb then some (.tbl #[]) else none:Hp)=H at *
  refine core H (.inl (.inr ⟨{cls:=.type "list",data:=.seq vs.toArray },at_ rfl⟩)) (fun b u z=>?_) (fun b z=>?_) (fun _=>hk) (fun u z=>?_) (at2 rfl)
  ·by_cases hb:b=a
   ·rw[at_ hb] at z
    cases z
    subst hb
    exact ⟨ha,by rw[Ar];exact hl,vs,_,rv,ha⟩
   ·by_cases hc:b=tb
    ·rw[at2 hc] at z
     cases z
     rw[hc];exact tbOk _
    ·rw[at3 hb hc] at z;cases z
  ·by_cases hb:b=a
   ·exact .inl hb
   ·by_cases hc:b=tb
    ·exact .inr hc
    ·exact absurd (at3 hb hc) z
  ·rw[at_ rfl] at z
   cases z
   exact ⟨_,rfl⟩
def Sz (m:Nat) (x:Int):Prop:=x.natAbs < 2 ^ m
theorem Sz.mono {m n:Nat}{x:Int} (h:Sz m x) (hmn:m≤n):Sz n x:=A3 h (DG (by decide) hmn)
theorem Sz.neg {m:Nat}{x:Int} (h:Sz m x):Sz m (-x):=by unfold Sz at *;rw[Int.natAbs_neg];exact h
theorem Sz.add {m:Nat}{x y:Int} (hx:Sz m x) (hy:Sz m y):Sz (m+1) (x+y):=by
 unfold Sz at *
 have:=Int.natAbs_add_le x y
 rw[CL];omega
theorem Sz.sub {m:Nat}{x y:Int} (hx:Sz m x) (hy:Sz m y):Sz (m+1) (x - y):=by
 rw[Int.sub_eq_add_neg];exact hx.add hy.neg
theorem Sz.mul {m n:Nat}{x y:Int} (hx:Sz m x) (hy:Sz n y):Sz (m+n) (x*y):=by
 unfold Sz at *
 rw[Et,Nat.pow_add]
 exact Nat.mul_lt_mul'' hx hy
theorem Sz.le {m:Nat}{x y:Int} (h:x.natAbs≤y.natAbs) (hy:Sz m y):Sz m x:=E8 h hy
theorem Sz.ediv {m:Nat}{x y:Int} (hx:Sz m x):Sz m (x / y):=Sz.le (Int.natAbs_ediv_le_natAbs x y) hx
theorem Sz.abs {m:Nat}{x:Int} (hx:Sz m x):Sz m (if x < 0 then -x else x):=by split;exact hx.neg;exact hx
instance (m:Nat) (x:Int):Decidable (Sz m x):=inferInstanceAs (Decidable (x.natAbs < 2 ^ m))
theorem Sz.add' {m n:Nat}{x y:Int} (hx:Sz m x) (hy:Sz n y):Sz (max m n+1) (x+y):=(hx.mono (HP m n)).add (hy.mono (HC m n))
theorem Sz.sub' {m n:Nat}{x y:Int} (hx:Sz m x) (hy:Sz n y):Sz (max m n+1) (x - y):=(hx.mono (HP m n)).sub (hy.mono (HC m n))
theorem Sz.lit {m:Nat}{x:Int} (h:Sz m x):Sz m x:=h
theorem Sz.ok {m n:Nat}{x y:Int} (hx:Sz m x) (hy:Sz n y) (h:m+n≤134217728):IntMulOk x y:=
 PyProof.Rows.mulOk_of_bits (intBits_le_iff.mpr hx) (intBits_le_iff.mpr hy) h
theorem Sz.log {m:Nat}{x:Int} (h:Sz m x) (hm:m≤9000) (h0:x≠0):x.natAbs.log2 < 9000:=by
 have q:=(Nat.log2_lt (by omega)).mpr (show x.natAbs < 2 ^ m from h)
 omega
def wG (_ j:Int):Prop:=0 < j∧Sz 9000 j
def wL (_ j:Int):Prop:=j≠0∧Sz 9000 j
section
variable {X:Cx}{a b c:Expr}{ta tb tc:TE}{pos:Pos}
theorem vI:OpR X (Er .Mult) (rI IntMulOk fun i j=>.int (i*j)):=opI fun _ _ _ _ _ _ _ hc q=>mul_int q hc
theorem tY:OpR X (Er .FloorDiv) (rI wG fun i j=>.int (i / j)):=opI fun i j _ _ _ _ _ hc q=>by
 have h1:(0:Int) < j:=hc.1
 exact floordiv_int (by omega) (by rw[Int.fdiv_eq_ediv_of_nonneg i (by omega)];exact q) (.inl (PyProof.noPylong_of_log2 (hc.2.log (by decide) (by omega))))
theorem sC:OpR X (Er .FloorDiv) (rI wL fun i j=>.int (i.fdiv j)):=opI fun i j _ _ _ _ _ hc q=>
 floordiv_int hc.1 q (.inl (PyProof.noPylong_of_log2 (hc.2.log (by decide) hc.1)))
theorem yK {x:Str}{n:String}{pos:Pos} (hg:Gl X x) (hm:X.mg x=none) (hv:Cp x=some (.type n)) (hn:x≠"__name__":=by decide) (hd:(x==("__debug__":Str))=false:=by decide):PE X (.Name x pos) (tC (.ty n)):=
 uY hg hm hv rfl hn hd
end
section
variable {X:Cx}
end
theorem kit_int_int (K:Ap):Fe K (.type "int") (.type "int")=some true:=rfl
theorem kit_int_bool (K:Ap):Fe K (.type "int") (.type "bool")=some false:=rfl
section
variable {X:Cx}{tg:Expr}
end
theorem aN {H:Hp}{p:Addr} (h:H p=none) (o:HO):aI H (upd H p o):=fun b u q=>by rw[aL (ce q h)];exact q
theorem aI.put {H H':Hp}{l:Addr} (e:aI H H') (h:H l=none) (o:HO):aI H (upd H' l o):=fun b u q=>by rw[aL (ce q h)];exact e b u q
theorem aI.tup {K:Ap}{H H':Hp}{a:Addr}{xs:List V} (e:aI H H') (h:SqT K H a xs):SqT K H' a xs:=by
 rcases h with (h |⟨o,h⟩) |h
 ·exact .inl (.inl (e _ _ h))
 ·exact .inl (.inr ⟨o,e _ _ h⟩)
 ·exact .inr h
end L2
namespace L2
open PySem PySem.W PySem.Calls PySem.Spec PyProof.Rows
theorem mT {ns:List Int} (h:WData.layableAll [WData.list (ns.map WData.int)]=true):∀n∈ns,Sz 1048576 n:=by
 intro n hn
 have h1:=(PySem.W.layableW_arg h) _ (BA.mpr rfl)
 have h2:=PySem.W.layableW_item h1 (WData.int n) (Az.mpr ⟨n,hn,rfl⟩)
 have h3:=(PySem.W.layableW_iff.mp h2).2.2
 have h4:Builtin.Int.intBits n≤1048576:=by simpa only[WData.weight,Builtin.Int.intBits] using h3
 exact intBits_le_iff.mp h4
theorem kW {l:HQ}{n:Nat}{q:AD}{loose:List Str}{XP:(Str→Option Value)→Heap→Prop}{YP:World→Heap→Prop}{d:DefRec}
  (hn:l.most=some n) (hdf:d.params.defaults=[])
  (call:∀(w:World) (s₀ s₁:As) (mg mb:Str→Option Value) (fa:Addr) (o:Obj) (pm cd doc:Value) (a:Addr) (vs:List Value) (ns:List Int),
   PySem.W.Ground q loose [] XP w s₀ mg mb s₁.heap→YP w s₁.heap→
   s₁.heap.get? fa=some o→o.data=.func (docDef d.name d.params d.body d.scope pm cd doc)→s₁.heap.CodeRec cd d.name→mg d.name=some (.ref fa)→
   s₁.heap.get? a=some {cls:=.type "list",data:=.seq vs.toArray }→Jg vs ns→ns.length≤n→(∀m∈ns,Sz 1048576 m)→s₁.gens=#[]→
   EY (model l.prog w) Hg (.call (.ref fa) ⟨[.ref a],[]⟩) (fun r s'=>r=.ok (.ret (.bool true))∧OldK s₁.heap s'.heap∧s'.os=s₁.os∧Fy s'.gens) s₁):
  Jh q loose XP YP l.row.toRowW d [] (fun f vs=>JK f vs):=by
 intro w s₀ s₁ mg mb G Y fa o pm cd doc dV kV ho hd hcd hD hmg hg args vals as hpre hlay hrd hwl hlo
 obtain rfl:dV=.none:=JH hD hdf
 obtain rfl:kV=.none:=JI hD
 obtain ⟨a,vs,ns,rfl,rfl,hobj,hints,hlen⟩:=Att.script_of hn hpre hwl
 refine PySem.W.enter_call (Ey (call w s₀ s₁ mg mb fa o pm cd doc a vs ns G Y ho (PySem.W.fd_plain hd) hcd hmg hobj hints hlen (mT hlay) hg) fun r s' hq=>?_)
 obtain ⟨rfl,h2,h3,h4⟩:=hq
 exact ⟨.inl ⟨.bool true,.bool true,[],rfl,fun _=>rfl,.bool true,Att.post_true l _,fun _=>⟨DD,fun _ hm=>(nomatch hm)⟩⟩,h2,h3,h4⟩
end L2
namespace L2
theorem x5 {α:Type}{xs:List α}{k:Int}{i:Nat}{v:α} (e:k=(i:Int)) (h:xs[i]?=some v):atI xs k=some v:=by subst e;exact pK h
theorem Sz.natle {m:Nat}{x y:Int} (hy:Sz m y) (h:x.natAbs≤y.natAbs):Sz m x:=Sz.le h hy
end L2
namespace L2
open PySem PySem.Spec PyProof.Rows
abbrev aH (X:Cx) (scope:Scope) (cl:List (Str×Addr)) (C:Addr) (s:As) (H:Hp) (fp:List Addr):Cx:=
 {X with s₀:=s,H₀:=H,env:=Gu scope cl C X.env,outer:=X.stack,ex:=fp,fn:=fun _=>false,pn:=[],xe:=fun _ _=>False }
def mask:List Nat→St→St
 |[],σ=>σ
 |i::is,σ=>mask is (σ.set i none)
theorem eC:∀(is:List Nat) (σ:St),(mask is σ).length=σ.length
 |[],_=>rfl
 |i::is,σ=>by rw[mask,eC is];simp
theorem gQ:∀(is:List Nat) (σ:St) (j:Nat) (v:V),(mask is σ)[j]?=some (some v)→σ[j]?=some (some v)∧j ∉ is
 |[],σ,j,v,h=>⟨h,by simp⟩
 |i::is,σ,j,v,h=>by
  obtain ⟨h1,h2⟩:=gQ is _ j v h
  by_cases e:i=j
  ·subst e
   rw[Fp] at h1
   simp at h1
  ·rw[Ba e] at h1
   exact ⟨h1,by simp[Ne.symm e,h2]⟩
structure c_ (X:Cx) (scope:Scope) (cl:List (Str×Addr)) (is:List Nat):Prop where
 clos:Gv scope X.env=pure cl
 cell:∀y∈scope.names,y.2≠.cell
 kind:scope.kind=.function
 names:∀y∈scope.names,y.2=.local→scope.names.lookup y.1=some .local
 cls:∀x c,cl.lookup x=some c→X.env.cells.lookup x=some c
 free:∀x,((relabel scope X.env).names.lookup x=some .cell∨(relabel scope X.env).names.lookup x=some .free)→Vis X.env.scope x∧X.env.scope.names.lookup x≠some .local∧∃c,cl.lookup x=some c
 own:∀i x,X.N[i]?=some x→(relabel scope X.env).names.lookup x=some .local→i∈is
def tT (J:It) (is:List Nat) (g:TG) (te:TE) (σ:St) (H1:Hp) (l:Addr) (Q:VK):Prop:=
 ∃W:Nat→Nat→Hp→Prop,(∃m,W 0 m (upd H1 l (.lst [])))∧∀i m H2,W i m H2→
  (J.stop i H2∧Q (.ref l) H2)∨(J.go i H2∧∀x H3,J.yld i H2 x H3→g x (mask is σ) H3 fun σ4 H4=>te σ4 H4 fun y H5=>
   (∀(j:Nat) (v:V),(mask is σ)[j]?=some (some v)→σ4[j]?=some (some v))∧∃vs,H5 l=some (.lst vs)∧vs.length < sizeLine∧∃m',m' < m∧W (i+1) m' (upd H5 l (.lst (vs++[y]))))
def wD (is:List Nat) (g:TG) (te:TE) (σ:St) (Q:VK) (J:It) (H1:Hp):Prop:=∀l,H1 l=none→tT J is g te σ H1 l Q
def t6 (is:List Nat) (wi:TI) (g:TG) (te:TE):TE:=fun σ H Q=>wi σ H (wD is g te σ Q)
section
variable {X:Cx}{pins:List (Addr×Obj)}{σ:St}{H:Hp}{s:As}
theorem iB {scope:Scope}{cl:List (Str×Addr)}{is:List Nat}{fp:List Addr}{h₁:Heap}{m:Str→Option Value}{t':Nat} (I:Inv X pins σ H s) (B:c_ X scope cl is) (hf:∀b∈fp,d7 X pins H b) (hfl:∀b∈fp,b < s.heap.objs.size)
  (hn:h₁.Ns s.heap.objs.size m) (hk:∀b o,s.heap.get? b=some o→h₁.get? b=some o):
  Inv (aH X scope cl s.heap.objs.size s H fp) [] (mask is σ) H {s with heap:=h₁,toks:=t' }:=by
 refine ⟨⟨I.ok.mod,B.kind,I.ok.glob,I.ok.blt,Ay _,fun x y c h1 h2=>I.ok.inj x y c (B.cls x c h1) (B.cls y c h2),fun x hx=>(B.free x hx).2.2,fun x c h=>(by cases h),I.ok.hd,I.ok.frames,.inl rfl,fun b hb=>⟨A4 (hfl b hb),fun x c e=>(hf b hb).2.2.2.2.1 x c (B.cls x c e)⟩,
  I.bs,BR I.ok.bsz I.sz,fun b o e hb=>?_,fun b hb z=>?_,I.stack,⟨I.stkFree,I.amb⟩⟩,rfl,I.bare,Un.kept hk,⟨m,hn,fun i x v h1 h2 h3=>?_⟩,fun x c e=>?_,I.hok.fresh (Ay _),fun x c e=>I.freeC x c (B.cls x c e),fun p hp=>absurd (show p∈([]:List (Addr×Obj)) from hp) (by simp),I.hok.kept hk,?_⟩
 ·rcases (hf b hb).2.2.2.1 with z |z
  ·exact I.ok.noex b o e z
  ·exact absurd (A3 (AC e) (BR I.ok.bsz z)) (Bs _)
 ·rcases AB.mp (I.stkSub b z) with e |e
  ·exact (hf b hb).2.1 e
  ·exact (hf b hb).2.2.1 e
 ·obtain ⟨e2,ni⟩:=gQ is σ i v h2
  have h3':(relabel scope X.env).names.lookup x=some .local∨(relabel scope X.env).names.lookup x=some .cell∨(relabel scope X.env).names.lookup x=some .free:=h3
  rcases h3' with z |z
  ·exact absurd (B.own i x h1 z) ni
  ·obtain ⟨hv,hnl,c,hc⟩:=B.free x z
   obtain ⟨m0,_,hl⟩:=I.loc
   obtain ⟨u,r,l⟩:=hl i x v h1 e2 hv
   refine ⟨u,r,.inr ⟨z,c,hc,?_⟩⟩
   rcases l with ⟨k,_⟩ |⟨_,c',hc',o,ho,hd⟩
   ·exact absurd k hnl
   ·have ec:=B.cls x c hc
    rw[hc'] at ec
    cases ec
    exact ⟨o,hk _ _ ho,hd⟩
 ·obtain ⟨v,o,ho,hd⟩:=I.cell x c (B.cls x c e)
  exact ⟨v,o,hk _ _ ho,hd⟩
 ·show (mask is σ).length=X.N.length
  rw[eC];exact I.len
theorem nG {elt iter tg:Expr}{scope:Scope}{cl:List (Str×Addr)}{pos pos0:Pos}{is:List Nat}{wi:TI}{g:TG}{te:TE}{use:Option (Value→Sem Unit)}{Q0:VK}{Q:Value→As→Prop} (hc:X.calm=true) (B:c_ X scope cl is)
  (hi:PI X tg iter wi) (hg:∀C s H fp,PG (aH X scope cl C s H fp) tg g) (he:∀C s H fp,PE (aH X scope cl C s H fp) elt te) (hs:∀x,Bw iter X.env x=pure x)
  (I:Inv X pins σ H s) (h:t6 is wi g te σ H Q0)
  (fin:∀(l C:Addr) (H':Hp) (s':As) (m:Str→Option Value),Inv X pins σ H' s'→s'.heap.Ns C m→H' C=none→C≠X.env.locals→C ∉ X.fs→X.s₀.heap.objs.size≤C→(∀x c,X.env.cells.lookup x=some c→c≠C)→(∀p∈X.pn++pins,p.1≠C)→Q0 (.ref l) H'→
   Ji (model X.prog X.w) X.A X.xe use Q (.ref l) C (.ok .next) s'):
  wpAny (model X.prog X.w) X.A (comprehension (.ListComp elt [⟨tg,iter,[],0⟩] scope pos) scope X.env pos0 (newList []) false (eval iter X.env) use) Q X.xe s:=by
 refine Fq rfl hs B.clos B.kind B.names (thn (hi pins s σ H _ I h) fun xv s1 h1=>thn h1 fun itv s2 h2=>?_)
 obtain ⟨it,fp,tn,J,H2,e,I2,T,st2,f2,R⟩:=h2
 subst e
 refine DE (EK B.cell (by intro y hy;simp at hy) (fun h₁ hns hsb=>?_) B.kind)
 have hl:H2 s2.heap.objs.size=none:=I2.hok.fresh (Ay _)
 obtain ⟨W,⟨m0,w0⟩,turn⟩:=R s2.heap.objs.size hl
 have I3:Inv X pins σ (upd H2 s2.heap.objs.size (.lst [])) {s2 with heap:=s2.heap.push {cls:=.type "list",dict:=none,data:=.seq ([]:List Value).toArray } }:=
  I2.laid (t':=s2.toks) (o:=.lst []) (fun b u e=>Aq _ e) (Ay _) ⟨Bh _,[],0,.nil,AE _ rfl⟩
 have hfl:∀b∈fp,b < s2.heap.objs.size:=fun b hb=>let ⟨o,e,_⟩:=T.obj 0 _ st2 b hb;AC e
 have f3:∀b∈fp,d7 X pins (upd H2 s2.heap.objs.size (.lst [])) b:=fun b hb=>⟨by rw[aL (A4 (hfl b hb))];exact (f2 b hb).1,(f2 b hb).2⟩
 have kp:∀b o,(s2.heap.push {cls:=.type "list",dict:=none,data:=.seq ([]:List Value).toArray }).get? b=some o→h₁.get? b=some o:=fun b o e=>
  hsb.extBut b o (A4 (AC e)) (Aq _ e)
 have st4:tn 0 h₁:=T.keep 0 _ _ st2 fun b _ o e=>kp b o (Aq _ e)
 have hfl3:∀b∈fp,b < (s2.heap.push {cls:=.type "list",dict:=none,data:=.seq ([]:List Value).toArray }).objs.size:=fun b hb=>by
  rw[BE];exact Cu (hfl b hb)
 have I4:=iB (t':=s2.toks+([]:List (Str×Value)).length) I3 B f3 hfl3 hns kp
 have loop:EY (model X.prog X.w) X.A (.compLoop (.ListComp elt [⟨tg,iter,[],0⟩] scope pos) 0 (.ref it) (.ref s2.heap.objs.size) (Gu scope cl (s2.heap.push {cls:=.type "list",dict:=none,data:=.seq ([]:List Value).toArray }).objs.size X.env))
   (Ji (model X.prog X.w) X.A X.xe use Q (.ref s2.heap.objs.size) (s2.heap.push {cls:=.type "list",dict:=none,data:=.seq ([]:List Value).toArray }).objs.size)
   {s2 with heap:=h₁,toks:=s2.toks+([]:List (Str×Value)).length }:=by
  generalize hs3:({s2 with heap:=s2.heap.push {cls:=.type "list",dict:=none,data:=.seq ([]:List Value).toArray } }:As)=s3 at *
  have hC:(s2.heap.push {cls:=.type "list",dict:=none,data:=.seq ([]:List Value).toArray }).objs.size=s3.heap.objs.size:=by rw[←hs3]
  rw[hC]
  have hstat:∀{H':Hp},(∀b∈fp,H' b=none)→∀b∈fp,d7 (aH X scope cl s3.heap.objs.size s3 (upd H2 s2.heap.objs.size (.lst [])) fp) [] H' b:=fun hn b hb=>
   ⟨hn b hb,(I4.ok.exf b hb).1,I4.ok.exfs b hb,.inl hb,fun x c e=>(I4.ok.exf b hb).2 x c e,fun p hp=>absurd (show p∈([]:List (Addr×Obj)) from hp) (by simp)⟩
  have back:∀{σ':St}{H':Hp}{pp:List (Addr×Obj)}{s':As},Inv (aH X scope cl s3.heap.objs.size s3 (upd H2 s2.heap.objs.size (.lst [])) fp) pp σ' H' s'→Inv X pins σ H' s':=fun I'=>
   I3.call' (ch:=fp) I'.os I'.base I'.hok I'.bare fun b hb=>⟨(f3 b hb).2.2.2.1,(f3 b hb).2.1,(f3 b hb).2.2.2.2.1,(f3 b hb).2.2.2.2.2⟩
  refine codeAny_loop rfl (fun n s'=>∃i H',Inv (aH X scope cl s3.heap.objs.size s3 (upd H2 s2.heap.objs.size (.lst [])) fp) [] (mask is σ) H' s'∧tn i s'.heap∧(∀b∈fp,H' b=none)∧W i n H') ?_ m0 ⟨0,_,(by subst hs3;exact I4),st4,fun b hb=>(f3 b hb).1,w0⟩
  rintro n s5 ⟨i,H5,I5,st5,fr5,w5⟩
  show wpAny _ _ ((compTurn (.ListComp elt [⟨tg,iter,[],0⟩] scope pos) 0 (.ref it) (.ref s2.heap.objs.size) (Gu scope cl s3.heap.objs.size X.env)).onRaise (fun x=>do noteFrame x (Gu scope cl s3.heap.objs.size X.env);HR x)) _ _ s5
  refine wpAny_noted ?_
  rw[compTurn_list1]
  refine Ao (FA (Ao ?_))
  rcases turn i n H5 w5 with ⟨stop,q⟩ |⟨go,step⟩
  ·refine thn (T.done (aH X scope cl s3.heap.objs.size s3 (upd H2 s2.heap.objs.size (.lst [])) fp) rfl rfl rfl hc i [] s5 _ H5 _ I5 (hstat fr5) st5 stop) fun r s6 ⟨hr,I6⟩=>?_
   subst hr
   refine Au ?_
   obtain ⟨m6,hn6,_⟩:=I6.loc
   have hCn:∀b,b < s3.heap.objs.size→b≠s3.heap.objs.size:=fun b hb=>A4 hb
   refine fin _ s3.heap.objs.size H5 s6 m6 (back I6) hn6 I6.free (CA I3.lt) (I3.nofs (Ay _)) I3.sz (fun x c e=>?_) (fun p hp=>?_) q
   ·obtain ⟨v,z⟩:=I3.cell x c e
    exact A4 z.lt
   ·exact A4 (AC (I3.pin p hp).1)
  ·refine thn (T.item (aH X scope cl s3.heap.objs.size s3 (upd H2 s2.heap.objs.size (.lst [])) fp) rfl rfl rfl hc i [] s5 _ H5 _ I5 (hstat fr5) st5 go) fun r s6 ⟨u,hr,h6⟩=>?_
   subst hr
   refine Ao (thn h6 fun _ s7 ⟨x,H7,I7,r7,y7,st7,fr7⟩=>?_)
   have I7':=I7.pinned (hstat fr7) (T.obj _ _ st7)
   refine Ao (Cs (hg _ _ _ _ _ s7 (mask is σ) H7 x u _ I7' r7 (step x H7 y7)) (fun _ s8 ⟨σ8,H8,I8,q8⟩=>?_) fun _ _ z=>z.elim)
   refine Ao (Ao (Cs (he _ _ _ _ _ s8 σ8 H8 _ I8 q8) (fun v s9 ⟨y,H9,I9,r9,sub,vs,hl9,hz,m',hm,w'⟩=>?_) fun _ _ z=>z.elim))
   refine Ao (Cs (hX (X:=aH X scope cl s3.heap.objs.size s3 (upd H2 s2.heap.objs.size (.lst [])) fp) _ s9 σ8 H9 (.ref s2.heap.objs.size) [y] (.ref s2.heap.objs.size) [v] (fun _ H'=>H'=upd H9 s2.heap.objs.size (.lst (vs++[y]))) I9 rfl (.cons r9 .nil) ⟨_,vs,y,rfl,rfl,hl9,hz,rfl⟩) (fun z s10 ⟨zv,H10,I10,_,e10⟩=>?_) fun _ _ z=>z.elim)
   subst e10
   refine Au (Au ⟨rfl,m',hm,i+1,_,(I10.unpinned (pins:=[])).weak (by rw[I10.len,eC,I.len]) sub,T.keep _ _ _ st7 fun b hb o e=>(I10.pin (b,o) (AH _ (AH _ (bP hb e)))).1,fun b hb=>?_,w'⟩)
   obtain ⟨o,e,d⟩:=T.obj _ _ st7 b hb
   exact (I10.pin (b,o) (AH _ (AH _ (bP hb e)))).2.1
 exact FR loop (T.self X.A 0 _ _ _ st4 loop)
theorem vT {elt iter tg:Expr}{scope:Scope}{cl:List (Str×Addr)}{pos:Pos}{is:List Nat}{wi:TI}{g:TG}{te:TE} (hc:X.calm=true) (B:c_ X scope cl is)
  (hi:PI X tg iter wi) (hg:∀C s H fp,PG (aH X scope cl C s H fp) tg g) (he:∀C s H fp,PE (aH X scope cl C s H fp) elt te) (hs:∀x,Bw iter X.env x=pure x:=by intro _;rfl):
  PE X (.ListComp elt [⟨tg,iter,[],0⟩] scope pos) (t6 is wi g te):=by
 intro pins s σ H Q I h
 rw[eval_ListComp]
 refine nG (use:=none) hc B hi hg he hs I h fun l C H' s' m I' hn h1 h2 h3 h4 h5 h6 q=>⟨m,hn,fun h' hsb=>?_⟩
 exact ⟨.ref l,H',I'.turned (t':=s'.toks) (fun b o hb e=>hsb.extBut b o hb e) h1 (Ne.symm h2.symm) (.inr h4) h5 h6,rfl,q⟩
end
section
variable {X:Cx}
theorem n5 {elt iter tg:Expr}{scope:Scope}{cl:List (Str×Addr)}{pos spos py:Pos}{y:Str}{j:Nat}{is:List Nat}{wi:TI}{g:TG}{te:TE} (hc:X.calm=true) (hN:X.N.Nodup) (hj:X.N[j]?=some y) (hy:Loc X.env.scope y) (B:c_ X scope cl is)
  (hi:PI X tg iter wi) (hg:∀C s H fp,PG (aH X scope cl C s H fp) tg g) (he:∀C s H fp,PE (aH X scope cl C s H fp) elt te) (hs:∀x,Bw iter X.env x=pure x:=by intro _;rfl)
  (hsw:Ew (.ListComp elt [⟨tg,iter,[],0⟩] scope pos) (some (.Name y py)) spos.line X.env=pure true:=by rfl) (hf:X.fn y=true∨X.env.scope.names.lookup y=some .local:=by first |exact .inl rfl |exact .inr rfl |assumption):
  PS X (.Assign [.Name y py] (.ListComp elt [⟨tg,iter,[],0⟩] scope pos) spos) (wX (t6 is wi g te) (mI j)):=by
 intro pins s σ H D I h
 rw[exec_Assign_Name_used _ _ _ _ hsw]
 refine Ao (FA (Ao ?_))
 show wpAny _ X.A (do let _ ←comprehension (.ListComp elt [⟨tg,iter,[],0⟩] scope pos) scope X.env _ (newList []) false (eval iter X.env) (some (assign (.Name y py) X.env))) _ _ s
 refine Ao (Cs (nG (Q0:=fun v H'=>D.nx (σ.set j (some v)) H') (use:=some (assign (.Name y py) X.env)) (Q:=fun _ s'=>SP X pins D .next s') hc B hi hg he hs I h fun l C H' s' m I' hn h1 h2 h3 h4 h5 h6 q=>?_) (fun _ s' hq=>Au (Au hq)) fun _ _ e=>e)
 show wpAny _ X.A (assign (.Name y py) X.env (.ref l)) _ _ _
 refine Hd (j4 I' hN hj hy (v:=.ref l) rfl (fun s2 I2 ⟨a,hsb,ha⟩=>?_) hf)
 have hCa:C≠a:=by
  rcases ha with e |e
  ·rw[e];exact h2
  ·exact Ne.symm (h5 _ _ e)
 refine ⟨m,hn.sameBut hsb hCa,fun h' hsb'=>⟨_,H',I2.turned (t':=s2.toks) (fun b o hb e=>hsb'.extBut b o hb e) h1 h2 (.inr h4) h5 h6,q⟩⟩
end
section
variable {prog:AD}{w:World}{A:A5}{E:Value→As→Prop}
theorem jV {it t:Addr}{items:Array Value} (hne:t≠it):∀(n i:Nat) (s:As) (Q:List Value→As→Prop),s.heap.IsListIter it t i→s.heap.IsList t items→i+n≤items.size→
  (∀h',h'.IsListIter it t (i+n)→Dw it s.heap h'→Q ((items.toList.drop i).take n) {s with heap:=h' })→wpAny (model prog w) A (draw (.ref it) n) Q E s
 |0,i,s,Q,hit,_,_,hQ=>by
  show wpAny _ _ (pure []) Q E s
  exact Au (by simpa using hQ s.heap hit (Hh ..))
 |n+1,i,s,Q,hit,ht,hle,hQ=>by
  have hlt:i < items.size:=by omega
  show wpAny _ _ (EW (.ref it) >>=_) Q E s
  refine Ao (Dq hit ht (x:=items[i]) (by simp[hlt]) fun h₁ hit₁ hs₁=>?_)
  refine Ao (Bt (jV hne n (i+1) _ _ hit₁ (ht.extBut hs₁.extBut hne) (by omega) fun h₂ hit₂ hs₂=>Au ?_))
  have hd:items.toList.drop i=items[i]::items.toList.drop (i+1):=by simp[Fg,hlt]
  have:=hQ h₂ (by rw[show i+(n+1)=i+1+n by omega];exact hit₂) (hs₁.trans hs₂)
  rw[hd,GO] at this
  exact this
theorem im {s:As}{t:Addr}{items:Array Value}{Q:List Value→As→Prop} (hh:A.handled=none) (ht:s.heap.IsList t items)
  (hQ:∀h',JD s.heap.objs.size s.heap h'→Q items.toList {s with heap:=h' }):wpAny (model prog w) A (unpackItems (.ref t) items.size none) Q E s:=by
 have hlt:t≠s.heap.objs.size:=by obtain ⟨o,ho,_⟩:=ht;exact A4 (AC ho)
 unfold unpackItems
 refine Ao ?_
 ·unfold notIterableAtAll
  refine Ao (D6 ht.typeIs PySem.slot_list_iter.lookup ?_)
  refine Au ?_
  simp only[AR,if_false]
  refine Ao (Bt (Ct ht ?_))
  refine Ao (Bt (jV hlt items.size 0 _ _ ⟨_,AE _ rfl,rfl,rfl⟩ (ht.push _) (by omega) fun h₁ hit₁ hs₁=>?_))
  have hall:JM items.size (JN 0 items.toList)=items.toList:=by
   rw[List.drop_zero];exact Dr (by simp)
  rw[hall]
  rw[if_neg (by simp)]
  have ht₁:h₁.IsList t items:=(ht.push _).extBut hs₁.extBut hlt
  refine Ao (Bt (Ex hh hit₁ ht₁ (by simp) fun h₂ he₂=>?_))
  simp only[Option.isSome_none,AR,if_false]
  refine Au (hQ h₂ fun b o hb e=>he₂ b o hb (hs₁.extBut b o hb (Aq _ e)))
end
section
variable {X:Cx}{pos:Pos}
def z9 (K:Ap) (n:Nat) (t:TGs):TG:=fun v σ H Q=>∃a xs,v=.ref a∧SqL K H a xs∧xs.length=n∧t xs σ H Q
theorem xf {es:List Expr}{k:Nat}{t:TGs}{n:Nat} (hc:X.calm=true) (h:PGs X es t)
  (hn:(CV es X.env).length=n:=by rfl) (hst:(CV es X.env).findIdx? (·.1)=none:=by rfl):PG X (.Tuple es k pos) (z9 X.K n t):=by
 intro pins s σ H v u Q I r hw
 obtain ⟨a,xs,e1,hq,hl,hw⟩:=hw
 subst e1
 cases r
 obtain ⟨its,rv,ht,hz⟩:=I.list hq
 rw[assign_Tuple]
 refine Ao (FA ?_)
 unfold unpack
 rw[hst,hn,←hl,rv.length,←AV]
 refine Ao (Bt (im (I.ok.hd hc) ht.isList fun h' hx=>?_))
 have I1:Inv X pins σ H {s with heap:=h' }:=I.kept (t':=s.toks) fun b o e=>hx b o (A4 (AC e)) e
 exact h pins _ σ H xs _ Q I1 (by simpa using rv) hw
end
def goC (cells:List (Str×Addr)):List (Str×EN)→List (Str×Addr)→List (Str×Addr)
 |[],acc=>acc
 | (n,k)::r,acc=>goC cells r (if (k==.free)=true then (n,(cells.lookup n).getD 0)::acc else acc)
theorem ov {env:Env}{scope:Scope} (h:∀y∈scope.names,y.2=.free→(env.cells.lookup y.1).isSome=true):Gv scope env=pure (goC env.cells scope.names []):=by
 have all:∀(names:List (Str×EN)) (acc:List (Str×Addr)),(∀y∈names,y.2=.free→(env.cells.lookup y.1).isSome=true)→
   (forIn names acc (fun x cs=>match x with | (name,kind)=>if (kind==.free)=true then (do let c ←cellOf env name;pure (ForInStep.yield ((name,c)::cs))) else pure (ForInStep.yield cs)):Sem (List (Str×Addr)))=pure (goC env.cells names acc):=by
  intro names
  induction names with
  |nil=>intro acc _;rfl
  |cons y r ih=>
   intro acc hy
   obtain ⟨n,k⟩:=y
   rw[EZ]
   by_cases hk:k=.free
   ·subst hk
    have:=hy (n,.free) AF rfl
    obtain ⟨c,hc⟩:=DY.mp this
    have e:cellOf env n=pure c:=by unfold cellOf;rw[hc]
    simp only[beq_self_eq_true,if_true,e,pure_bind]
    rw[ih _ fun y hy'=>hy y (Aw _ hy')]
    simp only[goC,beq_self_eq_true,if_true,hc,DQ]
   ·have hb:(k==NameKind.free)=false:=by simpa using hk
    simp only[hb,AR,if_false,pure_bind]
    rw[ih _ fun y hy'=>hy y (Aw _ hy')]
    simp only[goC,hb,AR,if_false]
 simp only[Gv]
 have:=all scope.names [] h
 simpa using this
theorem pq {cells:List (Str×Addr)}:∀(names:List (Str×EN)) (acc:List (Str×Addr)),(∀y∈names,y.2=.free→(cells.lookup y.1).isSome=true)→(∀x c,acc.lookup x=some c→cells.lookup x=some c)→
  ∀x c,(goC cells names acc).lookup x=some c→cells.lookup x=some c
 |[],_,_,ha,x,c,h=>ha x c h
 | (n,k)::r,acc,hy,ha,x,c,h=>by
  rw[goC] at h
  refine pq r _ (fun y hy'=>hy y (Aw _ hy')) (fun x' c' e=>?_) x c h
  by_cases hk:k=.free
  ·subst hk
   simp only[beq_self_eq_true,if_true] at e
   rw[BW] at e
   by_cases hx:(x'==n)=true
   ·rw[hx] at e
    have hx':x'=n:=by simpa using hx
    obtain ⟨c2,hc2⟩:=DY.mp (hy (n,.free) AF rfl)
    simp only[hc2,DQ] at e
    rw[hx',hc2];exact e
   ·have:(x'==n)=false:=by simpa using hx
    rw[this] at e
    exact ha x' c' e
  ·have hb:(k==NameKind.free)=false:=by simpa using hk
   rw[hb] at e
   exact ha x' c' e
theorem oT {cells:List (Str×Addr)}{x:Str}:∀(names:List (Str×EN)) (acc:List (Str×Addr)),((x,NameKind.free)∈names∨∃c,acc.lookup x=some c)→∃c,(goC cells names acc).lookup x=some c
 |[],_,h=>by
  rcases h with h |h
  ·cases h
  ·exact h
 | (n,k)::r,acc,h=>by
  rw[goC]
  refine oT r _ ?_
  rcases h with h |⟨c,h⟩
  ·rcases AB.mp h with e |h
   ·cases e
    right
    simp
   ·exact .inl h
  ·right
   by_cases hk:k=.free
   ·subst hk
    simp only[beq_self_eq_true,if_true]
    rw[BW]
    cases hx:x==n with
    |true=>exact ⟨_,rfl⟩
    |false=>exact ⟨c,h⟩
   ·have hb:(k==NameKind.free)=false:=by simpa using hk
    rw[hb];exact ⟨c,h⟩
theorem cP {env:Env}{x:Str}{kd:EN}:∀{names:List (Str×EN)},
  (names.map fun (n,k)=>if (k==NameKind.free && env.scope.kind==.function && env.kindOf n==some .cell) then (n,NameKind.cell) else (n,k)).lookup x=some kd→names.lookup x=some kd∨(kd=.cell∧names.lookup x=some .free)
 |[],h=>by simp at h
 | (n,k)::r,h=>by
  have ih:=@cP env x kd r
  change HS x ((if (k==NameKind.free && env.scope.kind==.function && env.kindOf n==some .cell)=true then (n,NameKind.cell) else (n,k))::_)=_ at h
  by_cases hc:(k==NameKind.free && env.scope.kind==.function && env.kindOf n==some .cell)=true
  ·rw[if_pos hc] at h
   rw[BW] at h ⊢
   cases hx:x==n with
   |true=>
    rw[hx] at h
    have hk:k=.free:=by
     have:=(Gy.mp (Gy.mp hc).1).1
     simpa using this
    subst hk
    have h':some NameKind.cell=some kd:=h
    cases h'
    exact .inr ⟨rfl,rfl⟩
   |false=>rw[hx] at h;exact ih h
  ·rw[if_neg hc] at h
   rw[BW] at h ⊢
   cases hx:x==n with
   |true=>rw[hx] at h;exact .inl h
   |false=>rw[hx] at h;exact ih h
def tQ (scope fscope:Scope) (N:List Str) (is:List Nat):Bool:=
 scope.names.all (fun y=>y.2 !=.cell) && scope.names.all (fun y=>y.2 !=.local ||scope.names.lookup y.1==some .local) && scope.names.all (fun y=>y.2 !=.free ||fscope.names.lookup y.1==some .cell) &&
  (Bi N.length).all fun i=>match N[i]? with |some x=>scope.names.lookup x !=some .local ||is.contains i |none=>true
theorem blk {X:Cx}{scope:Scope} (fscope:Scope) (N:List Str) (is:List Nat) (hNN:X.N=N) (hs:X.env.scope=fscope) (hcs:X.env.cells=HN (X.env.locals+1) fscope.names []) (hk:scope.kind=.function) (h:tQ scope fscope N is=true):c_ X scope (goC X.env.cells scope.names []) is:=by
 subst hNN
 unfold tQ at h
 simp only[BV,FI] at h
 obtain ⟨⟨⟨h1,h2⟩,h3⟩,h4⟩:=h
 have f1:∀y∈scope.names,y.2=.free→fscope.names.lookup y.1=some .cell:=fun y hy e=>by
  have:=h3 y hy
  simp only[HU,bne_iff_ne,ne_eq,beq_iff_eq] at this
  exact this.resolve_left fun z=>z e
 have f2:∀y∈scope.names,y.2=.free→(X.env.cells.lookup y.1).isSome=true:=fun y hy e=>by
  rw[hcs];exact Ed _ _ _ (.inl (f1 y hy e))
 have nc:∀y∈scope.names,y.2≠.cell:=fun y hy=>by have:=h1 y hy;simpa using this
 refine ⟨ov f2,nc,hk,fun y hy e=>?_,pq _ _ f2 (fun x c e=>by simp at e),fun x hx=>?_,fun i x hi hl=>?_⟩
 ·have:=h2 y hy
  simp only[HU,bne_iff_ne,ne_eq,beq_iff_eq] at this
  exact this.resolve_left fun z=>z e
 ·have hf:(x,NameKind.free)∈scope.names:=by
   rcases hx with hx |hx
   ·rcases cP hx with z |⟨_,z⟩
    ·exact absurd rfl (nc _ (BI z))
    ·exact BI z
   ·rcases cP hx with z |⟨z,_⟩
    ·exact BI z
    ·cases z
  have hc:=f1 _ hf rfl
  refine ⟨.inr (.inl (by rw[hs];exact hc)),(by rw[hs,show fscope.names.lookup x=some .cell from hc];intro z;cases z),oT _ _ (.inl hf)⟩
 ·have hi':i < X.N.length:=(AG.mp hi).1
  have:=h4 i (AQ.mpr hi')
  rw[hi] at this
  have hl':scope.names.lookup x=some .local:=by
   rcases cP hl with z |⟨z,_⟩
   ·exact z
   ·cases z
  simp only[hl',bne_self_eq_false,Bool.false_or,List.contains_iff_mem] at this
  exact this
end L2
namespace L2
end L2
namespace L2
open PySem PySem.Spec PySem.W PyProof.Rows
def CXF (P:AD) (w:World):CXT:=fun outer H s E e s'=>∃(ea:Addr) (cls a0:Value) (B:Heap) (H':Hp),e=.ref ea∧s'.os=s.os∧Fy s'.gens∧Un (frs outer) [] H H' s.heap s'.heap∧HOk P w H' s'.heap∧H' ea=none∧
 (∀b o,s.heap.get? b=some o→b ∉ frs outer→H b=none→B.get? b=some o)∧(∀b u,H' b=some u→∃o,B.get? b=some o)∧(∀b o,s.heap.get? b=some o→b ∉ frs outer→∃o',B.get? b=some o')∧
 Heap.FlyingW B outer ea cls a0 s'.heap∧E cls none H'
theorem aB {P:AD}{w:World}{X:Cx}:jt (CXF P w) X E0:=fun _ _ _ _ _ _ _ h=>by
 obtain ⟨_,_,_,_,_,_,_,_,_,_,_,_,_,_,_,hE⟩:=h
 exact hE.elim
section
variable {P:AD}{w:World}{K:Frag}{mg:Str→Option Value}{base:Heap}{N:List Str}{qual:Str}{scope:Scope}{f:Addr}{cd:Value}{A:A5}{outer:List Env}{s:As}{H:Hp}{E:XK}
end
theorem Fun.okF {P:AD}{w:World}{K:Frag}{mg:Str→Option Value}{base:Heap}{x qual:Str}{st:Stmt}{f:Addr}{fd:A9}{N ps:List Str}{k:Nat}{sp:Sp} (F:Fun K x qual st f fd) (S:aE N ps (ag st)) (len:∀vs H Q E,sp vs H Q E→vs.length=ps.length)
  (hbody:∀(cdv:Value) (A:A5) (outer:List Env) (s:As) (H:Hp) (vs:List V) (Q:VK) (E:XK),dC k (A.deeper (GD qual (ag st) s.heap.objs.size f cdv))→sp vs H Q E→
   ∃t,PSs (mS (CXF P w) P w K mg base N qual (ag st) f cdv A outer s H E) (ay st) t∧t {nx:=fun _ H'=>Q .non H',rt:=Q } (start N vs) H):bF P w K mg base (CXF P w) (k+1) f fd ps sp:=by
 obtain ⟨oc,od,kV,doc,pm,an,cdv,ct,osl,rfl,lk,hcd⟩:=F.ex
 exact wj lk hcd S len fun A outer s H vs Q E hr hsp=>hbody cdv A outer s H vs Q E hr hsp
section
variable {X:Cx}{pins:List (Addr×Obj)}{σ:St}{H:Hp}{s:As}
end
section
variable {X:Cx}
end
end L2
namespace L2
open PySem PySem.Spec PyProof.Rows
theorem jT {n:Nat}{e:Nat→Bool}:(Bi n).all e=true↔∀j,j < n→e j=true:=by
 rw[FI]
 exact ⟨fun h j hj=>h j (AQ.mpr hj),fun h j hj=>h j (AQ.mp hj)⟩
section
variable {X:Cx}
end
end L2
namespace PySem.W
open PySem PySem.Spec PySem.Calls PyProof.Rows PySem.Builtin PySem.Builtin.ObjectAttr PySem.Builtin.Getset_descriptor
section
variable {prog:AD}{w:World}{A:A5}{E:Value→As→Prop}{s:As}{K:Frag}{x C:Addr}
def OfCls (x C:Addr) (h:Heap):Prop:=∃o,h.get? x=some o∧o.cls=.ref C
variable (hga:findIn K (.ref C) "__getattribute__"=some (some (.builtin "BaseException.__getattribute__"))) (hgn:findIn K (.ref C) "__getattr__"=some none) (ha:findIn K (.ref C) "__class__"=some (some (.builtin "object.__class__")))
 (hn:specialIn K (.builtin "object.__class__") "__get__"=some (some (.builtin "getset_descriptor.__get__"))) (htk:takesIn K (.builtin "object.__class__")=some true) (hm:mroIn K C (.type "object")=some true) (hmB:mroIn K C (.type "BaseException")=some true)
include ha hn htk hm in
end
structure XcOk (K:Frag) (C:Addr):Prop where
 ga:findIn K (.ref C) "__getattribute__"=some (some (.builtin "BaseException.__getattribute__"))
 gn:findIn K (.ref C) "__getattr__"=some none
 at_:findIn K (.ref C) "__class__"=some (some (.builtin "object.__class__"))
 sp:specialIn K (.builtin "object.__class__") "__get__"=some (some (.builtin "getset_descriptor.__get__"))
 tk:takesIn K (.builtin "object.__class__")=some true
 mo:mroIn K C (.type "object")=some true
 mb:mroIn K C (.type "BaseException")=some true
theorem XcOk.off {x C:Addr}{h:Heap}{o:Obj}{T:String} (I:OfCls x C h) (e:h.get? x=some o) (c:o.cls=.type T):False:=by
 obtain ⟨o',e',c'⟩:=I
 rw[e] at e';cases e'
 rw[c] at c';cases c'
end PySem.W
namespace L2
open PySem PySem.Spec PyProof.Rows
inductive TyX where
 |nm (n:String) |xc (C:Addr)
inductive U where
 |non |bl (b:Bool) |int (i:Int) |str (x:Str) |ty (n:TyX) |dic |scr (xs:List U) |tup (xs:List U) |lst (xs:List U)
def U.items:U→Option (List U)
 | .scr xs=>some xs
 | .tup xs=>some xs
 | .lst xs=>some xs
 |_=>none
def hid (H:Hp) (O:List Addr):Hp:=fun b=>if b∈O then none else H b
theorem gD {H:Hp}{O:List Addr}{b:Addr}{o:HO} (h:hid H O b=some o):H b=some o∧b ∉ O:=by
 unfold hid at h
 split at h
 ·cases h
 ·exact ⟨h,by assumption⟩
theorem dj {H:Hp}{O:List Addr}{b:Addr}{o:HO} (h:H b=some o) (n:b ∉ O):hid H O b=some o:=by
 unfold hid;rw[if_neg n];exact h
theorem aC {H:Hp}{O:List Addr}:aI (hid H O) H:=fun _ _ h=>(gD h).1
theorem aP {H H':Hp}{O:List Addr} (e:aI H H'):aI (hid H O) (hid H' O):=fun _ _ h=>dj (e _ _ (gD h).1) (gD h).2
theorem dH {H:Hp}{O O':List Addr} (e:∀a∈O',a∈O):aI (hid H O) (hid H O'):=fun _ _ h=>dj (gD h).1 fun z=>(gD h).2 (e _ z)
theorem bL {H H':Hp}{O:List Addr}{a:Addr} (e:aI H H') (n:H a=none):aI (hid H O) (hid H' (a::O)):=fun b o h=>by
 obtain ⟨h1,h2⟩:=gD h
 refine dj (e _ _ h1) fun z=>?_
 rcases AB.mp z with y |y
 ·subst y;rw[n] at h1;cases h1
 ·exact h2 y
theorem lL {H:Hp}{O:List Addr}{a:Addr}{o:HO} (h:a∈O):hid (upd H a o) O=hid H O:=by
 funext b
 unfold hid
 split
 ·rfl
 ·rename_i n
  rw[aL fun e=>n (by rw[e];exact h)]
inductive Rp (K:Ap) (H:Hp):V→U→Prop where
 |non:Rp K H .non .non
 |bl (b:Bool):Rp K H (.bl b) (.bl b)
 |int (i:Int):Rp K H (.int i) (.int i)
 |str (x:Str):Rp K H (.str x) (.str x)
 |ty (n:String):Rp K H (.ty n) (.ty (.nm n))
 |dic {a:Addr}{kvs:List (Key×V)} (h:H a=some (.dK kvs)):Rp K H (.ref a) .dic
 |xc {a C:Addr} (h:H a=some (.ext (PySem.W.OfCls a C))) (k:PySem.W.XcOk K C):Rp K H (.ref a) (.ty (.xc C))
 |scr {a:Addr}{vs:List V}{xs:List U} (h:SqL K H a vs) (hl:vs.length=xs.length) (hi:∀(i:Nat) (v:V) (x:U),vs[i]?=some v→xs[i]?=some x→Rp K H v x):Rp K H (.ref a) (.scr xs)
 |tup {a:Addr}{vs:List V}{xs:List U} (h:SqT K H a vs) (hl:vs.length=xs.length) (hi:∀(i:Nat) (v:V) (x:U),vs[i]?=some v→xs[i]?=some x→Rp K H v x):Rp K H (.ref a) (.tup xs)
 |lst {a:Addr}{vs:List V}{xs:List U} (h:H a=some (.lst vs)) (hl:vs.length=xs.length) (hi:∀(i:Nat) (v:V) (x:U),vs[i]?=some v→xs[i]?=some x→Rp K H v x):Rp K H (.ref a) (.lst xs)
theorem Rp.same {K:Ap}{H H':Hp}{v:V}{u:U} (e:aI H H') (h:Rp K H v u):Rp K H' v u:=by
 induction h with
 |non=>exact .non
 |bl b=>exact .bl b
 |int i=>exact .int i
 |str x=>exact .str x
 |ty n=>exact .ty n
 |dic h=>exact .dic (e _ _ h)
 |xc h k=>exact .xc (e _ _ h) k
 |scr h hl hi ih=>exact .scr (e.seq h) hl ih
 |tup h hl hi ih=>exact .tup (e.tup h) hl ih
 |lst h hl hi ih=>exact .lst (e _ _ h) hl ih
structure Rps (K:Ap) (H:Hp) (vs:List V) (xs:List U):Prop where
 len:vs.length=xs.length
 at_:∀(i:Nat) (v:V) (x:U),vs[i]?=some v→xs[i]?=some x→Rp K H v x
theorem Rps.same {K:Ap}{H H':Hp}{vs:List V}{xs:List U} (e:aI H H') (h:Rps K H vs xs):Rps K H' vs xs:=⟨h.len,fun i v x a b=>(h.at_ i v x a b).same e⟩
theorem Rps.nil {K:Ap}{H:Hp}:Rps K H [] []:=⟨rfl,fun i v x h=>by simp at h⟩
theorem Rps.cons {K:Ap}{H:Hp}{v:V}{x:U}{vs:List V}{xs:List U} (h:Rp K H v x) (t:Rps K H vs xs):Rps K H (v::vs) (x::xs):=by
 refine ⟨by simp[t.len],fun i a b h1 h2=>?_⟩
 cases i with
 |zero=>simp at h1 h2;subst h1;subst h2;exact h
 |succ i=>exact t.at_ i a b (by simpa using h1) (by simpa using h2)
theorem Rps.snoc {K:Ap}{H:Hp}{vs ws:List V}{xs ys:List U} (h:Rps K H vs xs) (t:Rps K H ws ys):Rps K H (vs++ws) (xs++ys):=by
 refine ⟨by simp[h.len,t.len],fun i a b h1 h2=>?_⟩
 by_cases hi:i < vs.length
 ·rw[A7 hi] at h1
  rw[A7 (by rw[←h.len];exact hi)] at h2
  exact h.at_ i a b h1 h2
 ·have hle:vs.length≤i:=DP hi
  rw[A0 hle] at h1
  rw[A0 (by rw[←h.len];exact hle),←h.len] at h2
  exact t.at_ _ a b h1 h2
theorem Rps.get {K:Ap}{H:Hp}{vs:List V}{xs:List U}{i:Nat}{x:U} (h:Rps K H vs xs) (e:xs[i]?=some x):∃v,vs[i]?=some v∧Rp K H v x:=by
 have hi:i < vs.length:=by rw[h.len];exact (AG.mp e).1
 exact ⟨vs[i],An hi,h.at_ i _ x (An hi) e⟩
theorem Rps.atI {K:Ap}{H:Hp}{vs:List V}{xs:List U}{i:Int}{x:U} (h:Rps K H vs xs) (e:L2.atI xs i=some x):∃v,L2.atI vs i=some v∧Rp K H v x:=by
 unfold L2.atI at e ⊢
 rw[h.len]
 cases q:ixN xs.length i with
 |none=>rw[q] at e;cases e
 |some j=>
  rw[q] at e
  obtain ⟨v,h1,h2⟩:=h.get (show xs[j]?=some x from e)
  exact ⟨v,h1,h2⟩
theorem Rps.cons_inv {K:Ap}{H:Hp}{vs:List V}{x:U}{xs:List U} (h:Rps K H vs (x::xs)):∃v ws,vs=v::ws∧Rp K H v x∧Rps K H ws xs:=by
 cases vs with
 |nil=>have:=h.len;simp at this
 |cons v ws=>
  refine ⟨v,ws,rfl,h.at_ 0 v x rfl rfl,by have:=h.len;simpa using this,fun i a b h1 h2=>h.at_ (i+1) a b (by simpa using h1) (by simpa using h2)⟩
theorem Rps.nil_inv {K:Ap}{H:Hp}{vs:List V} (h:Rps K H vs []):vs=[]:=Cf.mp (by rw[h.len];rfl)
inductive Sl where
 |val (u:U) |own (xs:List U) |pin (w:V) (u:U)
abbrev PSt:=List (Option Sl)
def vG (K:Ap) (H:Hp) (O O0:List Addr) (v:V):Sl→Prop
 | .val u=>Rp K (hid H O) v u
 | .own xs=>∃a vs,v=.ref a∧a∈O∧a ∉ O0∧H a=some (.lst vs)∧Rps K (hid H O) vs xs
 | .pin w u=>v=w∧Rp K (hid H O) v u
structure Rs (K:Ap) (H0:Hp) (O0:List Addr) (ps:PSt) (σ:St) (H:Hp) (O:List Addr):Prop where
 same:aI H0 H
 old:∀a∈O0,a∈O
 new:∀a∈O,a∈O0∨H0 a=none
 dom:∀a∈O,H a≠none
 len:σ.length=ps.length
 at_:∀(i:Nat) (s:Sl),ps[i]?=some (some s)→∃v,σ[i]?=some (some v)∧vG K H O O0 v s
 inj:∀(i j:Nat) (xs ys:List U) (a:Addr),ps[i]?=some (some (.own xs))→ps[j]?=some (some (.own ys))→σ[i]?=some (some (.ref a))→σ[j]?=some (some (.ref a))→i=j
section
variable {K:Ap}{H0 H H':Hp}{O0 O:List Addr}{ps:PSt}{σ:St}
theorem vG.same {v:V}{s:Sl} (e:aI H H') (h:vG K H O O0 v s):vG K H' O O0 v s:=by
 cases s with
 |val u=>exact Rp.same (aP e) h
 |own xs=>obtain ⟨a,vs,h1,h2,h3,h4,h5⟩:=h;exact ⟨a,vs,h1,h2,h3,e _ _ h4,h5.same (aP e)⟩
 |pin w u=>exact ⟨h.1,Rp.same (aP e) h.2⟩
theorem Rs.go (R:Rs K H0 O0 ps σ H O) (e:aI H H'):Rs K H0 O0 ps σ H' O:=
 ⟨R.same.trans e,R.old,R.new,fun a ha z=>R.dom a ha (e.free z),R.len,fun i s h=>let ⟨v,h1,h2⟩:=R.at_ i s h;⟨v,h1,h2.same e⟩,R.inj⟩
theorem di {α:Type}{xs:List α}{i j:Nat}{y x:α} (h:(xs.set i y)[j]?=some x):(i=j∧x=y)∨(i≠j∧xs[j]?=some x):=by
 by_cases e:i=j
 ·subst e
  rw[Fp] at h
  simp at h
  exact .inl ⟨rfl,h.2.symm⟩
 ·rw[Ba e] at h
  exact .inr ⟨e,h⟩
theorem gU {α:Type}{xs:List α}{i:Nat}{y:α} (h:i < xs.length):(xs.set i y)[i]?=some y:=by rw[Fp];simp[h]
theorem aF {α:Type}{xs:List α}{i:Nat}{y:α} (h:xs[i]?=some y):i < xs.length:=(AG.mp h).1
theorem i7 {i:Nat}{u:U}{j:Nat}{xs:List U} (h:(ps.set i (some (.val u)))[j]?=some (some (.own xs))):i≠j∧ps[j]?=some (some (.own xs)):=by
 rcases di h with ⟨_,e⟩ |h
 ·cases e
 ·exact h
theorem Rs.set {i:Nat}{v:V}{u:U} (R:Rs K H0 O0 ps σ H O) (r:Rp K (hid H O) v u):Rs K H0 O0 (ps.set i (some (.val u))) (σ.set i (some v)) H O:=by
 refine ⟨R.same,R.old,R.new,R.dom,by simp[R.len],fun j s h=>?_,fun j k xs ys a h1 h2 h3 h4=>?_⟩
 ·rcases di h with ⟨e,q⟩ |⟨n,q⟩
  ·subst e
   cases q
   have hi:=aF h
   rw[D7] at hi
   exact ⟨v,gU (by rw[R.len];exact hi),r⟩
  ·obtain ⟨w,h1,h2⟩:=R.at_ j s q
   exact ⟨w,by rw[Ba n];exact h1,h2⟩
 ·obtain ⟨n1,q1⟩:=i7 h1
  obtain ⟨n2,q2⟩:=i7 h2
  rw[Ba n1] at h3
  rw[Ba n2] at h4
  exact R.inj j k xs ys a q1 q2 h3 h4
theorem Rs.drop {i:Nat}{o:Option V} (R:Rs K H0 O0 ps σ H O):Rs K H0 O0 (ps.set i none) (σ.set i o) H O:=by
 have key:∀{j:Nat}{s:Sl},(ps.set i none)[j]?=some (some s)→i≠j∧ps[j]?=some (some s):=fun {j s} h=>by
  rcases di h with ⟨_,e⟩ |h
  ·cases e
  ·exact h
 refine ⟨R.same,R.old,R.new,R.dom,by simp[R.len],fun j s h=>?_,fun j k xs ys a h1 h2 h3 h4=>?_⟩
 ·obtain ⟨n,q⟩:=key h
  obtain ⟨w,h1,h2⟩:=R.at_ j s q
  exact ⟨w,by rw[Ba n];exact h1,h2⟩
 ·obtain ⟨n1,q1⟩:=key h1
  obtain ⟨n2,q2⟩:=key h2
  rw[Ba n1] at h3
  rw[Ba n2] at h4
  exact R.inj j k xs ys a q1 q2 h3 h4
theorem Rs.own {i:Nat}{a:Addr}{vs:List V}{xs:List U} (R:Rs K H0 O0 ps σ H O) (e:aI H H') (n:H a=none) (h:H' a=some (.lst vs)) (r:Rps K (hid H' (a::O)) vs xs):
  Rs K H0 O0 (ps.set i (some (.own xs))) (σ.set i (some (.ref a))) H' (a::O):=by
 have na:a ∉ O:=fun z=>R.dom a z n
 have na0:a ∉ O0:=fun z=>na (R.old a z)
 have n0:H0 a=none:=R.same.free n
 have noref:∀(j:Nat) (ys:List U),ps[j]?=some (some (.own ys))→σ[j]?≠some (some (.ref a)):=fun j ys h1 h2=>by
  obtain ⟨v,h3,b,ws,h4,h5,_⟩:=R.at_ j _ h1
  rw[h2] at h3
  cases h3
  cases h4
  exact na h5
 refine ⟨R.same.trans e,fun b hb=>Aw _ (R.old b hb),fun b hb=>?_,fun b hb z=>?_,by simp[R.len],fun j s q=>?_,fun j k ys zs b h1 h2 h3 h4=>?_⟩
 ·rcases AB.mp hb with y |y
  ·subst y;exact .inr n0
  ·exact R.new b y
 ·rcases AB.mp hb with y |y
  ·subst y;rw[h] at z;cases z
  ·exact R.dom b y (e.free z)
 ·rcases di q with ⟨e',q'⟩ |⟨ne,q'⟩
  ·subst e'
   cases q'
   have hi:=aF q
   rw[D7] at hi
   exact ⟨.ref a,gU (by rw[R.len];exact hi),a,vs,rfl,AF,na0,h,r⟩
  ·obtain ⟨w,h1,h2⟩:=R.at_ j s q'
   refine ⟨w,by rw[Ba ne];exact h1,?_⟩
   cases s with
   |val u=>exact Rp.same (bL e n) h2
   |own ys=>
    obtain ⟨b,ws,k1,k2,k3,k4,k5⟩:=h2
    exact ⟨b,ws,k1,Aw _ k2,k3,e _ _ k4,k5.same (bL e n)⟩
   |pin z u=>exact ⟨h2.1,Rp.same (bL e n) h2.2⟩
 ·rcases di h1 with ⟨e1,q1⟩ |⟨n1,q1⟩ <;>rcases di h2 with ⟨e2,q2⟩ |⟨n2,q2⟩
  ·rw[←e1,←e2]
  ·subst e1
   have hi:=aF h3
   rw[D7] at hi
   rw[gU hi] at h3
   cases h3
   rw[Ba n2] at h4
   exact absurd h4 (noref k zs q2)
  ·subst e2
   have hi:=aF h4
   rw[D7] at hi
   rw[gU hi] at h4
   cases h4
   rw[Ba n1] at h3
   exact absurd h3 (noref j ys q1)
  ·rw[Ba n1] at h3
   rw[Ba n2] at h4
   exact R.inj j k ys zs b q1 q2 h3 h4
theorem Rs.write {i:Nat}{a:Addr}{vs:List V}{xs ys:List U} (R:Rs K H0 O0 ps σ H O) (hp:ps[i]?=some (some (.own xs))) (hs:σ[i]?=some (some (.ref a))) (r:Rps K (hid H O) vs ys):
  Rs K H0 O0 (ps.set i (some (.own ys))) σ (upd H a (.lst vs)) O:=by
 obtain ⟨v,h1,b,ws,h2,h3,h4,h5,h6⟩:=R.at_ i _ hp
 rw[hs] at h1
 cases h1
 cases h2
 have h0:H0 a=none:=(R.new a h3).resolve_left h4
 have eh:hid (upd H a (.lst vs)) O=hid H O:=lL h3
 refine ⟨R.same.put h0 _,R.old,R.new,fun b hb z=>?_,by simp[R.len],fun j s q=>?_,fun j k zs us b q1 q2 q3 q4=>?_⟩
 ·by_cases e:b=a
  ·subst e;rw[aQ] at z;cases z
  ·rw[aL e] at z;exact R.dom b hb z
 ·rcases di q with ⟨e',q'⟩ |⟨ne,q'⟩
  ·subst e'
   cases q'
   exact ⟨.ref a,hs,a,vs,rfl,h3,h4,aQ,by rw[eh];exact r⟩
  ·obtain ⟨w,k1,k2⟩:=R.at_ j s q'
   refine ⟨w,k1,?_⟩
   cases s with
   |val u=>exact (show Rp K (hid (upd H a (.lst vs)) O) w u by rw[eh];exact k2)
   |own zs=>
    obtain ⟨b,us,e1,e2,e3,e4,e5⟩:=k2
    subst e1
    have:b≠a:=fun z=>by subst z;exact ne (R.inj i j xs zs b hp q' hs k1)
    exact ⟨b,us,rfl,e2,e3,by rw[aL this];exact e4,by rw[eh];exact e5⟩
   |pin z u=>exact ⟨k2.1,by rw[eh];exact k2.2⟩
 ·have c1:∃zs',ps[j]?=some (some (.own zs')):=by
   rcases di q1 with ⟨e,_⟩ |⟨_,z⟩
   ·subst e;exact ⟨_,hp⟩
   ·exact ⟨_,z⟩
  have c2:∃zs',ps[k]?=some (some (.own zs')):=by
   rcases di q2 with ⟨e,_⟩ |⟨_,z⟩
   ·subst e;exact ⟨_,hp⟩
   ·exact ⟨_,z⟩
  obtain ⟨_,c1⟩:=c1
  obtain ⟨_,c2⟩:=c2
  exact R.inj j k _ _ b c1 c2 q3 q4
def SubP:PSt→PSt→Prop
 |[],[]=>True
 |none::p,_::q=>SubP p q
 |some s::p,t::q=>t=some s∧SubP p q
 |_,_=>False
theorem SubP.at_:∀{p q:PSt},SubP p q→p.length=q.length∧∀(i:Nat) (s:Sl),p[i]?=some (some s)→q[i]?=some (some s)
 |[],[],_=>⟨rfl,fun i s h=>by simp at h⟩
 |none::p,t::q,h=>by
  obtain ⟨h1,h2⟩:=SubP.at_ (p:=p) (q:=q) h
  refine ⟨by simp[h1],fun i s e=>?_⟩
  cases i with
  |zero=>simp at e
  |succ i=>exact h2 i s (by simpa using e)
 |some s0::p,t::q,h=>by
  obtain ⟨h0,h⟩:=h
  obtain ⟨h1,h2⟩:=SubP.at_ (p:=p) (q:=q) h
  refine ⟨by simp[h1],fun i s e=>?_⟩
  cases i with
  |zero=>simp at e;subst e;rw[h0];rfl
  |succ i=>exact h2 i s (by simpa using e)
 |[],_::_,h=>h.elim
 |none::_,[],h=>h.elim
 |some _::_,[],h=>h.elim
theorem Rs.sub {ps':PSt} (R:Rs K H0 O0 ps σ H O) (h:SubP ps' ps):Rs K H0 O0 ps' σ H O:=by
 obtain ⟨h1,h2⟩:=h.at_
 exact ⟨R.same,R.old,R.new,R.dom,R.len.trans h1.symm,fun i s e=>R.at_ i s (h2 i s e),fun i j xs ys a e1 e2=>R.inj i j xs ys a (h2 _ _ e1) (h2 _ _ e2)⟩
end
def Ev (X:Cx) (H0:Hp) (O0:List Addr) (ps:PSt) (e:Expr) (u:U):Prop:=
 PE X e fun σ H Q=>∃O,Rs X.K H0 O0 ps σ H O∧∀v H',aI H H'→Rp X.K (hid H' O) v u→Q v H'
def EvN (X:Cx) (H0:Hp) (O0:List Addr) (ps:PSt) (e:Expr) (xs:List U):Prop:=
 PE X e fun σ H Q=>∃O,Rs X.K H0 O0 ps σ H O∧∀a vs H',aI H H'→H a=none→H' a=some (.lst vs)→Rps X.K (hid H' (a::O)) vs xs→Q (.ref a) H'
def Tt (X:Cx) (H0:Hp) (O0:List Addr) (ps:PSt) (e:Expr) (b:Bool):Prop:=
 PT X e fun σ H Q=>∃O,Rs X.K H0 O0 ps σ H O∧∀H',aI H H'→Q b H'
def Tw (X:Cx) (H0:Hp) (O0:List Addr) (ps:PSt) (e:Expr) (b:Bool):Prop:=
 PW X e fun σ H Q=>∃O,Rs X.K H0 O0 ps σ H O∧∀H',aI H H'→Q b H'
def EvA (X:Cx) (H0:Hp) (O0:List Addr) (ps:PSt) (es:List Expr) (us:List U):Prop:=
 PA X es fun σ H Q=>∃O,Rs X.K H0 O0 ps σ H O∧∀vs H',aI H H'→Rps X.K (hid H' O) vs us→Q vs H'
theorem PE.mono {X:Cx}{e:Expr}{t t':TE} (h:PE X e t) (m:∀σ H Q,t' σ H Q→t σ H Q):PE X e t':=fun pins s σ H Q I q=>h pins s σ H Q I (m σ H Q q)
theorem PT.mono {X:Cx}{e:Expr}{t t':TT} (h:PT X e t) (m:∀σ H Q,t' σ H Q→t σ H Q):PT X e t':=fun pins s σ H Q I q=>h pins s σ H Q I (m σ H Q q)
theorem PW.mono {X:Cx}{e:Expr}{t t':TT} (h:PW X e t) (m:∀σ H Q,t' σ H Q→t σ H Q):PW X e t':=fun wh pins s σ H Q I q=>h wh pins s σ H Q I (m σ H Q q)
theorem PA.mono {X:Cx}{e:List Expr}{t t':TA} (h:PA X e t) (m:∀σ H Q,t' σ H Q→t σ H Q):PA X e t':=fun pos pins s σ H Q I q=>h pos pins s σ H Q I (m σ H Q q)
theorem PS.mono {X:Cx}{e:Stmt}{t t':TS} (h:PS X e t) (m:∀D σ H,t' D σ H→t D σ H):PS X e t':=fun pins s σ H D I q=>h pins s σ H D I (m D σ H q)
theorem PSs.mono {X:Cx}{e:List Stmt}{t t':TS} (h:PSs X e t) (m:∀D σ H,t' D σ H→t D σ H):PSs X e t':=fun pins s σ H D I q=>h pins s σ H D I (m D σ H q)
section
variable {X:Cx}{H0:Hp}{O0:List Addr}{ps:PSt}{a b c e:Expr}{es:List Expr}{pos p:Pos}{u x y:U}{xs ys us:List U}{i j:Int}
theorem EvN.ev (h:EvN X H0 O0 ps e xs):Ev X H0 O0 ps e (.lst xs):=PE.mono h fun σ H Q ⟨O,R,k⟩=>⟨O,R,fun a vs H' s n h r=>by
 have na:a ∉ O:=fun z=>R.dom a z n
 have less:aI (hid H' (a::O)) (hid H' O):=dH fun b hb=>Aw _ hb
 exact k _ H' s (.lst (dj h na) (r.same less).len (r.same less).at_)⟩
theorem aa (i:Nat) {x:Str}{u:U} (h:ps[i]?=some (some (.val u))) (hN:X.N[i]?=some x:=by rfl) (hv:Vis X.env.scope x:=by first |exact Or.inl rfl |exact Or.inr (Or.inl rfl) |exact Or.inr (Or.inr rfl)) (hd:(x==("__debug__":Str))=false:=by decide)
  (hcd:(x==("__classdict__":Str))=false:=by decide):Ev X H0 O0 ps (.Name x pos) u:=PE.mono (iw hN hv hd hcd) fun σ H Q ⟨O,R,k⟩=>by
 obtain ⟨v,h1,h2⟩:=R.at_ i _ h
 exact ⟨v,h1,k v H (.refl H) h2⟩
theorem ab {i j pos}:Ev X H0 O0 ps (.Constant (.int i) j pos) (.int i):=PE.mono yg fun _ H _ ⟨_,_,k⟩=>k _ H (.refl H) (.int i)
theorem zX {i j pos}:Ev X H0 O0 ps (.Constant (.bool i) j pos) (.bl i):=PE.mono yS fun _ H _ ⟨_,_,k⟩=>k _ H (.refl H) (.bl i)
theorem wC {j pos}:Ev X H0 O0 ps (.Constant .none j pos) .non:=PE.mono xU fun _ H _ ⟨_,_,k⟩=>k _ H (.refl H) .non
theorem oE {x:Str}{n:String}{pos:Pos} (hg:Gl X x) (hm:X.mg x=none) (hv:Cp x=some (.type n)) (hn:x≠"__name__":=by decide) (hd:(x==("__debug__":Str))=false:=by decide):Ev X H0 O0 ps (.Name x pos) (.ty (.nm n)):=
 PE.mono (yK hg hm hv hn hd) fun _ H _ ⟨_,_,k⟩=>k _ H (.refl H) (.ty n)
theorem two {ta tb:TE}{σ:St}{H:Hp}{Q:VK}{O:List Addr}{r:R2} (R:Rs X.K H0 O0 ps σ H O)
  (ha:∀σ H Q,(∃O,Rs X.K H0 O0 ps σ H O∧∀v H',aI H H'→Rp X.K (hid H' O) v x→Q v H')→ta σ H Q) (hb:∀σ H Q,(∃O,Rs X.K H0 O0 ps σ H O∧∀v H',aI H H'→Rp X.K (hid H' O) v y→Q v H')→tb σ H Q)
  (h:∀v w H',aI H H'→Rs X.K H0 O0 ps σ H' O→Rp X.K (hid H' O) v x→Rp X.K (hid H' O) w y→r v w H' Q):tOp r ta tb σ H Q:=
 ha σ H _ ⟨O,R,fun v H1 s1 r1=>hb σ H1 _ ⟨O,R.go s1,fun w H2 s2 r2=>h v w H2 (s1.trans s2) (R.go (s1.trans s2)) (r1.same (aP s2)) r2⟩⟩
theorem wv {op:Je}{g:Int→Int→Int} (ho:OpR X (Er op) (rI0 fun i j=>.int (g i j))) (ha:Ev X H0 O0 ps a (.int i)) (hb:Ev X H0 O0 ps b (.int j)):Ev X H0 O0 ps (.BinOp a op b pos) (.int (g i j)):=
 PE.mono (sO ho ha hb) fun σ H Q ⟨O,R,k⟩=>two (x:=.int i) (y:=.int j) R (fun _ _ _ z=>z) (fun _ _ _ z=>z) fun v w H' s _ r1 r2=>by
  cases r1;cases r2;exact ⟨i,j,rfl,rfl,k _ H' s (.int _)⟩
theorem nA {op:Je}{C:Int→Int→Prop}{g:Int→Int→Int} (ho:OpR X (Er op) (rI C fun i j=>.int (g i j))) (ha:Ev X H0 O0 ps a (.int i)) (hb:Ev X H0 O0 ps b (.int j)) (hc:C i j):Ev X H0 O0 ps (.BinOp a op b pos) (.int (g i j)):=
 PE.mono (sO ho ha hb) fun σ H Q ⟨O,R,k⟩=>two (x:=.int i) (y:=.int j) R (fun _ _ _ z=>z) (fun _ _ _ z=>z) fun v w H' s _ r1 r2=>by
  cases r1;cases r2;exact ⟨i,j,rfl,rfl,hc,k _ H' s (.int _)⟩
theorem ca (ha:Ev X H0 O0 ps a (.int i)) (hb:Ev X H0 O0 ps b (.int j)):Ev X H0 O0 ps (.BinOp a .Add b pos) (.int (i+j)):=wv wV ha hb
theorem bu (ha:Ev X H0 O0 ps a (.int i)) (hb:Ev X H0 O0 ps b (.int j)):Ev X H0 O0 ps (.BinOp a .Sub b pos) (.int (i - j)):=wv x6 ha hb
theorem aK (ha:Ev X H0 O0 ps a (.int i)) (hb:Ev X H0 O0 ps b (.int j)) (hc:IntMulOk i j):Ev X H0 O0 ps (.BinOp a .Mult b pos) (.int (i*j)):=nA vI ha hb hc
theorem dE (ha:Ev X H0 O0 ps a (.int i)) (hb:Ev X H0 O0 ps b (.int j)) (hc:wG i j):Ev X H0 O0 ps (.BinOp a .FloorDiv b pos) (.int (i / j)):=nA tY ha hb hc
theorem yc (ha:Ev X H0 O0 ps a (.int i)) (hb:Ev X H0 O0 ps b (.int j)) (hc:wL i j):Ev X H0 O0 ps (.BinOp a .FloorDiv b pos) (.int (i.fdiv j)):=nA sC ha hb hc
theorem cB (ha:Ev X H0 O0 ps a (.int i)) (hb:Ev X H0 O0 ps b (.int j)) (hc:0 < j):Ev X H0 O0 ps (.BinOp a .Mod b pos) (.int (i % j)):=nA xZ ha hb hc
theorem iH (ha:Ev X H0 O0 ps a (.int i)) (hb:Ev X H0 O0 ps b (.int j)) (hc:yX i j):Ev X H0 O0 ps (.BinOp a .Pow b pos) (.int (i ^ j.toNat)):=nA xy ha hb hc
theorem bK (ha:Ev X H0 O0 ps a (.int i)):Ev X H0 O0 ps (.UnaryOp .USub a pos) (.int (-i)):=
 PE.mono (y8 xB ha) fun σ H Q ⟨O,R,k⟩=>⟨O,R,fun v H' s r=>by cases r;exact ⟨i,rfl,k _ H' s (.int _)⟩⟩
end
mutual
def eqW:U→U→Bool
 | .non,.non=>true
 | .bl a,.bl b=>a==b
 | .bl a,.int j=>(if a then 1 else 0)==j
 | .int i,.bl b=>i==(if b then 1 else 0)
 | .int i,.int j=>i==j
 | .str a,.str b=>a==b
 | .tup xs,.tup ys=>eqWs xs ys
 | .lst xs,.lst ys=>eqWs xs ys
 | .lst xs,.scr ys=>eqWs xs ys
 | .scr xs,.lst ys=>eqWs xs ys
 | .scr xs,.scr ys=>eqWs xs ys
 |_,_=>false
def eqWs:List U→List U→Bool
 |[],[]=>true
 |x::xs,y::ys=>eqW x y && eqWs xs ys
 |_,_=>false
end
mutual
def okU:Nat→U→Bool
 |_,.ty _=>false
 |_,.dic=>false
 |0,.tup _=>false
 |0,.lst _=>false
 |0,.scr _=>false
 |n+1,.tup xs=>okUs n xs
 |n+1,.lst xs=>okUs n xs
 |n+1,.scr xs=>okUs n xs
 |_,_=>true
def okUs:Nat→List U→Bool
 |_,[]=>true
 |n,x::xs=>okU n x && okUs n xs
end
theorem iV:∀{n:Nat}{xs:List U}{i:Nat}{x:U},okUs n xs=true→xs[i]?=some x→okU n x=true
 |n,[],i,x,_,h=>by simp at h
 |n,y::xs,0,x,h,e=>by simp at e;subst e;simp[okUs] at h;exact h.1
 |n,y::xs,i+1,x,h,e=>by simp[okUs] at h;exact iV (i:=i) h.2 (by simpa using e)
theorem dc:∀(xs ys:List U),((Bi (min xs.length ys.length)).all (fun j=>eqW (xs.getD j .non) (ys.getD j .non)) && xs.length==ys.length)=eqWs xs ys
 |[],[]=>rfl
 |[],y::ys=>by simp[eqWs]
 |x::xs,[]=>by simp[eqWs]
 |x::xs,y::ys=>by
  have ih:=dc xs ys
  rw[eqWs,←ih]
  simp only[A_,Nat.succ_min_succ]
  rw[List.range_succ_eq_map,EO,List.all_map]
  have e:((xs.length+1==ys.length+1))=(xs.length==ys.length):=by simp
  rw[e,Bool.and_assoc]
  rfl
theorem Rp.one {X:Cx}{pins:List (Addr×Obj)}{σ:St}{H:Hp}{s:As} (I:Inv X pins σ H s) {v:V}{x:U} (h:Rp X.K H v x):∀{n:Nat}{y:U},Rp X.K H v y→okU n x=true→eqW x y=true:=by
 have key:∀{vs ws:List V}{xs ys:List U},vs=ws→vs.length=xs.length→ws.length=ys.length→(∀(i:Nat) (x y:U),xs[i]?=some x→ys[i]?=some y→eqW x y=true)→eqWs xs ys=true:=fun {vs ws xs ys} e h1 h2 hh=>by
  subst e
  rw[←dc,BV,jT]
  refine ⟨fun j hj=>?_,by simp[←h1,←h2]⟩
  have j1:j < xs.length:=by omega
  have j2:j < ys.length:=by omega
  rw[Ax,An j1,Ax,An j2]
  exact hh j _ _ (An j1) (An j2)
 have key2:∀{vs:List V}{xs ys:List U}{n:Nat},vs.length=xs.length→(∀(i:Nat) (v:V) (x:U),vs[i]?=some v→xs[i]?=some x→∀{n:Nat}{y:U},Rp X.K H v y→okU n x=true→eqW x y=true)→(∀(i:Nat) (v:V) (y:U),vs[i]?=some v→ys[i]?=some y→Rp X.K H v y)→okUs n xs=true→
   ∀(i:Nat) (x y:U),xs[i]?=some x→ys[i]?=some y→eqW x y=true:=fun {vs xs ys n} h1 ih hi ok i x y e1 e2=>by
  have hlt:i < vs.length:=by rw[h1];exact aF e1
  exact ih i _ x (An hlt) e1 (hi i _ y (An hlt) e2) (iV ok e1)
 induction h with
 |non=>intro n y q _;cases q;rfl
 |bl b=>intro n y q _;cases q;simp[eqW]
 |int i=>intro n y q _;cases q;simp[eqW]
 |str i=>intro n y q _;cases q;simp[eqW]
 |ty=>intro n y q ok;simp[okU] at ok
 |dic=>intro n y q ok;simp[okU] at ok
 |xc=>intro n y q ok;simp[okU] at ok
 | @scr a vs xs hq hl hi ih=>
  intro n y q ok
  cases n with
  |zero=>simp[okU] at ok
  |succ n=>
   rw[okU] at ok
   cases q with
   |scr hq' hl' hi'=>rw[eqW];have e:=I.list_inj hq hq';subst e;exact key rfl hl hl' (key2 hl (fun i v x a b=>ih i v x a b) hi' ok)
   |lst hq' hl' hi'=>rw[eqW];have e:=I.list_inj hq (SqL.of hq');subst e;exact key rfl hl hl' (key2 hl (fun i v x a b=>ih i v x a b) hi' ok)
   |xc hq' kk=>
    exfalso
    obtain ⟨_,_,pl,_⟩:=I.list hq
    obtain ⟨o,n,e,c,_⟩:=pl
    exact PySem.W.XcOk.off (I.hok _ _ hq').1 e c
   |dic hq'=>
    exfalso
    obtain ⟨_,_,pl,_⟩:=I.list hq
    obtain ⟨o,n,e,c,_⟩:=pl
    obtain ⟨_,_,_,_,o',_,_,e',ex,_⟩:=I.hok _ _ hq'
    rw[e] at e';cases e'
    rw[ex.1] at c;exact absurd (IC c) (by decide)
   |tup hq' hl' hi'=>
    exfalso
    obtain ⟨_,_,pl,_⟩:=I.list hq
    obtain ⟨_,_,pt,_⟩:=I.tuple hq'
    exact SeqAt.ne_of_list_tuple pl.isList pt rfl
 | @tup a vs xs hq hl hi ih=>
  intro n y q ok
  cases n with
  |zero=>simp[okU] at ok
  |succ n=>
   rw[okU] at ok
   cases q with
   |tup hq' hl' hi'=>rw[eqW];have e:=I.tuple_inj hq hq';subst e;exact key rfl hl hl' (key2 hl (fun i v x a b=>ih i v x a b) hi' ok)
   |scr hq' hl' hi'=>
    exfalso
    obtain ⟨_,_,pl,_⟩:=I.list hq'
    obtain ⟨_,_,pt,_⟩:=I.tuple hq
    exact SeqAt.ne_of_list_tuple pl.isList pt rfl
   |lst hq' hl' hi'=>
    exfalso
    obtain ⟨_,_,pl,_⟩:=I.list (SqL.of hq')
    obtain ⟨_,_,pt,_⟩:=I.tuple hq
    exact SeqAt.ne_of_list_tuple pl.isList pt rfl
   |xc hq' kk=>
    exfalso
    obtain ⟨_,_,pt,_⟩:=I.tuple hq
    obtain ⟨o,e,c,_⟩:=pt
    exact PySem.W.XcOk.off (I.hok _ _ hq').1 e c
   |dic hq'=>
    exfalso
    obtain ⟨_,_,pt,_⟩:=I.tuple hq
    obtain ⟨o,e,c,_⟩:=pt
    obtain ⟨_,_,_,_,o',_,_,e',ex,_⟩:=I.hok _ _ hq'
    rw[e] at e';cases e'
    rw[ex.1] at c;exact absurd (IC c) (by decide)
 | @lst a vs xs hq hl hi ih=>
  intro n y q ok
  cases n with
  |zero=>simp[okU] at ok
  |succ n=>
   rw[okU] at ok
   cases q with
   |lst hq' hl' hi'=>rw[eqW];have e:=I.list_inj (SqL.of hq) (SqL.of hq');subst e;exact key rfl hl hl' (key2 hl (fun i v x a b=>ih i v x a b) hi' ok)
   |scr hq' hl' hi'=>rw[eqW];have e:=I.list_inj (SqL.of hq) hq';subst e;exact key rfl hl hl' (key2 hl (fun i v x a b=>ih i v x a b) hi' ok)
   |tup hq' hl' hi'=>
    exfalso
    obtain ⟨_,_,pl,_⟩:=I.list (SqL.of hq)
    obtain ⟨_,_,pt,_⟩:=I.tuple hq'
    exact SeqAt.ne_of_list_tuple pl.isList pt rfl
   |xc hq' kk=>
    exfalso
    rw[hq] at hq';cases hq'
   |dic hq'=>
    exfalso
    rw[hq] at hq';cases hq'
theorem IsU.list {X:Cx}{pins:List (Addr×Obj)}{σ:St}{H:Hp}{s:As} (I:Inv X pins σ H s) {a:Addr}{xs:List U}{vs:List V} (h:SqL X.K H a vs) (hl:vs.length=xs.length):∃its:List Value,aR vs its∧s.heap.IsList a its.toArray∧its.length=xs.length:=by
 obtain ⟨its,r,pl,_⟩:=I.list h
 exact ⟨its,r,pl.isList,by rw[←r.length,hl]⟩
theorem IsU.tup {X:Cx}{pins:List (Addr×Obj)}{σ:St}{H:Hp}{s:As} (I:Inv X pins σ H s) {a:Addr}{xs:List U}{vs:List V} (h:SqT X.K H a vs) (hl:vs.length=xs.length):∃its:List Value,aR vs its∧IsTup s.heap a its.toArray∧its.length=xs.length:=by
 obtain ⟨its,r,pl,_⟩:=I.tuple h
 exact ⟨its,r,pl,by rw[←r.length,hl]⟩
section
variable {X:Cx}{pins:List (Addr×Obj)}{σ:St}{H:Hp}{s:As}
theorem cG (I:Inv X pins σ H s) {n:Nat}{vs ws:List V}{xs ys:List U}{its its2:List Value} (r1:aR vs its) (r2:aR ws its2) (hl1:vs.length=xs.length) (hl2:ws.length=ys.length)
  (h1:∀(i:Nat) (v:V) (x:U),vs[i]?=some v→xs[i]?=some x→Rp X.K H v x) (h2:∀(i:Nat) (v:V) (x:U),ws[i]?=some v→ys[i]?=some x→Rp X.K H v x) (ok1:okUs n xs=true) (ok2:okUs n ys=true) {A:A5}
  (rc0:∀(x y:U) (v w:V) (p q:Value),Rp X.K H v x→Rp X.K H w y→aW v p→aW w q→okU n x=true→okU n y=true→SeqAt.RcAt A.in1 s p q (eqW x y)) (hu:A.units+n+1 < cLine)
  (j:Nat) (j1:j < its.length) (j2:j < its2.length):SeqAt.EqAt A.in1 s its[j] its2[j] (eqW (xs.getD j .non) (ys.getD j .non)):=by
 have a1:j < vs.length:=by rw[r1.length];exact j1
 have a2:j < ws.length:=by rw[r2.length];exact j2
 have b1:j < xs.length:=by omega
 have b2:j < ys.length:=by omega
 rw[Ax,An b1,Ax,An b2,DQ,DQ]
 have R1:=h1 j vs[j] xs[j] (An a1) (An b1)
 have R2:=h2 j ws[j] ys[j] (An a2) (An b2)
 obtain ⟨u1,e1,q1⟩:=r1.get (An a1)
 obtain ⟨u2,e2,q2⟩:=r2.get (An a2)
 rw[An j1] at e1
 rw[An j2] at e2
 cases e1;cases e2
 have o1:=iV ok1 (An b1)
 have o2:=iV ok2 (An b2)
 generalize vs[j]=v at *
 generalize ws[j]=w at *
 generalize its[j]=p at *
 generalize its2[j]=q at *
 generalize xs[j]=x at *
 generalize ys[j]=y at *
 have main:=rc0 x y v w p q R1 R2 q1 q2 o1 o2
 have ref_ref:∀(a b:Addr),p=.ref a→q=.ref b→SeqAt.EqAt A.in1 s p q (eqW x y):=fun a b ea eb=>by
  subst ea eb
  by_cases e:a=b
  ·subst e
   have e2:v=w:=q1.inj q2
   subst e2
   rw[R1.one I R2 o1]
   exact SeqAt.EqAt.same _
  ·exact SeqAt.EqAt.of_refs e main
 have hu1:A.in1.units < cLine:=by show A.units+1 < _;omega
 cases R1 with
 |non=>
  cases (show p=AY from q1)
  cases R2 with
  |non=>cases (show q=AY from q2);exact SeqAt.EqAt.same _
  |bl b=>cases (show q=Bg b from q2);exact SeqAt.EqAt.none_bool b
  |int i=>obtain ⟨t,rfl⟩:=(show ∃t,q=Be i t from q2);exact SeqAt.EqAt.none_int i t
  |str i=>obtain ⟨t,rfl⟩:=(show ∃t,q=Bq i t from q2);exact SeqAt.EqAt.none_str i t
  |ty=>simp[okU] at o2
  |dic=>simp[okU] at o2
  |xc=>simp[okU] at o2
  |scr hq hl hi=>cases q2;obtain ⟨_,_,pl,_⟩:=IsU.list I hq hl;exact SeqAt.EqAt.none_list pl hu1
  |tup hq hl hi=>cases q2;obtain ⟨_,_,pl,_⟩:=IsU.tup I hq hl;exact SeqAt.EqAt.none_tuple pl hu1
  |lst hq hl hi=>cases q2;obtain ⟨_,_,pl,_⟩:=IsU.list I (SqL.of hq) hl;exact SeqAt.EqAt.none_list pl hu1
 |bl c=>
  cases (show p=Bg c from q1)
  cases R2 with
  |non=>cases (show q=AY from q2);exact SeqAt.EqAt.bool_none c
  |bl b=>cases (show q=Bg b from q2);exact SeqAt.EqAt.bool_bool c b
  |int i=>obtain ⟨t,rfl⟩:=(show ∃t,q=Be i t from q2);exact SeqAt.EqAt.bool_int c i t
  |str i=>obtain ⟨t,rfl⟩:=(show ∃t,q=Bq i t from q2);exact SeqAt.EqAt.bool_str c i t
  |ty=>simp[okU] at o2
  |dic=>simp[okU] at o2
  |xc=>simp[okU] at o2
  |scr hq hl hi=>cases q2;obtain ⟨_,_,pl,_⟩:=IsU.list I hq hl;exact SeqAt.EqAt.bool_list c pl hu1
  |tup hq hl hi=>cases q2;obtain ⟨_,_,pl,_⟩:=IsU.tup I hq hl;exact SeqAt.EqAt.bool_tuple c pl hu1
  |lst hq hl hi=>cases q2;obtain ⟨_,_,pl,_⟩:=IsU.list I (SqL.of hq) hl;exact SeqAt.EqAt.bool_list c pl hu1
 |int c=>
  obtain ⟨t0,rfl⟩:=(show ∃t,p=Be c t from q1)
  cases R2 with
  |non=>cases (show q=AY from q2);exact SeqAt.EqAt.int_none c t0
  |bl b=>cases (show q=Bg b from q2);exact SeqAt.EqAt.int_bool c t0 b
  |int i=>obtain ⟨t,rfl⟩:=(show ∃t,q=Be i t from q2);exact SeqAt.EqAt.int_int c t0 i t
  |str i=>obtain ⟨t,rfl⟩:=(show ∃t,q=Bq i t from q2);exact SeqAt.EqAt.int_str c t0 i t
  |ty=>simp[okU] at o2
  |dic=>simp[okU] at o2
  |xc=>simp[okU] at o2
  |scr hq hl hi=>cases q2;obtain ⟨_,_,pl,_⟩:=IsU.list I hq hl;exact SeqAt.EqAt.int_list c t0 pl hu1
  |tup hq hl hi=>cases q2;obtain ⟨_,_,pl,_⟩:=IsU.tup I hq hl;exact SeqAt.EqAt.int_tuple c t0 pl hu1
  |lst hq hl hi=>cases q2;obtain ⟨_,_,pl,_⟩:=IsU.list I (SqL.of hq) hl;exact SeqAt.EqAt.int_list c t0 pl hu1
 |str c=>
  obtain ⟨t0,rfl⟩:=(show ∃t,p=Bq c t from q1)
  cases R2 with
  |non=>cases (show q=AY from q2);exact SeqAt.EqAt.str_none c t0
  |bl b=>cases (show q=Bg b from q2);exact SeqAt.EqAt.str_bool c t0 b
  |int i=>obtain ⟨t,rfl⟩:=(show ∃t,q=Be i t from q2);exact SeqAt.EqAt.str_int c t0 i t
  |str i=>obtain ⟨t,rfl⟩:=(show ∃t,q=Bq i t from q2);exact SeqAt.EqAt.str_str c t0 i t
  |ty=>simp[okU] at o2
  |dic=>simp[okU] at o2
  |xc=>simp[okU] at o2
  |scr hq hl hi=>cases q2;obtain ⟨_,_,pl,_⟩:=IsU.list I hq hl;exact SeqAt.EqAt.str_list c t0 pl hu1
  |tup hq hl hi=>cases q2;obtain ⟨_,_,pl,_⟩:=IsU.tup I hq hl;exact SeqAt.EqAt.str_tuple c t0 pl hu1
  |lst hq hl hi=>cases q2;obtain ⟨_,_,pl,_⟩:=IsU.list I (SqL.of hq) hl;exact SeqAt.EqAt.str_list c t0 pl hu1
 |ty=>simp[okU] at o1
 |dic=>simp[okU] at o1
 |xc=>simp[okU] at o1
 | @scr a vs xs hq hl hi=>
  cases q1
  obtain ⟨_,_,pl,_⟩:=IsU.list I hq hl
  cases R2 with
  |non=>cases (show q=AY from q2);exact SeqAt.EqAt.list_none pl hu1
  |bl b=>cases (show q=Bg b from q2);exact SeqAt.EqAt.list_bool b pl hu1
  |int i=>obtain ⟨t,rfl⟩:=(show ∃t,q=Be i t from q2);exact SeqAt.EqAt.list_int i t pl hu1
  |str i=>obtain ⟨t,rfl⟩:=(show ∃t,q=Bq i t from q2);exact SeqAt.EqAt.list_str i t pl hu1
  |ty=>simp[okU] at o2
  |dic=>simp[okU] at o2
  |xc=>simp[okU] at o2
  |scr=>exact ref_ref _ _ rfl q2
  |tup=>exact ref_ref _ _ rfl q2
  |lst=>exact ref_ref _ _ rfl q2
 | @lst a vs xs hq hl hi=>
  cases q1
  obtain ⟨_,_,pl,_⟩:=IsU.list I (SqL.of hq) hl
  cases R2 with
  |non=>cases (show q=AY from q2);exact SeqAt.EqAt.list_none pl hu1
  |bl b=>cases (show q=Bg b from q2);exact SeqAt.EqAt.list_bool b pl hu1
  |int i=>obtain ⟨t,rfl⟩:=(show ∃t,q=Be i t from q2);exact SeqAt.EqAt.list_int i t pl hu1
  |str i=>obtain ⟨t,rfl⟩:=(show ∃t,q=Bq i t from q2);exact SeqAt.EqAt.list_str i t pl hu1
  |ty=>simp[okU] at o2
  |dic=>simp[okU] at o2
  |xc=>simp[okU] at o2
  |scr=>exact ref_ref _ _ rfl q2
  |tup=>exact ref_ref _ _ rfl q2
  |lst=>exact ref_ref _ _ rfl q2
 | @tup a vs xs hq hl hi=>
  cases q1
  obtain ⟨_,_,pl,_⟩:=IsU.tup I hq hl
  cases R2 with
  |non=>cases (show q=AY from q2);exact SeqAt.EqAt.tuple_none pl hu1
  |bl b=>cases (show q=Bg b from q2);exact SeqAt.EqAt.tuple_bool b pl hu1
  |int i=>obtain ⟨t,rfl⟩:=(show ∃t,q=Be i t from q2);exact SeqAt.EqAt.tuple_int i t pl hu1
  |str i=>obtain ⟨t,rfl⟩:=(show ∃t,q=Bq i t from q2);exact SeqAt.EqAt.tuple_str i t pl hu1
  |ty=>simp[okU] at o2
  |dic=>simp[okU] at o2
  |xc=>simp[okU] at o2
  |scr=>exact ref_ref _ _ rfl q2
  |tup=>exact ref_ref _ _ rfl q2
  |lst=>exact ref_ref _ _ rfl q2
theorem gR {A:A5}{n:Nat}{a b:Addr}{xs ys:List U}{its its2:List Value} (p1:s.heap.IsList a its.toArray) (p2:s.heap.IsList b its2.toArray) (l1:its.length=xs.length) (l2:its2.length=ys.length) (hu:A.units+n < cLine)
  (he:∀(j:Nat) (j1:j < its.length) (j2:j < its2.length),SeqAt.EqAt A.in1 s its[j] its2[j] (eqW (xs.getD j .non) (ys.getD j .non))):SeqAt.RcAt A s (.ref a) (.ref b) (eqWs xs ys):=by
 by_cases hl:its.length=its2.length
 ·have:=SeqAt.RcAt.lists (A:=A) (s:=s) (e:=fun j=>eqW (xs.getD j .non) (ys.getD j .non)) p1 p2 (by simpa using hl) (by omega) (fun j h1 h2=>by simpa using he j (by simpa using h1) (by simpa using h2))
  rw[←dc,←l1,←l2,hl,Jt,beq_self_eq_true,G0]
  rwa [AV,hl] at this
 ·have:=SeqAt.RcAt.lists_lengths (A:=A) (s:=s) p1 p2 (by simpa using hl) (by omega)
  rw[←dc,←l1,←l2,show (its.length==its2.length)=false by simpa using hl,GE]
  exact this
theorem vd {A:A5}{n:Nat}{a b:Addr}{xs ys:List U}{its its2:List Value} (p1:IsTup s.heap a its.toArray) (p2:IsTup s.heap b its2.toArray) (l1:its.length=xs.length) (l2:its2.length=ys.length) (hu:A.units+n < cLine)
  (he:∀(j:Nat) (j1:j < its.length) (j2:j < its2.length),SeqAt.EqAt A.in1 s its[j] its2[j] (eqW (xs.getD j .non) (ys.getD j .non))):SeqAt.RcAt A s (.ref a) (.ref b) (eqWs xs ys):=by
 have:=SeqAt.RcAt.tuples (A:=A) (s:=s) (e:=fun j=>eqW (xs.getD j .non) (ys.getD j .non)) p1 p2 (by omega) (fun j h1 h2=>by simpa using he j (by simpa using h1) (by simpa using h2))
 rw[AV,AV,l1,l2,dc] at this
 exact this
theorem zi (I:Inv X pins σ H s):∀(n:Nat) (A:A5) (x y:U) (v w:V) (p q:Value),Rp X.K H v x→Rp X.K H w y→aW v p→aW w q→okU n x=true→okU n y=true→A.units+n < cLine→SeqAt.RcAt A s p q (eqW x y):=by
 intro n
 induction n with
 |zero=>
  intro A x y v w p q R1 R2 q1 q2 o1 o2 hu
  cases R1 with
  |non=>
   cases (show p=AY from q1)
   cases R2 with
   |non=>cases (show q=AY from q2);exact SeqAt.RcAt.none_none
   |bl b=>cases (show q=Bg b from q2);exact SeqAt.RcAt.none_bool b
   |int i=>obtain ⟨t,rfl⟩:=(show ∃t,q=Be i t from q2);exact SeqAt.RcAt.none_int i t
   |str i=>obtain ⟨t,rfl⟩:=(show ∃t,q=Bq i t from q2);exact SeqAt.RcAt.none_str i t
   |_=>simp[okU] at o2
  |bl c=>
   cases (show p=Bg c from q1)
   cases R2 with
   |non=>cases (show q=AY from q2);exact SeqAt.RcAt.bool_none c
   |bl b=>cases (show q=Bg b from q2);exact SeqAt.RcAt.bool_bool c b
   |int i=>obtain ⟨t,rfl⟩:=(show ∃t,q=Be i t from q2);exact SeqAt.RcAt.bool_int c i t
   |str i=>obtain ⟨t,rfl⟩:=(show ∃t,q=Bq i t from q2);exact SeqAt.RcAt.bool_str c i t
   |_=>simp[okU] at o2
  |int c=>
   obtain ⟨t0,rfl⟩:=(show ∃t,p=Be c t from q1)
   cases R2 with
   |non=>cases (show q=AY from q2);exact SeqAt.RcAt.int_none c t0
   |bl b=>cases (show q=Bg b from q2);exact SeqAt.RcAt.int_bool c t0 b
   |int i=>obtain ⟨t,rfl⟩:=(show ∃t,q=Be i t from q2);exact SeqAt.RcAt.int_int c t0 i t
   |str i=>obtain ⟨t,rfl⟩:=(show ∃t,q=Bq i t from q2);exact SeqAt.RcAt.int_str c t0 i t
   |_=>simp[okU] at o2
  |str c=>
   obtain ⟨t0,rfl⟩:=(show ∃t,p=Bq c t from q1)
   cases R2 with
   |non=>cases (show q=AY from q2);exact SeqAt.RcAt.str_none c t0
   |bl b=>cases (show q=Bg b from q2);exact SeqAt.RcAt.str_bool c t0 b
   |int i=>obtain ⟨t,rfl⟩:=(show ∃t,q=Be i t from q2);exact SeqAt.RcAt.str_int c t0 i t
   |str i=>obtain ⟨t,rfl⟩:=(show ∃t,q=Bq i t from q2);exact SeqAt.RcAt.str_str c t0 i t
   |_=>simp[okU] at o2
  |_=>simp[okU] at o1
 |succ n ih=>
  intro A x y v w p q R1 R2 q1 q2 o1 o2 hu
  have hu1:A.units < cLine:=by omega
  have rc0:∀(x y:U) (v w:V) (p q:Value),Rp X.K H v x→Rp X.K H w y→aW v p→aW w q→okU n x=true→okU n y=true→SeqAt.RcAt A.in1 s p q (eqW x y):=fun x y v w p q r1 r2 k1 k2 z1 z2=>ih A.in1 x y v w p q r1 r2 k1 k2 z1 z2 (by show A.units+1+n < _;omega)
  cases R1 with
  |non=>
   cases (show p=AY from q1)
   cases R2 with
   |non=>cases (show q=AY from q2);exact SeqAt.RcAt.none_none
   |bl b=>cases (show q=Bg b from q2);exact SeqAt.RcAt.none_bool b
   |int i=>obtain ⟨t,rfl⟩:=(show ∃t,q=Be i t from q2);exact SeqAt.RcAt.none_int i t
   |str i=>obtain ⟨t,rfl⟩:=(show ∃t,q=Bq i t from q2);exact SeqAt.RcAt.none_str i t
   |ty=>simp[okU] at o2
   |dic=>simp[okU] at o2
   |xc=>simp[okU] at o2
   |scr hq hl hi=>cases q2;obtain ⟨_,_,pl,_⟩:=IsU.list I hq hl;exact SeqAt.RcAt.none_list pl hu1
   |tup hq hl hi=>cases q2;obtain ⟨_,_,pl,_⟩:=IsU.tup I hq hl;exact SeqAt.RcAt.none_tuple pl hu1
   |lst hq hl hi=>cases q2;obtain ⟨_,_,pl,_⟩:=IsU.list I (SqL.of hq) hl;exact SeqAt.RcAt.none_list pl hu1
  |bl c=>
   cases (show p=Bg c from q1)
   cases R2 with
   |non=>cases (show q=AY from q2);exact SeqAt.RcAt.bool_none c
   |bl b=>cases (show q=Bg b from q2);exact SeqAt.RcAt.bool_bool c b
   |int i=>obtain ⟨t,rfl⟩:=(show ∃t,q=Be i t from q2);exact SeqAt.RcAt.bool_int c i t
   |str i=>obtain ⟨t,rfl⟩:=(show ∃t,q=Bq i t from q2);exact SeqAt.RcAt.bool_str c i t
   |ty=>simp[okU] at o2
   |dic=>simp[okU] at o2
   |xc=>simp[okU] at o2
   |scr hq hl hi=>cases q2;obtain ⟨_,_,pl,_⟩:=IsU.list I hq hl;exact SeqAt.RcAt.bool_list c pl hu1
   |tup hq hl hi=>cases q2;obtain ⟨_,_,pl,_⟩:=IsU.tup I hq hl;exact SeqAt.RcAt.bool_tuple c pl hu1
   |lst hq hl hi=>cases q2;obtain ⟨_,_,pl,_⟩:=IsU.list I (SqL.of hq) hl;exact SeqAt.RcAt.bool_list c pl hu1
  |int c=>
   obtain ⟨t0,rfl⟩:=(show ∃t,p=Be c t from q1)
   cases R2 with
   |non=>cases (show q=AY from q2);exact SeqAt.RcAt.int_none c t0
   |bl b=>cases (show q=Bg b from q2);exact SeqAt.RcAt.int_bool c t0 b
   |int i=>obtain ⟨t,rfl⟩:=(show ∃t,q=Be i t from q2);exact SeqAt.RcAt.int_int c t0 i t
   |str i=>obtain ⟨t,rfl⟩:=(show ∃t,q=Bq i t from q2);exact SeqAt.RcAt.int_str c t0 i t
   |ty=>simp[okU] at o2
   |dic=>simp[okU] at o2
   |xc=>simp[okU] at o2
   |scr hq hl hi=>cases q2;obtain ⟨_,_,pl,_⟩:=IsU.list I hq hl;exact SeqAt.RcAt.int_list c t0 pl hu1
   |tup hq hl hi=>cases q2;obtain ⟨_,_,pl,_⟩:=IsU.tup I hq hl;exact SeqAt.RcAt.int_tuple c t0 pl hu1
   |lst hq hl hi=>cases q2;obtain ⟨_,_,pl,_⟩:=IsU.list I (SqL.of hq) hl;exact SeqAt.RcAt.int_list c t0 pl hu1
  |str c=>
   obtain ⟨t0,rfl⟩:=(show ∃t,p=Bq c t from q1)
   cases R2 with
   |non=>cases (show q=AY from q2);exact SeqAt.RcAt.str_none c t0
   |bl b=>cases (show q=Bg b from q2);exact SeqAt.RcAt.str_bool c t0 b
   |int i=>obtain ⟨t,rfl⟩:=(show ∃t,q=Be i t from q2);exact SeqAt.RcAt.str_int c t0 i t
   |str i=>obtain ⟨t,rfl⟩:=(show ∃t,q=Bq i t from q2);exact SeqAt.RcAt.str_str c t0 i t
   |ty=>simp[okU] at o2
   |dic=>simp[okU] at o2
   |xc=>simp[okU] at o2
   |scr hq hl hi=>cases q2;obtain ⟨_,_,pl,_⟩:=IsU.list I hq hl;exact SeqAt.RcAt.str_list c t0 pl hu1
   |tup hq hl hi=>cases q2;obtain ⟨_,_,pl,_⟩:=IsU.tup I hq hl;exact SeqAt.RcAt.str_tuple c t0 pl hu1
   |lst hq hl hi=>cases q2;obtain ⟨_,_,pl,_⟩:=IsU.list I (SqL.of hq) hl;exact SeqAt.RcAt.str_list c t0 pl hu1
  |ty=>simp[okU] at o1
  |dic=>simp[okU] at o1
  |xc=>simp[okU] at o1
  | @scr a vs xs hq hl hi=>
   cases q1
   obtain ⟨its,r1,pl,l1⟩:=IsU.list I hq hl
   rw[okU] at o1
   cases R2 with
   |non=>cases (show q=AY from q2);exact SeqAt.RcAt.list_none pl hu1
   |bl b=>cases (show q=Bg b from q2);exact SeqAt.RcAt.list_bool b pl hu1
   |int i=>obtain ⟨t,rfl⟩:=(show ∃t,q=Be i t from q2);exact SeqAt.RcAt.list_int i t pl hu1
   |str i=>obtain ⟨t,rfl⟩:=(show ∃t,q=Bq i t from q2);exact SeqAt.RcAt.list_str i t pl hu1
   |ty=>simp[okU] at o2
   |dic=>simp[okU] at o2
   |xc=>simp[okU] at o2
   |scr hq' hl' hi'=>cases q2;rw[okU] at o2;obtain ⟨its2,r2,pl2,l2⟩:=IsU.list I hq' hl';rw[eqW];exact gR pl pl2 l1 l2 hu (cG I r1 r2 hl hl' hi hi' o1 o2 rc0 (by omega))
   |lst hq' hl' hi'=>cases q2;rw[okU] at o2;obtain ⟨its2,r2,pl2,l2⟩:=IsU.list I (SqL.of hq') hl';rw[eqW];exact gR pl pl2 l1 l2 hu (cG I r1 r2 hl hl' hi hi' o1 o2 rc0 (by omega))
   |tup hq' hl' hi'=>cases q2;obtain ⟨its2,r2,pl2,l2⟩:=IsU.tup I hq' hl';exact SeqAt.RcAt.list_tuple pl pl2 hu1
  | @lst a vs xs hq hl hi=>
   cases q1
   obtain ⟨its,r1,pl,l1⟩:=IsU.list I (SqL.of hq) hl
   rw[okU] at o1
   cases R2 with
   |non=>cases (show q=AY from q2);exact SeqAt.RcAt.list_none pl hu1
   |bl b=>cases (show q=Bg b from q2);exact SeqAt.RcAt.list_bool b pl hu1
   |int i=>obtain ⟨t,rfl⟩:=(show ∃t,q=Be i t from q2);exact SeqAt.RcAt.list_int i t pl hu1
   |str i=>obtain ⟨t,rfl⟩:=(show ∃t,q=Bq i t from q2);exact SeqAt.RcAt.list_str i t pl hu1
   |ty=>simp[okU] at o2
   |dic=>simp[okU] at o2
   |xc=>simp[okU] at o2
   |scr hq' hl' hi'=>cases q2;rw[okU] at o2;obtain ⟨its2,r2,pl2,l2⟩:=IsU.list I hq' hl';rw[eqW];exact gR pl pl2 l1 l2 hu (cG I r1 r2 hl hl' hi hi' o1 o2 rc0 (by omega))
   |lst hq' hl' hi'=>cases q2;rw[okU] at o2;obtain ⟨its2,r2,pl2,l2⟩:=IsU.list I (SqL.of hq') hl';rw[eqW];exact gR pl pl2 l1 l2 hu (cG I r1 r2 hl hl' hi hi' o1 o2 rc0 (by omega))
   |tup hq' hl' hi'=>cases q2;obtain ⟨its2,r2,pl2,l2⟩:=IsU.tup I hq' hl';exact SeqAt.RcAt.list_tuple pl pl2 hu1
  | @tup a vs xs hq hl hi=>
   cases q1
   obtain ⟨its,r1,pl,l1⟩:=IsU.tup I hq hl
   rw[okU] at o1
   cases R2 with
   |non=>cases (show q=AY from q2);exact SeqAt.RcAt.tuple_none pl hu1
   |bl b=>cases (show q=Bg b from q2);exact SeqAt.RcAt.tuple_bool b pl hu1
   |int i=>obtain ⟨t,rfl⟩:=(show ∃t,q=Be i t from q2);exact SeqAt.RcAt.tuple_int i t pl hu1
   |str i=>obtain ⟨t,rfl⟩:=(show ∃t,q=Bq i t from q2);exact SeqAt.RcAt.tuple_str i t pl hu1
   |ty=>simp[okU] at o2
   |dic=>simp[okU] at o2
   |xc=>simp[okU] at o2
   |scr hq' hl' hi'=>cases q2;obtain ⟨its2,r2,pl2,l2⟩:=IsU.list I hq' hl';exact SeqAt.RcAt.tuple_list pl pl2 hu1
   |lst hq' hl' hi'=>cases q2;obtain ⟨its2,r2,pl2,l2⟩:=IsU.list I (SqL.of hq') hl';exact SeqAt.RcAt.tuple_list pl pl2 hu1
   |tup hq' hl' hi'=>cases q2;rw[okU] at o2;obtain ⟨its2,r2,pl2,l2⟩:=IsU.tup I hq' hl';rw[eqW];exact vd pl pl2 l1 l2 hu (cG I r1 r2 hl hl' hi hi' o1 o2 rc0 (by omega))
end
section
variable {X:Cx}{pins:List (Addr×Obj)}{σ:St}{H:Hp}{s:As}
theorem fg {A:A5}{n:Nat}{a b:Addr}{xs ys:List U}{its its2:List Value} (p1:s.heap.IsList a its.toArray) (p2:s.heap.IsList b its2.toArray) (l1:its.length=xs.length) (l2:its2.length=ys.length) (hu:A.units+n < cLine)
  (he:∀(j:Nat) (j1:j < its.length) (j2:j < its2.length),SeqAt.EqAt A.in1 s its[j] its2[j] (eqW (xs.getD j .non) (ys.getD j .non))):SeqAt.RcNeAt A s (.ref a) (.ref b) (!eqWs xs ys):=by
 by_cases hl:its.length=its2.length
 ·have:=SeqAt.RcNeAt.lists (A:=A) (s:=s) (e:=fun j=>eqW (xs.getD j .non) (ys.getD j .non)) p1 p2 (by simpa using hl) (by omega) (fun j h1 h2=>by simpa using he j (by simpa using h1) (by simpa using h2))
  rw[←dc,←l1,←l2,hl,Jt,beq_self_eq_true,G0]
  rwa [AV,hl] at this
 ·have:=SeqAt.RcNeAt.lists_lengths (A:=A) (s:=s) p1 p2 (by simpa using hl) (by omega)
  rw[←dc,←l1,←l2,show (its.length==its2.length)=false by simpa using hl,GE]
  exact this
theorem qQ {A:A5}{n:Nat}{a b:Addr}{xs ys:List U}{its its2:List Value} (p1:IsTup s.heap a its.toArray) (p2:IsTup s.heap b its2.toArray) (l1:its.length=xs.length) (l2:its2.length=ys.length) (hu:A.units+n < cLine)
  (he:∀(j:Nat) (j1:j < its.length) (j2:j < its2.length),SeqAt.EqAt A.in1 s its[j] its2[j] (eqW (xs.getD j .non) (ys.getD j .non))):SeqAt.RcNeAt A s (.ref a) (.ref b) (!eqWs xs ys):=by
 have:=SeqAt.RcNeAt.tuples (A:=A) (s:=s) (e:=fun j=>eqW (xs.getD j .non) (ys.getD j .non)) p1 p2 (by omega) (fun j h1 h2=>by simpa using he j (by simpa using h1) (by simpa using h2))
 rw[AV,AV,l1,l2,dc] at this
 exact this
theorem xD (I:Inv X pins σ H s) (n:Nat) (A:A5) (x y:U) (v w:V) (p q:Value) (R1:Rp X.K H v x) (R2:Rp X.K H w y) (q1:aW v p) (q2:aW w q) (o1:okU (n+1) x=true) (o2:okU (n+1) y=true) (hu:A.units+(n+1) < cLine):SeqAt.RcNeAt A s p q (!eqW x y):=by
 have hu1:A.units < cLine:=by omega
 have rc0:∀(x y:U) (v w:V) (p q:Value),Rp X.K H v x→Rp X.K H w y→aW v p→aW w q→okU n x=true→okU n y=true→SeqAt.RcAt A.in1 s p q (eqW x y):=fun x y v w p q r1 r2 k1 k2 z1 z2=>zi I n A.in1 x y v w p q r1 r2 k1 k2 z1 z2 (by show A.units+1+n < _;omega)
 cases R1 with
 |ty=>simp[okU] at o1
 |dic=>simp[okU] at o1
 |xc=>simp[okU] at o1
 |non=>
  cases (show p=AY from q1)
  cases R2 with
  |ty=>simp[okU] at o2
  |dic=>simp[okU] at o2
  |xc=>simp[okU] at o2
  |non=>cases (show q=AY from q2);exact SeqAt.RcNeAt.none_none
  |bl c2=>cases (show q=Bg c2 from q2);exact SeqAt.RcNeAt.none_bool c2
  |int c2=>obtain ⟨t2,rfl⟩:=(show ∃t,q=Be c2 t from q2);exact SeqAt.RcNeAt.none_int c2 t2
  |str c2=>obtain ⟨t2,rfl⟩:=(show ∃t,q=Bq c2 t from q2);exact SeqAt.RcNeAt.none_str c2 t2
  |scr hq2 hl2 hi2=>cases q2;obtain ⟨its2,r2,pl2,l2⟩:=IsU.list I hq2 hl2;exact SeqAt.RcNeAt.none_list pl2 hu1
  |tup hq2 hl2 hi2=>cases q2;obtain ⟨its2,r2,pl2,l2⟩:=IsU.tup I hq2 hl2;exact SeqAt.RcNeAt.none_tuple pl2 hu1
  |lst hq2 hl2 hi2=>cases q2;obtain ⟨its2,r2,pl2,l2⟩:=IsU.list I (SqL.of hq2) hl2;exact SeqAt.RcNeAt.none_list pl2 hu1
 |bl c1=>
  cases (show p=Bg c1 from q1)
  cases R2 with
  |ty=>simp[okU] at o2
  |dic=>simp[okU] at o2
  |xc=>simp[okU] at o2
  |non=>cases (show q=AY from q2);exact SeqAt.RcNeAt.bool_none c1
  |bl c2=>cases (show q=Bg c2 from q2);exact SeqAt.RcNeAt.bool_bool c1 c2
  |int c2=>obtain ⟨t2,rfl⟩:=(show ∃t,q=Be c2 t from q2);exact SeqAt.RcNeAt.bool_int c1 c2 t2
  |str c2=>obtain ⟨t2,rfl⟩:=(show ∃t,q=Bq c2 t from q2);exact SeqAt.RcNeAt.bool_str c1 c2 t2
  |scr hq2 hl2 hi2=>cases q2;obtain ⟨its2,r2,pl2,l2⟩:=IsU.list I hq2 hl2;exact SeqAt.RcNeAt.bool_list c1 pl2 hu1
  |tup hq2 hl2 hi2=>cases q2;obtain ⟨its2,r2,pl2,l2⟩:=IsU.tup I hq2 hl2;exact SeqAt.RcNeAt.bool_tuple c1 pl2 hu1
  |lst hq2 hl2 hi2=>cases q2;obtain ⟨its2,r2,pl2,l2⟩:=IsU.list I (SqL.of hq2) hl2;exact SeqAt.RcNeAt.bool_list c1 pl2 hu1
 |int c1=>
  obtain ⟨t1,rfl⟩:=(show ∃t,p=Be c1 t from q1)
  cases R2 with
  |ty=>simp[okU] at o2
  |dic=>simp[okU] at o2
  |xc=>simp[okU] at o2
  |non=>cases (show q=AY from q2);exact SeqAt.RcNeAt.int_none c1 t1
  |bl c2=>cases (show q=Bg c2 from q2);exact SeqAt.RcNeAt.int_bool c1 t1 c2
  |int c2=>obtain ⟨t2,rfl⟩:=(show ∃t,q=Be c2 t from q2);exact SeqAt.RcNeAt.int_int c1 t1 c2 t2
  |str c2=>obtain ⟨t2,rfl⟩:=(show ∃t,q=Bq c2 t from q2);exact SeqAt.RcNeAt.int_str c1 t1 c2 t2
  |scr hq2 hl2 hi2=>cases q2;obtain ⟨its2,r2,pl2,l2⟩:=IsU.list I hq2 hl2;exact SeqAt.RcNeAt.int_list c1 t1 pl2 hu1
  |tup hq2 hl2 hi2=>cases q2;obtain ⟨its2,r2,pl2,l2⟩:=IsU.tup I hq2 hl2;exact SeqAt.RcNeAt.int_tuple c1 t1 pl2 hu1
  |lst hq2 hl2 hi2=>cases q2;obtain ⟨its2,r2,pl2,l2⟩:=IsU.list I (SqL.of hq2) hl2;exact SeqAt.RcNeAt.int_list c1 t1 pl2 hu1
 |str c1=>
  obtain ⟨t1,rfl⟩:=(show ∃t,p=Bq c1 t from q1)
  cases R2 with
  |ty=>simp[okU] at o2
  |dic=>simp[okU] at o2
  |xc=>simp[okU] at o2
  |non=>cases (show q=AY from q2);exact SeqAt.RcNeAt.str_none c1 t1
  |bl c2=>cases (show q=Bg c2 from q2);exact SeqAt.RcNeAt.str_bool c1 t1 c2
  |int c2=>obtain ⟨t2,rfl⟩:=(show ∃t,q=Be c2 t from q2);exact SeqAt.RcNeAt.str_int c1 t1 c2 t2
  |str c2=>obtain ⟨t2,rfl⟩:=(show ∃t,q=Bq c2 t from q2);exact SeqAt.RcNeAt.str_str c1 t1 c2 t2
  |scr hq2 hl2 hi2=>cases q2;obtain ⟨its2,r2,pl2,l2⟩:=IsU.list I hq2 hl2;exact SeqAt.RcNeAt.str_list c1 t1 pl2 hu1
  |tup hq2 hl2 hi2=>cases q2;obtain ⟨its2,r2,pl2,l2⟩:=IsU.tup I hq2 hl2;exact SeqAt.RcNeAt.str_tuple c1 t1 pl2 hu1
  |lst hq2 hl2 hi2=>cases q2;obtain ⟨its2,r2,pl2,l2⟩:=IsU.list I (SqL.of hq2) hl2;exact SeqAt.RcNeAt.str_list c1 t1 pl2 hu1
 |scr hq1 hl1 hi1=>
  cases q1;obtain ⟨its1,r1,pl1,l1⟩:=IsU.list I hq1 hl1
  cases R2 with
  |ty=>simp[okU] at o2
  |dic=>simp[okU] at o2
  |xc=>simp[okU] at o2
  |non=>cases (show q=AY from q2);exact SeqAt.RcNeAt.list_none pl1 hu1
  |bl c2=>cases (show q=Bg c2 from q2);exact SeqAt.RcNeAt.list_bool c2 pl1 hu1
  |int c2=>obtain ⟨t2,rfl⟩:=(show ∃t,q=Be c2 t from q2);exact SeqAt.RcNeAt.list_int c2 t2 pl1 hu1
  |str c2=>obtain ⟨t2,rfl⟩:=(show ∃t,q=Bq c2 t from q2);exact SeqAt.RcNeAt.list_str c2 t2 pl1 hu1
  |scr hq2 hl2 hi2=>cases q2;obtain ⟨its2,r2,pl2,l2⟩:=IsU.list I hq2 hl2;rw[okU] at o1;rw[okU] at o2;rw[eqW];exact fg pl1 pl2 l1 l2 hu (cG I r1 r2 hl1 hl2 hi1 hi2 o1 o2 rc0 (by omega))
  |tup hq2 hl2 hi2=>cases q2;obtain ⟨its2,r2,pl2,l2⟩:=IsU.tup I hq2 hl2;exact SeqAt.RcNeAt.list_tuple pl1 pl2 hu1
  |lst hq2 hl2 hi2=>cases q2;obtain ⟨its2,r2,pl2,l2⟩:=IsU.list I (SqL.of hq2) hl2;rw[okU] at o1;rw[okU] at o2;rw[eqW];exact fg pl1 pl2 l1 l2 hu (cG I r1 r2 hl1 hl2 hi1 hi2 o1 o2 rc0 (by omega))
 |tup hq1 hl1 hi1=>
  cases q1;obtain ⟨its1,r1,pl1,l1⟩:=IsU.tup I hq1 hl1
  cases R2 with
  |ty=>simp[okU] at o2
  |dic=>simp[okU] at o2
  |xc=>simp[okU] at o2
  |non=>cases (show q=AY from q2);exact SeqAt.RcNeAt.tuple_none pl1 hu1
  |bl c2=>cases (show q=Bg c2 from q2);exact SeqAt.RcNeAt.tuple_bool c2 pl1 hu1
  |int c2=>obtain ⟨t2,rfl⟩:=(show ∃t,q=Be c2 t from q2);exact SeqAt.RcNeAt.tuple_int c2 t2 pl1 hu1
  |str c2=>obtain ⟨t2,rfl⟩:=(show ∃t,q=Bq c2 t from q2);exact SeqAt.RcNeAt.tuple_str c2 t2 pl1 hu1
  |scr hq2 hl2 hi2=>cases q2;obtain ⟨its2,r2,pl2,l2⟩:=IsU.list I hq2 hl2;exact SeqAt.RcNeAt.tuple_list pl1 pl2 hu1
  |tup hq2 hl2 hi2=>cases q2;obtain ⟨its2,r2,pl2,l2⟩:=IsU.tup I hq2 hl2;rw[okU] at o1;rw[okU] at o2;rw[eqW];exact qQ pl1 pl2 l1 l2 hu (cG I r1 r2 hl1 hl2 hi1 hi2 o1 o2 rc0 (by omega))
  |lst hq2 hl2 hi2=>cases q2;obtain ⟨its2,r2,pl2,l2⟩:=IsU.list I (SqL.of hq2) hl2;exact SeqAt.RcNeAt.tuple_list pl1 pl2 hu1
 |lst hq1 hl1 hi1=>
  cases q1;obtain ⟨its1,r1,pl1,l1⟩:=IsU.list I (SqL.of hq1) hl1
  cases R2 with
  |ty=>simp[okU] at o2
  |dic=>simp[okU] at o2
  |xc=>simp[okU] at o2
  |non=>cases (show q=AY from q2);exact SeqAt.RcNeAt.list_none pl1 hu1
  |bl c2=>cases (show q=Bg c2 from q2);exact SeqAt.RcNeAt.list_bool c2 pl1 hu1
  |int c2=>obtain ⟨t2,rfl⟩:=(show ∃t,q=Be c2 t from q2);exact SeqAt.RcNeAt.list_int c2 t2 pl1 hu1
  |str c2=>obtain ⟨t2,rfl⟩:=(show ∃t,q=Bq c2 t from q2);exact SeqAt.RcNeAt.list_str c2 t2 pl1 hu1
  |scr hq2 hl2 hi2=>cases q2;obtain ⟨its2,r2,pl2,l2⟩:=IsU.list I hq2 hl2;rw[okU] at o1;rw[okU] at o2;rw[eqW];exact fg pl1 pl2 l1 l2 hu (cG I r1 r2 hl1 hl2 hi1 hi2 o1 o2 rc0 (by omega))
  |tup hq2 hl2 hi2=>cases q2;obtain ⟨its2,r2,pl2,l2⟩:=IsU.tup I hq2 hl2;exact SeqAt.RcNeAt.list_tuple pl1 pl2 hu1
  |lst hq2 hl2 hi2=>cases q2;obtain ⟨its2,r2,pl2,l2⟩:=IsU.list I (SqL.of hq2) hl2;rw[okU] at o1;rw[okU] at o2;rw[eqW];exact fg pl1 pl2 l1 l2 hu (cG I r1 r2 hl1 hl2 hi1 hi2 o1 o2 rc0 (by omega))
end
def OpS (X:Cx) (f:Value→Value→Sem Value) (x y:U) (z:V):Prop:=OpR X f fun v w H Q=>Rp X.K H v x∧Rp X.K H w y∧Q z H
section
variable {X:Cx}{H0:Hp}{O0:List Addr}{ps:PSt}{a b c e:Expr}{es rest:List Expr}{pos p:Pos}{u x y:U}{xs ys us:List U}{i j:Int}{k m:Bool}
theorem Rp.out {K:Ap}{H:Hp}{O:List Addr}{v:V}{u:U} (h:Rp K (hid H O) v u):Rp K H v u:=h.same aC
theorem uz {op:CmpOp} (ho:OpS X (B5 op) x y (.bl k)) (ha:Ev X H0 O0 ps a x) (hb:Ev X H0 O0 ps b y) (hm:CY op b=false:=by first |exact tD _ |with_unfolding_all rfl):Ev X H0 O0 ps (.Compare a [op] [b] pos) (.bl k):=
 PE.mono (vK ho ha hb hm) fun σ H Q ⟨O,R,q⟩=>two R (fun _ _ _ z=>z) (fun _ _ _ z=>z) fun v w H' s _ r1 r2=>⟨r1.out,r2.out,q _ H' s (.bl _)⟩
theorem bp {op:CmpOp} (ho:OpS X (B5 op) x y (.bl k)) (ha:Ev X H0 O0 ps a x) (hb:Ev X H0 O0 ps b y) (hm:CY op b=false:=by first |exact tD _ |with_unfolding_all rfl):Tt X H0 O0 ps (.Compare a [op] [b] pos) k:=
 PT.mono (uG ho ha hb hm) fun σ H Q ⟨O,R,q⟩=>two R (fun _ _ _ z=>z) (fun _ _ _ z=>z) fun v w H' s _ r1 r2=>⟨r1.out,r2.out,_,rfl,q H' s⟩
theorem sk {op:CmpOp}{g:Int→Int→Bool} (ho:OpR X (B5 op) (rI0 fun i j=>.bl (g i j))):OpS X (B5 op) (.int i) (.int j) (.bl (g i j)):=by
 intro pins s σ H v w p q Q I r1 r2 h
 obtain ⟨h1,h2,h3⟩:=h
 cases h1;cases h2
 exact ho pins s σ H _ _ _ _ Q I r1 r2 ⟨i,j,rfl,rfl,h3⟩
theorem p8:OpS X (B5 .Lt) (.int i) (.int j) (.bl (decide (i < j))):=sk yC
theorem zQ:OpS X (B5 .LtE) (.int i) (.int j) (.bl (decide (i≤j))):=sk yR
theorem mZ:OpS X (B5 .Gt) (.int i) (.int j) (.bl (decide (j < i))):=sk yQ
theorem xS (hu:X.A.units+10 < cLine) (h1:okU 9 x=true) (h2:okU 9 y=true):OpS X (B5 .Eq) x y (.bl (eqW x y)):=by
 intro pins s σ H v w p q Q I r1 r2 h
 obtain ⟨k1,k2,k3⟩:=h
 exact zi I 9 X.A x y v w p q k1 k2 r1 r2 h1 h2 (by omega) X.prog X.w _ _ (aZ I k3 rfl)
theorem y9 (hu:X.A.units+10 < cLine) (h1:okU 9 x=true) (h2:okU 9 y=true):OpS X (B5 .NotEq) x y (.bl (!eqW x y)):=by
 intro pins s σ H v w p q Q I r1 r2 h
 obtain ⟨k1,k2,k3⟩:=h
 exact xD I 8 X.A x y v w p q k1 k2 r1 r2 h1 h2 (by omega) X.prog X.w _ _ (aZ I k3 rfl)
theorem dX:OpS X (B5 .Eq) (.int i) (.int j) (.bl (decide (i=j))):=by
 intro pins s σ H v w p q Q I r1 r2 h
 obtain ⟨h1,h2,h3⟩:=h
 cases h1;cases h2
 exact y3 pins s σ H _ _ _ _ Q I r1 r2 ⟨rfl,by rw[iT,←Ez] at *;simpa [Ez] using h3⟩
theorem jr:OpS X (B5 .NotEq) (.int i) (.int j) (.bl (!decide (i=j))):=by
 intro pins s σ H v w p q Q I r1 r2 h
 obtain ⟨h1,h2,h3⟩:=h
 cases h1;cases h2
 exact yt pins s σ H _ _ _ _ Q I r1 r2 ⟨rfl,by rw[iT];simpa [Ez] using h3⟩
theorem oH {j pos'} (ha:Ev X H0 O0 ps a x) (h:∀(K:Ap) (H:Hp) (v:V),Rp K H v x→decide (v=V.non)=k):Tt X H0 O0 ps (.Compare a [.IsNot] [.Constant .none j pos'] pos) (!k):=
 PT.mono (yk (vh ha)) fun σ H Q ⟨O,R,q⟩=>⟨O,R,fun v H' s r=>⟨_,rfl,by rw[h _ _ v r];exact q H' s⟩⟩
def oQ:U→Bool | .non=>true |_=>false
theorem nH (x:U):∀(K:Ap) (H:Hp) (v:V),Rp K H v x→decide (v=V.non)=oQ x:=fun K H v r=>by
 cases r <;>simp[oQ]
theorem iF (h:Ev X H0 O0 ps e (.bl k)) (he:∀whole,isTrue e X.env whole=(do let v ←whole;standAt e.pos;holding [v] (truthy v)):=by intro _;rfl):Tt X H0 O0 ps e k:=
 PT.mono (xo h he) fun σ H Q ⟨O,R,q⟩=>⟨O,R,fun v H' s r=>by cases r;exact ⟨_,rfl,q H' s⟩⟩
theorem nq (h:Tt X H0 O0 ps a k):Tt X H0 O0 ps (.UnaryOp .Not a pos) (!k):=PT.mono (w4 h) fun σ H Q ⟨O,R,q⟩=>⟨O,R,q⟩
theorem Tw.t (h:Tw X H0 O0 ps e k):Tt X H0 O0 ps e k:=h.pt
theorem kO (h:Tt X H0 O0 ps a k):Tw X H0 O0 ps (.BoolOp .And [a] pos) k:=vp h
theorem rq (h:Tt X H0 O0 ps a k):Tw X H0 O0 ps (.BoolOp .Or [a] pos) k:=xw h
theorem lO (ha:Tt X H0 O0 ps a k) (hb:k=true→Tw X H0 O0 ps (.BoolOp .And (b::rest) pos) m):Tw X H0 O0 ps (.BoolOp .And (a::b::rest) pos) (k && m):=by
 cases k with
 |true=>exact PW.mono (tj ha (hb rfl)) fun σ H Q ⟨O,R,q⟩=>⟨O,R,fun H' s=>by exact qO (⟨O,R.go s,fun H2 s2=>q H2 (s.trans s2)⟩)⟩
 |false=>exact PW.mono (tj ha (fun _ _ _ _ _ _ _ h=>h.elim) (tB':=fun _ _ _=>False)) fun σ H Q ⟨O,R,q⟩=>⟨O,R,fun H' s=>by exact p0 (q H' s)⟩
theorem u9 (ha:Tt X H0 O0 ps a k) (hb:k=false→Tw X H0 O0 ps (.BoolOp .Or (b::rest) pos) m):Tw X H0 O0 ps (.BoolOp .Or (a::b::rest) pos) (k ||m):=by
 cases k with
 |false=>exact PW.mono (v8 ha (hb rfl)) fun σ H Q ⟨O,R,q⟩=>⟨O,R,fun H' s=>by exact p0 (⟨O,R.go s,fun H2 s2=>q H2 (s.trans s2)⟩)⟩
 |true=>exact PW.mono (v8 ha (fun _ _ _ _ _ _ _ h=>h.elim) (tB':=fun _ _ _=>False)) fun σ H Q ⟨O,R,q⟩=>⟨O,R,fun H' s=>by exact qO (q H' s)⟩
theorem wn {op} (h:Ev X H0 O0 ps a u):Ev X H0 O0 ps (.BoolOp op [a] pos) u:=xK h
theorem wu (ha:Ev X H0 O0 ps a (.bl k)) (hb:k=true→Ev X H0 O0 ps (.BoolOp .And (b::rest) pos) (.bl m)):Ev X H0 O0 ps (.BoolOp .And (a::b::rest) pos) (.bl (k && m)):=by
 cases k with
 |true=>exact PE.mono (tU ha (hb rfl)) fun σ H Q ⟨O,R,q⟩=>⟨O,R,fun v H' s r=>by cases r;exact ⟨_,rfl,by exact qO (⟨O,R.go s,fun v H2 s2 r2=>q v H2 (s.trans s2) r2⟩)⟩⟩
 |false=>exact PE.mono (tU ha (fun _ _ _ _ _ _ h=>h.elim) (tb:=fun _ _ _=>False)) fun σ H Q ⟨O,R,q⟩=>⟨O,R,fun v H' s r=>by cases r;exact ⟨_,rfl,by exact p0 (q _ H' s (.bl _))⟩⟩
theorem wc (ha:Ev X H0 O0 ps a (.bl k)):Ev X H0 O0 ps (.UnaryOp .Not a pos) (.bl (!k)):=PE.mono (xC ha) fun σ H Q ⟨O,R,q⟩=>⟨O,R,fun v H' s r=>by cases r;exact ⟨_,rfl,q _ H' s (.bl _)⟩⟩
theorem ao:EvA X H0 O0 ps [] []:=PA.mono d8 fun σ H Q ⟨O,R,q⟩=>q [] H (.refl H) .nil
theorem ae (ha:Ev X H0 O0 ps e u) (hr:EvA X H0 O0 ps es us) (hs:AL (e::es) X.env=(false,eval e X.env)::AL es X.env:=by rfl):EvA X H0 O0 ps (e::es) (u::us):=
 PA.mono (cJ ha hr hs) fun σ H Q ⟨O,R,q⟩=>⟨O,R,fun v H1 s1 r1=>⟨O,R.go s1,fun vs H2 s2 r2=>q _ H2 (s1.trans s2) (.cons (r1.same (aP s2)) r2)⟩⟩
theorem Rs.hidnew {K:Ap}{σ:St}{H:Hp}{O:List Addr} (R:Rs K H0 O0 ps σ H O) {p:Addr}{o:HO} (n:H p=none):hid (upd H p o) O p=some o:=dj aQ fun z=>R.dom p z n
theorem zD {x1} (h:EvA X H0 O0 ps es us) (hz:us.length≤sizeLine:=by first |decide | (simp only[A_,D8];decide)):Ev X H0 O0 ps (.Tuple es x1 pos) (.tup us):=
 PE.mono (xh h) fun σ H Q ⟨O,R,q⟩=>⟨O,R,fun vs H1 s1 r1=>⟨by rw[r1.len];exact hz,fun p hp=>by
  have s2:=aN hp (.tup vs)
  have r2:=r1.same (aP (O:=O) s2)
  exact q _ _ (s1.trans s2) (.tup (SqT.of ((R.go s1).hidnew hp)) r2.len r2.at_)⟩⟩
theorem yB (h:EvA X H0 O0 ps es us) (hz:us.length≤sizeLine:=by first |decide | (simp only[A_,D8];decide)):EvN X H0 O0 ps (.List es pos) us:=
 PE.mono (wZ h) fun σ H Q ⟨O,R,q⟩=>⟨O,R,fun vs H1 s1 r1=>⟨by rw[r1.len];exact hz,fun p hp=>by
  exact q p vs _ (s1.trans (aN hp _)) (s1.free hp) aQ (r1.same (bL (aN hp _) hp))⟩⟩
theorem ar (ha:Ev X H0 O0 ps a x) (hb:Ev X H0 O0 ps b (.int i)) (hx:x.items=some xs) (hi:atI xs i=some u) (hs:iP b:=by intro _ _;rfl):Ev X H0 O0 ps (.Subscript a b pos) u:=
 PE.mono (wH (pN.or yh) ha hb hs) fun σ H Q ⟨O,R,q⟩=>two (y:=.int i) R (fun _ _ _ z=>z) (fun _ _ _ z=>z) fun v w H' s _ r1 r2=>by
  cases r2
  cases r1 with
  |scr h hl hh=>cases hx;obtain ⟨z,h1,h2⟩:=Rps.atI ⟨hl,hh⟩ hi;exact .inl ⟨_,_,i,z,rfl,rfl,aC.seq h,h1,q z H' s h2⟩
  |lst h hl hh=>cases hx;obtain ⟨z,h1,h2⟩:=Rps.atI ⟨hl,hh⟩ hi;exact .inl ⟨_,_,i,z,rfl,rfl,aC.seq (SqL.of h),h1,q z H' s h2⟩
  |tup h hl hh=>cases hx;obtain ⟨z,h1,h2⟩:=Rps.atI ⟨hl,hh⟩ hi;exact .inr ⟨_,_,i,z,rfl,rfl,aC.tup h,h1,q z H' s h2⟩
  |_=>cases hx
theorem oX (n:Nat) {x:Str} (h:ps[n]?=some (some (.own xs))) (hb:Ev X H0 O0 ps b (.int i)) (hi:atI xs i=some u) (hN:X.N[n]?=some x:=by rfl) (hv:Vis X.env.scope x:=by first |exact Or.inl rfl |exact Or.inr (Or.inl rfl) |exact Or.inr (Or.inr rfl)) (hd:(x==("__debug__":Str))=false:=by decide)
  (hcd:(x==("__classdict__":Str))=false:=by decide) (hs:iP b:=by intro _ _;rfl):Ev X H0 O0 ps (.Subscript (.Name x p) b pos) u:=
 PE.mono (wH pN (iw hN hv hd hcd) hb hs) fun σ H Q ⟨O,R,q⟩=>by
  obtain ⟨v,h1,a,vs,rfl,h3,h4,h5,h6⟩:=R.at_ n _ h
  refine ⟨_,h1,O,R,fun w H' s r=>?_⟩
  cases r
  obtain ⟨z,k1,k2⟩:=h6.atI hi
  exact ⟨a,vs,i,z,rfl,rfl,SqL.of (s _ _ h5),k1,q z H' s (k2.same (aP s))⟩
def nD (X:Cx) (f:Value) (us:List U) (u:U):Prop:=eY X f fun vs H Q=>∃O,(∀a∈O,H a≠none)∧Rps X.K (hid H O) vs us∧∀v H',aI H H'→Rp X.K (hid H' O) v u→Q v H'
def wN (X:Cx) (f:Value) (us:List U) (xs:List U):Prop:=eY X f fun vs H Q=>∃O,(∀a∈O,H a≠none)∧Rps X.K (hid H O) vs us∧∀a vs H',aI H H'→H a=none→H' a=some (.lst vs)→Rps X.K (hid H' (a::O)) vs xs→Q (.ref a) H'
theorem aV {id:String}{f:Str} (hc:nD X (.builtin id) us u) (hg:Gl X f) (hm:X.mg f=none) (hv:Cp f=some (.builtin id)) (ha:EvA X H0 O0 ps (e::es) us) (hn:f≠"__name__":=by decide) (hdb:(f==("__debug__":Str))=false:=by decide)
  (he:AL (e::es) X.env=(false,eval e X.env)::AL es X.env:=by rfl) (hpl:(Ec pos (AL es X.env)).any (·.1)=false:=by rfl):Ev X H0 O0 ps (.Call (.Name f p) (e::es) [] pos) u:=
 PE.mono (mh hc hg hm hv ha hn hdb he hpl) fun σ H Q ⟨O,R,q⟩=>⟨O,R,fun vs H1 s1 r1=>⟨O,(R.go s1).dom,r1,fun v H2 s2 r2=>q v H2 (s1.trans s2) r2⟩⟩
theorem kQ {id:String}{f:Str} (hc:wN X (.type id) us xs) (hg:Gl X f) (hm:X.mg f=none) (hv:Cp f=some (.type id)) (ha:EvA X H0 O0 ps (e::es) us) (hn:f≠"__name__":=by decide) (hdb:(f==("__debug__":Str))=false:=by decide)
  (he:AL (e::es) X.env=(false,eval e X.env)::AL es X.env:=by rfl) (hpl:(Ec pos (AL es X.env)).any (·.1)=false:=by rfl):EvN X H0 O0 ps (.Call (.Name f p) (e::es) [] pos) xs:=
 PE.mono (qC hc hg hm hv ha hn hdb he hpl) fun σ H Q ⟨O,R,q⟩=>⟨O,R,fun vs H1 s1 r1=>⟨O,(R.go s1).dom,r1,fun a vs H2 s2 n h r2=>q a vs H2 (s1.trans s2) (s1.free n) h r2⟩⟩
theorem fU {K:Ap}{H:Hp}{vs:List V} (h:Rps K H vs [x]):∃v,vs=[v]∧Rp K H v x:=by
 obtain ⟨v,ws,rfl,h1,h2⟩:=h.cons_inv
 rw[h2.nil_inv]
 exact ⟨v,rfl,h1⟩
theorem uP {K:Ap}{H:Hp}{vs:List V} (h:Rps K H vs [x,y]):∃v w,vs=[v,w]∧Rp K H v x∧Rp K H w y:=by
 obtain ⟨v,ws,rfl,h1,h2⟩:=h.cons_inv
 obtain ⟨w,rfl,h3⟩:=fU h2
 exact ⟨v,w,rfl,h1,h3⟩
theorem eY.mono {f:Value}{r r':List V→Hp→VK→Prop} (h:eY X f r) (m:∀vs H Q,r' vs H Q→r vs H Q):eY X f r':=fun pins s σ H vs us Q I v q=>h pins s σ H vs us Q I v (m vs H Q q)
theorem lM {K:Ap}{H:Hp}{v:V} (h:Rp K H v x) (hx:x.items=some xs):∃a vs,v=.ref a∧(SqL K H a vs∨SqT K H a vs)∧Rps K H vs xs:=by
 cases h with
 |scr h hl hh=>cases hx;exact ⟨_,_,rfl,.inl h,hl,hh⟩
 |lst h hl hh=>cases hx;exact ⟨_,_,rfl,.inl (SqL.of h),hl,hh⟩
 |tup h hl hh=>cases hx;exact ⟨_,_,rfl,.inr h,hl,hh⟩
 |_=>cases hx
theorem o4 {K:Ap}{H:Hp}{O:List Addr}{a:Addr}{vs:List V} (h:SqL K (hid H O) a vs∨SqT K (hid H O) a vs):SqL K H a vs∨SqT K H a vs:=h.imp (fun z=>aC.seq z) fun z=>aC.tup z
theorem dS (hx:x.items=some xs):nD X (.builtin "len") [x] (.int xs.length):=eY.mono hJ fun vs H Q ⟨O,d,r,q⟩=>by
 obtain ⟨v,rfl,h⟩:=fU r
 obtain ⟨a,ws,rfl,h1,h2⟩:=lM h hx
 exact ⟨a,ws,rfl,o4 h1,by rw[h2.len];exact q _ H (.refl H) (.int _)⟩
theorem xx (n:Nat) {x:Str} (h:ps[n]?=some (some (.own xs))) (hg:Gl X "len") (hm:X.mg "len"=none) (hN:X.N[n]?=some x:=by rfl) (hv:Vis X.env.scope x:=by first |exact Or.inl rfl |exact Or.inr (Or.inl rfl) |exact Or.inr (Or.inr rfl)) (hd:(x==("__debug__":Str))=false:=by decide)
  (hcd:(x==("__classdict__":Str))=false:=by decide) {pc p':Pos} (hs:AL [.Name x p'] X.env=(false,eval (.Name x p') X.env)::AL [] X.env:=by rfl) (hpl:(Ec pos (AL [] X.env)).any (·.1)=false:=by rfl):Ev X H0 O0 ps (.Call (.Name "len" pc) [.Name x p'] [] pos) (.int xs.length):=
 PE.mono (mh hJ hg hm BF (cJ (iw hN hv hd hcd) d8 hs) (by decide) (by decide) hs hpl) fun σ H Q ⟨O,R,q⟩=>by
  obtain ⟨v,h1,a,vs,rfl,h3,h4,h5,h6⟩:=R.at_ n _ h
  exact ⟨_,h1,a,vs,rfl,.inl (SqL.of h5),by rw[h6.len];exact q _ H (.refl H) (.int _)⟩
theorem mV:nD X (.builtin "abs") [.int i] (.int (if i < 0 then -i else i)):=eY.mono sF fun vs H Q ⟨O,d,r,q⟩=>by
 obtain ⟨v,rfl,h⟩:=fU r
 cases h
 exact ⟨i,rfl,q _ H (.refl H) (.int _)⟩
theorem nM (hx:x.items=some xs):wN X (.type "list") [x] xs:=eY.mono kN fun vs H Q ⟨O,d,r,q⟩=>by
 obtain ⟨v,rfl,h⟩:=fU r
 obtain ⟨a,ws,rfl,h1,h2⟩:=lM h hx
 exact ⟨a,ws,rfl,o4 h1,fun l hl=>q l ws _ (aN hl _) hl aQ (h2.same (bL (aN hl _) hl))⟩
def tyU:U→Value
 | .non=>.type "NoneType" | .bl _=>.type "bool" | .int _=>.type "int" | .str _=>.type "str" | .ty _=>.type "type" | .dic=>.type "dict" | .scr _=>.type "list" | .tup _=>.type "tuple" | .lst _=>.type "list"
theorem dG {n:String} (hn:∀m,x≠.ty m) (h:Fe X.K (tyU x) (.type n)=some k):nD X (.builtin "isinstance") [x,.ty (.nm n)] (.bl k):=by
 intro pins s σ H vs us Q I r hq
 obtain ⟨O,d,rs,q⟩:=hq
 obtain ⟨v,w,rfl,h1,h2⟩:=uP rs
 cases h2
 obtain ⟨p1,p2,rfl,r1,r2⟩:=mq r
 cases (show p2=BY n from r2)
 have fin:∀tk,EP X pins σ Q (.bool k) {s with toks:=tk }:=fun tk=>⟨.bl k,H,I.tok _,rfl,q _ H (.refl H) (.bl _)⟩
 cases h1 with
 |non=>exact dw I r1 .non h fin
 |bl b=>exact dw I r1 (.bl b) h fin
 |int b=>exact dw I r1 (.int b) h fin
 |str b=>exact dw I r1 (.str b) h fin
 |ty m=>exact absurd rfl (hn _)
 |dic e=>exact dw I r1 (.dK (aC _ _ e)) h fin
 |xc e kk=>exact absurd rfl (hn _)
 |scr e hl hh=>
  cases r1
  obtain ⟨its,_,pl,_⟩:=I.list (aC.seq e)
  obtain ⟨o,nn,e1,e2,_⟩:=pl
  exact BJ Fn I.kIn ⟨o,e1,e2⟩ h (fun z=>nomatch z) fin
 |lst e hl hh=>exact dw I r1 (.lst (aC _ _ e)) h fin
 |tup e hl hh=>
  cases r1
  obtain ⟨its,_,pl,_⟩:=I.tuple (aC.tup e)
  obtain ⟨o,e1,e2,_⟩:=pl
  exact BJ GU I.kIn ⟨o,e1,e2⟩ h (fun z=>nomatch z) fin
end
inductive Out where
 |val (u:U) |new (xs:List U) |exc (C:Addr)
def me (K:Ap) (H0:Hp) (O0:List Addr) (Q:VK) (E:XK):Out→Prop
 | .val u=>∀v H',aI H0 H'→Rp K (hid H' O0) v u→Q v H'
 | .new xs=>∀a vs H',aI H0 H'→H0 a=none→H' a=some (.lst vs)→Rps K (hid H' (a::O0)) vs xs→Q (.ref a) H'
 | .exc C=>∀H',aI H0 H'→E (.ref C) none H'
theorem me.later {K:Ap}{H0 H1:Hp}{O0:List Addr}{Q:VK}{E:XK}{o:Out} (e:aI H0 H1) (h:me K H0 O0 Q E o):me K H1 O0 Q E o:=by
 cases o with
 |val u=>exact fun v H' s r=>h v H' (e.trans s) r
 |new xs=>exact fun a vs H' s n q r=>h a vs H' (e.trans s) (e.free n) q r
 |exc C=>exact fun H' s=>h H' (e.trans s)
structure PD where
 nx:PSt→Prop
 rt:Out→Prop
 bk:PSt→Prop:=fun _=>False
 ct:PSt→Prop:=fun _=>False
structure Lf (K:Ap) (H0:Hp) (O0:List Addr) (E:XK) (D:PD) (D':kM):Prop where
 nx:∀ps σ H O,Rs K H0 O0 ps σ H O→D.nx ps→D'.nx σ H
 bk:∀ps σ H O,Rs K H0 O0 ps σ H O→D.bk ps→D'.bk σ H
 ct:∀ps σ H O,Rs K H0 O0 ps σ H O→D.ct ps→D'.ct σ H
 rt:∀o,D.rt o→me K H0 O0 D'.rt E o
def Ws (X:Cx) (H0:Hp) (O0:List Addr) (E:XK) (ss:List Stmt) (D:PD) (ps:PSt):Prop:=PSs X ss fun D' σ H=>Lf X.K H0 O0 E D D'∧∃O,Rs X.K H0 O0 ps σ H O
def W1 (X:Cx) (H0:Hp) (O0:List Addr) (E:XK) (s:Stmt) (D:PD) (ps:PSt):Prop:=PS X s fun D' σ H=>Lf X.K H0 O0 E D D'∧∃O,Rs X.K H0 O0 ps σ H O
section
variable {X:Cx}{H0:Hp}{O0:List Addr}{E:XK}{ps ps':PSt}{D:PD}{s:Stmt}{ss body:List Stmt}{a b c e:Expr}{es:List Expr}{pos p:Pos}{u x y:U}{xs ys us:List U}{k:Bool}
theorem aU (h:D.nx ps):Ws X H0 O0 E [] D ps:=PSs.mono vt fun D' σ H ⟨L,O,R⟩=>L.nx ps σ H O R h
theorem ac (h:W1 X H0 O0 E s {D with nx:=fun p=>Ws X H0 O0 E ss D p } ps):Ws X H0 O0 E (s::ss) D ps:=by
 have h2:PSs X ss fun D' σ H=>∃p,Ws X H0 O0 E ss D p∧Lf X.K H0 O0 E D D'∧∃O,Rs X.K H0 O0 p σ H O:=fun pins s σ H D' I ⟨p,w,l,r⟩=>w pins s σ H D' I ⟨l,r⟩
 exact PSs.mono (sX h h2) fun D' σ H ⟨L,O,R⟩=>⟨⟨fun p σ H O R q=>⟨p,q,L,O,R⟩,L.bk,L.ct,L.rt⟩,O,R⟩
theorem dm (h:Ws X H0 O0 E ss D ps') (hs:SubP ps' ps):Ws X H0 O0 E ss D ps:=PSs.mono h fun D' σ H ⟨L,O,R⟩=>⟨L,O,R.sub hs⟩
theorem ax {i:Nat}{x:Str}{pos':Pos} (hN:X.N.Nodup) (hi:X.N[i]?=some x) (hx:Loc X.env.scope x) (he:Ev X H0 O0 ps e u) (h:D.nx (ps.set i (some (.val u)))) (hs:Ew e (some (.Name x pos')) pos.line X.env=pure false:=by rfl) (hf:X.fn x=true∨X.env.scope.names.lookup x=some .local:=by first |exact .inl rfl |exact .inr rfl |assumption):
  W1 X H0 O0 E (.Assign [.Name x pos'] e pos) D ps:=PS.mono (tw hN hi hx he hs hf) fun D' σ H ⟨L,O,R⟩=>⟨O,R,fun v H' s r=>L.nx _ _ _ O ((R.go s).set r) h⟩
theorem ko {i:Nat}{x:Str}{pos':Pos} (hN:X.N.Nodup) (hi:X.N[i]?=some x) (hx:Loc X.env.scope x) (he:EvN X H0 O0 ps e xs) (h:D.nx (ps.set i (some (.own xs)))) (hs:Ew e (some (.Name x pos')) pos.line X.env=pure false:=by rfl) (hf:X.fn x=true∨X.env.scope.names.lookup x=some .local:=by first |exact .inl rfl |exact .inr rfl |assumption):
  W1 X H0 O0 E (.Assign [.Name x pos'] e pos) D ps:=PS.mono (tw hN hi hx he hs hf) fun D' σ H ⟨L,O,R⟩=>⟨O,R,fun a vs H' s n q r=>L.nx _ _ _ _ (R.own s n q r) h⟩
theorem kB {tb fb:List Stmt} (hc:Tt X H0 O0 ps c k) (h1:k=true→Ws X H0 O0 E tb D ps) (h2:k=false→Ws X H0 O0 E fb D ps):W1 X H0 O0 E (.If c tb fb pos) D ps:=by
 cases k with
 |true=>exact PS.mono (v7 hc (h1 rfl) (fun _ _ _ _ _ _ h=>h.elim) (u:=fun _ _ _=>False)) fun D' σ H ⟨L,O,R⟩=>⟨O,R,fun H' s=>qO ⟨L,O,R.go s⟩⟩
 |false=>exact PS.mono (v7 hc (fun _ _ _ _ _ _ h=>h.elim) (h2 rfl) (t:=fun _ _ _=>False)) fun D' σ H ⟨L,O,R⟩=>⟨O,R,fun H' s=>p0 ⟨L,O,R.go s⟩⟩
theorem Rs.ret {K:Ap}{σ:St}{H:Hp}{O:List Addr}{v:V} (R:Rs K H0 O0 ps σ H O) (r:Rp K (hid H O) v u):Rp K (hid H O0) v u:=r.same (dH R.old)
theorem bA (he:Ev X H0 O0 ps e u) (h:D.rt (.val u)):W1 X H0 O0 E (.Return (some e) pos) D ps:=
 PS.mono (oz he) fun D' σ H ⟨L,O,R⟩=>⟨O,R,fun v H' s r=>L.rt _ h v H' (R.same.trans s) ((R.go s).ret r)⟩
theorem k_ (he:EvN X H0 O0 ps e xs) (h:D.rt (.new xs)):W1 X H0 O0 E (.Return (some e) pos) D ps:=
 PS.mono (oz he) fun D' σ H ⟨L,O,R⟩=>⟨O,R,fun a vs H' s n q r=>L.rt _ h a vs H' (R.same.trans s) (R.same.free n) q (r.same (dH fun b hb=>by
  rcases AB.mp hb with y |y
  ·subst y;exact AF
  ·exact Aw _ (R.old b y)))⟩
theorem uh (i:Nat) {x:Str} (hp:ps[i]?=some (some (.own xs))) (h:D.rt (.new xs)) (hN:X.N[i]?=some x:=by rfl) (hv:Vis X.env.scope x:=by first |exact Or.inl rfl |exact Or.inr (Or.inl rfl) |exact Or.inr (Or.inr rfl)) (hd:(x==("__debug__":Str))=false:=by decide)
  (hcd:(x==("__classdict__":Str))=false:=by decide):W1 X H0 O0 E (.Return (some (.Name x p)) pos) D ps:=
 PS.mono (oz (iw hN hv hd hcd)) fun D' σ H ⟨L,O,R⟩=>by
  obtain ⟨v,h1,a,vs,rfl,h3,h4,h5,h6⟩:=R.at_ i _ hp
  refine ⟨_,h1,L.rt _ h a vs H R.same ((R.new a h3).resolve_left h4) h5 (h6.same (dH fun b hb=>?_))⟩
  rcases AB.mp hb with y |y
  ·subst y;exact h3
  ·exact R.old b y
theorem lK (he:Ev X H0 O0 ps e u) (h:D.nx ps) (hs:Ew e none pos.line X.env=pure false:=by rfl):W1 X H0 O0 E (.Expr e pos) D ps:=
 PS.mono (lj he hs) fun D' σ H ⟨L,O,R⟩=>⟨O,R,fun v H' s r=>L.nx _ _ _ O (R.go s) h⟩
theorem eI (i:Nat) {x:Str}{apos cpos xp:Pos} (hp:ps[i]?=some (some (.own xs))) (ha:Ev X H0 O0 ps e u) (hz:xs.length < sizeLine) (h:D.nx (ps.set i (some (.own (xs++[u])))))
  (hN:X.N[i]?=some x:=by rfl) (hv:Vis X.env.scope x:=by first |exact Or.inl rfl |exact Or.inr (Or.inl rfl) |exact Or.inr (Or.inr rfl)) (hd:(x==("__debug__":Str))=false:=by decide) (hcd:(x==("__classdict__":Str))=false:=by decide)
  (hbase:Fz (.Name x xp) "append" X.env (eval (.Name x xp) X.env)=eval (.Name x xp) X.env:=by rfl)
  (hfew:((Ec cpos (AL [e] X.env)).all (fun x=>!x.1) && (backToKw cpos (keywordEach [] X.env)).all (fun x=>x.1.isSome) && decide ([e].length+([]:List HM).length+(if ([]:List HM).isEmpty then 0 else 1) < 30))=true:=by rfl)
  (hline:(apos.endLine==cpos.line)=true:=by rfl) (hse:AL [e] X.env=(false,eval e X.env)::AL [] X.env:=by rfl) (hplain:(Ec cpos (AL [] X.env)).any (·.1)=false:=by rfl)
  (hs:Ew (.Call (.Attribute (.Name x xp) "append" apos) [e] [] cpos) none pos.line X.env=pure false:=by rfl):W1 X H0 O0 E (.Expr (.Call (.Attribute (.Name x xp) "append" apos) [e] [] cpos) pos) D ps:=
 PS.mono (lj (yJ FB PySem.F.slot_list_append PySem.F.type_list_append hX (iw hN hv hd hcd) (cJ ha d8 hse) hbase hfew hline hse hplain) hs) fun D' σ H ⟨L,O,R⟩=>by
  obtain ⟨v,h1,a,vs,rfl,h3,h4,h5,h6⟩:=R.at_ i _ hp
  refine ⟨_,h1,.inl ⟨rfl,_,SqL.of h5⟩,O,R,fun w H' s r=>⟨a,vs,w,rfl,rfl,s _ _ h5,by rw[h6.len];exact hz,?_⟩⟩
  exact L.nx _ _ _ O ((R.go s).write hp h1 ((h6.same (aP s)).snoc (.cons r .nil))) h
theorem wJ (i:Nat) {x:Str}{apos cpos xp:Pos} (hp:ps[i]?=some (some (.own xs))) (hne:xs≠[]) (h:D.nx (ps.set i (some (.own xs.dropLast))))
  (hN:X.N[i]?=some x:=by rfl) (hv:Vis X.env.scope x:=by first |exact Or.inl rfl |exact Or.inr (Or.inl rfl) |exact Or.inr (Or.inr rfl)) (hd:(x==("__debug__":Str))=false:=by decide) (hcd:(x==("__classdict__":Str))=false:=by decide)
  (hbase:Fz (.Name x xp) "pop" X.env (eval (.Name x xp) X.env)=eval (.Name x xp) X.env:=by rfl)
  (hline:(apos.endLine==cpos.line)=true:=by rfl)
  (hs:Ew (.Call (.Attribute (.Name x xp) "pop" apos) [] [] cpos) none pos.line X.env=pure false:=by rfl):W1 X H0 O0 E (.Expr (.Call (.Attribute (.Name x xp) "pop" apos) [] [] cpos) pos) D ps:=
 PS.mono (lj (wT FB PySem.F.slot_list_pop PySem.F.type_list_pop xT (iw hN hv hd hcd) hbase hline) hs) fun D' σ H ⟨L,O,R⟩=>by
  obtain ⟨v,h1,a,vs,rfl,h3,h4,h5,h6⟩:=R.at_ i _ hp
  have hpos:0 < vs.length:=by rw[h6.len];exact DU.mpr hne
  have hlt:vs.length - 1 < vs.length:=by omega
  refine ⟨_,h1,.inl ⟨rfl,_,SqL.of h5⟩,a,vs,vs[vs.length - 1],rfl,rfl,h5,An hlt,?_⟩
  refine L.nx _ _ _ O (R.write hp h1 ⟨by simp[h6.len],fun j v x e1 e2=>?_⟩) h
  rw[CT] at e1 e2
  split at e1
  ·split at e2
   ·exact h6.at_ j v x e1 e2
   ·cases e2
  ·cases e1
end
def jq:List Nat→TGs
 |[]=>yO
 |j::js=>wM (mI j) (jq js)
def setAll:PSt→List Nat→List U→PSt
 |ps,j::js,u::us=>setAll (ps.set j (some (.val u))) js us
 |ps,_,_=>ps
def iU:St→List Nat→List V→St
 |σ,j::js,u::us=>iU (σ.set j (some u)) js us
 |σ,_,_=>σ
theorem Rs.setAll {K:Ap}{H0:Hp}{O0:List Addr}{H:Hp}{O:List Addr}:∀{js:List Nat}{ps:PSt}{σ:St}{vs:List V}{us:List U},Rs K H0 O0 ps σ H O→Rps K (hid H O) vs us→Rs K H0 O0 (L2.setAll ps js us) (iU σ js vs) H O
 |[],ps,σ,vs,us,R,r=>by cases us <;>cases vs <;>exact R
 |j::js,ps,σ,vs,[],R,r=>by rw[r.nil_inv];exact R
 |j::js,ps,σ,vs,u::us,R,r=>by
  obtain ⟨v,ws,rfl,h1,h2⟩:=r.cons_inv
  exact Rs.setAll (js:=js) (R.set h1) h2
theorem eV {Q:St→Hp→Prop}{H:Hp}:∀{js:List Nat}{σ:St}{vs:List V},vs.length=js.length→Q (iU σ js vs) H→jq js vs σ H Q
 |[],σ,[],_,q=>⟨rfl,q⟩
 |j::js,σ,v::vs,e,q=>⟨v,vs,rfl,eV (js:=js) (by simpa using e) q⟩
 |[],_,_::_,e,_=>by simp at e
 |_::_,_,[],e,_=>by simp at e
def TgS (X:Cx) (H0:Hp) (O0:List Addr) (tg:Expr) (ps:PSt) (u:U) (ps':PSt):Prop:=
 PG X tg fun v σ H Q=>∃O,Rs X.K H0 O0 ps σ H O∧Rp X.K (hid H O) v u∧∀σ' H',aI H H'→Rs X.K H0 O0 ps' σ' H' O→Q σ' H'
theorem PG.mono {X:Cx}{e:Expr}{t t':TG} (h:PG X e t) (m:∀v σ H Q,t' v σ H Q→t v σ H Q):PG X e t':=fun pins s σ H v u Q I r q=>h pins s σ H v u Q I r (m v σ H Q q)
theorem PI.mono {X:Cx}{tg e:Expr}{t t':TI} (h:PI X tg e t) (m:∀σ H Q,t' σ H Q→t σ H Q):PI X tg e t':=fun pins s σ H Q I q=>h pins s σ H Q I (m σ H Q q)
def Yl (K:Ap) (J:It) (G:Hp) (xs:List U):Prop:=
 ∀H2,aI G H2→(∀i,i < xs.length→J.go i H2∧∀x H3,J.yld i H2 x H3→H3=H2∧∃u,xs[i]?=some u∧Rp K G x u)∧J.stop xs.length H2
def EvI (X:Cx) (H0:Hp) (O0:List Addr) (ps:PSt) (tg iter:Expr) (xs:List U):Prop:=
 PI X tg iter fun σ H R=>∃O,Rs X.K H0 O0 ps σ H O∧∀J H',aI H H'→Yl X.K J (hid H' O) xs→R J H'
section
variable {X:Cx}{H0:Hp}{O0:List Addr}{E:XK}{ps ps':PSt}{D:PD}{s:Stmt}{ss body:List Stmt}{a b c e tg iter:Expr}{es:List Expr}{pos p:Pos}{u x y:U}{xs ys us:List U}{k:Bool}
theorem fe {i:Nat}{x:Str} (hN:X.N.Nodup) (hi:X.N[i]?=some x) (hx:Loc X.env.scope x) (hf:X.fn x=true∨X.env.scope.names.lookup x=some .local:=by first |exact .inl rfl |exact .inr rfl |assumption):TgS X H0 O0 (.Name x pos) ps u (ps.set i (some (.val u))):=
 PG.mono (bj hN hi hx hf) fun v σ H Q ⟨O,R,r,q⟩=>q _ H (.refl H) (R.set r)
theorem wO {k:Nat} (js:List Nat) (hc:X.calm=true) (h:PGs X es (jq js)) (hl:us.length=js.length) (hn:(CV es X.env).length=js.length:=by rfl) (hst:(CV es X.env).findIdx? (·.1)=none:=by rfl):TgS X H0 O0 (.Tuple es k pos) ps (.tup us) (setAll ps js us):=
 PG.mono (nJ hc h hn hst) fun v σ H Q ⟨O,R,r,q⟩=>by
  cases r with
  |tup hq hl' hh=>exact ⟨_,_,rfl,aC.tup hq,hl'.trans hl,eV (hl'.trans hl) (q _ H (.refl H) (R.setAll ⟨hl',hh⟩))⟩
theorem yw {k:Nat} (js:List Nat) (hc:X.calm=true) (h:PGs X es (jq js)) (hx:x=.lst us∨x=.scr us) (hl:us.length=js.length) (hn:(CV es X.env).length=js.length:=by rfl) (hst:(CV es X.env).findIdx? (·.1)=none:=by rfl):TgS X H0 O0 (.Tuple es k pos) ps x (setAll ps js us):=
 PG.mono (xf hc h hn hst) fun v σ H Q ⟨O,R,r,q⟩=>by
  rcases hx with rfl |rfl
  ·cases r with
   |lst hq hl' hh=>exact ⟨_,_,rfl,aC.seq (SqL.of hq),hl'.trans hl,eV (hl'.trans hl) (q _ H (.refl H) (R.setAll ⟨hl',hh⟩))⟩
  ·cases r with
   |scr hq hl' hh=>exact ⟨_,_,rfl,aC.seq hq,hl'.trans hl,eV (hl'.trans hl) (q _ H (.refl H) (R.setAll ⟨hl',hh⟩))⟩
theorem ww (he:Ev X H0 O0 ps e u) (hg:TgS X H0 O0 tg ps u ps') (h:D.nx ps') (hs:swapsWithSole [tg] e pos.line X.env=pure false:=by rfl) (hw:swappedStores [tg] e X.env=pure none:=by rfl)
  (h1:(CV [tg] X.env).map (·.2)=[assign tg X.env]:=by rfl):W1 X H0 O0 E (.Assign [tg] e pos) D ps:=
 PS.mono (xG he hg hs hw h1) fun D' σ H ⟨L,O,R⟩=>⟨O,R,fun v H1 s1 r1=>⟨O,R.go s1,r1,fun σ' H2 s2 R2=>L.nx _ _ _ O R2 h⟩⟩
theorem cD (he:Ev X H0 O0 ps iter x) (hx:x=.lst xs∨x=.scr xs):EvI X H0 O0 ps tg iter xs:=
 PI.mono (uI he) fun σ H Q ⟨O,R,q⟩=>⟨O,R,fun v H' s r=>by
  have key:∃a vs,v=.ref a∧SqL X.K (hid H' O) a vs∧Rps X.K (hid H' O) vs xs:=by
   rcases hx with rfl |rfl
   ·cases r with
    |lst hq hl hh=>exact ⟨_,_,rfl,SqL.of hq,hl,hh⟩
   ·cases r with
    |scr hq hl hh=>exact ⟨_,_,rfl,hq,hl,hh⟩
  obtain ⟨a,vs,rfl,hq,rs⟩:=key
  refine ⟨a,rfl,⟨vs,aC.seq hq⟩,q _ H' s fun H2 s2=>⟨fun i hi=>?_,⟨vs,s2.seq hq,by rw[rs.len];exact Ay _⟩⟩⟩
  have hi':i < vs.length:=by rw[rs.len];exact hi
  refine ⟨⟨vs,vs[i],s2.seq hq,An hi'⟩,fun z H3 y=>⟨y.1,xs[i],An hi,rs.at_ i z _ (y.2 vs (s2.seq hq)) (An hi)⟩⟩⟩
theorem wA (he:Ev X H0 O0 ps iter (.tup xs)):EvI X H0 O0 ps tg iter xs:=
 PI.mono (yd he) fun σ H Q ⟨O,R,q⟩=>⟨O,R,fun v H' s r=>by
  cases r with
  | @tup a vs _ hq hl hh=>
   have rs:Rps X.K (hid H' O) vs xs:=⟨hl,hh⟩
   refine ⟨a,rfl,⟨vs,aC.tup hq⟩,q _ H' s fun H2 s2=>⟨fun i hi=>?_,⟨vs,s2.tup hq,by rw[rs.len];exact Ay _⟩⟩⟩
   have hi':i < vs.length:=by rw[rs.len];exact hi
   refine ⟨⟨vs,vs[i],s2.tup hq,An hi'⟩,fun z H3 y=>⟨y.1,xs[i],An hi,rs.at_ i z _ (y.2 vs (s2.tup hq)) (An hi)⟩⟩⟩
def gw (lo:Int) (n:Nat):List U:=(Bi n).map fun (i:Nat)=>U.int (lo+(i:Int))
theorem eZ {lo:Int}{n:Nat}:(gw lo n).length=n:=by simp[gw]
theorem j9 {lo:Int}{n i:Nat} (h:i < n):(gw lo n)[i]?=some (.int (lo+(i:Int))):=by
 unfold gw
 rw[Av,DV h];rfl
theorem i5 {lo:Int}{n i:Nat}{x:U} (h:(gw lo n)[i]?=some x):i < n∧x=.int (lo+(i:Int)):=by
 have hi:=aF h
 rw[eZ] at hi
 rw[j9 hi] at h
 exact ⟨hi,(Bo h).symm⟩
theorem um {K:Ap}{G:Hp}{lo:Int}{n:Nat}:Yl K (Itr lo n) G (gw lo n):=fun H2 s2=>by
 rw[eZ]
 refine ⟨fun i hi=>⟨hi,fun z H3 y=>⟨y.1,_,j9 hi,?_⟩⟩,Ay _⟩
 rw[y.2];exact .int _
theorem lQ {j:Int} (hg:Gl X "range") (hm:X.mg "range"=none) (ha:EvA X H0 O0 ps [a] [.int j]) (h1:-(2 ^ 62)≤j) (h2:j < 2 ^ 62) (hs:AL [a] X.env=[(false,eval a X.env)]:=by rfl):EvI X H0 O0 ps tg (.Call (.Name "range" p) [a] [] pos) (gw 0 j.toNat):=
 PI.mono (qB hg hm ha hs) fun σ H Q ⟨O,R,q⟩=>⟨O,R,fun vs H' s r=>by
  obtain ⟨v,rfl,h⟩:=fU r
  cases h
  exact ⟨j,rfl,h1,h2,q _ H' s um⟩⟩
theorem Rs.rebase {K:Ap}{σ:St}{H:Hp}{O:List Addr} (R:Rs K H0 O0 ps σ H O):Rs K (hid H (O.filter fun a=>decide (a ∉ O0))) O0 ps σ H O:=
 ⟨aC,R.old,fun a ha=>by
  by_cases h:a∈O0
  ·exact .inl h
  ·right;unfold hid;rw[if_pos (Cd.mpr ⟨ha,by simpa using h⟩)],R.dom,R.len,R.at_,R.inj⟩
theorem Rs.base {K:Ap}{σ:St}{H:Hp}{O:List Addr} (R:Rs K H0 O0 ps σ H O):aI H0 (hid H (O.filter fun a=>decide (a ∉ O0))):=fun b o h=>by
 refine dj (R.same b o h) fun z=>?_
 obtain ⟨z1,z2⟩:=Cd.mp z
 rcases R.new b z1 with y |y
 ·simp[y] at z2
 ·rw[h] at y;cases y
theorem Rs.unbase {K:Ap}{H1:Hp}{σ:St}{H:Hp}{O:List Addr} (e:aI H0 H1) (R:Rs K H1 O0 ps σ H O):Rs K H0 O0 ps σ H O:=
 ⟨e.trans R.same,R.old,fun a ha=>(R.new a ha).imp id fun z=>e.free z,R.dom,R.len,R.at_,R.inj⟩
theorem Rs.seen {K:Ap}{ps2:PSt}{σ σ2:St}{H H2:Hp}{O O2:List Addr} (R:Rs K H0 O0 ps σ H O) (R2:Rs K (hid H (O.filter fun a=>decide (a ∉ O0))) O0 ps2 σ2 H2 O2):aI (hid H O) (hid H2 O2):=fun b o h=>by
 obtain ⟨h1,h2⟩:=gD h
 have h3:hid H (O.filter fun a=>decide (a ∉ O0)) b=some o:=dj h1 fun z=>h2 (Cd.mp z).1
 refine dj (R2.same b o h3) fun z=>?_
 rcases R2.new b z with y |y
 ·exact h2 (R.old b y)
 ·rw[h3] at y;cases y
theorem yY (hc:X.calm=true) (hp:EV (model X.prog X.w) X.A X.env X.xe) (hi:EvI X H0 O0 ps tg iter xs) (Iv:Nat→PSt→Prop) (h0:Iv 0 ps)
  (hs:∀(H0:Hp) (i:Nat) (x:U) (ps:PSt),xs[i]?=some x→Iv i ps→∃ps',TgS X H0 O0 tg ps x ps'∧Ws X H0 O0 E body {D with nx:=Iv (i+1),ct:=Iv (i+1),bk:=D.nx } ps') (hd:∀ps,Iv xs.length ps→D.nx ps)
  (hf:∀x,Bw iter X.env x=pure x:=by intro _;rfl):W1 X H0 O0 E (.For tg iter body [] pos) D ps:=by
 have hg:PG X tg fun v σ H Q=>∃H1 ps u ps',TgS X H1 O0 tg ps u ps'∧∃O,Rs X.K H1 O0 ps σ H O∧Rp X.K (hid H O) v u∧∀σ' H',aI H H'→Rs X.K H1 O0 ps' σ' H' O→Q σ' H':=
  fun pins s σ H v u Q I r ⟨H1,ps,w,ps',t,z⟩=>t pins s σ H v u Q I r z
 have hb:PSs X body fun D' σ H=>∃H1 D1 ps',Ws X H1 O0 E body D1 ps'∧Lf X.K H1 O0 E D1 D'∧∃O,Rs X.K H1 O0 ps' σ H O:=fun pins s σ H D' I ⟨H1,D1,ps',w,z⟩=>w pins s σ H D' I z
 refine PS.mono (sM hp hc hi hg hb hf) fun D' σ H ⟨L,O,R⟩=>⟨O,R,fun J H1 s1 Y=>?_⟩
 have R1:=R.go s1
 have base:=R1.base
 refine ⟨fun i m σ H=>m=xs.length - i∧i≤xs.length∧∃ps O',Iv i ps∧Rs X.K (hid H1 (O.filter fun a=>decide (a ∉ O0))) O0 ps σ H O',⟨_,rfl,Bh _,ps,O,h0,R1.rebase⟩,?_⟩
 rintro i m σ2 H2 ⟨rfl,hi2,ps2,O2,iv,R2⟩
 have seen:=R1.seen R2
 obtain ⟨y1,y2⟩:=Y H2 (seen.trans aC)
 by_cases hlt:i < xs.length
 ·obtain ⟨g1,g2⟩:=y1 i hlt
  refine .inr ⟨g1,fun σ' H'=>∃ps O',Iv (i+1) ps∧Rs X.K (hid H1 (O.filter fun a=>decide (a ∉ O0))) O0 ps σ' H' O',fun σ' H' z=>⟨xs.length - (i+1),by omega,rfl,hlt,z⟩,fun x H3 y=>?_⟩
  obtain ⟨rfl,u,hu,r⟩:=g2 x H3 y
  obtain ⟨ps',t,w⟩:=hs (hid H1 (O.filter fun a=>decide (a ∉ O0))) i u ps2 hu iv
  refine ⟨_,ps2,u,ps',t,O2,R2,r.same seen,fun σ' H' s' R'=>⟨_,_,ps',w,?_,O2,R'⟩⟩
  exact ⟨fun p σ H O R q=>⟨p,O,q,R⟩,fun p σ H O R q=>L.nx _ _ _ _ (R.unbase base) q,fun p σ H O R q=>⟨p,O,q,R⟩,fun o q=>(L.rt o q).later base⟩
 ·have e:i=xs.length:=by omega
  subst e
  exact .inl ⟨y2,L.nx _ _ _ _ (R2.unbase base) (hd ps2 iv)⟩
theorem vj (hp:EV (model X.prog X.w) X.A X.env X.xe) (Iv:Nat→PSt→Prop) (m:Nat) (h0:Iv m ps)
  (hs:∀m ps,Iv m ps→∃b,Tt X H0 O0 ps c b∧(b=true→Ws X H0 O0 E body {D with nx:=fun p=>∃m',m' < m∧Iv m' p,ct:=fun p=>∃m',m' < m∧Iv m' p,bk:=D.nx } ps)∧(b=false→D.nx ps)):W1 X H0 O0 E (.While c body [] pos) D ps:=by
 have ht:PT X c fun σ H Q=>∃ps b,Tt X H0 O0 ps c b∧∃O,Rs X.K H0 O0 ps σ H O∧∀H',aI H H'→Q b H':=fun pins s σ H Q I ⟨ps,b,t,z⟩=>t pins s σ H Q I z
 have hb:PSs X body fun D' σ H=>∃D1 ps',Ws X H0 O0 E body D1 ps'∧Lf X.K H0 O0 E D1 D'∧∃O,Rs X.K H0 O0 ps' σ H O:=fun pins s σ H D' I ⟨D1,ps',w,z⟩=>w pins s σ H D' I z
 refine PS.mono (rL hp ht hb) fun D' σ H ⟨L,O,R⟩=>⟨fun m σ H=>∃ps O,Iv m ps∧Rs X.K H0 O0 ps σ H O,⟨m,ps,O,h0,R⟩,?_⟩
 rintro m σ2 H2 ⟨ps2,O2,iv,R2⟩
 obtain ⟨b,t,h1,h2⟩:=hs m ps2 iv
 refine ⟨ps2,b,t,O2,R2,fun H3 s3=>?_⟩
 cases b with
 |true=>
  refine qO ⟨fun σ H=>∃m',m' < m∧∃ps O,Iv m' ps∧Rs X.K H0 O0 ps σ H O,fun σ' H' z=>z,_,ps2,h1 rfl,?_,O2,R2.go s3⟩
  exact ⟨fun p σ H O R ⟨m',l,q⟩=>⟨m',l,p,O,q,R⟩,fun p σ H O R q=>L.nx _ _ _ _ R q,fun p σ H O R ⟨m',l,q⟩=>⟨m',l,p,O,q,R⟩,L.rt⟩
 |false=>exact p0 (L.nx _ _ _ _ (R2.go s3) (h2 rfl))
def eJ:List Nat→PSt→PSt
 |[],ps=>ps
 |i::is,ps=>eJ is (ps.set i none)
theorem Rs.mask {K:Ap}{H:Hp}{O:List Addr}:∀{is:List Nat}{ps:PSt}{σ:St},Rs K H0 O0 ps σ H O→Rs K H0 O0 (eJ is ps) (L2.mask is σ) H O
 |[],ps,σ,R=>R
 |i::is,ps,σ,R=>Rs.mask (is:=is) (R.drop (i:=i) (o:=none))
theorem Rs.hide {K:Ap}{σ:St}{H H':Hp}{O:List Addr}{l:Addr} (R:Rs K H0 O0 ps σ H O) (e:aI H H') (n:H l=none) (d:H' l≠none):Rs K H0 O0 ps σ H' (l::O):=by
 refine ⟨R.same.trans e,fun a ha=>Aw _ (R.old a ha),fun a ha=>?_,fun a ha z=>?_,R.len,fun i s h=>?_,R.inj⟩
 ·rcases AB.mp ha with y |y
  ·subst y;exact .inr (R.same.free n)
  ·exact R.new a y
 ·rcases AB.mp ha with y |y
  ·subst y;exact d z
  ·exact R.dom a y (e.free z)
 ·obtain ⟨w,h1,h2⟩:=R.at_ i s h
  refine ⟨w,h1,?_⟩
  cases s with
  |val u=>exact Rp.same (bL e n) h2
  |own ys=>
   obtain ⟨b,ws,k1,k2,k3,k4,k5⟩:=h2
   exact ⟨b,ws,k1,Aw _ k2,k3,e _ _ k4,k5.same (bL e n)⟩
  |pin z u=>exact ⟨h2.1,Rp.same (bL e n) h2.2⟩
theorem nj {js is:List Nat}:∀{σ:St}{vs:List V},(∀j∈js,j∈is)→∀(n:Nat) (v:V),n ∉ is→σ[n]?=some (some v)→(iU σ js vs)[n]?=some (some v):=by
 induction js with
 |nil=>intro σ vs _ n v _ h;cases vs <;>exact h
 |cons j js ih=>
  intro σ vs hj n v hn h
  cases vs with
  |nil=>exact h
  |cons w ws=>exact ih (fun z hz=>hj z (Aw _ hz)) n v hn (by rw[Ba (fun z=>hn (by rw[←z];exact hj j AF))];exact h)
def GOk (g:TG) (K:Ap) (is:List Nat) (f:PSt→U→PSt) (dom:U→Prop):Prop:=
 ∀(H0:Hp) (O0:List Addr) (ps:PSt) (σ:St) (H:Hp) (O:List Addr) (v:V) (u:U) (Q:St→Hp→Prop),dom u→Rs K H0 O0 ps σ H O→Rp K (hid H O) v u→
  (∀σ',Rs K H0 O0 (f ps u) σ' H O→(∀(n:Nat) (w:V),n ∉ is→σ[n]?=some (some w)→σ'[n]?=some (some w))→Q σ' H)→g v σ H Q
theorem cQ {K:Ap}{is:List Nat}{i:Nat} (h:i∈is):GOk (mI i) K is (fun ps u=>ps.set i (some (.val u))) fun _=>True:=fun H0 O0 ps σ H O v u Q _ R r q=>
 q _ (R.set r) fun n w hn e=>by rw[Ba (fun z=>hn (by rw[←z];exact h))];exact e
theorem pE {K:Ap}{is js:List Nat} (h:∀j∈js,j∈is):GOk (yV K js.length (jq js)) K is (fun ps u=>match u with | .tup us=>setAll ps js us |_=>ps) fun u=>∃us,u=.tup us∧us.length=js.length:=fun H0 O0 ps σ H O v u Q d R r q=>by
 obtain ⟨us,rfl,hl⟩:=d
 cases r with
 |tup hq hl' hh=>exact ⟨_,_,rfl,aC.tup hq,hl'.trans hl,eV (hl'.trans hl) (q _ (R.setAll ⟨hl',hh⟩) fun n w hn e=>nj h n w hn e)⟩
theorem j6 {is:List Nat}{g:TG}{f:PSt→U→PSt}{dom:U→Prop}{σ:St}{H1:Hp}{O:List Addr}{Q:VK}{J:It}{te:TE} (hg:GOk g X.K is f dom) (R1:Rs X.K H0 O0 ps σ H1 O) (Y:Yl X.K J (hid H1 O) xs) (hlen:ys.length=xs.length) (hz:xs.length≤sizeLine) (hdom:∀x∈xs,dom x)
  (hte:∀(i:Nat) (x y:U) (σ:St) (H:Hp) (O':List Addr) (Q:VK),xs[i]?=some x→ys[i]?=some y→Rs X.K H0 O0 (f (eJ is ps) x) σ H O'→(∀v H',aI H H'→Rp X.K (hid H' O') v y→Q v H')→te σ H Q)
  (fin:∀a vs H',aI H1 H'→H1 a=none→H' a=some (.lst vs)→Rps X.K (hid H' (a::O)) vs ys→Q (.ref a) H'):wD is g te σ Q J H1:=by
 intro l hl
 refine ⟨fun i m H2=>m=xs.length - i∧i≤xs.length∧aI H1 H2∧∃vs,H2 l=some (.lst vs)∧vs.length=i∧Rps X.K (hid H2 (l::O)) vs (ys.take i),⟨_,rfl,Bh _,aN hl _,[],aQ,rfl,by rw[GF];exact .nil⟩,?_⟩
 rintro i m H2 ⟨rfl,hi,s2,vs,h2,hv,rs⟩
 have seen:aI (hid H1 O) (hid H2 (l::O)):=bL s2 hl
 obtain ⟨y1,y2⟩:=Y H2 (seen.trans aC)
 by_cases hlt:i < xs.length
 ·obtain ⟨g1,g2⟩:=y1 i hlt
  refine .inr ⟨g1,fun x H3 y=>?_⟩
  obtain ⟨rfl,u,hu,r⟩:=g2 x H3 y
  have R2:=(R1.mask (is:=is)).hide s2 hl (by rw[h2];intro z;cases z)
  refine hg H0 O0 _ _ H3 (l::O) x u _ (hdom u (AO hu)) R2 (r.same seen) fun σ4 R4 keep=>?_
  have hy:ys[i]?=some (ys[i]'(by omega)):=An _
  refine hte i u _ σ4 H3 (l::O) _ hu hy R4 fun v H5 s5 r5=>⟨fun j w e=>keep j w (gQ is σ j w e).2 e,vs,s5 _ _ h2,?_,xs.length - (i+1),by omega,rfl,hlt,(s2.trans s5).put hl _,vs++[v],aQ,by simp[hv],?_⟩
  ·rw[hv];omega
  ·rw[lL AF,DL,hy]
   exact (rs.same (aP s5)).snoc (.cons r5 .nil)
 ·have e:i=xs.length:=by omega
  subst e
  rw[←hlen,Dm] at rs
  exact .inl ⟨y2,fin l vs H2 s2 hl h2 rs⟩
theorem gJ {elt:Expr}{scope:Scope}{cl:List (Str×Addr)}{is:List Nat}{g:TG}{f:PSt→U→PSt}{dom:U→Prop} (hc:X.calm=true) (B:c_ X scope cl is) (hi:EvI X H0 O0 ps tg iter xs) (hg:∀C s H fp,PG (aH X scope cl C s H fp) tg g) (gk:GOk g X.K is f dom)
  (hlen:ys.length=xs.length) (hz:xs.length≤sizeLine) (hdom:∀x∈xs,dom x) (he:∀C s H fp (i:Nat) (x y:U),xs[i]?=some x→ys[i]?=some y→Ev (aH X scope cl C s H fp) H0 O0 (f (eJ is ps) x) elt y)
  (hs:∀x,Bw iter X.env x=pure x:=by intro _;rfl):EvN X H0 O0 ps (.ListComp elt [⟨tg,iter,[],0⟩] scope pos) ys:=by
 have hte:∀C s H fp,PE (aH X scope cl C s H fp) elt fun σ H Q=>∃i x y,xs[i]?=some x∧ys[i]?=some y∧∃O',Rs X.K H0 O0 (f (eJ is ps) x) σ H O'∧∀v H',aI H H'→Rp X.K (hid H' O') v y→Q v H':=
  fun C s H fp pins s' σ H' Q I ⟨i,x,y,h1,h2,z⟩=>he C s H fp i x y h1 h2 pins s' σ H' Q I z
 refine PE.mono (vT hc B hi hg hte hs) fun σ H Q ⟨O,R,q⟩=>⟨O,R,fun J H1 s1 Y=>?_⟩
 exact j6 gk (R.go s1) Y hlen hz hdom (fun i x y σ H O' Q h1 h2 R' z=>⟨i,x,y,h1,h2,O',R',z⟩) fun a vs H' s n h r=>q a vs H' (s1.trans s) (s1.free n) h r
theorem ki {elt:Expr}{scope:Scope}{cl:List (Str×Addr)}{spos py:Pos}{y:Str}{j:Nat}{is:List Nat}{g:TG}{f:PSt→U→PSt}{dom:U→Prop} (own:Bool) (hc:X.calm=true) (hN:X.N.Nodup) (hj:X.N[j]?=some y) (hy:Loc X.env.scope y) (B:c_ X scope cl is)
  (hi:EvI X H0 O0 ps tg iter xs) (hg:∀C s H fp,PG (aH X scope cl C s H fp) tg g) (gk:GOk g X.K is f dom) (hlen:ys.length=xs.length) (hz:xs.length≤sizeLine) (hdom:∀x∈xs,dom x)
  (he:∀C s H fp (i:Nat) (x y:U),xs[i]?=some x→ys[i]?=some y→Ev (aH X scope cl C s H fp) H0 O0 (f (eJ is ps) x) elt y) (h:D.nx (ps.set j (some (if own then .own ys else .val (.lst ys)))))
  (hs:∀x,Bw iter X.env x=pure x:=by intro _;rfl)
  (hsw:Ew (.ListComp elt [⟨tg,iter,[],0⟩] scope pos) (some (.Name y py)) spos.line X.env=pure true:=by rfl) (hf:X.fn y=true∨X.env.scope.names.lookup y=some .local:=by first |exact .inl rfl |exact .inr rfl |assumption):
  W1 X H0 O0 E (.Assign [.Name y py] (.ListComp elt [⟨tg,iter,[],0⟩] scope pos) spos) D ps:=by
 have hte:∀C s H fp,PE (aH X scope cl C s H fp) elt fun σ H Q=>∃i x y,xs[i]?=some x∧ys[i]?=some y∧∃O',Rs X.K H0 O0 (f (eJ is ps) x) σ H O'∧∀v H',aI H H'→Rp X.K (hid H' O') v y→Q v H':=
  fun C s H fp pins s' σ H' Q I ⟨i,x,y,h1,h2,z⟩=>he C s H fp i x y h1 h2 pins s' σ H' Q I z
 refine PS.mono (n5 hc hN hj hy B hi hg hte hs hsw hf) fun D' σ H ⟨L,O,R⟩=>⟨O,R,fun J H1 s1 Y=>?_⟩
 refine j6 gk (R.go s1) Y hlen hz hdom (fun i x y σ H O' Q h1 h2 R' z=>⟨i,x,y,h1,h2,O',R',z⟩) fun a vs H' s n h' r=>?_
 cases own with
 |true=>exact L.nx _ _ _ _ ((R.go s1).own s n h' r) h
 |false=>
  have na:a ∉ O:=fun z=>(R.go s1).dom a z n
  have r':=r.same (dH fun b hb=>Aw a hb)
  exact L.nx _ _ _ _ (((R.go s1).go s).set (.lst (dj h' na) r'.len r'.at_)) h
end
def spU (K:Ap) (spec:List U→Out→Prop):Sp:=fun vs H Q E=>∃us O o,(∀a∈O,H a≠none)∧Rps K (hid H O) vs us∧spec us o∧me K H O Q E o
section
variable {X:Cx}{H0:Hp}{O0:List Addr}{E:XK}{ps ps':PSt}{D:PD}{s:Stmt}{ss body:List Stmt}{a b c e:Expr}{es:List Expr}{pos p:Pos}{u x y:U}{xs ys us:List U}{k:Bool}
 {CX:CXT}{n:Nat}{f C:Addr}{fd:A9}{pn:List Str}{spec:List U→Out→Prop}{nm:Str}
theorem aw (F:bF X.prog X.w X.K X.mg X.base CX n f fd pn (spU X.K spec)) (hr:dC n X.A) (hg:Gl X nm) (hm:X.mg nm=some (.ref f)) (hk:AI X.K (.ref f)=true) (hb:bi X.K fd pn []) (hx:jt CX X E0)
  (ha:EvA X H0 O0 ps (e::es) us) (h:spec us (.val u)) (hdb:(nm==("__debug__":Str))=false:=by decide) (he:AL (e::es) X.env=(false,eval e X.env)::AL es X.env:=by rfl) (hpl:(Ec pos (AL es X.env)).any (·.1)=false:=by rfl):
  Ev X H0 O0 ps (.Call (.Name nm p) (e::es) [] pos) u:=
 PE.mono (oW F hr hg hm hk hb .nil hx ha hdb he hpl) fun σ H Q ⟨O,R,q⟩=>⟨O,R,fun vs H1 s1 r1=>by
  show spU X.K spec (vs++[]) H1 Q _
  rw[Dy]
  exact ⟨us,O,.val u,(R.go s1).dom,r1,h,fun v H2 s2 r2=>q v H2 (s1.trans s2) r2⟩⟩
theorem fE (F:bF X.prog X.w X.K X.mg X.base CX n f fd pn (spU X.K spec)) (hr:dC n X.A) (hg:Gl X nm) (hm:X.mg nm=some (.ref f)) (hk:AI X.K (.ref f)=true) (hb:bi X.K fd pn []) (hx:jt CX X E0)
  (ha:EvA X H0 O0 ps (e::es) us) (h:spec us (.new xs)) (hdb:(nm==("__debug__":Str))=false:=by decide) (he:AL (e::es) X.env=(false,eval e X.env)::AL es X.env:=by rfl) (hpl:(Ec pos (AL es X.env)).any (·.1)=false:=by rfl):
  EvN X H0 O0 ps (.Call (.Name nm p) (e::es) [] pos) xs:=
 PE.mono (oW F hr hg hm hk hb .nil hx ha hdb he hpl) fun σ H Q ⟨O,R,q⟩=>⟨O,R,fun vs H1 s1 r1=>by
  show spU X.K spec (vs++[]) H1 Q _
  rw[Dy]
  exact ⟨us,O,.new xs,(R.go s1).dom,r1,h,fun a vs H2 s2 n2 h2 r2=>q a vs H2 (s1.trans s2) (s1.free n2) h2 r2⟩⟩
end
section
variable {P:AD}{w:World}{K:Ap}{mg:Str→Option Value}{base:Heap}{N pn:List Str}{qual nm:Str}{scope:Scope}{f:Addr}{cd:Value}{A:A5}{outer:List Env}{s:As}{H H0:Hp}{O0:List Addr}{E:XK}{D:PD}{ps:PSt}{u:U}
def fB (N:List Str) (us:List U):PSt:=us.map (fun u=>some (.val u))++IB (N.length - us.length) none
theorem bG {st:Stmt}{fd:A9}{k:Nat}{spec:List U→Out→Prop} (F:Fun K nm qual st f fd) (S:aE N pn (ag st)) (len:∀us o,spec us o→us.length=pn.length)
  (hbody:∀(cdv:Value) (A:A5) (outer:List Env) (s:As) (H:Hp) (E:XK) (O:List Addr) (us:List U) (o:Out),dC k (A.deeper (GD qual (ag st) s.heap.objs.size f cdv))→spec us o→
   Ws (mS (CXF P w) P w K mg base N qual (ag st) f cdv A outer s H E) H O E (ay st) ⟨fun _=>o=.val .non,fun o'=>o'=o,fun _=>False,fun _=>False⟩ (fB N us)):bF P w K mg base (CXF P w) (k+1) f fd pn (spU K spec):=by
 refine F.okF S (fun vs H Q E h=>?_) fun cdv A outer s H vs Q E hr h=>?_
 ·obtain ⟨us,O,o,_,r,hsp,_⟩:=h
  rw[r.len];exact len us o hsp
 ·obtain ⟨us,O,o,d,r,hsp,q⟩:=h
  refine ⟨_,hbody cdv A outer s H E O us o hr hsp,⟨fun ps σ H' O' R e=>?_,fun _ _ _ _ _ e=>e.elim,fun _ _ _ _ _ e=>e.elim,fun o' e=>by subst e;exact q⟩,O,?_⟩
  ·subst e;exact q .non H' R.same .non
  ·refine ⟨.refl H,fun a h=>h,fun a h=>.inl h,d,?_,fun i sl e=>?_,fun i j xs ys a e1 e2 _ _=>?_⟩
   ·unfold start fB
    rw[Bd,Bd,Ar,Ar,C3,C3,r.len]
   ·unfold fB at e
    by_cases hi:i < us.length
    ·rw[A7 (by simpa using hi),Av,An hi] at e
     cases e
     obtain ⟨v,h1,h2⟩:=r.get (An hi)
     refine ⟨v,?_,h2⟩
     unfold start
     rw[A7 (by simpa [r.len] using hi),Av,h1];rfl
    ·rw[A0 (by simpa using hi),CI] at e
     split at e <;>cases e
   ·exfalso
    unfold fB at e1
    by_cases hi:i < us.length
    ·rw[A7 (by simpa using hi),Av,An hi] at e1
     cases e1
    ·rw[A0 (by simpa using hi),CI] at e1
     split at e1 <;>cases e1
end
section
variable {X:Cx}{H0:Hp}{O0:List Addr}{ps:PSt}{a b c e:Expr}{es rest:List Expr}{pos p p2:Pos}{u x y:U}{xs ys us:List U}{i j:Int}{k m:Bool}{lo hi:Option Expr}{l h:Option Int}
def EvO (X:Cx) (H0:Hp) (O0:List Addr) (ps:PSt) (e:Option Expr) (n:Option Int):Prop:=PO X e fun σ H Q=>∃O,Rs X.K H0 O0 ps σ H O∧∀H',aI H H'→Q n H'
theorem gG:EvO X H0 O0 ps none none:=fun pins s σ H Q I ⟨O,R,q⟩=>uQ pins s σ H Q I (q H (.refl H))
theorem e7 (he:Ev X H0 O0 ps e (.int i)):EvO X H0 O0 ps (some e) (some i):=fun pins s σ H Q I ⟨O,R,q⟩=>v4 he pins s σ H Q I ⟨O,R,fun v H' s r=>by cases r;exact ⟨i,rfl,q H' s⟩⟩
def fi (xs:List U) (lo hi:Option Int):List U:=(xs.drop (HT.sIx xs.length 0 lo)).take (HT.sIx xs.length xs.length hi - HT.sIx xs.length 0 lo)
theorem Rps.drop {K:Ap}{H:Hp}{vs:List V}{xs:List U} (r:Rps K H vs xs) (n:Nat):Rps K H (vs.drop n) (xs.drop n):=⟨by simp[r.len],fun i v x h1 h2=>r.at_ _ v x (by rwa [Du] at h1) (by rwa [Du] at h2)⟩
theorem Rps.take {K:Ap}{H:Hp}{vs:List V}{xs:List U} (r:Rps K H vs xs) (n:Nat):Rps K H (vs.take n) (xs.take n):=⟨by simp[r.len],fun i v x h1 h2=>by
 by_cases hn:i < n
 ·rw[Dc hn] at h1 h2
  exact r.at_ i v x h1 h2
 ·rw[List.getElem?_take_eq_none (by omega)] at h1
  cases h1⟩
theorem Rps.cut {K:Ap}{H:Hp}{vs:List V}{xs:List U} (r:Rps K H vs xs):Rps K H (qF vs l h) (fi xs l h):=by
 unfold qF fi
 rw[r.len]
 exact (r.drop _).take _
theorem dY (he:Ev X H0 O0 ps e x) (hl:EvO X H0 O0 ps lo l) (hh:EvO X H0 O0 ps hi h) (hx:x=.lst xs∨x=.scr xs):EvN X H0 O0 ps (.Subscript e (.Slice lo hi none p2) pos) (fi xs l h):=
 PE.mono (rG uV he hl hh) fun σ H Q ⟨O,R,q⟩=>⟨O,R,fun v H1 s1 r1=>⟨O,R.go s1,fun H2 s2=>⟨O,R.go (s1.trans s2),fun H3 s3=>by
  have key:∃a vs,v=.ref a∧SqL X.K (hid H1 O) a vs∧Rps X.K (hid H1 O) vs xs:=by
   rcases hx with rfl |rfl
   ·cases r1 with
    |lst hq hl hh=>exact ⟨_,_,rfl,SqL.of hq,hl,hh⟩
   ·cases r1 with
    |scr hq hl hh=>exact ⟨_,_,rfl,hq,hl,hh⟩
  obtain ⟨a,vs,rfl,hq,rs⟩:=key
  have s13:=s2.trans s3
  refine ⟨a,vs,rfl,s13.seq (aC.seq hq),fun p hp=>q p _ _ ((s1.trans s13).trans (aN hp _)) ((s1.trans s13).free hp) aQ ?_⟩
  exact (rs.cut.same (aP s13)).same (bL (aN hp _) hp)⟩⟩⟩
theorem jB (ha:Ev X H0 O0 ps a (.lst xs)) (hb:Ev X H0 O0 ps b (.lst ys)) (hz:xs.length+ys.length≤sizeLine):EvN X H0 O0 ps (.BinOp a .Add b pos) (xs++ys):=
 PE.mono (sO xi ha hb) fun σ H Q ⟨O,R,q⟩=>two R (fun _ _ _ z=>z) (fun _ _ _ z=>z) fun v w H' s _ r1 r2=>by
  cases r1 with
  |lst hq hl hh=>
   cases r2 with
   |lst hq' hl' hh'=>
    refine ⟨_,_,_,_,rfl,rfl,aC _ _ hq,aC _ _ hq',by rw[hl,hl'];exact hz,fun p hp=>q p _ _ (s.trans (aN hp _)) (s.free hp) aQ ?_⟩
    exact (Rps.snoc ⟨hl,hh⟩ ⟨hl',hh'⟩).same (bL (aN hp _) hp)
def fl:U→V
 | .bl b=>.bl b | .int i=>.int i | .str x=>.str x |_=>.non
def rX:U→Bool
 | .bl _=>true | .int _=>true | .str _=>true | .non=>true |_=>false
theorem wE {K:Ap}{H:Hp}{v:V}{u:U} (h:Rp K H v u) (f:rX u=true):v=fl u∧gj v=true:=by
 cases h <;>first |exact ⟨rfl,rfl⟩ |simp[rX] at f
theorem rV {K:Ap}{H:Hp}:∀{vs:List V}{xs:List U},Rps K H vs xs→xs.all rX=true→vs=xs.map fl∧vs.all gj=true
 |vs,[],r,_=>by rw[r.nil_inv];exact ⟨rfl,rfl⟩
 |vs,x::xs,r,f=>by
  obtain ⟨v,ws,rfl,h1,h2⟩:=r.cons_inv
  simp only[EO,BV] at f
  obtain ⟨e1,e2⟩:=wE h1 f.1
  obtain ⟨e3,e4⟩:=rV h2 f.2
  refine ⟨by rw[Bz,←e1,←e3],?_⟩
  simp only[EO,BV]
  exact ⟨e2,e4⟩
theorem Ag (hx:rX x=true) (hy:y.items=some ys) (hf:ys.all rX=true):OpS X (B5 .In) x y (.bl (inV (fl x) (ys.map fl))):=by
 intro pins s σ H v w p q Q I r1 r2 h
 obtain ⟨k1,k2,k3⟩:=h
 obtain ⟨a,vs,rfl,h1,h2⟩:=lM k2 hy
 obtain ⟨e1,e2⟩:=wE k1 hx
 obtain ⟨e3,e4⟩:=rV h2 hf
 exact qH pins s σ H v _ p q Q I r1 r2 ⟨a,vs,rfl,h1,e2,e4,by rw[e1,e3];exact k3⟩
theorem zE {bs:List Bool} (hc:X.calm=true):nD X (.builtin "all") [.lst (bs.map U.bl)] (.bl (bs.all id)):=by
 intro pins s σ H vs us Q I r hq
 obtain ⟨O,d,rs,q⟩:=hq
 obtain ⟨v,rfl,h1⟩:=fU rs
 obtain ⟨p1,rfl,r1⟩:=gu r
 cases h1 with
 | @lst a ws _ hq hl hh=>
  cases r1
  obtain ⟨its,rv,pl,_⟩:=I.list (SqL.of (aC _ _ hq))
  have hlen:its.length=bs.length:=by rw[←rv.length,hl,Ar]
  have hat:∀(i:Nat) (z:Value),its.toArray[i]?=some z→z=.bool (bs.getD i false):=fun i z e=>by
   have hi:i < its.length:=by have:=aF (show its[i]?=some z by simpa using e);exact this
   have hb:i < bs.length:=by omega
   have hw:i < ws.length:=by rw[rv.length];exact hi
   obtain ⟨u,e1,e2⟩:=rv.get (An hw)
   have e3:=hh i ws[i] (.bl bs[i]) (An hw) (by rw[Av,An hb];rfl)
   have e4:its[i]?=some z:=by simpa using e
   rw[e4] at e1
   cases e1
   generalize ws[i]=wi at *
   cases e3
   rw[Ax,An hb]
   exact e2
  refine call_all_walk (Ct pl.isList ?_)
  have hne:a≠s.heap.objs.size:=by obtain ⟨o,e,_⟩:=pl.isList;exact A4 (AC e)
  refine ⟨s.heap.objs.size,_,_,_,_,_,fun i=>bs.getD i false,rfl,Walks.list (A:=X.A.in1) (I.ok.hd hc) s.heap.objs.size a hne its.toArray,⟨⟨_,AE _ rfl,rfl,rfl⟩,pl.isList.push _⟩,fun i z s' Q' E' hP hQ=>?_,fun h' tk hk=>?_⟩
  ·rw[hat i z hP];exact CN hQ
  ·have e:(Bi its.toArray.size).all (fun i=>bs.getD i false)=bs.all id:=by
    rw[AV,hlen,CP,jT,FI]
    constructor
    ·intro h x hx
     obtain ⟨i,hi,rfl⟩:=List.getElem_of_mem hx
     have:=h i hi
     rwa [Ax,An hi] at this
    ·intro h j hj
     rw[Ax,An hj]
     exact h _ (DR hj)
   rw[e]
   refine ⟨.bl _,H,I.kept (t':=tk) fun b o e=>hk b o ?_ (Aq _ e),rfl,q _ H (.refl H) (.bl _)⟩
   intro z
   have:b=s.heap.objs.size:=by simpa using z
   exact absurd (AC e) (by rw[this];exact Bs _)
end
def qZ (J:It) (is:List Nat) (g:TG) (tt:TT) (te:TE) (σ:St) (H1:Hp) (l:Addr) (Q:VK):Prop:=
 ∃W:Nat→Nat→Hp→Prop,(∃m,W 0 m (upd H1 l (.lst [])))∧∀i m H2,W i m H2→
  (J.stop i H2∧Q (.ref l) H2)∨(J.go i H2∧∀x H3,J.yld i H2 x H3→g x (mask is σ) H3 fun σ4 H4=>tt σ4 H4 fun b H5=>
   (∀(j:Nat) (v:V),(mask is σ)[j]?=some (some v)→σ4[j]?=some (some v))∧
   if b=true then te σ4 H5 fun y H6=>∃vs,H6 l=some (.lst vs)∧vs.length < sizeLine∧∃m',m' < m∧W (i+1) m' (upd H6 l (.lst (vs++[y]))) else ∃m',m' < m∧W (i+1) m' H5)
def ro (is:List Nat) (g:TG) (tt:TT) (te:TE) (σ:St) (Q:VK) (J:It) (H1:Hp):Prop:=∀l,H1 l=none→qZ J is g tt te σ H1 l Q
def rN (is:List Nat) (wi:TI) (g:TG) (tt:TT) (te:TE):TE:=fun σ H Q=>wi σ H (ro is g tt te σ Q)
section
variable {X:Cx}{pins:List (Addr×Obj)}{σ:St}{H:Hp}{s:As}
theorem qm {elt iter tg:Expr}{scope:Scope}{cl:List (Str×Addr)}{pos pos0:Pos}{is:List Nat}{wi:TI}{g:TG}{tt:TT}{te:TE}{cond:Expr}{use:Option (Value→Sem Unit)}{Q0:VK}{Q:Value→As→Prop} (hc:X.calm=true) (B:c_ X scope cl is)
  (hi:PI X tg iter wi) (hg:∀C s H fp,PG (aH X scope cl C s H fp) tg g) (ht:∀C s H fp,PT (aH X scope cl C s H fp) cond tt) (he:∀C s H fp,PE (aH X scope cl C s H fp) elt te) (hs:∀x,Bw iter X.env x=pure x)
  (I:Inv X pins σ H s) (h:rN is wi g tt te σ H Q0)
  (fin:∀(l C:Addr) (H':Hp) (s':As) (m:Str→Option Value),Inv X pins σ H' s'→s'.heap.Ns C m→H' C=none→C≠X.env.locals→C ∉ X.fs→X.s₀.heap.objs.size≤C→(∀x c,X.env.cells.lookup x=some c→c≠C)→(∀p∈X.pn++pins,p.1≠C)→Q0 (.ref l) H'→
   Ji (model X.prog X.w) X.A X.xe use Q (.ref l) C (.ok .next) s'):
  wpAny (model X.prog X.w) X.A (comprehension (.ListComp elt [⟨tg,iter,[cond],0⟩] scope pos) scope X.env pos0 (newList []) false (eval iter X.env) use) Q X.xe s:=by
 refine Fq rfl hs B.clos B.kind B.names (thn (hi pins s σ H _ I h) fun xv s1 h1=>thn h1 fun itv s2 h2=>?_)
 obtain ⟨it,fp,tn,J,H2,e,I2,T,st2,f2,R⟩:=h2
 subst e
 refine DE (EK B.cell (by intro y hy;simp at hy) (fun h₁ hns hsb=>?_) B.kind)
 have hl:H2 s2.heap.objs.size=none:=I2.hok.fresh (Ay _)
 obtain ⟨W,⟨m0,w0⟩,turn⟩:=R s2.heap.objs.size hl
 have I3:Inv X pins σ (upd H2 s2.heap.objs.size (.lst [])) {s2 with heap:=s2.heap.push {cls:=.type "list",dict:=none,data:=.seq ([]:List Value).toArray } }:=
  I2.laid (t':=s2.toks) (o:=.lst []) (fun b u e=>Aq _ e) (Ay _) ⟨Bh _,[],0,.nil,AE _ rfl⟩
 have hfl:∀b∈fp,b < s2.heap.objs.size:=fun b hb=>let ⟨o,e,_⟩:=T.obj 0 _ st2 b hb;AC e
 have f3:∀b∈fp,d7 X pins (upd H2 s2.heap.objs.size (.lst [])) b:=fun b hb=>⟨by rw[aL (A4 (hfl b hb))];exact (f2 b hb).1,(f2 b hb).2⟩
 have kp:∀b o,(s2.heap.push {cls:=.type "list",dict:=none,data:=.seq ([]:List Value).toArray }).get? b=some o→h₁.get? b=some o:=fun b o e=>
  hsb.extBut b o (A4 (AC e)) (Aq _ e)
 have st4:tn 0 h₁:=T.keep 0 _ _ st2 fun b _ o e=>kp b o (Aq _ e)
 have hfl3:∀b∈fp,b < (s2.heap.push {cls:=.type "list",dict:=none,data:=.seq ([]:List Value).toArray }).objs.size:=fun b hb=>by
  rw[BE];exact Cu (hfl b hb)
 have I4:=iB (t':=s2.toks+([]:List (Str×Value)).length) I3 B f3 hfl3 hns kp
 have loop:EY (model X.prog X.w) X.A (.compLoop (.ListComp elt [⟨tg,iter,[cond],0⟩] scope pos) 0 (.ref it) (.ref s2.heap.objs.size) (Gu scope cl (s2.heap.push {cls:=.type "list",dict:=none,data:=.seq ([]:List Value).toArray }).objs.size X.env))
   (Ji (model X.prog X.w) X.A X.xe use Q (.ref s2.heap.objs.size) (s2.heap.push {cls:=.type "list",dict:=none,data:=.seq ([]:List Value).toArray }).objs.size)
   {s2 with heap:=h₁,toks:=s2.toks+([]:List (Str×Value)).length }:=by
  generalize hs3:({s2 with heap:=s2.heap.push {cls:=.type "list",dict:=none,data:=.seq ([]:List Value).toArray } }:As)=s3 at *
  have hC:(s2.heap.push {cls:=.type "list",dict:=none,data:=.seq ([]:List Value).toArray }).objs.size=s3.heap.objs.size:=by rw[←hs3]
  rw[hC]
  have hstat:∀{H':Hp},(∀b∈fp,H' b=none)→∀b∈fp,d7 (aH X scope cl s3.heap.objs.size s3 (upd H2 s2.heap.objs.size (.lst [])) fp) [] H' b:=fun hn b hb=>
   ⟨hn b hb,(I4.ok.exf b hb).1,I4.ok.exfs b hb,.inl hb,fun x c e=>(I4.ok.exf b hb).2 x c e,fun p hp=>absurd (show p∈([]:List (Addr×Obj)) from hp) (by simp)⟩
  have back:∀{σ':St}{H':Hp}{pp:List (Addr×Obj)}{s':As},Inv (aH X scope cl s3.heap.objs.size s3 (upd H2 s2.heap.objs.size (.lst [])) fp) pp σ' H' s'→Inv X pins σ H' s':=fun I'=>
   I3.call' (ch:=fp) I'.os I'.base I'.hok I'.bare fun b hb=>⟨(f3 b hb).2.2.2.1,(f3 b hb).2.1,(f3 b hb).2.2.2.2.1,(f3 b hb).2.2.2.2.2⟩
  refine codeAny_loop rfl (fun n s'=>∃i H',Inv (aH X scope cl s3.heap.objs.size s3 (upd H2 s2.heap.objs.size (.lst [])) fp) [] (mask is σ) H' s'∧tn i s'.heap∧(∀b∈fp,H' b=none)∧W i n H') ?_ m0 ⟨0,_,(by subst hs3;exact I4),st4,fun b hb=>(f3 b hb).1,w0⟩
  rintro n s5 ⟨i,H5,I5,st5,fr5,w5⟩
  show wpAny _ _ ((compTurn (.ListComp elt [⟨tg,iter,[cond],0⟩] scope pos) 0 (.ref it) (.ref s2.heap.objs.size) (Gu scope cl s3.heap.objs.size X.env)).onRaise (fun x=>do noteFrame x (Gu scope cl s3.heap.objs.size X.env);HR x)) _ _ s5
  refine wpAny_noted ?_
  rw[compTurn_list]
  refine Ao (FA (Ao ?_))
  rcases turn i n H5 w5 with ⟨stop,q⟩ |⟨go,step⟩
  ·refine thn (T.done (aH X scope cl s3.heap.objs.size s3 (upd H2 s2.heap.objs.size (.lst [])) fp) rfl rfl rfl hc i [] s5 _ H5 _ I5 (hstat fr5) st5 stop) fun r s6 ⟨hr,I6⟩=>?_
   subst hr
   refine Au ?_
   obtain ⟨m6,hn6,_⟩:=I6.loc
   have hCn:∀b,b < s3.heap.objs.size→b≠s3.heap.objs.size:=fun b hb=>A4 hb
   refine fin _ s3.heap.objs.size H5 s6 m6 (back I6) hn6 I6.free (CA I3.lt) (I3.nofs (Ay _)) I3.sz (fun x c e=>?_) (fun p hp=>?_) q
   ·obtain ⟨v,z⟩:=I3.cell x c e
    exact A4 z.lt
   ·exact A4 (AC (I3.pin p hp).1)
  ·refine thn (T.item (aH X scope cl s3.heap.objs.size s3 (upd H2 s2.heap.objs.size (.lst [])) fp) rfl rfl rfl hc i [] s5 _ H5 _ I5 (hstat fr5) st5 go) fun r s6 ⟨u,hr,h6⟩=>?_
   subst hr
   refine Ao (thn h6 fun _ s7 ⟨x,H7,I7,r7,y7,st7,fr7⟩=>?_)
   have I7':=I7.pinned (hstat fr7) (T.obj _ _ st7)
   refine Ao (Cs (hg _ _ _ _ _ s7 (mask is σ) H7 x u _ I7' r7 (step x H7 y7)) (fun _ s8 ⟨σ8,H8,I8,q8⟩=>?_) fun _ _ z=>z.elim)
   refine Ao (wpAny_tests_one (Cs (ht _ _ _ _ _ s8 σ8 H8 _ I8 q8) (fun bb s9 ⟨H9,I9,sub,q9⟩=>?_) fun _ _ z=>z.elim))
   have fpn:∀{H':Hp}{s':As}{σ':St},Inv (aH X scope cl s3.heap.objs.size s3 (upd H2 s2.heap.objs.size (.lst [])) fp) ([]++jd fp s7.heap) σ' H' s'→tn (i+1) s'.heap∧∀b∈fp,H' b=none:=fun {H' s' σ'} J=>⟨T.keep _ _ _ st7 fun b hb o e=>(J.pin (b,o) (AH _ (AH _ (bP hb e)))).1,fun b hb=>by
    obtain ⟨o,e,d⟩:=T.obj _ _ st7 b hb
    exact (J.pin (b,o) (AH _ (AH _ (bP hb e)))).2.1⟩
   cases bb with
   |true=>
    rw[if_pos rfl] at q9
    simp only[if_true]
    refine Ao (Ao (Cs (he _ _ _ _ _ s9 σ8 H9 _ I9 q9) (fun v s10 ⟨y,H10,I10,r10,vs,hl10,hz,m',hm,w'⟩=>?_) fun _ _ z=>z.elim))
    refine Ao (Cs (hX (X:=aH X scope cl s3.heap.objs.size s3 (upd H2 s2.heap.objs.size (.lst [])) fp) _ s10 σ8 H10 (.ref s2.heap.objs.size) [y] (.ref s2.heap.objs.size) [v] (fun _ H'=>H'=upd H10 s2.heap.objs.size (.lst (vs++[y]))) I10 rfl (.cons r10 .nil) ⟨_,vs,y,rfl,rfl,hl10,hz,rfl⟩) (fun z s11 ⟨zv,H11,I11,_,e11⟩=>?_) fun _ _ z=>z.elim)
    subst e11
    obtain ⟨k1,k2⟩:=fpn I11
    exact Au (Au ⟨rfl,m',hm,i+1,_,(I11.unpinned (pins:=[])).weak (by rw[I11.len,eC,I.len]) sub,k1,k2,w'⟩)
   |false=>
    rw[if_neg (by decide)] at q9
    simp only[AR,if_false]
    obtain ⟨m',hm,w'⟩:=q9
    obtain ⟨k1,k2⟩:=fpn I9
    first
     |exact Au ⟨rfl,m',hm,i+1,_,(I9.unpinned (pins:=[])).weak (by rw[I9.len,eC,I.len]) sub,k1,k2,w'⟩
     |exact Ao (Au (Au ⟨rfl,m',hm,i+1,_,(I9.unpinned (pins:=[])).weak (by rw[I9.len,eC,I.len]) sub,k1,k2,w'⟩))
 exact FR loop (T.self X.A 0 _ _ _ st4 loop)
theorem rO {elt iter tg:Expr}{scope:Scope}{cl:List (Str×Addr)}{pos:Pos}{is:List Nat}{wi:TI}{g:TG}{tt:TT}{te:TE}{cond:Expr} (hc:X.calm=true) (B:c_ X scope cl is)
  (hi:PI X tg iter wi) (hg:∀C s H fp,PG (aH X scope cl C s H fp) tg g) (ht:∀C s H fp,PT (aH X scope cl C s H fp) cond tt) (he:∀C s H fp,PE (aH X scope cl C s H fp) elt te) (hs:∀x,Bw iter X.env x=pure x:=by intro _;rfl):
  PE X (.ListComp elt [⟨tg,iter,[cond],0⟩] scope pos) (rN is wi g tt te):=by
 intro pins s σ H Q I h
 rw[eval_ListComp]
 refine qm (use:=none) hc B hi hg ht he hs I h fun l C H' s' m I' hn h1 h2 h3 h4 h5 h6 q=>⟨m,hn,fun h' hsb=>?_⟩
 exact ⟨.ref l,H',I'.turned (t':=s'.toks) (fun b o hb e=>hsb.extBut b o hb e) h1 (Ne.symm h2.symm) (.inr h4) h5 h6,rfl,q⟩
end
section
variable {X:Cx}{H0:Hp}{O0:List Addr}{E:XK}{ps ps':PSt}{D:PD}{tg iter cond:Expr}{pos p:Pos}{xs:List U}{fs:List (Option U)}
theorem oj {is:List Nat}{g:TG}{f:PSt→U→PSt}{dom:U→Prop}{σ:St}{H1:Hp}{O:List Addr}{Q:VK}{J:It}{tt:TT}{te:TE} (hg:GOk g X.K is f dom) (R1:Rs X.K H0 O0 ps σ H1 O) (Y:Yl X.K J (hid H1 O) xs) (hlen:fs.length=xs.length) (hz:xs.length≤sizeLine) (hdom:∀x∈xs,dom x)
  (htt:∀(i:Nat) (x:U) (o:Option U) (σ:St) (H:Hp) (O':List Addr) (Q:Bool→Hp→Prop),xs[i]?=some x→fs[i]?=some o→Rs X.K H0 O0 (f (eJ is ps) x) σ H O'→(∀H',aI H H'→Q o.isSome H')→tt σ H Q)
  (hte:∀(i:Nat) (x y:U) (σ:St) (H:Hp) (O':List Addr) (Q:VK),xs[i]?=some x→fs[i]?=some (some y)→Rs X.K H0 O0 (f (eJ is ps) x) σ H O'→(∀v H',aI H H'→Rp X.K (hid H' O') v y→Q v H')→te σ H Q)
  (fin:∀a vs H',aI H1 H'→H1 a=none→H' a=some (.lst vs)→Rps X.K (hid H' (a::O)) vs (fs.filterMap id)→Q (.ref a) H'):ro is g tt te σ Q J H1:=by
 intro l hl
 refine ⟨fun i m H2=>m=xs.length - i∧i≤xs.length∧aI H1 H2∧∃vs,H2 l=some (.lst vs)∧vs.length≤i∧Rps X.K (hid H2 (l::O)) vs ((fs.take i).filterMap id),⟨_,rfl,Bh _,aN hl _,[],aQ,Ay _,by rw[GF];exact .nil⟩,?_⟩
 rintro i m H2 ⟨rfl,hi,s2,vs,h2,hv,rs⟩
 have seen:aI (hid H1 O) (hid H2 (l::O)):=bL s2 hl
 obtain ⟨y1,y2⟩:=Y H2 (seen.trans aC)
 by_cases hlt:i < xs.length
 ·obtain ⟨g1,g2⟩:=y1 i hlt
  refine .inr ⟨g1,fun x H3 y=>?_⟩
  obtain ⟨rfl,u,hu,r⟩:=g2 x H3 y
  have R2:=(R1.mask (is:=is)).hide s2 hl (by rw[h2];intro z;cases z)
  refine hg H0 O0 _ _ H3 (l::O) x u _ (hdom u (AO hu)) R2 (r.same seen) fun σ4 R4 keep=>?_
  obtain ⟨o,ho⟩:∃o,fs[i]?=some o:=⟨_,An (by omega)⟩
  refine htt i u o σ4 H3 (l::O) _ hu ho R4 fun H5 s5=>⟨fun j w e=>keep j w (gQ is σ j w e).2 e,?_⟩
  cases o with
  |none=>
   refine p0 ⟨xs.length - (i+1),by omega,rfl,hlt,s2.trans s5,vs,s5 _ _ h2,by omega,?_⟩
   rw[DL,ho,G3,EA]
   simpa using rs.same (aP s5)
  |some yv=>
   refine qO (hte i u yv σ4 H5 (l::O) _ hu ho (R4.go s5) fun v H6 s6 r6=>⟨vs,s6 _ _ (s5 _ _ h2),?_,xs.length - (i+1),by omega,rfl,hlt,((s2.trans s5).trans s6).put hl _,vs++[v],aQ,by simp;omega,?_⟩)
   ·omega
   ·rw[lL AF,DL,ho,G3,EA]
    exact ((rs.same (aP s5)).same (aP s6)).snoc (.cons r6 .nil)
 ·have e:i=xs.length:=by omega
  subst e
  rw[←hlen,Dm] at rs
  exact .inl ⟨y2,fin l vs H2 s2 hl h2 rs⟩
theorem o7 {elt:Expr}{scope:Scope}{cl:List (Str×Addr)}{is:List Nat}{g:TG}{f:PSt→U→PSt}{dom:U→Prop} (fs:List (Option U)) (hc:X.calm=true) (B:c_ X scope cl is) (hi:EvI X H0 O0 ps tg iter xs) (hg:∀C s H fp,PG (aH X scope cl C s H fp) tg g) (gk:GOk g X.K is f dom)
  (hlen:fs.length=xs.length) (hz:xs.length≤sizeLine) (hdom:∀x∈xs,dom x) (ht:∀C s H fp (i:Nat) (x:U) (o:Option U),xs[i]?=some x→fs[i]?=some o→Tt (aH X scope cl C s H fp) H0 O0 (f (eJ is ps) x) cond o.isSome)
  (he:∀C s H fp (i:Nat) (x y:U),xs[i]?=some x→fs[i]?=some (some y)→Ev (aH X scope cl C s H fp) H0 O0 (f (eJ is ps) x) elt y)
  (hs:∀x,Bw iter X.env x=pure x:=by intro _;rfl):EvN X H0 O0 ps (.ListComp elt [⟨tg,iter,[cond],0⟩] scope pos) (fs.filterMap id):=by
 have hte:∀C s H fp,PE (aH X scope cl C s H fp) elt fun σ H Q=>∃i x y,xs[i]?=some x∧fs[i]?=some (some y)∧∃O',Rs X.K H0 O0 (f (eJ is ps) x) σ H O'∧∀v H',aI H H'→Rp X.K (hid H' O') v y→Q v H':=
  fun C s H fp pins s' σ H' Q I ⟨i,x,y,h1,h2,z⟩=>he C s H fp i x y h1 h2 pins s' σ H' Q I z
 have htt:∀C s H fp,PT (aH X scope cl C s H fp) cond fun σ H Q=>∃(i:Nat) (x:U) (o:Option U),xs[i]?=some x∧fs[i]?=some o∧∃O',Rs X.K H0 O0 (f (eJ is ps) x) σ H O'∧∀H',aI H H'→Q o.isSome H':=
  fun C s H fp pins s' σ H' Q I ⟨i,x,o,h1,h2,z⟩=>ht C s H fp i x o h1 h2 pins s' σ H' Q I z
 refine PE.mono (rO hc B hi hg htt hte hs) fun σ H Q ⟨O,R,q⟩=>⟨O,R,fun J H1 s1 Y=>?_⟩
 exact oj gk (R.go s1) Y hlen hz hdom (fun i x o σ H O' Q h1 h2 R' z=>⟨i,x,o,h1,h2,O',R',z⟩) (fun i x y σ H O' Q h1 h2 R' z=>⟨i,x,y,h1,h2,O',R',z⟩) fun a vs H' s n h r=>q a vs H' (s1.trans s) (s1.free n) h r
end
inductive wU:List (Option Expr)→List Expr→Prop where
 |nil:wU [] []
 |cons {k v:Int}{a b:Nat}{p q:Pos}{ks:List (Option Expr)}{vs:List Expr} (h:wU ks vs):wU (some (.Constant (.int k) a p)::ks) (.Constant (.int v) b q::vs)
section
variable {X:Cx}{H0:Hp}{O0:List Addr}{ps:PSt}{pos:Pos}{keys:List (Option Expr)}{values:List Expr}{k m:Bool}
end
theorem Ws.nox {X:Cx}{H0:Hp}{O0:List Addr}{E:XK}{ss:List Stmt}{D:PD}{ps:PSt} (h:Ws X.nox H0 O0 E ss D ps):Ws X H0 O0 E ss D ps:=PSs.nox h
theorem bF.calm {P:AD}{w:World}{K:Ap}{mg:Str→Option Value}{base:Heap}{k:Nat}{f:Addr}{fd:A9}{ps:List Str}{sp:Sp} (F:bF P w K mg base (CXF P w) k f fd ps sp) (h:∀vs H Q E,sp vs H Q E→sp vs H Q E0):bF P w K mg base CX0 k f fd ps sp:=by
 refine ⟨F.len,fun A outer s H args us vs Q E hr he hb hv hs=>Ey (F.run A outer s H args us vs Q E0 hr he hb hv (h _ _ _ _ hs)) fun r s' q=>?_⟩
 cases r with
 |ok fl=>
  cases fl with
  |ret u=>exact q
  |next=>exact q
  |brk=>exact q
  |cont=>exact q
 |error e=>
  obtain ⟨_,_,_,_,_,_,_,_,_,_,_,_,_,_,_,hE⟩:=q
  exact hE.elim
def hV:List U→Out→Prop:=fun us o=>∃ns:List Int,us=[.scr (ns.map U.int)]∧ns.length≤63∧(∀m∈ns,Sz 1048576 m)∧o=.val (.bl true)
theorem uB {K:Ap} (vs:List V) (H:Hp) (Q:VK) (E:XK) (h:spU K hV vs H Q E):spU K hV vs H Q E0:=by
 obtain ⟨us,O,o,d,r,⟨ns,h1,h2,h3,rfl⟩,q⟩:=h
 exact ⟨us,O,_,d,r,⟨ns,h1,h2,h3,rfl⟩,q⟩
theorem qR {K:Ap}{H:Hp}{a:Addr}{ns:List Int}{E:XK} (h1:ns.length≤63) (h2:∀m∈ns,Sz 1048576 m) (h3:SqL K H a (ns.map V.int)):spU K hV [.ref a] H (fun v _=>v=.bl true) E:=by
 refine ⟨[.scr (ns.map U.int)],[],.val (.bl true),fun a ha=>(nomatch ha),.cons ?_ .nil,⟨ns,rfl,h1,h2,rfl⟩,fun v H' s r=>by cases r;rfl⟩
 have e:hid H []=H:=by funext b;unfold hid;rw[if_neg (by simp)]
 rw[e]
 refine .scr h3 (by simp) fun i v x e1 e2=>?_
 rw[Av] at e1 e2
 cases q:ns[i]? with
 |none=>rw[q] at e1;cases e1
 |some n=>rw[q] at e1 e2;cases e1;cases e2;exact .int n
theorem kP {k:Nat}{A:A5} (hr:dC k A):A.units+10 < cLine:=by have:=hr.un;omega
theorem sq {ns:List Int}{k:Int} (h0:0≤k) (h:k < (ns.length:Int)):atI (ns.map U.int) k=some (.int (ns.getD k.toNat 0)):=by
 have hk:k.toNat < ns.length:=by omega
 have q:atI (ns.map U.int) ((k.toNat:Nat):Int)=some (.int (ns.getD k.toNat 0)):=pK (by rw[Av,Ax,An hk] <;>rfl)
 rwa [show ((k.toNat:Nat):Int)=k by omega] at q
theorem vi {ns:List Int} (h:∀m∈ns,Sz 1048576 m) (i:Nat):Sz 1048576 (ns.getD i 0):=by
 by_cases hk:i < ns.length
 ·rw[Ax,An hk,DQ];exact h _ (DR hk)
 ·rw[Ax,AZ (by omega),FH];exact Sz.mono (m:=8) (by decide) (by decide)
abbrev pt (x y:Int):U:=.tup [.int x,.int y]
theorem dTb {p:Prop} [Decidable p] (h:decide p=true):p:=of_decide_eq_true h
theorem dFb {p:Prop} [Decidable p] (h:decide p=false):¬ p:=of_decide_eq_false h
theorem nTb {p:Prop} [Decidable p] (h:(!decide p)=true):¬ p:=by simpa using h
theorem nFb {p:Prop} [Decidable p] (h:(!decide p)=false):p:=by simpa using h
theorem vB {a b:Bool} (h:a=b):Out.val (.bl a)=Out.val (.bl b):=by rw[h]
theorem vIO {a b:Int} (h:a=b):Out.val (.int a)=Out.val (.int b):=by rw[h]
mutual
theorem l_:∀(n:Nat) (u:U),okU n u=true→eqW u u=true
 |_,.non,_=>rfl
 |_,.bl b,_=>by simp[eqW]
 |_,.int b,_=>by simp[eqW]
 |_,.str b,_=>by simp[eqW]
 |_,.ty _,h=>by simp[okU] at h
 |_,.dic,h=>by simp[okU] at h
 |0,.tup _,h=>by simp[okU] at h
 |0,.lst _,h=>by simp[okU] at h
 |0,.scr _,h=>by simp[okU] at h
 |n+1,.tup xs,h=>by rw[eqW];rw[okU] at h;exact eqWs_refl n xs h
 |n+1,.lst xs,h=>by rw[eqW];rw[okU] at h;exact eqWs_refl n xs h
 |n+1,.scr xs,h=>by rw[eqW];rw[okU] at h;exact eqWs_refl n xs h
theorem eqWs_refl:∀(n:Nat) (xs:List U),okUs n xs=true→eqWs xs xs=true
 |_,[],_=>rfl
 |n,x::xs,h=>by
  simp only[okUs,BV] at h
  simp only[eqWs,BV]
  exact ⟨l_ n x h.1,eqWs_refl n xs h.2⟩
end
theorem i6 {α:Type}{n:Nat}{f:α→U}{l:List α} (h:∀a∈l,okU n (f a)=true):okUs n (l.map f)=true:=by
 induction l with
 |nil=>rfl
 |cons a l ih=>
  rw[Bz,okUs,BV]
  exact ⟨h a AF,ih fun b hb=>h b (Aw _ hb)⟩
theorem tP {α:Type}{n:Nat}{f:α→U}{l:List α} (h:∀a,okU n (f a)=true):okU (n+1) (.lst (l.map f))=true:=by rw[okU];exact i6 fun a _=>h a
theorem nk {α:Type}{f:α→U}{p:α→α→Prop} [DecidableEq α] (hf:∀a b,eqW (f a) (f b)=decide (a=b)):∀(l m:List α),eqWs (l.map f) (m.map f)=decide (l=m)
 |[],[]=>rfl
 |[],_::_=>rfl
 |_::_,[]=>rfl
 |a::l,b::m=>by
  rw[Bz,Bz,eqWs,hf,nk (p:=p) hf l m,CP]
  simp
section
variable {X:Cx}{H0:Hp}{O0:List Addr}{E:XK}{ps:PSt}{D:PD}{a b c e:Expr}{rest:List Expr}{pos:Pos}{k:Bool}
theorem iD {tb fb:List Stmt} (hc:Tt X H0 O0 ps c k) (hk:k=true) (h:Ws X H0 O0 E tb D ps):W1 X H0 O0 E (.If c tb fb pos) D ps:=kB hc (fun _=>h) (fun e=>by rw[hk] at e;cases e)
theorem cU {tb fb:List Stmt} (hc:Tt X H0 O0 ps c k) (hk:k=false) (h:Ws X H0 O0 E fb D ps):W1 X H0 O0 E (.If c tb fb pos) D ps:=kB hc (fun e=>by rw[hk] at e;cases e) (fun _=>h)
theorem je (ha:Tt X H0 O0 ps a k) (hk:k=false):Tw X H0 O0 ps (.BoolOp .And (a::b::rest) pos) false:=by
 subst hk
 exact lO (m:=true) ha fun h=>by cases h
end
section
variable {X:Cx}{H0:Hp}{O0:List Addr}{E:XK}{ps:PSt}{D:PD}{body:List Stmt}{tg iter c:Expr}{pos:Pos}{xs:List U}{α:Type}
theorem TgS.sub {p p':PSt}{u:U}{ps':PSt} (h:TgS X H0 O0 tg p u ps') (hs:SubP p p'):TgS X H0 O0 tg p' u ps':=PG.mono h fun v σ H Q ⟨O,R,r,q⟩=>⟨O,R.sub hs,r,q⟩
theorem Tt.sub {p p':PSt}{e:Expr}{k:Bool} (h:Tt X H0 O0 p e k) (hs:SubP p p'):Tt X H0 O0 p' e k:=PT.mono h fun σ H Q ⟨O,R,q⟩=>⟨O,R.sub hs,q⟩
theorem fc (st:α→PSt) (Q:Nat→α→Prop) (hc:X.calm=true) (hp:EV (model X.prog X.w) X.A X.env X.xe) (hi:EvI X H0 O0 ps tg iter xs) (h0:∃a,Q 0 a∧SubP (st a) ps)
  (hs:∀(H0:Hp) (i:Nat) (x:U) (a:α),xs[i]?=some x→Q i a→∃ps',TgS X H0 O0 tg (st a) x ps'∧Ws X H0 O0 E body {D with nx:=fun p=>∃b,Q (i+1) b∧SubP (st b) p,ct:=fun p=>∃b,Q (i+1) b∧SubP (st b) p,bk:=D.nx } ps')
  (hd:∀a ps,Q xs.length a→SubP (st a) ps→D.nx ps) (hf:∀x,Bw iter X.env x=pure x:=by intro _;rfl):W1 X H0 O0 E (.For tg iter body [] pos) D ps:=
 yY hc hp hi (fun i ps=>∃a,Q i a∧SubP (st a) ps) h0 (fun H0 i x ps hx ⟨a,q,sb⟩=>by
  obtain ⟨ps',t,w⟩:=hs H0 i x a hx q
  exact ⟨ps',t.sub sb,w⟩) (fun ps ⟨a,q,sb⟩=>hd a ps q sb) hf
theorem jn (st:α→PSt) (Q:Nat→α→Prop) (hp:EV (model X.prog X.w) X.A X.env X.xe) (h0:∃m a,Q m a∧SubP (st a) ps)
  (hs:∀m a,Q m a→∃b,Tt X H0 O0 (st a) c b∧(b=true→Ws X H0 O0 E body {D with nx:=fun p=>∃m' a',m' < m∧Q m' a'∧SubP (st a') p,ct:=fun p=>∃m' a',m' < m∧Q m' a'∧SubP (st a') p,bk:=D.nx } (st a))∧(b=false→∀ps,SubP (st a) ps→D.nx ps)):W1 X H0 O0 E (.While c body [] pos) D ps:=by
 obtain ⟨m,a,q,sb⟩:=h0
 refine vj hp (fun m ps=>∃a,Q m a∧SubP (st a) ps) m ⟨a,q,sb⟩ fun m ps ⟨a,q,sb⟩=>?_
 obtain ⟨b,t,h1,h2⟩:=hs m a q
 refine ⟨b,t.sub sb,fun e=>?_,fun e=>h2 e ps sb⟩
 refine dm (PSs.mono (h1 e) fun D' σ H ⟨L,O,R⟩=>⟨⟨fun p σ H O R ⟨m',a',l,q',sb'⟩=>L.nx p σ H O R ⟨m',l,a',q',sb'⟩,L.bk,fun p σ H O R ⟨m',a',l,q',sb'⟩=>L.ct p σ H O R ⟨m',l,a',q',sb'⟩,L.rt⟩,O,R⟩) sb
end
abbrev P2:=Int×Int
abbrev pu (p:P2):U:=.tup [.int p.1,.int p.2]
abbrev lp (l:List P2):U:=.lst (l.map pu)
theorem xN (p q:P2):eqW (pu p) (pu q)=decide (p=q):=by
 obtain ⟨a,b⟩:=p
 obtain ⟨c,d⟩:=q
 simp only[pu,eqW,eqWs,G0]
 rw[CP];simp
theorem kY (l m:List P2):eqW (lp l) (lp m)=decide (l=m):=by rw[lp,lp,eqW];exact nk (p:=fun _ _=>True) xN l m
theorem iG (l:List P2):okU 9 (lp l)=true:=tP fun _=>rfl
theorem wf {l:List P2}{i:Nat}{x:U} (h:(l.map pu)[i]?=some x):∃p,l[i]?=some p∧p∈l∧x=pu p:=by
 rw[Av] at h
 cases q:l[i]? with
 |none=>rw[q] at h;cases h
 |some p=>rw[q] at h;cases h;exact ⟨p,rfl,AO q,rfl⟩
theorem fR {α:Type}{l:List α}{f:α→U}{g:α→U}{i:Nat}{x y:U} (hx:(l.map f)[i]?=some x) (hy:(l.map g)[i]?=some y):∃a,l[i]?=some a∧a∈l∧x=f a∧y=g a:=by
 rw[Av] at hx hy
 cases q:l[i]? with
 |none=>rw[q] at hx;cases hx
 |some p=>rw[q] at hx hy;cases hx;cases hy;exact ⟨p,rfl,AO q,rfl,rfl⟩
theorem W1.mono {X:Cx}{H0:Hp}{O0:List Addr}{E:XK}{s:Stmt}{D:PD}{J:PSt→Prop}{ps:PSt} (h:W1 X H0 O0 E s {D with nx:=J } ps) (m:∀ps,J ps→D.nx ps):W1 X H0 O0 E s D ps:=
 PS.mono h fun D' σ H ⟨L,O,R⟩=>⟨⟨fun p σ H O R q=>L.nx p σ H O R (m p q),L.bk,L.ct,L.rt⟩,O,R⟩
theorem fk {X:Cx}{H0:Hp}{O0:List Addr}{E:XK}{s:Stmt}{ss:List Stmt}{D:PD}{ps:PSt} (J:PSt→Prop) (h1:W1 X H0 O0 E s {D with nx:=J } ps) (h2:∀ps,J ps→Ws X H0 O0 E ss D ps):Ws X H0 O0 E (s::ss) D ps:=
 ac (W1.mono (J:=J) (D:={D with nx:=fun p=>Ws X H0 O0 E ss D p }) h1 h2)
end L2
namespace PySem.W
open PySem PySem.Spec PySem.Calls PyProof.Rows
end PySem.W
namespace L2
open PySem PySem.Spec PySem.W PyProof.Rows
section
variable {X:Cx}{pins:List (Addr×Obj)}{σ:St}{H:Hp}{s:As}
end
section
variable {X:Cx}
def kM.drop (D:kM) (i:Nat):kM:=⟨fun σ H=>D.nx (σ.set i none) H,D.rt,fun σ H=>D.bk (σ.set i none) H,fun σ H=>D.ct (σ.set i none) H⟩
end
section
variable {X:Cx}{H0:Hp}{O0:List Addr}{E:XK}{ps:PSt}{D:PD}{a e:Expr}{es:List Expr}{us:List U}{k:Bool}{n:Nat}{fd:A9}{pn:List Str}{spec:List U→Out→Prop}
def PD.drop (D:PD) (i:Nat):PD:=⟨fun p=>D.nx (p.set i none),D.rt,fun p=>D.bk (p.set i none),fun p=>D.ct (p.set i none)⟩
end
section
variable {X:Cx}{H0:Hp}{O0:List Addr}{ps:PSt}{pos:Pos}
end
end L2
namespace L2
open PySem
theorem aG {c:Const}{j:Nat}{pos:Pos}{es:List Expr}{env:Env}:AL (.Constant c j pos::es) env=(false,eval (.Constant c j pos) env)::AL es env:=by rw[AL];intro e p h;cases h
theorem cX {l:List Expr}{j:Nat}{pos:Pos}{es:List Expr}{env:Env}:AL (.Tuple l j pos::es) env=(false,eval (.Tuple l j pos) env)::AL es env:=by rw[AL];intro e p h;cases h
theorem cC {o:UnaryOp}{a:Expr}{pos:Pos}{es:List Expr}{env:Env}:AL (.UnaryOp o a pos::es) env=(false,eval (.UnaryOp o a pos) env)::AL es env:=by rw[AL];intro e p h;cases h
theorem bB {a b:Expr}{o:Je}{pos:Pos}{es:List Expr}{env:Env}:AL (.BinOp a o b pos::es) env=(false,eval (.BinOp a o b pos) env)::AL es env:=by rw[AL];intro e p h;cases h
theorem af {x:Str}{pos:Pos}{es:List Expr}{env:Env}:AL (.Name x pos::es) env=(false,eval (.Name x pos) env)::AL es env:=by rw[AL];intro e p h;cases h
theorem bv {a b:Expr}{pos:Pos}{es:List Expr}{env:Env}:AL (.Subscript a b pos::es) env=(false,eval (.Subscript a b pos) env)::AL es env:=by rw[AL];intro e p h;cases h
theorem e8 {f:Expr}{a:List Expr}{k:List HM}{pos:Pos}{es:List Expr}{env:Env}:AL (.Call f a k pos::es) env=(false,eval (.Call f a k pos) env)::AL es env:=by rw[AL];intro e p h;cases h
theorem rW {a:Expr}{o:List CmpOp}{c:List Expr}{pos:Pos}{es:List Expr}{env:Env}:AL (.Compare a o c pos::es) env=(false,eval (.Compare a o c pos) env)::AL es env:=by rw[AL];intro e p h;cases h
theorem e_ {e:Expr}{g:List Comprehension}{sc:Scope}{pos:Pos}{es:List Expr}{env:Env}:AL (.ListComp e g sc pos::es) env=(false,eval (.ListComp e g sc pos) env)::AL es env:=by rw[AL];intro e p h;cases h
structure EvS (X:Cx) (H0:Hp) (O0:List Addr) (ps:PSt) (es:List Expr) (us:List U):Prop where
 a:EvA X H0 O0 ps es us
section
variable {X:Cx}{H0:Hp}{O0:List Addr}{ps:PSt}{e:Expr}{es:List Expr}{u:U}{us:List U}{pos:Pos}
theorem bg:EvS X H0 O0 ps [] []:=⟨ao⟩
theorem ai (ha:Ev X H0 O0 ps e u) (hr:EvS X H0 O0 ps es us) (hs:AL (e::es) X.env=(false,eval e X.env)::AL es X.env):EvS X H0 O0 ps (e::es) (u::us):=⟨ae ha hr.a hs⟩
theorem bo {x1} (h:EvS X H0 O0 ps es us) (hz:us.length≤sizeLine:=by first |decide | (simp only[A_,D8];decide)):Ev X H0 O0 ps (.Tuple es x1 pos) (.tup us):=zD h.a hz
theorem dD (h:EvS X H0 O0 ps es us) (hz:us.length≤sizeLine:=by first |decide | (simp only[A_,D8];decide)):EvN X H0 O0 ps (.List es pos) us:=yB h.a hz
end
end L2
namespace ST
open PySem PySem.SetTable
def Ris (xs:Array Nat):Prop:=∀(i j x y:Nat),i < j→xs[i]?=some x→xs[j]?=some y→x < y
theorem Ris.inj {xs:Array Nat} (h:Ris xs) {i j x:Nat} (h1:xs[i]?=some x) (h2:xs[j]?=some x):i=j:=by
 rcases Cv i j with z |z |z
 ·exact absurd (h i j x x z h1 h2) (Bs _)
 ·exact z
 ·exact absurd (h j i x x z h2 h1) (Bs _)
theorem dU {xs:Array Nat}{i:Nat} (h:i < xs.size):xs[i]?=some xs[i]:=by simp[h]
theorem pM {xs:Array Nat}{i x:Nat} (h:xs[i]?=some x):i < xs.size:=(CU.mp h).1
theorem kD {xs:Array Nat} (R:Ris xs) (j:Nat):∀(fuel lo hi:Nat),lo≤hi→hi≤xs.size→hi - lo≤fuel→(∀(i x:Nat),i < lo→xs[i]?=some x→x < j)→(∀(i x:Nat),hi≤i→xs[i]?=some x→j≤x)→
  (∀(i x:Nat),i < below.go xs j fuel lo hi→xs[i]?=some x→x < j)∧(∀(i x:Nat),below.go xs j fuel lo hi≤i→xs[i]?=some x→j≤x)∧below.go xs j fuel lo hi≤xs.size
 |0,lo,hi,h1,h2,h3,h4,h5=>by
  have e:lo=hi:=by omega
  subst e
  rw[below.go]
  exact ⟨h4,h5,h2⟩
 |fuel+1,lo,hi,h1,h2,h3,h4,h5=>by
  rw[below.go]
  by_cases hlt:lo < hi
  ·rw[if_pos hlt]
   have hm:(lo+hi) / 2 < xs.size:=by omega
   have e:xs.getD ((lo+hi) / 2) j=xs[(lo+hi) / 2]:=by simp[Cw,hm]
   simp only[e]
   split
   ·rename_i hl
    refine kD R j fuel _ hi (by omega) h2 (by omega) (fun i x hi' hx=>?_) h5
    rcases A6 (show i≤(lo+hi) / 2 by omega) with z |z
    ·exact Ga (R i _ x _ z hx (dU hm)) hl
    ·subst z;rw[dU hm] at hx;cases hx;exact hl
   ·rename_i hl
    refine kD R j fuel lo _ (by omega) (by omega) (by omega) h4 (fun i x hi' hx=>?_)
    rcases A6 hi' with z |z
    ·exact BR (DP hl) (By (R _ i _ x z (dU hm) hx))
    ·subst z;rw[dU hm] at hx;cases hx;exact DP hl
  ·rw[if_neg hlt]
   have e:lo=hi:=by omega
   subst e
   exact ⟨h4,h5,h2⟩
theorem e9 {xs:Array Nat} (R:Ris xs) (j:Nat):(∀(i x:Nat),i < below xs j→xs[i]?=some x→x < j)∧(∀(i x:Nat),below xs j≤i→xs[i]?=some x→j≤x)∧below xs j≤xs.size:=
 kD R j xs.size 0 xs.size (Bh _) (Ay _) (by omega) (fun i x h=>absurd h (HV _)) (fun i x h e=>absurd (pM e) (by omega))
theorem rB {xs:Array Nat} (R:Ris xs) {i j:Nat} (h:xs[i]?=some j):below xs j=i:=by
 obtain ⟨h1,h2,h3⟩:=e9 R j
 rcases Cv (below xs j) i with z |z |z
 ·have hk:below xs j < xs.size:=Ga z (pM h)
  have:=h2 _ _ (Ay _) (dU hk)
  have:=R _ _ _ _ z (dU hk) h
  omega
 ·exact z
 ·have:=h1 i j z h
  omega
theorem jY {t:SetTable} (R:Ris t.place) {i j:Nat} (h:t.place[i]?=some j):t.slot j=.live i:=by
 unfold SetTable.slot
 simp only[rB R h,h,beq_self_eq_true,if_true]
theorem qq {t:SetTable} (hd:t.dummies=#[]) {j:Nat} (h:∀i:Nat,t.place[i]?≠some j):t.slot j=.empty:=by
 unfold SetTable.slot
 have e:(t.place[below t.place j]?==some j)=false:=by simpa using h _
 simp only[e,hd]
 simp[SetTable.has]
theorem oO {t:SetTable} (R:Ris t.place) (hd:t.dummies=#[]) (j:Nat):(t.slot j=.empty∧∀i:Nat,t.place[i]?≠some j)∨∃i:Nat,t.slot j=.live i∧t.place[i]?=some j:=by
 by_cases h:∃i:Nat,t.place[i]?=some j
 ·obtain ⟨i,hi⟩:=h
  exact .inr ⟨i,jY R hi,hi⟩
 ·exact .inl ⟨qq hd fun i e=>h ⟨i,e⟩,fun i e=>h ⟨i,e⟩⟩
theorem qE {xs:Array Nat} (R:Ris xs) {mask:Nat} (hn:xs.size≤mask):∃s,s≤mask∧∀i:Nat,xs[i]?≠some s:=by
 apply B6
 intro hno
 have all:∀s,s≤mask→∃i:Nat,xs[i]?=some s:=fun s hs=>by
  apply B6
  intro h
  exact hno ⟨s,hs,fun i e=>h ⟨i,e⟩⟩
 have key:∀s,s≤mask→∃i:Nat,xs[i]?=some s∧s≤i:=by
  intro s
  induction s with
  |zero=>intro h;obtain ⟨i,hi⟩:=all 0 h;exact ⟨i,hi,Bh _⟩
  |succ s ih=>
   intro h
   obtain ⟨i,hi,hle⟩:=ih (by omega)
   obtain ⟨k,hk⟩:=all (s+1) h
   refine ⟨k,hk,?_⟩
   rcases Cv i k with z |z |z
   ·omega
   ·subst z;rw[hi] at hk;cases hk
   ·have:=R k i _ _ z hk hi;omega
 obtain ⟨i,hi,hle⟩:=key mask (Ay _)
 have:=pM hi
 omega
def adv (mask:Nat) (p:Probe):Probe:=
 if p.more >0 then {p with j:=p.j+1,more:=p.more - 1 } else
 {p with j:=(leap mask p.i p.perturb).1,more:=runEnd mask (leap mask p.i p.perturb).1 - (leap mask p.i p.perturb).1,i:=(leap mask p.i p.perturb).1,perturb:=(leap mask p.i p.perturb).2 }
theorem i4 (t:SetTable) (p:Probe):t.advance p=adv t.mask p:=by
 unfold SetTable.advance adv
 split
 ·rfl
 ·rfl
def start (mask:Nat) (h:Int):Probe:={j:=bits h % (mask+1),more:=runEnd mask (bits h % (mask+1)) - bits h % (mask+1),i:=bits h % (mask+1),perturb:=bits h,dummy:=none }
def pth (mask:Nat) (h:Int):Nat→Probe
 |0=>start mask h
 |n+1=>adv mask (pth mask h n)
def aT (mask:Nat) (h:Int):Nat→Nat×Nat
 |0=>(bits h % (mask+1),bits h)
 |r+1=>leap mask (aT mask h r).1 (aT mask h r).2
theorem iQ {mask:Nat}:∀(m:Nat) (p:Probe) (f:Nat→Probe),f 0=p→(∀n,f (n+1)=adv mask (f n))→m≤p.more→f m={p with j:=p.j+m,more:=p.more - m }
 |0,p,f,h0,_,_=>by rw[h0];rfl
 |m+1,p,f,h0,hs,hm=>by
  rw[hs m,iQ m p f h0 hs (by omega)]
  unfold adv
  rw[if_pos (by show p.more - m >0;omega)]
  simp only[Probe.mk.injEq]
  exact ⟨by omega,by omega,trivial,trivial,trivial⟩
theorem jE (mask:Nat) (h:Int):∀n,(pth mask h n).dummy=none
 |0=>rfl
 |n+1=>by
  rw[pth];unfold adv
  split
  ·exact jE mask h n
  ·exact jE mask h n
theorem qd (mask i:Nat):runEnd mask i - i≤9:=by unfold runEnd;split <;>omega
theorem pO (mask:Nat) (h:Int):∀r,∃n,n≤10*r∧pth mask h n={j:=(aT mask h r).1,more:=runEnd mask (aT mask h r).1 - (aT mask h r).1,i:=(aT mask h r).1,perturb:=(aT mask h r).2,dummy:=none }
 |0=>⟨0,Ay _,rfl⟩
 |r+1=>by
  obtain ⟨n,hn,e⟩:=pO mask h r
  have hL:=qd mask (aT mask h r).1
  have step:=iQ (mask:=mask) (runEnd mask (aT mask h r).1 - (aT mask h r).1) (pth mask h n) (fun m=>pth mask h (n+m)) rfl (fun m=>rfl) (by rw[e];exact Ay _)
  refine ⟨n+(runEnd mask (aT mask h r).1 - (aT mask h r).1)+1,by omega,?_⟩
  rw[pth]
  have step':pth mask h (n+(runEnd mask (aT mask h r).1 - (aT mask h r).1))=_:=step
  rw[step',e]
  unfold adv
  rw[if_neg (by simp)]
  rfl
theorem vq (h:Int):bits h < 2 ^ 64:=by
 unfold bits
 have h1:=Cg h (show (2 ^ 64:Int)≠0 by decide)
 have h2:=BP h (show (0:Int) < 2 ^ 64 by decide)
 omega
theorem j5 (mask:Nat) (h:Int):∀r,(aT mask h r).2=bits h / 32 ^ r
 |0=>by simp[aT]
 |r+1=>by
  rw[aT]
  show (aT mask h r).2 / 32=_
  rw[j5 mask h r,FS,CL]
theorem qX (mask:Nat) (h:Int) (r:Nat) (hr:12≤r):(aT mask h r).2 / 32=0:=by
 rw[j5]
 have h1:=vq h
 rw[FS]
 apply Nat.div_eq_of_lt
 have:32 ^ 12*32≤32 ^ r*32:=Gz _ (DG (by decide) hr)
 exact A3 (A3 h1 (by decide)) this
def cK:Nat→Nat
 |0=>1
 |k+1=>cK k*(4*cK k+2)
theorem rT:∀k,∃m,cK k=2 ^ k*(2*m+1)
 |0=>⟨0,by simp[cK]⟩
 |k+1=>by
  obtain ⟨m,e⟩:=rT k
  refine ⟨2*(cK k) *m+m+cK k,?_⟩
  rw[cK,CL]
  have:cK k*(4*cK k+2)=2 ^ k*(2*m+1) *(4*cK k+2):=by rw[←e]
  rw[this]
  generalize cK k=c
  generalize 2 ^ k=p
  grind
def gd:Nat→Nat→Nat
 |0,x=>x
 |n+1,x=>5*gd n x+1
theorem i8 (m x:Nat):∀n,gd (m+n) x=gd n (gd m x)
 |0=>rfl
 |n+1=>by rw[←Nat.add_assoc,gd,i8 m x n,gd]
theorem i9:∀(k x:Nat),gd (2 ^ k) x=(1+4*cK k) *x+cK k
 |0,x=>by simp[gd,cK]
 |k+1,x=>by
  rw[CL,Nat.mul_two,i8,i9 k,i9 k,cK]
  generalize cK k=c
  grind
theorem nY (k x:Nat):gd (2 ^ k) x % 2 ^ (k+1)=(x+2 ^ k) % 2 ^ (k+1):=by
 rw[i9]
 obtain ⟨m,e⟩:=rT k
 rw[e]
 have:(1+4*(2 ^ k*(2*m+1))) *x+2 ^ k*(2*m+1)=(x+2 ^ k)+2 ^ (k+1) *(2*(2*m+1) *x+m):=by
  rw[CL]
  generalize 2 ^ k=p
  grind
 rw[this,Nat.add_mul_mod_self_left]
theorem gF (x:Nat):∀(k y:Nat),∃n,n < 2 ^ k∧gd n x % 2 ^ k=y % 2 ^ k
 |0,y=>⟨0,by simp,by simp[Nat.mod_one]⟩
 |k+1,y=>by
  obtain ⟨n,hn,e⟩:=gF x k y
  have hp:2 ^ (k+1)=2 ^ k+2 ^ k:=by rw[CL];omega
  have h2:0 < 2 ^ k:=Nat.pow_pos (by decide)
  by_cases h:gd n x % 2 ^ (k+1)=y % 2 ^ (k+1)
  ·exact ⟨n,by omega,h⟩
  ·refine ⟨n+2 ^ k,by omega,?_⟩
   rw[i8,nY]
   generalize gd n x=z at *
   have d1:z % 2 ^ (k+1) % 2 ^ k=z % 2 ^ k:=G4 _ ⟨2,by rw[CL]⟩
   have d2:y % 2 ^ (k+1) % 2 ^ k=y % 2 ^ k:=G4 _ ⟨2,by rw[CL]⟩
   have l1:=Cm z (show 0 < 2 ^ (k+1) by omega)
   have l2:=Cm y (show 0 < 2 ^ (k+1) by omega)
   rw[←Gb]
   rw[←d1,←d2] at e
   generalize z % 2 ^ (k+1)=a at *
   generalize y % 2 ^ (k+1)=b at *
   rw[hp] at *
   generalize 2 ^ k=p at *
   have ea:a % p=if a < p then a else a - p:=by
    split
    ·exact Bb (by assumption)
    ·rw[E9 (by omega),Bb (by omega)]
   have eb:b % p=if b < p then b else b - p:=by
    split
    ·exact Bb (by assumption)
    ·rw[E9 (by omega),Bb (by omega)]
   rw[ea,eb] at e
   by_cases ha:a < p
   ·rw[if_pos ha] at e
    rw[Bb (by omega)]
    split at e <;>omega
   ·rw[if_neg ha] at e
    rw[E9 (by omega),Bb (by omega)]
    split at e <;>omega
theorem jb {mask k:Nat} (hk:mask+1=2 ^ k) (h:Int):∀q,(aT mask h (12+q)).1=gd q (aT mask h 12).1 % 2 ^ k
 |0=>by
  rw[gd]
  have:(aT mask h 12).1 < 2 ^ k:=by
   rw[←hk]
   show (leap mask (aT mask h 11).1 (aT mask h 11).2).1 < _
   exact Cm _ (by omega)
  exact (Bb this).symm
 |q+1=>by
  show (leap mask (aT mask h (12+q)).1 (aT mask h (12+q)).2).1=_
  unfold leap
  simp only[qX mask h (12+q) (by omega)]
  rw[jb hk h q,hk,gd,Ju,Nat.mul_comm 5 _]
  generalize gd q (aT mask h 12).1=z
  generalize 2 ^ k=m
  rw[JE,Nat.mod_mul_mod,←JE]
theorem cover {mask k:Nat} (hk:mask+1=2 ^ k) (h:Int) (s:Nat) (hs:s≤mask):∃n,n < 10*turns mask∧(pth mask h n).j=s:=by
 obtain ⟨q,hq,e⟩:=gF (aT mask h 12).1 k s
 obtain ⟨n,hn,en⟩:=pO mask h (12+q)
 refine ⟨n,?_,?_⟩
 ·unfold turns;omega
 ·rw[en]
  show (aT mask h (12+q)).1=s
  rw[jb hk h q,e]
  exact Bb (by omega)
def Liv (t:SetTable) (j:Nat):Prop:=∃i:Nat,t.place[i]?=some j
structure TOk (t:SetTable) (hs:List Int):Prop where
 R:Ris t.place
 d:t.dummies=#[]
 k:∃k,3≤k∧t.mask+1=2 ^ k
 n:t.place.size=hs.length
 f:t.place.size≤t.mask
 le:∀(i x:Nat),t.place[i]?=some x→x≤t.mask
 reach:∀(i j:Nat) (h:Int),t.place[i]?=some j→hs[i]?=some h→∃m,(pth t.mask h m).j=j∧∀m',m' < m→Liv t (pth t.mask h m').j
theorem least {P:Nat→Prop}:∀n,P n→∃m,m≤n∧P m∧∀k,k < m→¬ P k:=by
 intro n
 induction n using Nat.strongRecOn with
 |_ n ih=>
  intro h
  by_cases hk:∃k,k < n∧P k
  ·obtain ⟨k,hk,hp⟩:=hk
   obtain ⟨m,h1,h2,h3⟩:=ih k hk hp
   exact ⟨m,by omega,h2,h3⟩
  ·exact ⟨n,Ay _,h,fun k hk' hp=>hk ⟨k,hk',hp⟩⟩
theorem oB {t:SetTable}{hs:List Int} (T:TOk t hs) (h:Int):∃N,N < 10*turns t.mask∧¬ Liv t (pth t.mask h N).j∧∀m,m < N→Liv t (pth t.mask h m).j:=by
 obtain ⟨s,hs1,hs2⟩:=qE T.R T.f
 obtain ⟨k,_,hk⟩:=T.k
 obtain ⟨n,hn,e⟩:=cover hk h s hs1
 obtain ⟨m,h1,h2,h3⟩:=least (P:=fun n=>¬ Liv t (pth t.mask h n).j) n (by show ¬ Liv t (pth t.mask h n).j;rw[e];rintro ⟨i,hi⟩;exact hs2 i hi)
 exact ⟨m,by omega,h2,fun k hk'=>B6 fun z=>h3 k hk' z⟩
theorem nE {t:SetTable}{hs:List Int} (T:TOk t hs) (hashAt:Nat→Int) (h:Int) {N:Nat} (h0:¬ Liv t (pth t.mask h N).j) (h1:∀m,m < N→Liv t (pth t.mask h m).j):∀(fuel n:Nat),n≤N→N - n < fuel→
  (probe.go t hashAt h fuel (pth t.mask h n)=some (.empty (pth t.mask h N).j none)∧∀(m i:Nat),n≤m→m < N→t.place[i]?=some (pth t.mask h m).j→hashAt i≠h)∨
  ∃m i:Nat,n≤m∧m < N∧t.place[i]?=some (pth t.mask h m).j∧hashAt i=h∧probe.go t hashAt h fuel (pth t.mask h n)=some (.candidate (pth t.mask h m).j i (pth t.mask h (m+1)))∧
   ∀(m' i':Nat),n≤m'→m' < m→t.place[i']?=some (pth t.mask h m').j→hashAt i'≠h
 |0,n,_,hf=>by omega
 |fuel+1,n,hn,hf=>by
  rw[probe.go]
  rcases oO T.R T.d (pth t.mask h n).j with ⟨e,hno⟩ |⟨i,e,hi⟩
  ·have hN:n=N:=by
    rcases A6 hn with z |z
    ·obtain ⟨i,hi⟩:=h1 n z;exact absurd hi (hno i)
    ·exact z
   subst hN
   refine .inl ⟨by simp only[e,jE],fun m i z1 z2=>by omega⟩
  ·have hN:n < N:=by
    rcases A6 hn with z |z
    ·exact z
    ·subst z;exact absurd ⟨i,hi⟩ h0
   simp only[e]
   by_cases hh:hashAt i=h
   ·refine .inr ⟨n,i,Ay _,hN,hi,hh,?_,fun m' i' z1 z2=>by omega⟩
    simp only[hh,beq_self_eq_true,if_true,i4]
    rfl
   ·have hb:(hashAt i==h)=false:=by simpa using hh
    simp only[hb,AR,if_false,i4]
    have ih:=nE T hashAt h h0 h1 fuel (n+1) (by omega) (by omega)
    rcases ih with ⟨q1,q2⟩ |⟨m,i2,q1,q2,q3,q4,q5,q6⟩
    ·refine .inl ⟨q1,fun m i' z1 z2 z3=>?_⟩
     rcases A6 z1 with z |z
     ·exact q2 m i' z z2 z3
     ·subst z
      rw[T.R.inj z3 hi];exact hh
    ·refine .inr ⟨m,i2,by omega,q2,q3,q4,q5,fun m' i' z1 z2 z3=>?_⟩
     rcases A6 z1 with z |z
     ·exact q6 m' i' z z2 z3
     ·subst z
      rw[T.R.inj z3 hi];exact hh
theorem rQ {t:SetTable}{hs:List Int} (T:TOk t hs) {h:Int}{N i:Nat} (h0:¬ Liv t (pth t.mask h N).j) (hi:hs[i]?=some h):∃(m j:Nat),m < N∧t.place[i]?=some j∧(pth t.mask h m).j=j:=by
 have hlt:i < t.place.size:=by rw[T.n];exact (AG.mp hi).1
 obtain ⟨m,e,hm⟩:=T.reach i _ h (dU hlt) hi
 refine ⟨m,_,?_,dU hlt,e⟩
 rcases Cv m N with z |z |z
 ·exact z
 ·subst z;exact absurd ⟨i,by rw[e];exact dU hlt⟩ h0
 ·exact absurd (hm N z) h0
theorem d9 {α:Type} (xs:Array α) (p:Nat) (x:α):(insertAt xs p x).toList=xs.toList.take p++x::xs.toList.drop p:=by
 unfold insertAt
 simp[Array.toList_extract]
 exact Dr (by simp)
theorem cq {α:Type}{xs:Array α}{p:Nat}{x:α} (hp:p≤xs.size) (i:Nat):(insertAt xs p x)[i]?=if i < p then xs[i]? else if i=p then some x else xs[i - 1]?:=by
 rw[←Bj,d9]
 have hl:(xs.toList.take p).length=p:=by simp;omega
 by_cases h1:i < p
 ·rw[if_pos h1,A7 (by omega),Dc h1,Bj]
 ·rw[if_neg h1,A0 (by omega),hl]
  by_cases h2:i=p
  ·subst h2;simp
  ·rw[if_neg h2]
   obtain ⟨q,hq⟩:∃q,i - p=q+1:=⟨i - p - 1,by omega⟩
   rw[hq,Di,Du,Bj]
   congr 1;omega
theorem gv {α:Type} (xs:Array α) (p:Nat) (x:α) (hp:p≤xs.size):(insertAt xs p x).size=xs.size+1:=by
 rw[←AS,d9];simp;omega
def gf {α:Type} (xs:List α) (p:Nat) (x:α):List α:=xs.take p++x::xs.drop p
theorem sN {α:Type}{xs:List α}{p:Nat}{x:α} (hp:p≤xs.length) (i:Nat):(gf xs p x)[i]?=if i < p then xs[i]? else if i=p then some x else xs[i - 1]?:=by
 unfold gf
 have hl:(xs.take p).length=p:=by simp;omega
 by_cases h1:i < p
 ·rw[if_pos h1,A7 (by omega),Dc h1]
 ·rw[if_neg h1,A0 (by omega),hl]
  by_cases h2:i=p
  ·subst h2;simp
  ·rw[if_neg h2]
   obtain ⟨q,hq⟩:∃q,i - p=q+1:=⟨i - p - 1,by omega⟩
   rw[hq,Di,Du]
   congr 1;omega
theorem vM {xs:Array Nat} (R:Ris xs) {j:Nat} (hno:∀i:Nat,xs[i]?≠some j):Ris (insertAt xs (below xs j) j):=by
 obtain ⟨h1,h2,h3⟩:=e9 R j
 have gt:∀(i x:Nat),below xs j≤i→xs[i]?=some x→j < x:=fun i x hi hx=>by
  rcases A6 (h2 i x hi hx) with z |z
  ·exact z
  ·subst z;exact absurd hx (hno i)
 intro a b x y hab hx hy
 rw[cq h3] at hx hy
 by_cases a1:a < below xs j
 ·rw[if_pos a1] at hx
  by_cases b1:b < below xs j
  ·rw[if_pos b1] at hy;exact R a b x y hab hx hy
  ·rw[if_neg b1] at hy
   by_cases b2:b=below xs j
   ·rw[if_pos b2] at hy;cases hy;exact h1 a x a1 hx
   ·rw[if_neg b2] at hy;exact R a (b - 1) x y (by omega) hx hy
 ·rw[if_neg a1] at hx
  have b1:¬ b < below xs j:=by omega
  rw[if_neg b1] at hy
  have b2:¬ b=below xs j:=by omega
  rw[if_neg b2] at hy
  by_cases a2:a=below xs j
  ·rw[if_pos a2] at hx;cases hx;exact gt (b - 1) y (by omega) hy
  ·rw[if_neg a2] at hx;exact R (a - 1) (b - 1) x y (by omega) hx hy
theorem pw {xs:Array Nat}{p j:Nat} (hp:p≤xs.size) (s:Nat):(∃i:Nat,(insertAt xs p j)[i]?=some s)↔s=j∨∃i:Nat,xs[i]?=some s:=by
 constructor
 ·rintro ⟨i,hi⟩
  rw[cq hp] at hi
  split at hi
  ·exact .inr ⟨i,hi⟩
  ·split at hi
   ·cases hi;exact .inl rfl
   ·exact .inr ⟨i - 1,hi⟩
 ·rintro (rfl |⟨i,hi⟩)
  ·exact ⟨p,by rw[cq hp,if_neg (Bs _),if_pos rfl]⟩
  ·by_cases h:i < p
   ·exact ⟨i,by rw[cq hp,if_pos h];exact hi⟩
   ·exact ⟨i+1,by rw[cq hp,if_neg (by omega),if_neg (by omega)];simpa using hi⟩
theorem TOk.put {t:SetTable}{hs:List Int} (T:TOk t hs) {h:Int}{N:Nat} (h0:¬ Liv t (pth t.mask h N).j) (h1:∀m,m < N→Liv t (pth t.mask h m).j) (hle:(pth t.mask h N).j≤t.mask) (hf:t.place.size+1≤t.mask):
  TOk (t.put (pth t.mask h N).j).1 (gf hs (t.put (pth t.mask h N).j).2 h):=by
 have hno:∀i:Nat,t.place[i]?≠some (pth t.mask h N).j:=fun i e=>h0 ⟨i,e⟩
 obtain ⟨_,_,hb⟩:=e9 T.R (pth t.mask h N).j
 have hbl:below t.place (pth t.mask h N).j≤hs.length:=by rw[←T.n];exact hb
 have ed:(if SetTable.has t.dummies (pth t.mask h N).j then eraseAt t.dummies (below t.dummies (pth t.mask h N).j) else t.dummies)=#[]:=by
  rw[T.d];simp[SetTable.has]
 unfold SetTable.put
 simp only[ed]
 refine ⟨vM T.R hno,rfl,T.k,?_,?_,fun i x e=>?_,fun i j hh e1 e2=>?_⟩
 ·show (insertAt _ _ _).size=(gf hs _ h).length
  rw[gv _ _ _ hb,T.n];unfold gf;simp;omega
 ·show (insertAt _ _ _).size≤t.mask
  rw[gv _ _ _ hb];exact hf
 ·rcases (pw hb x).mp ⟨i,e⟩ with z |⟨q,hq⟩
  ·rw[z];exact hle
  ·exact T.le q x hq
 ·have liv:∀s,Liv t s→Liv {t with place:=insertAt t.place (below t.place (pth t.mask h N).j) (pth t.mask h N).j,dummies:=#[] } s:=fun s z=>(pw hb s).mpr (.inr z)
  change (insertAt t.place _ _)[i]?=some j at e1
  rw[cq hb] at e1
  rw[sN hbl] at e2
  split at e1
  ·rename_i z
   rw[if_pos z] at e2
   obtain ⟨m,q1,q2⟩:=T.reach i j hh e1 e2
   exact ⟨m,q1,fun m' hm=>liv _ (q2 m' hm)⟩
  ·rename_i z
   rw[if_neg z] at e2
   split at e1
   ·rename_i z2
    rw[if_pos z2] at e2
    cases e1;cases e2
    exact ⟨N,rfl,fun m' hm=>liv _ (h1 m' hm)⟩
   ·rename_i z2
    rw[if_neg z2] at e2
    obtain ⟨m,q1,q2⟩:=T.reach (i - 1) j hh e1 e2
    exact ⟨m,q1,fun m' hm=>liv _ (q2 m' hm)⟩
theorem tM {mask:Nat} (h:Int):∀n,(pth mask h n).j+(pth mask h n).more≤mask
 |0=>by
  show bits h % (mask+1)+(runEnd mask (bits h % (mask+1)) - bits h % (mask+1))≤mask
  have:=Cm (bits h) (show 0 < mask+1 by omega)
  unfold runEnd;split <;>omega
 |n+1=>by
  have ih:=tM (mask:=mask) h n
  rw[pth];unfold adv
  split
  ·simp only;omega
  ·show (leap mask _ _).1+(runEnd mask (leap mask _ _).1 - (leap mask _ _).1)≤mask
   have:(leap mask (pth mask h n).i (pth mask h n).perturb).1 < mask+1:=Cm _ (by omega)
   unfold runEnd;split <;>omega
def OL (owner:Array (Option Nat)) (j:Nat):Prop:=∃k:Nat,owner[j]?=some (some k)
def nr (mask:Nat) (h:Int):Nat→Nat
 |0=>0
 |r+1=>nr mask h r+(runEnd mask (aT mask h r).1 - (aT mask h r).1)+1
theorem wR (mask:Nat) (h:Int):∀r,pth mask h (nr mask h r)={j:=(aT mask h r).1,more:=runEnd mask (aT mask h r).1 - (aT mask h r).1,i:=(aT mask h r).1,perturb:=(aT mask h r).2,dummy:=none }
 |0=>rfl
 |r+1=>by
  have e:=wR mask h r
  have step:=iQ (mask:=mask) (runEnd mask (aT mask h r).1 - (aT mask h r).1) (pth mask h (nr mask h r)) (fun m=>pth mask h (nr mask h r+m)) rfl (fun m=>rfl) (by rw[e];exact Ay _)
  have step':pth mask h (nr mask h r+(runEnd mask (aT mask h r).1 - (aT mask h r).1))=_:=step
  rw[nr,pth,step',e]
  unfold adv
  rw[if_neg (by simp)]
  rfl
theorem nR (mask:Nat) (h:Int) (r k:Nat) (hk:k≤runEnd mask (aT mask h r).1 - (aT mask h r).1):(pth mask h (nr mask h r+k)).j=(aT mask h r).1+k:=by
 have e:=wR mask h r
 have step:=iQ (mask:=mask) k (pth mask h (nr mask h r)) (fun m=>pth mask h (nr mask h r+m)) rfl (fun m=>rfl) (by rw[e];exact hk)
 have step':pth mask h (nr mask h r+k)=_:=step
 rw[step',e]
theorem qi (mask i:Nat):i≤runEnd mask i:=by unfold runEnd;split <;>omega
theorem uN (mask:Nat) (h:Int):∀r,(aT mask h r).1≤mask
 |0=>Cc (Cm _ (by omega))
 |r+1=>Cc (Cm _ (by omega))
theorem mL {mask i:Nat} (h:i≤mask):runEnd mask i≤mask:=by unfold runEnd;split <;>omega
theorem pj {mask:Nat}{owner:Array (Option Nat)} (hsz:owner.size=mask+1) (h:Int):∀(fuel r:Nat),(∃r',r≤r'∧r' < r+fuel∧owner[(aT mask h r').1]?=some none)→(∀m,m < nr mask h r→OL owner (pth mask h m).j)→
  ∃N,layClean.free mask owner fuel (aT mask h r).1 (aT mask h r).2=some (pth mask h N).j∧owner[(pth mask h N).j]?=some none∧∀m,m < N→OL owner (pth mask h m).j
 |0,r,⟨r',h1,h2,_⟩,_=>by omega
 |fuel+1,r,hex,hl=>by
  rw[layClean.free]
  have hge:=qi mask (aT mask h r).1
  have hmk:=mL (uN mask h r)
  have hin:∀k,k < runEnd mask (aT mask h r).1+1 - (aT mask h r).1→(aT mask h r).1+k < owner.size:=fun k hk=>by omega
  cases hf:(Bi (runEnd mask (aT mask h r).1+1 - (aT mask h r).1)).find? fun k=>(owner.getD ((aT mask h r).1+k) (some 0)).isNone with
  |some k=>
   obtain ⟨p1,p2,p3⟩:=List.find?_range_eq_some.mp hf
   have hk:=AQ.mp p2
   have hlt:=hin k hk
   have e1:owner[(aT mask h r).1+k]?=some none:=by
    have:owner.getD ((aT mask h r).1+k) (some 0)=owner[(aT mask h r).1+k]:=by simp[Cw,hlt]
    rw[this] at p1
    have:owner[(aT mask h r).1+k]=none:=by simpa using p1
    simp[hlt,this]
   have ej:=nR mask h r k (by omega)
   refine ⟨nr mask h r+k,by simp only[ej],by rw[ej];exact e1,fun m hm=>?_⟩
   by_cases hm1:m < nr mask h r
   ·exact hl m hm1
   ·obtain ⟨q,rfl⟩:∃q,m=nr mask h r+q:=⟨m - nr mask h r,by omega⟩
    have hq:=p3 q (by omega)
    have hlt2:=hin q (by omega)
    rw[nR mask h r q (by omega)]
    have:owner.getD ((aT mask h r).1+q) (some 0)=owner[(aT mask h r).1+q]:=by simp[Cw,hlt2]
    rw[this] at hq
    cases hv:owner[(aT mask h r).1+q] with
    |none=>rw[hv] at hq;simp at hq
    |some v=>exact ⟨v,by simp[hlt2,hv]⟩
  |none=>
   have hall:∀q,q < runEnd mask (aT mask h r).1+1 - (aT mask h r).1→OL owner ((aT mask h r).1+q):=fun q hq=>by
    have:=List.find?_eq_none.mp hf q (AQ.mpr hq)
    have hlt2:=hin q hq
    have e:owner.getD ((aT mask h r).1+q) (some 0)=owner[(aT mask h r).1+q]:=by simp[Cw,hlt2]
    rw[e] at this
    cases hv:owner[(aT mask h r).1+q] with
    |none=>rw[hv] at this;simp at this
    |some v=>exact ⟨v,by simp[hlt2,hv]⟩
   have next:=pj hsz h fuel (r+1) (by
    obtain ⟨r',h1,h2,h3⟩:=hex
    refine ⟨r',?_,by omega,h3⟩
    rcases A6 h1 with z |z
    ·exact z
    ·subst z
     obtain ⟨v,hv⟩:=hall 0 (by omega)
     rw[Ju,h3] at hv
     cases hv) (fun m hm=>by
    by_cases hm1:m < nr mask h r
    ·exact hl m hm1
    ·obtain ⟨q,rfl⟩:∃q,m=nr mask h r+q:=⟨m - nr mask h r,by omega⟩
     have hm2:nr mask h r+q < nr mask h r+(runEnd mask (aT mask h r).1 - (aT mask h r).1)+1:=hm
     rw[nR mask h r q (by omega)]
     exact hall q (by omega))
   exact next
structure OI (mask:Nat) (owner:Array (Option Nat)) (hs:List Int):Prop where
 sz:owner.size=mask+1
 lt:∀(j k:Nat),owner[j]?=some (some k)→k < hs.length
 inj:∀(i j k:Nat),owner[i]?=some (some k)→owner[j]?=some (some k)→i=j
 all:∀k:Nat,k < hs.length→∃j:Nat,owner[j]?=some (some k)
 reach:∀(j k:Nat) (h:Int),owner[j]?=some (some k)→hs[k]?=some h→∃m,(pth mask h m).j=j∧∀m',m' < m→OL owner (pth mask h m').j
theorem OI.free {mask:Nat}{owner:Array (Option Nat)}{hs:List Int} (O:OI mask owner hs) (hn:hs.length≤mask):∃s,s≤mask∧owner[s]?=some none:=by
 apply B6
 intro hno
 have hlive:∀s,s≤mask→OL owner s:=fun s hs'=>by
  have hlt:s < owner.size:=by rw[O.sz];omega
  cases e:owner[s] with
  |none=>exact absurd ⟨s,hs',by simp[hlt,e]⟩ hno
  |some k=>exact ⟨k,by simp[hlt,e]⟩
 have nd:((Bi (mask+1)).map fun s=>(owner.getD s none).getD 0).Nodup:=by
  rw[E7,BD]
  refine Fs ?_ (FT (n:=mask+1))
  intro a b ha hb hab e
  obtain ⟨k1,h1⟩:=hlive a (by have:=AQ.mp ha;omega)
  obtain ⟨k2,h2⟩:=hlive b (by have:=AQ.mp hb;omega)
  have e1:(owner.getD a none).getD 0=k1:=by simp[Br,h1]
  have e2:(owner.getD b none).getD 0=k2:=by simp[Br,h2]
  rw[e1,e2] at e
  subst e
  have:=O.inj a b k1 h1 h2
  omega
 have sub:((Bi (mask+1)).map fun s=>(owner.getD s none).getD 0) ⊆ Bi hs.length:=by
  intro x hx
  obtain ⟨s,hs1,rfl⟩:=Az.mp hx
  obtain ⟨k1,h1⟩:=hlive s (by have:=AQ.mp hs1;omega)
  have e1:(owner.getD s none).getD 0=k1:=by simp[Br,h1]
  rw[e1]
  exact AQ.mpr (O.lt s k1 h1)
 have:=Hr nd sub
 simp at this
 omega
theorem OI.step {mask k:Nat} (hk:mask+1=2 ^ k) {owner:Array (Option Nat)}{hs:List Int} (O:OI mask owner hs) (hn:hs.length≤mask) (h:Int):
  ∃j,layClean.free mask owner (turns mask) (bits h % (mask+1)) (bits h)=some j∧OI mask (owner.setIfInBounds j (some hs.length)) (hs++[h]):=by
 obtain ⟨s,hs1,hs2⟩:=O.free hn
 obtain ⟨q,hq,e⟩:=gF (aT mask h 12).1 k s
 have er:(aT mask h (12+q)).1=s:=by rw[jb hk h q,e];exact Bb (by omega)
 obtain ⟨N,f1,f2,f3⟩:=pj O.sz h (turns mask) 0 ⟨12+q,Bh _,by unfold turns;omega,by rw[er];exact hs2⟩ (fun m hm=>absurd hm (HV _))
 refine ⟨_,f1,?_⟩
 generalize hj:(pth mask h N).j=j at *
 have hjs:j < owner.size:=(CU.mp f2).1
 have get:∀i:Nat,(owner.setIfInBounds j (some hs.length))[i]?=if j=i then some (some hs.length) else owner[i]?:=fun i=>by
  rw[Array.getElem?_setIfInBounds]
  split
  ·rename_i z;subst z;simp[hjs]
  ·rfl
 have liv:∀i,OL owner i→OL (owner.setIfInBounds j (some hs.length)) i:=fun i ⟨v,hv⟩=>by
  refine ⟨v,?_⟩
  rw[get,if_neg (fun z=>by subst z;rw[f2] at hv;cases hv)]
  exact hv
 refine ⟨by simp[O.sz],fun i v e=>?_,fun a b v e1 e2=>?_,fun v hv=>?_,fun i v hh e1 e2=>?_⟩
 ·rw[get] at e
  split at e
  ·cases e;simp
  ·have:=O.lt i v e;simp;omega
 ·rw[get] at e1 e2
  split at e1 <;>split at e2
  ·omega
  ·cases e1;exact absurd (O.lt b _ e2) (Bs _)
  ·cases e2;exact absurd (O.lt a _ e1) (Bs _)
  ·exact O.inj a b v e1 e2
 ·simp at hv
  rcases A6 (Cc hv) with z |z
  ·obtain ⟨i,hi⟩:=O.all v z
   refine ⟨i,?_⟩
   rw[get,if_neg (fun y=>by subst y;rw[f2] at hi;cases hi)]
   exact hi
  ·subst z;exact ⟨j,by rw[get,if_pos rfl]⟩
 ·rw[get] at e1
  split at e1
  ·rename_i z
   cases e1
   rw[A0 (Ay _)] at e2
   simp at e2
   subst e2
   exact ⟨N,by rw[hj];exact z,fun m hm=>liv _ (f3 m hm)⟩
  ·have hv:=O.lt i v e1
   rw[A7 hv] at e2
   obtain ⟨m,q1,q2⟩:=O.reach i v hh e1 e2
   exact ⟨m,q1,fun m' hm=>liv _ (q2 m' hm)⟩
theorem o9 {mask k:Nat} (hk:mask+1=2 ^ k):∀(more done:List Int) (owner:Array (Option Nat)),OI mask owner done→done.length+more.length≤mask+1→∃owner',more.foldl (fun acc h=>do
  let (owner,k) ←acc
  let j ←layClean.free mask owner (turns mask) (bits h % (mask+1)) (bits h)
  pure (owner.setIfInBounds j (some k),k+1)) (some (owner,done.length))=some (owner',done.length+more.length)∧OI mask owner' (done++more)
 |[],done,owner,O,_=>⟨owner,by simp,by simpa using O⟩
 |h::more,done,owner,O,hl=>by
  obtain ⟨j,e,O2⟩:=O.step hk (by simp at hl;omega) h
  obtain ⟨ow,e2,O3⟩:=o9 hk more (done++[h]) _ O2 (by simp at hl ⊢;omega)
  refine ⟨ow,?_,by simpa using O3⟩
  rw[D9]
  have:(do
   let (owner,k) ←some (owner,done.length)
   let j ←layClean.free mask owner (turns mask) (bits h % (mask+1)) (bits h)
   pure (owner.setIfInBounds j (some k),k+1):Option (Array (Option Nat)×Nat))=some (owner.setIfInBounds j (some done.length),done.length+1):=by
   simp[e]
  rw[this]
  simp only[Bd,F_] at e2
  rw[e2]
  simp;omega
theorem mM {mask k:Nat} (hk:mask+1=2 ^ k) {hs:Array Int} (hl:hs.size≤mask+1):∃owner,layClean mask hs=some owner∧OI mask owner hs.toList:=by
 have O0:OI mask (Array.replicate (mask+1) none) []:=⟨by simp,fun j k e=>by simp[DZ] at e,fun i j k e=>by simp[DZ] at e,fun k h=>by simp at h,fun j k h e=>by simp[DZ] at e⟩
 obtain ⟨ow,e,O⟩:=o9 hk hs.toList [] _ O0 (by simpa using hl)
 refine ⟨ow,?_,by simpa using O⟩
 unfold layClean
 rw[←Array.foldl_toList]
 simp only[D8] at e
 rw[e]
 rfl
theorem nC (n:Nat):∀(fuel k:Nat),n < 2 ^ (k+fuel)→∃k',k≤k'∧sizeAbove.go n fuel (2 ^ k)=2 ^ k'∧n < 2 ^ k'∧(2 ^ k'≤2*n∨k'=k)
 |0,k,h=>⟨k,Ay _,rfl,by simpa using h,.inr rfl⟩
 |fuel+1,k,h=>by
  rw[sizeAbove.go]
  by_cases hle:2 ^ k≤n
  ·rw[if_pos hle,←CL]
   obtain ⟨k',h1,h2,h3,h4⟩:=nC n fuel (k+1) (by rw[show k+1+fuel=k+(fuel+1) by omega];exact h)
   refine ⟨k',by omega,h2,h3,.inl ?_⟩
   rcases h4 with z |z
   ·exact z
   ·subst z;rw[CL];omega
  ·rw[if_neg hle]
   exact ⟨k,Ay _,rfl,by omega,.inr rfl⟩
theorem above (n:Nat) (h:n < 2 ^ 60):∃k,3≤k∧sizeAbove n=2 ^ k∧n < 2 ^ k∧2 ^ k≤2*n+8:=by
 obtain ⟨k,h1,h2,h3,h4⟩:=nC n 64 3 (A3 h (DG (by decide) (by decide)))
 refine ⟨k,h1,h2,h3,?_⟩
 rcases h4 with z |z
 ·omega
 ·subst z;omega
def df (mask:Nat) (owner:Array (Option Nat)):List (Nat×Nat):=(Bi (mask+1)).filterMap fun j=>(owner.getD j none).map (j,·)
theorem mR (owner:Array (Option Nat)):∀l:List Nat,(l.filterMap fun j=>(owner.getD j none).map (j,·)).map (·.1)=l.filter fun j=>(owner.getD j none).isSome
 |[]=>rfl
 |a::l=>by
  have ih:=mR owner l
  rw[Ca,EH]
  cases owner.getD a none with
  |none=>simpa using ih
  |some v=>simpa using ih
theorem dJ {mask:Nat}{owner:Array (Option Nat)} (hsz:owner.size=mask+1) (j k:Nat):(j,k)∈df mask owner↔owner[j]?=some (some k):=by
 unfold df
 rw[CZ]
 constructor
 ·rintro ⟨a,ha,e⟩
  have hlt:a < owner.size:=by rw[hsz];exact AQ.mp ha
  cases hv:owner.getD a none with
  |none=>rw[hv] at e;cases e
  |some v=>
   rw[hv] at e
   cases e
   have:owner.getD j none=owner[j]:=by simp[Cw,hlt]
   rw[this] at hv
   simp[hlt,hv]
 ·intro e
  have hlt:=(CU.mp e).1
  refine ⟨j,AQ.mpr (by omega),?_⟩
  rw[Br,e];rfl
theorem qk (mask:Nat) (owner:Array (Option Nat)):(df mask owner).Pairwise fun a b=>a.1 < b.1:=by
 have:=(FT (n:=mask+1)).filter fun j=>(owner.getD j none).isSome
 rw[←mR owner (Bi (mask+1)),BD] at this
 exact this
theorem xX {l:List Nat} (h:l.Pairwise (· < ·)):Ris l.toArray:=by
 intro i j x y hij hx hy
 rw[Dz] at hx hy
 obtain ⟨h1,e1⟩:=AG.mp hx
 obtain ⟨h2,e2⟩:=AG.mp hy
 have:=A8.mp h i j h1 h2 hij
 rw[e1,e2] at this
 exact this
theorem u6 {mask k:Nat} (h3:3≤k) (hk:mask+1=2 ^ k) {hs:Array Int} (hl:hs.size≤mask) (finger moves:Nat) (led plain:Bool):
  ∃t order,laid mask finger moves led plain hs=some (t,order)∧TOk t (order.toList.map fun i=>hs.getD i 0)∧order.toList.Perm (Bi hs.size)∧t.mask=mask∧t.led=led∧t.plain=plain∧t.moves=moves:=by
 obtain ⟨owner,e,O⟩:=mM hk (hs:=hs) (by omega)
 have pr:=qk mask owner
 have nd:((df mask owner).map (·.2)).Nodup:=by
  rw[E7,BD]
  refine Fs ?_ pr
  intro a b ha hb hab ee
  have h1:=(dJ O.sz a.1 a.2).mp ha
  have h2:=(dJ O.sz b.1 b.2).mp hb
  rw[ee] at h1
  have:=O.inj a.1 b.1 b.2 h1 h2
  omega
 have perm:((df mask owner).map (·.2)).Perm (Bi hs.size):=by
  refine (List.perm_ext_iff_of_nodup nd HD).mpr fun x=>?_
  rw[Az,AQ]
  constructor
  ·rintro ⟨⟨j,v⟩,hm,rfl⟩
   have:=O.lt j v ((dJ O.sz j v).mp hm)
   simpa using this
  ·intro hx
   obtain ⟨j,hj⟩:=O.all x (by simpa using hx)
   exact ⟨(j,x),(dJ O.sz j x).mpr hj,rfl⟩
 have len:(df mask owner).length=hs.size:=by have:=perm.length_eq;simpa using this
 refine ⟨_,_,by unfold laid;rw[e];rfl,⟨?_,rfl,⟨k,h3,hk⟩,?_,?_,fun i x ee=>?_,fun i j h e1 e2=>?_⟩,?_,rfl,rfl,rfl,rfl⟩
 ·show Ris ((df mask owner).map (·.1)).toArray
  exact xX (by rw[BD];exact pr)
 ·show ((df mask owner).map (·.1)).toArray.size=_
  simp[df]
 ·show ((df mask owner).map (·.1)).toArray.size≤mask
  simp[len,hl]
 ·change ((df mask owner).map (·.1)).toArray[i]?=some x at ee
  rw[Dz,Av] at ee
  cases q:(df mask owner)[i]? with
  |none=>rw[q] at ee;cases ee
  |some p=>
   rw[q] at ee
   cases ee
   have:=(dJ O.sz p.1 p.2).mp (AO q)
   have:=(CU.mp this).1
   show p.1≤mask
   have hz:=O.sz
   omega
 ·change ((df mask owner).map (·.1)).toArray[i]?=some j at e1
  change (((df mask owner).map (·.2)).toArray.toList.map fun i=>hs.getD i 0)[i]?=some h at e2
  rw[Dz,Av] at e1
  rw[Av,Av] at e2
  cases q:(df mask owner)[i]? with
  |none=>rw[q] at e1;cases e1
  |some p=>
   rw[q] at e1 e2
   cases e1
   have hp:=(dJ O.sz p.1 p.2).mp (AO q)
   have hlt:=O.lt _ _ hp
   have e3:hs.toList[p.2]?=some h:=by
    have e4:hs.getD p.2 0=h:=by simpa using e2
    have:p.2 < hs.size:=by simpa using hlt
    rw[←e4]
    simp[Cw,this]
   obtain ⟨m,q1,q2⟩:=O.reach _ _ h hp e3
   refine ⟨m,q1,fun m' hm=>?_⟩
   obtain ⟨v,hv⟩:=q2 m' hm
   obtain ⟨n,hn⟩:=BH.mp ((dJ O.sz _ v).mpr hv)
   refine ⟨n,?_⟩
   show ((df mask owner).map (·.1)).toArray[n]?=_
   rw[Dz,Av,hn];rfl
 ·show ((df mask owner).map (·.2)).toArray.toList.Perm _
  simpa using perm
section
variable {prog:AD}{w:World}{A:A5}{E:Value→As→Prop}{s:As}
abbrev TK (prog:AD) (w:World) (h:Heap) (k:List Int) (b:Addr):Prop:=IsTupleKey (DF prog w) h k b
abbrev hsh (prog:AD) (w:World) (k:List Int):Int:=tupleKeyHash (DF prog w) k
theorem TK.ints {h:Heap}{k:List Int}{vs:List Value} (x:ItemsAre (DF prog w) k vs):∀v∈vs,∃n t,v=.int n t:=by
 induction x with
 |nil=>intro v hv;simp at hv
 |cons h1 _ ih=>
  intro v hv
  rcases AB.mp hv with rfl |hv
  ·obtain ⟨t,rfl⟩:=CM h1;exact ⟨_,t,rfl⟩
  ·exact ih v hv
theorem jZ {k:List Int}{a:Addr}{Q:Bool→As→Prop} (hk:TK prog w s.heap k a) (h:Q false s):wpAny (model prog w) A (Ej 8 (.ref a)) Q E s:=by
 have hT:=hk.typeIs
 obtain ⟨o,items,n,ho,_,hd,hi⟩:=hk
 unfold Ej
 refine Ao (Hs hT ?_)
 dsimp only
 rw[if_pos (by decide)]
 refine Ao (Au ?_)
 simp only[C4,AR,if_false]
 refine Ao (B7 ho hd ?_)
 dsimp only
 refine Ao ?_
 rw[←G5]
 refine FJ _ (fun rest r s'=>r.1=none∧s'=s∧∀v∈rest,∃n t,v=Be n t) _ ?_ ?_ _ _ ⟨rfl,rfl,TK.ints (h:=s.heap) hi⟩
 ·rintro v rest r s' ⟨hr,rfl,hall⟩
  obtain ⟨n,t,rfl⟩:=hall v AF
  have e:Ej 7 (Be n t)=pure false:=by unfold Ej;rfl
  rw[e]
  refine Ao (Au ?_)
  simp only[AR,if_false]
  exact Au ⟨rfl,rfl,fun u hu'=>hall u (Aw _ hu')⟩
 ·rintro ⟨r1,r2⟩ s' ⟨hr,rfl,_⟩
  simp only at hr
  subst hr
  exact Au h
theorem yW {k:List Int}{a:Addr}{Q:Bool→As→Prop} (hk:TK prog w s.heap k a) (h:Q true s):wpAny (model prog w) A (GP 8 (.ref a)) Q E s:=by
 have hT:=hk.typeIs
 obtain ⟨o,items,n,ho,_,hd,hi⟩:=hk
 unfold GP
 refine Ao (D6 hT F.slot_tuple_hash.lookup ?_)
 show wpAny _ _ (HW (.ref a) >>=_) _ _ s
 refine Ao (B7 ho hd ?_)
 refine Ao ?_
 show wpAny _ _ (forIn items _ _) _ _ s
 rw[←G5]
 refine FJ _ (fun rest r s'=>r.1=none∧s'=s∧∀v∈rest,∃n t,v=Be n t) _ ?_ ?_ _ _ ⟨rfl,rfl,TK.ints (h:=s.heap) hi⟩
 ·rintro v rest r s' ⟨hr,rfl,hall⟩
  obtain ⟨n,t,rfl⟩:=hall v AF
  have e:GP 7 (Be n t)=pure true:=by unfold GP;rfl
  rw[e]
  refine Ao (Au ?_)
  simp only[C4,AR,if_false]
  exact Au ⟨rfl,rfl,fun u hu'=>hall u (Aw _ hu')⟩
 ·rintro ⟨r1,r2⟩ s' ⟨hr,rfl,_⟩
  simp only at hr
  subst hr
  exact Au h
theorem oy {k:List Int}{a:Addr}{l:List Value}{Q:Bool→As→Prop} (hk:TK prog w s.heap k a) (hl:∀v∈l,∃k' b,v=.ref b∧TK prog w s.heap k' b) (h:Q false s):
  wpAny (model prog w) A (Hi (.ref a) l) Q E s:=by
 unfold Hi
 refine Ao ?_
 refine FJ _ (fun rest r s'=>r.1=none∧s'=s∧∀v∈rest,∃k' b,v=.ref b∧TK prog w s.heap k' b) _ ?_ ?_ _ _ ⟨rfl,rfl,hl⟩
 ·rintro v rest r s' ⟨hr,rfl,hall⟩
  obtain ⟨k',b,rfl,hb⟩:=hall v AF
  dsimp only
  split
  ·exact Au ⟨rfl,rfl,fun u hu'=>hall u (Aw _ hu')⟩
  ·refine Ao (Gc hk ?_)
   simp only[C4,AR,if_false]
   refine Ao (Gc hb ?_)
   simp only[C4,AR,if_false]
   refine Ao (jZ hk ?_)
   simp only[AR,if_false]
   refine Ao (jZ hb ?_)
   simp only[AR,if_false]
   exact Au ⟨rfl,rfl,fun u hu'=>hall u (Aw _ hu')⟩
 ·rintro ⟨r1,r2⟩ s' ⟨hr,rfl,_⟩
  simp only at hr
  subst hr
  exact Au h
def ents (prog:AD) (w:World) (kb:List (List Int×Addr)):List (Int×Value):=kb.map fun p=>(hsh prog w p.1,.ref p.2)
theorem pU {kb:List (List Int×Addr)}{i:Nat}:(ents prog w kb)[i]?=(kb[i]?).map fun p=>(hsh prog w p.1,.ref p.2):=by unfold ents;rw[Av]
theorem uR (kb:List (List Int×Addr)):(ents prog w kb).map (·.1)=kb.map fun p=>hsh prog w p.1:=by unfold ents;rw[Bf];rfl
theorem TOk.fits {t:SetTable}{hs:List Int} (T:TOk t hs) {n:Nat} (hn:hs.length=n):t.fits n=true:=by
 have h1:=T.n
 have h2:=T.f
 have h3:t.fill=t.place.size:=by unfold fill;rw[T.d];rfl
 unfold SetTable.fits
 rw[h3]
 simp[h1,hn]
 omega
theorem TOk.gave {t:SetTable}{hs:List Int} (T:TOk t hs):t.gaveWay=false:=by
 obtain ⟨k,h3,hk⟩:=T.k
 unfold SetTable.gaveWay
 obtain ⟨j,rfl⟩:∃j,k=j+1:=⟨k - 1,by omega⟩
 rw[CL] at hk
 have:t.mask % 2=1:=by omega
 simp[this]
theorem mK {S:Addr}{o:Obj}{es:Array (Int×Value)}{ep:Nat}{t:SetTable}{kb:List (List Int×Addr)}{k:List Int}{x:Addr} (hu:A.units < cLine)
  (ho:s.heap.get? S=some o) (hd:o.data=.set es ep t) (he:es.toList=ents prog w kb) (T:TOk t (kb.map fun p=>hsh prog w p.1)) (hkb:∀p∈kb,TK prog w s.heap p.1 p.2) (hx:TK prog w s.heap k x)
  {N:Nat} (hN:N < 10*turns t.mask) (h0:¬ Liv t (pth t.mask (hsh prog w k) N).j) (h1:∀m,m < N→Liv t (pth t.mask (hsh prog w k) m).j) {Q:SetFound→As→Prop}
  (qf:(∀p∈kb,p.1≠k)→Q (.free (pth t.mask (hsh prog w k) N).j false) s) (qt:(∃p∈kb,p.1=k)→Q (.there none) s):
  ∀(fuel n:Nat) (stand:Option Probe),n≤N→N - n < fuel→stand.getD (t.probeStart (hsh prog w k))=pth t.mask (hsh prog w k) n→
   (∀(m i:Nat) (p:List Int×Addr),m < n→t.place[i]?=some (pth t.mask (hsh prog w k) m).j→kb[i]?=some p→p.1≠k)→
   wpAny (model prog w) A (FC S (.ref x) (hsh prog w k) true fuel stand) Q E s:=by
 have hsz:es.size=kb.length:=by rw[←AS,he];simp[ents]
 have hfit:t.fits es.size=true:=T.fits (by rw[Ar,hsz])
 have eat:∀i:Nat,es[i]?=(kb[i]?).map fun (p:List Int×Addr)=>(hsh prog w p.1,Bk p.2):=fun i=>by rw[←Bj,he,pU]
 intro fuel
 induction fuel with
 |zero=>intro n stand _ h;omega
 |succ fuel ih=>
  intro n stand hn hf hst hpre
  unfold FC
  refine Ao (Cy ho hd hfit ?_)
  dsimp only
  rw[T.gave]
  simp only[AR,if_false]
  rw[hst]
  have hash:∀(i:Nat) (p:List Int×Addr),kb[i]?=some p→((es[i]?.map (fun (e:Int×Value)=>e.1)).getD 0:Int)=hsh prog w p.1:=fun i p hp=>by rw[eat,hp];rfl
  have pg:=nE T (fun (i:Nat)=>(es[i]?.map (fun (e:Int×Value)=>e.1)).getD 0) (hsh prog w k) h0 h1 (10*turns t.mask) n hn (by omega)
  split
  ·rename_i met hmet
   rcases pg with ⟨e,hne⟩ |⟨m,i,hnm,hmN,hpl,hhi,e,hbef⟩
   ·have q:some met=some (.empty (pth t.mask (hsh prog w k) N).j none):=hmet.symm.trans e
    cases q
    dsimp only
    refine Au (qf fun p hp hpk=>?_)
    obtain ⟨i,hi⟩:=BH.mp hp
    obtain ⟨m,j,hm,hpl,hj⟩:=rQ T (h:=hsh prog w k) h0 (i:=i) (by rw[Av,hi,←hpk];rfl)
    rcases CB m n with hmn |hmn
    ·exact hpre m i p hmn (by rw[hj];exact hpl) hi hpk
    ·exact hne m i hmn hm (by rw[hj];exact hpl) (by rw[hash i p hi,hpk])
   ·have q:some met=some (.candidate (pth t.mask (hsh prog w k) m).j i (pth t.mask (hsh prog w k) (m+1))):=hmet.symm.trans e
    cases q
    dsimp only
    have hik:i < kb.length:=by rw[←hsz,←show t.place.size=es.size by rw[T.n,Ar,hsz]];exact pM hpl
    obtain ⟨p,hp⟩:∃p,kb[i]?=some p:=⟨_,An hik⟩
    have hpm:p∈kb:=AO hp
    have hei:es[i]?=some (hsh prog w p.1,Bk p.2):=by rw[eat,hp];rfl
    have rest:wpAny (model prog w) A (do
      let equal ←holding [Bk p.2] (eqBool (Bk p.2) (.ref x))
      let (es',_,t') ←setState S
      if true && equal then return .there none
      let some same:=t'.sameMemory t.moves t.mask |unsupported "set.changed-during-lookup:is-the-new-block-at-the-old-address"
      let still ←match (if same then t'.slot (pth t.mask (hsh prog w k) m).j else .empty) with
       | .live i'=>match es'[i']? with
        |some (_,y')=>do pure (if ←isSame y' (Bk p.2) then some i' else none)
        |none=>pure none
       |_=>pure none
      match still with
      |none=>rule "set.search.anew";FC S (.ref x) (hsh prog w k) true fuel none
      |some i'=>if equal then return .there (some i') else FC S (.ref x) (hsh prog w k) true fuel (some (pth t.mask (hsh prog w k) (m+1)))) Q E s:=by
     refine Ao (Bt (wpAny_eqBool_tuple hu (hkb p hpm) hx ?_))
     refine Ao (Cy ho hd hfit ?_)
     dsimp only
     by_cases hpk:p.1=k
     ·rw[decide_eq_true hpk]
      simp only[Bool.and_self,if_true]
      exact Au (qt ⟨p,hpm,hpk⟩)
     ·rw[decide_eq_false hpk]
      simp only[GE,AR,if_false]
      have hsm:t.sameMemory t.moves t.mask=some true:=by unfold SetTable.sameMemory;simp
      rw[hsm]
      dsimp only
      rw[if_pos rfl,jY T.R hpl]
      dsimp only
      rw[hei]
      dsimp only
      refine Ao (wpAny_isSame_ref_self ?_)
      refine Ao (Au ?_)
      simp only[if_true]
      refine ih (m+1) (some (pth t.mask (hsh prog w k) (m+1))) (by omega) (by omega) rfl fun m' i' p' hm' hpl' hp'=>?_
      rcases CB m' n with z |z
      ·exact hpre m' i' p' z hpl' hp'
      ·rcases A6 (Cc hm') with y |y
       ·have:=hbef m' i' z y hpl'
        intro e'
        exact this (by rw[hash i' p' hp',e'])
       ·subst y
        have ei:=T.R.inj hpl hpl'
        subst ei
        rw[hp] at hp'
        cases hp'
        exact hpk
    by_cases hled:t.led=true
    ·rw[hled]
     simp only[C4,AR,if_false]
     rw[hei]
     exact rest
    ·rw[show t.led=false by simpa using hled]
     simp only[Fh,if_true]
     refine Ao (oy hx (fun v hv=>?_) ?_)
     ·obtain ⟨e',he',rfl⟩:=Az.mp hv
      have hm':e'∈es.toList:=by
       have:=EJ.mp he'
       exact EJ.mpr (Array.mem_filter.mp this).1
      rw[he] at hm'
      obtain ⟨p',hp',rfl⟩:=Az.mp hm'
      exact ⟨p'.1,p'.2,rfl,hkb p' hp'⟩
     ·simp only[AR,if_false]
      rw[hei]
      exact rest
  ·rename_i hno
   rcases pg with ⟨e,hne⟩ |⟨m,i,hnm,hmN,hpl,hhi,e,hbef⟩
   ·exact absurd e (hno _)
   ·exact absurd e (hno _)
end
section
variable {prog:AD}{w:World}{A:A5}{E:Value→As→Prop}{s:As}
structure SP (prog:AD) (w:World) (h:Heap) (S:Addr) (kb:List (List Int×Addr)):Prop where
 ex:∃o es ep t,h.get? S=some o∧o.ExactSet∧o.data=.set es ep t∧es.toList=ents prog w kb∧TOk t (kb.map fun p=>hsh prog w p.1)∧t.led=(!w.params.followText "set-order")∧t.plain=true∧t.tooFull=false∧t.mask < 8*kb.length+8
 keys:∀p∈kb,TK prog w h p.1 p.2
 nd:(kb.map (·.1)).Nodup
theorem TK.keep {h h':Heap}{k:List Int}{b S:Addr}{o:Obj}{es ep t} (x:TK prog w h k b) (ho:h.get? S=some o) (hd:o.data=.set es ep t) (hs:Dw S h h'):TK prog w h' k b:=by
 obtain ⟨o',items,n,ho',hc,hd',hi⟩:=x
 have hne:b≠S:=by
  rintro rfl
  obtain rfl:o'=o:=Bo (ho'.symm.trans ho)
  rw[hd] at hd';exact nomatch hd'
 exact ⟨o',items,n,(hs.2 b hne).trans ho',hc,hd',hi⟩
theorem oo (x:Addr) (es:Array (Int×Value)):byScan (.ref x) es=false:=by simp[byScan,Value.scannable]
theorem nv {α β:Type} (f:α→β) (xs:List α) (p:Nat) (x:α):(gf xs p x).map f=gf (xs.map f) p (f x):=by
 unfold gf;rw[BB,Bz,Jj,G6]
theorem eL {α:Type} (xs:List α) (p:Nat) (x:α):(gf xs p x).Perm (xs++[x]):=by
 unfold gf
 refine HE.trans ?_
 rw[Gd]
 exact (List.perm_append_singleton x xs).symm
theorem m5 {α β:Type}{kb:List α} (f:α→β) (d:β):∀(o:List Nat),(∀i∈o,i < kb.length)→o.map (fun i=>((kb.map f).toArray).getD i d)=(o.filterMap fun i=>kb[i]?).map f
 |[],_=>rfl
 |i::o,h=>by
  have hi:=h i AF
  rw[Bz,Ca,An hi,m5 f d o fun j hj=>h j (Aw _ hj)]
  simp[Cw,hi]
theorem qz {α:Type}{kb:List α}{o:List Nat} (h:o.Perm (Bi kb.length)):(o.filterMap fun i=>kb[i]?).Perm kb:=by
 refine (h.filterMap _).trans ?_
 suffices (Bi kb.length).filterMap (fun i=>kb[i]?)=kb by rw[this]
 have:∀(l pre:List α),(List.range' pre.length l.length).filterMap (fun i=>(pre++l)[i]?)=l:=by
  intro l
  induction l with
  |nil=>intro pre;rfl
  |cons x l ih=>
   intro pre
   rw[A_,List.range'_succ,Ca]
   have e:(pre++x::l)[pre.length]?=some x:=by rw[A0 (Ay _)];simp
   rw[e]
   have:=ih (pre++[x])
   rw[Ek,Bd] at this
   simpa using this
 have q:=this kb []
 simpa [List.range_eq_range'] using q
theorem uS {t:SetTable}{hs:List Int} (T:TOk t hs) (h:t.tooFull=false):t.place.size+1≤t.mask:=by
 obtain ⟨k,h3,hk⟩:=T.k
 have hf:t.fill=t.place.size:=by unfold fill;rw[T.d];rfl
 have h8:2 ^ 3≤2 ^ k:=DG (by decide) h3
 unfold tooFull at h
 rw[hf] at h
 simp at h
 omega
theorem yG {S:Addr}{o:Obj}{es:Array (Int×Value)}{ep:Nat}{t:SetTable}{kb:List (List Int×Addr)}{Q:Unit→As→Prop} (ho:s.heap.get? S=some o) (hex:o.ExactSet) (hd:o.data=.set es ep t) (he:es.toList=ents prog w kb)
  (T:TOk t (kb.map fun p=>hsh prog w p.1)) (hl:t.led=(!w.params.followText "set-order")) (hp:t.plain=true) (hkb:∀p∈kb,TK prog w s.heap p.1 p.2) (hnd:(kb.map (·.1)).Nodup) (h1:0 < kb.length) (hn:kb.length≤1000)
  (h:∀h' kb',Dw S s.heap h'→SP prog w h' S kb'→kb'.Perm kb→Q () {s with heap:=h' }):wpAny (model prog w) A (setRelay S (grown kb.length)) Q E s:=by
 have hsz:es.size=kb.length:=by rw[←AS,he];simp[ents]
 have hfit:t.fits es.size=true:=T.fits (by rw[Ar,hsz])
 have eat:∀i:Nat,es[i]?=(kb[i]?).map fun (p:List Int×Addr)=>(hsh prog w p.1,Bk p.2):=fun i=>by rw[←Bj,he,pU]
 have hg:grown kb.length=kb.length*4:=by unfold grown;rw[if_neg (by omega)]
 rw[hg]
 obtain ⟨k,k3,ek,lk,uk⟩:=above (kb.length*4) (by omega)
 have hmask:(sizeAbove (kb.length*4) - 1)+1=2 ^ k:=by omega
 obtain ⟨t',order,e,T',hord,em,el,ep',_⟩:=u6 k3 hmask (hs:=es.map (·.1)) (by rw[ID,hsz];omega) t.finger (t.movedTo (sizeAbove (kb.length*4) - 1)) t.led t.plain
 have hrel:t.relaid (es.map (·.1)) (kb.length*4)=some (t',order):=e
 have hord':order.toList.Perm (Bi kb.length):=by rw[ID,hsz] at hord;exact hord
 have hlt:∀i∈order.toList,i < kb.length:=fun i hi=>AQ.mp (hord'.mem_iff.mp hi)
 have hpk:=qz hord'
 have hes:(order.filterMap (fun i=>es[i]?)).toList=ents prog w (order.toList.filterMap fun i=>kb[i]?):=by
  rw[Array.toList_filterMap]
  unfold ents
  rw[List.map_filterMap]
  congr 1
  funext i
  rw[eat]
 have hes2:(order.filterMap (fun i=>es[i]?)).size=es.size:=by
  rw[←AS,hes,hsz]
  unfold ents
  rw[Ar,hpk.length_eq]
 unfold setRelay
 refine Ao (Cy ho hd hfit ?_)
 dsimp only
 rw[if_neg (by rw[ek,BC];omega),hrel]
 have goal:wpAny (model prog w) A (do
   if (order.filterMap (fun i=>es[i]?)).size !=es.size then unsupported "internal:set-table-lost-an-element"
   pure (order.filterMap (fun i=>es[i]?),t'):Sem (Array (Int×Value)×SetTable)) (fun r s'=>wpAny (model prog w) A (storeSet S r.1 r.2) Q E s') E s:=by
  rw[hes2]
  simp only[bne_self_eq_false,AR,if_false]
  refine Au ?_
  refine Hj ho hd ?_ (by rw[hes2,hsz,BC];omega)
  have hg':(s.heap.update S (El (order.filterMap (fun i=>es[i]?)) t')).get? S=some {o with data:=.set (order.filterMap (fun i=>es[i]?)) (ep+1) t' }:=by
   have:=BS (El (order.filterMap (fun i=>es[i]?)) t') ho (by rw[HX _ t' hd];rfl)
   rw[HX _ t' hd] at this;exact this
  have hsb:=CQ s.heap S (El (order.filterMap (fun i=>es[i]?)) t')
  refine h _ (order.toList.filterMap fun i=>kb[i]?) hsb ⟨⟨_,_,_,t',hg',hex,rfl,hes,?_,by rw[el];exact hl,by rw[ep'];exact hp,?_,?_⟩,fun p hp'=>?_,?_⟩ hpk
  ·have:=m5 (kb:=kb) (fun p=>hsh prog w p.1) 0 order.toList hlt
   rw[←this]
   have e2:(es.map (·.1))=((kb.map fun p=>hsh prog w p.1)).toArray:=by
    apply FK.mp
    rw[FL,he,uR]
   rw[e2] at T'
   exact T'
  ·have hf:t'.fill=t'.place.size:=by unfold fill;rw[T'.d];rfl
   have hn':=T'.n
   rw[Ar,hord'.length_eq,Ft] at hn'
   unfold tooFull
   rw[hf,hn',em]
   simp
   omega
  ·rw[em,hpk.length_eq];omega
  ·exact (hkb p (hpk.mem_iff.mp hp')).keep ho hd hsb
  ·exact ((hpk.map (·.1)).nodup_iff).mpr hnd
 exact Ao goal
end
section
variable {prog:AD}{w:World}{A:A5}{E:Value→As→Prop}{s:As}
theorem nN {S x:Addr}{kb:List (List Int×Addr)}{k:List Int}{Q:Bool→As→Prop} (hu:A.units < cLine) (P:SP prog w s.heap S kb) (hx:TK prog w s.heap k x) (hn:kb.length < 1000)
  (h:∀b h' kb',Dw S s.heap h'→SP prog w h' S kb'→(if k∈kb.map (·.1) then kb'=kb else kb'.Perm (kb++[(k,x)]))→Q b {s with heap:=h' }):
  wpAny (model prog w) A (setAddHashed S (.ref x) (hsh prog w k)) Q E s:=by
 obtain ⟨⟨o,es,ep,t,ho,hex,hd,he,T,hl,hp,hfull,hmask⟩,hkb,hnd⟩:=P
 have P0:SP prog w s.heap S kb:=⟨⟨o,es,ep,t,ho,hex,hd,he,T,hl,hp,hfull,hmask⟩,hkb,hnd⟩
 have hsz:es.size=kb.length:=by rw[←AS,he];simp[ents]
 have hfit:t.fits es.size=true:=T.fits (by rw[Ar,hsz])
 obtain ⟨N,hN,h0,h1⟩:=oB T (hsh prog w k)
 have hN':N < 100000:=by unfold turns at hN;omega
 unfold setAddHashed setAddHashedIn
 refine Bt (Ao (Cy ho hd hfit ?_))
 dsimp only
 rw[oo]
 simp only[AR,if_false]
 unfold setSearch
 refine Ao (mK hu ho hd he T hkb hx hN h0 h1 (fun hno=>?_) (fun hyes=>?_) 100000 0 none (Bh _) (by omega) rfl fun m i p hm=>by omega)
 ·dsimp only
  have hk:k ∉ kb.map (·.1):=fun z=>by obtain ⟨p,hp',e⟩:=Az.mp z;exact hno p hp' e
  refine Ao (Cy ho hd hfit ?_)
  dsimp only
  generalize hj:(pth t.mask (hsh prog w k) N).j=j at *
  have T1:=T.put (h:=hsh prog w k) (N:=N) (by rw[hj];exact h0) h1 (by have:=tM (mask:=t.mask) (hsh prog w k) N;omega) (uS T hfull)
  rw[hj] at T1
  have epl:(t.put j).1.plain=true:=hp
  have eled:(t.put j).1.led=(!w.params.followText "set-order"):=hl
  have emask:(t.put j).1.mask=t.mask:=rfl
  generalize (t.put j).1=t1 at *
  generalize (t.put j).2=q at *
  have hlen1:(gf kb q (k,x)).length=kb.length+1:=by rw[(eL kb q (k,x)).length_eq];simp
  have he1:(insertAt es q (hsh prog w k,Bk x)).toList=ents prog w (gf kb q (k,x)):=by
   rw[d9,he]
   unfold ents
   rw[nv]
   rfl
  have hsz1:(insertAt es q (hsh prog w k,Bk x)).size=kb.length+1:=by
   rw[←AS,he1];unfold ents;rw[Ar,hlen1]
  have T2:TOk t1 ((gf kb q (k,x)).map fun p=>hsh prog w p.1):=by rw[nv];exact T1
  rw[if_pos epl]
  refine Ao (yW hx ?_)
  rw[if_pos rfl]
  have hg1:(s.heap.update S (El (insertAt es q (hsh prog w k,Bk x)) t1)).get? S=some {o with data:=.set (insertAt es q (hsh prog w k,Bk x)) (ep+1) t1 }:=by
   have:=BS (El (insertAt es q (hsh prog w k,Bk x)) t1) ho (by rw[HX _ t1 hd];rfl)
   rw[HX _ t1 hd] at this;exact this
  have hsb:=CQ s.heap S (El (insertAt es q (hsh prog w k,Bk x)) t1)
  have hkb1:∀p∈gf kb q (k,x),TK prog w (s.heap.update S (El (insertAt es q (hsh prog w k,Bk x)) t1)) p.1 p.2:=fun p hp'=>by
   have:=(eL kb q (k,x)).mem_iff.mp hp'
   rcases B4.mp this with z |z
   ·exact (hkb p z).keep ho hd hsb
   ·rw[BA.mp z];exact hx.keep ho hd hsb
  have hnd1:((gf kb q (k,x)).map (·.1)).Nodup:=by
   rw[((eL kb q (k,x)).map (·.1)).nodup_iff,BB,Em]
   refine ⟨hnd,by simp,fun a ha b hb=>?_⟩
   simp at hb
   subst hb
   rintro rfl
   exact hk ha
  refine Ao (Hj ho hd ?_ (by rw[hsz1,BC];omega))
  rw[Fh,ER]
  by_cases hft:t1.tooFull=true
  ·rw[if_pos hft,hsz,←hlen1]
   refine Ao (yG (s:={s with heap:=s.heap.update S (El (insertAt es q (hsh prog w k,Bk x)) t1) }) hg1 hex rfl he1 T2 eled epl hkb1 hnd1 (by omega) (by omega) fun h' kb' hsb' P' pm=>Au ?_)
   exact h true h' kb' (hsb.trans hsb') P' (by rw[if_neg hk];exact pm.trans (eL kb q (k,x)))
  ·rw[if_neg hft]
   refine Au (h true _ (gf kb q (k,x)) hsb ⟨⟨_,_,_,t1,hg1,hex,rfl,he1,T2,eled,epl,by simpa using hft,by rw[emask,hlen1];omega⟩,hkb1,hnd1⟩ (by rw[if_neg hk];exact eL kb q (k,x)))
 ·dsimp only
  refine Au ?_
  have hk:k∈kb.map (·.1):=by obtain ⟨p,hp',e⟩:=hyes;exact Az.mpr ⟨p,hp',e⟩
  exact h false s.heap kb (Hh S s.heap) P0 (by rw[if_pos hk])
end
section
variable {prog:AD}{w:World}{A:A5}
theorem TK.moved {s s':As}{wr:List Addr}{G:Array DC→Array DC→Prop}{k:List Int}{b:Addr} (x:TK prog w s.heap k b) (hb:b ∉ wr) (m:Moved wr G s s'):TK prog w s'.heap k b:=by
 obtain ⟨o,its,n,ho,hc,hd,hi⟩:=x
 exact ⟨o,its,n,m.heap b o hb ho,hc,hd,hi⟩
theorem SP.moved {s s':As}{wr:List Addr}{G:Array DC→Array DC→Prop}{S:Addr}{kb:List (List Int×Addr)} (x:SP prog w s.heap S kb) (hS:S ∉ wr) (hb:∀p∈kb,p.2 ∉ wr) (m:Moved wr G s s'):SP prog w s'.heap S kb:=by
 obtain ⟨⟨o,es,ep,t,ho,r⟩,hk,hn⟩:=x
 exact ⟨⟨o,es,ep,t,m.heap S o hS ho,r⟩,fun p hp=>(hk p hp).moved (hb p hp) m,hn⟩
structure Got (kx:Nat→List Int×Addr) (i:Nat) (kb:List (List Int×Addr)):Prop where
 src:∀p∈kb,∃j,j < i∧p=kx j
 all:∀j,j < i→(kx j).1∈kb.map (·.1)
 len:kb.length≤i
variable {R:GV→As→Prop}{I:Addr}{fp wr:List Addr}{G:Array DC→Array DC→Prop}{n:Nat}{P:Nat→Value→Prop}{St:Nat→As→Prop}
theorem tH (W:WalksS prog w A.in1 I fp wr G n P St) (hu:A.in1.units < cLine) {S:Addr} (hSf:S ∉ fp) (kx:Nat→List Int×Addr) (hP:∀i v,P i v→v=.ref (kx i).2) (hwr:∀i,i < n→(kx i).2 ∉ wr) (hn:n≤1000):
  ∀(k i:Nat) (s:As) (kb:List (List Int×Addr)),n - i=k→i≤n→St i s→SP prog w s.heap S kb→Got kx i kb→(∀j,j < n→TK prog w s.heap (kx j).1 (kx j).2)→
   (∀s' kb',Moved (S::wr) G s s'→SP prog w s'.heap S kb'→Got kx n kb'→R (.ok (.ret .none)) s')→
   EY (model prog w) A (.builtin "set.update.loop" ⟨[.ref S,.ref I],[]⟩) R s:=by
 have hSw:S ∉ wr:=fun h=>hSf (W.sub _ h)
 have more:∀b∈wr,b∈S::wr:=fun b hb=>Aw _ hb
 intro k
 induction k with
 |zero=>
  intro i s kb hk hi st hS g tk hR
  obtain rfl:i=n:=by omega
  refine CC PyProof.Rows.F.entry_set_update_loop ?_
  rw[BZ PyProof.Rows.F.plain_set_update_loop _]
  show wpAny _ A.in1 (EW (.ref I) >>=_) _ _ s
  refine Ao (W.done s _ _ st fun s' m=>?_)
  exact Au (hR s' kb (m.mono more) (hS.moved hSw (fun p hp=>by obtain ⟨j,hj,rfl⟩:=g.src p hp;exact hwr j hj) m) g)
 |succ k ih=>
  intro i s kb hk hi st hS g tk hR
  have hlt:i < n:=by omega
  have hkb:∀p∈kb,p.2 ∉ wr:=fun p hp=>by obtain ⟨j,hj,rfl⟩:=g.src p hp;exact hwr j (by omega)
  refine CC PyProof.Rows.F.entry_set_update_loop ?_
  rw[BZ PyProof.Rows.F.plain_set_update_loop _]
  show wpAny _ A.in1 (EW (.ref I) >>=_) _ _ s
  refine Ao (W.item i s _ _ hlt st fun v s1 pv st1 m=>?_)
  obtain rfl:=hP i v pv
  have hS1:=hS.moved hSw hkb m
  have tk1:∀j,j < n→TK prog w s1.heap (kx j).1 (kx j).2:=fun j hj=>(tk j hj).moved (hwr j hj) m
  show wpAny _ A.in1 (holding [Bk (kx i).2] (setAdd S (.ref (kx i).2)) >>=_) _ _ s1
  refine Ao (Bt ?_)
  unfold setAdd
  refine Bt (Ao (wpAny_pyHash_tuple hu (tk1 i hlt) ?_))
  refine nN (s:={s1 with toks:=s1.toks+((kx i).1.length+1) }) hu hS1 (tk1 i hlt) (by have:=g.len;omega) fun b h' kb' sb hS2 hkk=>?_
  obtain ⟨⟨o,es,ep,t,ho,hex,hd,hrest⟩,hks,hnd⟩:=hS1
  have same:∀b o,b ∉ S::wr→s1.heap.get? b=some o→h'.get? b=some o:=fun b o hb e=>by rw[sb.2 b (fun z=>hb (by rw[z];exact AF))];exact e
  refine Au ⟨CJ PyProof.Rows.F.plain_set_update_loop _,ih (i+1) _ kb' (by omega) hlt (W.frame _ s1 _ _ st1 (by show s1.toks≤s1.toks+_;omega) fun b hb o e=>?_) hS2 ?_ (fun j hj=>(tk1 j hj).keep ho hd sb) fun s2 kb2 m2 hS3 g2=>?_⟩
  ·rw[sb.2 b (fun z=>hSf (by rw[←z];exact hb))];exact e
  ·by_cases hin:(kx i).1∈kb.map (·.1)
   ·rw[if_pos hin] at hkk
    subst hkk
    refine ⟨fun p hp=>?_,fun j hj=>?_,by have:=g.len;omega⟩
    ·obtain ⟨j,hj,e⟩:=g.src p hp;exact ⟨j,by omega,e⟩
    ·rcases A6 (Cc hj) with z |z
     ·exact g.all j z
     ·rw[z];exact hin
   ·rw[if_neg hin] at hkk
    refine ⟨fun p hp=>?_,fun j hj=>?_,by rw[hkk.length_eq];have:=g.len;simp;omega⟩
    ·rcases B4.mp (hkk.mem_iff.mp hp) with z |z
     ·obtain ⟨j,hj,e⟩:=g.src p z;exact ⟨j,by omega,e⟩
     ·exact ⟨i,Do i,by rw[BA.mp z]⟩
    ·rw[(hkk.map (·.1)).mem_iff,BB]
     rcases A6 (Cc hj) with z |z
     ·exact Bu _ (g.all j z)
     ·rw[z];exact AH _ (by simp)
  ·exact hR s2 kb2 (Moved.trans W.gtrans ((m.mono more).then_heap (by show s1.toks≤s1.toks+_;omega) same) m2) hS3 g2
end
section
variable {prog:AD}{w:World}{A:A5}{E:Value→As→Prop}{s:As}
abbrev ci (w:World):Obj:={cls:=.type "set",dict:=none,data:=.set #[] 0 (.fresh 0 0 (!w.params.followText "set-order")) }
theorem tE:TOk (.fresh 0 0 (!w.params.followText "set-order")) [] where
 R:=by intro i j x y _ h;simp[SetTable.fresh] at h
 d:=rfl
 k:=⟨3,by decide,rfl⟩
 n:=rfl
 f:=by show 0≤7;decide
 le:=by intro i x h;simp[SetTable.fresh] at h
 reach:=by intro i x h hi;simp[SetTable.fresh] at hi
theorem rP {h:Heap}{S:Addr} (e:h.get? S=some (ci w)):SP prog w h S []:=by
 refine ⟨⟨_,_,_,_,e,⟨rfl,rfl,rfl⟩,rfl,rfl,tE,rfl,rfl,by simp[SetTable.tooFull,SetTable.fresh,SetTable.fill],by show 7 < 8;decide⟩,fun p hp=>by simp at hp,by simp⟩
theorem vL (a:Value) {Q:Value→As→Prop} (h:Q (.ref s.heap.objs.size) {s with heap:=s.heap.push (ci w) }):
  EY (model prog w) A (.call (.builtin "set.__new__") ⟨[.type "set",a],[]⟩) (wants Q E) s:=by
 refine HY ?_
 show wpAny _ A.in1 (do HF "set.__new__" ⟨[.type "set",a],[]⟩;again (.builtin "set.__new__" ⟨[.type "set",a],[]⟩)) _ _ s
 refine Ao (HZ (PySem.F.newCall_set_1 a) (Au ⟨CJ Ge _,CC PySem.F.entry_set_new ?_⟩))
 rw[BZ Ge _]
 unfold Builtin.«set.__new__» Builtin.Frozenset.newClass
 have hsub:=sub_set_self
 obtain ⟨hp,g,d,tk,os⟩:=s
 dsimp only
 wp_walk
 refine DS (Au ?_)
 dsimp only
 simp only[newObj]
 exact Ao (wpAny_alloc (Au (Au h)))
end
section
variable {prog:AD}{w:World}{A:A5}{E:Value→As→Prop}{s:As}
set_option maxRecDepth 100000 in
theorem call_set_pts {l:Addr}{items:Array Value}{Q:Value→As→Prop} (kx:Nat→List Int×Addr) (hh:A.handled=none) (hu:A.in1.in1.in1.units < cLine) (hl:s.heap.IsList l items)
  (hit:∀(i:Nat) (v:Value),items[i]?=some v→v=.ref (kx i).2) (htk:∀i,i < items.size→TK prog w s.heap (kx i).1 (kx i).2) (hn:items.size≤1000)
  (h:∀(h':Heap) (tk:Nat) (kb:List (List Int×Addr)),SP prog w h' s.heap.objs.size kb→Got kx items.size kb→(∀b o,s.heap.get? b=some o→h'.get? b=some o)→Q (.ref s.heap.objs.size) {s with heap:=h',toks:=tk }):
  wpAny (model prog w) A (call (.type "set") [.ref l]) Q E s:=by
 obtain ⟨cc,tl,hmro⟩:=Ci.mro
 have hmade:=Ci.made
 have hsub:=Ci.sub
 refine I_ (HY ?_)
 show wpAny _ _ (callAny (.type "set") _) _ _ _
 refine Au ⟨Code.quiet_builtin _ (by decide+kernel),CC PySem.F.entry_type_call ?_⟩
 rw[Around.under_plain (weight_type_call_type "set" [.ref l] []) rfl]
 have g1:=Ci.notType
 have g2:=Ci.canCreate
 have g3:=PySem.F.typeCall_set_1 (.ref l)
 repeat (any_goals (first |assumption |wp_step))
 refine Ey (vL (w:=w) (.ref l) (E:=E) (Q:=fun obj s₁=>obj=.ref s.heap.objs.size∧s₁={s with heap:=s.heap.push (ci w) }) ⟨rfl,rfl⟩) fun r s₁ hr=>?_
 cases r with
 |error e=>exact hr
 |ok fl=>
  cases fl with
  |ret obj=>
   obtain ⟨rfl,rfl⟩:=hr
   have hS:(s.heap.push (ci w)).get? s.heap.objs.size=some (ci w):=AE _ rfl
   have hT:Jk {s with heap:=s.heap.push (ci w) } (.ref s.heap.objs.size) "set":=⟨_,hS,rfl⟩
   have hli:=Ci.init.lookup
   have hbi:=Ci.init.bind (.ref s.heap.objs.size)
   repeat (any_goals (first |assumption |wp_step))
   refine Ey (codeAny_call_builtin (R:=wants (fun r s₂=>r=.none∧∃h' tk kb,s₂={s with heap:=h',toks:=tk }∧
     SP prog w h' s.heap.objs.size kb∧Got kx items.size kb∧(∀b o,s.heap.get? b=some o→h'.get? b=some o)) E) Ci.init.plain PySem.F.entry_set_init (check_set_init_1 hT ?_)) fun r₂ s₂ hr₂=>?_
   ·obtain ⟨ol,hol,hcl,nl,hdl⟩:=hl
    obtain ⟨ocls,odict,odata,oslots⟩:=ol
    simp only at hcl hdl
    subst hcl;subst hdl
    have hol':(s.heap.push (ci w)).get? l=some {cls:=.type "list",dict:=odict,data:=.seq items nl,slots:=oslots }:=Aq _ hol
    have k1:=PySem.F.sub_list_set
    have k2:=PySem.F.sub_list_frozenset
    have k3:(BY "list"==BY "dict")=false:=by decide
    have hl1:(s.heap.push (ci w)).IsList l items:=⟨_,hol',rfl,nl,rfl⟩
    unfold Builtin.«set.__init__» noKeywords Builtin.Frozenset.updateFrom
    generalize hPI:Jr=PI
    wp_walk
    subst hPI
    refine Ct hl1 (Ao (wpAny_runValue ?_))
    have hlS:l < s.heap.objs.size:=AC hol
    have h3:A.in1.in1.in1.handled=none:=by simp[hh]
    have szI:(s.heap.push (ci w)).objs.size=s.heap.objs.size+1:=BE ..
    have hneI:l≠(s.heap.push (ci w)).objs.size:=by rw[szI];exact A4 (Cu hlS)
    have hSf:s.heap.objs.size ∉ [(s.heap.push (ci w)).objs.size,l]:=by
     rw[szI]
     intro z
     rcases AB.mp z with z |z
     ·exact absurd z (A4 (Do _))
     ·exact absurd (BA.mp z) (CA hlS)
    refine tH ((Walks.list h3 _ l hneI items).toS) hu hSf kx hit (fun i hi=>?_) hn (items.size - 0) 0 _ [] (by omega) (Bh _)
     ⟨⟨_,AE _ rfl,rfl,rfl⟩,(hl1.push _)⟩ ?_ ⟨fun p hp=>by simp at hp,fun j hj=>by omega,by simp⟩ (fun j hj=>?_) fun s' kb m hS' g=>?_
    ·intro z
     have z':=BA.mp z
     obtain ⟨o,_,_,ho,_⟩:=htk i hi
     have:=AC ho
     rw[z',szI] at this
     exact Bs _ (Ga (Do _) this)
    ·exact rP (Aq _ hS)
    ·obtain ⟨o,its,k,ho,r⟩:=htk j hj
     exact ⟨o,its,k,Aq _ (Aq _ ho),r⟩
    ·obtain ⟨h',g',d',tk',os'⟩:=s'
     obtain rfl:g'=s.gens:=m.gens
     obtain rfl:d'=s.drawn:=m.drawn
     obtain rfl:os'=s.os:=m.os
     refine Au ?_
     show wpAny _ _ (ret AY) _ _ _
     refine Au ⟨rfl,h',tk',kb,rfl,hS',g,fun b o e=>?_⟩
     have hb:=AC e
     refine m.heap b o (fun z=>?_) (Aq _ (Aq _ e))
     rcases AB.mp z with z |z
     ·exact absurd z (A4 hb)
     ·have z':=BA.mp z
      rw[z',szI] at hb
      exact Bs _ (Ga (Do _) hb)
   ·cases r₂ with
    |error e=>exact hr₂
    |ok fl₂=>
     cases fl₂ with
     |ret r=>
      obtain ⟨rfl,h',tk,kb,rfl,hS',g,hk'⟩:=hr₂
      repeat (any_goals (first |assumption |wp_step))
      exact h _ _ kb hS' g hk'
     |_=>exact hr₂.elim
  |_=>exact hr.elim
end
theorem dy:Slot "set_iterator" "__next__" "set_iterator.__next__":=
 .of (owner:="set_iterator") (n:="__next__") (by rw[E1,DA];kernel_rfl) (by decide+kernel) (by decide+kernel) (by decide+kernel) (by first |exact .inl (by decide+kernel) |exact .inr (by decide+kernel)) (by rw[DM];kernel_rfl)
theorem jy:entryFor table "set_iterator.__next__"=some Builtin.«set_iterator.__next__»:=entryFor_of_tree (by kernel_rfl)
theorem ke (a:Value):Jv "set_iterator.__next__" ⟨[a],[]⟩:=by unfold Jv;kernel_rfl
theorem ou:entryFor table "set.__iter__"=some Builtin.«frozenset.__iter__»:=IE (id':="frozenset.__iter__") (by kernel_rfl) rfl (by decide+kernel) (by kernel_rfl)
theorem nV {α:Type}{l:List α}{i:Nat} (h:i < l.length):(l[i]::l.eraseIdx i).Perm l:=by
 rw[List.eraseIdx_eq_take_drop_succ]
 refine HE.symm.trans ?_
 rw[←Fg h,Gd]
theorem oU {α:Type} (next:Nat→Nat):∀(fuel k:Nat) (left:List α) (out:Array α),left.length=fuel→(pickOrder.go next fuel k left out).toList.Perm (out.toList++left)
 |0,k,left,out,h=>by
  obtain rfl:left=[]:=Cf.mp h
  rw[pickOrder.go,Dy]
 |fuel+1,k,left,out,h=>by
  have hi:next k % left.length < left.length:=Cm _ (by omega)
  rw[pickOrder.go,An hi]
  refine (oU next fuel (k+1) _ _ (by rw[List.length_eraseIdx_of_lt hi];omega)).trans ?_
  rw[Array.toList_push,Ek]
  refine List.Perm.append_left _ ?_
  rw[List.singleton_append]
  exact nV hi
theorem uu {α:Type} (next:Nat→Nat) (xs:Array α):(G7 next xs).toList.Perm xs.toList:=by
 unfold G7
 have:=oU next xs.size 0 xs.toList #[] (by simp)
 simpa using this
section
variable {prog:AD}{w:World}{A:A5}{E:Value→As→Prop}{s:As}
def cw (w:World) (S:Addr) (es:Array (Int×Value)) (ep:Nat):List Value:=(if w.params.followText "set-order"=true then G7 (w.params.setOrder S ep) es else es).toList.map (·.2)
theorem eB (w:World) (S:Addr) (es:Array (Int×Value)) (ep:Nat):(cw w S es ep).Perm (es.toList.map (·.2)):=by
 unfold cw
 refine List.Perm.map _ ?_
 split
 ·exact uu _ es
 ·exact GG _
def fC (t:SetTable):Nat→Nat
 |0=>0
 |j+1=>t.place.getD j 0+1
def aX (w:World) (t:SetTable) (i:Nat):Nat:=if w.params.followText "set-order"=true then 0 else fC t i
def oK (w:World) (h:Heap) (it S:Addr) (t:SetTable) (i n ep:Nat):Prop:=∃o,h.get? it=some o∧o.cls=.type "set_iterator"∧o.data=.fields #[Dt (aX w t i),Dt i,.ref S,Dt n,Dt ep]
theorem oK.ty {it S:Addr}{t:SetTable}{i n ep:Nat} (x:oK w s.heap it S t i n ep):s.TypeIs (.ref it) "set_iterator":=let ⟨o,ho,hc,_⟩:=x;⟨o,ho,hc⟩
structure SO (prog:AD) (w:World) (o:Obj) (es:Array (Int×Value)) (ep:Nat) (t:SetTable) (hs:List Int):Prop where
 ex:o.ExactSet
 d:o.data=.set es ep t
 T:TOk t hs
 n:hs.length=es.size
 led:t.led=(!w.params.followText "set-order")
 plain:t.plain=true
theorem sj {S:Addr}{o:Obj}{es ep t hs}{Q:Bool→As→Prop} (O:SO prog w o es ep t hs) (ho:s.heap.get? S=some o) (h:Q false s):wpAny (model prog w) A (setDrawn S) Q E s:=by
 unfold setDrawn Jc
 refine Ao (Cy ho O.d (O.T.fits O.n) (Ao (Ao (DS (Au (Au ?_))))))
 have q:Q (!w.params.followText "set-order" && (!t.plain && decide (es.size >1))) s:=by rw[O.plain];simpa using h
 exact q
theorem tW {S:Addr}{o:Obj}{es ep t hs}{Q:Value→As→Prop} (O:SO prog w o es ep t hs) (ho:s.heap.get? S=some o)
  (hQ:Q (.ref s.heap.objs.size) {s with heap:=s.heap.push {cls:=.type "set_iterator",data:=.fields #[Dt 0,Dt 0,.ref S,Dt es.size,Dt ep] } }):wpAny (model prog w) A (Jr (.ref S)) Q E s:=by
 have hT:s.TypeIs (.ref S) "set":=⟨o,ho,O.ex.1⟩
 refine Hk hT Gf (B9 Gf hT ou ?_ (PySem.F.args_set_iter_1 _))
 unfold Builtin.«frozenset.__iter__»
 show wpAny _ _ (Builtin.Frozenset.sizeOf S >>=_) _ _ s
 unfold Builtin.Frozenset.sizeOf
 refine Ao (Ao (E2 ho O.d (O.T.fits O.n) (Au ?_)))
 refine Ao (sj O ho ?_)
 simp only[AR,if_false]
 refine Ao (Au ?_)
 refine Ao (wpAny_setEpoch_of ho O.d (O.T.fits O.n) ?_)
 refine Ao (DE (Au ⟨_,rfl,"set_iterator",_,⟨_,AE _ rfl,rfl⟩,dy.lookup,?_⟩))
 exact hQ
theorem n6 {t:SetTable}{hs:List Int} (T:TOk t hs) {i:Nat} (hi:i≤t.place.size):below t.place (fC t i)=i:=by
 obtain ⟨h1,h2,h3⟩:=e9 T.R (fC t i)
 cases i with
 |zero=>
  dsimp only[fC] at *
  rcases E_ (below t.place 0) with z |z
  ·exact z
  ·have:=h1 0 _ z (dU (by omega));omega
 |succ j=>
  dsimp only[fC] at *
  have hj:j < t.place.size:=by omega
  have ej:t.place.getD j 0=t.place[j]:=by simp[Cw,hj]
  rw[ej] at h1 h2 h3 ⊢
  generalize hb:below t.place (t.place[j]+1)=b at *
  rcases Cv b (j+1) with z |z |z
  ·have:=h2 j t.place[j] (by omega) (dU hj);omega
  ·exact z
  ·have q:=h1 (j+1) _ z (dU (by omega))
   have:=T.R j (j+1) _ _ (by omega) (dU hj) (dU (show j+1 < t.place.size by omega))
   omega
theorem i_ {S:Addr}{o:Obj}{es ep t hs}{i:Nat}{Q:Option (Value×Nat)→As→Prop} (O:SO prog w o es ep t hs) (ho:s.heap.get? S=some o) (hi:i≤es.size)
  (h:Q (((cw w S es ep)[i]?).map fun v=>(v,aX w t (i+1))) s):wpAny (model prog w) A (setNext S (aX w t i) i ep) Q E s:=by
 have hfit:=O.T.fits O.n
 have hpl:t.place.size=es.size:=by rw[O.T.n,O.n]
 unfold setNext Jc
 refine Ao (Cy ho O.d hfit (Ao (Ao (DS (Au ?_)))))
 by_cases bt:w.params.followText "set-order"=true
 ·dsimp only
  rw[show (model prog w).w.params.followText "set-order"=true from bt,if_pos rfl,if_neg (by simp)]
  unfold setWalk Jc
  refine Ao (Ao (Cy ho O.d hfit (Ao (Ao (DS (Au ?_))))))
  dsimp only
  rw[show (model prog w).w.params.followText "set-order"=true from bt,if_pos rfl]
  refine Ao (DS (Au (Au ?_)))
  have e:Hl (fun (e:Int×Value)=>(e.2,aX w t i)) (G7 (w.params.setOrder S ep) es)[i]?=((cw w S es ep)[i]?).map fun v=>(v,aX w t (i+1)):=by
   unfold cw aX
   rw[if_pos bt,if_pos bt,if_pos bt,Av,Bj,Option.map_map]
   rfl
  have q:Q (Hl (fun (e:Int×Value)=>(e.2,aX w t i)) (G7 (w.params.setOrder S ep) es)[i]?) s:=by rw[e];exact h
  exact q
 ·have bf:w.params.followText "set-order"=false:=by simpa using bt
  dsimp only
  rw[show (model prog w).w.params.followText "set-order"=false from bf,if_neg (by simp)]
  have e1:aX w t i=fC t i:=by unfold aX;rw[if_neg bt]
  have e2:below t.place (aX w t i)=i:=by rw[e1];exact n6 O.T (by omega)
  have e3:(match es[below t.place (aX w t i)]?,t.place[below t.place (aX w t i)]? with
    |some (_,x),some j=>some (x,j+1)
    |_,_=>none)=((cw w S es ep)[i]?).map fun v=>(v,aX w t (i+1)):=by
   rw[e2]
   unfold cw aX
   rw[if_neg bt,if_neg bt,Av,Bj]
   rcases CB i es.size with z |z
   ·have z':i < t.place.size:=by omega
    simp[z,z',Cw,fC]
   ·have z':t.place.size≤i:=by omega
    simp[z,z']
  split
  ·rename_i hc
   exact absurd (show (!t.plain && decide (es.size >1))=true from hc) (by rw[O.plain];simp)
  ·refine Ao ?_
   show wpAny _ _ (if (!t.led && !es.isEmpty)=true then unsupported "set:maker-not-led" else pure ()) _ _ _
   rw[O.led,bf,if_neg (by simp)]
   refine Au (Au ?_)
   have q:Q (match es[below t.place (aX w t i)]?,t.place[below t.place (aX w t i)]? with
    |some (_,x),some j=>some (x,j+1)
    |_,_=>none) s:=by rw[e3];exact h
   exact q
theorem qW {S it:Addr}{o:Obj}{es ep t hs}{i:Nat}{v:Value}{Q:Option Value→As→Prop} (O:SO prog w o es ep t hs) (ho:s.heap.get? S=some o) (hit:oK w s.heap it S t i es.size ep) (hv:(cw w S es ep)[i]?=some v)
  (hQ:∀h',oK w h' it S t (i+1) es.size ep→Dw it s.heap h'→Q (some v) {s with heap:=h' }):wpAny (model prog w) A (EW (.ref it)) Q E s:=by
 obtain ⟨oi,hoi,hc,hd⟩:=id hit
 have hfit:=O.T.fits O.n
 unfold EW
 refine Ao (FD (Dj (name:=Str.ofString "__next__") hit.ty dy (B9 dy hit.ty jy ?_ (ke _))))
 unfold Builtin.«set_iterator.__next__»
 refine Ao (m:=slotArgs "__next__" 0 _) (Au ?_)
 dsimp only
 refine Ao (IF hoi hd ?_)
 dsimp only[Dt]
 refine Ao (E2 ho O.d hfit ?_)
 rw[if_neg (by simp)]
 have hlt:i < es.size:=by
  have q:=(AG.mp hv).1
  rw[(eB w S es ep).length_eq,Ar,AS] at q
  exact q
 rw[show ((aX w t i:Nat):Int).toNat=aX w t i from Dd _,show ((i:Nat):Int).toNat=i from Dd _,show ((ep:Nat):Int).toNat=ep from Dd _]
 refine Ao (i_ O ho (By hlt) ?_)
 rw[hv]
 dsimp only[Hl]
 refine Ao (GH hoi hd (by simp) ?_)
 have g1:=BS (Obj.mapFields (·.setIfInBounds 0 (Be ((aX w t (i+1):Nat):Int) 0))) hoi (Gg (C5 hd _))
 refine Ao (GH g1 (C5 hd _) (by simp) ?_)
 refine Au ⟨_,rfl,Au (hQ _ ?_ ((CQ ..).trans (CQ ..)))⟩
 refine ⟨_,BS _ g1 (Gg (C5 (C5 hd _) _)),(Hm ..).trans ((Hm ..).trans hc),?_⟩
 rw[C5 (C5 hd _)]
 simp[Dt]
theorem sL {S it:Addr}{o:Obj}{es ep t hs}{Q:Option Value→As→Prop} (hh:A.handled=none) (O:SO prog w o es ep t hs) (ho:s.heap.get? S=some o) (hit:oK w s.heap it S t es.size es.size ep)
  (hQ:∀h',JD it s.heap h'→Q none {s with heap:=h' }):wpAny (model prog w) A (EW (.ref it)) Q E s:=by
 obtain ⟨oi,hoi,hc,hd⟩:=id hit
 have hfit:=O.T.fits O.n
 unfold EW
 refine Ao (FD (Dj (name:=Str.ofString "__next__") hit.ty dy (B9 dy hit.ty jy ?_ (ke _))))
 unfold Builtin.«set_iterator.__next__»
 refine Ao (m:=slotArgs "__next__" 0 _) (Au ?_)
 dsimp only
 refine Ao (IF hoi hd ?_)
 dsimp only[Dt]
 refine Ao (E2 ho O.d hfit ?_)
 rw[if_neg (by simp)]
 rw[show ((aX w t es.size:Nat):Int).toNat=aX w t es.size from Dd _,show ((es.size:Nat):Int).toNat=es.size from Dd _,show ((ep:Nat):Int).toNat=ep from Dd _]
 refine Ao (i_ O ho (Ay _) ?_)
 rw[show (cw w S es ep)[es.size]?=none from AZ (by rw[(eB w S es ep).length_eq,Ar,AS];exact Ay _)]
 dsimp only[Hl]
 refine Ao (GH hoi hd (by simp) ?_)
 refine Ao ?_
 simp only[newExc,newTuple]
 refine Ao (DE ?_ (by size_fits))
 refine Ao (m:=IG _ _) (HZ (a:=AY) (by first |rfl | (simp only[IG];rfl)) ?_)
 refine DE ?_ (by size_fits)
 simp only[raiseNew]
 refine Ao (wpAny_handled ?_)
 rw[show A.in1.handled=none from hh]
 refine Ao (Au (wpAny_throw ?_))
 refine Ao (Dp (T:="StopIteration") (b:=true) ⟨_,AE _ rfl,rfl⟩ IH ?_)
 exact Au (hQ _ (((CQ ..).extBut.push _).push _))
end
end ST
namespace ST
open PySem PySem.SetTable PySem.W
theorem kA:Slot "set_iterator" "__iter__" "set_iterator.__iter__":=
 .of (owner:="set_iterator") (n:="__iter__") (by rw[E1,DA];kernel_rfl) (by decide+kernel) (by decide+kernel) (by decide+kernel) (by first |exact .inl (by decide+kernel) |exact .inr (by decide+kernel)) (by rw[DM];kernel_rfl)
theorem n4:entryFor table "set_iterator.__iter__"=some Builtin.«dict_keyiterator.__iter__»:=IE (id':="dict_keyiterator.__iter__") (by kernel_rfl) rfl (by decide+kernel) (by kernel_rfl)
theorem ri (a:Value):Jv "set_iterator.__iter__" ⟨[a],[]⟩:=by unfold Jv;kernel_rfl
section
variable {prog:AD}{w:World}{A:A5}{E:Value→As→Prop}{s:As}
theorem vz {it S:Addr}{t:SetTable}{i n ep:Nat}{Q:Value→As→Prop} (hit:oK w s.heap it S t i n ep) (h:Q (.ref it) s):wpAny (model prog w) A (Jr (.ref it)) Q E s:=by
 refine Hk hit.ty kA (B9 kA hit.ty n4 ?_ (ri _))
 exact Au ⟨_,rfl,"set_iterator",_,hit.ty,dy.lookup,h⟩
theorem qI (hh:A.handled=none) {it S:Addr} (hne:S≠it) {o:Obj}{es ep t hs} (O:SO prog w o es ep t hs):
  Walks prog w A it [it,S] [it] es.size (fun i v=>(cw w S es ep)[i]?=some v) (fun i h=>oK w h it S t i es.size ep∧h.get? S=some o) where
 sub:=fun b hb=>by simp at hb;simp[hb]
 frame:=fun _ _ _ st hk=>⟨let ⟨x,hx,r⟩:=st.1;⟨x,hk it (by simp) x hx,r⟩,hk S (by simp) o st.2⟩
 item:=fun i s Q E hi st hQ=>by
  obtain ⟨v,hv⟩:∃v,(cw w S es ep)[i]?=some v:=⟨_,An (by rw[(eB w S es ep).length_eq,Ar,AS];exact hi)⟩
  refine qW O st.2 st.1 hv fun h' hit' sb=>?_
  exact hQ v h' s.toks hv ⟨hit',(sb.2 S hne).trans st.2⟩ fun b x hb e=>sb.extBut b x (fun z=>hb (by simp[z])) e
 done:=fun s Q E st hQ=>sL hh O st.2 st.1 fun h' xb=>hQ h' s.toks fun b x hb e=>xb b x (fun z=>hb (by simp[z])) e
 self:=fun _ _ _ _ st hQ=>vz st.1 hQ
theorem rH {r:Addr}{Q:Bool→As→Prop} (hT:s.TypeIs (.ref r) "set") (h:Q false s):wpAny (model prog w) A (Builtin.List.listLengthHint (.ref r)) Q E s:=by
 unfold Builtin.List.listLengthHint
 refine Ao (D6 hT PySem.F.slot_set_len.lookup ?_)
 generalize hid:("set.__len__":String)=id0
 wp_delta
 rw[show splitId id0=some ("set","__len__") from by subst hid;decide+kernel]
 subst hid
 refine Ao (Dp (T:="set") (b:=true) hT (by rw[DM];kernel_rfl) ?_)
 refine De (fun z=>absurd z (by decide)) (fun _=>?_)
 refine De (fun _=>?_) (fun z=>absurd (by decide+kernel) z)
 exact Ao (Hs hT (Au h))
theorem vY {S:Addr}{o:Obj}{es ep t hs} (O:SO prog w o es ep t hs):KdlSrc prog w "set" S S es.size (fun i v=>(cw w S es ep)[i]?=some v) (fun h=>h.get? S=some o) where
 type:=fun _ hm=>⟨o,hm,O.ex.1⟩
 there:=fun _ hm=>⟨AC hm,AC hm⟩
 keep:=fun _ _ hm hk=>hk S (.inl rfl) o hm
 notList:=by decide
 notTuple:=by decide
 hint:=fun _ _ _ _ hm hq=>rH ⟨o,hm,O.ex.1⟩ hq
 iter:=fun _ s hh hm=>⟨_,_,(fun _ _ hq=>tW O hm hq),qI hh (A4 (AC hm)) O,⟨⟨_,AE _ rfl,rfl,by simp[aX,fC]⟩,Aq _ hm⟩⟩
end
end ST
namespace ST
open PySem PySem.W PyProof.Rows
inductive fJ (lt:Nat→Nat→Bool) (n:Nat) {α:Type}:KasT α→α→Prop
 |ret (a:α):fJ lt n (.ret a) a
 |ask {i j:Nat}{k:Bool→KasT α}{a:α}:i < n→j < n→fJ lt n (k (lt i j)) a→fJ lt n (.ask i j k) a
variable {lt:Nat→Nat→Bool}{n:Nat}
theorem fJ.bind {α β:Type}{t:KasT α}{a:α}{f:α→KasT β}{b:β} (h:fJ lt n t a) (h':fJ lt n (f a) b):fJ lt n (t.bind f) b:=by
 induction h with
 |ret a=>exact h'
 |ask hi hj _ ih=>exact fJ.ask hi hj (ih h')
theorem fJ.wp {α:Type}{t:KasT α}{a:α} (h:fJ lt n t a) {cmp:Nat→Nat→(Bool→As→Prop)→As→Prop}{s:As} (hc:∀i j C,i < n→j < n→C (lt i j) s→cmp i j C s) {Q:α→As→Prop} (q:Q a s):t.kasWp cmp Q s:=by
 induction h with
 |ret a=>exact q
 |ask hi hj _ ih=>exact hc _ _ _ hi hj (ih q)
structure LtO (n:Nat) (lt:Nat→Nat→Bool):Prop where
 tr:∀i j k,lt i j=true→lt j k=true→lt i k=true
 tot:∀i j,i < n→j < n→i≠j→lt i j=false→lt j i=true
 asy:∀i j,lt i j=true→lt j i=false
abbrev g (p:Array Nat) (k:Nat):Nat:=p.getD k 0
theorem vO {p q:Array Nat}{k l:Nat} (h:p[k]?=q[l]?):g p k=g q l:=by
 unfold g
 rw[Br,Br,h]
structure PP (n:Nat) (p:Array Nat):Prop where
 perm:p.toList.Perm (Bi n)
theorem PP.size {p:Array Nat} (h:PP n p):p.size=n:=by rw[←AS,h.perm.length_eq,Ft]
theorem PP.mem {p:Array Nat} (h:PP n p) {k:Nat} (hk:k < n):g p k < n:=by
 have hk':k < p.size:=by rw[h.size];exact hk
 have e:g p k=p[k]:=by simp[g,Cw,hk']
 rw[e]
 exact AQ.mp (h.perm.mem_iff.mp (by simp))
theorem PP.inj {p:Array Nat} (h:PP n p) {k l:Nat} (hk:k < n) (hl:l < n) (e:g p k=g p l):k=l:=by
 have hk':k < p.toList.length:=by rw[AS,h.size];exact hk
 have hl':l < p.toList.length:=by rw[AS,h.size];exact hl
 have nd:p.toList.Nodup:=h.perm.nodup_iff.mpr HD
 have e1:g p k=p.toList[k]:=by simp[g,Cw,h.size,hk]
 have e2:g p l=p.toList[l]:=by simp[g,Cw,h.size,hl]
 exact (EG nd).mp (by rw[←e1,←e2,e])
theorem PP.of {p q:Array Nat} (h:PP n p) (hq:q.Perm p):PP n q:=⟨(Array.perm_iff_toList_perm.mp hq).trans h.perm⟩
def Srt (lt:Nat→Nat→Bool) (p:Array Nat) (m:Nat):Prop:=∀i j,i < j→j < m→lt (g p i) (g p j)=true
def Dsc (lt:Nat→Nat→Bool) (p:Array Nat) (m:Nat):Prop:=∀i j,i < j→j < m→lt (g p j) (g p i)=true
theorem Srt.one (p:Array Nat):Srt lt p 1:=fun i j h1 h2=>by omega
theorem Srt.more (O:LtO n lt) {p:Array Nat}{m:Nat} (S:Srt lt p m) (h1:1≤m) (h:lt (g p (m - 1)) (g p m)=true):Srt lt p (m+1):=fun i j hij hj=>by
 rcases A6 (Cc hj) with z |z
 ·exact S i j hij z
 ·subst z
  rcases A6 (show i≤j - 1 by omega) with y |y
  ·exact O.tr _ _ _ (S i (j - 1) y (by omega)) h
  ·subst y;exact h
theorem Dsc.more (O:LtO n lt) {p:Array Nat}{m:Nat} (S:Dsc lt p m) (h1:1≤m) (h:lt (g p m) (g p (m - 1))=true):Dsc lt p (m+1):=fun i j hij hj=>by
 rcases A6 (Cc hj) with z |z
 ·exact S i j hij z
 ·subst z
  rcases A6 (show i≤j - 1 by omega) with y |y
  ·exact O.tr _ _ _ h (S i (j - 1) y (by omega))
  ·subst y;exact h
theorem kF (O:LtO n lt) {p:Array Nat} (P:PP n p):∀(f m:Nat),1≤m→m+f=n→Srt lt p m→∃m',fJ lt n (kas_asc p f m) m'∧m≤m'∧m'≤n∧Srt lt p m'∧(m' < n→lt (g p m') (g p (m' - 1))=true)
 |0,m,h1,hf,S=>⟨m,.ret m,Ay _,by omega,S,fun h=>by omega⟩
 |f+1,m,h1,hf,S=>by
  by_cases hc:lt (g p m) (g p (m - 1))=true
  ·refine ⟨m,.ask (P.mem (by omega)) (P.mem (by omega)) ?_,Ay _,by omega,S,fun _=>hc⟩
   rw[if_pos hc];exact .ret m
  ·have hc':lt (g p m) (g p (m - 1))=false:=by simpa using hc
   have ht:=O.tot _ _ (P.mem (show m < n by omega)) (P.mem (show m - 1 < n by omega)) (fun e=>by have:=P.inj (by omega) (by omega) e;omega) hc'
   obtain ⟨m',r,a1,a2,a3,a4⟩:=kF O P f (m+1) (by omega) (by omega) (S.more O h1 ht)
   refine ⟨m',.ask (P.mem (by omega)) (P.mem (by omega)) ?_,by omega,a2,a3,a4⟩
   rw[if_neg hc];exact r
theorem mf (O:LtO n lt) {p:Array Nat} (P:PP n p):∀(f m:Nat),1≤m→m+f=n→Dsc lt p m→∃m',fJ lt n (kas_desc f p m 0) (p,m',0)∧m≤m'∧m'≤n∧Dsc lt p m'
 |0,m,h1,hf,S=>⟨m,.ret _,Ay _,by omega,S⟩
 |f+1,m,h1,hf,S=>by
  by_cases hc:lt (g p m) (g p (m - 1))=true
  ·obtain ⟨m',r,a1,a2,a3⟩:=mf O P f (m+1) (by omega) (by omega) (S.more O h1 hc)
   refine ⟨m',.ask (P.mem (by omega)) (P.mem (by omega)) ?_,by omega,a2,a3⟩
   rw[if_pos hc,if_neg (by omega)];exact r
  ·have hc':lt (g p m) (g p (m - 1))=false:=by simpa using hc
   have ht:=O.tot _ _ (P.mem (show m < n by omega)) (P.mem (show m - 1 < n by omega)) (fun e=>by have:=P.inj (by omega) (by omega) e;omega) hc'
   refine ⟨m,.ask (P.mem (by omega)) (P.mem (by omega)) ?_,Ay _,by omega,S⟩
   rw[if_neg hc]
   refine .ask (P.mem (by omega)) (P.mem (by omega)) ?_
   rw[if_pos ht];exact .ret _
theorem rn {p:Array Nat} (P:PP n p) {m k:Nat} (hm:m≤n) (hk:k < m):g (kas_rev p 0 m) k=g p (m - 1 - k):=by
 refine vO ?_
 unfold kas_rev
 rw[getElem?_mirror (by rw[P.size];exact hm) _ (by omega)]
 split
 ·congr 1;omega
 ·congr 1;omega
theorem sY {p:Array Nat} (P:PP n p) (i j:Nat):PP n (kas_rev p i j):=P.of (mirror_perm _ _ _ _)
theorem vE {p:Array Nat} (P:PP n p) {m:Nat} (hm:m≤n) (D:Dsc lt p m):Srt lt (kas_rev p 0 m) m:=fun i j hij hj=>by
 rw[rn P hm (by omega),rn P hm hj]
 exact D _ _ (by omega) (by omega)
theorem rm (O:LtO n lt) {p:Array Nat} (P:PP n p) (h2:2≤n):∃m p',fJ lt n (kas_count n p) (m,p')∧PP n p'∧1≤m∧m≤n∧Srt lt p' m:=by
 obtain ⟨m,r,a1,a2,a3,a4⟩:=kF O P (n - 1) 1 (Ay _) (by omega) (Srt.one p)
 by_cases hm:m=n
 ·exact ⟨m,p,r.bind (by rw[if_pos (by simp[hm])];exact .ret _),P,a1,a2,a3⟩
 ·have hne:¬ ((m==n)=true):=by simpa using hm
  by_cases h1:m >1
  ·refine ⟨m,p,r.bind ?_,P,a1,a2,a3⟩
   rw[if_neg hne,if_pos h1]
   refine .ask (P.mem (by omega)) (P.mem (by omega)) ?_
   rw[if_pos (a3 0 (m - 1) (by omega) (by omega))]
   exact .ret _
  ·obtain rfl:m=1:=by omega
   have D2:Dsc lt p 2:=Dsc.more O (fun i j x y=>by omega) (Ay _) (a4 (by omega))
   obtain ⟨d,rd,b1,b2,b3⟩:=mf O P (n - 2) 2 (by omega) (by omega) D2
   obtain ⟨e,re,c1,c2,c3,c4⟩:=kF O (sY P 0 d) (n - d) d (by omega) (by omega) (vE P b2 b3)
   refine ⟨e,kas_rev p 0 d,r.bind ?_,sY P 0 d,by omega,c2,c3⟩
   rw[if_neg hne,if_neg h1]
   unfold kas_descPart
   refine fJ.bind (a:=(p,d,0)) rd ?_
   rw[if_neg (by simp)]
   unfold kas_tail3
   exact re.bind (.ret _)
theorem ii (O:LtO n lt) {p:Array Nat} (P:PP n p) {k:Nat} (hk:k < n) (S:Srt lt p k):∀(f l r:Nat),l≤r→r≤k→r - l≤f→(∀i,i < l→lt (g p i) (g p k)=true)→(∀i,r≤i→i < k→lt (g p k) (g p i)=true)→
  ∃l',fJ lt n (kas_place p k f l r) l'∧l'≤k∧(∀i,i < l'→lt (g p i) (g p k)=true)∧(∀i,l'≤i→i < k→lt (g p k) (g p i)=true)
 |0,l,r,h1,h2,h3,a,b=>⟨l,.ret l,by omega,a,fun i x y=>b i (by omega) y⟩
 |f+1,l,r,h1,h2,h3,a,b=>by
  unfold kas_place
  by_cases hlr:l ≥ r
  ·rw[if_pos hlr]
   exact ⟨l,.ret l,by omega,a,fun i x y=>b i (by omega) y⟩
  ·rw[if_neg hlr]
   have hm:(l+r) / 2 < k:=by omega
   by_cases hc:lt (g p k) (g p ((l+r) / 2))=true
   ·obtain ⟨l',r',x1,x2,x3⟩:=ii O P hk S f l ((l+r) / 2) (by omega) (by omega) (by omega) a fun i hi hik=>by
     rcases A6 hi with z |z
     ·exact O.tr _ _ _ hc (S _ _ z hik)
     ·rw[←z];exact hc
    refine ⟨l',.ask (P.mem hk) (P.mem (by omega)) ?_,x1,x2,x3⟩
    rw[if_pos hc];exact r'
   ·have hc':lt (g p k) (g p ((l+r) / 2))=false:=by simpa using hc
    have ht:=O.tot _ _ (P.mem hk) (P.mem (show (l+r) / 2 < n by omega)) (fun e=>by have:=P.inj hk (by omega) e;omega) hc'
    obtain ⟨l',r',x1,x2,x3⟩:=ii O P hk S f ((l+r) / 2+1) r (by omega) h2 (by omega) (fun i hi=>by
     rcases A6 (Cc hi) with z |z
     ·exact O.tr _ _ _ (S _ _ z hm) ht
     ·rw[z];exact ht) b
    refine ⟨l',.ask (P.mem hk) (P.mem (by omega)) ?_,x1,x2,x3⟩
    rw[if_neg hc];exact r'
theorem pZ (O:LtO n lt):∀(f k:Nat) (p:Array Nat),k+f=n→PP n p→Srt lt p k→∃p',fJ lt n (kas_bin f p k) p'∧PP n p'∧Srt lt p' n
 |0,k,p,hf,P,S=>⟨p,.ret p,P,by rw[←hf];exact S⟩
 |f+1,k,p,hf,P,S=>by
  obtain ⟨l,rl,x1,x2,x3⟩:=ii O P (show k < n by omega) S k 0 k (Bh _) (Ay _) (by omega) (fun i h=>by omega) (fun i h h'=>by omega)
  have at_:∀j,g (bubble p k (k - l)) j=if j=l then g p k else if l < j∧j≤k then g p (j - 1) else g p j:=fun j=>by
   have e:=getElem?_bubble (xs:=p) (src:=k) (by rw[P.size];omega) (k - l) (by omega) j
   rw[show k - (k - l)=l by omega] at e
   split
   ·rename_i z;rw[if_pos z] at e;exact vO e
   ·rename_i z
    rw[if_neg z] at e
    split
    ·rename_i y;rw[if_pos y] at e;exact vO e
    ·rename_i y;rw[if_neg y] at e;exact vO e
  have e1:g (bubble p k (k - l)) l=g p k:=by rw[at_,if_pos rfl]
  have e2:∀j,l < j→j≤k→g (bubble p k (k - l)) j=g p (j - 1):=fun j y z=>by rw[at_,if_neg (by omega),if_pos ⟨y,z⟩]
  have e3:∀j,j < l→g (bubble p k (k - l)) j=g p j:=fun j y=>by rw[at_,if_neg (by omega),if_neg (by omega)]
  have S':Srt lt (bubble p k (k - l)) (k+1):=fun i j hij hj=>by
   rcases Cv j l with y |y |y
   ·rw[e3 i (by omega),e3 j y];exact S _ _ hij (by omega)
   ·rw[y,e1,e3 i (by omega)];exact x2 i (by omega)
   ·rw[e2 j y (by omega)]
    rcases Cv i l with z |z |z
    ·rw[e3 i z];exact S _ _ (by omega) (by omega)
    ·rw[z,e1];exact x3 (j - 1) (by omega) (by omega)
    ·rw[e2 i z (by omega)];exact S _ _ (by omega) (by omega)
  obtain ⟨p',r',P',S''⟩:=pZ O f (k+1) (bubble p k (k - l)) (by omega) (P.of (bubble_perm _ _ _)) S'
  exact ⟨p',rl.bind r',P',S''⟩
theorem mO (O:LtO n lt) (h2:2≤n):∃p,fJ lt n (kas_sort n) p∧PP n p∧Srt lt p n:=by
 obtain ⟨m,p,r,P,a1,a2,S⟩:=rm O (p:=Ht (Bi n)) ⟨by simp⟩ h2
 by_cases hm:m < n
 ·obtain ⟨p',r',P',S'⟩:=pZ O (n - max m 1) (max m 1) p (by omega) P (by rw[show max m 1=m by omega];exact S)
  exact ⟨p',r.bind (by rw[if_pos hm];exact r'),P',S'⟩
 ·obtain rfl:m=n:=by omega
  exact ⟨p,r.bind (by rw[if_neg hm];exact .ret _),P,S⟩
def ltP (a b:Int×Int):Bool:=decide (a.1 < b.1∨(a.1=b.1∧a.2 < b.2))
theorem uj {a b c:Int×Int} (h1:ltP a b=true) (h2:ltP b c=true):ltP a c=true:=by
 unfold ltP at *;simp at *;omega
theorem oZ {a b:Int×Int} (h1:ltP a b=true):ltP b a=false:=by
 unfold ltP at *;simp at *;omega
theorem ltP_tot {a b:Int×Int} (h:a≠b) (h1:ltP a b=false):ltP b a=true:=by
 unfold ltP at *
 have:¬ (a.1=b.1∧a.2=b.2):=fun z=>h (CD z.1 z.2)
 simp at *;omega
section
variable {prog:AD}{w:World}{A:A5}{E:Value→As→Prop}{s:As}
theorem TK.two {h:Heap}{x y:Int}{b:Addr} (k:TK prog w h [x,y] b):∃o its n t u,h.get? b=some o∧o.cls=.type "tuple"∧o.data=.seq its n∧its.toList=[.int x t,.int y u]:=by
 obtain ⟨o,its,n,ho,hc,hd,hi⟩:=k
 cases hi':its.toList with
 |nil=>rw[hi'] at hi;cases hi
 |cons v1 r=>
  rw[hi'] at hi
  cases hi with
  |cons h1 hr=>
   cases hr with
   |cons h2 hr2=>
    cases hr2
    obtain ⟨t,rfl⟩:=CM h1
    obtain ⟨u,rfl⟩:=CM h2
    exact ⟨o,its,n,t,u,ho,hc,hd,hi'⟩
theorem xq {x y:Addr}{a b:Int×Int}{Q:Bool→As→Prop} (hx:TK prog w s.heap [a.1,a.2] x) (hy:TK prog w s.heap [b.1,b.2] y) (h:Q (ltP a b) s):wpAny (model prog w) A (keyLt' (tuples' true) (.ref x) (.ref y)) Q E s:=by
 obtain ⟨o,its,n,t,u,ho,_,hd,hi⟩:=hx.two
 obtain ⟨o',its',n',t',u',ho',_,hd',hi'⟩:=hy.two
 refine kat_lt ho hd ho' hd' ?_
 rw[hi,hi']
 refine kat_cons ((DF prog w).eqBool (a:=a.1) (b:=b.1) (Co _ _ _ _) (Co _ _ _ _) ?_)
 by_cases e1:a.1=b.1
 ·rw[decide_eq_true e1]
  refine kat_yes (kat_cons ((DF prog w).eqBool (a:=a.2) (b:=b.2) (Co _ _ _ _) (Co _ _ _ _) ?_))
  by_cases e2:a.2=b.2
  ·rw[decide_eq_true e2]
   refine kat_yes (kat_nil ?_)
   have z:ltP a b=false:=by unfold ltP;simp;omega
   rw[z] at h
   have z2:decide (its.size < its'.size)=false:=by
    rw[←AS,←AS,hi,hi'];simp
   rw[z2];exact h
  ·rw[decide_eq_false e2]
   refine kat_no (kat_one _ _ (lt_int ?_))
   have z:ltP a b=decide (a.2 < b.2):=by unfold ltP;rw[e1];simp
   rw[z] at h
   exact h
 ·rw[decide_eq_false e1]
  refine kat_no (oneLt_int ?_)
  have z:ltP a b=decide (a.1 < b.1):=by unfold ltP;simp[e1]
  rw[z] at h
  exact h
abbrev PB:=List ((Int×Int)×Addr)
abbrev refs (pb:PB):List Value:=pb.map fun p=>Bk p.2
def dfl:(Int×Int)×Addr:=((0,0),0)
theorem oP (pb:PB):(Bi pb.length).map (fun i=>pb.getD i dfl)=pb:=by
 apply HG
 ·simp
 ·intro i h1 h2
  simp at h1
  simp[h1]
theorem sQ {pb:PB}{Q:Eu→As→Prop} (htk:∀p∈pb,TK prog w s.heap [p.1.1,p.1.2] p.2) (h0:0 < pb.length) (h:Q (tuples' true) s):wpAny (model prog w) A (keyKind' (refs pb).toArray) Q E s:=by
 obtain ⟨fs,hf,hl,hi⟩:∃fs,KatTups s.heap (refs pb) fs∧fs.length=pb.length∧∀v∈fs,∃n t,v=Be n t:=by
  clear h h0
  induction pb with
  |nil=>exact ⟨[],.nil,rfl,fun v hv=>by simp at hv⟩
  |cons p r ih=>
   obtain ⟨fs,hf,hl,hi⟩:=ih fun q hq=>htk q (Aw _ hq)
   obtain ⟨o,its,n,t,u,ho,hc,hd,hit⟩:=(htk p AF).two
   refine ⟨.int p.1.1 t::fs,.cons ho hc hd (by rw[←Bj,hit];rfl) hf,by simp[hl],fun v hv=>?_⟩
   rcases AB.mp hv with z |z
   ·exact ⟨_,_,z⟩
   ·exact hi v z
 refine kat_kind (T:=.type "int") hf (by omega) (fun v hv=>?_) (by decide) h
 obtain ⟨n,t,rfl⟩:=hi v hv
 exact Looks.of_pure rfl
theorem mr {a:Addr}{pb:PB}{n:Nat}{P:Jw→As→Prop} (ho:s.heap.get? a=some (C_ "list" (refs pb).toArray n)) (htk:∀p∈pb,TK prog w s.heap [p.1.1,p.1.2] p.2) (hnd:(pb.map (·.1)).Nodup) (h64:pb.length < 64)
  (h:∀pb':PB,pb'.Perm pb→(pb'.map (·.1)).Pairwise (fun x y=>ltP x y=true)→P (.done (.ret .none)) {s with heap:=sortedHeap s.heap a (refs pb) (refs pb').toArray }):
  wpAny (model prog w) A (Builtin.«list.sort» ⟨[.ref a],[]⟩) P E s:=by
 have hvl:(refs pb).length=pb.length:=by simp
 have hva:(refs pb).toArray.size=pb.length:=by simp
 rw[H_]
 have ha:a < s.heap.objs.size:=AC ho
 refine Ao (listItems_at ho rfl (Ao (D_ ho rfl ?_ (by rw[hva,BC];omega) (Bh _))))
 obtain ⟨e1,ho1⟩:∃e1,(s.heap.update a (BQ fun _=>(#[]:Array Value))).get? a=some (C_ "list" #[] e1):=⟨_,Gh ho (fun _=>#[])⟩
 refine Ao (E3 ho1 rfl (Ao (GI ?_ (by show (refs pb).length≤_;rw[hvl,BC];omega))))
 refine Ao (Ea ?_ (Bh _))
 refine Bt ?_
 generalize hh6:((s.heap.update a (BQ fun _=>(#[]:Array Value))).push (C_ "tuple" (refs pb).toArray 0)).push (C_ "list" #[] 0)=h6
 have old6:∀b o,b≠a→s.heap.get? b=some o→h6.get? b=some o:=fun b o hb e=>by
  rw[←hh6]
  exact Aq _ (Aq _ ((Bc _ _ (Ne.symm hb)).trans e))
 have ho6:h6.get? a=some (C_ "list" #[] e1):=by rw[←hh6];exact Aq _ (Aq _ ho1)
 have tk6:∀p∈pb,TK prog w h6 [p.1.1,p.1.2] p.2:=fun p hp=>by
  obtain ⟨o,its,k,hop,hc,r⟩:=htk p hp
  refine ⟨o,its,k,old6 p.2 o (fun z=>?_) hop,hc,r⟩
  rw[z,ho] at hop
  cases hop
  exact absurd hc (by show ¬ (BY "list"=BY "tuple");decide)
 have fin:∀pb':PB,pb'.Perm pb→(pb'.map (·.1)).Pairwise (fun x y=>ltP x y=true)→P (.done (.ret .none)) {s with heap:=h6.update a (BQ fun _=>(refs pb').toArray) }:=fun pb' p1 p2=>by
  rw[←hh6];exact h pb' p1 p2
 show wpAny (model prog w) A _ P E {s with heap:=h6 }
 dsimp only
 by_cases h2:(refs pb).toArray.size < 2
 ·rw[if_pos h2,if_pos h2]
  refine Ao (Au ?_)
  rw[StateT.run_pure]
  refine Ao (Au ?_)
  dsimp only
  have eout:(arrOf (SortSt.mk' general' ((refs pb).toArray.zip (refs pb).toArray) #[] 7 none)).map (·.2)=(refs pb).toArray:=by
   show (((refs pb).toArray.zip (refs pb).toArray)).map (·.2)=_
   apply FK.mp
   have zip2:∀l:List Value,(l.zip l).map (·.2)=l:=fun l=>by
    induction l with
    |nil=>rfl
    |cons x r ih=>rw[Eb,Bz,ih]
   rw[FL,HH]
   exact zip2 _
  rw[eout]
  refine Ao (E3 ho6 rfl (Ao (D_ ho6 rfl ?_ (Bh _) (by rw[hva,BC];omega))))
  show wpAny _ _ (if (e1 !=e1)=true then _ else _) _ _ _
  rw[if_neg (by simp)]
  refine Au (fin pb (GG _) ?_)
  match pb,hva,h2 with
  |[],_,_=>simp
  |[_],_,_=>simp
  |_::_::r,hva,h2=>rw[hva] at h2;exact absurd h2 (by simp)
 ·rw[if_neg h2,if_neg h2]
  rw[hva] at h2
  have h2':2≤(refs pb).length:=by rw[hvl];omega
  refine Ao (sQ (s:={s with heap:=h6 }) tk6 (by omega) ?_)
  have inj:∀i j,i < pb.length→j < pb.length→i≠j→(pb.getD i dfl).1≠(pb.getD j dfl).1:=fun i j hi hj hij e=>by
   refine hij ((EG (xs:=pb.map (·.1)) (h₀:=by simpa using hi) (h₁:=by simpa using hj) hnd).mp ?_)
   simpa [hi,hj] using e
  have O:LtO pb.length (fun i j=>ltP (pb.getD i dfl).1 (pb.getD j dfl).1):=⟨fun i j k=>uj,fun i j hi hj hij=>ltP_tot (inj i j hi hj hij),fun i j=>oZ⟩
  obtain ⟨p,R,PP',S⟩:=mO O (by omega)
  have hcmp:∀i j C,i < pb.length→j < pb.length→C (ltP (pb.getD i dfl).1 (pb.getD j dfl).1) {s with heap:=h6 }→kas_ask prog w A (tuples' true) (refs pb) i j C {s with heap:=h6 }:=fun i j C hi hj c=>by
   unfold kas_ask
   have ei:(refs pb).getD i AY=.ref (pb.getD i dfl).2:=by simp[hi]
   have ej:(refs pb).getD j AY=.ref (pb.getD j dfl).2:=by simp[hj]
   rw[ei,ej]
   have mi:pb.getD i dfl∈pb:=by simp[hi]
   have mj:pb.getD j dfl∈pb:=by simp[hj]
   exact xq (s:={s with heap:=h6 }) (tk6 _ mi) (tk6 _ mj) c
  have tree:(kas_sort (refs pb).length).kasWp (kas_ask prog w A (tuples' true) (refs pb)) (fun p' s'=>p'=p∧s'={s with heap:=h6 }) {s with heap:=h6 }:=by
   rw[hvl]
   exact R.wp hcmp ⟨rfl,rfl⟩
  refine Ao (Cs (kat_run (Q:=fun st' s'=>s'={s with heap:=h6 }∧failedOf st'=none∧(arrOf st').map (·.2)=Ht (p.toList.map fun i=>(refs pb).getD i AY)) rfl h2' (by rw[hvl];exact h64) (fun p' st' s' _ a2 a3 a4=>?_) tree) ?_ fun _ _ e=>e)
  ·obtain ⟨rfl,rfl⟩:=a4
   exact ⟨rfl,a3,kat_snds rfl a2⟩
  ·rintro ⟨⟨⟩,st'⟩ s' ⟨rfl,hf,hout⟩
   dsimp only
   rw[hout]
   have hlt:∀i∈p.toList,i < pb.length:=fun i hi=>AQ.mp (PP'.perm.mem_iff.mp hi)
   have er:(p.toList.map fun i=>(refs pb).getD i AY)=refs (p.toList.map fun i=>pb.getD i dfl):=by
    unfold refs
    rw[Bf]
    refine GQ fun i hi=>?_
    have:=hlt i hi
    simp[this]
   rw[er]
   have hperm:(p.toList.map fun i=>pb.getD i dfl).Perm pb:=by
    refine (PP'.perm.map _).trans ?_
    rw[oP]
   have hs2:(refs (p.toList.map fun i=>pb.getD i dfl)).toArray.size=pb.length:=by simp[PP'.size]
   refine Ao (E3 ho6 rfl (Ao (D_ ho6 rfl ?_ (Bh _) (by rw[hs2,BC];omega))))
   rw[hf]
   show wpAny _ _ (if (e1 !=e1)=true then _ else _) _ _ _
   rw[if_neg (by simp)]
   refine Au (fin _ hperm ?_)
   rw[Bf,BD,A8]
   intro i j hi hj hij
   have hj':j < pb.length:=by rw[AS,PP'.size] at hj;exact hj
   have q:=S i j hij hj'
   have ei:g p i=p.toList[i]:=by simp[g,Cw,PP'.size,show i < pb.length by omega]
   have ej:g p j=p.toList[j]:=by simp[g,Cw,PP'.size,hj']
   rw[ei,ej] at q
   exact q
end
end ST
namespace ST
open PySem PySem.W PyProof.Rows PySem.Calls
theorem tN {α β:Type} (f:α→β) {l m:List β} (h:l.Perm m):∀kb:List α,m=kb.map f→∃kb':List α,JO kb' kb∧l=List.map f kb':=by
 induction h with
 |nil=>intro kb e;exact ⟨kb,.refl _,e⟩
 | @cons x l m _ ih=>
  intro kb e
  match kb,e with
  |[],e=>simp at e
  |k::kb,e=>
   rw[Bz,CS] at e
   obtain ⟨kb',p,e'⟩:=ih kb e.2
   exact ⟨k::kb',p.cons k,by rw[Bz,←e',e.1]⟩
 |swap x y l=>
  intro kb e
  match kb,e with
  |[],e=>simp at e
  |[_],e=>simp at e
  |k::k'::kb,e=>
   simp only[Bz,CS] at e
   exact ⟨k'::k::kb,.swap k k' kb,by rw[Bz,Bz,←e.2.2,e.1,e.2.1]⟩
 |trans _ _ ih1 ih2=>
  intro kb e
  obtain ⟨kb2,p2,e2⟩:=ih2 kb e
  obtain ⟨kb1,p1,e1⟩:=ih1 kb2 e2
  exact ⟨kb1,p1.trans p2,e1⟩
def ptsOf (kb:List (List Int×Addr)):PB:=kb.map fun p=>((p.1.getD 0 0,p.1.getD 1 0),p.2)
section
variable {prog:AD}{w:World}{A:A5}{E:Value→As→Prop}{s:As}
theorem call_sorted_set {S:Addr}{kb:List (List Int×Addr)}{Q:Value→As→Prop} (hh:A.handled=none) (P:SP prog w s.heap S kb) (h64:kb.length < 64) (h2:∀p∈kb,p.1.length=2)
  (h:∀(h1 h':Heap) (tk:Nat) (pb:PB) (e:Nat),JO pb (ptsOf kb)→(pb.map (·.1)).Pairwise (fun x y=>ltP x y=true)→(∀b o,s.heap.get? b=some o→h1.get? b=some o)→(∀b o,h1.get? b=some o→h'.get? b=some o)→h'.get? h1.objs.size=some (C_ "list" (refs pb).toArray e)→Q (.ref h1.objs.size) {s with heap:=h',toks:=tk }):
  wpAny (model prog w) A (call (.builtin "sorted") [.ref S]) Q E s:=by
 obtain ⟨⟨o,es,ep,t,ho,hex,hd,he,T,hl,hp,_,_⟩,hk,hnd⟩:=P
 have hsz:es.size=kb.length:=by rw[←AS,he];simp[ents]
 have O:SO prog w o es ep t (kb.map fun p=>hsh prog w p.1):=⟨hex,hd,T,by rw[Ar,hsz],hl,hp⟩
 have two:∀p∈kb,p.1=[p.1.getD 0 0,p.1.getD 1 0]:=fun p hp'=>by
  have:=h2 p hp'
  match hq:p.1,this with
  |[x,y],_=>rfl
 refine call_function_entry Ib Hu Hv (Hw _) ?_
 unfold Builtin.«sorted»
 refine Ao (m:=Jd "sorted" 1 1 _) (Au ?_)
 refine Ao (kdu_collect (A:=A.in1) (vY O) hh ho (by rw[hsz,BC];omega) fun h' tk acc keep hacc=>?_)
 have hal:acc.toList=cw w S es ep:=by
  apply Cz
  intro i
  rcases CB i acc.size with z |z
  ·rw[Bj,C8 z]
   exact (hacc.2 i _ (C8 z)).symm
  ·rw[AZ (by simpa using z),AZ]
   rw[(eB w S es ep).length_eq,Ar,AS,←hacc.1];exact z
 obtain ⟨kb1,pk,ek⟩:=tN (fun (p:List Int×Addr)=>Bk p.2) (eB w S es ep) kb (by rw[he];unfold ents;rw[Bf];rfl)
 have hl1:acc.toList=refs (ptsOf kb1):=by
  rw[hal,ek];unfold refs ptsOf;rw[Bf];rfl
 have hlen1:(ptsOf kb1).length=kb.length:=by unfold ptsOf;rw[Ar,pk.length_eq]
 have hlenA:acc.toList.length=kb.length:=by rw[hl1];simp[hlen1]
 refine Ao (Ea ?_ (by rw[hlenA,BC];omega))
 have hD:(h'.push {cls:=.type "list",data:=.seq acc.toList.toArray }).get? h'.objs.size=some (C_ "list" (refs (ptsOf kb1)).toArray 0):=by
  rw[←hl1];exact AE _ rfl
 have tk1:∀p∈ptsOf kb1,TK prog w (h'.push {cls:=.type "list",data:=.seq acc.toList.toArray }) [p.1.1,p.1.2] p.2:=fun p hp'=>by
  obtain ⟨q,hq,rfl⟩:=Az.mp hp'
  have hq':=pk.mem_iff.mp hq
  obtain ⟨oq,its,k,hoq,r⟩:=hk q hq'
  have e2:=two q hq'
  refine ⟨oq,its,k,Aq _ (keep _ _ hoq),?_⟩
  rw[←e2];exact r
 have nd1:((ptsOf kb1).map (·.1)).Nodup:=by
  have n1:(kb1.map (·.1)).Nodup:=((pk.map (·.1)).nodup_iff).mpr hnd
  unfold ptsOf
  rw[Bf]
  refine BD.mpr ((BD.mp n1).imp_of_mem fun {a b} ha hb hab=>?_)
  intro z
  have ea:=two a (pk.mem_iff.mp ha)
  have eb:=two b (pk.mem_iff.mp hb)
  have z':(a.1.getD 0 0,a.1.getD 1 0)=(b.1.getD 0 0,b.1.getD 1 0):=z
  rw[Jl] at z'
  rw[z'.1,z'.2] at ea
  exact hab (ea.trans eb.symm)
 refine Ao (Bt (B9 GJ ⟨_,hD,rfl⟩ Gi ?_ (GK _)))
 refine mr (s:={s with heap:=h'.push {cls:=.type "list",data:=.seq acc.toList.toArray },toks:=tk }) hD tk1 nd1 (by omega) fun pb' pp so=>⟨_,rfl,Au ⟨_,rfl,?_⟩⟩
 obtain ⟨e,eD⟩:=G8 (out:=(refs pb').toArray) hD
 refine h h' _ tk pb' e (pp.trans ?_) so keep (fun b x hb'=>?_) eD
 ·unfold ptsOf;exact pk.map _
 ·have hlt:=AC hb'
  rw[GL (A4 hlt) (by rw[BE];exact Cu hlt)]
  exact Aq _ hb'
end
end ST
namespace ST
open PySem
def ins (x:Int×Int):List (Int×Int)→List (Int×Int)
 |[]=>[x]
 |y::r=>if x=y then y::r else if ltP x y=true then x::y::r else y::ins x r
def srt (pts:List (Int×Int)):List (Int×Int):=pts.foldr ins []
theorem ll (x z:Int×Int):∀l,z∈ins x l↔z=x∨z∈l
 |[]=>by simp[ins]
 |y::r=>by
  unfold ins
  split
  ·rename_i h;subst h;simp
  ·split
   ·simp
   ·rw[AB,ll x z r,AB]
    constructor
    ·rintro (h |h |h)
     ·exact .inr (.inl h)
     ·exact .inl h
     ·exact .inr (.inr h)
    ·rintro (h |h |h)
     ·exact .inr (.inl h)
     ·exact .inl h
     ·exact .inr (.inr h)
abbrev Asc (l:List (Int×Int)):Prop:=l.Pairwise (fun x y=>ltP x y=true)
theorem pG (x:Int×Int):∀l,Asc l→Asc (ins x l)
 |[],_=>by simp[ins]
 |y::r,h=>by
  unfold ins
  split
  ·exact h
  ·rename_i hne
   obtain ⟨h1,h2⟩:=Bl.mp h
   split
   ·rename_i hlt
    refine Bl.mpr ⟨fun z hz=>?_,h⟩
    rcases AB.mp hz with e |e
    ·rw[e];exact hlt
    ·exact uj hlt (h1 z e)
   ·rename_i hlt
    refine Bl.mpr ⟨fun z hz=>?_,pG x r h2⟩
    rcases (ll x z r).mp hz with e |e
    ·rw[e];exact ltP_tot hne (by simpa using hlt)
    ·exact h1 z e
theorem srt_mem (z:Int×Int):∀l,z∈srt l↔z∈l
 |[]=>by simp[srt]
 |y::r=>by
  show z∈ins y (srt r)↔_
  rw[ll,srt_mem z r,AB]
theorem srt_asc:∀l,Asc (srt l)
 |[]=>DD
 |y::r=>pG y (srt r) (srt_asc r)
theorem asc_irr {x:Int×Int}:ltP x x=false:=by unfold ltP;simp
theorem asc_one:∀{l m:List (Int×Int)},Asc l→Asc m→(∀z,z∈l↔z∈m)→l=m
 |[],[],_,_,_=>rfl
 |[],y::r,_,_,h=>by have:=(h y).mpr AF;simp at this
 |x::l,[],_,_,h=>by have:=(h x).mp AF;simp at this
 |x::l,y::m,hl,hm,h=>by
  obtain ⟨a1,a2⟩:=Bl.mp hl
  obtain ⟨b1,b2⟩:=Bl.mp hm
  have e:x=y:=by
   rcases AB.mp ((h x).mp AF) with z |z
   ·exact z
   ·rcases AB.mp ((h y).mpr AF) with z' |z'
    ·exact z'.symm
    ·have:=oZ (b1 x z)
     rw[a1 y z'] at this;cases this
  subst e
  congr 1
  refine asc_one a2 b2 fun z=>⟨fun hz=>?_,fun hz=>?_⟩
  ·rcases AB.mp ((h z).mp (Aw _ hz)) with e |e
   ·have:=a1 z hz;rw[e,asc_irr] at this;cases this
   ·exact e
  ·rcases AB.mp ((h z).mpr (Aw _ hz)) with e |e
   ·have:=b1 z hz;rw[e,asc_irr] at this;cases this
   ·exact e
theorem asc_srt {l:List (Int×Int)} (h:Asc l):srt l=l:=asc_one (srt_asc l) h fun z=>srt_mem z l
theorem pP (x:Int×Int):∀l,(ins x l).length≤l.length+1
 |[]=>by simp[ins]
 |y::r=>by
  have:=pP x r
  unfold ins
  split
  ·simp
  ·split
   ·simp
   ·simp only[A_];omega
theorem srt_len:∀l,(srt l).length≤l.length
 |[]=>Ay _
 |y::r=>by
  have h1:=pP y (srt r)
  have h2:=srt_len r
  show (ins y (srt r)).length≤_
  simp only[A_];omega
end ST
namespace L2
open PySem PySem.Spec PyProof.Rows
theorem y4 {p:Nat→Addr→Prop}{n:Nat} (h:∀i,i < n→∃b,p i b):∃f:Nat→Addr,∀i,i < n→p i (f i):=by
 refine ⟨fun i=>if k:i < n then Classical.choose (h i k) else 0,fun i hi=>?_⟩
 dsimp only
 rw[dif_pos hi]
 exact Classical.choose_spec (h i hi)
theorem lV:Cp "set"=some (.type "set"):=by decide+kernel
section
variable {X:Cx}{H0:Hp}{O0:List Addr}{ps:PSt}{e:Expr}{pts:List P2}{pos pos' p p':Pos}
theorem j3 (hc:X.calm=true) (hu:X.A.units+10 < cLine) (hg:Gl X "sorted") (hm:X.mg "sorted"=none) (hgs:Gl X "set") (hms:X.mg "set"=none) (ha:Ev X H0 O0 ps e (lp pts)) (hl:pts.length < 64)
  (he:AL [e] X.env=(false,eval e X.env)::AL [] X.env:=by rfl):EvN X H0 O0 ps (.Call (.Name "sorted" p) [.Call (.Name "set" p') [e] [] pos'] [] pos) ((ST.srt pts).map pu):=by
 rintro pins s σ H Q I ⟨O,R,q⟩
 have hh:X.A.handled=none:=I.ok.hd hc
 refine Bp (cT I hg hm GR ?_)
 refine callWith_builtin1 (e:=.Call (.Name "set" p') [e] [] pos') (rest:=[]) ?_ rfl rfl
 show wpAny _ _ (spliced ((false,eval (.Call (.Name "set" p') [e] [] pos') X.env)::Ec pos (AL [] X.env))) _ _ s
 refine D5 ?_
 refine Bp (cT I hgs hms lV ?_)
 refine callWith_type1 (thn (cJ ha d8 he pos' pins s σ H (fun vs H1=>∃v,vs=[v]∧aI H H1∧Rp X.K (hid H1 O) v (lp pts)) I ⟨O,R,fun v H1 s1 r1=>⟨v,rfl,s1,r1⟩⟩) fun us s1 hx=>?_) he rfl
 obtain ⟨vs,H1,I1,rv,v,rfl,sm,rp⟩:=hx
 obtain ⟨u,rfl,ru⟩:=gu rv
 cases rp with
 | @lst a ws _ hq hwl hwi=>
  cases ru
  obtain ⟨its,rw',pl,hz⟩:=I1.list (SqL.of (aC _ _ hq))
  have hlp:ws.length=pts.length:=by rw[hwl,Ar]
  have hil:its.length=pts.length:=by rw[←rw'.length,hlp]
  have item:∀i,i < pts.length→∃b,its[i]?=some (.ref b)∧Rp X.K (hid H1 O) (.ref b) (pu (pts.getD i (0,0)))∧ST.TK X.prog X.w s1.heap [(pts.getD i (0,0)).1,(pts.getD i (0,0)).2] b:=fun i hi=>by
   have hw:ws[i]?=some ws[i]:=An (by omega)
   have hp:(pts.map pu)[i]?=some (pu (pts.getD i (0,0))):=by rw[Av,An hi];simp[hi]
   have r:=hwi i _ _ hw hp
   obtain ⟨u',e1,e2⟩:=rw'.get hw
   generalize ws[i]=z at *
   cases r with
   | @tup b zs _ hs hsl hsi=>
    cases e2
    refine ⟨b,e1,Rp.tup hs hsl hsi,?_⟩
    obtain ⟨jts,rj,ht,_⟩:=I1.tuple (by exact aC.tup hs)
    have z0:zs.length=2:=hsl
    match zs,z0,hsi,rj with
    |[z1,z2],_,hsi,rj=>
     have q1:=hsi 0 z1 _ rfl rfl
     have q2:=hsi 1 z2 _ rfl rfl
     cases q1
     cases q2
     obtain ⟨u1,u2,rfl,r1,r2⟩:=mq rj
     obtain ⟨t1,rfl⟩:=r1
     obtain ⟨t2,rfl⟩:=r2
     obtain ⟨o,ho,hoc,n,hod⟩:=ht
     exact ⟨o,_,n,ho,hoc,hod,.cons (Co _ _ _ _) (.cons (Co _ _ _ _) .nil)⟩
  obtain ⟨ad',adE⟩:=y4 item
  have hsz:its.toArray.size=pts.length:=by simp[hil]
  refine ST.call_set_pts (fun i=>([(pts.getD i (0,0)).1,(pts.getD i (0,0)).2],ad' i)) hh (by show X.A.units+1+1+1 < cLine;omega) pl.isList (fun i z ez=>?_) (fun i hi=>?_) (by rw[hsz];omega) fun h2 tk kb sp got keep=>?_
  ·have hi:i < pts.length:=by have:=aF (show its[i]?=some z by simpa using ez);omega
   have:=(adE i hi).1
   rw[show its.toArray[i]?=its[i]? by simp,this] at ez
   cases ez;rfl
  ·exact (adE i (by rw[hsz] at hi;exact hi)).2.2
  ·rw[hsz] at got
   have I2:Inv X pins σ H1 {s1 with heap:=h2,toks:=tk }:=I1.kept (t':=tk) keep
   refine Eh ?_
   have hkl:kb.length < 64:=by have:=got.len;omega
   refine ST.call_sorted_set (s:={s1 with heap:=h2,toks:=tk }) hh sp hkl (fun z hz=>by obtain ⟨j,_,rfl⟩:=got.src z hz;rfl) fun h3 h4 tk2 pb ep pm so k1 k2 hD=>?_
   have I3:Inv X pins σ H1 {s1 with heap:=h3,toks:=tk2 }:=I2.kept (t':=tk2) k1
   have src:∀z∈pb,∃j,j < pts.length∧z=(pts.getD j (0,0),ad' j):=fun z hz=>by
    obtain ⟨y,hy,rfl⟩:=Az.mp (pm.mem_iff.mp hz)
    obtain ⟨j,hj,rfl⟩:=got.src y hy
    exact ⟨j,hj,rfl⟩
   have epts:pb.map (·.1)=ST.srt pts:=by
    refine ST.asc_one so (ST.srt_asc pts) fun z=>?_
    rw[ST.srt_mem]
    constructor
    ·intro hz
     obtain ⟨y,hy,rfl⟩:=Az.mp hz
     obtain ⟨j,hj,rfl⟩:=src y hy
     simp[hj]
    ·intro hz
     obtain ⟨j,hj⟩:=BH.mp hz
     have hjl:=aF hj
     have hk:=got.all j hjl
     obtain ⟨y,hy,ey⟩:=Az.mp hk
     have hin:((y.1.getD 0 0,y.1.getD 1 0),y.2)∈ST.ptsOf kb:=Az.mpr ⟨y,hy,rfl⟩
     have hin':=pm.mem_iff.mpr hin
     refine Az.mpr ⟨_,hin',?_⟩
     rw[ey]
     have:pts.getD j (0,0)=z:=by rw[Ax,hj];rfl
     show ((pts.getD j (0,0)).1,(pts.getD j (0,0)).2)=z
     rw[this]
   have fr:H1 h3.objs.size=none:=I3.hok.fresh (Ay _)
   refine ⟨.ref h3.objs.size,upd H1 h3.objs.size (.lst (pb.map fun z=>V.ref z.2)),?_,rfl,?_⟩
   ·refine I3.laid (t':=tk2) k2 (Ay _) ⟨?_,(ST.refs pb),ep,?_,hD⟩
    ·rw[Ar,←Ar (f:=(·.1)),epts,BC]
     have:=ST.srt_len pts
     omega
    ·have all:∀l:ST.PB,aR (l.map fun z=>V.ref z.2) (ST.refs l):=fun l=>by
      induction l with
      |nil=>exact .nil
      |cons z r ih=>exact .cons rfl ih
     exact all pb
   ·refine q _ _ _ (sm.trans (aN fr _)) (sm.free fr) aQ ⟨?_,fun i z x e1 e2=>?_⟩
    ·rw[Ar,←epts,Ar,Ar]
    ·rw[←epts,Bf,Av] at e2
     rw[Av] at e1
     cases hpi:pb[i]? with
     |none=>rw[hpi] at e1;cases e1
     |some y=>
      rw[hpi] at e1 e2
      cases e1
      cases e2
      obtain ⟨j,hj,rfl⟩:=src y (AO hpi)
      exact (adE j hj).2.1.same (bL (aN fr _) fr)
end
end L2
namespace ST
open PySem
section
variable {prog:AD}{w:World}{A:A5}{s:As}{R:GV→As→Prop}{I:Addr}{fp wr:List Addr}{G:Array DC→Array DC→Prop}{n:Nat}{P:Nat→Value→Prop}{St:Nat→As→Prop}{T:String}
def vf (prog:AD) (w:World) (T:String):Prop:=∀(A:A5) (E:Value→As→Prop) (s:As) (r:Addr) (Q:Bool→As→Prop),s.TypeIs (.ref r) T→(∀b,Q b s)→wpAny (model prog w) A (Builtin.List.listLengthHint (.ref r)) Q E s
theorem qS (W:WalksS prog w A.in1 I fp wr G n P St) (hT:∀i s,St i s→s.TypeIs (.ref I) T) (hl:(BY T==BY "list")=false) (ht:(BY T==BY "tuple")=false) (hint:vf prog w T) (S:Addr) (res:Value) (c₀:Nat) (hst:St 0 s) (hSf:S ∉ fp) (hI:I∈fp)
  (hS:s.heap.get? S=some {cls:=.type "list",data:=.seq #[] c₀ })
  (hR:∀s' acc' c',Moved (S::wr) G s s'→s'.heap.get? S=some {cls:=.type "list",dict:=none,data:=.seq acc' c',slots:=#[] }→ItemsOf P acc' n→R (.ok (.ret res)) s') (hn:n≤sizeLine):
  wpAny (model prog w) A.in1 (Builtin.List.listExtendWith (.ref S) (.ref I) res)
   (fun fin s'=>match fin with | .done f=>R (.ok f) s' | .again c'=>c'.quiet=true∧EY (model prog w) A c' R s') (fun e s'=>R (.error e) s') s:=by
 have hSI:S≠I:=fun e=>hSf (e ▸ hI)
 unfold Builtin.List.listExtendWith
 refine Ao (Hs (hT 0 _ hst) ?_)
 have k1:Builtin.List.listSameRef (.ref S) (.ref I)=false:=by simp[Builtin.List.listSameRef,hSI]
 simp only[k1,hl,ht,Bool.or_false,AR,if_false]
 refine Ao (W.self 0 _ _ _ hst (Ao (Bt (hint _ _ _ _ _ (hT 0 _ hst) fun b=>?_))))
 refine De (fun _=>?_) (fun _=>?_)
 ·refine Ao (Gw (Ao ?_))
  show wpAny _ A.in1 (Gj S (·.push .none) >>=fun _=>Gj S (·.pop)) _ _ _
  refine Ao (Df hS rfl ?_)
  have g2:=BS (BQ (·.push AY)) hS rfl
  refine Df (hz:=by seq_fits) g2 rfl ?_
  have g3:=BS (BQ (·.pop)) g2 rfl
  have oth:∀b o,b≠S→s.heap.get? b=some o→((s.heap.update S (BQ (·.push AY))).update S (BQ (·.pop))).get? b=some o:=fun b o hb e=>(Bc _ _ (Ne.symm hb)).trans ((Bc _ _ (Ne.symm hb)).trans e)
  refine Au ⟨CJ Fi _,GA W hn _ hSf _ n 0 _ _ _ rfl (Bh _) (W.frame 0 s _ s.toks hst (Ay _) fun b hb o e=>oth b o (fun z=>hSf (z ▸ hb)) e) g3 (ItemsOf.nil P) fun s' acc' c' m g' it=>?_⟩
  exact hR s' acc' c' (Moved.trans W.gtrans ((Moved.refl W.grefl).then_heap (Ay _) fun b o hb e=>oth b o (fun z=>hb (z ▸ AF)) e) m) g' it
 ·exact Au ⟨CJ Fi _,GA W hn _ hSf _ n 0 _ _ _ rfl (Bh _) hst hS (ItemsOf.nil P) fun s' acc' c' m g' it=>hR s' acc' c' m g' it⟩
theorem u_ (W:WalksS prog w A.in1 I fp wr G n P St) (hT:∀i s,St i s→s.TypeIs (.ref I) T) (hl:(BY T==BY "list")=false) (ht:(BY T==BY "tuple")=false) (hint:vf prog w T) (S:Addr) (hst:St 0 s) (hSf:S ∉ fp) (hI:I∈fp)
  (hS:s.heap.get? S=some {cls:=.type "list",data:=.seq #[] })
  (hR:∀s' acc' c',Moved (S::wr) G s s'→s'.heap.get? S=some {cls:=.type "list",dict:=none,data:=.seq acc' c',slots:=#[] }→ItemsOf P acc' n→R (.ok (.ret .none)) s') (hn:n≤sizeLine):
  wpAny (model prog w) A.in1 (Builtin.«list.__init__» ⟨[.ref S,.ref I],[]⟩)
   (fun fin s'=>match fin with | .done f=>R (.ok f) s' | .again c'=>c'.quiet=true∧EY (model prog w) A c' R s') (fun e s'=>R (.error e) s') s:=by
 show wpAny _ A.in1 (Builtin.List.listItems (.ref S) >>=fun old=>Builtin.List.listUpdate (.ref S) (fun _=>#[]) >>=fun _=>letGo old.toList.reverse >>=fun _=>Builtin.List.listExtendWith (.ref S) (.ref I) .none) _ _ s
 refine Ao ?_
 unfold Builtin.List.listItems
 refine Ao (B7 hS rfl (Au ?_))
 show wpAny _ A.in1 (Gj S (fun _=>#[]) >>=fun _=>letGo (#[]:Array Value).toList.reverse >>=fun _=>Builtin.List.listExtendWith (.ref S) (.ref I) .none) _ _ s
 refine Ao (Df hS rfl ?_)
 have g2:=BS (BQ (fun _=>(#[]:Array Value))) hS rfl
 have oth:∀b o,b≠S→s.heap.get? b=some o→(s.heap.update S (BQ (fun _=>(#[]:Array Value)))).get? b=some o:=fun b o hb e=>(Bc _ _ (Ne.symm hb)).trans e
 refine Ao (DW ?_)
 refine qS W hT hl ht hint S .none _ (W.frame 0 s _ s.toks hst (Ay _) fun b hb o e=>oth b o (fun z=>hSf (z ▸ hb)) e) hSf hI g2 (fun s' acc' c' m g' it=>?_) hn
 exact hR s' acc' c' (Moved.trans W.gtrans ((Moved.refl W.grefl).then_heap (Ay _) fun b o hb e=>oth b o (fun z=>hb (z ▸ AF)) e) m) g' it
end
section
variable {prog:AD}{w:World}{A:A5}{E:Value→As→Prop}{s:As}{I:Addr}{fp wr:List Addr}{G:Array DC→Array DC→Prop}{n:Nat}{P:Nat→Value→Prop}{St:Nat→As→Prop}{T:String}
theorem call_list_it {Q:Value→As→Prop} (W:WalksS prog w A.in1.in1 I fp wr G n P St) (hT:∀i s,St i s→s.TypeIs (.ref I) T) (hl:(BY T==BY "list")=false) (ht:(BY T==BY "tuple")=false) (hint:vf prog w T) (hst:St 0 s) (hfp:∀b∈fp,b < s.heap.objs.size) (hI:I∈fp)
  (hQ:∀s' acc' c',Moved (s.heap.objs.size::wr) G {s with heap:=s.heap.push {cls:=.type "list",data:=.seq #[] } } s'→
   s'.heap.get? s.heap.objs.size=some {cls:=.type "list",dict:=none,data:=.seq acc' c',slots:=#[] }→ItemsOf P acc' n→Q (.ref s.heap.objs.size) s') (hn:n≤sizeLine):
  wpAny (model prog w) A (call (.type "list") [.ref I]) Q E s:=by
 have hSf:s.heap.objs.size ∉ fp:=fun hm=>Bs _ (hfp _ hm)
 refine callType_codes (Q₁:=fun obj s₁=>obj=.ref s.heap.objs.size∧s₁={s with heap:=s.heap.push {cls:=.type "list",data:=.seq #[] } }) PySem.F.called_list (PySem.F.typeCall_list_1 _) PySem.F.entry_list_init (code_list_new _ ⟨rfl,rfl⟩) fun obj s₁ h₁=>?_
 obtain ⟨rfl,rfl⟩:=h₁
 have hS:(s.heap.push {cls:=.type "list",data:=.seq #[] }).get? s.heap.objs.size=some {cls:=.type "list",data:=.seq #[] }:=AE _ rfl
 refine ⟨⟨_,hS,rfl⟩,PySem.F.args_list_init_2 _ _,u_ W hT hl ht hint _ (W.frame 0 s _ s.toks hst (Ay _) fun b _ o e=>Aq _ e) hSf hI hS (fun s' acc' c' m g' it=>?_) hn⟩
 exact ⟨rfl,hQ s' acc' c' m g' it⟩
end
theorem vQ:typeLookup (.type "list_reverseiterator") "__len__"=pure none:=by rw[E1,DA];kernel_rfl
theorem jL:Slot "list_reverseiterator" "__length_hint__" "list_reverseiterator.__length_hint__":=
 .of (owner:="list_reverseiterator") (n:="__length_hint__") (by rw[E1,DA];kernel_rfl) (by decide+kernel) (by decide+kernel) (by decide+kernel) (by first |exact .inl (by decide+kernel) |exact .inr (by decide+kernel)) (by rw[DM];kernel_rfl)
theorem hint_rev (prog:AD) (w:World):vf prog w "list_reverseiterator":=fun A E s r Q hT h=>by
 unfold Builtin.List.listLengthHint
 refine Ao (D6 hT vQ ?_)
 show wpAny _ A (specialOf (Bk r) (Str.ofString "__length_hint__") >>=_) _ _ _
 refine Ao (D6 hT jL.lookup ?_)
 generalize hid:("list_reverseiterator.__length_hint__":String)=id0
 wp_delta
 rw[show splitId id0=some ("list_reverseiterator","__length_hint__") from by subst hid;decide+kernel]
 subst hid
 refine Ao (Dp (T:="list_reverseiterator") (b:=true) hT (by rw[DM];kernel_rfl) ?_)
 refine De (fun z=>absurd z (by decide)) (fun _=>?_)
 refine De (fun _=>?_) (fun z=>absurd (by decide+kernel) z)
 refine De (fun z=>absurd z (by decide+kernel)) (fun _=>Au (h _))
end ST
namespace L2
open PySem PySem.Spec PyProof.Rows
theorem jM:Cp "reversed"=some (.type "reversed"):=by decide+kernel
theorem aR.rev:∀{xs:List V}{us:List Value},aR xs us→aR xs.reverse us.reverse:=fun {xs us} r=>by
 induction r with
 |nil=>exact .nil
 | @cons x u xs us r1 r2 ih=>
  rw[Hn,Hn]
  have app:∀{a:List V}{b:List Value},aR a b→aR (a++[x]) (b++[u]):=fun {a b} q=>by
   induction q with
   |nil=>exact .cons r1 .nil
   |cons q1 _ ih'=>exact .cons q1 ih'
  exact app ih
theorem Rps.rev {K:Ap}{H:Hp}{vs:List V}{xs:List U} (r:Rps K H vs xs):Rps K H vs.reverse xs.reverse:=⟨by simp[r.len],fun i v x h1 h2=>by
 have hi:i < vs.length:=by have:=aF h1;simpa using this
 have hx:i < xs.length:=by rw[←r.len];exact hi
 rw[BU hi] at h1
 rw[BU hx,←r.len] at h2
 exact r.at_ _ v x h1 h2⟩
section
variable {X:Cx}{H0:Hp}{O0:List Addr}{ps:PSt}{e k:Expr}{x:U}{xs:List U}{pos pos' p p' p2:Pos}
theorem rJ {K:Ap}{H:Hp}{v:V} (rp:Rp K H v x) (hx:x=.lst xs∨x=.scr xs):∃a vs,v=.ref a∧SqL K H a vs∧Rps K H vs xs:=by
 rcases hx with rfl |rfl
 ·cases rp with
  |lst hq hl hh=>exact ⟨_,_,rfl,SqL.of hq,hl,hh⟩
 ·cases rp with
  |scr hq hl hh=>exact ⟨_,_,rfl,hq,hl,hh⟩
theorem yr (he:Ev X H0 O0 ps e x) (hk:Ev X H0 O0 ps k (.int (-1))) (hx:x=.lst xs∨x=.scr xs):EvN X H0 O0 ps (.Subscript e (.Slice none none (some k) p2) pos) xs.reverse:=by
 rintro pins s σ H Q I ⟨O,R,q⟩
 refine Ja (thn (he pins s σ H (fun v H1=>aI H H1∧Rp X.K (hid H1 O) v x) I ⟨O,R,fun v H1 s1 r1=>⟨s1,r1⟩⟩) fun u s1 ⟨v,H1,I1,r1,sm,rp⟩=>?_)
 obtain ⟨a,vs,rfl,hq,rs⟩:=rJ rp hx
 cases r1
 refine wpAny_Slice ?_
 rw[GX]
 refine Au (Au ?_)
 rw[evalPart_some]
 refine thn (hk pins s1 σ H1 (fun v H2=>aI H1 H2∧v=.int (-1)) I1 ⟨O,R.go sm,fun v H2 s2 r2=>⟨s2,by cases r2;rfl⟩⟩) fun uk s2 hy=>?_
 obtain ⟨vk,H2,I2,rk,s12,rfl⟩:=hy
 obtain ⟨t,rfl⟩:=rk
 have I3:Inv X pins σ H2 {s2 with heap:=s2.heap.push {cls:=.type "slice",data:=.fields #[.none,.none,.int (-1) t] } }:=I2.kept (t':=s2.toks) fun b ob z=>Aq _ z
 obtain ⟨its,rv,pl,hz⟩:=I3.list (s12.seq (aC.seq hq))
 have hlen:=rv.length
 show wpAny (model X.prog X.w) X.A (GZ e (.Slice none none (some k) p2) (.ref a) (.ref s2.heap.objs.size)) (EP X pins σ Q) X.xe {s2 with heap:=s2.heap.push {cls:=.type "slice",data:=.fields #[.none,.none,.int (-1) t] } }
 refine tail_any (ops:=[.ref a,.ref s2.heap.objs.size]) pl.isList.typeIs slot_list_getitem.lookup ?_ (by with_unfolding_all rfl)
 refine Fo pl.isList (GY ..) .none .none (IsPart.int _ _) (by simp) ?_ (by rw[AV];omega)
 rw[PySem.W.krv_pick]
 generalize hn:(s2.heap.push {cls:=.type "slice",data:=.fields #[.none,.none,.int (-1) t] }).objs.size=D
 have fr:H2 D=none:=I3.hok.fresh (by rw[←hn];exact Ay _)
 refine ⟨.ref D,upd H2 D (.lst vs.reverse),I3.laid (t':=s2.toks) (o:=.lst vs.reverse) (fun b ob z=>Aq _ z) (by rw[←hn];exact Ay _) ⟨by rw[Bn];exact hz,its.reverse,0,rv.rev,?_⟩,rfl,?_⟩
 ·rw[←hn];exact AE _ rfl
 ·refine q D _ _ ((sm.trans s12).trans (aN fr _)) ((sm.trans s12).free fr) aQ ?_
  exact (rs.rev.same (aP s12)).same (bL (aN fr _) fr)
theorem qU (hc:X.calm=true) (hg:Gl X "list") (hm:X.mg "list"=none) (hgr:Gl X "reversed") (hmr:X.mg "reversed"=none) (ha:Ev X H0 O0 ps e (.lst xs))
  (he:AL [e] X.env=(false,eval e X.env)::AL [] X.env:=by rfl):EvN X H0 O0 ps (.Call (.Name "list" p) [.Call (.Name "reversed" p') [e] [] pos'] [] pos) xs.reverse:=by
 rintro pins s σ H Q I ⟨O,R,q⟩
 have hh:X.A.handled=none:=I.ok.hd hc
 refine Bp (cT I hg hm G9 ?_)
 refine callWith_type1 (e:=.Call (.Name "reversed" p') [e] [] pos') (rest:=[]) ?_ e8 rfl
 rw[e8]
 show wpAny _ _ (spliced ((false,eval (.Call (.Name "reversed" p') [e] [] pos') X.env)::Ec pos (AL [] X.env))) _ _ s
 refine D5 ?_
 refine Bp (cT I hgr hmr jM ?_)
 refine callWith_type1 (thn (cJ ha d8 he pos' pins s σ H (fun vs H1=>∃v,vs=[v]∧aI H H1∧Rp X.K (hid H1 O) v (.lst xs)) I ⟨O,R,fun v H1 s1 r1=>⟨v,rfl,s1,r1⟩⟩) fun us s1 hx=>?_) he rfl
 obtain ⟨vs,H1,I1,rv,v,rfl,sm,rp⟩:=hx
 obtain ⟨u,rfl,ru⟩:=gu rv
 obtain ⟨a,ws,rfl,hq,rs⟩:=rJ rp (.inl rfl)
 cases ru
 obtain ⟨its,rw',pl,hz⟩:=I1.list (aC.seq hq)
 have hlen:=rw'.length
 have hsz:its.toArray.size=its.length:=by simp
 refine call_reversed_list pl.isList ?_
 have I2:Inv X pins σ H1 {s1 with heap:=s1.heap.push (JJ a ((its.toArray.size:Int) - 1)) }:=I1.kept (t':=s1.toks) fun b ob z=>Aq _ z
 refine Eh ?_
 have hal:a < s1.heap.objs.size:=by obtain ⟨o,ho,_⟩:=pl.isList;exact AC ho
 have W:=(Walks.listRev (prog:=X.prog) (w:=X.w) (A:=X.A.in1.in1) hh s1.heap.objs.size a (A4 hal) its.toArray).toS
 refine ST.call_list_it (T:="list_reverseiterator") (s:={s1 with heap:=s1.heap.push (JJ a ((its.toArray.size:Int) - 1)) }) W (fun i s' st=>st.2.1.typeIs) (by decide) (by decide) (ST.hint_rev _ _) ⟨Bh _,⟨_,AE _ rfl,rfl,by simp[JJ]⟩,pl.isList.push _⟩ (fun b hb=>?_) (by simp) (fun s3 acc c m hD hit=>?_) (by rw[hsz];omega)
 ·show b < (s1.heap.push _).objs.size
  rw[BE]
  simp at hb
  rcases hb with z |z
  ·rw[z];exact Do _
  ·rw[z];exact Cu hal
 ·obtain ⟨h3,g3,d3,tk3,os3⟩:=s3
  obtain rfl:g3=s1.gens:=m.gens
  obtain rfl:d3=s1.drawn:=m.drawn
  obtain rfl:os3=s1.os:=m.os
  have szI:(s1.heap.push (JJ a ((its.toArray.size:Int) - 1))).objs.size=s1.heap.objs.size+1:=BE ..
  have keep:∀b ob,s1.heap.get? b=some ob→h3.get? b=some ob:=fun b ob z=>by
   have hb:=AC z
   refine m.heap b ob (fun y=>?_) (Aq _ (Aq _ z))
   rcases AB.mp y with y |y
   ·rw[y] at hb
    have hb':s1.heap.objs.size+1 < s1.heap.objs.size:=by rw[←szI];exact hb
    exact absurd hb' (by omega)
   ·rw[BA.mp y] at hb;exact Bs _ hb
  have hacc:acc.toList=its.reverse:=by
   apply Cz
   intro i
   rcases CB i acc.size with z |z
   ·have y:=hit.2 i _ (C8 z)
    have hi:i < its.length:=by rw[hit.1,hsz] at z;exact z
    rw[Bj,C8 z,BU hi,←y,hsz]
    simp
   ·have hi:its.length≤i:=by rw[hit.1,hsz] at z;exact z
    rw[AZ (by simpa using z),AZ (by simpa using hi)]
  generalize hn:(s1.heap.push (JJ a ((its.toArray.size:Int) - 1))).objs.size=D at *
  have fr:H1 D=none:=I2.hok.fresh (by rw[←hn];exact Ay _)
  have I3:Inv X pins σ (upd H1 D (.lst ws.reverse)) {s1 with heap:=h3,toks:=tk3 }:=I1.laid (t':=tk3) (o:=.lst ws.reverse) keep (by rw[szI];exact JF _) ⟨by rw[Bn];exact hz,its.reverse,c,rw'.rev,by rw[←hacc,Array.toArray_toList];exact hD⟩
  refine ⟨.ref D,_,I3,rfl,q D _ _ (sm.trans (aN fr _)) (sm.free fr) aQ ?_⟩
  exact rs.rev.same (bL (aN fr _) fr)
end
theorem SubP.trans:∀{p q r:PSt},SubP p q→SubP q r→SubP p r
 |[],[],[],_,_=>trivial
 |none::p,none::q,_::r,h1,h2=>SubP.trans (p:=p) (q:=q) h1 h2
 |none::p,some _::q,_::r,h1,h2=>SubP.trans (p:=p) (q:=q) h1 h2.2
 |some _::p,some _::q,_::r,h1,h2=>⟨h2.1.trans h1.1,SubP.trans (p:=p) (q:=q) h1.2 h2.2⟩
 |some _::p,none::q,_::r,h1,h2=>by cases h1.1
 |[],_::_,_,h1,_=>h1.elim
 |none::_,[],_,h1,_=>h1.elim
 |some _::_,[],_,h1,_=>h1.elim
 |[],[],_::_,_,h2=>h2.elim
 |_::_,none::_,[],_,h2=>h2.elim
 |_::_,some _::_,[],_,h2=>h2.elim
section
variable {X:Cx}{H0:Hp}{O0:List Addr}{ps:PSt}{xs:List U}{us:List U}{es:List Expr}{x:Str}{pc p' pos:Pos}
theorem gC (n:Nat) (h:ps[n]?=some (some (.own xs))) (hg:Gl X "len") (hm:X.mg "len"=none) (hN:X.N[n]?=some x:=by rfl) (hv:Vis X.env.scope x:=by first |exact Or.inl rfl |exact Or.inr (Or.inl rfl) |exact Or.inr (Or.inr rfl)) (hd:(x==("__debug__":Str))=false:=by decide)
  (hcd:(x==("__classdict__":Str))=false:=by decide) (hpl:(Ec pos (AL [] X.env)).any (·.1)=false:=by rfl):Ev X H0 O0 ps (.Call (.Name "len" pc) [.Name x p'] [] pos) (.int xs.length):=xx n h hg hm hN hv hd hcd af hpl
end
end L2
namespace ST
open PySem
abbrev z7 (h:Heap) (z TI TO T:Addr) (b:Bool):Prop:=h.get? z=some {cls:=.type "zip",dict:=none,data:=.fields #[Dt T,.bool b,.bool false,.ref TI,.ref TO],slots:=#[] }
section
variable {prog:AD}{w:World}{A:A5}{E:Value→As→Prop}{s:As}
end
structure ZL (xs ys:Array Value) (z TI TO i1 i2 l1 l2 S:Addr) (h:Heap) (i:Nat) (ad:List Addr) (c:Nat):Prop where
 ti:IsPair h TI (.ref i1) (.ref i2)
 a1:h.IsListIter i1 l1 i
 a2:h.IsListIter i2 l2 i
 b1:h.IsList l1 xs
 b2:h.IsList l2 ys
 acc:h.get? S=some {cls:=.type "list",dict:=none,data:=.seq (ad.map Bk).toArray c,slots:=#[] }
 len:ad.length=i
 tup:∀(j:Nat) (a:Addr),ad[j]?=some a→∃x y,xs[j]?=some x∧ys[j]?=some y∧IsPair h a x y
 far:∀a∈ad,a≠z∧a≠TO∧a≠i1∧a≠i2∧a≠S
 to:∃o,h.get? TO=some o
 nd:ad.Nodup
 zz:(i=0∧IsZip h z TI TO .none∧∃a b,IsPair h TO a b)∨(∃b T,ad[0]?=some T∧z7 h z TI TO T b)
section
variable {prog:AD}{w:World}{A:A5}{R:GV→As→Prop}
end
section
variable {prog:AD}{w:World}{A:A5}{R:GV→As→Prop}
structure ZF (xs ys:Array Value) (S:Addr) (h:Heap) (ad:List Addr) (c:Nat):Prop where
 acc:h.get? S=some {cls:=.type "list",dict:=none,data:=.seq (ad.map Bk).toArray c,slots:=#[] }
 len:ad.length=ys.size
 tup:∀(j:Nat) (a:Addr),ad[j]?=some a→∃x y,xs[j]?=some x∧ys[j]?=some y∧IsPair h a x y
 ne:∀a∈ad,a≠S
 nd:ad.Nodup
end
section
variable {prog:AD}{w:World}{A:A5}{E:Value→As→Prop}{s:As}
end
section
variable {prog:AD}{w:World}{A:A5}{R:GV→As→Prop}{s:As}
end
section
variable {prog:AD}{w:World}{A:A5}{E:Value→As→Prop}{s:As}
end
end ST
namespace L2
open PySem PySem.Spec PyProof.Rows
theorem Ah {a b:Nat} (h:a < b∨b < a):@Ne Addr a b:=fun e=>by
 have e':a=b:=e
 omega
theorem si:Cp "zip"=some (.type "zip"):=by decide+kernel
section
variable {P:AD}{w:World}{H:Hp}{h:Heap}{a:Addr}{o:HO}
end
section
variable {X:Cx}{H0:Hp}{O0:List Addr}{ps:PSt}{e f:Expr}{x y:U}{xs ys:List U}{pos pos' p p':Pos}
end
section
variable {X:Cx}{ns:List Int}{M:Int}
end
end L2
namespace ST
open PySem PyProof.Rows
section
variable {prog:AD}{w:World}{A:A5}{E:Value→As→Prop}{s:As}
end
end ST
namespace L2
open PySem PySem.Spec PyProof.Rows
section
variable {X:Cx}{H0:Hp}{O0:List Addr}{ps:PSt}{a b c:Expr}{pos:Pos}{x y z:U}{p q:P2}{k m:Bool}
theorem yM {pins:List (Addr×Obj)}{σ:List (Option V)}{H:Hp}{s:As} (I:Inv X pins σ H s) {v:V}{u:Value} (r:Rp X.K H v (pu p)) (e:aW v u):∃b,u=.ref b∧ST.TK X.prog X.w s.heap [p.1,p.2] b:=by
 cases r with
 | @tup b zs _ hs hsl hsi=>
  cases e
  refine ⟨b,rfl,?_⟩
  obtain ⟨jts,rj,ht,_⟩:=I.tuple hs
  have z0:zs.length=2:=hsl
  match zs,z0,hsi,rj with
  |[z1,z2],_,hsi,rj=>
   have q1:=hsi 0 z1 _ rfl rfl
   have q2:=hsi 1 z2 _ rfl rfl
   cases q1
   cases q2
   obtain ⟨u1,u2,rfl,r1,r2⟩:=mq rj
   obtain ⟨t1,rfl⟩:=r1
   obtain ⟨t2,rfl⟩:=r2
   obtain ⟨o,ho,hoc,n,hod⟩:=ht
   exact ⟨o,_,n,ho,hoc,hod,.cons (Co _ _ _ _) (.cons (Co _ _ _ _) .nil)⟩
end
section
variable {X:Cx}{p q:P2}{l:List P2}
theorem w_ {pins:List (Addr×Obj)}{σ:List (Option V)}{H:Hp}{s:As} (I:Inv X pins σ H s) {v:V}{u:Value} (r:Rp X.K H v (pu p)) (e:aW v u):∃b,u=.ref b∧∀prog w,ST.TK prog w s.heap [p.1,p.2] b:=by
 cases r with
 | @tup b zs _ hs hsl hsi=>
  cases e
  refine ⟨b,rfl,fun prog w=>?_⟩
  obtain ⟨jts,rj,ht,_⟩:=I.tuple hs
  have z0:zs.length=2:=hsl
  match zs,z0,hsi,rj with
  |[z1,z2],_,hsi,rj=>
   have q1:=hsi 0 z1 _ rfl rfl
   have q2:=hsi 1 z2 _ rfl rfl
   cases q1
   cases q2
   obtain ⟨u1,u2,rfl,r1,r2⟩:=mq rj
   obtain ⟨t1,rfl⟩:=r1
   obtain ⟨t2,rfl⟩:=r2
   obtain ⟨o,ho,hoc,n,hod⟩:=ht
   exact ⟨o,_,n,ho,hoc,hod,.cons (Co _ _ _ _) (.cons (Co _ _ _ _) .nil)⟩
end
section
variable {X:Cx}{H0:Hp}{O0:List Addr}{ps:PSt}{e:Expr}{pts:List P2}{pos pos' p p':Pos}
end
end L2
namespace ST
open PySem
section
variable {prog:AD}{w:World}{A:A5}{R:GV→As→Prop}{I S:Addr}{fp wr:List Addr}{n:Nat}{P:Nat→Value→Prop}{St:Nat→Heap→Prop}{G:Heap→Prop}{bt:Nat→Nat→Bool}
end
section
variable {prog:AD}{w:World}{A:A5}{E:Value→As→Prop}{s:As}
end
section
variable {prog:AD}{w:World}{A:A5}{R:GV→As→Prop}{I S:Addr}{fp wr:List Addr}{n:Nat}{P:Nat→Value→Prop}{St:Nat→Heap→Prop}{G:Heap→Prop}{bt:Nat→Nat→Bool}
end
section
variable {prog:AD}{w:World}{A:A5}{E:Value→As→Prop}{s:As}
end
end ST
namespace ST
open PySem PyProof.Rows
section
variable {prog:AD}{w:World}{A:A5}{E:Value→As→Prop}{s:As}
theorem pH {x y:Int}{t u:Tok}{Q:Value→As→Prop} (h:Q (.bool (decide (x < y))) s):wpAny (model prog w) A (FE .Lt (.int x t) (.int y u)) Q E s:=
 richCompare_gives (op:=.Lt) (Jb s _ t) (Jb s _ u) PySem.F.slot_int_lt PySem.F.entry_int_lt (PySem.F.args_int_lt_2 _ _) (gives_int_lt _ _ t u) (fun x=>nomatch x) h
theorem uw {x y:Addr}{a b:Int×Int}{P:Fin→As→Prop} (hx:TK prog w s.heap [a.1,a.2] x) (hy:TK prog w s.heap [b.1,b.2] y) (h:P (.done (.ret (.bool (ltP a b)))) s):
  wpAny (model prog w) A (Builtin.«tuple.__lt__» ⟨[.ref x,.ref y],[]⟩) P E s:=by
 have hTb:=hy.typeIs
 obtain ⟨o,its,n,t,u,ho,_,hd,hi⟩:=hx.two
 obtain ⟨o',its',n',t',u',ho',_,hd',hi'⟩:=hy.two
 show wpAny _ _ (isInstance (.ref y) (.type "tuple") >>=_) _ _ s
 refine Ao (Dp hTb isSubtype_tuple_tuple ?_)
 simp only[C4,AR,if_false]
 refine Ao (G_ ho hd ?_)
 refine Ao (G_ ho' hd' ?_)
 have sz:its.size=its'.size:=by rw[←AS,←AS,hi,hi'];rfl
 rw[hi,hi']
 refine Ao ?_
 simp only[Eb,List.zip_nil_left,EZ,GM]
 refine Ao (Ao ((DF prog w).eqBool (a:=a.1) (b:=b.1) (Co _ _ _ _) (Co _ _ _ _) ?_))
 by_cases e1:a.1=b.1
 ·rw[decide_eq_true e1]
  simp only[C4,AR,if_false]
  refine Au ?_
  refine Ao (Ao ((DF prog w).eqBool (a:=a.2) (b:=b.2) (Co _ _ _ _) (Co _ _ _ _) ?_))
  by_cases e2:a.2=b.2
  ·rw[decide_eq_true e2]
   simp only[C4,AR,if_false]
   refine Au (Au ?_)
   have z:ltP a b=false:=by unfold ltP;simp;omega
   rw[z] at h
   refine Au ?_
   show P (.done (.ret (.bool (decide (its.size < its'.size))))) s
   rw[sz,decide_eq_false (Bs _)]
   exact h
  ·rw[decide_eq_false e2]
   simp only[Fh,if_true]
   have z:ltP a b=decide (a.2 < b.2):=by unfold ltP;rw[e1];simp
   rw[z] at h
   exact Ao (Gw (Ao (pH (Ao (Au (Au (Au (Au h))))))))
 ·rw[decide_eq_false e1]
  simp only[Fh,if_true]
  have z:ltP a b=decide (a.1 < b.1):=by unfold ltP;simp[e1]
  rw[z] at h
  exact Ao (Gw (Ao (pH (Ao (Au (Au (Au (Au h))))))))
theorem vx {x y:Addr}{a b:Int×Int}{Q:Value→As→Prop} (hu:A.units < cLine) (hx:TK prog w s.heap [a.1,a.2] x) (hy:TK prog w s.heap [b.1,b.2] y) (h:Q (.bool (ltP a b)) s):
  wpAny (model prog w) A (B5 .Lt (.ref x) (.ref y)) Q E s:=
 wpAny_richCompare_same_room (op:=.Lt) hx.typeIs hy.typeIs Gk
  (B9 Gk hx.typeIs PySem.F.entry_tuple_lt (uw hx hy ⟨_,rfl,(fun e=>nomatch e),h⟩) (PySem.F.args_tuple_lt_2 _ _)) hu
end
end ST
namespace L2
open PySem PySem.Spec PyProof.Rows
section
variable {X:Cx}{pts:List P2}{M:P2}
end
section
variable {X:Cx}{H0:Hp}{O0:List Addr}{ps:PSt}{xs:List U}{x:Str}{pos pc p':Pos}
end
section
variable {X:Cx}{H0:Hp}{O0:List Addr}{ps:PSt}{x:Str}{pos:Pos}{a b:Expr}{i j:Int}
end
section
variable {X:Cx}{H0:Hp}{O0:List Addr}{ps:PSt}{e tg:Expr}{p pos:Pos}{xs:List U}{x:U}
end
section
variable {X:Cx}{H0:Hp}{O0:List Addr}{ps:PSt}{a b:Expr}{pos:Pos}{xs:List U}{u:U}{k:Int}
end
end L2
namespace L2
open PySem PySem.Spec PySem.W PyProof.Rows
section
variable {X:Cx}
end
end L2
namespace L2
open PySem PySem.Spec PyProof.Rows
section
variable {X:Cx}{H0:Hp}{O0:List Addr}{E:XK}{ps ps':PSt}{D:PD}{s:Stmt}{ss body:List Stmt}{a b c e:Expr}{es:List Expr}{pos p:Pos}{u x y:U}{xs ys us:List U}{k:Bool}
 {CX:CXT}{n:Nat}{f C:Addr}{fd:A9}{pn:List Str}{spec:List U→Out→Prop}{nm:Str}
end
theorem Rs.free {K:Ap}{H0 H:Hp}{O0 O:List Addr}{ps:PSt}{σ:St}{xs:List U} (n:Nat) (h:ps[n]?=some (some (.own xs))) (R:Rs K H0 O0 ps σ H O):∃O',(∀b∈O',b∈O)∧Rs K H0 O0 (ps.set n (some (.val (.lst xs)))) σ H O':=by
 obtain ⟨v,hv,a,vs,rfl,ha,ha0,hH,rs⟩:=R.at_ n _ h
 have less:∀b∈O.filter (fun b=>decide (b≠a)),b∈O:=fun b hb=>(Cd.mp hb).1
 have keep:∀b∈O,b≠a→b∈O.filter (fun b=>decide (b≠a)):=fun b hb ne=>Cd.mpr ⟨hb,by simpa using ne⟩
 have sm:aI (hid H O) (hid H (O.filter (fun b=>decide (b≠a)))):=dH less
 have na:a ∉ O.filter (fun b=>decide (b≠a)):=fun z=>by have:=(Cd.mp z).2;simp at this
 refine ⟨O.filter (fun b=>decide (b≠a)),less,R.same,fun b hb=>keep b (R.old b hb) fun e=>ha0 (e ▸ hb),fun b hb=>R.new b (less b hb),fun b hb=>R.dom b (less b hb),by rw[R.len,D7],fun i s hs=>?_,fun i j ys zs b h1 h2 h3 h4=>?_⟩
 ·rcases di hs with ⟨rfl,e⟩ |⟨ne,hs⟩
  ·cases e
   exact ⟨.ref a,hv,.lst (dj hH na) (rs.same sm).len (rs.same sm).at_⟩
  ·obtain ⟨w,hw,ok⟩:=R.at_ i s hs
   refine ⟨w,hw,?_⟩
   cases s with
   |val u=>exact Rp.same sm ok
   |own ys=>
    obtain ⟨b,ws,rfl,hb,hb0,hHb,rsb⟩:=ok
    refine ⟨b,ws,rfl,keep b hb fun e=>?_,hb0,hHb,rsb.same sm⟩
    subst e
    exact ne (R.inj n i _ _ b h hs hv hw)
   |pin z u=>exact ⟨ok.1,Rp.same sm ok.2⟩
 ·rcases di h1 with ⟨_,e⟩ |⟨_,h1⟩
  ·cases e
  ·rcases di h2 with ⟨_,e⟩ |⟨_,h2⟩
   ·cases e
   ·exact R.inj i j _ _ b h1 h2 h3 h4
section
variable {X:Cx}{H0:Hp}{O0:List Addr}{E:XK}{ps:PSt}{D:PD}{ss:List Stmt}{e:Expr}{xs:List U}{b:Bool}
theorem lC (n:Nat) (h:ps[n]?=some (some (.own xs))) (w:Ws X H0 O0 E ss D (ps.set n (some (.val (.lst xs))))):Ws X H0 O0 E ss D ps:=
 PSs.mono w fun D' σ H ⟨L,O,R⟩=>by
  obtain ⟨O',_,R'⟩:=R.free n h
  exact ⟨L,O',R'⟩
end
section
variable {X:Cx}{ns:List Int}{M:Int}
end
section
variable {X:Cx}{H0:Hp}{O0:List Addr}{E:XK}{ps:PSt}{D:PD}{e:Expr}{pos:Pos}{xs ys:List U}
end
end L2
namespace L2
open PySem PySem.Spec PySem.W PyProof.Rows
section
variable {X:Cx}
end
section
variable {X:Cx}{H0:Hp}{O0:List Addr}{E:XK}{ps:PSt}{D:PD}{a e:Expr}{es:List Expr}{us:List U}{k:Bool}{n:Nat}{fd:A9}{pn:List Str}{spec:List U→Out→Prop}
end
end L2
namespace L2
open PySem PySem.Spec PyProof.Rows
section
variable {X:Cx}{H0:Hp}{O0:List Addr}{ps:PSt}{a b:Expr}{p:P2}{l:List P2}
end
end L2
namespace ST
open PySem PySem.W PySem.Calls PyProof.Rows
section
variable {prog:AD}{w:World}{A:A5}{E:Value→As→Prop}{s:As}
end
end ST
namespace L2
open PySem PySem.Spec PyProof.Rows
section
variable {X:Cx}{H0:Hp}{O0:List Addr}{ps:PSt}{e:Expr}{p pos:Pos}{a b:P2}
end
end L2
namespace ST
open PySem PySem.W PySem.Calls PyProof.Rows
section
variable {prog:AD}{w:World}{A:A5}{E:Value→As→Prop}{s:As}
theorem call_sortedL {l:Addr}{pb:PB}{Q:Value→As→Prop} (hl:s.heap.IsList l (refs pb).toArray) (htk:∀p∈pb,TK prog w s.heap [p.1.1,p.1.2] p.2) (hnd:(pb.map (·.1)).Nodup) (h64:pb.length < 64)
  (h:∀(h1 h':Heap) (tk:Nat) (pb':PB) (e:Nat),pb'.Perm pb→(pb'.map (·.1)).Pairwise (fun x y=>ltP x y=true)→(∀c o,s.heap.get? c=some o→h1.get? c=some o)→(∀c o,h1.get? c=some o→h'.get? c=some o)→h'.get? h1.objs.size=some (C_ "list" (refs pb').toArray e)→Q (.ref h1.objs.size) {s with heap:=h',toks:=tk }):
  wpAny (model prog w) A (call (.builtin "sorted") [.ref l]) Q E s:=by
 have hrl:(refs pb).length=pb.length:=by simp
 refine Fj Ib Hu Hv (Hw _) ?_
 unfold Builtin.«sorted»
 refine Ao (m:=Jd "sorted" 1 1 _) (Au ?_)
 refine Ao (collect_list hl ?_ (by rw[hrl,BC];omega))
 refine Ao (Ea ?_ (by rw[hrl,BC];omega))
 generalize hg:(s.heap.push (C_ "list" #[] 0)).update s.heap.objs.size (BQ (·++(refs pb).toArray))=h1
 have keep:∀c o,s.heap.get? c=some o→h1.get? c=some o:=fun c o e=>by
  rw[←hg,Bc _ _ (CA (AC e))]
  exact Aq _ e
 have hD:(h1.push {cls:=.type "list",data:=.seq (refs pb).toArray }).get? h1.objs.size=some (C_ "list" (refs pb).toArray 0):=AE _ rfl
 have up:∀p∈pb,TK prog w (h1.push {cls:=.type "list",data:=.seq (refs pb).toArray }) [p.1.1,p.1.2] p.2:=fun p hp=>by
  obtain ⟨o,its,n,ho,r⟩:=htk p hp
  exact ⟨o,its,n,Aq _ (keep _ _ ho),r⟩
 refine Ao (Bt (B9 GJ ⟨_,hD,rfl⟩ Gi ?_ (GK _)))
 refine mr (s:={s with heap:=h1.push {cls:=.type "list",data:=.seq (refs pb).toArray } }) hD up hnd h64 fun pb' pp so=>⟨_,rfl,Au ⟨_,rfl,?_⟩⟩
 obtain ⟨e,eD⟩:=G8 (out:=(refs pb').toArray) hD
 refine h h1 _ s.toks pb' e pp so keep (fun c o hb=>?_) eD
 have hlt:=AC hb
 rw[GL (A4 hlt) (by rw[BE];exact Cu hlt)]
 exact Aq _ hb
end
end ST
namespace L2
open PySem PySem.Spec PyProof.Rows
section
variable {X:Cx}{H0:Hp}{O0:List Addr}{ps:PSt}{e:Expr}{pts:List P2}{pos p:Pos}
theorem kU (hg:Gl X "sorted") (hm:X.mg "sorted"=none) (ha:Ev X H0 O0 ps e (lp pts)) (hl:pts.length < 64∧pts.Nodup)
  (he:AL [e] X.env=(false,eval e X.env)::AL [] X.env:=by rfl):EvN X H0 O0 ps (.Call (.Name "sorted" p) [e] [] pos) ((ST.srt pts).map pu):=by
 obtain ⟨hl,hn⟩:=hl
 rintro pins s σ H Q I ⟨O,R,q⟩
 refine Bp (cT I hg hm GR ?_)
 refine callWith_builtin1 (e:=e) (rest:=[]) (thn (cJ ha d8 he pos pins s σ H (fun vs H1=>∃v,vs=[v]∧aI H H1∧Rp X.K (hid H1 O) v (lp pts)) I ⟨O,R,fun v H1 s1 r1=>⟨v,rfl,s1,r1⟩⟩) fun us s1 hx=>?_) he rfl
 obtain ⟨vs,H1,I1,rv,v,rfl,sm,rp⟩:=hx
 obtain ⟨u,rfl,ru⟩:=gu rv
 cases rp with
 | @lst a ws _ hq hwl hwi=>
  cases ru
  obtain ⟨its,rw',pl,hz⟩:=I1.list (SqL.of (aC _ _ hq))
  have hlp:ws.length=pts.length:=by rw[hwl,Ar]
  have hil:its.length=pts.length:=by rw[←rw'.length,hlp]
  have item:∀i,i < pts.length→∃b,its[i]?=some (.ref b)∧Rp X.K (hid H1 O) (.ref b) (pu (pts.getD i (0,0)))∧ST.TK X.prog X.w s1.heap [(pts.getD i (0,0)).1,(pts.getD i (0,0)).2] b:=fun i hi=>by
   have hw:ws[i]?=some ws[i]:=An (by omega)
   have hp:(pts.map pu)[i]?=some (pu (pts.getD i (0,0))):=by rw[Av,An hi];simp[hi]
   have r:=hwi i _ _ hw hp
   obtain ⟨u',e1,e2⟩:=rw'.get hw
   obtain ⟨b,rfl,tb⟩:=w_ I1 (r.same aC) e2
   have ez:ws[i]=.ref b:=by
    generalize ws[i]=z at r e2
    cases r;cases e2;rfl
   rw[ez] at r
   exact ⟨b,e1,r,tb _ _⟩
  let ad:Nat→Addr:=fun i=>match its[i]? with |some (.ref b)=>b |_=>0
  have adE:∀i,i < pts.length→its[i]?=some (.ref (ad i))∧Rp X.K (hid H1 O) (.ref (ad i)) (pu (pts.getD i (0,0)))∧ST.TK X.prog X.w s1.heap [(pts.getD i (0,0)).1,(pts.getD i (0,0)).2] (ad i):=fun i hi=>by
   obtain ⟨b,e1,e2,e3⟩:=item i hi
   have:ad i=b:=by show (match its[i]? with |some (.ref b)=>b |_=>0)=b;rw[e1]
   rw[this];exact ⟨e1,e2,e3⟩
  generalize ad=ad' at adE
  clear ad
  generalize hpb:((Bi pts.length).map fun i=>((pts.getD i (0,0),ad' i):(Int×Int)×Addr))=pb
  have hits:its=ST.refs pb:=by
   apply Cz
   intro i
   rw[←hpb]
   unfold ST.refs
   rcases CB i pts.length with z |z
   ·rw[(adE i z).1];simp[z]
   ·rw[AZ (by omega),AZ (by simpa using z)]
  have h1p:pb.map (·.1)=pts:=by
   rw[←hpb,Bf]
   apply Cz
   intro i
   rcases CB i pts.length with z |z
   ·simp[z]
   ·rw[AZ (by simpa using z),AZ z]
  have srcb:∀z∈pb,∃j,j < pts.length∧z=(pts.getD j (0,0),ad' j):=fun z hz=>by
   rw[←hpb] at hz
   obtain ⟨j,hj,rfl⟩:=Az.mp hz
   exact ⟨j,AQ.mp hj,rfl⟩
  have hbl:pb.length=pts.length:=by rw[←h1p,Ar]
  rw[hits] at pl
  refine ST.call_sortedL (pb:=pb) pl.isList (fun z hz=>?_) (by rw[h1p];exact hn) (by omega) fun h3 h4 tk2 pb' ep pm so k1 k2 hD=>?_
  ·obtain ⟨j,hj,rfl⟩:=srcb z hz
   exact (adE j hj).2.2
  ·have I3:Inv X pins σ H1 {s1 with heap:=h3,toks:=tk2 }:=I1.kept (t':=tk2) k1
   have src:∀z∈pb',∃j,j < pts.length∧z=(pts.getD j (0,0),ad' j):=fun z hz=>srcb z (pm.mem_iff.mp hz)
   have epts:pb'.map (·.1)=ST.srt pts:=by
    refine ST.asc_one so (ST.srt_asc pts) fun z=>?_
    rw[ST.srt_mem,(pm.map (·.1)).mem_iff,h1p]
   have fr:H1 h3.objs.size=none:=I3.hok.fresh (Ay _)
   refine ⟨.ref h3.objs.size,upd H1 h3.objs.size (.lst (pb'.map fun z=>V.ref z.2)),?_,rfl,?_⟩
   ·refine I3.laid (t':=tk2) k2 (Ay _) ⟨?_,(ST.refs pb'),ep,?_,hD⟩
    ·rw[Ar,pm.length_eq,hbl,BC]
     omega
    ·have all:∀l:ST.PB,aR (l.map fun z=>V.ref z.2) (ST.refs l):=fun l=>by
      induction l with
      |nil=>exact .nil
      |cons z r ih=>exact .cons rfl ih
     exact all pb'
   ·refine q _ _ _ (sm.trans (aN fr _)) (sm.free fr) aQ ⟨?_,fun i z x e1 e2=>?_⟩
    ·rw[Ar,←epts,Ar,Ar]
    ·rw[←epts,Bf,Av] at e2
     rw[Av] at e1
     cases hpi:pb'[i]? with
     |none=>rw[hpi] at e1;cases e1
     |some y=>
      rw[hpi] at e1 e2
      cases e1
      cases e2
      obtain ⟨j,hj,rfl⟩:=src y (AO hpi)
      exact (adE j hj).2.1.same (bL (aN fr _) fr)
end
end L2
namespace L2
open PySem PySem.Spec PySem.W PyProof.Rows
section
variable {X:Cx}
end
section
variable {X:Cx}{H0:Hp}{O0:List Addr}{E:XK}{ps:PSt}{D:PD}{a e:Expr}{es:List Expr}{us:List U}{k:Bool}{n:Nat}{fd:A9}{pn:List Str}{spec:List U→Out→Prop}
end
structure Am (K:Ap) (x qual:Str) (st:Stmt) (f:Addr) (fd:A9) (D:Addr):Prop where
 ex:∃(oc:Value) (od:Option Addr) (kV doc pm:Value) (an:Option Addr) (cdv ct:Value) (osl:Array (Option Value)),
  fd=AW x qual (aD st) (ay st) (ag st) (.ref D) kV doc pm an cdv ct∧K.lookup f=some ⟨oc,od,.func fd,osl⟩∧AJ K cdv qual=true
 kp:AI K (.ref f)=true
section
variable {P:AD}{w:World}{K:Ap}{mg:Str→Option Value}{base:Heap}{N pn:List Str}{qual nm:Str}{f D:Addr}
end
section
variable {X:Cx}{H0:Hp}{O0:List Addr}{ps:PSt}{e:Expr}{es:List Expr}{pos p:Pos}{u:U}{us:List U}{xs:List U}{CX:CXT}{n:Nat}{f:Addr}{fd:A9}{pn:List Str}{spec:List U→Out→Prop}{nm:Str}{j:Int}
end
end L2
namespace L2
open PySem PySem.Spec PyProof.Rows
section
variable {X:Cx}{H0:Hp}{O0:List Addr}{ps:PSt}{a b:Expr}{k:Int}{ns:List Int}
end
section
variable {X:Cx}{tg:Expr}
variable {H0:Hp}{O0:List Addr}{ps:PSt}{a b:Expr}{p pos:Pos}
end
section
variable {X:Cx}{H0:Hp}{O0:List Addr}{E:XK}{ps ps':PSt}{D:PD}{tg iter cond:Expr}{pos p:Pos}{xs:List U}
end
section
variable {X:Cx}{H0:Hp}{O0:List Addr}{ps:PSt}{e:Expr}{ns:List Int}{pos p:Pos}
end
section
variable {X:Cx}{H0:Hp}{O0:List Addr}{E:XK}{ps:PSt}{D:PD}{c:Expr}{pos:Pos}{xs:List U}
end
end L2
namespace TS
open PySem PyProof.Rows
abbrev SM:=StateT SortSt Sem
section
variable {prog:AD}{w:World}{A:A5}{E:Value→As→Prop}{s:As}
def gt (a:Array Keyed) (i:Nat):Keyed:=a.getD i (AY,AY)
end
section
variable {prog:AD}{w:World}{A:A5}{E:Value→As→Prop}{s:As}
end
section
variable {α:Type}{R:α→α→Bool}{A B out:List α}{ia ib:Nat}
structure MI (R:α→α→Bool) (A B out:List α) (ia ib:Nat):Prop where
 perm:out.Perm (A.take ia++B.take ib)
 srt:out.Pairwise fun x y=>R x y=true
 lA:∀x∈out,∀y∈A.drop ia,R x y=true
 lB:∀x∈out,∀y∈B.drop ib,R x y=true
structure MO (R:α→α→Bool) (A B:List α):Prop where
 tr:∀x y z,R x y=true→R y z=true→R x z=true
 sA:A.Pairwise fun x y=>R x y=true
 sB:B.Pairwise fun x y=>R x y=true
 tot:∀x∈A,∀y∈B,R y x=false→R x y=true
end
section
variable {M:Model}{A:A5}{E:Value→As→Prop}{s:As}{σ:Type}
end
section
variable {prog:AD}{w:World}{A:A5}{E:Value→As→Prop}{s:As}
def oJ (prog:AD) (w:World) (A:A5) (E:Value→As→Prop) (s:As) (κ:Eu) (P:Keyed→Prop) (R:Keyed→Keyed→Bool):Prop:=
 ∀x y st (Q:Option Bool→SortSt→Prop),P x→P y→kindOf st=κ→Q (some (R x y)) st→wpS (model prog w) A E s (lt' x y) Q st
variable {κ:Eu}{P:Keyed→Prop}{R:Keyed→Keyed→Bool} (K:oJ prog w A E s κ P R)
include K
end
section
variable {α:Type}{R:α→α→Bool}{A B:List α}
end
section
variable {prog:AD}{w:World}{A:A5}{E:Value→As→Prop}{s:As}{κ:Eu}{P:Keyed→Prop}{R:Keyed→Keyed→Bool} (K:oJ prog w A E s κ P R)
include K
end
section
end
section
variable {prog:AD}{w:World}{A:A5}{E:Value→As→Prop}{s:As}{κ:Eu}{P:Keyed→Prop}{R:Keyed→Keyed→Bool} (K:oJ prog w A E s κ P R)
include K
end
section
variable {prog:AD}{w:World}{A:A5}{E:Value→As→Prop}{s:As}{κ:Eu}{P:Keyed→Prop}{R:Keyed→Keyed→Bool}
structure Ord (P:Keyed→Prop) (R:Keyed→Keyed→Bool) (l:List Keyed):Prop where
 tr:∀x y z,R x y=true→R y z=true→R x z=true
 tot:∀x∈l,∀y∈l,x≠y→R x y=false→R y x=true
 nd:l.Nodup
 hp:∀x∈l,P x
structure Stt (κ:Eu) (l:List Keyed) (pd:Array (Nat×Nat×Nat)) (st:SortSt):Prop where
 kind:kindOf st=κ
 failed:failedOf st=none
 perm:(arrOf st).toList.Perm l
 pend:pendingOf st=pd
variable {l:List Keyed}{pd:Array (Nat×Nat×Nat)}
def Kept (a b:Array Keyed) (lo:Nat):Prop:=∀j,j < lo→gt b j=gt a j
variable (K:oJ prog w A E s κ P R)
include K
end
section
variable {prog:AD}{w:World}{A:A5}{E:Value→As→Prop}{s:As}{κ:Eu}{P:Keyed→Prop}{R:Keyed→Keyed→Bool}{l:List Keyed}{pd:Array (Nat×Nat×Nat)}
variable (K:oJ prog w A E s κ P R)
include K
end
section
variable {prog:AD}{w:World}{A:A5}{E:Value→As→Prop}{s:As}{κ:Eu}{P:Keyed→Prop}{R:Keyed→Keyed→Bool}{l:List Keyed}
variable (K:oJ prog w A E s κ P R)
include K
end
section
variable {prog:AD}{w:World}{A:A5}{E:Value→As→Prop}{s:As}{κ:Eu}{P:Keyed→Prop}{R:Keyed→Keyed→Bool}{l:List Keyed}
variable (K:oJ prog w A E s κ P R)
include K
end
end TS
namespace ST
open PySem PySem.W PyProof.Rows
abbrev ky (p:(Int×Int)×Addr):Keyed:=(Bk p.2,Bk p.2)
open Classical in
noncomputable def RP (pb:PB) (x y:Keyed):Bool:=decide (∃p∈pb,∃q∈pb,x=ky p∧y=ky q∧ltP p.1 q.1=true)
section
variable {prog:AD}{w:World}{A:A5}{E:Value→As→Prop}{s:As}
end
end ST
namespace ST
open PySem PySem.W PyProof.Rows PySem.Calls
section
variable {prog:AD}{w:World}{A:A5}{E:Value→As→Prop}{s:As}
end
end ST
namespace L2
open PySem PySem.Spec PyProof.Rows
section
variable {X:Cx}{H0:Hp}{O0:List Addr}{ps:PSt}{e:Expr}{pts:List P2}{pos pos' p p':Pos}
end
section
variable {X:Cx}{tg:Expr}
variable {H0:Hp}{O0:List Addr}{ps:PSt}{a:Expr}{p pos:Pos}
end
end L2
namespace ST
open PySem PySem.W PySem.Calls PyProof.Rows
section
variable {prog:AD}{w:World}{A:A5}{E:Value→As→Prop}{s:As}
end
end ST
namespace L2
open PySem PySem.Spec PyProof.Rows
section
variable {X:Cx}{H0:Hp}{O0:List Addr}{ps:PSt}{e:Expr}{pts:List P2}{pos p:Pos}
end
section
variable {X:Cx}{H0:Hp}{O0:List Addr}{E:XK}{ps ps':PSt}{D:PD}{a b c e:Expr}{es:List Expr}{u:U}{xs ys us:List U}
 {n:Nat}{C:Addr}{fd:A9}{pn:List Str}{spec:List U→Out→Prop}
end
end L2
namespace L2
open PySem PySem.Spec PySem.W PyProof.Rows
section
variable {X:Cx}{H0:Hp}{O0:List Addr}{E:XK}{ps:PSt}{D:PD}{s:Stmt}{pos:Pos}{u:U}{xs:List U}
end
section
variable {P:AD}{w:World}{K:Ap}{mg:Str→Option Value}{base:Heap}{N pn:List Str}{qual nm:Str}{f:Addr}
end
section
variable {X:Cx}{H0:Hp}{O0:List Addr}{ps:PSt}{e:Expr}{xs:List U}{us:List U}{x nm:Str}{pc p' pos:Pos}{u:U}
end
section
variable {X:Cx}
def TB (X:Cx) (body:List Stmt) (t:(St→Hp→Prop)→(St→XK)→St→Hp→Prop):Prop:=
 ∀(pins:List (Addr×Obj)) (s:As) (σ:St) (H:Hp) (N:St→Hp→Prop) (EX:St→XK) (Q:Flow→As→Prop) (E':Value→As→Prop),Inv X pins σ H s→t N EX σ H→(∀σ' H' s',Inv X pins σ' H' s'→N σ' H'→Q .next s')→
  (∀σ1 s1 H1 ev s',Inv X pins σ1 H1 s1→CXF X.prog X.w X.stack H1 s1 (EX σ1) ev s'→E' ev s')→wpAny (model X.prog X.w) X.A (execs body X.env) Q E' s
end
section
variable {X:Cx}{H0:Hp}{O0:List Addr}{E:XK}{ps:PSt}{D:PD}{e c:Expr}{es:List Expr}{us:List U}{n:Nat}{fd:A9}{pn:List Str}{spec:List U→Out→Prop}{AA rest:List Stmt}{nx:PSt→Prop}{ex:PSt→Addr→Prop}
end
abbrev T' (l:List Nat):Str:=⟨l.toArray⟩
section
variable {X:Cx}{tg:Expr}
end
abbrev sg (c:Nat):U:=.str ⟨#[c]⟩
section
variable {X:Cx}{H0:Hp}{O0:List Addr}{ps:PSt}{a b e tg:Expr}{es:List Expr}{pos p p2:Pos}{x y:Str}{i:Int}{lo hi:Option Expr}{l h:Option Int}
variable {apos cpos:Pos}
end
inductive Cst:Expr→U→Prop
 |str (x:Str) (j) (p:Pos):Cst (.Constant (.str x) j p) (.str x)
 |int (i:Int) (j) (p:Pos):Cst (.Constant (.int i) j p) (.int i)
 |bl (b:Bool) (j) (p:Pos):Cst (.Constant (.bool b) j p) (.bl b)
 |non (j) (p:Pos):Cst (.Constant .none j p) .non
inductive x4:List Expr→List U→Prop
 |nil:x4 [] []
 |cons {e:Expr}{u:U}{es:List Expr}{us:List U}:Cst e u→x4 es us→x4 (e::es) (u::us)
structure EvD (X:Cx) (H0:Hp) (O0:List Addr) (ps:PSt) (e:Expr) (u:U):Prop where
 ev:Ev X H0 O0 ps e u
theorem dsp {X:Cx}{H0:Hp}{O0:List Addr}{ps:PSt}{es:List Expr}{us:List U}{pos:Pos} (h:EvS X H0 O0 ps es us) (hz:us.length≤sizeLine):EvD X H0 O0 ps (.List es pos) (.lst us):=⟨EvN.ev (dD h hz)⟩
section
variable {X:Cx}{H0:Hp}{O0:List Addr}{ps:PSt}{a b e:Expr}{x y:Str}
variable {apos cpos:Pos}
end
section
variable {X:Cx}{H0:Hp}{O0:List Addr}{E:XK}{ps:PSt}{a b e:Expr}{es:List Expr}{y:Str}{l:List Nat}{c:Nat}{apos cpos pos:Pos}{u:U}{C:Addr}
end
section
variable {M:Model}{A:A5}{E:Value→As→Prop}{s:As}
end
section
variable {P:AD}{w:World}{K:Frag}{mg:Str→Option Value}{base:Heap}{N:List Str}{qual:Str}{scope:Scope}{f:Addr}{cd:Value}{A:A5}{outer:List Env}{s:As}{H:Hp}{E:XK}
end
section
variable {X:Cx}{pins:List (Addr×Obj)}{σ:St}{H:Hp}{s:As}{E:XK}
end
section
variable {X:Cx}{H0:Hp}{O0:List Addr}{E:XK}{ps:PSt}{iter tg elt e:Expr}{es:List Expr}{pos p:Pos}{xs ys us:List U}{C0:Addr}
end
structure EvM (X:Cx) (H0:Hp) (O0:List Addr) (ps:PSt) (e:Expr) (us:List U):Prop where
 ev:EvN X H0 O0 ps e us
theorem zK {X:Cx}{H0:Hp}{O0:List Addr}{ps:PSt}{es:List Expr}{us:List U}{pos:Pos} (h:EvS X H0 O0 ps es us) (hz:us.length≤sizeLine):EvM X H0 O0 ps (.List es pos) us:=⟨dD h hz⟩
end L2
namespace L2
open PySem PySem.Spec PyProof.Rows
section
variable {X:Cx}{H0:Hp}{O0:List Addr}{E:XK}{ps:PSt}{D:PD}{e1 e2:Expr}{xs1 xs2:List U}{pos lpos:Pos}{body:List Stmt}
end
structure Dl (K:Ap) (ps:PSt) (j:Nat) (xss:Nat→List U) (H0:Hp) (O0:List Addr) (σ:St) (H:Hp) (O:List Addr) (d:Addr) (as:Nat→Addr):Prop where
 rs:Rs K H0 O0 ps σ H O
 vals:∀(i:Nat) (s:Sl),ps[i]?=some (some s)→∃u,s=.val u
 non:ps[j]?=some none
 at_:σ[j]?=some (some (.ref d))
 dO:d∈O
 dO0:d ∉ O0
 aO:∀r,r < 3→as r∈O∧as r ∉ O0
 da:∀r,r < 3→as r≠d
 inj:∀r t,r < 3→t < 3→as r=as t→r=t
 dh:H d=some (.lst [.ref (as 0),.ref (as 1),.ref (as 2)])
 ah:∀r,r < 3→∃vs,H (as r)=some (.lst vs)∧Rps K (hid H O) vs (xss r)
section
variable {K:Ap}{H0 H H':Hp}{O0 O:List Addr}{ps:PSt}{σ:St}{j:Nat}{xss:Nat→List U}{d:Addr}{as:Nat→Addr}
end
section
variable {X:Cx}{H0:Hp}{O0:List Addr}{E:XK}{ps:PSt}{D:PD}{iter e1 e2:Expr}{items:List U}{ss:List Stmt}
end
end L2
namespace ST2
open PySem PySem.SetTable ST
section
variable {prog:AD}{w:World}{A:A5}{E:Value→As→Prop}{s:As}
abbrev K4:=(Int×Int)×(Int×Int)
abbrev l1 (k:K4):List Int:=[k.1.1,k.1.2]
abbrev l2 (k:K4):List Int:=[k.2.1,k.2.2]
def TQ (prog:AD) (w:World) (h:Heap) (k:K4) (b:Addr):Prop:=∃o items n a1 a2,h.get? b=some o∧o.cls=.type "tuple"∧o.data=.seq items n∧items.toList=[.ref a1,.ref a2]∧TK prog w h (l1 k) a1∧TK prog w h (l2 k) a2
end
section
variable {prog:AD}{w:World}{A:A5}{E:Value→As→Prop}{s:As}{hZ:K4→Int}
def ents (hZ:K4→Int) (kb:List (K4×Addr)):List (Int×Value):=kb.map fun p=>(hZ p.1,.ref p.2)
structure SP (prog:AD) (w:World) (hZ:K4→Int) (h:Heap) (S:Addr) (kb:List (K4×Addr)):Prop where
 ex:∃o es ep t,h.get? S=some o∧o.ExactSet∧o.data=.set es ep t∧es.toList=ents hZ kb∧TOk t (kb.map fun p=>hZ p.1)∧t.led=(!w.params.followText "set-order")∧t.plain=true∧t.tooFull=false∧t.mask < 8*kb.length+8
 keys:∀p∈kb,TQ prog w h p.1 p.2
 nd:(kb.map (·.1)).Nodup
end
section
variable {prog:AD}{w:World}{A:A5}
structure Got (kx:Nat→K4×Addr) (i:Nat) (kb:List (K4×Addr)):Prop where
 src:∀p∈kb,∃j,j < i∧p=kx j
 all:∀j,j < i→(kx j).1∈kb.map (·.1)
 len:kb.length≤i
variable {R:GV→As→Prop}{I:Addr}{fp wr:List Addr}{G:Array DC→Array DC→Prop}{n:Nat}{P:Nat→Value→Prop}{St:Nat→As→Prop}
end
section
variable {prog:AD}{w:World}{A:A5}{E:Value→As→Prop}{s:As}
end
end ST2
namespace ST
open PySem PySem.W PySem.Calls PyProof.Rows
section
variable {prog:AD}{w:World}{A:A5}{E:Value→As→Prop}{s:As}
end
end ST
namespace L2
open PySem PySem.Spec PyProof.Rows
section
variable {X:Cx}{H0:Hp}{O0:List Addr}{ps:PSt}{e:Expr}{p pos:Pos}{a b:P2}
end
section
variable {X:Cx}{H0:Hp}{O0:List Addr}{ps:PSt}{e:Expr}{pts:List P2}{prs dd:List (P2×P2)}{pos pos' p p':Pos}
end
end L2
namespace HT
open PySem PySem.W PySem.Spec PyProof.Rows L2
section
variable {prog:AD}{w:World}{A:A5}{E:Value→As→Prop}{s:As}
end
end HT
namespace L2
open PySem PySem.Spec PyProof.Rows
section
variable {X:Cx}{H0:Hp}{O0:List Addr}{E:XK}{ps:PSt}{D:PD}{e:Expr}{lo hi:Option Expr}{l h:Option Int}{pos p2:Pos}{xs ys:List U}
end
end L2
namespace L2
open PySem PySem.Spec PySem.W PyProof.Rows
open PySem.Builtin.Str in
def Al (x y z:Str):Str:=if ((occurrences x y 0 x.length 1).isEmpty || (y.length==0 && z.length==0))=true then x else glued z (partsBetween x (occurrences x y 0 x.length 1) y.length)
section
variable {prog:AD}{w:World}{A:A5}{E:Value→As→Prop}{s:As}{x y z:Str}{t u v k:Tok}{Q:Value→As→Prop}
end
section
variable {X:Cx}{H0:Hp}{O0:List Addr}{E:XK}{ps:PSt}{D:PD}
end
end L2
namespace ST3
open PySem PySem.W PySem.Calls PyProof.Rows ST
abbrev TR:=(Int×Int)×(Int×Int)×(Int×Int)
def ltT (a b:TR):Bool:=if a.1=b.1 then (if a.2.1=b.2.1 then ltP a.2.2 b.2.2 else ltP a.2.1 b.2.1) else ltP a.1 b.1
section
variable {prog:AD}{w:World}{A:A5}{E:Value→As→Prop}{s:As}
abbrev lq (p:Int×Int):List Int:=[p.1,p.2]
def TT (prog:AD) (w:World) (h:Heap) (t:TR) (b:Addr):Prop:=∃o items n a1 a2 a3,h.get? b=some o∧o.cls=.type "tuple"∧o.data=.seq items n∧items.toList=[.ref a1,.ref a2,.ref a3]∧TK prog w h (lq t.1) a1∧TK prog w h (lq t.2.1) a2∧TK prog w h (lq t.2.2) a3
abbrev PT3:=List (TR×Addr)
end
section
variable {prog:AD}{w:World}{A:A5}{E:Value→As→Prop}{s:As}
abbrev ky3 (p:TR×Addr):Keyed:=(Bk p.2,Bk p.2)
open Classical in
noncomputable def RP3 (pb:PT3) (x y:Keyed):Bool:=decide (∃p∈pb,∃q∈pb,x=ky3 p∧y=ky3 q∧ltT p.1 q.1=true)
end
section
variable {prog:AD}{w:World}{A:A5}{E:Value→As→Prop}{s:As}
end
end ST3
namespace L2
open PySem PySem.Spec PyProof.Rows
def t0:ST3.TR:=((0,0),(0,0),(0,0))
section
variable {X:Cx}{H0:Hp}{O0:List Addr}{ps:PSt}{e:Expr}{trs:List ST3.TR}{pos p:Pos}
theorem yu {a b c:V}{us:List Value} (h:aR [a,b,c] us):∃u v w,us=[u,v,w]∧aW a u∧aW b v∧aW c w:=by
 cases h with
 |cons h1 r=>
  cases r with
  |cons h2 r=>
   cases r with
   |cons h3 r=>cases r;exact ⟨_,_,_,rfl,h1,h2,h3⟩
end
end L2
namespace ST6
open PySem PySem.W PySem.Calls PyProof.Rows ST
def ltL:List Int→List Int→Bool
 |a::r,b::t=>if a=b then ltL r t else decide (a < b)
 |[],_::_=>true
 |_,[]=>false
theorem pT:∀x:List Int,ltL x x=false
 |[]=>rfl
 |a::r=>by rw[ltL,if_pos rfl];exact pT r
theorem kE:∀{a b:List Int},ltL a b=true→ltL b a=false
 |[],[],_=>rfl
 |[],_::_,_=>rfl
 |_::_,[],h=>by cases h
 |a::r,b::t,h=>by
  rw[ltL] at h ⊢
  by_cases e:a=b
  ·rw[if_pos e] at h
   rw[if_pos e.symm];exact kE h
  ·rw[if_neg e] at h
   rw[if_neg (Ne.symm e)]
   have:=of_decide_eq_true h
   exact decide_eq_false (by omega)
theorem lx:∀{a b:List Int},a≠b→ltL a b=false→ltL b a=true
 |[],[],h,_=>absurd rfl h
 |[],_::_,_,h=>by cases h
 |_::_,[],_,_=>rfl
 |a::r,b::t,h,k=>by
  rw[ltL] at k ⊢
  by_cases e:a=b
  ·rw[if_pos e] at k
   rw[if_pos e.symm]
   exact lx (fun z=>h (by rw[e,z])) k
  ·rw[if_neg e] at k
   rw[if_neg (Ne.symm e)]
   have:=of_decide_eq_false k
   exact decide_eq_true (by omega)
theorem og:∀{a b c:List Int},ltL a b=true→ltL b c=true→ltL a c=true
 |[],[],_,h,_=>by cases h
 |[],_::_,[],_,k=>by cases k
 |[],_::_,_::_,_,_=>rfl
 |_::_,[],_,h,_=>by cases h
 |_::_,_::_,[],_,k=>by cases k
 |a::r,b::t,c::u,h,k=>by
  rw[ltL] at h k ⊢
  by_cases e:a=b
  ·rw[if_pos e] at h
   by_cases f:b=c
   ·rw[if_pos f] at k
    rw[if_pos (e.trans f)];exact og h k
   ·rw[if_neg f] at k
    rw[if_neg (by rw[e];exact f),e];exact k
  ·rw[if_neg e] at h
   have h1:=of_decide_eq_true h
   by_cases f:b=c
   ·rw[if_neg (by rw[←f];exact e),←f];exact h
   ·rw[if_neg f] at k
    have h2:=of_decide_eq_true k
    rw[if_neg (by omega)]
    exact decide_eq_true (by omega)
def g9 (x:(List Int)):List (List Int)→List (List Int)
 |[]=>[x]
 |y::r=>if x=y then y::r else if ltL x y=true then x::y::r else y::g9 x r
def srtL (pts:List (List Int)):List (List Int):=pts.foldr g9 []
theorem ix (x z:(List Int)):∀l,z∈g9 x l↔z=x∨z∈l
 |[]=>by simp[g9]
 |y::r=>by
  unfold g9
  split
  ·rename_i h;subst h;simp
  ·split
   ·simp
   ·rw[AB,ix x z r,AB]
    constructor
    ·rintro (h |h |h)
     ·exact .inr (.inl h)
     ·exact .inl h
     ·exact .inr (.inr h)
    ·rintro (h |h |h)
     ·exact .inr (.inl h)
     ·exact .inl h
     ·exact .inr (.inr h)
abbrev t7 (l:List (List Int)):Prop:=l.Pairwise (fun x y=>ltL x y=true)
theorem jx (x:(List Int)):∀l,t7 l→t7 (g9 x l)
 |[],_=>by simp[g9]
 |y::r,h=>by
  unfold g9
  split
  ·exact h
  ·rename_i hne
   obtain ⟨h1,h2⟩:=Bl.mp h
   split
   ·rename_i hlt
    refine Bl.mpr ⟨fun z hz=>?_,h⟩
    rcases AB.mp hz with e |e
    ·rw[e];exact hlt
    ·exact og hlt (h1 z e)
   ·rename_i hlt
    refine Bl.mpr ⟨fun z hz=>?_,jx x r h2⟩
    rcases (ix x z r).mp hz with e |e
    ·rw[e];exact lx hne (by simpa using hlt)
    ·exact h1 z e
theorem srtL_mem (z:(List Int)):∀l,z∈srtL l↔z∈l
 |[]=>by simp[srtL]
 |y::r=>by
  show z∈g9 y (srtL r)↔_
  rw[ix,srtL_mem z r,AB]
theorem srtL_ascL:∀l,t7 (srtL l)
 |[]=>DD
 |y::r=>jx y (srtL r) (srtL_ascL r)
theorem ascL_irr {x:(List Int)}:ltL x x=false:=pT x
theorem ascL_one:∀{l m:List (List Int)},t7 l→t7 m→(∀z,z∈l↔z∈m)→l=m
 |[],[],_,_,_=>rfl
 |[],y::r,_,_,h=>by have:=(h y).mpr AF;simp at this
 |x::l,[],_,_,h=>by have:=(h x).mp AF;simp at this
 |x::l,y::m,hl,hm,h=>by
  obtain ⟨a1,a2⟩:=Bl.mp hl
  obtain ⟨b1,b2⟩:=Bl.mp hm
  have e:x=y:=by
   rcases AB.mp ((h x).mp AF) with z |z
   ·exact z
   ·rcases AB.mp ((h y).mpr AF) with z' |z'
    ·exact z'.symm
    ·have:=kE (b1 x z)
     rw[a1 y z'] at this;cases this
  subst e
  congr 1
  refine ascL_one a2 b2 fun z=>⟨fun hz=>?_,fun hz=>?_⟩
  ·rcases AB.mp ((h z).mp (Aw _ hz)) with e |e
   ·have:=a1 z hz;rw[e,ascL_irr] at this;cases this
   ·exact e
  ·rcases AB.mp ((h z).mpr (Aw _ hz)) with e |e
   ·have:=b1 z hz;rw[e,ascL_irr] at this;cases this
   ·exact e
section
variable {prog:AD}{w:World}{A:A5}{E:Value→As→Prop}{s:As}
theorem TK6.grow {h h':Heap}{k:List Int}{b:Addr} (x:TK prog w h k b) (e:∀b o,o.cls=.type "tuple"→h.get? b=some o→h'.get? b=some o):TK prog w h' k b:=by
 obtain ⟨o,it,n,g1,gc,g2⟩:=x
 exact ⟨o,it,n,e _ _ gc g1,gc,g2⟩
theorem mm {Q:Bool→As→Prop}:∀(ks ls:List Int) (xs ys:List Value) (i:Nat),ItemsAre (DF prog w) ks xs→ItemsAre (DF prog w) ls ys→ks.length=ls.length→Q (ltL ks ls) s→KatLex prog w A true false Q (xs.zip ys) i s
 |[],[],xs,ys,i,hx,hy,_,h=>by cases hx;cases hy;exact kat_nil h
 |a::ks,b::ls,xs,ys,i,hx,hy,hl,h=>by
  cases hx with
  | @cons _ v _ xs h1 hx=>
   cases hy with
   | @cons _ u _ ys h2 hy=>
    rw[Eb]
    refine kat_cons ((DF prog w).eqBool (a:=a) (b:=b) h1 h2 ?_)
    rw[ltL] at h
    by_cases e:a=b
    ·rw[decide_eq_true e]
     rw[if_pos e] at h
     exact kat_yes (mm ks ls xs ys (i+1) hx hy (by simpa using hl) h)
    ·rw[decide_eq_false e]
     rw[if_neg e] at h
     obtain ⟨t1,rfl⟩:=CM h1
     obtain ⟨t2,rfl⟩:=CM h2
     cases i with
     |zero=>exact kat_no (oneLt_int h)
     |succ i=>exact kat_no (kat_one _ _ (lt_int h))
 |[],_::_,_,_,_,_,_,hl,_=>by simp at hl
 |_::_,[],_,_,_,_,_,hl,_=>by simp at hl
theorem j_ {k:List Int}{vs:List Value} (h:ItemsAre (DF prog w) k vs):vs.length=k.length:=by
 induction h with
 |nil=>rfl
 |cons _ _ ih=>rw[A_,A_,ih]
theorem ye {x y:Addr}{a b:List Int}{Q:Bool→As→Prop} (la:a.length=6) (lb:b.length=6) (hx:TK prog w s.heap a x) (hy:TK prog w s.heap b y) (h:Q (ltL a b) s):wpAny (model prog w) A (keyLt' (tuples' true) (.ref x) (.ref y)) Q E s:=by
 obtain ⟨o,its,n,ho,_,hd,hi⟩:=hx
 obtain ⟨o',its',n',ho',_,hd',hi'⟩:=hy
 refine kat_lt ho hd ho' hd' ?_
 have z2:decide (its.size < its'.size)=false:=by
  have h1:=j_ hi
  have h2:=j_ hi'
  rw[←AS,←AS,h1,h2,la,lb];rfl
 rw[z2]
 exact mm a b _ _ 0 hi hi' (by omega) h
abbrev PT6:=List (List Int×Addr)
abbrev refs6 (pb:PT6):List Value:=pb.map fun p=>Bk p.2
theorem sZ {pb:PT6}{Q:Eu→As→Prop} (hlen:∀p∈pb,p.1.length=6) (htk:∀p∈pb,TK prog w s.heap p.1 p.2) (h0:0 < pb.length) (h:Q (tuples' true) s):wpAny (model prog w) A (keyKind' (refs6 pb).toArray) Q E s:=by
 obtain ⟨fs,hf,hl,hi⟩:∃fs,KatTups s.heap (refs6 pb) fs∧fs.length=pb.length∧∀v∈fs,∃n t,v=Be n t:=by
  clear h h0
  induction pb with
  |nil=>exact ⟨[],.nil,rfl,fun v hv=>by simp at hv⟩
  |cons p r ih=>
   obtain ⟨fs,hf,hl,hi⟩:=ih (fun q hq=>hlen q (Aw _ hq)) fun q hq=>htk q (Aw _ hq)
   obtain ⟨o,its,n,ho,hc,hd,hit⟩:=htk p AF
   have l6:=hlen p AF
   cases hk:p.1 with
   |nil=>rw[hk] at l6;simp at l6
   |cons a ks=>
    rw[hk] at hit
    generalize hts:its.toList=ts at hit
    cases hit with
    | @cons _ v _ vs h1 hr=>
     obtain ⟨t,rfl⟩:=CM h1
     refine ⟨.int a t::fs,.cons ho hc hd (by rw[←Bj,hts];rfl) hf,by simp[hl],fun v hv=>?_⟩
     rcases AB.mp hv with z |z
     ·exact ⟨_,_,z⟩
     ·exact hi v z
 refine kat_kind (T:=.type "int") hf (by omega) (fun v hv=>?_) (by decide) h
 obtain ⟨n,t,rfl⟩:=hi v hv
 exact Looks.of_pure rfl
end
section
variable {prog:AD}{w:World}{A:A5}{E:Value→As→Prop}{s:As}
abbrev ky6 (p:List Int×Addr):Keyed:=(Bk p.2,Bk p.2)
open Classical in
noncomputable def RP6 (pb:PT6) (x y:Keyed):Bool:=decide (∃p∈pb,∃q∈pb,x=ky6 p∧y=ky6 q∧ltL p.1 q.1=true)
end
section
variable {prog:AD}{w:World}{A:A5}{E:Value→As→Prop}{s:As}
end
end ST6
namespace L2
open PySem PySem.Spec PyProof.Rows
abbrev sxU (k:List Int):U:=.tup (k.map U.int)
section
variable {X:Cx}{H0:Hp}{O0:List Addr}{ps:PSt}{e:Expr}{trs:List (List Int)}{pos p:Pos}
end
end L2
namespace ST
open PySem
theorem uC (a b c:Value):checkTypeCall "zip" ⟨[a,b,c],[]⟩=pure ():=by kernel_rfl
theorem ub (a b c:Value):HF "zip.__new__" ⟨[.type "zip",a,b,c],[]⟩=pure ():=by kernel_rfl
theorem s_ (a b c d:Value):Jv "object.__init__" ⟨[a,b,c,d],[]⟩:=by
 unfold Jv
 rw[signature?_of (n:=['_','_','t','i','n','i','_','_']) (o:=['t','c','e','j','b','o']) (id:="object.__init__") (by kernel_rfl) PySem.F.owner_object]
 kernel_rfl
abbrev IsTri (h:Heap) (T:Addr) (a b c:Value):Prop:=h.get? T=some {cls:=.type "tuple",data:=.seq #[a,b,c] }
structure Z3A (z TI TO i1 i2 i3 l1 l2 l3:Addr):Prop where
 TIz:TI≠z
 TOz:TO≠z
 i1z:i1≠z
 i2z:i2≠z
 i3z:i3≠z
 TITO:TI≠TO
 TIi1:TI≠i1
 TIi2:TI≠i2
 TIi3:TI≠i3
 TOi1:TO≠i1
 TOi2:TO≠i2
 TOi3:TO≠i3
 i12:i1≠i2
 i13:i1≠i3
 i23:i2≠i3
 l1z:l1≠z
 l1TO:l1≠TO
 l1i1:l1≠i1
 l1i2:l1≠i2
 l1i3:l1≠i3
 l2z:l2≠z
 l2TO:l2≠TO
 l2i1:l2≠i1
 l2i2:l2≠i2
 l2i3:l2≠i3
 l3z:l3≠z
 l3TO:l3≠TO
 l3i1:l3≠i1
 l3i2:l3≠i2
 l3i3:l3≠i3
section
variable {prog:AD}{w:World}{A:A5}{E:Value→As→Prop}{s:As}
theorem kI {T:Addr}{a b c x:Value}{k:Nat}{Q:Unit→As→Prop} (hT:IsTri s.heap T a b c)
  (h:∀h',h'.get? T=some {cls:=.type "tuple",data:=.seq ((#[a,b,c]:Array Value).setIfInBounds k x) }→Dw T s.heap h'→Q () {s with heap:=h' }):
  wpAny (model prog w) A (Gj T (·.setIfInBounds k x)) Q E s:=by
 refine Df hT rfl (h _ ?_ (CQ ..))
 rw[BS _ hT rfl];simp[BQ]
theorem uX {z TI TO i1 i2 i3 l1 l2 l3:Addr}{k1 k2 k3:Nat}{xs ys zs:Array Value}{x y v a b c:Value}{Q:Value→As→Prop} (D:Z3A z TI TO i1 i2 i3 l1 l2 l3)
  (gz:IsZip s.heap z TI TO .none) (gI:IsTri s.heap TI (.ref i1) (.ref i2) (.ref i3)) (gO:IsTri s.heap TO a b c)
  (h1:s.heap.IsListIter i1 l1 k1) (h2:s.heap.IsListIter i2 l2 k2) (h3:s.heap.IsListIter i3 l3 k3) (hl1:s.heap.IsList l1 xs) (hl2:s.heap.IsList l2 ys) (hl3:s.heap.IsList l3 zs)
  (hx:xs[k1]?=some x) (hy:ys[k2]?=some y) (hv:zs[k3]?=some v)
  (hQ:∀h',IsZip h' z TI TO (Dt s.heap.objs.size)→IsTri h' TO x y v→h'.IsListIter i1 l1 (k1+1)→h'.IsListIter i2 l2 (k2+1)→h'.IsListIter i3 l3 (k3+1)→IsTri h' s.heap.objs.size x y v→h'.objs.size=s.heap.objs.size+1→
   (∀d o,d≠z→d≠TO→d≠i1→d≠i2→d≠i3→s.heap.get? d=some o→h'.get? d=some o)→Q (.ref s.heap.objs.size) {s with heap:=h' }):
  wpAny (model prog w) A (Builtin.«zip.__next__» ⟨[.ref z],[]⟩) (fun fin s'=>∃v,fin=.done (.ret v)∧Q v s') E s:=by
 show wpAny _ _ (field (.ref z) 2 >>=_) _ _ _
 refine Ao (DX gz rfl (x:=.bool false) rfl ?_);show wpAny _ _ (field (.ref z) 3 >>=_) _ _ _
 refine Ao (DX gz rfl (x:=.ref TI) rfl ?_);refine Ao (B7 gI rfl ?_)
 show wpAny _ _ (Builtin.SmallTypes.ownedTupleIsFree (.ref z) >>=_) _ _ _
 refine Ao ?_;unfold Builtin.SmallTypes.ownedTupleIsFree
 refine Ao (DX gz rfl (x:=.none) rfl (Au ?_));simp only[if_true]
 refine Ao (Gw ?_);refine Ao (DX gz rfl (x:=.ref TO) rfl ?_)
 refine Ao (Dv gz (by simp) fun hp1 gz1 hs1=>?_);replace gz1:IsZip hp1 z TI TO .ellipsis:=gz1
 refine Ao ?_
 simp only[HI,Ic,EZ,GM]
 refine Ao (Ao (FF ?_));show wpAny _ _ (Builtin.SmallTypes.nextOf (.ref i1) >>=_) _ _ _
 refine Ao (Ee (h1.extBut hs1.extBut D.i1z) (hl1.extBut hs1.extBut D.l1z) hx fun hp2 h12 hs2=>Au ?_)
 have gO2:IsTri hp2 TO a b c:=hs2.extBut _ _ D.TOi1 (hs1.extBut _ _ D.TOz gO)
 refine Ao (B7 gO2 rfl ?_);refine Ao (kI gO2 fun hp3 gO3 hs3=>?_)
 replace gO3:IsTri hp3 TO x b c:=gO3
 refine Ao (DW (Au ?_))
 refine Ao (Ao (FF ?_));show wpAny _ _ (Builtin.SmallTypes.nextOf (.ref i2) >>=_) _ _ _
 refine Ao (Ee (((h2.extBut hs1.extBut D.i2z).extBut hs2.extBut D.i12.symm).extBut hs3.extBut D.TOi2.symm)
  (((hl2.extBut hs1.extBut D.l2z).extBut hs2.extBut D.l2i1).extBut hs3.extBut D.l2TO) hy fun hp4 h24 hs4=>Au ?_)
 have gO4:IsTri hp4 TO x b c:=hs4.extBut _ _ D.TOi2 gO3
 refine Ao (B7 gO4 rfl ?_);refine Ao (kI gO4 fun hp5 gO5 hs5=>?_)
 replace gO5:IsTri hp5 TO x y c:=gO5
 refine Ao (DW (Au ?_))
 refine Ao (Ao (FF ?_));show wpAny _ _ (Builtin.SmallTypes.nextOf (.ref i3) >>=_) _ _ _
 refine Ao (Ee (((((h3.extBut hs1.extBut D.i3z).extBut hs2.extBut D.i13.symm).extBut hs3.extBut D.TOi3.symm).extBut hs4.extBut D.i23.symm).extBut hs5.extBut D.TOi3.symm)
  (((((hl3.extBut hs1.extBut D.l3z).extBut hs2.extBut D.l3i1).extBut hs3.extBut D.l3TO).extBut hs4.extBut D.l3i2).extBut hs5.extBut D.l3TO) hv fun hp6 h36 hs6=>Au ?_)
 have gO6:IsTri hp6 TO x y c:=hs6.extBut _ _ D.TOi3 gO5
 refine Ao (B7 gO6 rfl ?_);refine Ao (kI gO6 fun hp7 gO7 hs7=>?_)
 replace gO7:IsTri hp7 TO x y v:=gO7
 refine Ao (DW (Au (Au ?_)))
 refine Ao (B7 gO7 rfl ?_);refine Ao (GI ?_)
 have hsz:hp7.objs.size=s.heap.objs.size:=by rw[hs7.1,hs6.1,hs5.1,hs4.1,hs3.1,hs2.1,hs1.1]
 have all:∀d o,d≠z→d≠TO→d≠i1→d≠i2→d≠i3→s.heap.get? d=some o→hp7.get? d=some o:=fun d o c1 c2 c3 c4 c5 e=>
  hs7.extBut _ _ c2 (hs6.extBut _ _ c5 (hs5.extBut _ _ c2 (hs4.extBut _ _ c4 (hs3.extBut _ _ c2 (hs2.extBut _ _ c3 (hs1.extBut _ _ c1 e))))))
 have gz7:IsZip hp7 z TI TO .ellipsis:=hs7.extBut _ _ D.TOz.symm (hs6.extBut _ _ D.i3z.symm (hs5.extBut _ _ D.TOz.symm (hs4.extBut _ _ D.i2z.symm (hs3.extBut _ _ D.TOz.symm (hs2.extBut _ _ D.i1z.symm gz1)))))
 have h17:hp7.IsListIter i1 l1 (k1+1):=((((h12.extBut hs3.extBut D.TOi1.symm).extBut hs4.extBut D.i12).extBut hs5.extBut D.TOi1.symm).extBut hs6.extBut D.i13).extBut hs7.extBut D.TOi1.symm
 have h27:hp7.IsListIter i2 l2 (k2+1):=((h24.extBut hs5.extBut D.TOi2.symm).extBut hs6.extBut D.i23).extBut hs7.extBut D.TOi2.symm
 have h37:hp7.IsListIter i3 l3 (k3+1):=h36.extBut hs7.extBut D.TOi3.symm
 have zlt:z < hp7.objs.size:=AC gz7
 show wpAny _ _ (Builtin.SmallTypes.ownedTupleHandOut (.ref z) (.ref hp7.objs.size) >>=_) _ _ _
 refine Ao ?_;unfold Builtin.SmallTypes.ownedTupleHandOut
 have gz8:IsZip (hp7.push {cls:=.type "tuple",data:=.seq #[x,y,v] }) z TI TO .ellipsis:=Aq _ gz7
 refine Ao (Dv gz8 (by simp) fun hp9 gz9 hs9=>?_);replace gz9:IsZip hp9 z TI TO (Dt hp7.objs.size):=gz9
 refine Dv gz9 (by simp) fun hpA gzA hsA=>?_
 replace gzA:IsZip hpA z TI TO (Dt hp7.objs.size):=gzA
 have up:∀d o,d≠z→hp7.get? d=some o→hpA.get? d=some o:=fun d o c1 e=>hsA.extBut _ _ c1 (hs9.extBut _ _ c1 (Aq _ e))
 have gT:IsTri hpA hp7.objs.size x y v:=hsA.extBut _ _ (CA zlt) (hs9.extBut _ _ (CA zlt) (AE _ rfl))
 have szA:hpA.objs.size=hp7.objs.size+1:=by rw[hsA.1,hs9.1,BE]
 rw[hsz] at gzA gT szA
 refine Au ⟨_,rfl,?_⟩;show Q (.ref hp7.objs.size) _;rw[hsz]
 exact hQ hpA gzA (up _ _ D.TOz gO7) (h17.at fun o e=>up _ o D.i1z e) (h27.at fun o e=>up _ o D.i2z e) (h37.at fun o e=>up _ o D.i3z e) gT szA fun d o c1 c2 c3 c4 c5 e=>up d o c1 (all d o c1 c2 c3 c4 c5 e)
theorem xj {z TI TO i1 i2 i3 l1:Addr}{k1:Nat}{xs:Array Value}{Q:Jw→As→Prop} (hh:A.handled=none) (ne1:i1≠z) (ne2:l1≠z)
  (gz:IsZip s.heap z TI TO .none) (gI:IsTri s.heap TI (.ref i1) (.ref i2) (.ref i3)) (h1:s.heap.IsListIter i1 l1 k1) (hl1:s.heap.IsList l1 xs) (hx:xs[k1]?=none)
  (hE:∀h' e,(∀d o,d≠z→d≠i1→s.heap.get? d=some o→h'.get? d=some o)→(∃o,h'.get? e=some o∧o.cls=.type "StopIteration")→E (.ref e) {s with heap:=h' }):
  wpAny (model prog w) A (Builtin.«zip.__next__» ⟨[.ref z],[]⟩) Q E s:=by
 show wpAny _ _ (field (.ref z) 2 >>=_) _ _ _
 refine Ao (DX gz rfl (x:=.bool false) rfl ?_);show wpAny _ _ (field (.ref z) 3 >>=_) _ _ _
 refine Ao (DX gz rfl (x:=.ref TI) rfl ?_);refine Ao (B7 gI rfl ?_)
 show wpAny _ _ (Builtin.SmallTypes.ownedTupleIsFree (.ref z) >>=_) _ _ _
 refine Ao ?_;unfold Builtin.SmallTypes.ownedTupleIsFree
 refine Ao (DX gz rfl (x:=.none) rfl (Au ?_));simp only[if_true]
 refine Ao (Gw ?_);refine Ao (DX gz rfl (x:=.ref TO) rfl ?_)
 refine Ao (Dv gz (by simp) fun hp1 gz1 hs1=>?_);replace gz1:IsZip hp1 z TI TO .ellipsis:=gz1
 refine Ao ?_
 simp only[HI,Ic,EZ,GM]
 refine Ao (Ao (FF ?_));show wpAny _ _ (Builtin.SmallTypes.nextOf (.ref i1) >>=_) _ _ _
 refine Ao (wpAny_nextOf_list_end hh (h1.extBut hs1.extBut ne1) (hl1.extBut hs1.extBut ne2) hx fun hp2 e hs2 he=>?_)
 obtain ⟨oe,hoe,hce⟩:=he
 have gz2:IsZip hp2 z TI TO .ellipsis:=hs2 _ _ ne1.symm gz1
 have ez:e≠z:=fun q=>by subst q;rw[gz2] at hoe;cases hoe;simp at hce
 refine Dv gz2 (by simp) fun hp3 _ hs3=>hE hp3 e (fun d o c1 c3 q=>hs3.extBut _ _ c1 (hs2 _ _ c3 (hs1.extBut _ _ c1 q))) ⟨oe,hs3.extBut _ _ ez hoe,hce⟩
theorem next_z3_item {z TI TO i1 i2 i3 l1 l2 l3:Addr}{k1 k2 k3:Nat}{xs ys zs:Array Value}{x y v a b c:Value}{Q:Option Value→As→Prop} (D:Z3A z TI TO i1 i2 i3 l1 l2 l3)
  (gz:IsZip s.heap z TI TO .none) (gI:IsTri s.heap TI (.ref i1) (.ref i2) (.ref i3)) (gO:IsTri s.heap TO a b c)
  (h1:s.heap.IsListIter i1 l1 k1) (h2:s.heap.IsListIter i2 l2 k2) (h3:s.heap.IsListIter i3 l3 k3) (hl1:s.heap.IsList l1 xs) (hl2:s.heap.IsList l2 ys) (hl3:s.heap.IsList l3 zs)
  (hx:xs[k1]?=some x) (hy:ys[k2]?=some y) (hv:zs[k3]?=some v)
  (hQ:∀h',IsZip h' z TI TO (Dt s.heap.objs.size)→IsTri h' TO x y v→h'.IsListIter i1 l1 (k1+1)→h'.IsListIter i2 l2 (k2+1)→h'.IsListIter i3 l3 (k3+1)→IsTri h' s.heap.objs.size x y v→h'.objs.size=s.heap.objs.size+1→
   (∀d o,d≠z→d≠TO→d≠i1→d≠i2→d≠i3→s.heap.get? d=some o→h'.get? d=some o)→Q (some (.ref s.heap.objs.size)) {s with heap:=h' }):
  wpAny (model prog w) A (EW (.ref z)) Q E s:=by
 have hT:s.TypeIs (.ref z) "zip":=⟨_,gz,rfl⟩
 unfold EW
 exact Ao (FD (Dj (name:=Str.ofString "__next__") hT DB (B9 DB hT FU
   (uX D gz gI gO h1 h2 h3 hl1 hl2 hl3 hx hy hv fun h' a1 a2 a3 a4 a5 a6 a7 a8=>Au (hQ h' a1 a2 a3 a4 a5 a6 a7 a8)) (FG _))))
theorem next_z3_end {z TI TO i1 i2 i3 l1:Addr}{k1:Nat}{xs:Array Value}{Q:Option Value→As→Prop} (hh:A.handled=none) (ne1:i1≠z) (ne2:l1≠z)
  (gz:IsZip s.heap z TI TO .none) (gI:IsTri s.heap TI (.ref i1) (.ref i2) (.ref i3)) (h1:s.heap.IsListIter i1 l1 k1) (hl1:s.heap.IsList l1 xs) (hx:xs[k1]?=none)
  (hQ:∀h',(∀d o,d≠z→d≠i1→s.heap.get? d=some o→h'.get? d=some o)→Q none {s with heap:=h' }):wpAny (model prog w) A (EW (.ref z)) Q E s:=by
 have hT:s.TypeIs (.ref z) "zip":=⟨_,gz,rfl⟩
 unfold EW
 refine Ao (FD (Dj (name:=Str.ofString "__next__") hT DB (B9 DB hT FU
  (xj hh ne1 ne2 gz gI h1 hl1 hx fun h' e hk he=>?_) (FG _))))
 obtain ⟨o,ho,hc⟩:=he
 refine Ao (Dp (b:=true) (T:="StopIteration") ⟨o,ho,hc⟩ IH ?_);exact Au (hQ _ hk)
end
abbrev qT (h:Heap) (l1:Addr):Heap:=h.push {cls:=.type "list_iterator",data:=.fields #[.ref l1,.int 0 0] }
abbrev vD (h:Heap) (l1 l2:Addr):Heap:=qT (qT h l1) l2
abbrev tK (h:Heap) (l1 l2 l3:Addr):Heap:=qT (vD h l1 l2) l3
abbrev vg (h:Heap) (l1 l2 l3:Addr):Heap:=(tK h l1 l2 l3).push {cls:=.type "tuple",data:=.seq #[.ref h.objs.size,.ref (qT h l1).objs.size,.ref (vD h l1 l2).objs.size] }
abbrev vX (h:Heap) (l1 l2 l3:Addr):Heap:=(vg h l1 l2 l3).push {cls:=.type "tuple",data:=.seq #[.none,.none,.none] }
abbrev ln (h:Heap) (l1 l2 l3:Addr):Heap:=(vX h l1 l2 l3).push {cls:=.type "zip",data:=.fields #[.none,.bool false,.bool false,.ref (tK h l1 l2 l3).objs.size,.ref (vg h l1 l2 l3).objs.size] }
theorem sI (l1 l2 l3:Addr) (xs ys zs:Array Value):
  Meets (Builtin.«zip.__new__» ⟨[.type "zip",.ref l1,.ref l2,.ref l3],[]⟩) (fun _ R s=>s.heap.IsList l1 xs∧s.heap.IsList l2 ys∧s.heap.IsList l3 zs∧
   R (.ok (.ret (.ref (vX s.heap l1 l2 l3).objs.size))) {s with heap:=ln s.heap l1 l2 l3 }):=
 .of_wp fun prog w A R s h=>by
  obtain ⟨hp,g,d,tk,os⟩:=s;obtain ⟨hl1,hl2,hl3,h⟩:=h
  have hsub:=sub_zip
  have hL1:Ie (Ig ⟨hp,g,d,tk,os⟩) l1 xs:=hl1
  have hL2:Ie (Ig ⟨hp.push {cls:=.type "list_iterator",data:=.fields #[.ref l1,.int 0 0] },g,d,tk,os⟩) l2 ys:=FM hl2 _
  have hL3:Ie (Ig ⟨(hp.push {cls:=.type "list_iterator",data:=.fields #[.ref l1,.int 0 0] }).push {cls:=.type "list_iterator",data:=.fields #[.ref l2,.int 0 0] },g,d,tk,os⟩) l3 zs:=FM (FM hl3 _) _
  wp_walk using Ct hL1,Ct hL2,Ct hL3
  exact ⟨_,rfl,h⟩
section
variable {prog:AD}{w:World}{A:A5}{E:Value→As→Prop}{s:As}
theorem call_z3 {l1 l2 l3:Addr}{xs ys zs:Array Value}{Q:Value→As→Prop} (hl1:s.heap.IsList l1 xs) (hl2:s.heap.IsList l2 ys) (hl3:s.heap.IsList l3 zs)
  (h:∀h',IsZip h' (s.heap.objs.size+5) (s.heap.objs.size+3) (s.heap.objs.size+4) .none→IsTri h' (s.heap.objs.size+3) (.ref s.heap.objs.size) (.ref (s.heap.objs.size+1)) (.ref (s.heap.objs.size+2))→
   IsTri h' (s.heap.objs.size+4) .none .none .none→h'.IsListIter s.heap.objs.size l1 0→h'.IsListIter (s.heap.objs.size+1) l2 0→h'.IsListIter (s.heap.objs.size+2) l3 0→h'.objs.size=s.heap.objs.size+6→
   (∀c o,s.heap.get? c=some o→h'.get? c=some o)→Q (.ref (s.heap.objs.size+5)) {s with heap:=h' }):
  wpAny (model prog w) A (call (.type "zip") [.ref l1,.ref l2,.ref l3]) Q E s:=by
 refine callType_new PySem.F.called_zip (by decide) (uC _ _ _) (ub _ _ _) (fun obj=>s_ obj _ _ _) PySem.F.entry_zip_new (sI l1 l2 l3 xs ys zs) ⟨hl1,hl2,hl3,?_⟩
 have z1:(qT s.heap l1).objs.size=s.heap.objs.size+1:=BE ..
 have z2:(vD s.heap l1 l2).objs.size=s.heap.objs.size+2:=by rw[BE,z1]
 have z3:(tK s.heap l1 l2 l3).objs.size=s.heap.objs.size+3:=by rw[BE,z2]
 have z4:(vg s.heap l1 l2 l3).objs.size=s.heap.objs.size+4:=by rw[BE,z3]
 have z5:(vX s.heap l1 l2 l3).objs.size=s.heap.objs.size+5:=by rw[BE,z4]
 have z6:(ln s.heap l1 l2 l3).objs.size=s.heap.objs.size+6:=by rw[BE,z5]
 have up4:∀{c o},(tK s.heap l1 l2 l3).get? c=some o→(ln s.heap l1 l2 l3).get? c=some o:=fun e=>Aq _ (Aq _ (Aq _ e))
 have g6:(ln s.heap l1 l2 l3).get? (vX s.heap l1 l2 l3).objs.size=some _:=AE _ rfl
 have g5:(ln s.heap l1 l2 l3).get? (vg s.heap l1 l2 l3).objs.size=some _:=Aq _ (AE _ rfl)
 have g4:(ln s.heap l1 l2 l3).get? (tK s.heap l1 l2 l3).objs.size=some _:=Aq _ (Aq _ (AE _ rfl))
 have g3:(ln s.heap l1 l2 l3).get? (vD s.heap l1 l2).objs.size=some _:=up4 (AE _ rfl)
 have g2:(ln s.heap l1 l2 l3).get? (qT s.heap l1).objs.size=some _:=up4 (Aq _ (AE _ rfl))
 have g1:(ln s.heap l1 l2 l3).get? s.heap.objs.size=some _:=up4 (Aq _ (Aq _ (AE _ rfl)))
 show _∧_
 rw[z3,z4,z5] at g6;rw[z1,z2,z3] at g4;rw[z4] at g5;rw[z2] at g3;rw[z1] at g2;rw[z5]
 exact ⟨⟨_,g6,rfl⟩,h _ g6 g4 g5 ⟨_,g1,rfl,rfl⟩ ⟨_,g2,rfl,rfl⟩ ⟨_,g3,rfl,rfl⟩ z6 fun c o e=>up4 (Aq _ (Aq _ (Aq _ e)))⟩
end
end ST
namespace L2
open PySem PySem.Spec PyProof.Rows
theorem vH {X:Cx}{pins:List (Addr×Obj)}{σ:List (Option V)}{H:Hp}{s:As}{h':Heap}{t':Nat}{fp:List Addr}{p:Addr}{xs:List V} (I:Inv X pins σ H s) (hf:∀b∈fp,d7 X pins H b)
  (k:∀b o,b ∉ fp→s.heap.get? b=some o→h'.get? b=some o) (hp:s.heap.objs.size≤p) (new:cH X.prog X.w (upd H p (.tup xs)) h' p (.tup xs)):
  Inv X pins σ (upd H p (.tup xs)) {s with heap:=h',toks:=t' }:=by
 have fresh:H p=none:=I.hok.fresh hp
 have np:∀b o,s.heap.get? b=some o→b≠p:=fun b o e z=>absurd (A3 (AC e) hp) (by rw[z];exact Bs _)
 have nh:∀b u,H b=some u→b≠p:=fun b u e z=>by rw[z,fresh] at e;cases e
 have nf:∀b u,H b=some u→b ∉ fp:=fun b u e z=>by rw[(hf b z).1] at e;cases e
 refine I.step (g':=s.gens) (d':=s.drawn) (ch:=fp) (fun b hb=>?_) (fun b o _ _ hc e _=>k b o hc e) (fun b o _ _ hc e _=>⟨o.slots,k b o hc e⟩) (fun b o _ e n=>by rw[aL (np b o e)];exact n)
  (fun b o hc e=>⟨o,k b o hc e⟩) (fun b xs e=>by rw[aL (nh b _ e)];exact e) (fun b o u e=>by rw[aL (nh b _ e)];exact e) (fun b ps e=>⟨#[],by rw[aL (nh b _ e),e];simp⟩) (fun m hm=>?_) (fun b u e=>?_) I.bare
 ·obtain ⟨f0,f1,f2,f3,f4,f5⟩:=hf b hb
  exact ⟨f3,f1,f4,f5⟩
 ·obtain ⟨o,es,ep,ho,r⟩:=hm
  exact ⟨o,es,ep,k _ o (fun z=>(hf _ z).2.1 rfl) ho,r⟩
 ·by_cases hb:b=p
  ·subst hb;rw[aQ] at e;cases e;exact new
  ·rw[aL hb] at e
   refine (I.hok b u e).stay (fun c v hc q=>k c v ?_ q) (fun c q=>by rw[aL (nh c _ q)];exact q) (fun c o' u' q=>by rw[aL (nh c _ q)];exact q) fun c xs q=>by rw[aL (nh c _ q)];exact q
   rcases hc with z |z
   ·rw[z];exact nf b u e
   ·exact nf c _ z
theorem u7 {X:Cx}{pins:List (Addr×Obj)}{σ:List (Option V)}{H:Hp}{s:As}{h':Heap}{t':Nat}{fp:List Addr} (I:Inv X pins σ H s) (hf:∀b∈fp,d7 X pins H b)
  (k:∀b o,b ∉ fp→s.heap.get? b=some o→h'.get? b=some o):Inv X pins σ H {s with heap:=h',toks:=t' }:=by
 have nf:∀b u,H b=some u→b ∉ fp:=fun b u e z=>by rw[(hf b z).1] at e;cases e
 refine I.step (g':=s.gens) (d':=s.drawn) (ch:=fp) (fun b hb=>?_) (fun b o _ _ hc e _=>k b o hc e) (fun b o _ _ hc e _=>⟨o.slots,k b o hc e⟩) (fun _ _ _ _ n=>n)
  (fun b o hc e=>⟨o,k b o hc e⟩) (fun _ _ e=>e) (fun _ _ _ e=>e) (fun b ps e=>⟨#[],by rw[e];simp⟩) (fun m hm=>?_) (fun b u e=>?_) I.bare
 ·obtain ⟨f0,f1,f2,f3,f4,f5⟩:=hf b hb
  exact ⟨f3,f1,f4,f5⟩
 ·obtain ⟨o,es,ep,ho,r⟩:=hm
  exact ⟨o,es,ep,k _ o (fun z=>(hf _ z).2.1 rfl) ho,r⟩
 ·refine (I.hok b u e).stay (fun c v hc q=>k c v ?_ q) (fun _ q=>q) (fun _ _ _ q=>q) fun _ _ q=>q
  rcases hc with z |z
  ·rw[z];exact nf b u e
  ·exact nf c _ z
def Itz (K:Ap) (l1 l2 l3:Addr):It:=
 ⟨fun i H=>∃xs ys zs x y v,SqL K H l1 xs∧SqL K H l2 ys∧SqL K H l3 zs∧xs[i]?=some x∧ys[i]?=some y∧zs[i]?=some v,
  fun i H u H'=>∃p x y v,u=.ref p∧H p=none∧H'=upd H p (.tup [x,y,v])∧(∀xs,SqL K H l1 xs→xs[i]?=some x)∧(∀ys,SqL K H l2 ys→ys[i]?=some y)∧(∀zs,SqL K H l3 zs→zs[i]?=some v),
  fun i H=>∃xs,SqL K H l1 xs∧xs.length≤i⟩
theorem vU {P:AD}{w:World}{K:Ap}{es:List Expr}{ctx pos} (z TI TO i1 i2 i3 l1 l2 l3:Addr) (D:ST.Z3A z TI TO i1 i2 i3 l1 l2 l3):
  uq P w K (.Tuple es ctx pos) (Itz K l1 l2 l3) [z,TI,TO,i1,i2,i3] z (fun i h=>IsZip h z TI TO .none∧ST.IsTri h TI (.ref i1) (.ref i2) (.ref i3)∧(∃a b c,ST.IsTri h TO a b c)∧h.IsListIter i1 l1 i∧h.IsListIter i2 l2 i∧h.IsListIter i3 l3 i) where
 mem:=by simp
 obj:=fun i h st b hb=>by
  obtain ⟨gz,gI,⟨a,c,d,gO⟩,h1,h2,h3⟩:=st
  have li:∀{it l k},h.IsListIter it l k→∃o,h.get? it=some o∧∀v,o.data≠.cell v:=fun q=>by
   obtain ⟨o,e,_,d⟩:=q
   exact ⟨o,e,fun v z=>by rw[d] at z;cases z⟩
  simp only[AB,BL,or_false] at hb
  rcases hb with e |e |e |e |e |e <;>subst e
  ·exact ⟨_,gz,fun v z=>by cases z⟩
  ·exact ⟨_,gI,fun v z=>by cases z⟩
  ·exact ⟨_,gO,fun v z=>by cases z⟩
  ·exact li h1
  ·exact li h2
  ·exact li h3
 keep:=fun i h h' st k=>by
  obtain ⟨gz,gI,⟨a,c,d,gO⟩,h1,h2,h3⟩:=st
  exact ⟨k z (by simp) _ gz,k TI (by simp) _ gI,⟨a,c,d,k TO (by simp) _ gO⟩,h1.at fun o e=>k i1 (by simp) o e,h2.at fun o e=>k i2 (by simp) o e,h3.at fun o e=>k i3 (by simp) o e⟩
 item:=by
  intro X hP hw hK hc i pins s σ H E I hf st hg
  subst hP hw hK
  obtain ⟨gz,gI,⟨a,b,c,gO⟩,h1,h2,h3⟩:=st
  obtain ⟨xs,ys,zs,x,y,v,q1,q2,q3,e1,e2,e3⟩:=hg
  obtain ⟨n1,r1,p1,_⟩:=I.list q1
  obtain ⟨n2,r2,p2,_⟩:=I.list q2
  obtain ⟨n3,r3,p3,_⟩:=I.list q3
  obtain ⟨u1,k1,t1⟩:=r1.get e1
  obtain ⟨u2,k2,t2⟩:=r2.get e2
  obtain ⟨u3,k3,t3⟩:=r3.get e3
  refine ST.next_z3_item D gz gI gO h1 h2 h3 p1.isList p2.isList p3.isList (x:=u1) (y:=u2) (v:=u3) (by simpa using k1) (by simpa using k2) (by simpa using k3) fun h' a1 a2 a3 a4 a5 a6 a7 kp=>?_
  refine ⟨_,rfl,?_⟩
  refine wpAny_letOwnedTupleGo_zip (s:={s with heap:=h' }) a1 fun hN b1 sb=>?_
  have nz:s.heap.objs.size≠z:=CA (AC gz)
  have tri:ST.IsTri hN s.heap.objs.size u1 u2 u3:=(sb.2 _ nz).trans a6
  have fresh:H s.heap.objs.size=none:=I.hok.fresh (Ay _)
  have nf:s.heap.objs.size ∉ [z,TI,TO,i1,i2,i3]:=fun hb=>by
   have key:∀{d o},s.heap.get? d=some o→s.heap.objs.size≠d:=fun e=>CA (AC e)
   have li:∀{it l k},s.heap.IsListIter it l k→s.heap.objs.size≠it:=fun q=>by obtain ⟨o,e,_⟩:=q;exact key e
   simp only[AB,BL,or_false] at hb
   rcases hb with e |e |e |e |e |e
   ·exact key gz e
   ·exact key gI e
   ·exact key gO e
   ·exact li h1 e
   ·exact li h2 e
   ·exact li h3 e
  refine ⟨.ref s.heap.objs.size,upd H s.heap.objs.size (.tup [x,y,v]),vH (s:=s) (h':=hN) (t':=s.toks) I hf (fun d o hd e=>?_) (Ay _) ⟨by show 3≤sizeLine;decide,[u1,u2,u3],.cons t1 (.cons t2 (.cons t3 .nil)),⟨_,tri,rfl,_,rfl⟩⟩,rfl,
   ⟨_,x,y,v,rfl,fresh,rfl,fun zs q=>by rw[I.list_inj q q1];exact e1,fun zs q=>by rw[I.list_inj q q2];exact e2,fun zs q=>by rw[I.list_inj q q3];exact e3⟩,?_,fun d hd=>?_⟩
  ·simp only[AB,BL,or_false,not_or] at hd
   obtain ⟨d1,d2,d3,d4,d5,d6⟩:=hd
   exact (sb.2 d d1).trans (kp d o d1 d3 d4 d5 d6 e)
  ·have up:∀d o,d≠z→h'.get? d=some o→hN.get? d=some o:=fun d o n e=>(sb.2 d n).trans e
   exact ⟨b1,up _ _ D.TIz (kp _ _ D.TIz D.TITO D.TIi1 D.TIi2 D.TIi3 gI),⟨_,_,_,up _ _ D.TOz a2⟩,a3.at fun o e=>up _ o D.i1z e,a4.at fun o e=>up _ o D.i2z e,a5.at fun o e=>up _ o D.i3z e⟩
  ·rw[aL fun e=>nf (by rw[←e];exact hd)]
   exact (hf d hd).1
 done:=by
  intro X hP hw hK hc i pins s σ H E I hf st hg
  subst hP hw hK
  obtain ⟨gz,gI,_,h1,_⟩:=st
  obtain ⟨xs,q1,hl⟩:=hg
  obtain ⟨n1,r1,p1,_⟩:=I.list q1
  have e1:=r1.length
  refine ST.next_z3_end (I.ok.hd hc) D.i1z D.l1z gz gI h1 p1.isList (by simp;omega) fun h' kp=>⟨rfl,u7 (t':=s.toks) I hf fun d o hd e=>?_⟩
  simp only[AB,BL,or_false,not_or] at hd
  exact kp d o hd.1 hd.2.2.2.1 e
 self:=fun _ _ _ _ _ st h=>HJ st.1 h
def Yz (K:Ap) (J:It) (G:Hp) (xs:List U):Prop:=
 ∀H2,aI G H2→(∀i,i < xs.length→J.go i H2∧∀x H3,J.yld i H2 x H3→aI H2 H3∧∃u,xs[i]?=some u∧∀O2,(∀a∈O2,H2 a≠none)→aI G (hid H2 O2)→Rp K (hid H3 O2) x u)∧J.stop xs.length H2
def EvZ (X:Cx) (H0:Hp) (O0:List Addr) (ps:PSt) (tg iter:Expr) (xs:List U):Prop:=
 PI X tg iter fun σ H R=>∃O,Rs X.K H0 O0 ps σ H O∧∀J H',aI H H'→Yz X.K J (hid H' O) xs→R J H'
section
variable {X:Cx}{H0:Hp}{O0:List Addr}{E:XK}{ps:PSt}{D:PD}{body:List Stmt}{e f g tg iter:Expr}{es:List Expr}{p pos:Pos}{x y z:U}{xs ys zs us:List U}
def iz:List U→List U→List U→List U
 |x::xs,y::ys,z::zs=>.tup [x,y,z]::iz xs ys zs
 |_,_,_=>[]
theorem fT:∀{xs ys zs:List U},xs.length=ys.length→xs.length=zs.length→(iz xs ys zs).length=xs.length
 |[],_,_,_,_=>by simp[iz]
 |_::xs,_::ys,_::zs,h1,h2=>by simp only[iz,A_] at *;rw[fT (by omega) (by omega)]
theorem jj:∀{xs ys zs:List U}{i:Nat}{a b c:U},xs[i]?=some a→ys[i]?=some b→zs[i]?=some c→(iz xs ys zs)[i]?=some (.tup [a,b,c])
 |_::xs,_::ys,_::zs,0,a,b,c,h1,h2,h3=>by simp at h1 h2 h3;simp[iz,h1,h2,h3]
 |_::xs,_::ys,_::zs,i+1,a,b,c,h1,h2,h3=>by rw[Di] at h1 h2 h3;rw[iz,Di];exact jj h1 h2 h3
theorem xI {ctx tpos} (hg:Gl X "zip") (hm:X.mg "zip"=none) (ha:Ev X H0 O0 ps e x) (hx:x=.lst xs∨x=.scr xs) (hb:Ev X H0 O0 ps f y) (hy:y=.lst ys∨y=.scr ys) (hc:Ev X H0 O0 ps g z) (hz:z=.lst zs∨z=.scr zs)
  (l12:xs.length=ys.length) (l13:xs.length=zs.length) (he:AL [e,f,g] X.env=(false,eval e X.env)::AL [f,g] X.env) (hf:AL [f,g] X.env=(false,eval f X.env)::AL [g] X.env) (hgs:AL [g] X.env=(false,eval g X.env)::AL [] X.env):
  EvZ X H0 O0 ps (.Tuple es ctx tpos) (.Call (.Name "zip" p) [e,f,g] [] pos) (iz xs ys zs):=by
 rintro pins s σ H Q I ⟨O,R,q⟩
 refine Bp (cT I hg hm si ?_)
 refine callWith_type1 (thn (cJ ha (cJ hb (cJ hc d8 hgs) hf) he pos pins s σ H (fun vs H1=>∃v u t,vs=[v,u,t]∧aI H H1∧Rp X.K (hid H1 O) v x∧Rp X.K (hid H1 O) u y∧Rp X.K (hid H1 O) t z) I
  ⟨O,R,fun v H1 s1 r1=>⟨O,R.go s1,fun u H2 s2 r2=>⟨O,(R.go s1).go s2,fun t H3 s3 r3=>⟨v,u,t,rfl,(s1.trans s2).trans s3,(r1.same (aP s2)).same (aP s3),r2.same (aP s3),r3⟩⟩⟩⟩) fun us s1 hx'=>?_) he (by rw[hf,hgs];rfl)
 obtain ⟨vs,H1,I1,rv,v,u,t,rfl,sm,rp1,rp2,rp3⟩:=hx'
 obtain ⟨w1,w2,w3,rfl,ru1,ru2,ru3⟩:=yu rv
 obtain ⟨a,va,rfl,hq1,rs1⟩:=rJ rp1 hx
 obtain ⟨b,vb,rfl,hq2,rs2⟩:=rJ rp2 hy
 obtain ⟨c,vc,rfl,hq3,rs3⟩:=rJ rp3 hz
 cases ru1
 cases ru2
 cases ru3
 obtain ⟨ia,ra,pl1,hz1⟩:=I1.list (aC.seq hq1)
 obtain ⟨ib,rb,pl2,hz2⟩:=I1.list (aC.seq hq2)
 obtain ⟨ic,rc,pl3,hz3⟩:=I1.list (aC.seq hq3)
 have l1:=rs1.len
 have l2:=rs2.len
 have l3:=rs3.len
 have al:@LT.lt Nat instLTNat a s1.heap.objs.size:=by obtain ⟨o,ho,_⟩:=pl1.isList;exact AC ho
 have bl:@LT.lt Nat instLTNat b s1.heap.objs.size:=by obtain ⟨o,ho,_⟩:=pl2.isList;exact AC ho
 have cl:@LT.lt Nat instLTNat c s1.heap.objs.size:=by obtain ⟨o,ho,_⟩:=pl3.isList;exact AC ho
 refine ST.call_z3 pl1.isList pl2.isList pl3.isList fun h' g1 g2 g3 g4 g5 g6 g7 g8=>?_
 have D:ST.Z3A (s1.heap.objs.size+5) (s1.heap.objs.size+3) (s1.heap.objs.size+4) s1.heap.objs.size (s1.heap.objs.size+1) (s1.heap.objs.size+2) a b c:=by constructor <;>exact Ah (by omega)
 refine HJ (s:={s1 with heap:=h' }) g1 ?_
 have I2:Inv X pins σ H1 {s1 with heap:=h' }:=I1.kept (t':=s1.toks) g8
 refine ⟨s1.heap.objs.size+5,_,_,_,H1,rfl,I2,vU _ _ _ _ _ _ a b c D,⟨g1,g2,⟨_,_,_,g3⟩,g4,g5,g6⟩,fun d hd=>?_,q _ H1 sm fun H2 s2=>?_⟩
 ·have ge:s1.heap.objs.size≤d:=by
   simp only[AB,BL,or_false] at hd
   rcases hd with e |e |e |e |e |e <;>rw[e]
   ·exact DT _ _
   ·exact DT _ _
   ·exact DT _ _
   ·exact Ay _
   ·exact DT _ _
   ·exact DT _ _
  exact I1.fpOk ge (I1.hok.fresh ge)
 ·rw[fT l12 l13]
  refine ⟨fun i hi=>?_,⟨va,s2.seq hq1,by omega⟩⟩
  have h1:i < va.length:=by omega
  have h2:i < vb.length:=by omega
  have h3:i < vc.length:=by omega
  refine ⟨⟨va,vb,vc,va[i],vb[i],vc[i],s2.seq hq1,s2.seq hq2,s2.seq hq3,An h1,An h2,An h3⟩,?_⟩
  rintro _ H3 ⟨pp,x1,y1,v1,rfl,nn,rfl,e1,e2,e3⟩
  have sm2:aI H2 (upd H2 pp (.tup [x1,y1,v1])):=aN nn _
  have m1:xs[i]?=some (xs[i]'(by omega)):=An (by omega)
  have m2:ys[i]?=some (ys[i]'(by omega)):=An (by omega)
  have m3:zs[i]?=some (zs[i]'(by omega)):=An (by omega)
  refine ⟨sm2,_,jj m1 m2 m3,fun O2 hO sG=>?_⟩
  have all:Rps X.K (hid (upd H2 pp (.tup [x1,y1,v1])) O2) [x1,y1,v1] [_,_,_]:=
   .cons ((rs1.at_ i _ _ (e1 _ (s2.seq hq1)) m1).same (sG.trans (aP sm2))) (.cons ((rs2.at_ i _ _ (e2 _ (s2.seq hq2)) m2).same (sG.trans (aP sm2))) (.cons ((rs3.at_ i _ _ (e3 _ (s2.seq hq3)) m3).same (sG.trans (aP sm2))) .nil))
  exact .tup (SqT.of (dj aQ fun hp=>hO pp hp nn)) all.len all.at_
theorem xH (hc:X.calm=true) (hp:EV (model X.prog X.w) X.A X.env X.xe) (hi:EvZ X H0 O0 ps tg iter xs) (Iv:Nat→PSt→Prop) (h0:Iv 0 ps)
  (hs:∀(H0:Hp) (i:Nat) (x:U) (ps:PSt),xs[i]?=some x→Iv i ps→∃ps',TgS X H0 O0 tg ps x ps'∧Ws X H0 O0 E body {D with nx:=Iv (i+1),ct:=Iv (i+1),bk:=D.nx } ps') (hd:∀ps,Iv xs.length ps→D.nx ps)
  (hf:∀x,Bw iter X.env x=pure x:=by intro _;rfl):W1 X H0 O0 E (.For tg iter body [] pos) D ps:=by
 have hg:PG X tg fun v σ H Q=>∃H1 ps u ps',TgS X H1 O0 tg ps u ps'∧∃O,Rs X.K H1 O0 ps σ H O∧Rp X.K (hid H O) v u∧∀σ' H',aI H H'→Rs X.K H1 O0 ps' σ' H' O→Q σ' H':=
  fun pins s σ H v u Q I r ⟨H1,ps,w,ps',t,z⟩=>t pins s σ H v u Q I r z
 have hb:PSs X body fun D' σ H=>∃H1 D1 ps',Ws X H1 O0 E body D1 ps'∧Lf X.K H1 O0 E D1 D'∧∃O,Rs X.K H1 O0 ps' σ H O:=fun pins s σ H D' I ⟨H1,D1,ps',w,z⟩=>w pins s σ H D' I z
 refine PS.mono (sM hp hc hi hg hb hf) fun D' σ H ⟨L,O,R⟩=>⟨O,R,fun J H1 s1 Y=>?_⟩
 have R1:=R.go s1
 have base:=R1.base
 refine ⟨fun i m σ H=>m=xs.length - i∧i≤xs.length∧∃ps O',Iv i ps∧Rs X.K (hid H1 (O.filter fun a=>decide (a ∉ O0))) O0 ps σ H O',⟨_,rfl,Bh _,ps,O,h0,R1.rebase⟩,?_⟩
 rintro i m σ2 H2 ⟨rfl,hi2,ps2,O2,iv,R2⟩
 have seen:=R1.seen R2
 obtain ⟨y1,y2⟩:=Y H2 (seen.trans aC)
 by_cases hlt:i < xs.length
 ·obtain ⟨g1,g2⟩:=y1 i hlt
  refine .inr ⟨g1,fun σ' H'=>∃ps O',Iv (i+1) ps∧Rs X.K (hid H1 (O.filter fun a=>decide (a ∉ O0))) O0 ps σ' H' O',fun σ' H' z=>⟨xs.length - (i+1),by omega,rfl,hlt,z⟩,fun x H3 y=>?_⟩
  obtain ⟨s3,u,hu,r⟩:=g2 x H3 y
  obtain ⟨ps',t,w⟩:=hs (hid H1 (O.filter fun a=>decide (a ∉ O0))) i u ps2 hu iv
  refine ⟨_,ps2,u,ps',t,O2,R2.go s3,r O2 R2.dom seen,fun σ' H' s' R'=>⟨_,_,ps',w,?_,O2,R'⟩⟩
  exact ⟨fun p σ H O R q=>⟨p,O,q,R⟩,fun p σ H O R q=>L.nx _ _ _ _ (R.unbase base) q,fun p σ H O R q=>⟨p,O,q,R⟩,fun o q=>(L.rt o q).later base⟩
 ·have e:i=xs.length:=by omega
  subst e
  exact .inl ⟨y2,L.nx _ _ _ _ (R2.unbase base) (hd ps2 iv)⟩
theorem v5 {α:Type} (st:α→PSt) (Q:Nat→α→Prop) (hc:X.calm=true) (hp:EV (model X.prog X.w) X.A X.env X.xe) (hi:EvZ X H0 O0 ps tg iter xs) (h0:∃a,Q 0 a∧SubP (st a) ps)
  (hs:∀(H0:Hp) (i:Nat) (x:U) (a:α),xs[i]?=some x→Q i a→∃ps',TgS X H0 O0 tg (st a) x ps'∧Ws X H0 O0 E body {D with nx:=fun p=>∃b,Q (i+1) b∧SubP (st b) p,ct:=fun p=>∃b,Q (i+1) b∧SubP (st b) p,bk:=D.nx } ps')
  (hd:∀a ps,Q xs.length a→SubP (st a) ps→D.nx ps) (hf:∀x,Bw iter X.env x=pure x:=by intro _;rfl):W1 X H0 O0 E (.For tg iter body [] pos) D ps:=
 xH hc hp hi (fun i ps=>∃a,Q i a∧SubP (st a) ps) h0 (fun H0 i x ps hx ⟨a,q,sb⟩=>by
  obtain ⟨ps',t,w⟩:=hs H0 i x a hx q
  exact ⟨ps',t.sub sb,w⟩) (fun ps ⟨a,q,sb⟩=>hd a ps q sb) hf
end
abbrev Ent:=List Int×Addr×Value
def Sd (P:AD) (w:World) (d:Addr) (xs:List Ent) (h:Heap):Prop:=
 (d==IK)=false∧xs.length≤sizeLine∧∃o es ep,h.get? d=some o∧o.ExactDict∧o.data=.dict es ep∧es.toList=xs.map (entryOfKey (Jo (DF P w)))∧(xs.map (·.1)).Nodup
section
variable {X:Cx}{pins:List (Addr×Obj)}{σ:St}{H:Hp}{s:As}{a b:Addr}{k:List Int}{xs:List Ent}{A:A5}{E:Value→As→Prop}
end
section
variable {X:Cx}{o i e value:Expr}{pos pos' tpos:Pos}{td ty tv:TE}
end
structure Sn (P:AD) (w:World) (K:Ap) (ps:PSt) (j:Nat) (xs:List Ent) (H0:Hp) (O0:List Addr) (σ:St) (H:Hp) (O:List Addr) (d:Addr):Prop where
 rs:Rs K H0 O0 ps σ H O
 vals:∀(i:Nat) (s:Sl),ps[i]?=some (some s)→∃u,s=.val u
 non:ps[j]?=some none
 at_:σ[j]?=some (some (.ref d))
 dO:d∈O
 dO0:d ∉ O0
 dh:H d=some (.ext (Sd P w d xs))
 ky:∀x∈xs,SqT K (hid H O) x.2.1 (x.1.map V.int)
section
variable {P:AD}{w:World}{K:Ap}{H0 H H':Hp}{O0 O:List Addr}{ps:PSt}{σ:St}{j:Nat}{xs:List Ent}{d:Addr}
end
section
variable {X:Cx}{H0:Hp}{O0:List Addr}{E:XK}{ps:PSt}{D:PD}{iter e t1:Expr}{items:List U}{ss b1 b2:List Stmt}
end
end L2
namespace ST6
open PySem PyProof.Rows ST
section
variable {prog:AD}{w:World}{A:A5}{E:Value→As→Prop}{s:As}
end
end ST6
namespace L2
open PySem PySem.Spec PyProof.Rows
end L2
namespace ST
open PySem PyProof.Rows PySem.SeqAt
def jR (e r:Nat→Bool) (m n:Nat):Nat→Nat→Bool
 |0,_=>decide (m < n)
 |k+1,i=>if e i=true then jR e r m n k (i+1) else r i
def uL (A:A5) (s:As) (a b:Value) (r:Bool):Prop:=∀(prog:AD) (w:World) (E:Value→As→Prop) (Q:Value→As→Prop),Q (.bool r) s→wpAny (model prog w) A (FE .Lt a b) Q E s
theorem q_ (l b:Addr) (items items2:Array Value) (n n2:Nat) (dd dd2:Option Addr) (sl sl2:Array (Option Value)) (e r:Nat→Bool) (k:Nat):
  ∀i:Nat,min items.size items2.size - i=k→Meets (Builtin.«list.__eq__.loop» ⟨[.ref l,.ref b,Dt i,Dt 0],[]⟩)
   (fun A R s=>s.heap.get? l=some {cls:=.type "list",dict:=dd,data:=.seq items n,slots:=sl }∧s.heap.get? b=some {cls:=.type "list",dict:=dd2,data:=.seq items2 n2,slots:=sl2 }∧
    (∀j (h1:j < items.size) (h2:j < items2.size),EqAt A.in1 s items[j] items2[j] (e j))∧(∀j (h1:j < items.size) (h2:j < items2.size),e j=false→uL A.in1 s items[j] items2[j] (r j))∧
    R (.ok (.ret (.bool (jR e r items.size items2.size k i)))) s):=by
 induction k with
 |zero=>
  intro i hk prog w A R s h
  obtain ⟨hp,g,d,tk,os⟩:=s;obtain ⟨hl,hb,he,hr,h⟩:=h
  wp_walk using Cj hl,Cj hb
  have hi:items[((i:Nat):Int).toNat]?=none∨items2[((i:Nat):Int).toNat]?=none:=by
   rcases CB i items.size with z |z
   ·exact .inr (by simp;omega)
   ·exact .inl (by simpa using z)
  rcases hi with hi |hi
  ·rw[hi]
   wp_walk using Cj hl,Cj hb
   exact h
  ·cases hx:items[((i:Nat):Int).toNat]? <;>rw[hi] <;>wp_walk using Cj hl,Cj hb <;>exact h
 |succ k ih=>
  intro i hk prog w A R s h
  obtain ⟨hp,g,d,tk,os⟩:=s;obtain ⟨hl,hb,he,hr,h⟩:=h
  wp_walk using Cj hl,Cj hb
  have hlt:i < items.size:=by omega
  have hlt2:i < items2.size:=by omega
  have hi1:items[((i:Nat):Int).toNat]?=some items[i]:=by simp[hlt]
  have hi2:items2[((i:Nat):Int).toNat]?=some items2[i]:=by simp[hlt2]
  have hc:((i:Int)+1)=((i+1:Nat):Int):=by push_cast;rfl
  rw[jR] at h
  rw[hi1,hi2]
  refine Ao (he i hlt hlt2 prog w _ _ ?_)
  cases hb':e i with
  |true=>
   rw[hb',if_pos rfl] at h
   wp_walk
   rw[hc]
   exact ⟨CJ CG _,CC EI (by
    rw[BZ CG _]
    exact ih (i+1) (by omega) prog w A R _ ⟨hl,hb,he,hr,h⟩)⟩
  |false=>
   rw[hb',if_neg AX] at h
   wp_walk using Cj hl,Cj hb
   rw[hi1,hi2]
   refine Ao (hr i hlt hlt2 hb' prog w _ _ ?_)
   wp_walk
   exact h
theorem rf (l b:Addr) (items items2:Array Value) (n n2:Nat) (dd dd2:Option Addr) (sl sl2:Array (Option Value)) (e r:Nat→Bool):
  Meets (Builtin.«list.__lt__» ⟨[.ref l,.ref b],[]⟩)
   (fun A R s=>s.heap.get? l=some {cls:=.type "list",dict:=dd,data:=.seq items n,slots:=sl }∧s.heap.get? b=some {cls:=.type "list",dict:=dd2,data:=.seq items2 n2,slots:=sl2 }∧
    (∀j (h1:j < items.size) (h2:j < items2.size),EqAt A.in1 s items[j] items2[j] (e j))∧(∀j (h1:j < items.size) (h2:j < items2.size),e j=false→uL A.in1 s items[j] items2[j] (r j))∧
    R (.ok (.ret (.bool (jR e r items.size items2.size (min items.size items2.size) 0)))) s):=by
 intro prog w A R s h
 obtain ⟨hp,g,d,tk,os⟩:=s;obtain ⟨hl,hb,he,hr,h⟩:=h
 have hT:Jk ⟨hp,g,d,tk,os⟩ (.ref b) "list":=⟨_,hb,rfl⟩
 show wpAny _ _ (isInstance (.ref b) (.type "list") >>=_) _ _ _
 refine Ao (Dp (b:=true) hT (by rw[DM];kernel_rfl) ?_)
 simp only[C4,AR,if_false]
 refine De (fun z=>absurd z (by decide)) (fun _=>?_)
 refine Au ⟨CJ CG _,CC EI ?_⟩
 rw[BZ CG _]
 exact q_ l b items items2 n n2 dd dd2 sl sl2 e r _ 0 rfl prog w A R _ ⟨hl,hb,he,hr,h⟩
section
variable {prog:AD}{w:World}{A:A5}{E:Value→As→Prop}{s:As}
theorem lt_lists {l b:Addr}{items items2:Array Value}{e r:Nat→Bool}{Q:Value→As→Prop} (hl:s.heap.IsList l items) (hb:s.heap.IsList b items2) (hu:A.units < cLine)
  (he:∀j (h1:j < items.size) (h2:j < items2.size),EqAt A.in1 s items[j] items2[j] (e j)) (hr:∀j (h1:j < items.size) (h2:j < items2.size),e j=false→uL A.in1 s items[j] items2[j] (r j))
  (h:Q (.bool (jR e r items.size items2.size (min items.size items2.size) 0)) s):wpAny (model prog w) A (FE .Lt (.ref l) (.ref b)) Q E s:=by
 obtain ⟨⟨cls,dd,data,sl⟩,ho,hc,n,hd⟩:=id hl
 obtain ⟨⟨cls2,dd2,data2,sl2⟩,ho2,hc2,n2,hd2⟩:=id hb
 simp only at hc hd hc2 hd2
 subst hc hd hc2 hd2
 exact richCompare_meets_room (op:=.Lt) ⟨_,ho,rfl⟩ ⟨_,ho2,rfl⟩ PySem.F.slot_list_lt PySem.F.entry_list_lt (PySem.F.args_list_lt_2 _ _) (rf l b items items2 n n2 dd dd2 sl sl2 e r)
  ⟨ho,ho2,he,hr,(fun x=>nomatch x),h⟩ hu
theorem kq {prog':AD}{w':World}:∀{k:List Int}{vs:List Value},ItemsAre (DF prog w) k vs→ItemsAre (DF prog' w') k vs
 |_,_,.nil=>.nil
 |_,_,.cons h t=>.cons h (kq t)
theorem TK.any {prog':AD}{w':World}{h:Heap}{k:List Int}{b:Addr} (x:TK prog w h k b):TK prog' w' h k b:=by
 obtain ⟨o,its,n,ho,hc,hd,hi⟩:=x
 exact ⟨o,its,n,ho,hc,hd,kq hi⟩
theorem eqAt_pts {x y:Addr}{k m:List Int} (hu:A.units < cLine) (hx:TK prog w s.heap k x) (hy:TK prog w s.heap m y):EqAt A s (.ref x) (.ref y) (decide (k=m)):=fun prog' w' E Q h=>
 (Jo (DF prog' w')).eqBool hu (TK.any hx) (TK.any hy) h
theorem ltAt_pts {x y:Addr}{a b:Int×Int} (hu:A.units < cLine) (hx:TK prog w s.heap [a.1,a.2] x) (hy:TK prog w s.heap [b.1,b.2] y):uL A s (.ref x) (.ref y) (ltP a b):=fun prog' w' E Q h=>vx hu (TK.any hx) (TK.any hy) h
end
def ltLs:List (Int×Int)→List (Int×Int)→Bool
 |a::r,b::t=>if a=b then ltLs r t else ltP a b
 |[],_::_=>true
 |_,[]=>false
theorem lexB_pts {e r:Nat→Bool}:∀(ps qs:List (Int×Int)) (i m n:Nat),(∀j (h1:j < ps.length) (h2:j < qs.length),e (i+j)=decide (ps[j]=qs[j])∧r (i+j)=ltP ps[j] qs[j])→m=i+ps.length→n=i+qs.length→jR e r m n (min ps.length qs.length) i=ltLs ps qs
 |[],[],i,m,n,_,hm,hn=>by rw[hm,hn];simp[jR,ltLs]
 |[],b::t,i,m,n,_,hm,hn=>by
  rw[hm,hn]
  simp[jR,ltLs]
 |a::r',[],i,m,n,_,hm,hn=>by
  rw[hm,hn]
  simp[jR,ltLs]
 |a::r',b::t,i,m,n,h,hm,hn=>by
  have h0:=h 0 (by simp) (by simp)
  have ih:=lexB_pts (e:=e) (r:=r) r' t (i+1) m n (fun j h1 h2=>by
   have:=h (j+1) (by simpa using h1) (by simpa using h2)
   rw[show i+1+j=i+(j+1) by omega]
   simpa using this) (by rw[hm,A_];omega) (by rw[hn,A_];omega)
  rw[show min (a::r').length (b::t).length=min r'.length t.length+1 by rw[A_,A_];omega,jR,ltLs,show i=i+0 from rfl,h0.1,h0.2]
  simp only[List.getElem_cons_zero]
  by_cases z:a=b
  ·rw[if_pos z,decide_eq_true z,if_pos rfl]
   exact ih
  ·rw[if_neg z,decide_eq_false z,if_neg AX]
end ST
namespace L2
open PySem PySem.Spec PyProof.Rows
theorem mG {X:Cx}{pins:List (Addr×Obj)}{σ:List (Option V)}{H:Hp}{s:As}{l:List P2} (I:Inv X pins σ H s) {v:V}{u:Value} (r:Rp X.K H v (lp l)) (e:aW v u):
  ∃a its,u=.ref a∧s.heap.IsList a its∧its.size=l.length∧∀(j:Nat) (h1:j < its.size) (h2:j < l.length),∃b,its[j]=.ref b∧ST.TK X.prog X.w s.heap [l[j].1,l[j].2] b:=by
 cases r with
 | @lst a ws _ hq hwl hwi=>
  cases e
  obtain ⟨its,rv,pl,_⟩:=I.list (SqL.of hq)
  have hl:=rv.length
  have e1:its.toArray.size=l.length:=by simp;rw[←hl,hwl,Ar]
  refine ⟨a,its.toArray,rfl,pl.isList,e1,fun j h1 h2=>?_⟩
  have hj:j < ws.length:=by simp at h1;omega
  obtain ⟨u,hu,ru⟩:=rv.get (An hj)
  have q:=hwi j ws[j] (pu l[j]) (An hj) (by rw[Av,An h2];rfl)
  obtain ⟨b,rfl,t⟩:=yM I q ru
  refine ⟨b,?_,t⟩
  have:its[j]?=some (.ref b):=hu
  simp at h1
  rw[An h1] at this
  simpa using this
theorem u8 {X:Cx}{pins:List (Addr×Obj)}{σ:List (Option V)}{H:Hp}{s:As}{A:A5}{E:Value→As→Prop}{l m:List P2}{Q:Value→As→Prop} (hu:A.units+4 < cLine) (I:Inv X pins σ H s) {v w:V}{u z:Value} (r1:Rp X.K H v (lp l)) (r2:Rp X.K H w (lp m)) (e1:aW v u) (e2:aW w z)
  (h:Q (.bool (ST.ltLs l m)) s):wpAny (model X.prog X.w) A (FE .Lt u z) Q E s:=by
 obtain ⟨a,its,rfl,h1,n1,k1⟩:=mG I r1 e1
 obtain ⟨b,jts,rfl,h2,n2,k2⟩:=mG I r2 e2
 refine ST.lt_lists (e:=fun j=>decide (l.getD j (0,0)=m.getD j (0,0))) (r:=fun j=>ST.ltP (l.getD j (0,0)) (m.getD j (0,0))) h1 h2 (by omega) (fun j q1 q2=>?_) (fun j q1 q2 _=>?_) ?_
 ·obtain ⟨x,ex,tx⟩:=k1 j q1 (by omega)
  obtain ⟨y,ey,ty⟩:=k2 j q2 (by omega)
  rw[ex,ey]
  have g1:l.getD j (0,0)=l[j]'(by omega):=by rw[Ax,An (by omega)];rfl
  have g2:m.getD j (0,0)=m[j]'(by omega):=by rw[Ax,An (by omega)];rfl
  have:=ST.eqAt_pts (A:=A.in1) (show A.in1.units < cLine by simp[JL];omega) tx ty
  rw[g1,g2]
  have e:decide (l[j]'(by omega)=m[j]'(by omega))=decide ([(l[j]'(by omega)).1,(l[j]'(by omega)).2]=[(m[j]'(by omega)).1,(m[j]'(by omega)).2]):=by
   rw[CP];simp[Prod.ext_iff]
  rw[e];exact this
 ·obtain ⟨x,ex,tx⟩:=k1 j q1 (by omega)
  obtain ⟨y,ey,ty⟩:=k2 j q2 (by omega)
  rw[ex,ey]
  have g1:l.getD j (0,0)=l[j]'(by omega):=by rw[Ax,An (by omega)];rfl
  have g2:m.getD j (0,0)=m[j]'(by omega):=by rw[Ax,An (by omega)];rfl
  rw[g1,g2]
  exact ST.ltAt_pts (A:=A.in1) (show A.in1.units < cLine by simp[JL];omega) tx ty
 ·rw[n1,n2,ST.lexB_pts l m 0 _ _ (fun j q1 q2=>?_) (by omega) (by omega)]
  ·exact h
  ·have g1:l.getD j (0,0)=l[j]:=by rw[Ax,An q1];rfl
   have g2:m.getD j (0,0)=m[j]:=by rw[Ax,An q2];rfl
   rw[show 0+j=j by omega,g1,g2];exact ⟨rfl,rfl⟩
def abK (kf:Nat→List P2):Nat→Nat
 |0=>0
 |j+1=>if ST.ltLs (kf (j+1)) (kf (abK kf j))=true then j+1 else abK kf j
theorem tX (kf:Nat→List P2):∀j,abK kf j≤j
 |0=>Ay _
 |j+1=>by
  have:=tX kf j
  rw[abK]
  split <;>omega
theorem oR {h:Heap}{b:Addr}{vs:Array Value}{c:Nat} (e:h.get? b=some (C_ "list" vs c)) (f:Array Value→Array Value):∃c',(h.update b (BQ f)).get? b=some (C_ "list" (f vs) c'):=⟨_,Gh e f⟩
section
variable {X:Cx}{pins:List (Addr×Obj)}{σ:St}{H:Hp}{l q S Ia:Addr}{ob:Obj}{O:List Addr}{vs:List V}{kf:Nat→List P2}{R:GV→As→Prop}
def Turns (X:Cx) (σ:St) (H:Hp) (q:Addr) (ob:Obj) (O:List Addr) (vs:List V) (kf:Nat→List P2):Prop:=
 ∀(pins':List (Addr×Obj)) (s':As) (H':Hp) (j:Nat) (v:V) (u:Value),(q,ob)∈pins'→Inv X pins' σ H' s'→aI H H'→vs[j]?=some v→aW v u→
  wpAny (model X.prog X.w) X.A.in1 (call (.ref q) [u]) (fun r s2=>∃kv H2,Inv X pins' σ H2 s2∧aI H' H2∧aW kv r∧Rp X.K (hid H2 O) kv (lp (kf j))) (fun _ _=>False) s'
structure Mkk (X:Cx) (pins:List (Addr×Obj)) (σ:St) (H:Hp) (l q S Ia:Addr) (ob:Obj) (O:List Addr) (vs:List V) (kf:Nat→List P2) (j:Nat) (s:As) (H':Hp) (vb kb:Value):Prop where
 inv:Inv X pins σ H' s
 same:aI H H'
 fp:∀b∈[q,Ia,S],d7 X pins H' b
 oq:s.heap.get? q=some ob
 oS:∃c,s.heap.get? S=some (C_ "list" #[vb,kb] c)
 it:s.heap.IsListIter Ia l (j+1)
 best:∃v,vs[abK kf j]?=some v∧aW v vb
 key:∃kv,aW kv kb∧Rp X.K (hid H' O) kv (lp (kf (abK kf j)))
theorem uH (hc:X.calm=true) (hu:X.A.units+10 < cLine) (hl:SqL X.K H l vs) (hqS:q≠S) (hqI:q≠Ia) (hSI:S≠Ia) (nc:∀v,ob.data≠.cell v) (turn:Turns X σ H q ob O vs kf)
  (hR:∀(v:V) (u:Value) (s':As) (H':Hp),vs[abK kf (vs.length - 1)]?=some v→aW v u→Inv X pins σ H' s'→aI H H'→R (.ok (.ret u)) s'):
  ∀(r j:Nat) (s:As) (H':Hp) (vb kb:Value),vs.length - (j+1)=r→j+1≤vs.length→Mkk X pins σ H l q S Ia ob O vs kf j s H' vb kb→
   EY (model X.prog X.w) X.A (.builtin "min.loop" ⟨[.ref Ia,.ref q,.ref S],[]⟩) R s:=by
 have hname:(Jm "min"++Jm ".loop":String)="min.loop":=by decide
 intro r
 induction r with
 |zero=>
  intro j s H' vb kb hr hj M
  have hin:j+1=vs.length:=by omega
  obtain ⟨c,oS⟩:=M.oS
  obtain ⟨its,rv,pl,_⟩:=M.inv.list (M.same.seq hl)
  have lv:=rv.length
  refine CC Ef ?_
  rw[BZ B3 _]
  show wpAny _ X.A.in1 (HW (.ref S) >>=_) _ _ _
  refine Ao (B7 oS rfl ?_)
  show wpAny _ X.A.in1 (Ha (EW (.ref Ia)) _ >>=_) _ _ _
  refine Ao (DN (Ex (M.inv.ok.hd hc) M.it pl.isList (by simp;omega) fun h' eb=>?_))
  obtain ⟨f0,f1,f2,f3,f4,f5⟩:=M.fp Ia (by simp)
  have I1:Inv X pins σ H' {s with heap:=h' }:=M.inv.turned (t':=s.toks) (fun b o hb e=>eb b o hb e) f0 f1 f3 f4 f5
  have hS':=eb S _ hSI oS
  show wpAny _ X.A.in1 (Gj S (fun _=>#[]) >>=_) _ _ _
  refine Ao ?_
  refine Df (s:={s with heap:=h' }) hS' rfl (Ao (DW (Au ?_)))
  obtain ⟨g0,g1,g2,g3,g4,g5⟩:=M.fp S (by simp)
  have I2:Inv X pins σ H' {s with heap:=h'.update S (BQ fun _=>#[]) }:=I1.turned (s:={s with heap:=h' }) (t':=s.toks) (fun b o hb e=>(Bc _ _ (Ne.symm hb)).trans e) g0 g1 g3 g4 g5
  obtain ⟨v,e1,e2⟩:=M.best
  exact hR v vb _ H' (by rw[←hin];exact e1) e2 I2 M.same
 |succ r ih=>
  intro j s H' vb kb hr hj M
  have hlt:j+1 < vs.length:=by omega
  obtain ⟨c,oS⟩:=M.oS
  obtain ⟨its,rv,pl,_⟩:=M.inv.list (M.same.seq hl)
  obtain ⟨u,hux,ru⟩:=rv.get (An hlt)
  refine CC Ef ?_
  rw[BZ B3 _]
  show wpAny _ X.A.in1 (HW (.ref S) >>=_) _ _ _
  refine Ao (B7 oS rfl ?_)
  show wpAny _ X.A.in1 (Ha (EW (.ref Ia)) _ >>=_) _ _ _
  refine Ao (DN (Dq M.it pl.isList (x:=u) (by simpa using hux) fun h' st' sb=>?_))
  obtain ⟨f0,f1,f2,f3,f4,f5⟩:=M.fp Ia (by simp)
  have I1:Inv X pins σ H' {s with heap:=h' }:=M.inv.turned (t':=s.toks) (fun b o hb e=>(sb.2 b hb).trans e) f0 f1 f3 f4 f5
  obtain ⟨oI,gI,cI,dI⟩:=id st'
  have gS:h'.get? S=some (C_ "list" #[vb,kb] c):=(sb.2 S hSI).trans oS
  have gq:h'.get? q=some ob:=(sb.2 q hqI).trans M.oq
  have ho:∀b∈[q,Ia,S],∃o,h'.get? b=some o∧∀v,o.data≠.cell v:=fun b hb=>by
   simp only[AB,BL,or_false] at hb
   rcases hb with e |e |e <;>subst e
   ·exact ⟨_,gq,nc⟩
   ·exact ⟨_,gI,fun v z=>by rw[dI] at z;cases z⟩
   ·exact ⟨_,gS,fun v z=>by cases z⟩
  have I1p:=I1.pinned (s:={s with heap:=h' }) M.fp ho
  show wpAny _ X.A.in1 (Ha (holding [u] (call (.ref q) [u])) _ >>=_) _ _ _
  refine Ao (DN (Bt (Cs (turn _ _ H' (j+1) _ u (AH _ (bP (by simp) gq)) I1p M.same (An hlt) ru) (fun kr s2 he=>?_) fun _ _ hF=>hF.elim)))
  obtain ⟨kv,H2,I2p,sm2,rk,rp⟩:=he
  have pin:∀{b o},b∈[q,Ia,S]→h'.get? b=some o→s2.heap.get? b=some o∧H2 b=none:=fun {b o} hb e=>by
   have:=I2p.pin (b,o) (AH _ (AH _ (bP hb e)))
   exact ⟨this.1,this.2.1⟩
  have I2:=I2p.unpinned
  obtain ⟨gS2,nS2⟩:=pin (b:=S) (by simp) gS
  obtain ⟨gI2,nI2⟩:=pin (b:=Ia) (by simp) gI
  obtain ⟨gq2,nq2⟩:=pin (b:=q) (by simp) gq
  have fp2:∀b∈[q,Ia,S],d7 X pins H2 b:=fun b hb=>by
   have:=M.fp b hb
   refine ⟨?_,this.2⟩
   simp only[AB,BL,or_false] at hb
   rcases hb with e |e |e <;>subst e
   ·exact nq2
   ·exact nI2
   ·exact nS2
  obtain ⟨kw,rw',rb⟩:=M.key
  have sm:aI H H2:=M.same.trans sm2
  have it2:s2.heap.IsListIter Ia l (j+1+1):=⟨oI,gI2,cI,dI⟩
  show wpAny _ X.A.in1 (Ha (holding [u,kr] (FE .Lt kr kb >>=_)) _ >>=_) _ _ _
  refine Ao (DN (Bt (Ao (u8 (A:=X.A.in1) (by show X.A.units+1+4 < cLine;omega) I2 rp.out (rb.same (aP sm2)).out rk rw' ?_))))
  refine Ao (Bt (CN ?_))
  refine Ao (DW (Au ?_))
  cases hb:ST.ltLs (kf (j+1)) (kf (abK kf j)) with
  |true=>
   have eb:abK kf (j+1)=j+1:=by rw[abK,if_pos hb]
   simp only[if_true]
   refine Ao ?_
   refine Df gS2 rfl (Ao (DW ?_))
   rw[hname]
   obtain ⟨c2,hc2⟩:=oR gS2 fun _=>#[u,kr]
   obtain ⟨g0,g1,g2,g3,g4,g5⟩:=fp2 S (by simp)
   have I3:Inv X pins σ H2 {s2 with heap:=s2.heap.update S (BQ fun _=>#[u,kr]) }:=I2.turned (t':=s2.toks) (fun b o hb e=>(Bc _ _ (Ne.symm hb)).trans e) g0 g1 g3 g4 g5
   refine Au ⟨CJ B3 _,ih (j+1) _ H2 u kr (by omega) hlt ⟨I3,sm,fp2,(Bc _ _ hqS.symm).trans gq2,⟨c2,hc2⟩,⟨oI,(Bc _ _ hSI).trans gI2,cI,dI⟩,?_,?_⟩⟩
   ·exact ⟨_,by rw[eb];exact An hlt,ru⟩
   ·exact ⟨kv,rk,by rw[eb];exact rp⟩
  |false=>
   have eb:abK kf (j+1)=abK kf j:=by rw[abK,if_neg (by rw[hb];decide)]
   simp only[AR,if_false]
   refine Ao (DW ?_)
   rw[hname]
   obtain ⟨v,e1,e2⟩:=M.best
   refine Au ⟨CJ B3 _,ih (j+1) _ H2 vb kb (by omega) hlt ⟨I2,sm,fp2,gq2,⟨c,gS2⟩,it2,?_,?_⟩⟩
   ·exact ⟨v,by rw[eb];exact e1,e2⟩
   ·exact ⟨kw,rw',by rw[eb];exact rb.same (aP sm2)⟩
theorem qr {s:As}{Q:Value→As→Prop}{E:Value→As→Prop} (hc:X.calm=true) (hu:X.A.units+10 < cLine) (I:Inv X pins σ H s) (hl:SqL X.K H l vs) (hne:0 < vs.length) (fq:d7 X pins H q) (oq:s.heap.get? q=some ob) (nc:∀v,ob.data≠.cell v) (turn:Turns X σ H q ob O vs kf)
  (hQ:∀(v:V) (u:Value) (s':As) (H':Hp),vs[abK kf (vs.length - 1)]?=some v→aW v u→Inv X pins σ H' s'→aI H H'→Q u s'):
  wpAny (model X.prog X.w) X.A (call (.builtin "min") [.ref l] [(Str.ofString "key",.ref q)]) Q E s:=by
 have hname:(Jm "min"++Jm ".loop":String)="min.loop":=by decide
 obtain ⟨its,rv,pl,_⟩:=I.list hl
 obtain ⟨ol,hol,_⟩:=id pl.isList
 have hll:l < s.heap.objs.size:=AC hol
 have hql:q < s.heap.objs.size:=AC oq
 refine kmk_tree PySem.F.kind_min PySem.F.plain_min PySem.F.entry_min (kmk_min_key _ _) ?_
 show wpAny _ X.A.in1 (Builtin.Builtins.bindParams "min" ["key","default"] 0 ⟨[],[(Str.ofString "key",.ref q)]⟩ >>=_) _ _ s
 refine Ao (HZ (show Builtin.Builtins.bindParams "min" ["key","default"] 0 ⟨[],[(Str.ofString "key",.ref q)]⟩=pure [some (.ref q),none] from rfl) ?_)
 refine Ao (Au ?_)
 refine Ao (Ct pl.isList ?_)
 refine Ao (Ea ?_ (Bh _))
 rw[hname]
 generalize hI0:({cls:=.type "list_iterator",data:=.fields #[.ref l,.int 0 0] }:Obj)=oI0
 have hS:(s.heap.push oI0).objs.size=s.heap.objs.size+1:=size_push' ..
 have I0:Inv X pins σ H {s with heap:=(s.heap.push oI0).push (C_ "list" #[] 0) }:=I.kept (t':=s.toks) fun b o e=>Aq _ (Aq _ e)
 have gI:((s.heap.push oI0).push (C_ "list" #[] 0)).get? s.heap.objs.size=some oI0:=Aq _ (AE _ (by rw[←hI0];rfl))
 have gS:((s.heap.push oI0).push (C_ "list" #[] 0)).get? (s.heap.push oI0).objs.size=some (C_ "list" #[] 0):=AE _ rfl
 have gq:((s.heap.push oI0).push (C_ "list" #[] 0)).get? q=some ob:=Aq _ (Aq _ oq)
 have hqI:q≠s.heap.objs.size:=A4 hql
 have hqS:q≠(s.heap.push oI0).objs.size:=by rw[hS];exact A4 (Cu hql)
 have hSI:(s.heap.push oI0).objs.size≠s.heap.objs.size:=by rw[hS];exact CA (Do _)
 have hlI:l≠s.heap.objs.size:=A4 hll
 have fI:d7 X pins H s.heap.objs.size:=I.fpOk (Ay _) (I.hok.fresh (Ay _))
 have sS:s.heap.objs.size≤(s.heap.push oI0).objs.size:=by rw[hS];exact JF _
 have fS:d7 X pins H (s.heap.push oI0).objs.size:=I.fpOk sS (I.hok.fresh sS)
 generalize (s.heap.push oI0).objs.size=S at *
 generalize (s.heap.push oI0).push (C_ "list" #[] 0)=h0 at *
 generalize s.heap.objs.size=Ia at *
 have it0:h0.IsListIter Ia l 0:=⟨_,gI,by rw[←hI0],by rw[←hI0];rfl⟩
 obtain ⟨its,rv,pl,_⟩:=I0.list hl
 obtain ⟨u,hux,ru⟩:=rv.get (An hne)
 refine Au ⟨CJ B3 _,?_⟩
 refine CC Ef ?_
 rw[BZ B3 _]
 show wpAny _ X.A.in1 (HW (.ref _) >>=_) _ _ _
 refine Ao (B7 (s:={s with heap:=h0 }) gS rfl ?_)
 show wpAny _ X.A.in1 (Ha (EW (.ref Ia)) _ >>=_) _ _ _
 refine Ao (DN (Dq (s:={s with heap:=h0 }) it0 pl.isList (x:=u) (by simpa using hux) fun h' st' sb=>?_))
 obtain ⟨f0,f1,f2,f3,f4,f5⟩:=id fI
 have I1:Inv X pins σ H {s with heap:=h' }:=I0.turned (s:={s with heap:=h0 }) (t':=s.toks) (fun b o hb e=>(sb.2 b hb).trans e) f0 f1 f3 f4 f5
 obtain ⟨oI,gI1,cI,dI⟩:=id st'
 have gS1:h'.get? S=some (C_ "list" #[] 0):=(sb.2 S hSI).trans gS
 have gq1:h'.get? q=some ob:=(sb.2 q hqI).trans gq
 have fp:∀b∈[q,Ia,S],d7 X pins H b:=fun b hb=>by
  simp only[AB,BL,or_false] at hb
  rcases hb with e |e |e <;>subst e
  ·exact fq
  ·exact fI
  ·exact fS
 have ho:∀b∈[q,Ia,S],∃o,h'.get? b=some o∧∀v,o.data≠.cell v:=fun b hb=>by
  simp only[AB,BL,or_false] at hb
  rcases hb with e |e |e <;>subst e
  ·exact ⟨_,gq1,nc⟩
  ·exact ⟨_,gI1,fun v z=>by rw[dI] at z;cases z⟩
  ·exact ⟨_,gS1,fun v z=>by cases z⟩
 have I1p:=I1.pinned (s:={s with heap:=h' }) fp ho
 show wpAny _ X.A.in1 (Ha (holding [u] (call (.ref q) [u])) _ >>=_) _ _ _
 refine Ao (DN (Bt (Cs (turn _ _ H 0 _ u (AH _ (bP (by simp) gq1)) I1p (.refl H) (An hne) ru) (fun kr s2 he=>?_) fun _ _ hF=>hF.elim)))
 obtain ⟨kv,H2,I2p,sm2,rk,rp⟩:=he
 have pin:∀{b o},b∈[q,Ia,S]→h'.get? b=some o→s2.heap.get? b=some o∧H2 b=none:=fun {b o} hb e=>by
  have:=I2p.pin (b,o) (AH _ (AH _ (bP hb e)))
  exact ⟨this.1,this.2.1⟩
 have I2:=I2p.unpinned
 obtain ⟨gS2,nS2⟩:=pin (b:=S) (by simp) gS1
 obtain ⟨gI2,nI2⟩:=pin (b:=Ia) (by simp) gI1
 obtain ⟨gq2,nq2⟩:=pin (b:=q) (by simp) gq1
 have fp2:∀b∈[q,Ia,S],d7 X pins H2 b:=fun b hb=>by
  have:=fp b hb
  refine ⟨?_,this.2⟩
  simp only[AB,BL,or_false] at hb
  rcases hb with e |e |e <;>subst e
  ·exact nq2
  ·exact nI2
  ·exact nS2
 show wpAny _ X.A.in1 (Gj S (fun _=>#[u,kr]) >>=_) _ _ _
 refine Ao ?_
 refine Df gS2 rfl ?_
 rw[hname]
 obtain ⟨c2,hc2⟩:=oR gS2 fun _=>#[u,kr]
 obtain ⟨g0,g1,g2,g3,g4,g5⟩:=fp2 S (by simp)
 have I3:Inv X pins σ H2 {s2 with heap:=s2.heap.update S (BQ fun _=>#[u,kr]) }:=I2.turned (t':=s2.toks) (fun b o hb e=>(Bc _ _ (Ne.symm hb)).trans e) g0 g1 g3 g4 g5
 refine Au ⟨CJ B3 _,uH hc hu hl hqS hqI hSI nc turn (fun v u s' H' e1 e2 e3 e4=>hQ v u s' H' e1 e2 e3 e4) _ 0 _ H2 u kr rfl hne ⟨I3,sm2,fp2,(Bc _ _ hqS.symm).trans gq2,⟨c2,hc2⟩,⟨oI,(Bc _ _ hSI).trans gI2,cI,dI⟩,⟨_,An hne,ru⟩,⟨kv,rk,rp⟩⟩⟩
end
theorem gL:∀ts,TriplesOk (fh ts)
 |[]=>trivial
 |_::ts=>gL ts
theorem jm (l c:Nat) (a:Addr):∀ts,fh (ts++[(l,c,a)])=fh ts++[Dt l,Dt c,.ref a]
 |[]=>rfl
 |t::ts=>by
  show Dt t.1::Dt t.2.1::.ref t.2.2::fh (ts++[(l,c,a)])=_
  rw[jm l c a ts];rfl
theorem iA (pos:Pos):∀ts,Ih pos (fh ts)=none∨∃t∈ts,Ih pos (fh ts)=some (.ref t.2.2)
 |[]=>.inl rfl
 |t::ts=>by
  have e:Ih pos (fh (t::ts))=if ((t.1:Int)==pos.line && (t.2.1:Int)==pos.col)=true then some (.ref t.2.2) else Ih pos (fh ts):=rfl
  rw[e]
  split
  ·exact .inr ⟨t,by simp,rfl⟩
  ·rcases iA pos ts with h |⟨t',h1,h2⟩
   ·exact .inl h
   ·exact .inr ⟨t',by simp[h1],h2⟩
structure TbF (K:Ap) (mg:Str→Option Value) (f c P b:Addr):Prop where
 m:mg "to_form"=some (.ref f)
 lf:∃o fd,K.lookup f=some o∧o.data=.func fd∧fd.code=.ref c
 hd:BK K c P=true
 bm:mg "__builtins__"=some (.ref b)
 bn:b≠EU
 lb:∃o,K.lookup b=some o∧o.cls=.type "module"∧o.dict=some EU∧o.data=.plain
def qD (H:Hp) (c':Addr):Prop:=∃oc u vs t,H c'=some (.frz oc u)∧oc.data=.fields vs∧vs[1]?=some (.str ik t)
theorem qD.rec {X:Cx}{pins:List (Addr×Obj)}{σ:St}{H:Hp}{s:As}{c':Addr} (h:qD H c') (I:Inv X pins σ H s):s.heap.CodeRec (.ref c') ik:=by
 obtain ⟨oc,u,vs,t,e,d,v⟩:=h
 obtain ⟨g,_⟩:=(show cH X.prog X.w H s.heap c' (.frz oc u) from I.hok c' _ e)
 exact ⟨c',oc,vs,t,rfl,g,d,v⟩
theorem qD.same {H H':Hp}{c':Addr} (h:qD H c') (e:aI H H'):qD H' c':=let ⟨oc,u,vs,t,e1,r⟩:=h;⟨oc,u,vs,t,e _ _ e1,r⟩
section
variable {X:Cx}{pins:List (Addr×Obj)}{σ:St}{H:Hp}{s:As}
theorem tS {params:GW}{body:Expr}{scope:Scope}{lpos:Pos}{clos:List (Str×Addr)}{f c P b:Addr}{Q:Value→As→Prop}{E:Value→As→Prop} (I:Inv X pins σ H s) (T:TbF X.K X.mg f c P b)
  (hcode:X.env.code=.ref c) (hq:X.env.qual++"<lambda>"=ik) (hcl:Gv scope X.env=pure clos) (hdef:defaultsOf params X.env=([],[]))
  (h:∀(q c':Addr) (pm ctv:Value) (s':As) (H':Hp),Inv X pins σ H' s'→aI H H'→s'.heap.get? q=some (Gm "<lambda>" ik params body scope clos pm c' ctv)→qD H' c'→d7 X pins H' q→Q (.ref q) s'):
  wpAny (model X.prog X.w) X.A (eval (.Lambda params body scope lpos) X.env) Q E s:=by
 refine PySem.W.kla_eval hdef ?_
 rw[hq]
 obtain ⟨o1,fd1,l1,l2,l3⟩:=T.lf
 obtain ⟨o2,vs2,m1,_,m3,m4⟩:=iq T.hd
 have KX:=I.kIn
 have kb:X.K.In X.base:=I.mod.kin
 obtain ⟨ps,hP⟩:=I.amb f o1 fd1 c o2 vs2 P T.m (kb _ _ l1) l2 l3 (kb _ _ m1) m3 (by rw[Br,m4];rfl)
 obtain ⟨ts,e0,hts⟩:=(show uF H s.heap P from I.hok P _ hP)
 have C:PySem.W.CodeHd s.heap c P:=PySem.W.codeHd_of_K KX T.hd
 have hg:s.heap.Ns AK X.mg:=I.mod.glob.keeps I.bk
 have hgP:AK≠P:=fun z=>by
  obtain ⟨o,es,ep,e,d,_⟩:=hg
  rw[z,e0] at e;cases e;cases d
 obtain ⟨ob,lb1,lb2,lb3,lb4⟩:=T.lb
 have gb:=KX _ _ lb1
 have hB:s.heap.BuiltinsAt X.mg P:=⟨b,ob,T.bm,T.bn,(fun z=>by
   obtain ⟨o,es,ep,e,d,_⟩:=hg
   rw[←z,gb] at e;cases e;rw[lb4] at d;cases d),(fun z=>by
   rw[z,e0] at gb;cases gb;cases lb2),gb,lb2,lb3,lb4⟩
 have nP:∀b,H b=none→b≠P:=fun b n z=>by rw[z,hP] at n;cases n
 rcases iA lpos ts with hnf |⟨t,ht,hhit⟩
 ·refine PySem.W.kla_makeFunction (mg:=X.mg) hcl I.ok.glob hg hcode C e0 (gL ts) hnf hgP hB fun c' ctv h' tk hx hge hlt hrec htb=>?_
  obtain ⟨c2,oc,vs',t',e2,hoc,hdv,hv⟩:=hrec
  cases e2
  have fr:H c'=none:=I.hok.fresh hge
  have nc:∀b u,H b=some u→b≠c':=fun b u e z=>by rw[z,fr] at e;cases e
  have lt':∀b o,s.heap.get? b=some o→b≠c':=fun b o e z=>absurd (A3 (AC e) hge) (by rw[z];exact Bs _)
  generalize hob:(Gm "<lambda>" ik params body scope clos ((X.mg "__name__").getD .none) c' ctv:Obj)=fo
  have up:∀b o,b≠P→s.heap.get? b=some o→(h'.push fo).get? b=some o:=fun b o n e=>Aq _ (hx b o n e)
  have tbl:(h'.push fo).get? P=some {cls:=.none,data:=.fields (fh (ts++[(lpos.line,lpos.col,c')])).toArray }:=by
   rw[jm]
   have:=Aq fo htb
   rw[this]
   simp[PySem.W.tabObj]
  have I2:Inv X pins σ (upd H c' (.frz oc (.own P))) {s with heap:=h'.push fo,toks:=tk }:=by
   refine I.step (g':=s.gens) (d':=s.drawn) (ch:=[]) (fun _ z=>nomatch z) (fun b o _ _ _ e n=>up b o (nP b n) e) (fun b o _ _ _ e n=>⟨o.slots,up b o (nP b n) e⟩) (fun b o _ e n=>by rw[aL (lt' b o e)];exact n)
    (fun b o _ e=>?_) (fun b xs e=>by rw[aL (nc b _ e)];exact e) (fun b o u e=>by rw[aL (nc b _ e)];exact e) (fun b ps e=>⟨#[],by rw[aL (nc b _ e),e];simp⟩) (fun m hm=>?_) (fun b u e=>?_) I.bare
   ·by_cases z:b=P
    ·rw[z];exact ⟨_,tbl⟩
    ·exact ⟨o,up b o z e⟩
   ·obtain ⟨o,es,ep,ho,r⟩:=hm
    exact ⟨o,es,ep,up _ o (nP _ I.free) ho,r⟩
   ·by_cases z:b=c'
    ·subst z
     rw[aQ] at e
     cases e
     exact ⟨Aq _ hoc,⟨oc,Aq _ hoc⟩⟩
    ·rw[aL z] at e
     by_cases zP:b=P
     ·subst zP
      rw[hP] at e
      cases e
      refine ⟨_,tbl,fun t ht=>?_⟩
      rcases B4.mp ht with q |q
      ·obtain ⟨oc1,u1,v1,t1,g1,g2⟩:=hts t q
       exact ⟨oc1,u1,v1,t1,by rw[aL (nc _ _ g1)];exact g1,g2⟩
      ·rw[BA.mp q]
       exact ⟨oc,.own b,vs',t',aQ,hdv,hv⟩
     ·refine (I.hok b u e).stay (fun d v hc q=>up d v ?_ q) (fun d q=>by rw[aL (nc d _ q)];exact q) (fun d o' u' q=>by rw[aL (nc d _ q)];exact q) fun d xs q=>by rw[aL (nc d _ q)];exact q
      rcases hc with y |y
      ·rw[y];exact zP
      ·intro y'
       rw[y',hP] at y;cases y
  have ge':s.heap.objs.size≤h'.objs.size:=BR hge (By hlt)
  refine h h'.objs.size c' _ ctv _ _ I2 (aN fr _) (by rw[hob];exact AE _ (by rw[←hob];rfl)) ⟨oc,_,vs',t',aQ,hdv,hv⟩ ?_
  refine I.fpOk ge' ?_
  rw[aL (CA hlt)]
  exact I.hok.fresh ge'
 ·refine PySem.W.kla_makeFunctionHit (mg:=X.mg) hcl I.ok.glob hg hcode C e0 (gL ts) hhit hB fun ctv h' tk hk hsz=>?_
  obtain ⟨oc1,u1,v1,t1,g1,g2⟩:=hts t ht
  refine h h'.objs.size t.2.2 _ ctv _ H (I.kept (t':=tk) fun d o e=>Aq _ (hk d o e)) (.refl H) (AE _ rfl) ⟨oc1,u1,v1,t1,g1,g2⟩ (I.fpOk hsz (I.hok.fresh hsz))
end
abbrev kS (scope:Scope) (q c' L:Addr) (cl:List (Str×Addr)):Env:=PySem.W.envX ik scope L q (.ref c') cl
def sV (X:Cx) (A:A5) (s:As) (H:Hp) (scope:Scope) (N:List Str) (q c':Addr) (cl:List (Str×Addr)):Cx where
 prog:=X.prog
 w:=X.w
 K:=X.K
 mg:=X.mg
 base:=X.base
 A:=A.deeper (kS scope q c' s.heap.objs.size cl)
 N:=N
 s₀:=s
 H₀:=H
 env:=kS scope q c' s.heap.objs.size cl
 outer:=X.stack
 stack:=kS scope q c' s.heap.objs.size cl::X.stack
 ex:=[]
 fn:=fun _=>false
 calm:=true
 pn:=[]
 xe:=fun _ _=>False
structure v_ (scope:Scope) (y z:Str):Prop where
 kind:scope.kind=.function
 co:scope.isCoroutine=false
 gen:scope.isGenerator=false
 nc:∀x∈scope.names,x.2≠.cell
 lz:scope.names.lookup z=some .local
 ly:scope.names.lookup y=some .free
 only:∀x∈scope.names,x.2=.free→x.1=y
section
variable {X:Cx}{pins:List (Addr×Obj)}{σ:St}{H:Hp}{s:As}{O:List Addr}
theorem rK {q c' cy:Addr}{y z:Str}{params:GW}{body:Expr}{scope:Scope}{pm ctv:Value}{iy:Nat}{landU itemU:U}{vy v:V}{u:Value}{ks:List U}
  (hc:X.calm=true) (hdp:X.A.depth < Ff) (I:Inv X pins σ H s) (hq:s.heap.get? q=some (Gm "<lambda>" ik params body scope [(y,cy)] pm c' ctv)) (hrec:s.heap.CodeRec (.ref c') ik)
  (hy:X.env.cells.lookup y=some cy) (hi:X.N[iy]?=some y) (hσ:σ[iy]?=some (some vy)) (ky:X.env.scope.names.lookup y=some .cell) (S:v_ scope y z) (hyz:y≠z)
  (hb:Bv (II "<lambda>" ik params body scope [(y,cy)] pm (.ref c') ctv) ⟨[u],[]⟩=pure [(z,u)])
  (dO:∀a∈O,H a≠none) (ry:Rp X.K (hid H O) vy landU) (rv:aW v u) (rz:Rp X.K (hid H O) v itemU)
  (he:EvN (sV X X.A.in1 s H scope [y,z] q c' [(y,cy)]) H O [some (.val landU),some (.val itemU)] body ks):
  wpAny (model X.prog X.w) X.A.in1 (call (.ref q) [u]) (fun r s2=>∃kv H2,Inv X pins σ H2 s2∧aI H H2∧aW kv r∧Rp X.K (hid H2 O) kv (.lst ks)) (fun _ _=>False) s:=by
 refine I_ (PySem.W.kla_callFunE hdp hq rfl S.co S.gen rfl hrec ?_)
 rw[hb]
 refine Au (EK S.nc (fun x hx=>by rw[BA.mp hx];exact S.lz) (fun h1 hns hsb=>⟨I.nolimit.fresh _ hsb,?_⟩) S.kind)
 show EY _ _ (.expr body (kS scope q c' s.heap.objs.size [(y,cy)])) _ _
 have kp:∀b o,s.heap.get? b=some o→h1.get? b=some o:=fun b o e=>hsb.extBut b o (A4 (AC e)) (Aq _ e)
 have look1:∀{x c},([(y,cy)]:List (Str×Addr)).lookup x=some c→x=y∧c=cy:=fun {x c} e=>by
  rw[BW] at e
  by_cases z:x=y
  ·rw[z,beq_self_eq_true] at e;cases e;exact ⟨z,rfl⟩
  ·rw[beq_eq_false_iff_ne.mpr z] at e;cases e
 have lookY:([(y,cy)]:List (Str×Addr)).lookup y=some cy:=by rw[BW,beq_self_eq_true]
 have e0:=I.env0.in1
 have J:Inv (sV X X.A.in1 s H scope [y,z] q c' [(y,cy)]) [] [some vy,some v] H {s with heap:=h1,toks:=s.toks+[(z,u)].length }:=by
  refine ⟨⟨I.ok.mod,S.kind,rfl,rfl,Ay _,fun a b d p1 p2=>(look1 p1).1.trans (look1 p2).1.symm,fun a p=>?_,fun a d p1 _=>(by cases p1),fun _=>I.ok.hd hc,Gx e0.frames,.inr ⟨rfl,rfl⟩,fun a p=>(by cases p),I.bs,BR I.ok.bsz I.sz,fun a b _ p=>(by cases p),fun a p=>(by cases p),I.stack,⟨I.stkFree,I.amb⟩⟩,
   rfl,I.bare,Un.kept kp,⟨_,hns,fun j x v' p1 p2 p3=>?_⟩,fun a d p=>?_,I.hok.fresh (Ay _),fun a d p=>?_,fun p hp=>(by cases hp),I.hok.kept kp,rfl⟩
  ·have p':scope.names.lookup a=some .cell∨scope.names.lookup a=some .free:=p
   rcases p' with p' |p'
   ·exact absurd rfl (S.nc _ (BI p'))
   ·have:=S.only _ (BI p') rfl
    dsimp only at this
    rw[this];exact ⟨cy,lookY⟩
  ·obtain ⟨m,hn,hl⟩:=I.loc
   match j,p1,p2 with
   |0,p1,p2=>
    cases p1
    cases p2
    obtain ⟨uy,r1,lk⟩:=hl iy y vy hi hσ (.inr (.inl ky))
    refine ⟨uy,r1,.inr ⟨.inr S.ly,cy,lookY,?_⟩⟩
    rcases lk with ⟨k1,_⟩ |⟨_,d,e1,o,ho,hd⟩
    ·have:X.env.scope.names.lookup y=some .local:=k1
     rw[ky] at this;cases this
    ·rw[hy] at e1
     cases e1
     exact ⟨o,kp _ _ ho,hd⟩
   |1,p1,p2=>
    cases p1
    cases p2
    exact ⟨u,rv,.inl ⟨S.lz,by simp⟩⟩
   |j+2,p1,p2=>cases p1
  ·rw[(look1 p).2]
   obtain ⟨v0,o,ho,hd⟩:=I.cell y cy hy
   exact ⟨v0,o,kp _ _ ho,hd⟩
  ·rw[(look1 p).2];exact I.freeC y cy hy
 have Rl:Rs X.K H O [some (.val landU),some (.val itemU)] [some vy,some v] H O:=by
  refine ⟨.refl H,fun a ha=>ha,fun a ha=>.inl ha,dO,rfl,fun j sl p=>?_,fun j k xs ys a p1=>?_⟩
  ·match j,p with
   |0,p=>cases p;exact ⟨vy,rfl,ry⟩
   |1,p=>cases p;exact ⟨v,rfl,rz⟩
   |j+2,p=>cases p
  ·match j,p1 with
   |0,p1=>cases p1
   |1,p1=>cases p1
   |j+2,p1=>cases p1
 refine PySem.W.kla_codeExpr (Cs (he [] _ _ H (fun w H'=>∃a ws,w=.ref a∧aI H H'∧H a=none∧H' a=some (.lst ws)∧Rps X.K (hid H' (a::O)) ws ks) J ⟨O,Rl,fun a ws H' p1 p2 p3 p4=>⟨a,ws,rfl,p1,p2,p3,p4⟩⟩) (fun r s' hr=>?_) fun _ _ hF=>hF.elim)
 obtain ⟨w,H',J',rw',a,ws,rfl,sm,na,ha,rp⟩:=hr
 have nO:a ∉ O:=fun z=>dO a z na
 have less:aI (hid H' (a::O)) (hid H' O):=dH fun b hb=>Aw _ hb
 refine ⟨.ref a,H',I.call' (ch:=[]) J'.os J'.base J'.hok J'.bare (fun b z=>(by cases z)),sm,rw',?_⟩
 exact .lst (dj ha nO) (rp.same less).len (rp.same less).at_
end
section
variable {X:Cx}{H0:Hp}{O0:List Addr}{ps:PSt}
theorem sE {e:Expr}{items:List U}{kf:Nat→List P2}{params:GW}{body:Expr}{scope:Scope}{lpos kpos pos p:Pos}{f c P b cy:Addr}{y z:Str}{iy:Nat}{landU:U}
  (hc:X.calm=true) (hu:X.A.units+10 < cLine) (hdp:X.A.depth < Ff) (hg:Gl X "min") (hm:X.mg "min"=none) (T:TbF X.K X.mg f c P b)
  (ha:Ev X H0 O0 ps e (.lst items)) (hne:0 < items.length) (hi:X.N[iy]?=some y) (hps:ps[iy]?=some (some (.val landU))) (hy:X.env.cells.lookup y=some cy) (ky:X.env.scope.names.lookup y=some .cell)
  (hcode:X.env.code=.ref c) (hq:X.env.qual++"<lambda>"=ik) (hcl:Gv scope X.env=pure [(y,cy)]) (hdef:defaultsOf params X.env=([],[]))
  (S:v_ scope y z) (hyz:y≠z) (hb:∀(u pm ctv:Value) (c':Addr),Bv (II "<lambda>" ik params body scope [(y,cy)] pm (.ref c') ctv) ⟨[u],[]⟩=pure [(z,u)])
  (he:∀(s:As) (H:Hp) (q c':Addr) (O:List Addr) (j:Nat) (x:U),items[j]?=some x→EvN (sV X X.A.in1 s H scope [y,z] q c' [(y,cy)]) H O [some (.val landU),some (.val x)] body ((kf j).map pu))
  (hs:AL [e] X.env=(false,eval e X.env)::AL [] X.env:=by rfl):
  Ev X H0 O0 ps (.Call (.Name "min" p) [e] [⟨some "key",.Lambda params body scope lpos,kpos⟩] pos) (items.getD (abK kf (items.length - 1)) .non):=by
 rintro pins s σ H Q I ⟨O,R,q⟩
 refine Bp (cT I hg hm boot_min ?_)
 refine callWith_kw (thn (cJ ha d8 hs pos pins s σ H (fun vs H1=>∃v,vs=[v]∧aI H H1∧Rp X.K (hid H1 O) v (.lst items)) I ⟨O,R,fun v H1 s1 r1=>⟨v,rfl,s1,r1⟩⟩) fun us s1 hx=>?_) (by rw[hs];rfl) (by rw[hs];rfl)
 obtain ⟨vs,H1,I1,rv,v,rfl,sm,rp⟩:=hx
 obtain ⟨u,rfl,ru⟩:=gu rv
 cases rp with
 | @lst a ws _ hq1 hwl hwi=>
  cases ru
  obtain ⟨vy,hσ,ry⟩:=R.at_ iy _ hps
  refine kws_cons (tS I1 T hcode hq hcl hdef fun lq c' pm ctv s2 H2 I2 sm2 gq lr fq=>kws_nil ?_)
  show wpAny _ _ (call (.builtin "min") [.ref a] [(Str.ofString "key",.ref lq)]) _ _ _
  have hl2:SqL X.K H2 a ws:=sm2.seq (aC.seq (SqL.of hq1))
  have wl:0 < ws.length:=by rw[hwl];exact hne
  refine qr (O:=O) (kf:=kf) hc hu I2 hl2 wl fq gq (fun v z=>by cases z) (fun pins' s' H' j v u hpin I' sm' hj ru=>?_) (fun v u s' H' e1 e2 I' sm'=>?_)
  ·have hj':j < ws.length:=aF hj
   have hx:items[j]?=some (items[j]'(by omega)):=An (by omega)
   have sH:aI H H':=(sm.trans sm2).trans sm'
   have gq':=(I'.pin _ (AH _ hpin)).1
   refine rK hc hdp I' gq' ((lr.same sm').rec I') hy hi hσ ky S hyz (hb u _ _ _) (fun a' ha' z'=>R.dom a' ha' (sH.free z')) (Rp.same (aP sH) ry) ru ((hwi j v _ hj hx).same (aP (sm2.trans sm'))) (he s' H' lq c' O j _ hx)
  ·have hk:abK kf (ws.length - 1) < ws.length:=aF e1
   rw[hwl] at e1 hk
   have hx:items[abK kf (items.length - 1)]?=some (items[abK kf (items.length - 1)]'hk):=An hk
   refine ⟨v,H',I',e2,q v H' ((sm.trans sm2).trans sm') ?_⟩
   rw[Ax,hx]
   exact (hwi _ v _ e1 hx).same (aP (sm2.trans sm'))
end
theorem wS {P:AD}{w:World}{K:Ap}{mg:Str→Option Value}{base:Heap}{nm qual:Str}{f:Addr}{N pn:List Str}{st:Stmt}{fd:A9}{k:Nat}{spec:List U→Out→Prop} (F:Fun K nm qual st f fd) (S:aE N pn (ag st)) (len:∀us o,spec us o→us.length=pn.length)
  (hbody:∀(A:A5) (outer:List Env) (s:As) (H:Hp) (E:XK) (O:List Addr) (us:List U) (o:Out),dC k (A.deeper (GD qual (ag st) s.heap.objs.size f fd.code))→spec us o→
   Ws (mS (CXF P w) P w K mg base N qual (ag st) f fd.code A outer s H E) H O E (ay st) ⟨fun _=>o=.val .non,fun o'=>o'=o,fun _=>False,fun _=>False⟩ (fB N us)):bF P w K mg base (CXF P w) (k+1) f fd pn (spU K spec):=by
 obtain ⟨oc,od,kV,doc,pm,an,cdv,ct,osl,rfl,lk,hcd⟩:=F.ex
 refine wj lk hcd S (fun vs H Q E h=>?_) fun A outer s H vs Q E hr h=>?_
 ·obtain ⟨us,O,o,_,r,hsp,_⟩:=h
  rw[r.len];exact len us o hsp
 ·obtain ⟨us,O,o,d,r,hsp,q⟩:=h
  refine ⟨_,hbody A outer s H E O us o hr hsp,⟨fun ps σ H' O' R e=>?_,fun _ _ _ _ _ e=>e.elim,fun _ _ _ _ _ e=>e.elim,fun o' e=>by subst e;exact q⟩,O,?_⟩
  ·subst e;exact q .non H' R.same .non
  ·refine ⟨.refl H,fun a h=>h,fun a h=>.inl h,d,?_,fun i sl e=>?_,fun i j xs ys a e1 e2 _ _=>?_⟩
   ·unfold start fB
    rw[Bd,Bd,Ar,Ar,C3,C3,r.len]
   ·unfold fB at e
    by_cases hi:i < us.length
    ·rw[A7 (by simpa using hi),Av,An hi] at e
     cases e
     obtain ⟨v,h1,h2⟩:=r.get (An hi)
     refine ⟨v,?_,h2⟩
     unfold start
     rw[A7 (by simpa [r.len] using hi),Av,h1];rfl
    ·rw[A0 (by simpa using hi),CI] at e
     split at e <;>cases e
   ·exfalso
    unfold fB at e1
    by_cases hi:i < us.length
    ·rw[A7 (by simpa using hi),Av,An hi] at e1
     cases e1
    ·rw[A0 (by simpa using hi),CI] at e1
     split at e1 <;>cases e1
section
variable {K:Ap}{tb:Addr}
theorem o0 (ht:K.lookup tb=some jN) {b:Addr}{o:Obj} (h:K.lookup b=some o) (d:∀vs,o.data≠.fields vs):b≠tb:=fun z=>by
 rw[z,ht] at h
 cases h
 exact d _ rfl
theorem av (ht:K.lookup tb=some jN) {f:Addr}{oc:Value}{od:Option Addr}{fd:A9}{sl:Array (Option Value)} (h:K.lookup f=some ⟨oc,od,.func fd,sl⟩):(bU tb K).lookup f=some ⟨oc,od,.func fd,sl⟩:=gH (o0 ht h fun vs z=>by cases z) h
theorem au (ht:K.lookup tb=some jN) {cd:Value}{q:Str} (h:AJ K cd q=true):AJ (bU tb K) cd q=true:=by
 unfold AJ at *
 cases cd with
 |ref c=>
  dsimp only at *
  by_cases z:c=tb
  ·rw[z,ht] at h
   cases h
  ·rw[dL,if_neg z];exact h
 |_=>exact h
theorem aM {f:Addr}{oc:Value}{od:Option Addr}{fd:A9}{sl:Array (Option Value)} (h:(bU tb K).lookup f=some ⟨oc,od,.func fd,sl⟩):AI (bU tb K) (.ref f)=true:=by
 unfold AI
 dsimp only
 rw[h]
theorem vA {c:Addr} (h:BK K c tb=true):BK (bU tb K) c tb=true:=by
 have n:c≠tb:=by
  unfold BK at h
  split at h
  ·simp only[BV] at h
   intro z
   rw[z] at h
   simp at h
  ·cases h
 unfold BK at *
 rw[dL,if_neg n];exact h
end
section
variable {X:Cx}{H0:Hp}{O0:List Addr}{ps:PSt}{e1 e2 e3:Expr}{xs ys:List U}{pos lp:Pos}{k:Int}
end
theorem hd_one {K:Ap}{c tb:Addr}{o:Obj} (h:K.lookup c=some o) (k:BK [(c,o)] c tb=true):BK K c tb=true:=by
 have e:([(c,o)]:Ap).lookup c=some o:=by simp[HS]
 unfold BK at *
 rw[h]
 rw[e] at k
 exact k
end L2
namespace L2
open PySem PySem.W PySem.Calls PySem.Spec PyProof.Rows
theorem zZ {K:Ap}{h:Heap}{tb b:Addr}{ob:Obj} (X:K.In h) (hP:h.get? tb=some jN) (hb:h.get? b=some ob):∃K2:Ap,K2.In h∧(∀a o,K.lookup a=some o→K2.lookup a=some o)∧K2.lookup tb=some jN∧K2.lookup b=some ob:=by
 have one:∀(K:Ap) (a:Addr) (o:Obj),K.In h→h.get? a=some o→JP ((a,o)::K) h∧(∀a' o',K.lookup a'=some o'→((a,o)::K).lookup a'=some o')∧((a,o)::K).lookup a=some o:=fun K a o X e=>by
  refine ⟨fun a' o' q=>?_,fun a' o' q=>?_,by simp[HS]⟩
  ·rw[BW] at q
   by_cases z:a'=a
   ·rw[z] at q ⊢
    simp at q
    rw[←q];exact e
   ·rw[beq_eq_false_iff_ne.mpr z] at q
    exact X _ _ q
  ·rw[BW]
   by_cases z:a'=a
   ·have:=X _ _ q
    rw[z,e] at this
    rw[z];simpa using this
   ·rw[beq_eq_false_iff_ne.mpr z];exact q
 obtain ⟨a1,a2,a3⟩:=one K tb jN X hP
 obtain ⟨b1,b2,b3⟩:=one _ b ob a1 hb
 exact ⟨_,b1,fun a o q=>b2 _ _ (a2 _ _ q),b2 _ _ a3,b3⟩
theorem aA {K K2:Ap} (EL:∀a o,K.lookup a=some o→K2.lookup a=some o) {cd:Value}{q:Str} (h:AJ K cd q=true):AJ K2 cd q=true:=by
 unfold AJ at *
 cases cd with
 |ref c=>
  dsimp only at *
  cases hk:K.lookup c with
  |none=>rw[hk] at h;cases h
  |some o=>rw[EL _ _ hk];rw[hk] at h;exact h
 |_=>exact h
def wK (mg:Str→Option Value) (h:Heap):Prop:=∃bm ob,mg "__builtins__"=some (.ref bm)∧bm≠EU∧h.get? bm=some ob∧ob.cls=.type "module"∧ob.dict=some EU∧ob.data=.plain
theorem walk_ofT2 {l:HQ}{n k:Nat}{q:AD}{loose:List Str}{XP:(Str→Option Value)→Heap→Prop}{YP:World→Heap→Prop}{d:DefRec}{K:Params→Ap}{ts:List Addr}{CX:CXT}{sp:Ap→Sp}{x:Str}
  (hn:l.most=some n) (hn2:n≤sizeLine) (hdf:d.params.defaults=[]) (hr:dC k Hg)
  (hY:∀(w:World) (h:Heap),YP w h→(K w.params).In h∧∀P∈ts,h.get? P=some (tabObj #[]))
  (F:∀(w:World) (mg:Str→Option Value) (fa:Addr) (h:Heap),(K w.params).In h→(∀P∈ts,h.get? P=some jN)→wK mg h→h.Ns AK mg→mg d.name=some (.ref fa)→
   ∃(K2:Ap) (f c tb:Addr) (fd:A9),K2.In h∧mU K2 mg f c tb∧(∀(s:As) (u:Value),GN s fd ⟨[u],[]⟩ [(x,u)])∧
    ∀base:Heap,(bU tb K2).In base→base.Ns AK mg→bF l.prog w (bU tb K2) mg base CX k fa fd [x] (sp (bU tb K2)))
  (hsp:∀(K:Ap) (H:Hp) (a:Addr) (ns:List Int),ns.length≤n→(∀m∈ns,Sz 1048576 m)→SqL K H a (ns.map V.int)→sp K [.ref a] H (fun v _=>v=.bl true) fun _ _ _=>False)
  (hCX:∀(H:Hp) (s:As) (e:Value) (s':As),CX [] H s (fun _ _ _=>False) e s'→False):
  Jh q loose XP YP l.row.toRowW d [] (fun f vs=>JK f vs):=by
 refine kW hn hdf fun w s₀ s₁ mg mb fa o pm cd doc a vs ns G Y ho hd hcd hmg hobj hints hlen hbits hg=>?_
 obtain ⟨KX,TS⟩:=hY w _ Y
 obtain ⟨K2,f,c,tb,fd,X2,TB,hb,hF⟩:=F w mg fa _ KX TS G.T.bmain G.T.g hmg
 exact q0 X2 TB G.T.g G.T.b G.T.builtins G.T.nolimit hg hobj hints (BR hlen hn2) hr hF hb (fun H hS=>hsp _ H a ns hlen hbits hS) fun H e s'=>hCX H s₁ e s'
end L2
namespace L2
open PySem PySem.Spec PyProof.Rows
theorem yb {X:Cx}{H0:Hp}{O0:List Addr}{ps:PSt}{e:Expr}{xs ys:List U} (q:xs=ys) (h:EvN X H0 O0 ps e xs):EvN X H0 O0 ps e ys:=q ▸ h
theorem yN {X:Cx}{H0:Hp}{O0:List Addr}{ps:PSt}{a b:Expr}{pos:Pos}{us:List U}{u:U}{i:Int} (ha:EvD X H0 O0 ps a (.lst us)) (hb:Ev X H0 O0 ps b (.int i)) (hi:atI us i=some u) (hs:iP b:=by intro _ _;rfl):EvD X H0 O0 ps (.Subscript a b pos) u:=⟨ar ha.ev hb rfl hi hs⟩
section
variable {X:Cx}{pins:List (Addr×Obj)}{σ:St}{H:Hp}{s:As}
end
section
variable {X:Cx}{x:U}{xs:List U}
end
theorem pR {α:Type} [DecidableEq α]:∀{l m:List α},l.Nodup→(∀x∈l,x∈m)→l.length≤m.length
 |[],m,_,_=>Bh _
 |a::l,m,h,s=>by
  obtain ⟨h1,h2⟩:=Ce.mp h
  have hm:=s a (by simp)
  have e:=pR (l:=l) (m:=m.erase a) h2 fun x hx=>(DH (a:=x) (b:=a) (fun z=>h1 (by rw[←z];exact hx))).mpr (s x (Aw _ hx))
  rw[Dg hm] at e
  have:=Cr hm
  rw[A_];omega
section
variable {X:Cx}{H0:Hp}{O0:List Addr}{ps:PSt}{e:Expr}{pts:List P2}{pos pos' p p':Pos}
theorem oG (hc:X.calm=true) (hu:X.A.units+10 < cLine) (hg:Gl X "sorted") (hm:X.mg "sorted"=none) (hgs:Gl X "set") (hms:X.mg "set"=none) (ha:Ev X H0 O0 ps e (lp pts)) (hl2:pts.length < 1000∧(ST.srt pts).length < 64)
  (he:AL [e] X.env=(false,eval e X.env)::AL [] X.env:=by rfl):EvN X H0 O0 ps (.Call (.Name "sorted" p) [.Call (.Name "set" p') [e] [] pos'] [] pos) ((ST.srt pts).map pu):=by
 obtain ⟨hl,h64⟩:=hl2
 rintro pins s σ H Q I ⟨O,R,q⟩
 have hh:X.A.handled=none:=I.ok.hd hc
 refine Bp (cT I hg hm GR ?_)
 refine callWith_builtin1 (e:=.Call (.Name "set" p') [e] [] pos') (rest:=[]) ?_ rfl rfl
 show wpAny _ _ (spliced ((false,eval (.Call (.Name "set" p') [e] [] pos') X.env)::Ec pos (AL [] X.env))) _ _ s
 refine D5 ?_
 refine Bp (cT I hgs hms lV ?_)
 refine callWith_type1 (thn (cJ ha d8 he pos' pins s σ H (fun vs H1=>∃v,vs=[v]∧aI H H1∧Rp X.K (hid H1 O) v (lp pts)) I ⟨O,R,fun v H1 s1 r1=>⟨v,rfl,s1,r1⟩⟩) fun us s1 hx=>?_) he rfl
 obtain ⟨vs,H1,I1,rv,v,rfl,sm,rp⟩:=hx
 obtain ⟨u,rfl,ru⟩:=gu rv
 cases rp with
 | @lst a ws _ hq hwl hwi=>
  cases ru
  obtain ⟨its,rw',pl,hz⟩:=I1.list (SqL.of (aC _ _ hq))
  have hlp:ws.length=pts.length:=by rw[hwl,Ar]
  have hil:its.length=pts.length:=by rw[←rw'.length,hlp]
  have item:∀i,i < pts.length→∃b,its[i]?=some (.ref b)∧Rp X.K (hid H1 O) (.ref b) (pu (pts.getD i (0,0)))∧ST.TK X.prog X.w s1.heap [(pts.getD i (0,0)).1,(pts.getD i (0,0)).2] b:=fun i hi=>by
   have hw:ws[i]?=some ws[i]:=An (by omega)
   have hp:(pts.map pu)[i]?=some (pu (pts.getD i (0,0))):=by rw[Av,An hi];simp[hi]
   have r:=hwi i _ _ hw hp
   obtain ⟨u',e1,e2⟩:=rw'.get hw
   generalize ws[i]=z at *
   cases r with
   | @tup b zs _ hs hsl hsi=>
    cases e2
    refine ⟨b,e1,Rp.tup hs hsl hsi,?_⟩
    obtain ⟨jts,rj,ht,_⟩:=I1.tuple (by exact aC.tup hs)
    have z0:zs.length=2:=hsl
    match zs,z0,hsi,rj with
    |[z1,z2],_,hsi,rj=>
     have q1:=hsi 0 z1 _ rfl rfl
     have q2:=hsi 1 z2 _ rfl rfl
     cases q1
     cases q2
     obtain ⟨u1,u2,rfl,r1,r2⟩:=mq rj
     obtain ⟨t1,rfl⟩:=r1
     obtain ⟨t2,rfl⟩:=r2
     obtain ⟨o,ho,hoc,n,hod⟩:=ht
     exact ⟨o,_,n,ho,hoc,hod,.cons (Co _ _ _ _) (.cons (Co _ _ _ _) .nil)⟩
  obtain ⟨ad',adE⟩:=y4 item
  have hsz:its.toArray.size=pts.length:=by simp[hil]
  refine ST.call_set_pts (fun i=>([(pts.getD i (0,0)).1,(pts.getD i (0,0)).2],ad' i)) hh (by show X.A.units+1+1+1 < cLine;omega) pl.isList (fun i z ez=>?_) (fun i hi=>?_) (by rw[hsz];omega) fun h2 tk kb sp got keep=>?_
  ·have hi:i < pts.length:=by have:=aF (show its[i]?=some z by simpa using ez);omega
   have:=(adE i hi).1
   rw[show its.toArray[i]?=its[i]? by simp,this] at ez
   cases ez;rfl
  ·exact (adE i (by rw[hsz] at hi;exact hi)).2.2
  ·rw[hsz] at got
   have I2:Inv X pins σ H1 {s1 with heap:=h2,toks:=tk }:=I1.kept (t':=tk) keep
   refine Eh ?_
   have hkl:kb.length < 64:=by
    have knd:(kb.map (·.1)).Nodup:=by obtain ⟨_,_,z⟩:=id sp;exact z
    have:=pR knd (m:=(ST.srt pts).map fun p=>[p.1,p.2]) fun x hx=>by
     obtain ⟨z,hz,rfl⟩:=Az.mp hx
     obtain ⟨j,hj,rfl⟩:=got.src z hz
     refine Az.mpr ⟨pts.getD j (0,0),(ST.srt_mem _ _).mpr ?_,rfl⟩
     rw[Ax,An hj]
     exact DR hj
    rw[Ar,Ar] at this
    omega
   refine ST.call_sorted_set (s:={s1 with heap:=h2,toks:=tk }) hh sp hkl (fun z hz=>by obtain ⟨j,_,rfl⟩:=got.src z hz;rfl) fun h3 h4 tk2 pb ep pm so k1 k2 hD=>?_
   have I3:Inv X pins σ H1 {s1 with heap:=h3,toks:=tk2 }:=I2.kept (t':=tk2) k1
   have src:∀z∈pb,∃j,j < pts.length∧z=(pts.getD j (0,0),ad' j):=fun z hz=>by
    obtain ⟨y,hy,rfl⟩:=Az.mp (pm.mem_iff.mp hz)
    obtain ⟨j,hj,rfl⟩:=got.src y hy
    exact ⟨j,hj,rfl⟩
   have epts:pb.map (·.1)=ST.srt pts:=by
    refine ST.asc_one so (ST.srt_asc pts) fun z=>?_
    rw[ST.srt_mem]
    constructor
    ·intro hz
     obtain ⟨y,hy,rfl⟩:=Az.mp hz
     obtain ⟨j,hj,rfl⟩:=src y hy
     simp[hj]
    ·intro hz
     obtain ⟨j,hj⟩:=BH.mp hz
     have hjl:=aF hj
     have hk:=got.all j hjl
     obtain ⟨y,hy,ey⟩:=Az.mp hk
     have hin:((y.1.getD 0 0,y.1.getD 1 0),y.2)∈ST.ptsOf kb:=Az.mpr ⟨y,hy,rfl⟩
     have hin':=pm.mem_iff.mpr hin
     refine Az.mpr ⟨_,hin',?_⟩
     rw[ey]
     have:pts.getD j (0,0)=z:=by rw[Ax,hj];rfl
     show ((pts.getD j (0,0)).1,(pts.getD j (0,0)).2)=z
     rw[this]
   have fr:H1 h3.objs.size=none:=I3.hok.fresh (Ay _)
   refine ⟨.ref h3.objs.size,upd H1 h3.objs.size (.lst (pb.map fun z=>V.ref z.2)),?_,rfl,?_⟩
   ·refine I3.laid (t':=tk2) k2 (Ay _) ⟨?_,(ST.refs pb),ep,?_,hD⟩
    ·rw[Ar,←Ar (f:=(·.1)),epts,BC]
     have:=ST.srt_len pts
     omega
    ·have all:∀l:ST.PB,aR (l.map fun z=>V.ref z.2) (ST.refs l):=fun l=>by
      induction l with
      |nil=>exact .nil
      |cons z r ih=>exact .cons rfl ih
     exact all pb
   ·refine q _ _ _ (sm.trans (aN fr _)) (sm.free fr) aQ ⟨?_,fun i z x e1 e2=>?_⟩
    ·rw[Ar,←epts,Ar,Ar]
    ·rw[←epts,Bf,Av] at e2
     rw[Av] at e1
     cases hpi:pb[i]? with
     |none=>rw[hpi] at e1;cases e1
     |some y=>
      rw[hpi] at e1 e2
      cases e1
      cases e2
      obtain ⟨j,hj,rfl⟩:=src y (AO hpi)
      exact (adE j hj).2.1.same (bL (aN fr _) fr)
end
end L2
namespace ST6
open PySem PySem.W PySem.Calls PyProof.Rows ST
section
variable {prog:AD}{w:World}{A:A5}{E:Value→As→Prop}{s:As}
def gW:List Int×Addr:=([],0)
theorem lU (pb:PT6):(Bi pb.length).map (fun i=>pb.getD i gW)=pb:=by
 apply HG
 ·simp
 ·intro i h1 h2
  simp at h1
  simp[h1]
theorem qo {a:Addr}{pb:PT6}{n:Nat}{P:Jw→As→Prop} (ho:s.heap.get? a=some (C_ "list" (refs6 pb).toArray n)) (htk:∀p∈pb,TK prog w s.heap p.1 p.2) (hlen:∀p∈pb,p.1.length=6) (hnd:(pb.map (·.1)).Nodup) (h64:pb.length < 64)
  (h:∀pb':PT6,pb'.Perm pb→(pb'.map (·.1)).Pairwise (fun x y=>ltL x y=true)→P (.done (.ret .none)) {s with heap:=sortedHeap s.heap a (refs6 pb) (refs6 pb').toArray }):
  wpAny (model prog w) A (Builtin.«list.sort» ⟨[.ref a],[]⟩) P E s:=by
 have hvl:(refs6 pb).length=pb.length:=by simp
 have hva:(refs6 pb).toArray.size=pb.length:=by simp
 rw[H_]
 have ha:a < s.heap.objs.size:=AC ho
 refine Ao (listItems_at ho rfl (Ao (D_ ho rfl ?_ (by rw[hva,BC];omega) (Bh _))))
 obtain ⟨e1,ho1⟩:∃e1,(s.heap.update a (BQ fun _=>(#[]:Array Value))).get? a=some (C_ "list" #[] e1):=⟨_,Gh ho (fun _=>#[])⟩
 refine Ao (E3 ho1 rfl (Ao (GI ?_ (by show (refs6 pb).length≤_;rw[hvl,BC];omega))))
 refine Ao (Ea ?_ (Bh _))
 refine Bt ?_
 generalize hh6:((s.heap.update a (BQ fun _=>(#[]:Array Value))).push (C_ "tuple" (refs6 pb).toArray 0)).push (C_ "list" #[] 0)=h6
 have old6:∀b o,b≠a→s.heap.get? b=some o→h6.get? b=some o:=fun b o hb e=>by
  rw[←hh6]
  exact Aq _ (Aq _ ((Bc _ _ (Ne.symm hb)).trans e))
 have ho6:h6.get? a=some (C_ "list" #[] e1):=by rw[←hh6];exact Aq _ (Aq _ ho1)
 have tk6:∀p∈pb,TK prog w h6 p.1 p.2:=fun p hp=>by
  refine TK6.grow (htk p hp) fun b o hc e=>old6 b o (fun z=>?_) e
  rw[z,ho] at e
  cases e
  exact absurd hc (by show ¬ (BY "list"=BY "tuple");decide)
 have fin:∀pb':PT6,pb'.Perm pb→(pb'.map (·.1)).Pairwise (fun x y=>ltL x y=true)→P (.done (.ret .none)) {s with heap:=h6.update a (BQ fun _=>(refs6 pb').toArray) }:=fun pb' p1 p2=>by
  rw[←hh6];exact h pb' p1 p2
 show wpAny (model prog w) A _ P E {s with heap:=h6 }
 dsimp only
 by_cases h2:(refs6 pb).toArray.size < 2
 ·rw[if_pos h2,if_pos h2]
  refine Ao (Au ?_)
  rw[StateT.run_pure]
  refine Ao (Au ?_)
  dsimp only
  have eout:(arrOf (SortSt.mk' general' ((refs6 pb).toArray.zip (refs6 pb).toArray) #[] 7 none)).map (·.2)=(refs6 pb).toArray:=by
   show (((refs6 pb).toArray.zip (refs6 pb).toArray)).map (·.2)=_
   apply FK.mp
   have zip2:∀l:List Value,(l.zip l).map (·.2)=l:=fun l=>by
    induction l with
    |nil=>rfl
    |cons x r ih=>rw[Eb,Bz,ih]
   rw[FL,HH]
   exact zip2 _
  rw[eout]
  refine Ao (E3 ho6 rfl (Ao (D_ ho6 rfl ?_ (Bh _) (by rw[hva,BC];omega))))
  show wpAny _ _ (if (e1 !=e1)=true then _ else _) _ _ _
  rw[if_neg (by simp)]
  refine Au (fin pb (GG _) ?_)
  match pb,hva,h2 with
  |[],_,_=>simp
  |[_],_,_=>simp
  |_::_::r,hva,h2=>rw[hva] at h2;exact absurd h2 (by simp)
 ·rw[if_neg h2,if_neg h2]
  rw[hva] at h2
  have h2':2≤(refs6 pb).length:=by rw[hvl];omega
  refine Ao (sZ (s:={s with heap:=h6 }) hlen tk6 (by omega) ?_)
  have inj:∀i j,i < pb.length→j < pb.length→i≠j→(pb.getD i gW).1≠(pb.getD j gW).1:=fun i j hi hj hij e=>by
   refine hij ((EG (xs:=pb.map (·.1)) (h₀:=by simpa using hi) (h₁:=by simpa using hj) hnd).mp ?_)
   simpa [hi,hj] using e
  have O:LtO pb.length (fun i j=>ltL (pb.getD i gW).1 (pb.getD j gW).1):=⟨fun i j k=>og,fun i j hi hj hij=>lx (inj i j hi hj hij),fun i j=>kE⟩
  obtain ⟨p,R,PP',S⟩:=mO O (by omega)
  have hcmp:∀i j C,i < pb.length→j < pb.length→C (ltL (pb.getD i gW).1 (pb.getD j gW).1) {s with heap:=h6 }→kas_ask prog w A (tuples' true) (refs6 pb) i j C {s with heap:=h6 }:=fun i j C hi hj c=>by
   unfold kas_ask
   have ei:(refs6 pb).getD i AY=.ref (pb.getD i gW).2:=by simp[hi]
   have ej:(refs6 pb).getD j AY=.ref (pb.getD j gW).2:=by simp[hj]
   rw[ei,ej]
   have mi:pb.getD i gW∈pb:=by simp[hi]
   have mj:pb.getD j gW∈pb:=by simp[hj]
   exact ye (s:={s with heap:=h6 }) (hlen _ mi) (hlen _ mj) (tk6 _ mi) (tk6 _ mj) c
  have tree:(kas_sort (refs6 pb).length).kasWp (kas_ask prog w A (tuples' true) (refs6 pb)) (fun p' s'=>p'=p∧s'={s with heap:=h6 }) {s with heap:=h6 }:=by
   rw[hvl]
   exact R.wp hcmp ⟨rfl,rfl⟩
  refine Ao (Cs (kat_run (Q:=fun st' s'=>s'={s with heap:=h6 }∧failedOf st'=none∧(arrOf st').map (·.2)=Ht (p.toList.map fun i=>(refs6 pb).getD i AY)) rfl h2' (by rw[hvl];exact h64) (fun p' st' s' _ a2 a3 a4=>?_) tree) ?_ fun _ _ e=>e)
  ·obtain ⟨rfl,rfl⟩:=a4
   exact ⟨rfl,a3,kat_snds rfl a2⟩
  ·rintro ⟨⟨⟩,st'⟩ s' ⟨rfl,hf,hout⟩
   dsimp only
   rw[hout]
   have hlt:∀i∈p.toList,i < pb.length:=fun i hi=>AQ.mp (PP'.perm.mem_iff.mp hi)
   have er:(p.toList.map fun i=>(refs6 pb).getD i AY)=refs6 (p.toList.map fun i=>pb.getD i gW):=by
    unfold refs6
    rw[Bf]
    refine GQ fun i hi=>?_
    have:=hlt i hi
    simp[this]
   rw[er]
   have hperm:(p.toList.map fun i=>pb.getD i gW).Perm pb:=by
    refine (PP'.perm.map _).trans ?_
    rw[lU]
   have hs2:(refs6 (p.toList.map fun i=>pb.getD i gW)).toArray.size=pb.length:=by simp[PP'.size]
   refine Ao (E3 ho6 rfl (Ao (D_ ho6 rfl ?_ (Bh _) (by rw[hs2,BC];omega))))
   rw[hf]
   show wpAny _ _ (if (e1 !=e1)=true then _ else _) _ _ _
   rw[if_neg (by simp)]
   refine Au (fin _ hperm ?_)
   rw[Bf,BD,A8]
   intro i j hi hj hij
   have hj':j < pb.length:=by rw[AS,PP'.size] at hj;exact hj
   have q:=S i j hij hj'
   have ei:g p i=p.toList[i]:=by simp[g,Cw,PP'.size,show i < pb.length by omega]
   have ej:g p j=p.toList[j]:=by simp[g,Cw,PP'.size,hj']
   rw[ei,ej] at q
   exact q
theorem call_sorted6S {l:Addr}{pb:PT6}{Q:Value→As→Prop} (hl:s.heap.IsList l (refs6 pb).toArray) (htk:∀p∈pb,TK prog w s.heap p.1 p.2) (hlen:∀p∈pb,p.1.length=6) (hnd:(pb.map (·.1)).Nodup) (h64:pb.length < 64)
  (h:∀(h1 h':Heap) (tk:Nat) (pb':PT6) (e:Nat),pb'.Perm pb→(pb'.map (·.1)).Pairwise (fun x y=>ltL x y=true)→(∀c o,s.heap.get? c=some o→h1.get? c=some o)→(∀c o,h1.get? c=some o→h'.get? c=some o)→h'.get? h1.objs.size=some (C_ "list" (refs6 pb').toArray e)→Q (.ref h1.objs.size) {s with heap:=h',toks:=tk }):
  wpAny (model prog w) A (call (.builtin "sorted") [.ref l]) Q E s:=by
 have hrl:(refs6 pb).length=pb.length:=by simp
 refine Fj Ib Hu Hv (Hw _) ?_
 unfold Builtin.«sorted»
 refine Ao (m:=Jd "sorted" 1 1 _) (Au ?_)
 refine Ao (collect_list hl ?_ (by rw[hrl,BC];omega))
 refine Ao (Ea ?_ (by rw[hrl,BC];omega))
 generalize hg:(s.heap.push (C_ "list" #[] 0)).update s.heap.objs.size (BQ (·++(refs6 pb).toArray))=h1
 have keep:∀c o,s.heap.get? c=some o→h1.get? c=some o:=fun c o e=>by
  rw[←hg,Bc _ _ (CA (AC e))]
  exact Aq _ e
 have hD:(h1.push {cls:=.type "list",data:=.seq (refs6 pb).toArray }).get? h1.objs.size=some (C_ "list" (refs6 pb).toArray 0):=AE _ rfl
 have up:∀p∈pb,TK prog w (h1.push {cls:=.type "list",data:=.seq (refs6 pb).toArray }) p.1 p.2:=fun p hp=>by
  exact TK6.grow (htk p hp) fun b o _ e=>Aq _ (keep _ _ e)
 refine Ao (Bt (B9 GJ ⟨_,hD,rfl⟩ Gi ?_ (GK _)))
 refine qo (s:={s with heap:=h1.push {cls:=.type "list",data:=.seq (refs6 pb).toArray } }) hD up hlen hnd h64 fun pb' pp so=>⟨_,rfl,Au ⟨_,rfl,?_⟩⟩
 obtain ⟨e,eD⟩:=G8 (out:=(refs6 pb').toArray) hD
 refine h h1 _ s.toks pb' e pp so keep (fun c o hb=>?_) eD
 have hlt:=AC hb
 rw[GL (A4 hlt) (by rw[BE];exact Cu hlt)]
 exact Aq _ hb
end
end ST6
namespace L2
open PySem PySem.Spec PyProof.Rows
section
variable {X:Cx}{H0:Hp}{O0:List Addr}{ps:PSt}{e:Expr}{trs:List (List Int)}{pos p:Pos}
theorem jG (hg:Gl X "sorted") (hm:X.mg "sorted"=none) (ha:Ev X H0 O0 ps e (.lst (trs.map sxU))) (hl:trs.length < 64∧trs.Nodup∧∀k∈trs,k.length=6)
  (he:AL [e] X.env=(false,eval e X.env)::AL [] X.env:=by rfl):EvN X H0 O0 ps (.Call (.Name "sorted" p) [e] [] pos) ((ST6.srtL trs).map sxU):=by
 obtain ⟨hl,hn,h6⟩:=hl
 rintro pins s σ H Q I ⟨O,R,q⟩
 refine Bp (cT I hg hm GR ?_)
 refine callWith_builtin1 (e:=e) (rest:=[]) (thn (cJ ha d8 he pos pins s σ H (fun vs H1=>∃v,vs=[v]∧aI H H1∧Rp X.K (hid H1 O) v (.lst (trs.map sxU))) I ⟨O,R,fun v H1 s1 r1=>⟨v,rfl,s1,r1⟩⟩) fun us s1 hx=>?_) he rfl
 obtain ⟨vs,H1,I1,rv,v,rfl,sm,rp⟩:=hx
 obtain ⟨u,rfl,ru⟩:=gu rv
 cases rp with
 | @lst a ws _ hq hwl hwi=>
  cases ru
  obtain ⟨its,rw',pl,hz⟩:=I1.list (SqL.of (aC _ _ hq))
  have hlp:ws.length=trs.length:=by rw[hwl,Ar]
  have hil:its.length=trs.length:=by rw[←rw'.length,hlp]
  have item:∀i,i < trs.length→∃b,its[i]?=some (.ref b)∧Rp X.K (hid H1 O) (.ref b) (sxU (trs.getD i ([]:List Int)))∧ST.TK X.prog X.w s1.heap (trs.getD i ([]:List Int)) b:=fun i hi=>by
   have hw:ws[i]?=some ws[i]:=An (by omega)
   have hp:(trs.map sxU)[i]?=some (sxU (trs.getD i ([]:List Int))):=by rw[Av,An hi];simp[hi]
   have r:=hwi i _ _ hw hp
   obtain ⟨u',e1,e2⟩:=rw'.get hw
   generalize ws[i]=z at *
   generalize trs.getD i ([]:List Int)=g at *
   cases r with
   | @tup b zs _ hs hsl hsi=>
    cases e2
    refine ⟨b,e1,Rp.tup hs hsl hsi,?_⟩
    obtain ⟨jts,rj,ht,_⟩:=I1.tuple (by exact aC.tup hs)
    obtain ⟨o,ho,hoc,n,hod⟩:=ht
    refine ⟨o,_,n,ho,hoc,hod,?_⟩
    have key:∀(g:List Int) (zs:List V) (jts:List Value),zs.length=g.length→(∀(i:Nat) (v:V) (x:U),zs[i]?=some v→(g.map U.int)[i]?=some x→Rp X.K (hid H1 O) v x)→aR zs jts→ItemsAre (DF X.prog X.w) g jts:=fun g=>by
     induction g with
     |nil=>intro zs jts hl _ rj;cases zs with |nil=>cases rj;exact .nil |cons a r=>simp at hl
     |cons a g ih=>
      intro zs jts hl hi rj
      cases zs with
      |nil=>simp at hl
      |cons z zs=>
       cases rj with
       |cons r1 rj=>
        have q:=hi 0 z _ rfl rfl
        cases q
        obtain ⟨t,rfl⟩:=r1
        exact .cons (Co _ _ _ _) (ih zs _ (by simpa using hl) (fun i v x e1 e2=>hi (i+1) v x e1 e2) rj)
    have hh:=key g zs jts (by simpa using hsl) hsi rj
    simpa using hh
  let ad:Nat→Addr:=fun i=>match its[i]? with |some (.ref b)=>b |_=>0
  have adE:∀i,i < trs.length→its[i]?=some (.ref (ad i))∧Rp X.K (hid H1 O) (.ref (ad i)) (sxU (trs.getD i ([]:List Int)))∧ST.TK X.prog X.w s1.heap (trs.getD i ([]:List Int)) (ad i):=fun i hi=>by
   obtain ⟨b,e1,e2,e3⟩:=item i hi
   have:ad i=b:=by show (match its[i]? with |some (.ref b)=>b |_=>0)=b;rw[e1]
   rw[this];exact ⟨e1,e2,e3⟩
  generalize ad=ad' at adE
  clear ad
  generalize hpb:((Bi trs.length).map fun i=>((trs.getD i ([]:List Int),ad' i):List Int×Addr))=pb
  have hits:its=ST6.refs6 pb:=by
   apply Cz
   intro i
   rw[←hpb]
   unfold ST6.refs6
   rcases CB i trs.length with z |z
   ·rw[(adE i z).1];simp[z]
   ·rw[AZ (by omega),AZ (by simpa using z)]
  have h1p:pb.map (·.1)=trs:=by
   rw[←hpb,Bf]
   apply Cz
   intro i
   rcases CB i trs.length with z |z
   ·simp[z]
   ·rw[AZ (by simpa using z),AZ z]
  have srcb:∀z∈pb,∃j,j < trs.length∧z=(trs.getD j ([]:List Int),ad' j):=fun z hz=>by
   rw[←hpb] at hz
   obtain ⟨j,hj,rfl⟩:=Az.mp hz
   exact ⟨j,AQ.mp hj,rfl⟩
  have hbl:pb.length=trs.length:=by rw[←h1p,Ar]
  rw[hits] at pl
  refine ST6.call_sorted6S (pb:=pb) pl.isList (fun z hz=>?_) (fun z hz=>?_) (by rw[h1p];exact hn) (by omega) fun h3 h4 tk2 pb' ep pm so k1 k2 hD=>?_
  ·obtain ⟨j,hj,rfl⟩:=srcb z hz
   exact (adE j hj).2.2
  ·obtain ⟨j,hj,rfl⟩:=srcb z hz
   refine h6 _ ?_
   show trs.getD j ([]:List Int)∈trs
   rw[Ax,An hj]
   exact DR hj
  ·have I3:Inv X pins σ H1 {s1 with heap:=h3,toks:=tk2 }:=I1.kept (t':=tk2) k1
   have src:∀z∈pb',∃j,j < trs.length∧z=(trs.getD j ([]:List Int),ad' j):=fun z hz=>srcb z (pm.mem_iff.mp hz)
   have etrs:pb'.map (·.1)=ST6.srtL trs:=by
    refine ST6.ascL_one so (ST6.srtL_ascL trs) fun z=>?_
    rw[ST6.srtL_mem,(pm.map (·.1)).mem_iff,h1p]
   have fr:H1 h3.objs.size=none:=I3.hok.fresh (Ay _)
   refine ⟨.ref h3.objs.size,upd H1 h3.objs.size (.lst (pb'.map fun z=>V.ref z.2)),?_,rfl,?_⟩
   ·refine I3.laid (t':=tk2) k2 (Ay _) ⟨?_,(ST6.refs6 pb'),ep,?_,hD⟩
    ·rw[Ar,pm.length_eq,hbl,BC]
     omega
    ·have all:∀l:ST6.PT6,aR (l.map fun z=>V.ref z.2) (ST6.refs6 l):=fun l=>by
      induction l with
      |nil=>exact .nil
      |cons z r ih=>exact .cons rfl ih
     exact all pb'
   ·refine q _ _ _ (sm.trans (aN fr _)) (sm.free fr) aQ ⟨?_,fun i z x e1 e2=>?_⟩
    ·rw[Ar,←etrs,Ar,Ar]
    ·rw[←etrs,Bf,Av] at e2
     rw[Av] at e1
     cases hpi:pb'[i]? with
     |none=>rw[hpi] at e1;cases e1
     |some y=>
      rw[hpi] at e1 e2
      cases e1
      cases e2
      obtain ⟨j,hj,rfl⟩:=src y (AO hpi)
      exact (adE j hj).2.1.same (bL (aN fr _) fr)
end
end L2
local macro_rules | `(tactic|walk_at "sz")=>`(tactic|first |with_reducible assumption | ((with_reducible apply L2.Sz.sub') <;>walk_at "sz") | ((with_reducible apply L2.Sz.add') <;>walk_at "sz") | ((with_reducible apply L2.Sz.mul) <;>walk_at "sz") | ((with_reducible apply L2.Sz.neg) <;>walk_at "sz") | ((with_reducible apply L2.Sz.ediv) <;>walk_at "sz") | ((with_reducible apply L2.Sz.abs) <;>walk_at "sz") |exact L2.Sz.lit (m:=8) (by decide) |exact L2.Sz.emod (m:=250) (by decide) (by decide) |exact L2.Sz.lit (m:=250) (by decide))
local macro_rules | `(tactic|walk_at "mul")=>`(tactic|exact L2.Sz.ok (by walk_at "sz") (by walk_at "sz") (by decide))
local macro_rules | `(tactic|walk_at "div")=>`(tactic|first |exact ⟨by decide,L2.Sz.mono (m:=250) (by decide) (by decide)⟩ |exact ⟨by omega,L2.Sz.mono (by walk_at "sz") (by decide)⟩)
local macro_rules | `(tactic|walk_at "mod")=>`(tactic|first |decide |omega)
local macro_rules | `(tactic|walk_at "szb")=>`(tactic|exact L2.Sz.mono (by walk_at "sz") (by decide))
local macro_rules | `(tactic|walk_at "kit")=>`(tactic|first |exact L2.kit_int_int _ |exact L2.kit_int_bool _ |exact L2.kit_tuple_tuple _ |exact L2.kit_list_list _ |exact L2.kit_bool_int _ |exact L2.kit_list_tuple _ |rfl)
local macro_rules | `(tactic|walk_at "ok")=>`(tactic|first |rfl |decide)
local macro_rules | `(tactic|walk_at "sub")=>`(tactic|first |exact trivial | (refine ⟨rfl,?_⟩;walk_at "sub") | (with_reducible apply L2.SubP.skip;walk_at "sub"))
local macro_rules | `(tactic|walk_at "len")=>`(tactic|first |decide | (simp only[List.length_append,List.length_cons,List.length_nil,List.length_map];decide))
namespace My
open PySem PySem.Spec PyProof.Rows L2
def top (i:Nat):Stmt:=PySem.Challenge.pw_stakefield_k58_own_moves_by_trying.main.body.getD i (.Pass ⟨0,0,0,0⟩)
abbrev cZ:Stmt:=top 6
abbrev h_:Stmt:=top 7
abbrev eu:Stmt:=top 8
abbrev h9:Stmt:=top 10
abbrev cW:Stmt:=top 11
abbrev cL:Stmt:=top 12
abbrev d_:Stmt:=top 13
abbrev fW:Stmt:=top 14
abbrev eO:Stmt:=top 15
abbrev cV:Stmt:=top 16
abbrev fX:Stmt:=top 17
abbrev fY:Stmt:=top 18
abbrev ie:Stmt:=top 20
abbrev cu:Stmt:=top 21
abbrev fZ:Stmt:=top 22
abbrev bO:Stmt:=top 23
abbrev f_:Stmt:=top 25
abbrev eN:Stmt:=top 26
abbrev dB:Stmt:=top 27
abbrev bW:Stmt:=top 28
abbrev bQ:Stmt:=top 30
abbrev cx:Stmt:=top 31
abbrev cr:Stmt:=top 32
abbrev bT:Stmt:=top 33
abbrev cN:Stmt:=top 34
abbrev cY:Stmt:=top 35
abbrev bX:Stmt:=top 36
abbrev bV:Stmt:=top 37
abbrev cM:Stmt:=top 38
abbrev bY:Stmt:=top 39
abbrev dA:Stmt:=top 40
abbrev cf:Stmt:=top 41
abbrev jh:Stmt:=top 42
theorem mE:aE ["thing"] ["thing"] (ag cZ):=⟨rfl,rfl,rfl,by decide+kernel,rfl,by decide+kernel,by decide+kernel⟩
theorem vP:aE ["number"] ["number"] (ag h_):=⟨rfl,rfl,rfl,by decide+kernel,rfl,by decide+kernel,by decide+kernel⟩
theorem bJ:aE ["a","b","high","high_times","low","low_times","fits","rest","rest_times","s"] ["a","b"] (ag eu):=⟨rfl,rfl,rfl,by decide+kernel,rfl,by decide+kernel,by decide+kernel⟩
theorem vv:aE ["move"] ["move"] (ag h9):=⟨rfl,rfl,rfl,by decide+kernel,rfl,by decide+kernel,by decide+kernel⟩
theorem jv:aE ["thing","number"] ["thing"] (ag cW):=⟨rfl,rfl,rfl,by decide+kernel,rfl,by decide+kernel,by decide+kernel⟩
theorem kH:aE ["thing"] ["thing"] (ag cL):=⟨rfl,rfl,rfl,by decide+kernel,rfl,by decide+kernel,by decide+kernel⟩
theorem p9:aE ["P","move"] ["P","move"] (ag d_):=⟨rfl,rfl,rfl,by decide+kernel,rfl,by decide+kernel,by decide+kernel⟩
theorem m7:aE ["P","move","place"] ["P","move"] (ag fW):=⟨rfl,rfl,rfl,by decide+kernel,rfl,by decide+kernel,by decide+kernel⟩
theorem fV:aE ["first","second","right","up","origin"] ["first","second"] (ag eO):=⟨rfl,rfl,rfl,by decide+kernel,rfl,by decide+kernel,by decide+kernel⟩
theorem cO:aE ["move","side","a","b","c","d"] ["move"] (ag cV):=⟨rfl,rfl,rfl,by decide+kernel,rfl,by decide+kernel,by decide+kernel⟩
theorem r8:aE ["P","Q"] ["P","Q"] (ag fX):=⟨rfl,rfl,rfl,by decide+kernel,rfl,by decide+kernel,by decide+kernel⟩
theorem dF:aE ["P","Q","far","u","v","parts","s","t"] ["P","Q"] (ag fY):=⟨rfl,rfl,rfl,by decide+kernel,rfl,by decide+kernel,by decide+kernel⟩
theorem u5:aE ["P","Q","R"] ["P","Q","R"] (ag ie):=⟨rfl,rfl,rfl,by decide+kernel,rfl,by decide+kernel,by decide+kernel⟩
theorem dZ:aE ["row","kept","P"] ["row"] (ag cu):=⟨rfl,rfl,rfl,by decide+kernel,rfl,by decide+kernel,by decide+kernel⟩
theorem fv:aE ["points","row","there","back"] ["points"] (ag fZ):=⟨rfl,rfl,rfl,by decide+kernel,rfl,by decide+kernel,by decide+kernel⟩
theorem fG:aE ["land","move","P"] ["land","move"] (ag bO):=⟨rfl,rfl,rfl,by decide+kernel,rfl,by decide+kernel,by decide+kernel⟩
theorem fM:aE ["corner","along","aside","move","place"] ["corner","along","aside"] (ag f_):=⟨rfl,rfl,rfl,by decide+kernel,rfl,by decide+kernel,by decide+kernel⟩
theorem eE:aE ["land","found","before","corner","after"] ["land"] (ag eN):=⟨rfl,rfl,rfl,by decide+kernel,rfl,by decide+kernel,by decide+kernel⟩
theorem nZ:aE ["land"] ["land"] (ag dB):=⟨rfl,rfl,rfl,by decide+kernel,rfl,by decide+kernel,by decide+kernel⟩
theorem ck:aE ["land","there","back","found","move"] ["land"] (ag bW):=⟨rfl,rfl,rfl,by decide+kernel,rfl,by decide+kernel,by decide+kernel⟩
theorem iI:aE ["script","k"] ["script","k"] (ag bQ):=⟨rfl,rfl,rfl,by decide+kernel,rfl,by decide+kernel,by decide+kernel⟩
theorem jJ:aE ["found"] ["found"] (ag cx):=⟨rfl,rfl,rfl,by decide+kernel,rfl,by decide+kernel,by decide+kernel⟩
theorem gh:aE ["one","two","three","made"] ["one","two","three"] (ag cr):=⟨rfl,rfl,rfl,by decide+kernel,rfl,by decide+kernel,by decide+kernel⟩
theorem bE:aE ["points","row","found","way","half","spot"] ["points"] (ag bT):=⟨rfl,rfl,rfl,by decide+kernel,rfl,by decide+kernel,by decide+kernel⟩
theorem lJ:aE ["cell","small"] ["cell","small"] (ag cN):=⟨rfl,rfl,rfl,by decide+kernel,rfl,by decide+kernel,by decide+kernel⟩
theorem bH:aE ["spot","script","x","y","shape","right","above"] ["spot","script"] (ag cY):=⟨rfl,rfl,rfl,by decide+kernel,rfl,by decide+kernel,by decide+kernel⟩
theorem bI:aE ["some","table","found","last","k","x","y"] ["some","table"] (ag bX):=⟨rfl,rfl,rfl,by decide+kernel,rfl,by decide+kernel,by decide+kernel⟩
theorem bq:aE ["script","shape","wide","high","some","cell","x","y","spot"] ["script"] (ag bV):=⟨rfl,rfl,rfl,by decide+kernel,rfl,by decide+kernel,by decide+kernel⟩
theorem lg:aE ["start","spot"] ["start","spot"] (ag cM):=⟨rfl,rfl,rfl,by decide+kernel,rfl,by decide+kernel,by decide+kernel⟩
theorem aJ:aE ["one","other","at","way","p","q","r","s","wide","tops","top","a","b","c","d","x","y"] ["one","other","at","way"] (ag bY):=⟨rfl,rfl,rfl,by decide+kernel,rfl,by decide+kernel,by decide+kernel⟩
theorem jw:aE ["move","spot","x"] ["move","spot"] (ag dA):=⟨rfl,rfl,rfl,by decide+kernel,rfl,by decide+kernel,by decide+kernel⟩
theorem bM:aE ["ends","some","row","at","way","move","spot"] ["ends"] (ag cf):=⟨rfl,rfl,rfl,by decide+kernel,rfl,by decide+kernel,by decide+kernel⟩
theorem ip:aE ["script","ends","handed","found","move","number"] ["script"] (ag jh):=⟨rfl,rfl,rfl,by decide+kernel,rfl,by decide+kernel,by decide+kernel⟩
set_option genInjectivity false in
set_option genSizeOf false in
set_option genSizeOfSpec false in
structure Txt (K:Ap) (mg:Str→Option Value) where
 a_is_whole:Addr
 d_is_whole:A9
 F_is_whole:Fun K "is_whole" "is_whole" cZ a_is_whole d_is_whole
 b_is_whole:bi K d_is_whole ["thing"] []
 m_is_whole:mg "is_whole"=some (.ref a_is_whole)
 a_sign:Addr
 d_sign:A9
 F_sign:Fun K "sign" "sign" h_ a_sign d_sign
 b_sign:bi K d_sign ["number"] []
 m_sign:mg "sign"=some (.ref a_sign)
 a_shares:Addr
 d_shares:A9
 F_shares:Fun K "shares" "shares" eu a_shares d_shares
 b_shares:bi K d_shares ["a","b"] []
 m_shares:mg "shares"=some (.ref a_shares)
 a_hand:Addr
 d_hand:A9
 F_hand:Fun K "hand" "hand" h9 a_hand d_hand
 b_hand:bi K d_hand ["move"] []
 m_hand:mg "hand"=some (.ref a_hand)
 a_is_move:Addr
 d_is_move:A9
 F_is_move:Fun K "is_move" "is_move" cW a_is_move d_is_move
 b_is_move:bi K d_is_move ["thing"] []
 m_is_move:mg "is_move"=some (.ref a_is_move)
 a_need_move:Addr
 d_need_move:A9
 F_need_move:Fun K "need_move" "need_move" cL a_need_move d_need_move
 b_need_move:bi K d_need_move ["thing"] []
 m_need_move:mg "need_move"=some (.ref a_need_move)
 a_turned:Addr
 d_turned:A9
 F_turned:Fun K "turned" "turned" d_ a_turned d_turned
 b_turned:bi K d_turned ["P","move"] []
 m_turned:mg "turned"=some (.ref a_turned)
 a_moved:Addr
 d_moved:A9
 F_moved:Fun K "moved" "moved" fW a_moved d_moved
 b_moved:bi K d_moved ["P","move"] []
 m_moved:mg "moved"=some (.ref a_moved)
 a_behind:Addr
 d_behind:A9
 F_behind:Fun K "behind" "behind" eO a_behind d_behind
 b_behind:bi K d_behind ["first","second"] []
 m_behind:mg "behind"=some (.ref a_behind)
 a_way_back:Addr
 d_way_back:A9
 F_way_back:Fun K "way_back" "way_back" cV a_way_back d_way_back
 b_way_back:bi K d_way_back ["move"] []
 m_way_back:mg "way_back"=some (.ref a_way_back)
 a_steps:Addr
 d_steps:A9
 F_steps:Fun K "steps" "steps" fX a_steps d_steps
 b_steps:bi K d_steps ["P","Q"] []
 m_steps:mg "steps"=some (.ref a_steps)
 a_level:Addr
 d_level:A9
 F_level:Fun K "level" "level" fY a_level d_level
 b_level:bi K d_level ["P","Q"] []
 m_level:mg "level"=some (.ref a_level)
 a_turn:Addr
 d_turn:A9
 F_turn:Fun K "turn" "turn" ie a_turn d_turn
 b_turn:bi K d_turn ["P","Q","R"] []
 m_turn:mg "turn"=some (.ref a_turn)
 a_left_bends:Addr
 d_left_bends:A9
 F_left_bends:Fun K "left_bends" "left_bends" cu a_left_bends d_left_bends
 b_left_bends:bi K d_left_bends ["row"] []
 m_left_bends:mg "left_bends"=some (.ref a_left_bends)
 a_field:Addr
 d_field:A9
 F_field:Fun K "field" "field" fZ a_field d_field
 b_field:bi K d_field ["points"] []
 m_field:mg "field"=some (.ref a_field)
 a_field_moved:Addr
 d_field_moved:A9
 F_field_moved:Fun K "field_moved" "field_moved" bO a_field_moved d_field_moved
 b_field_moved:bi K d_field_moved ["land","move"] []
 m_field_moved:mg "field_moved"=some (.ref a_field_moved)
 a_stand:Addr
 d_stand:A9
 F_stand:Fun K "stand" "stand" f_ a_stand d_stand
 b_stand:bi K d_stand ["corner","along","aside"] []
 m_stand:mg "stand"=some (.ref a_stand)
 a_stands:Addr
 d_stands:A9
 F_stands:Fun K "stands" "stands" eN a_stands d_stands
 b_stands:bi K d_stands ["land"] []
 m_stands:mg "stands"=some (.ref a_stands)
 a_to_form:Addr
 d_to_form:A9
 F_to_form:Fun K "to_form" "to_form" dB a_to_form d_to_form
 b_to_form:bi K d_to_form ["land"] []
 m_to_form:mg "to_form"=some (.ref a_to_form)
 a_own_moves:Addr
 d_own_moves:A9
 F_own_moves:Fun K "own_moves" "own_moves" bW a_own_moves d_own_moves
 b_own_moves:bi K d_own_moves ["land"] []
 m_own_moves:mg "own_moves"=some (.ref a_own_moves)
 a__law_cell_at:Addr
 d__law_cell_at:A9
 F__law_cell_at:Fun K "_law_cell_at" "_law_cell_at" bQ a__law_cell_at d__law_cell_at
 b__law_cell_at:bi K d__law_cell_at ["script","k"] []
 m__law_cell_at:mg "_law_cell_at"=some (.ref a__law_cell_at)
 a__law_whole:Addr
 d__law_whole:A9
 F__law_whole:Fun K "_law_whole" "_law_whole" cx a__law_whole d__law_whole
 b__law_whole:bi K d__law_whole ["found"] []
 m__law_whole:mg "_law_whole"=some (.ref a__law_whole)
 a__law_cross:Addr
 d__law_cross:A9
 F__law_cross:Fun K "_law_cross" "_law_cross" cr a__law_cross d__law_cross
 b__law_cross:bi K d__law_cross ["one","two","three"] []
 m__law_cross:mg "_law_cross"=some (.ref a__law_cross)
 a__law_corners:Addr
 d__law_corners:A9
 F__law_corners:Fun K "_law_corners" "_law_corners" bT a__law_corners d__law_corners
 b__law_corners:bi K d__law_corners ["points"] []
 m__law_corners:mg "_law_corners"=some (.ref a__law_corners)
 a__law_lean:Addr
 d__law_lean:A9
 F__law_lean:Fun K "_law_lean" "_law_lean" cN a__law_lean d__law_lean
 b__law_lean:bi K d__law_lean ["cell","small"] []
 m__law_lean:mg "_law_lean"=some (.ref a__law_lean)
 a__law_put:Addr
 d__law_put:A9
 F__law_put:Fun K "_law_put" "_law_put" cY a__law_put d__law_put
 b__law_put:bi K d__law_put ["spot","script"] []
 m__law_put:mg "_law_put"=some (.ref a__law_put)
 a__law_round:Addr
 d__law_round:A9
 F__law_round:Fun K "_law_round" "_law_round" bX a__law_round d__law_round
 b__law_round:bi K d__law_round ["some","table"] []
 m__law_round:mg "_law_round"=some (.ref a__law_round)
 a__law_ends:Addr
 d__law_ends:A9
 F__law_ends:Fun K "_law_ends" "_law_ends" bV a__law_ends d__law_ends
 b__law_ends:bi K d__law_ends ["script"] []
 m__law_ends:mg "_law_ends"=some (.ref a__law_ends)
 a__law_from:Addr
 d__law_from:A9
 F__law_from:Fun K "_law_from" "_law_from" cM a__law_from d__law_from
 b__law_from:bi K d__law_from ["start","spot"] []
 m__law_from:mg "_law_from"=some (.ref a__law_from)
 a__law_tried:Addr
 d__law_tried:A9
 F__law_tried:Fun K "_law_tried" "_law_tried" bY a__law_tried d__law_tried
 b__law_tried:bi K d__law_tried ["one","other","at","way"] []
 m__law_tried:mg "_law_tried"=some (.ref a__law_tried)
 a__law_by:Addr
 d__law_by:A9
 F__law_by:Fun K "_law_by" "_law_by" dA a__law_by d__law_by
 b__law_by:bi K d__law_by ["move","spot"] []
 m__law_by:mg "_law_by"=some (.ref a__law_by)
 a__law_due:Addr
 d__law_due:A9
 F__law_due:Fun K "_law_due" "_law_due" cf a__law_due d__law_due
 b__law_due:bi K d__law_due ["ends"] []
 m__law_due:mg "_law_due"=some (.ref a__law_due)
 a_law:Addr
 d_law:A9
 F_law:Fun K "law" "law" jh a_law d_law
 b_law:bi K d_law ["script"] []
 m_law:mg "law"=some (.ref a_law)
 z_abs:mg "abs"=none
 z_all:mg "all"=none
 z_bool:mg "bool"=none
 z_int:mg "int"=none
 z_isinstance:mg "isinstance"=none
 z_len:mg "len"=none
 z_list:mg "list"=none
 z_min:mg "min"=none
 z_range:mg "range"=none
 z_reversed:mg "reversed"=none
 z_set:mg "set"=none
 z_sorted:mg "sorted"=none
 z_tuple:mg "tuple"=none
 z_zip:mg "zip"=none
 tf_c:Addr
 tf_P:Addr
 tf_b:Addr
 tf:TbF K mg a_to_form tf_c tf_P tf_b
 tf_cd:d_to_form.code=.ref tf_c
section
variable {P:AD}{w:World}{K:Ap}{mg:Str→Option Value}{base:Heap}
def sgn (n:Int):Int:=if 0 < n then 1 else if n < 0 then -1 else 0
def bZ (b:Int):Int:=if b < 0 then -b else b
theorem dg (b:Int):bZ b=(b.natAbs:Int):=by unfold bZ;split <;>omega
theorem hU {b:Int} (h:b≠0):0 < bZ b:=by unfold bZ;split <;>omega
theorem de (d b:Int):d ∣ bZ b↔d ∣ b:=by
 unfold bZ;split
 ·exact Ii
 ·exact Iff.rfl
theorem uo (d b:Int):bZ b ∣ d↔b ∣ d:=by
 unfold bZ;split
 ·exact Int.neg_dvd
 ·exact Iff.rfl
structure iC (a b high ht low lt:Int):Prop where
 hp:0 < high
 lo0:0≤low
 lolt:low < high
 dv:∀d,(d ∣ high∧d ∣ low)↔(d ∣ a∧d ∣ b)
 ch:b ∣ ht*a - high
 cl:b ∣ lt*a - low
 bd:ht.natAbs*low.natAbs+lt.natAbs*high.natAbs≤b.natAbs
 hi:high.natAbs≤b.natAbs
theorem mY {a b:Int} (hb:b≠0):iC a b (bZ b) 0 (a % bZ b) 1:=by
 have h0:=hU hb
 refine ⟨h0,Cg _ (by omega),BP _ h0,fun d=>?_,?_,?_,?_,by rw[dg];simp⟩
 ·rw[de]
  constructor
  ·rintro ⟨h1,h2⟩
   refine ⟨?_,h1⟩
   have e:=C6 a (bZ b)
   rw[←e]
   exact E4 h2 (B_ ((de d b).mpr h1) (CO _ _))
  ·rintro ⟨h1,h2⟩
   refine ⟨h2,?_⟩
   have e:a % bZ b=a - bZ b*(a / bZ b):=by have:=C6 a (bZ b);omega
   rw[e]
   exact Ij h1 (B_ ((de d b).mpr h2) (CO _ _))
 ·rw[EB,Int.zero_sub,Ii]
  exact (de b b).mpr (Fb b)
 ·have e:1*a - a % bZ b=bZ b*(a / bZ b):=by have:=C6 a (bZ b);omega
  rw[e]
  exact B_ ((de b b).mpr (Fb b)) (CO _ _)
 ·rw[dg];simp
theorem px {a b high ht low lt:Int} (I:iC a b high ht low lt) (h:low≠0):iC a b low lt (high - high / low*low) (ht - high / low*lt)∧high - high / low*low < low:=by
 obtain ⟨hp,lo0,lolt,dv,ch,cl,bd,hi⟩:=I
 have hl:0 < low:=by omega
 have e:=C6 high low
 have r0:=Cg high h
 have r1:=BP high hl
 have hf:0≤high / low:=Int.ediv_nonneg (by omega) (by omega)
 have er:high - high / low*low=high % low:=by rw[D0];omega
 rw[er]
 refine ⟨⟨hl,r0,r1,fun d=>?_,cl,?_,?_,by omega⟩,r1⟩
 ·rw[←dv d]
  constructor
  ·rintro ⟨h1,h2⟩
   refine ⟨?_,h1⟩
   rw[←e]
   exact E4 h2 (B_ h1 (CO _ _))
  ·rintro ⟨h1,h2⟩
   refine ⟨h2,?_⟩
   rw[show high % low=high - low*(high / low) by omega]
   exact Ij h1 (B_ h2 (CO _ _))
 ·have e2:(ht - high / low*lt) *a - high % low=(ht*a - high) - (high / low) *(lt*a - low):=by grind
  rw[e2]
  exact Ij ch (B_ cl (CW _ _))
 ·have n1:(ht - high / low*lt).natAbs≤ht.natAbs+(high / low).natAbs*lt.natAbs:=by
   have:=Int.natAbs_sub_le ht (high / low*lt)
   rw[Et] at this
   exact this
  have n2:high.natAbs=(high % low).natAbs+low.natAbs*(high / low).natAbs:=by
   have:(high.natAbs:Int)=((high % low).natAbs+low.natAbs*(high / low).natAbs:Nat):=by
    push_cast
    rw[DI r0,DI hf,DI (by omega:0≤high),DI lo0]
    omega
   omega
  have n3:(ht - high / low*lt).natAbs*low.natAbs≤(ht.natAbs+(high / low).natAbs*lt.natAbs) *low.natAbs:=Gz _ n1
  rw[n2] at bd
  refine BR ?_ bd
  generalize (ht - high / low*lt).natAbs=A at *
  generalize ht.natAbs=B at *
  generalize lt.natAbs=C at *
  generalize low.natAbs=D at *
  generalize (high / low).natAbs=E at *
  generalize (high % low).natAbs=F at *
  grind
structure fK (a b g s t:Int):Prop where
 g0:0≤g
 eq:s*a+t*b=g
 da:g ∣ a
 db:g ∣ b
 z:b=0→t=0∧s=sgn a∧g=bZ a
 nz:b≠0→0 < g∧0≤s∧s < bZ b / g
theorem j8 (a:Int):fK a 0 (bZ a) (sgn a) 0:=by
 refine ⟨by unfold bZ;split <;>omega,?_,(uo a a).mpr (Fb a),Jx _,fun _=>⟨rfl,rfl,rfl⟩,fun h=>absurd rfl h⟩
 unfold sgn bZ
 split
 ·split <;>omega
 ·split
  ·omega
  ·omega
theorem tF {a b high ht lt:Int} (hb:b≠0) (I:iC a b high ht 0 lt):fK a b high (ht % (bZ b / high)) ((high - ht % (bZ b / high) *a).fdiv b):=by
 obtain ⟨hp,lo0,lolt,dv,ch,cl,bd,hi⟩:=I
 obtain ⟨ga,gb⟩:=(dv high).mp ⟨Fb _,Jx _⟩
 obtain ⟨a',rfl⟩:=ga
 have gb2:high ∣ bZ b:=(de _ _).mpr gb
 obtain ⟨b',hb'⟩:=gb2
 have hb0:=hU hb
 have hq:bZ b / high=b':=by rw[hb',CF _ (by omega)]
 have hb1:0 < b':=by
  have:0 < high*b':=by omega
  exact D3 this (by omega)
 rw[hq]
 have es:=C6 ht b'
 have key:b ∣ high - ht % b'*(high*a'):=by
  have e:high - ht % b'*(high*a')=-(ht*(high*a') - high)+bZ b*(a'*(ht / b')):=by
   rw[hb',show ht % b'=ht - b'*(ht / b') by omega];grind
  rw[e]
  refine E4 (Ii.mpr ch) (B_ ((de b b).mpr (Fb b)) (CO _ _))
 refine ⟨by omega,?_,CO _ _,gb,fun h=>absurd h hb,fun _=>⟨hp,Cg _ (by omega),?_⟩⟩
 ·obtain ⟨c,hc⟩:=key
  rw[hc,Int.mul_fdiv_cancel_left _ hb,D0 c b];omega
 ·rw[hq];exact BP _ hb1
theorem zw {a b high ht low lt:Int} (I:iC a b high ht low lt):lt.natAbs≤b.natAbs:=by
 have h1:1≤high.natAbs:=by have:=I.hp;omega
 have h2:lt.natAbs*1≤lt.natAbs*high.natAbs:=Nat.mul_le_mul_left _ h1
 have:=I.bd
 omega
theorem tI {a b g s t g' s' t':Int} (h:fK a b g s t) (h':fK a b g' s' t'):g=g'∧s=s'∧t=t':=by
 have d1:g ∣ g':=by rw[←h'.eq];exact E4 (B_ h.da (CW _ _)) (B_ h.db (CW _ _))
 have d2:g' ∣ g:=by rw[←h.eq];exact E4 (B_ h'.da (CW _ _)) (B_ h'.db (CW _ _))
 have eg:g=g':=Int.dvd_antisymm h.g0 h'.g0 d1 d2
 subst eg
 by_cases hb:b=0
 ·obtain ⟨h1,h2,_⟩:=h.z hb
  obtain ⟨k1,k2,_⟩:=h'.z hb
  exact ⟨rfl,by omega,by omega⟩
 ·obtain ⟨p,s0,s1⟩:=h.nz hb
  obtain ⟨_,s0',s1'⟩:=h'.nz hb
  obtain ⟨a',ha⟩:=h.da
  obtain ⟨b',hb'⟩:=(de g b).mpr h.db
  obtain ⟨b'',hb''⟩:=h.db
  have hq:bZ b / g=b':=by rw[hb',CF _ (by omega)]
  rw[hq] at s1 s1'
  have e1:=h.eq
  have e2:=h'.eq
  have bz:b''≠0:=by intro z;rw[z,C7] at hb'';exact hb hb''
  have k1:s*a'+t*b''=1:=by
   have:g*(s*a'+t*b'')=g*1:=by rw[ha,hb''] at e1;grind
   exact BN (by omega) this
  have k2:s'*a'+t'*b''=1:=by
   have:g*(s'*a'+t'*b'')=g*1:=by rw[ha,hb''] at e2;grind
   exact BN (by omega) this
  have k3:b'' ∣ s - s':=by
   refine ⟨s*(t' - t)+t*(s - s'),?_⟩
   grind
  have k4:b' ∣ s - s':=by
   have:b'.natAbs=b''.natAbs:=by
    have q1:(bZ b).natAbs=b.natAbs:=by rw[dg];simp
    rw[hb',hb''] at q1
    rw[Et,Et] at q1
    exact Nat.eq_of_mul_eq_mul_left (by omega) q1
   exact EC.mp (by rw[this];exact EC.mpr k3)
  have k5:s=s':=by
   have:s - s'=0:=Int.eq_zero_of_dvd_of_natAbs_lt_natAbs k4 (by omega)
   omega
  subst k5
  refine ⟨rfl,rfl,?_⟩
  have:b*t=b*t':=by grind
  exact BN hb this
theorem wm {a b:Int} (hb:b≠0):∀(n:Nat) (high ht low lt:Int),low.toNat≤n→iC a b high ht low lt→∃high' ht' lt',iC a b high' ht' 0 lt'
 |0,high,ht,low,lt,hn,I=>by
  have:low=0:=by have:=I.lo0;omega
  subst this
  exact ⟨_,_,_,I⟩
 |n+1,high,ht,low,lt,hn,I=>by
  by_cases h:low=0
  ·subst h;exact ⟨_,_,_,I⟩
  ·obtain ⟨I2,less⟩:=px I h
   have:=I2.lo0
   exact wm hb n _ _ _ _ (by have:=I.lo0;omega) I2
theorem o5 (a b:Int):∃g s t,fK a b g s t:=by
 by_cases hb:b=0
 ·subst hb;exact ⟨_,_,_,j8 a⟩
 ·obtain ⟨h,ht,lt,I⟩:=wm hb _ _ _ _ _ (Ay _) (mY (a:=a) hb)
  exact ⟨_,_,_,tF hb I⟩
theorem iY {m:Nat}{a b g s t:Int} (G:fK a b g s t) (sa:Sz m a) (sb:Sz m b):Sz (m+8) g∧Sz (m+8) s∧Sz (2*m+8) t:=by
 by_cases hb:b=0
 ·subst hb
  obtain ⟨h1,h2,h3⟩:=G.z rfl
  rw[h1,h2,h3]
  have s1:Sz 8 (sgn a):=by unfold Sz sgn;split;decide;split <;>decide
  exact ⟨(Sz.abs sa).mono (by omega),s1.mono (by omega),Sz.mono (m:=8) (by decide) (by omega)⟩
 ·obtain ⟨g0,s0,s1⟩:=G.nz hb
  have h1:bZ b / g≤bZ b:=HK _ (by have:=hU hb;omega)
  have h2:=dg b
  have sg:Sz m g:=by
   refine sb.natle ?_
   exact Nat.le_of_dvd (by omega) (EC.mpr G.db)
  have ss:Sz m s:=sb.natle (by omega)
  refine ⟨sg.mono (by omega),ss.mono (by omega),?_⟩
  have e:t*b=g - s*a:=by have:=G.eq;omega
  have q:Sz (2*m+1) (t*b):=by
   rw[e]
   have:Sz (m+m) (s*a):=ss.mul sa
   have h3:=(sg.mono (show m≤m+m by omega)).sub this
   exact h3.mono (by omega)
  refine (Sz.mono (m:=2*m+1) ?_ (by omega))
  unfold Sz at *
  rw[Et] at q
  have:1≤b.natAbs:=by omega
  exact E8 (Nat.le_mul_of_pos_right _ this) q
def qe:List U→Out→Prop:=fun us o=>∃n:Int,us=[.int n]∧o=.val (.int (sgn n))
theorem oV (T:Txt K mg):bF P w K mg base (CXF P w) 1 T.a_sign T.d_sign ["number"] (spU K (qe)):=by
 refine bG T.F_sign vP (fun us o h=>?_) (fun cdv A outer s H E O us o hr h=>?_)
 ·obtain ⟨n,rfl,rfl⟩:=h
  rfl
 obtain ⟨n,rfl,rfl⟩:=h
 refine Ws.nox ?_
 refine ac (kB (bp mZ (aa 0 rfl) ab) (fun hT=>?_) (fun hF=>(aU ?_)))
 ·refine ac (bA ab ?_)
  exact vIO (by unfold sgn;rw[if_pos (dTb hT)])
 ·refine ac (kB (bp p8 (aa 0 rfl) ab) (fun hT=>?_) (fun hF=>(aU ?_)))
  ·refine ac (bA (bK ab) ?_)
   exact vIO (by unfold sgn;rw[if_neg (dFb hF),if_pos (dTb hT)])
  ·rename_i hF2
   refine ac (bA ab ?_)
   exact vIO (by unfold sgn;rw[if_neg (dFb hF),if_neg (dFb hF2)])
def lS:List U→Out→Prop:=fun us o=>∃a b g s t:Int,us=[.int a,.int b]∧Sz 4000 a∧Sz 4000 b∧fK a b g s t∧o=.val (.tup [.int g,.int s,.int t])
theorem mN {a b g s t g' s' t':Int} (G:fK a b g s t) (G':fK a b g' s' t'):Out.val (.tup [.int g,.int s,.int t])=Out.val (.tup [.int g',.int s',.int t']):=by
 obtain ⟨rfl,rfl,rfl⟩:=tI G G'
 rfl
theorem j7 (T:Txt K mg):bF P w K mg base (CXF P w) 2 T.a_shares T.d_shares ["a","b"] (spU K (lS)):=by
 refine bG T.F_shares bJ (fun us o h=>?_) (fun cdv A outer s H E O us o hr h=>?_)
 ·obtain ⟨a,b,g,s,t,rfl,sa,sb,G,rfl⟩:=h
  rfl
 obtain ⟨a,b,g,s,t,rfl,sa,sb,G,rfl⟩:=h
 refine Ws.nox ?_
 refine ac (kB (bp dX (aa 1 rfl) ab) (fun hT=>?_) (fun hF=>(aU ?_)))
 ·have hb:b=0:=dTb hT
  subst hb
  refine ac (bA (bo (ai (aV mV rfl T.z_abs PyProof.Rows.boot_abs (ae (aa 0 rfl) ao af)) (ai (aw ((oV T).mono (by decide)) hr rfl T.m_sign T.F_sign.kp T.b_sign aB (ae (aa 0 rfl) ao af) ⟨_,rfl,rfl⟩) (ai ab bg aG) e8) e8)) ?_)
  exact mN (j8 a) G
 ·have hb:b≠0:=dFb hF
  have hp0:=hU hb
  have sab:Sz 4000 (bZ b):=Sz.abs sb
  refine ac (ax (i:=2) bJ.nd rfl (Or.inl rfl) (aV mV rfl T.z_abs PyProof.Rows.boot_abs (ae (aa 1 rfl) ao af)) ?_)
  refine ac (ax (i:=3) bJ.nd rfl (Or.inl rfl) ab ?_)
  refine ac (ax (i:=4) bJ.nd rfl (Or.inl rfl) (cB (aa 0 rfl) (aa 2 rfl) hp0) ?_)
  refine ac (ax (i:=5) bJ.nd rfl (Or.inl rfl) ab ?_)
  refine ac (jn (fun m:Int×Int×Int×Int=>[some (.val (.int a)),some (.val (.int b)),some (.val (.int m.1)),some (.val (.int m.2.1)),some (.val (.int m.2.2.1)),some (.val (.int m.2.2.2)),none,none,none,none]) (fun n m=>n=m.2.2.1.toNat∧iC a b m.1 m.2.1 m.2.2.1 m.2.2.2) PassesOwn.never ?h0 ?hs)
  case h0=>exact ⟨_,(_,_,_,_),⟨rfl,mY hb⟩,rfl,rfl,rfl,rfl,rfl,rfl,trivial⟩
  case hs=>
   rintro m ⟨high,ht,low,lt⟩ ⟨rfl,I⟩
   dsimp only at I ⊢
   have hl0:=I.lo0
   have hl1:=I.lolt
   have sh:Sz 4000 high:=sb.natle I.hi
   have sl:Sz 4000 low:=sh.natle (by omega)
   have slt:Sz 4000 lt:=sb.natle (zw I)
   refine ⟨_,(bp jr (aa 4 rfl) ab),fun h=>?_,fun h ps hps=>?_⟩
   ·have hl:low≠0:=nTb h
    obtain ⟨I2,less⟩:=px I hl
    have hlt:(high - high / low*low).toNat < low.toNat:=by clear h;omega
    refine ac (ax (i:=6) bJ.nd rfl (Or.inl rfl) (dE (aa 2 rfl) (aa 4 rfl) (by walk_at "div")) ?_)
    have sf:Sz 4000 (high / low):=sh.ediv
    refine ac (ax (i:=7) bJ.nd rfl (Or.inl rfl) (bu (aa 2 rfl) (aK (aa 6 rfl) (aa 4 rfl) (by walk_at "mul"))) ?_)
    refine ac (ax (i:=8) bJ.nd rfl (Or.inl rfl) (bu (aa 3 rfl) (aK (aa 6 rfl) (aa 5 rfl) (by walk_at "mul"))) ?_)
    refine ac (ax (i:=2) bJ.nd rfl (Or.inl rfl) (aa 4 rfl) ?_)
    refine ac (ax (i:=3) bJ.nd rfl (Or.inl rfl) (aa 5 rfl) ?_)
    refine ac (ax (i:=4) bJ.nd rfl (Or.inl rfl) (aa 7 rfl) ?_)
    refine ac (ax (i:=5) bJ.nd rfl (Or.inl rfl) (aa 8 rfl) (aU ?_))
    exact ⟨_,(_,_,_,_),hlt,⟨rfl,I2⟩,rfl,rfl,rfl,rfl,rfl,rfl,trivial⟩
   ·have hl:low=0:=nFb h
    subst hl
    refine dm ?_ hps
    have G2:=tF hb I
    obtain ⟨g0,s0,s1⟩:=G2.nz hb
    have hm:0 < bZ b / high:=by omega
    have hg:0 < high:=I.hp
    have ss:Sz 4000 (ht % (bZ b / high)):=by
     refine sb.natle ?_
     have h1:bZ b / high≤bZ b:=HK _ (by omega)
     have h2:=dg b
     omega
    refine ac (ax (i:=9) bJ.nd rfl (Or.inl rfl) (cB (aa 3 rfl) (dE (aV mV rfl T.z_abs PyProof.Rows.boot_abs (ae (aa 1 rfl) ao af)) (aa 2 rfl) ⟨hg,sh.mono (by decide)⟩) hm) ?_)
    refine ac (bA (bo (ai (aa 2 rfl) (ai (aa 9 rfl) (ai (yc (bu (aa 2 rfl) (aK (aa 9 rfl) (aa 0 rfl) (Sz.ok ss sa (by decide)))) (aa 1 rfl) ⟨hb,sb.mono (by decide)⟩) bg bB) af) af)) ?_)
    exact mN G2 G
abbrev mv (a b c d e f:Int):U:=.tup [.int a,.int b,.int c,.int d,.int e,.int f]
structure Mv (a b c d e f:Int):Prop where
 u:a*d - b*c=1∨a*d - b*c=-1
 a:Sz 30000 a
 b:Sz 30000 b
 c:Sz 30000 c
 d:Sz 30000 d
 e:Sz 30000 e
 f:Sz 30000 f
def oD:List U→Out→Prop:=fun us o=>∃n:Int,us=[.int n]∧o=.val (.bl true)
theorem mF (T:Txt K mg):bF P w K mg base (CXF P w) 1 T.a_is_whole T.d_is_whole ["thing"] (spU K (oD)):=by
 refine bG T.F_is_whole mE (fun us o h=>?_) (fun cdv A outer s H E O us o hr h=>?_)
 ·obtain ⟨n,rfl,rfl⟩:=h
  rfl
 obtain ⟨n,rfl,rfl⟩:=h
 refine Ws.nox ?_
 refine ac (bA (wu (aV (dG (by intro _ h;cases h) (by walk_at "kit")) rfl T.z_isinstance Dh (ae (aa 0 rfl) (ae (oE rfl T.z_int boot_int) ao af) af)) (fun hz=>(wn (wc (aV (dG (by intro _ h;cases h) (by walk_at "kit")) rfl T.z_isinstance Dh (ae (aa 0 rfl) (ae (oE rfl T.z_bool boot_bool) ao af) af)))))) ?_);exact rfl
def qg:List U→Out→Prop:=fun us o=>∃a b c d e f,us=[mv a b c d e f]∧Sz 30000 a∧Sz 30000 b∧Sz 30000 c∧Sz 30000 d∧o=.val (.int (a*d - b*c))
theorem ph (T:Txt K mg):bF P w K mg base (CXF P w) 1 T.a_hand T.d_hand ["move"] (spU K (qg)):=by
 refine bG T.F_hand vv (fun us o h=>?_) (fun cdv A outer s H E O us o hr h=>?_)
 ·obtain ⟨a,b,c,d,e,f,rfl,sa,sb,sc,sd,rfl⟩:=h
  rfl
 obtain ⟨a,b,c,d,e,f,rfl,sa,sb,sc,sd,rfl⟩:=h
 refine Ws.nox ?_
 refine ac (bA (bu (aK (ar (aa 0 rfl) ab rfl rfl) (ar (aa 0 rfl) ab rfl rfl) (by walk_at "mul")) (aK (ar (aa 0 rfl) ab rfl rfl) (ar (aa 0 rfl) ab rfl rfl) (by walk_at "mul"))) ?_);exact rfl
def kT:List U→Out→Prop:=fun us o=>∃a b c d e f,us=[mv a b c d e f]∧Mv a b c d e f∧o=.val (.bl true)
theorem nK (T:Txt K mg):bF P w K mg base (CXF P w) 2 T.a_is_move T.d_is_move ["thing"] (spU K (kT)):=by
 refine bG T.F_is_move jv (fun us o h=>?_) (fun cdv A outer s H E O us o hr h=>?_)
 ·obtain ⟨a,b,c,d,e,f,rfl,M,rfl⟩:=h
  rfl
 obtain ⟨a,b,c,d,e,f,rfl,M,rfl⟩:=h
 refine Ws.nox ?_
 refine ac (cU (Tw.t (u9 (nq (iF (aV (dG (by intro _ h;cases h) rfl) rfl T.z_isinstance Dh (ae (aa 0 rfl) (ae (oE rfl T.z_tuple boot_tuple) ao af) af)))) (fun hz=>(rq (bp jr (aV (dS rfl) rfl T.z_len BF (ae (aa 0 rfl) ao af)) ab))))) rfl (aU ?_))
 refine ac (cU (nq (iF (aV (zE rfl (bs:=[true,true,true,true,true,true])) rfl T.z_all boot_all (ae (EvN.ev (gJ  rfl (blk (ag cW) ["thing","number"] [1] rfl rfl rfl rfl (by decide+kernel)) (wA (aa 0 rfl)) (fun _ _ _ _=>bj (i:=1) jv.nd rfl (Or.inl rfl)) (cQ (by decide)) ?clen ?csz (fun _ _=>trivial) ?celt)) ao e_)))) rfl (aU ?_))
 case clen=>rfl
 case csz=>show 6≤sizeLine;decide
 case celt=>
  intro C s' H' fp i x y hx hy
  have k:∃n:Int,x=.int n∧y=.bl true:=by
   match i,hx,hy with
   |0,hx,hy=>cases hx;cases hy;exact ⟨a,rfl,rfl⟩
   |1,hx,hy=>cases hx;cases hy;exact ⟨b,rfl,rfl⟩
   |2,hx,hy=>cases hx;cases hy;exact ⟨c,rfl,rfl⟩
   |3,hx,hy=>cases hx;cases hy;exact ⟨d,rfl,rfl⟩
   |4,hx,hy=>cases hx;cases hy;exact ⟨e,rfl,rfl⟩
   |5,hx,hy=>cases hx;cases hy;exact ⟨f,rfl,rfl⟩
   |i+6,hx,hy=>cases hx
  obtain ⟨n,rfl,rfl⟩:=k
  exact (aw ((mF T).mono (by decide)) hr rfl T.m_is_whole T.F_is_whole.kp T.b_is_whole aB (ae (aa 1 rfl) ao af) ⟨n,rfl,rfl⟩)
 refine ac (bA (uz (Ag rfl rfl rfl) (aw ((ph T).mono (by decide)) hr rfl T.m_hand T.F_hand.kp T.b_hand aB (ae (aa 0 rfl) ao af) ⟨a,b,c,d,e,f,rfl,M.a,M.b,M.c,M.d,rfl⟩) (bo (ai ab (ai (bK ab) bg cC) aG))) ?_)
 refine vB ?_
 show inV (fl (.int (a*d - b*c))) ([U.int 1,.int (-1)].map fl)=_
 rcases M.u with h |h <;>rw[h] <;>rfl
def p5:List U→Out→Prop:=fun us o=>∃a b c d e f,us=[mv a b c d e f]∧Mv a b c d e f∧o=.val .non
theorem dr (T:Txt K mg):bF P w K mg base (CXF P w) 3 T.a_need_move T.d_need_move ["thing"] (spU K (p5)):=by
 refine bG T.F_need_move kH (fun us o h=>?_) (fun cdv A outer s H E O us o hr h=>?_)
 ·obtain ⟨a,b,c,d,e,f,rfl,M,rfl⟩:=h
  rfl
 obtain ⟨a,b,c,d,e,f,rfl,M,rfl⟩:=h
 refine Ws.nox ?_
 refine ac (cU (nq (iF (aw ((nK T).mono (by decide)) hr rfl T.m_is_move T.F_is_move.kp T.b_is_move aB (ae (aa 0 rfl) ao af) ⟨a,b,c,d,e,f,rfl,M,rfl⟩))) rfl (aU (aU ?_)))
 exact rfl
def md:List U→Out→Prop:=fun us o=>∃x y a b c d e f,us=[pt x y,mv a b c d e f]∧(Sz 30000 x∧Sz 30000 y∧Sz 30000 a∧Sz 30000 b∧Sz 30000 c∧Sz 30000 d)∧o=.val (pt (a*x+b*y) (c*x+d*y))
theorem io (T:Txt K mg):bF P w K mg base (CXF P w) 1 T.a_turned T.d_turned ["P","move"] (spU K (md)):=by
 refine bG T.F_turned p9 (fun us o h=>?_) (fun cdv A outer s H E O us o hr h=>?_)
 ·obtain ⟨x,y,a,b,c,d,e,f,rfl,⟨sx,sy,sa,sb,sc,sd⟩,rfl⟩:=h
  rfl
 obtain ⟨x,y,a,b,c,d,e,f,rfl,⟨sx,sy,sa,sb,sc,sd⟩,rfl⟩:=h
 refine Ws.nox ?_
 refine ac (bA (bo (ai (ca (aK (ar (aa 1 rfl) ab rfl rfl) (ar (aa 0 rfl) ab rfl rfl) (by walk_at "mul")) (aK (ar (aa 1 rfl) ab rfl rfl) (ar (aa 0 rfl) ab rfl rfl) (by walk_at "mul"))) (ai (ca (aK (ar (aa 1 rfl) ab rfl rfl) (ar (aa 0 rfl) ab rfl rfl) (by walk_at "mul")) (aK (ar (aa 1 rfl) ab rfl rfl) (ar (aa 0 rfl) ab rfl rfl) (by walk_at "mul"))) bg bB) bB)) ?_);exact rfl
def nU:List U→Out→Prop:=fun us o=>∃x y a b c d e f,us=[pt x y,mv a b c d e f]∧Mv a b c d e f∧Sz 30000 x∧Sz 30000 y∧o=.val (pt (a*x+b*y+e) (c*x+d*y+f))
theorem eT (T:Txt K mg):bF P w K mg base (CXF P w) 4 T.a_moved T.d_moved ["P","move"] (spU K (nU)):=by
 refine bG T.F_moved m7 (fun us o h=>?_) (fun cdv A outer s H E O us o hr h=>?_)
 ·obtain ⟨x,y,a,b,c,d,e,f,rfl,M,sx,sy,rfl⟩:=h
  rfl
 obtain ⟨x,y,a,b,c,d,e,f,rfl,M,sx,sy,rfl⟩:=h
 refine Ws.nox ?_
 refine ac (lK (aw ((dr T).mono (by decide)) hr rfl T.m_need_move T.F_need_move.kp T.b_need_move aB (ae (aa 1 rfl) ao af) ⟨a,b,c,d,e,f,rfl,M,rfl⟩) ?_)
 refine ac (ax (i:=2) m7.nd rfl (Or.inl rfl) (aw ((io T).mono (by decide)) hr rfl T.m_turned T.F_turned.kp T.b_turned aB (ae (aa 0 rfl) (ae (aa 1 rfl) ao af) af) ⟨x,y,a,b,c,d,e,f,rfl,⟨sx,sy,M.a,M.b,M.c,M.d⟩,rfl⟩) ?_)
 refine ac (bA (bo (ai (ca (ar (aa 2 rfl) ab rfl rfl) (ar (aa 1 rfl) ab rfl rfl)) (ai (ca (ar (aa 2 rfl) ab rfl rfl) (ar (aa 1 rfl) ab rfl rfl)) bg bB) bB)) ?_)
 exact rfl
def beh (a b c d e f a' b' c' d' e' f':Int):U:=mv (a'*a+b'*c) (a'*b+b'*d) (c'*a+d'*c) (c'*b+d'*d) (a'*e+b'*f+e') (c'*e+d'*f+f')
def lX:List U→Out→Prop:=fun us o=>∃a b c d e f a' b' c' d' e' f',us=[mv a b c d e f,mv a' b' c' d' e' f']∧Mv a b c d e f∧Mv a' b' c' d' e' f'∧o=.val (beh a b c d e f a' b' c' d' e' f')
theorem fO (T:Txt K mg):bF P w K mg base (CXF P w) 5 T.a_behind T.d_behind ["first","second"] (spU K (lX)):=by
 refine bG T.F_behind fV (fun us o h=>?_) (fun cdv A outer s H E O us o hr h=>?_)
 ·obtain ⟨a,b,c,d,e,f,a',b',c',d',e',f',rfl,M,M',rfl⟩:=h
  rfl
 obtain ⟨a,b,c,d,e,f,a',b',c',d',e',f',rfl,M,M',rfl⟩:=h
 refine Ws.nox ?_
 refine ac (lK (aw ((dr T).mono (by decide)) hr rfl T.m_need_move T.F_need_move.kp T.b_need_move aB (ae (aa 0 rfl) ao af) ⟨a,b,c,d,e,f,rfl,M,rfl⟩) ?_)
 refine ac (lK (aw ((dr T).mono (by decide)) hr rfl T.m_need_move T.F_need_move.kp T.b_need_move aB (ae (aa 1 rfl) ao af) ⟨a',b',c',d',e',f',rfl,M',rfl⟩) ?_)
 refine ac (ax (i:=2) fV.nd rfl (Or.inl rfl) (aw ((io T).mono (by decide)) hr rfl T.m_turned T.F_turned.kp T.b_turned aB (ae (bo (ai (ar (aa 0 rfl) ab rfl rfl) (ai (ar (aa 0 rfl) ab rfl rfl) bg bv) bv)) (ae (aa 1 rfl) ao af) cX) ⟨_,_,_,_,_,_,_,_,rfl,⟨M.a,M.c,M'.a,M'.b,M'.c,M'.d⟩,rfl⟩) ?_)
 refine ac (ax (i:=3) fV.nd rfl (Or.inl rfl) (aw ((io T).mono (by decide)) hr rfl T.m_turned T.F_turned.kp T.b_turned aB (ae (bo (ai (ar (aa 0 rfl) ab rfl rfl) (ai (ar (aa 0 rfl) ab rfl rfl) bg bv) bv)) (ae (aa 1 rfl) ao af) cX) ⟨_,_,_,_,_,_,_,_,rfl,⟨M.b,M.d,M'.a,M'.b,M'.c,M'.d⟩,rfl⟩) ?_)
 refine ac (ax (i:=4) fV.nd rfl (Or.inl rfl) (aw ((eT T).mono (by decide)) hr rfl T.m_moved T.F_moved.kp T.b_moved aB (ae (bo (ai (ar (aa 0 rfl) ab rfl rfl) (ai (ar (aa 0 rfl) ab rfl rfl) bg bv) bv)) (ae (aa 1 rfl) ao af) cX) ⟨_,_,_,_,_,_,_,_,rfl,M',M.e,M.f,rfl⟩) ?_)
 refine ac (bA (bo (ai (ar (aa 2 rfl) ab rfl rfl) (ai (ar (aa 3 rfl) ab rfl rfl) (ai (ar (aa 2 rfl) ab rfl rfl) (ai (ar (aa 3 rfl) ab rfl rfl) (ai (ar (aa 4 rfl) ab rfl rfl) (ai (ar (aa 4 rfl) ab rfl rfl) bg bv) bv) bv) bv) bv) bv)) ?_)
 exact rfl
end
section
variable {P:AD}{w:World}{K:Ap}{mg:Str→Option Value}{base:Heap}
def zT (a b c d e f:Int):U:=
 mv ((a*d - b*c) *d) (-(a*d - b*c) *b) (-(a*d - b*c) *c) ((a*d - b*c) *a) (-((a*d - b*c) *d*e+-(a*d - b*c) *b*f)) (-(-(a*d - b*c) *c*e+(a*d - b*c) *a*f))
def qx:List U→Out→Prop:=fun us o=>∃a b c d e f,us=[mv a b c d e f]∧Mv a b c d e f∧o=.val (zT a b c d e f)
theorem m_ (T:Txt K mg):bF P w K mg base (CXF P w) 4 T.a_way_back T.d_way_back ["move"] (spU K (qx)):=by
 refine bG T.F_way_back cO (fun us o h=>?_) (fun cdv A outer s H E O us o hr h=>?_)
 ·obtain ⟨a,b,c,d,e,f,rfl,M,rfl⟩:=h
  rfl
 obtain ⟨a,b,c,d,e,f,rfl,M,rfl⟩:=h
 refine Ws.nox ?_
 obtain ⟨hd,sa,sb,sc,sd,se,sf⟩:=M
 have M:Mv a b c d e f:=⟨hd,sa,sb,sc,sd,se,sf⟩
 have sh:Sz 8 (a*d - b*c):=by rcases hd with h |h <;>rw[h] <;>decide
 refine ac (lK (aw ((dr T).mono (by decide)) hr rfl T.m_need_move T.F_need_move.kp T.b_need_move aB (ae (aa 0 rfl) ao af) ⟨a,b,c,d,e,f,rfl,M,rfl⟩) ?_)
 refine ac (ax (i:=1) cO.nd rfl (Or.inl rfl) (aw ((ph T).mono (by decide)) hr rfl T.m_hand T.F_hand.kp T.b_hand aB (ae (aa 0 rfl) ao af) ⟨a,b,c,d,e,f,rfl,sa,sb,sc,sd,rfl⟩) ?_)
 refine ac (ax (i:=2) cO.nd rfl (Or.inl rfl) (aK (aa 1 rfl) (ar (aa 0 rfl) ab rfl rfl) (by walk_at "mul")) ?_)
 refine ac (ax (i:=3) cO.nd rfl (Or.inl rfl) (aK (bK (aa 1 rfl)) (ar (aa 0 rfl) ab rfl rfl) (by walk_at "mul")) ?_)
 refine ac (ax (i:=4) cO.nd rfl (Or.inl rfl) (aK (bK (aa 1 rfl)) (ar (aa 0 rfl) ab rfl rfl) (by walk_at "mul")) ?_)
 refine ac (ax (i:=5) cO.nd rfl (Or.inl rfl) (aK (aa 1 rfl) (ar (aa 0 rfl) ab rfl rfl) (by walk_at "mul")) ?_)
 refine ac (bA (bo (ai (aa 2 rfl) (ai (aa 3 rfl) (ai (aa 4 rfl) (ai (aa 5 rfl) (ai (bK (ca (aK (aa 2 rfl) (ar (aa 0 rfl) ab rfl rfl) (by walk_at "mul")) (aK (aa 3 rfl) (ar (aa 0 rfl) ab rfl rfl) (by walk_at "mul")))) (ai (bK (ca (aK (aa 4 rfl) (ar (aa 0 rfl) ab rfl rfl) (by walk_at "mul")) (aK (aa 5 rfl) (ar (aa 0 rfl) ab rfl rfl) (by walk_at "mul")))) bg cC) cC) af) af) af) af)) ?_)
 exact rfl
theorem rh {a b g s t g' s' t':Int} (G:fK a b g s t) (gp:0 < g) (G':fK (a / g) (b / g) g' s' t'):g'=1:=by
 obtain ⟨a',ha⟩:=G.da
 obtain ⟨b',hb⟩:=G.db
 have ea:a / g=a':=by rw[ha,CF _ (by omega)]
 have eb:b / g=b':=by rw[hb,CF _ (by omega)]
 rw[ea,eb] at G'
 have e:=G.eq
 have k1:s*a'+t*b'=1:=by
  have:g*(s*a'+t*b')=g*1:=by rw[ha,hb] at e;grind
  exact BN (by omega) this
 have d:g' ∣ 1:=by rw[←k1];exact E4 (B_ G'.da (CW _ _)) (B_ G'.db (CW _ _))
 have:=Jn (by decide) d
 have h0:=G'.g0
 rcases Fc h0 with h |h
 ·omega
 ·rw[←h] at d;exact absurd (Hy.mp d) (by decide)
theorem qK {x0 y0 x1 y1 g s t:Int} (G:fK (x1 - x0) (y1 - y0) g s t) (h:g=0):x0=x1∧y0=y1:=by
 subst h
 have h1:=Hy.mp G.da
 have h2:=Hy.mp G.db
 omega
structure vV (x0 y0 x1 y1:Int):Prop where
 s0:Sz 3000 x0
 t0:Sz 3000 y0
 s1:Sz 3000 x1
 t1:Sz 3000 y1
def oN:List U→Out→Prop:=fun us o=>∃x0 y0 x1 y1 g s t:Int,us=[pt x0 y0,pt x1 y1]∧vV x0 y0 x1 y1∧fK (x1 - x0) (y1 - y0) g s t∧o=.val (.int g)
theorem ut (T:Txt K mg):bF P w K mg base (CXF P w) 3 T.a_steps T.d_steps ["P","Q"] (spU K (oN)):=by
 refine bG T.F_steps r8 (fun us o h=>?_) (fun cdv A outer s H E O us o hr h=>?_)
 ·obtain ⟨x0,y0,x1,y1,g,s,t,rfl,⟨s0,t0,s1,t1⟩,G,rfl⟩:=h
  rfl
 obtain ⟨x0,y0,x1,y1,g,s,t,rfl,⟨s0,t0,s1,t1⟩,G,rfl⟩:=h
 refine Ws.nox ?_
 refine ac (bA (ar (aw ((j7 T).mono (by decide)) hr rfl T.m_shares T.F_shares.kp T.b_shares aB (ae (bu (ar (aa 1 rfl) ab rfl rfl) (ar (aa 0 rfl) ab rfl rfl)) (ae (bu (ar (aa 1 rfl) ab rfl rfl) (ar (aa 0 rfl) ab rfl rfl)) ao bB) bB) ⟨_,_,g,s,t,rfl,by walk_at "szb",by walk_at "szb",G,rfl⟩) ab rfl rfl) ?_)
 exact rfl
def oa:List U→Out→Prop:=fun us o=>∃x0 y0 x1 y1 g a b s t:Int,us=[pt x0 y0,pt x1 y1]∧vV x0 y0 x1 y1∧fK (x1 - x0) (y1 - y0) g a b∧g≠0∧fK ((x1 - x0) / g) ((y1 - y0) / g) 1 s t∧
  o=.val (mv s t (-((y1 - y0) / g)) ((x1 - x0) / g) (-s*x0 - t*y0) ((y1 - y0) / g*x0 - (x1 - x0) / g*y0))
theorem lP (T:Txt K mg):bF P w K mg base (CXF P w) 4 T.a_level T.d_level ["P","Q"] (spU K (oa)):=by
 refine bG T.F_level dF (fun us o h=>?_) (fun cdv A outer s H E O us o hr h=>?_)
 ·obtain ⟨x0,y0,x1,y1,g,a,b,s,t,rfl,two,G,gn,G1,rfl⟩:=h
  rfl
 obtain ⟨x0,y0,x1,y1,g,a,b,s,t,rfl,two,G,gn,G1,rfl⟩:=h
 refine Ws.nox ?_
 have gp:0 < g:=by have:=G.g0;omega
 obtain ⟨s0,t0,s1,t1⟩:=two
 have two:vV x0 y0 x1 y1:=⟨s0,t0,s1,t1⟩
 have sx:Sz 3001 (x1 - x0):=by walk_at "szb"
 have sy:Sz 3001 (y1 - y0):=by walk_at "szb"
 obtain ⟨sg,_,_⟩:=iY G sx sy
 have su:Sz 3001 ((x1 - x0) / g):=sx.ediv
 have sv:Sz 3001 ((y1 - y0) / g):=sy.ediv
 obtain ⟨_,ss,st⟩:=iY G1 su sv
 refine ac (ax (i:=2) dF.nd rfl (Or.inl rfl) (aw ((ut T).mono (by decide)) hr rfl T.m_steps T.F_steps.kp T.b_steps aB (ae (aa 0 rfl) (ae (aa 1 rfl) ao af) af) ⟨x0,y0,x1,y1,g,a,b,rfl,two,G,rfl⟩) ?_)
 refine ac (cU (bp dX (aa 2 rfl) ab) (decide_eq_false gn) (aU ?_))
 refine ac (ax (i:=3) dF.nd rfl (Or.inl rfl) (dE (bu (ar (aa 1 rfl) ab rfl rfl) (ar (aa 0 rfl) ab rfl rfl)) (aa 2 rfl) ⟨gp,sg.mono (by decide)⟩) ?_)
 refine ac (ax (i:=4) dF.nd rfl (Or.inl rfl) (dE (bu (ar (aa 1 rfl) ab rfl rfl) (ar (aa 0 rfl) ab rfl rfl)) (aa 2 rfl) ⟨gp,sg.mono (by decide)⟩) ?_)
 refine ac (ax (i:=5) dF.nd rfl (Or.inl rfl) (aw ((j7 T).mono (by decide)) hr rfl T.m_shares T.F_shares.kp T.b_shares aB (ae (aa 3 rfl) (ae (aa 4 rfl) ao af) af) ⟨_,_,1,s,t,rfl,su.mono (by decide),sv.mono (by decide),G1,rfl⟩) ?_)
 refine ac (ax (i:=6) dF.nd rfl (Or.inl rfl) (ar (aa 5 rfl) ab rfl rfl) ?_)
 refine ac (ax (i:=7) dF.nd rfl (Or.inl rfl) (ar (aa 5 rfl) ab rfl rfl) ?_)
 refine ac (bA (bo (ai (aa 6 rfl) (ai (aa 7 rfl) (ai (bK (aa 4 rfl)) (ai (aa 3 rfl) (ai (bu (aK (bK (aa 6 rfl)) (ar (aa 0 rfl) ab rfl rfl) (by walk_at "mul")) (aK (aa 7 rfl) (ar (aa 0 rfl) ab rfl rfl) (by walk_at "mul"))) (ai (bu (aK (aa 4 rfl) (ar (aa 0 rfl) ab rfl rfl) (by walk_at "mul")) (aK (aa 3 rfl) (ar (aa 0 rfl) ab rfl rfl) (by walk_at "mul"))) bg bB) bB) af) cC) af) af)) ?_)
 exact rfl
structure LvG (a b:P2) (g u v s t s1 t1:Int):Prop where
 G:fK (b.1 - a.1) (b.2 - a.2) g s1 t1
 gn:g≠0
 hu:u=(b.1 - a.1) / g
 hv:v=(b.2 - a.2) / g
 G1:fK u v 1 s t
theorem wY {a b:P2} (h:a≠b):∃g u v s t s1 t1,LvG a b g u v s t s1 t1:=by
 obtain ⟨g,s1,t1,G⟩:=o5 (b.1 - a.1) (b.2 - a.2)
 have gn:g≠0:=fun e=>h (by
  obtain ⟨h1,h2⟩:=qK G e
  exact CD h1 h2)
 have gp:0 < g:=by have:=G.g0;omega
 obtain ⟨g',s,t,G'⟩:=o5 ((b.1 - a.1) / g) ((b.2 - a.2) / g)
 have:=rh G gp G'
 subst this
 exact ⟨g,_,_,s,t,s1,t1,G,gn,rfl,rfl,G'⟩
end
section
variable {P:AD}{w:World}{K:Ap}{mg:Str→Option Value}{base:Heap}
abbrev Pt:=Int×Int
def plt (p q:Pt):Prop:=p.1 < q.1∨(p.1=q.1∧p.2 < q.2)
def aq (a b p:Pt):Int:=(b.1 - a.1) *(p.2 - a.2) - (b.2 - a.2) *(p.1 - a.1)
theorem cn {a b c:Pt} (h1:plt a b) (h2:plt b c):plt a c:=by unfold plt at *;omega
theorem bD (a:Pt):¬ plt a a:=by unfold plt;omega
theorem kZ (a b:Pt):plt a b∨a=b∨plt b a:=by
 unfold plt
 by_cases h1:a.1=b.1
 ·by_cases h2:a.2=b.2
  ·exact .inr (.inl (CD h1 h2))
  ·omega
 ·omega
def lpos (x y:Int):Prop:=0 < x∨(x=0∧0 < y)
theorem bC {a b:Pt} (h:plt a b):lpos (b.1 - a.1) (b.2 - a.2):=by unfold plt lpos at *;omega
theorem fA {u1 u2 v1 v2 w1 w2:Int} (hu:lpos u1 u2) (hv:lpos v1 v2) (hw:lpos w1 w2) (h1:0≤u1*v2 - u2*v1) (h2:0≤v1*w2 - v2*w1):0≤u1*w2 - u2*w1:=by
 unfold lpos at *
 by_cases hv1:v1=0
 ·subst hv1
  have hv2:0 < v2:=by omega
  have hw1:w1=0:=by
   have:v2*w1≤0:=by rw[EB] at h2;omega
   by_cases hz:0 < w1
   ·have:=Cb hv2 hz;omega
   ·omega
  subst hw1
  have hw2:0 < w2:=by omega
  have:=BX (show 0≤u1 by omega) (show 0≤w2 by omega)
  simp;omega
 ·have hv':0 < v1:=by omega
  have e:v1*(u1*w2 - u2*w1)=u1*(v1*w2 - v2*w1)+w1*(u1*v2 - u2*v1):=by grind
  have p1:=BX (show 0≤u1 by omega) h2
  have p2:=BX (show 0≤w1 by omega) h1
  have:0≤v1*(u1*w2 - u2*w1):=by omega
  exact Int.nonneg_of_mul_nonneg_right this hv'
theorem ju {u1 u2 v1 v2 w1 w2:Int} (hu:lpos u1 u2) (hv:lpos v1 v2) (hw:lpos w1 w2) (h1:0 < u1*v2 - u2*v1) (h2:0≤v1*w2 - v2*w1):0 < u1*w2 - u2*w1:=by
 unfold lpos at *
 by_cases hv1:v1=0
 ·subst hv1
  have hv2:0 < v2:=by omega
  have hw1:w1=0:=by
   have:v2*w1≤0:=by rw[EB] at h2;omega
   by_cases hz:0 < w1
   ·have:=Cb hv2 hz;omega
   ·omega
  subst hw1
  have hw2:0 < w2:=by omega
  have hu1:0 < u1:=by
   rcases hu with h |⟨h,_⟩
   ·exact h
   ·subst h;simp at h1
  have:=Cb hu1 hw2
  simp;omega
 ·have hv':0 < v1:=by omega
  have e:v1*(u1*w2 - u2*w1)=u1*(v1*w2 - v2*w1)+w1*(u1*v2 - u2*v1):=by grind
  have p1:=BX (show 0≤u1 by omega) h2
  by_cases hw1:w1=0
  ·subst hw1
   have hw2:0 < w2:=by omega
   have hu1:0 < u1:=by
    rcases hu with h |⟨h,h'⟩
    ·exact h
    ·subst h
     have:=Cb h' hv'
     simp at h1;omega
   have:=Cb hu1 hw2
   simp;omega
  ·have p2:=Cb (show 0 < w1 by omega) h1
   have:0 < v1*(u1*w2 - u2*w1):=by omega
   exact D3 this (by omega)
def kG:List Pt→Prop
 |b::a::r=>plt a b∧kG (a::r)
 |_=>True
def Turns:List Pt→Prop
 |c::b::a::r=>0 < aq a b c∧Turns (b::a::r)
 |_=>True
def gl (done:List Pt):List Pt→Prop
 |b::a::r=>(∀q∈done,0≤aq a b q)∧gl done (a::r)
 |_=>True
theorem Turns.tail:∀{b:Pt}{st:List Pt},Turns (b::st)→Turns st
 |_,[],_=>trivial
 |_,[_],_=>trivial
 |_,_::_::_,h=>h.2
theorem kG.tail:∀{b:Pt}{st:List Pt},kG (b::st)→kG st
 |_,[],_=>trivial
 |_,_::_,h=>h.2
theorem gl.tail {done:List Pt}:∀{b:Pt}{st:List Pt},gl done (b::st)→gl done st
 |_,[],_=>trivial
 |_,_::_,h=>h.2
def a_ (P:Pt):List Pt→List Pt
 |b::a::r=>if aq a b P≤0 then a_ P (a::r) else b::a::r
 |st=>st
def aj (row:List Pt):List Pt:=row.foldl (fun st P=>P::a_ P st) []
structure Kept (done st:List Pt):Prop where
 ne:st≠[]
 desc:kG st
 turns:Turns st
 cover:gl done st
 sub:∀p∈st,p∈done
structure qY (done st:List Pt) (P:Pt):Prop extends Kept done st where
 pend:∀h r,st=h::r→∀q∈done,plt h q→0≤aq h P q
theorem qh {done:List Pt}{P b a:Pt}{r:List Pt} (hP:∀q∈done,plt q P) (D:qY done (b::a::r) P) (h:aq a b P≤0):qY done (a::r) P:=by
 refine ⟨⟨by simp,D.desc.tail,D.turns.tail,D.cover.tail,fun p hp=>D.sub p (Aw _ hp)⟩,?_⟩
 intro h' r' e q hq hlt
 cases e
 have hab:=D.desc.1
 have hq':=D.cover.1 q hq
 have hbP:=hP b (D.sub b AF)
 have hqP:=hP q hq
 rcases kZ q b with z |z |z
 ·have l1:=bC hlt
  have l2:=bC hab
  have l3:=bC (cn hab hbP)
  have:=fA (u1:=P.1 - a.1) (u2:=P.2 - a.2) (v1:=b.1 - a.1) (v2:=b.2 - a.2) (w1:=q.1 - a.1) (w2:=q.2 - a.2) l3 l2 l1 (by unfold aq at h;grind) (by unfold aq at hq';grind)
  unfold aq;grind
 ·subst z;unfold aq at *;grind
 ·have p:=D.pend b _ rfl q hq z
  unfold aq at *
  grind
theorem lZ {done:List Pt}{P:Pt} (hP:∀q∈done,plt q P):∀st:List Pt,qY done st P→qY done (a_ P st) P∧(∀b a r,a_ P st=b::a::r→0 < aq a b P)∧(st.getLast?=(a_ P st).getLast?)
 |[],D=>absurd rfl D.ne
 |[b],D=>⟨D,fun _ _ _ e=>by simp[a_] at e,rfl⟩
 |b::a::r,D=>by
  by_cases h:aq a b P≤0
  ·rw[a_,if_pos h]
   obtain ⟨h1,h2,h3⟩:=lZ hP (a::r) (qh hP D h)
   exact ⟨h1,h2,by rw[←h3];simp⟩
  ·rw[a_,if_neg h]
   refine ⟨D,fun b' a' r' e=>?_,rfl⟩
   cases e;omega
theorem qj {done st:List Pt}{P:Pt} (hP:∀q∈done,plt q P) (D:qY done st P) (ht:∀b a r,st=b::a::r→0 < aq a b P) (hmin:∀x,st=[x]→∀q∈done,q=x∨plt x q):Kept (done++[P]) (P::st):=by
 have up:∀(b:Pt) (r:List Pt),kG (b::r)→Turns (b::r)→gl done (b::r)→plt b P→(∀a r',r=a::r'→0≤aq a b P)→gl (done++[P]) (b::r):=by
  intro b r
  induction r generalizing b with
  |nil=>intro _ _ _ _ _;trivial
  |cons a r ih=>
   intro hd htn hc hbP hl
   refine ⟨fun q hq=>?_,?_⟩
   ·rcases B4.mp hq with z |z
    ·exact hc.1 q z
    ·rw[BA.mp z];exact hl a r rfl
   ·refine ih a hd.tail htn.tail hc.tail (cn hd.1 hbP) (fun c r' e=>?_)
    subst e
    have t:=htn.1
    have g:=hl a _ rfl
    have l1:=bC hd.2.1
    have l2:=bC hd.1
    have l3:=bC (cn hd.1 hbP)
    have:=fA (u1:=a.1 - c.1) (u2:=a.2 - c.2) (v1:=b.1 - a.1) (v2:=b.2 - a.2) (w1:=P.1 - a.1) (w2:=P.2 - a.2) l1 l2 l3 (by unfold aq at t;grind) (by unfold aq at g;grind)
    unfold aq;grind
 obtain ⟨h,r,e⟩:∃h r,st=h::r:=by
  cases hst:st with
  |nil=>exact absurd hst D.ne
  |cons h r=>exact ⟨h,r,rfl⟩
 subst e
 have hhP:=hP h (D.sub h AF)
 refine ⟨by simp,⟨hhP,D.desc⟩,?_,⟨fun q hq=>?_,?_⟩,fun p hp=>?_⟩
 ·cases r with
  |nil=>trivial
  |cons a r'=>exact ⟨ht h a r' rfl,D.turns⟩
 ·rcases B4.mp hq with z |z
  ·rcases kZ q h with y |y |y
   ·cases r with
    |nil=>
     rcases hmin h rfl q z with w |w
     ·subst w;exact absurd y (bD _)
     ·exact absurd (cn y w) (bD _)
    |cons a r'=>
     have t:=ht h a r' rfl
     have c:=D.cover.1 q z
     have l1:=bC D.desc.1
     have l2:=bC y
     have l3:=bC hhP
     have:=fA (u1:=h.1 - q.1) (u2:=h.2 - q.2) (v1:=h.1 - a.1) (v2:=h.2 - a.2) (w1:=P.1 - h.1) (w2:=P.2 - h.2) l2 l1 l3 (by unfold aq at c;grind) (by unfold aq at t;grind)
     unfold aq;grind
   ·subst y;unfold aq;grind
   ·exact D.pend h r rfl q z y
  ·rw[BA.mp z];unfold aq;grind
 ·exact up h r D.desc D.turns D.cover hhP (fun a r' e=>Int.le_of_lt (ht h a r' (by rw[e])))
 ·rcases AB.mp hp with z |z
  ·subst z;exact AH _ AF
  ·exact Bu _ (D.sub p z)
theorem jC (row:List Pt) (P:Pt):aj (row++[P])=P::a_ P (aj row):=by
 unfold aj;rw[List.foldl_append];rfl
theorem jf {row:List Pt} (hs:row.Pairwise plt):∀n,0 < n→n≤row.length→Kept (row.take n) (aj (row.take n))∧(aj (row.take n)).getLast?=row.head?∧(aj (row.take n)).head?=row[n - 1]?
 |0,h,_=>absurd h (by decide)
 |1,_,h=>by
  cases row with
  |nil=>simp at h
  |cons a r=>
   simp only[GO,GF]
   exact ⟨⟨by simp[aj],trivial,trivial,trivial,fun p hp=>by simpa [aj,a_] using hp⟩,rfl,rfl⟩
 |n+2,_,h=>by
  obtain ⟨K,hl,hh⟩:=jf hs (n+1) (by omega) (by omega)
  have hn:n+1 < row.length:=by omega
  have et:row.take (n+2)=row.take (n+1)++[row[n+1]]:=by rw[List.take_succ_eq_append_getElem hn]
  have hP:∀q∈row.take (n+1),plt q row[n+1]:=fun q hq=>by
   obtain ⟨i,hi,e⟩:=DO.mp hq
   subst e
   exact A8.mp hs i (n+1) (by omega) hn (by omega)
  have D:qY (row.take (n+1)) (aj (row.take (n+1))) row[n+1]:=⟨K,fun h' r e q hq hlt=>by
   exfalso
   rw[e] at hh
   simp only[Ik,Hb] at hh
   have hn':n < row.length:=by omega
   rw[An hn'] at hh
   have hh':=Bo hh
   obtain ⟨i,hi,e2⟩:=DO.mp hq
   subst e2
   rw[hh'] at hlt
   rcases CB i n with z |z
   ·exact bD _ (cn hlt (A8.mp hs i n (by omega) hn' z))
   ·have:i=n:=by omega
    subst this
    exact bD _ hlt⟩
  obtain ⟨D2,ht,hlast⟩:=lZ hP _ D
  rw[et,jC]
  refine ⟨qj hP D2 ht (fun x e q hq=>?_),?_,?_⟩
  ·rw[e,hl] at hlast
   simp at hlast
   obtain ⟨i,hi,e2⟩:=DO.mp hq
   have h0:0 < row.length:=by omega
   have e3:row[0]=x:=by
    rw[Ds,An h0] at hlast
    exact Bo hlast
   subst e2
   rcases E_ i with z |z
   ·subst z;exact .inl e3
   ·right;rw[←e3];exact A8.mp hs 0 i h0 (by omega) z
  ·rw[List.getLast?_cons,←hlast,hl]
   cases row with
   |nil=>simp at hn
   |cons a r=>rfl
  ·simp only[Ik,Hb]
   rw[show n+2 - 1=n+1 by omega,An hn]
theorem cA {row:List Pt} (hs:row.Pairwise plt) (h:row≠[]):Kept row (aj row)∧(aj row).getLast?=row.head?∧(aj row).head?=row.getLast?:=by
 have h0:0 < row.length:=DU.mpr h
 obtain ⟨h1,h2,h3⟩:=jf hs row.length h0 (Ay _)
 rw[Dm] at h1 h2 h3
 exact ⟨h1,h2,by rw[h3,B8]⟩
theorem iM {u1 u2 v1 v2 w1 w2:Int} (hu:lpos u1 u2) (hv:lpos v1 v2) (hw:lpos w1 w2) (h1:0≤u1*v2 - u2*v1) (h2:0 < v1*w2 - v2*w1):0 < u1*w2 - u2*w1:=by
 unfold lpos at *
 by_cases hv1:v1=0
 ·subst hv1
  have hv2:0 < v2:=by omega
  have:=BX (show 0≤v2 by omega) (show 0≤w1 by omega)
  simp at h2;omega
 ·have hv':0 < v1:=by omega
  have hu1:0 < u1:=by
   rcases hu with h |⟨h,h'⟩
   ·exact h
   ·subst h
    have:=Cb h' hv'
    simp at h1;omega
  have e:v1*(u1*w2 - u2*w1)=u1*(v1*w2 - v2*w1)+w1*(u1*v2 - u2*v1):=by grind
  have p1:=Cb hu1 h2
  have p2:=BX (show 0≤w1 by omega) h1
  have q:0 < v1*(u1*w2 - u2*w1):=by omega
  exact D3 q hv'
def low (row:List Pt) (p:Pt):Prop:=∀a∈row,∀b∈row,plt a p→plt p b→0 < aq a p b
theorem wF {row:List Pt}{p:Pt}:∀(st:List Pt) (n:Pt),kG (n::st)→Turns (n::st)→gl row (n::st)→p∈st→(∀l,(n::st).getLast?=some l→plt l p)→
  ∃n' q,0 < aq q p n'∧plt q p∧plt p n'∧(∀x∈row,0≤aq p n' x)∧(∀x∈row,0≤aq q p x)
 |[],n,_,_,_,hp,_=>by simp at hp
 |h::r,n,D,T,C,hp,hl=>by
  by_cases e:h=p
  ·subst e
   cases r with
   |nil=>exact absurd (hl h (by simp)) (bD h)
   |cons q r'=>exact ⟨n,q,T.1,D.2.1,D.1,C.1,C.2.1⟩
  ·have hp':p∈r:=by
    rcases AB.mp hp with z |z
    ·exact absurd z.symm e
    ·exact z
   exact wF r h D.tail T.tail C.tail hp' (fun l hl'=>hl l (by rw[Dk];exact hl'))
theorem lG {row:List Pt} (hs:row.Pairwise plt) {p:Pt} (hp:p∈aj row):low row p:=by
 intro a ha b hb hap hpb
 have hne:row≠[]:=fun z=>by rw[z] at ha;simp at ha
 obtain ⟨K,hlast,hhead⟩:=cA hs hne
 have mn:∀x∈row,∀m,row.head?=some m→x=m∨plt m x:=fun x hx m hm=>by
  cases row with
  |nil=>simp at hx
  |cons y r=>
   cases hm
   rcases AB.mp hx with z |z
   ·exact .inl z
   ·exact .inr ((Bl.mp hs).1 x z)
 have mx:∀x∈row,∀m,row.getLast?=some m→x=m∨plt x m:=fun x hx m hm=>by
  obtain ⟨i,hi⟩:=BH.mp hx
  have hil:=(AG.mp hi).1
  rw[B8] at hm
  have hml:=(AG.mp hm).1
  rcases A6 (show i≤row.length - 1 by omega) with z |z
  ·right
   have h1:=A8.mp hs i (row.length - 1) hil hml z
   rw[(AG.mp hi).2,(AG.mp hm).2] at h1
   exact h1
  ·left;rw[z,hm] at hi;exact (Bo hi).symm
 cases hst:aj row with
 |nil=>exact absurd hst K.ne
 |cons n st=>
  rw[hst] at K hlast hhead hp
  have hn:row.getLast?=some n:=by rw[←hhead];rfl
  have hpn:p∈st:=by
   rcases AB.mp hp with z |z
   ·rcases mx b hb n hn with y |y
    ·rw[y,←z] at hpb;exact absurd hpb (bD p)
    ·rw[z] at hpb;exact absurd (cn hpb y) (bD n)
   ·exact z
  obtain ⟨n',q,t,qp,pn,c1,c2⟩:=wF st n K.desc K.turns K.cover hpn (fun l hl=>by
   rw[hlast] at hl
   rcases mn a ha l hl with y |y
   ·rw[←y];exact hap
   ·exact cn y hap)
  have g1:=c2 a ha
  have g2:=c1 b hb
  unfold aq at *
  have k1:0≤(p.1 - a.1) *(p.2 - q.2) - (p.2 - a.2) *(p.1 - q.1):=by grind
  have k2:0 < (p.1 - q.1) *(n'.2 - p.2) - (p.2 - q.2) *(n'.1 - p.1):=by grind
  have k3:0≤(n'.1 - p.1) *(b.2 - p.2) - (n'.2 - p.2) *(b.1 - p.1):=by grind
  have k4:=ju (bC qp) (bC pn) (bC hpb) k2 k3
  have k5:=iM (bC hap) (bC qp) (bC hpb) k1 k4
  grind
theorem rR {row:List Pt}{p:Pt}:∀(st:List Pt) (h:Pt),kG (h::st)→gl row (h::st)→p∈row→p ∉ h::st→plt p h→(∀l,(h::st).getLast?=some l→plt l p)→∃a∈h::st,∃b∈h::st,plt a p∧plt p b∧0≤aq a b p
 |[],h,_,_,_,_,hp,hl=>absurd (cn hp (hl h (by simp))) (bD p)
 |a::r,h,D,C,hr,hno,hp,hl=>by
  rcases kZ p a with z |z |z
  ·obtain ⟨x,hx,y,hy,k⟩:=rR r a D.tail C.tail hr (fun w=>hno (Aw _ w)) z (fun l hl'=>hl l (by rw[Dk];exact hl'))
   exact ⟨x,Aw _ hx,y,Aw _ hy,k⟩
  ·exact absurd (by rw[z];simp) hno
  ·exact ⟨a,by simp,h,by simp,z,hp,C.1 p hr⟩
theorem gap {row:List Pt} (hs:row.Pairwise plt) {p:Pt} (hp:p∈row) (hno:p ∉ aj row):∃a∈aj row,∃b∈aj row,plt a p∧plt p b∧aq a p b≤0:=by
 have hne:row≠[]:=fun z=>by rw[z] at hp;simp at hp
 obtain ⟨K,hlast,hhead⟩:=cA hs hne
 cases hst:aj row with
 |nil=>exact absurd hst K.ne
 |cons n st=>
  rw[hst] at K hlast hhead hno
  have hn:row.getLast?=some n:=by rw[←hhead];rfl
  have pn:plt p n:=by
   obtain ⟨i,hi⟩:=BH.mp hp
   have hil:=(AG.mp hi).1
   rw[B8] at hn
   have hml:=(AG.mp hn).1
   rcases A6 (show i≤row.length - 1 by omega) with z |z
   ·have h1:=A8.mp hs i (row.length - 1) hil hml z
    rw[(AG.mp hi).2,(AG.mp hn).2] at h1
    exact h1
   ·rw[z,hn] at hi;exact absurd (by rw[←Bo hi];simp) hno
  obtain ⟨a,ha,b,hb,k1,k2,k3⟩:=rR st n K.desc K.cover hp hno pn (fun l hl=>by
   have hl':=hl
   rw[hlast] at hl
   cases row with
   |nil=>simp at hp
   |cons y r=>
    cases hl
    rcases AB.mp hp with z |z
    ·exact absurd (by rw[z];exact DJ hl') hno
    ·exact (Bl.mp hs).1 p z)
  refine ⟨a,ha,b,hb,k1,k2,?_⟩
  unfold aq at *
  grind
theorem qu {row row':List Pt} (hs:row.Pairwise plt) (hs':row'.Pairwise plt) (h1:∀p∈row',p∈row) (h2:∀p∈aj row,p∈row') (sub:∀(r:List Pt) (q:Pt),q∈aj r→q∈r) (p:Pt):p∈aj row'↔p∈aj row:=by
 constructor
 ·intro hp
  refine B6 fun hno=>?_
  obtain ⟨a,ha,b,hb,k1,k2,k3⟩:=gap hs (h1 p (sub _ _ hp)) hno
  have:=lG hs' hp a (h2 a ha) b (h2 b hb) k1 k2
  omega
 ·intro hp
  refine B6 fun hno=>?_
  obtain ⟨a,ha,b,hb,k1,k2,k3⟩:=gap hs' (h2 p hp) hno
  have:=lG hs hp a (h1 a (sub _ _ ha)) b (h1 b (sub _ _ hb)) k1 k2
  omega
abbrev Szp (m:Nat) (p:P2):Prop:=Sz m p.1∧Sz m p.2
theorem wd (b:P2) (r:List P2):atI ((b::r).reverse.map pu) (-1)=some (pu b):=by
 have h:ixN ((b::r).reverse.map pu).length (-1)=some r.length:=by
  unfold ixN
  simp
  omega
 unfold atI
 rw[h]
 simp
theorem wP (b a:P2) (r:List P2):atI ((b::a::r).reverse.map pu) (-2)=some (pu a):=by
 have h:ixN ((b::a::r).reverse.map pu).length (-2)=some r.length:=by
  unfold ixN
  simp
  omega
 unfold atI
 rw[h]
 simp
theorem iR (P:P2):∀st:List P2,(a_ P st).length≤st.length
 |[]=>Ay _
 |[_]=>Ay _
 |b::a::r=>by
  unfold a_
  split
  ·have:=iR P (a::r);simp only[A_] at *;omega
  ·exact Ay _
theorem pS (P:P2):∀(st:List P2) (q:P2),q∈a_ P st→q∈st
 |[],_,h=>h
 |[_],_,h=>h
 |b::a::r,q,h=>by
  unfold a_ at h
  split at h
  ·exact Aw _ (pS P (a::r) q h)
  ·exact h
theorem ff {row:List P2}{i:Nat}{P:P2} (h:row[i]?=some P):aj (row.take (i+1))=P::a_ P (aj (row.take i)):=by
 rw[DL,h];exact jC _ _
theorem fP (row:List P2):∀i,(aj (row.take i)).length≤i
 |0=>by simp[aj]
 |i+1=>by
  have ih:=fP row i
  cases h:row[i]? with
  |none=>rw[DL,h];simp;omega
  |some P=>
   rw[ff h]
   have:=iR P (aj (row.take i))
   simp only[A_];omega
theorem eX (row:List P2):∀i q,q∈aj (row.take i)→q∈row
 |0,q,h=>by simp[aj] at h
 |i+1,q,h=>by
  cases hi:row[i]? with
  |none=>rw[DL,hi] at h;exact eX row i q (by simpa using h)
  |some P=>
   rw[ff hi] at h
   rcases AB.mp h with e |e
   ·rw[e];exact AO hi
   ·exact eX row i q (pS P _ q e)
theorem rE (n:Int):decide (sgn n < 1)=decide (n≤0):=by
 have h:sgn n < 1↔n≤0:=by
  unfold sgn
  split
  ·omega
  ·split <;>omega
 exact decide_eq_decide.mpr h
theorem gE (l:List P2):fi (l.map pu) none (some (-1))=l.dropLast.map pu:=by
 unfold fi HT.sIx
 rw[Fu,List.dropLast_eq_take]
 simp
 try omega
def ak (pts:List P2):List P2:=if (ST.srt pts).length=1 then ST.srt pts else (aj (ST.srt pts)).reverse.dropLast++(aj (ST.srt pts).reverse).reverse.dropLast
theorem lN (a b:Pt):plt a b↔ST.ltP a b=true:=by unfold plt ST.ltP;simp
theorem gP {l:List Pt}:ST.Asc l↔l.Pairwise plt:=⟨fun h=>h.imp fun {a b} k=>(lN a b).mpr k,fun h=>h.imp fun {a b} k=>(lN a b).mp k⟩
theorem kh:∀{st:List Pt},kG st→st.Pairwise (fun x y=>plt y x)
 |[],_=>DD
 |[_],_=>by simp
 |b::a::r,h=>by
  have ih:=kh h.2
  refine Bl.mpr ⟨fun x hx=>?_,ih⟩
  rcases AB.mp hx with z |z
  ·rw[z];exact h.1
  ·exact cn ((Bl.mp ih).1 x z) h.1
theorem cj (row:List Pt) (q:Pt) (h:q∈aj row):q∈row:=by
 have:=eX row row.length q
 rw[Dm] at this
 exact this h
theorem dz {row:List Pt} (hs:row.Pairwise plt):ST.Asc (aj row).reverse:=by
 by_cases hne:row=[]
 ·subst hne;exact DD
 ·exact gP.mpr (ED.mpr (kh (cA hs hne).1.desc))
theorem ml {row row':List Pt} (hs:row.Pairwise plt) (hs':row'.Pairwise plt) (h1:∀p∈row',p∈row) (h2:∀p∈aj row,p∈row'):aj row'=aj row:=by
 have e:=ST.asc_one (dz hs') (dz hs) fun z=>by
  rw[AN,AN]
  exact qu hs hs' h1 h2 cj z
 exact List.reverse_inj.mp e
def ng (p:Pt):Pt:=(-p.1,-p.2)
theorem gs (p:Pt):ng (ng p)=p:=by unfold ng;simp
theorem xO (l:List Pt):(l.map ng).map ng=l:=by
 rw[Bf,show ng ∘ ng=id from funext gs,List.map_id]
theorem jF (a b c:Pt):aq (ng a) (ng b) (ng c)=aq a b c:=by unfold aq ng;grind
theorem jc {a b:Pt} (h:plt a b):plt (ng b) (ng a):=by unfold plt ng at *;simp;omega
theorem uf (P:Pt):∀st:List Pt,a_ (ng P) (st.map ng)=(a_ P st).map ng
 |[]=>rfl
 |[_]=>rfl
 |b::a::r=>by
  show a_ (ng P) (ng b::ng a::r.map ng)=_
  unfold a_
  rw[jF]
  split
  ·exact uf P (a::r)
  ·rfl
theorem fF:∀row:List Pt,aj (row.map ng)=(aj row).map ng:=fun row=>by
 have key:∀(l:List Pt) (st:List Pt),(l.map ng).foldl (fun st P=>P::a_ P st) (st.map ng)=(l.foldl (fun st P=>P::a_ P st) st).map ng:=by
  intro l
  induction l with
  |nil=>intro st;rfl
  |cons p r ih=>
   intro st
   rw[Bz,D9,D9,uf]
   exact ih (p::a_ p st)
 exact key row []
theorem cR {row:List Pt} (hs:row.Pairwise plt):(row.reverse.map ng).Pairwise plt:=by
 rw[BD,ED]
 exact hs.imp fun {a b} h=>jc h
theorem bR (row:List Pt):aj row.reverse=(aj (row.reverse.map ng)).map ng:=by rw[fF,xO]
theorem kC {row row':List Pt} (hs:row.Pairwise plt) (hs':row'.Pairwise plt) (h1:∀p∈row',p∈row) (h2:∀p∈aj row.reverse,p∈row'):aj row'.reverse=aj row.reverse:=by
 rw[bR row,bR row']
 congr 1
 refine ml (cR hs) (cR hs') (fun p hp=>?_) (fun p hp=>?_)
 ·obtain ⟨q,hq,rfl⟩:=Az.mp hp
  exact Az.mpr ⟨q,AN.mpr (h1 q (AN.mp hq)),rfl⟩
 ·rw[fF] at hp
  obtain ⟨q,hq,rfl⟩:=Az.mp hp
  exact Az.mpr ⟨q,AN.mpr (h2 q hq),rfl⟩
theorem ends {row:List Pt} (hs:row.Pairwise plt) (h2:2≤row.length):∃mn mx t1 t2,aj row=mx::t1∧aj row.reverse=mn::t2∧mn∈t1∧mx∈t2∧(∀p∈row,p=mn∨plt mn p)∧(∀p∈row,p=mx∨plt p mx)∧mn∈row∧mx∈row:=by
 have hne:row≠[]:=fun z=>by rw[z] at h2;simp at h2
 obtain ⟨K,hl,hh⟩:=cA hs hne
 have hneR:row.reverse.map ng≠[]:=by simpa using hne
 obtain ⟨KR,hlR,hhR⟩:=cA (cR hs) hneR
 have e1:row.head?=some row[0]:=by rw[Ds];exact An (by omega)
 have e2:row.getLast?=some row[row.length - 1]:=by rw[B8];exact An (by omega)
 have l01:plt row[0] row[row.length - 1]:=A8.mp hs 0 (row.length - 1) (by omega) (by omega) (by omega)
 have mnA:∀p∈row,p=row[0]∨plt row[0] p:=fun p hp=>by
  obtain ⟨i,hi,rfl⟩:=EM.mp hp
  rcases E_ i with z |z
  ·left;subst z;rfl
  ·right;exact A8.mp hs 0 i (by omega) hi z
 have mxA:∀p∈row,p=row[row.length - 1]∨plt p row[row.length - 1]:=fun p hp=>by
  obtain ⟨i,hi,rfl⟩:=EM.mp hp
  rcases A6 (show i≤row.length - 1 by omega) with z |z
  ·right;exact A8.mp hs i (row.length - 1) hi (by omega) z
  ·left;subst z;rfl
 have ne:row[0]≠row[row.length - 1]:=fun z=>by rw[z] at l01;exact bD _ l01
 generalize row[0]=mn at *
 generalize row[row.length - 1]=mx at *
 have mmn:mn∈row:=List.mem_of_head? e1
 have mmx:mx∈row:=DJ e2
 rw[e1] at hl
 rw[e2] at hh
 have hlR':(aj row.reverse).getLast?=some mx:=by
  rw[bR,En,hlR,Fk,Hc,e2];simp[gs]
 have hhR':(aj row.reverse).head?=some mn:=by
  rw[bR,Fk,hhR,En,EE,e1];simp[gs]
 cases hb:aj row with
 |nil=>rw[hb] at hh;cases hh
 |cons x t1=>
  rw[hb] at hh hl
  cases hh
  cases hbR:aj row.reverse with
  |nil=>rw[hbR] at hhR';cases hhR'
  |cons y t2=>
   rw[hbR] at hhR' hlR'
   cases hhR'
   refine ⟨_,_,t1,t2,rfl,rfl,?_,?_,mnA,mxA,mmn,mmx⟩
   ·cases t1 with
    |nil=>simp at hl;exact absurd hl.symm ne
    |cons z r=>rw[Dk] at hl;exact DJ hl
   ·cases t2 with
    |nil=>simp at hlR';exact absurd hlR' ne
    |cons z r=>rw[Dk] at hlR';exact DJ hlR'
theorem rF (st:List Pt):st.reverse.dropLast=st.tail.reverse:=by
 cases st with
 |nil=>rfl
 |cons h t=>simp
theorem fQ {l:List Pt}:l.reverse.Nodup↔l.Nodup:=by
 unfold List.Nodup
 rw[ED]
 exact ⟨fun h=>h.imp fun k=>Ne.symm k,fun h=>h.imp fun k=>Ne.symm k⟩
theorem ir:∀{l m:List Pt},l.Nodup→(∀x∈l,x∈m)→l.length≤m.length
 |[],_,_,_=>Bh _
 |x::l,m,h,hs=>by
  obtain ⟨h1,h2⟩:=Ce.mp h
  have hx:x∈m:=hs x AF
  have ih:=ir (m:=m.erase x) h2 fun y hy=>(DH (fun e=>h1 (by rw[←e];exact hy))).mpr (hs y (Aw _ hy))
  rw[Dg hx] at ih
  have:=Cr hx
  simp only[A_];omega
theorem dN (pts:List Pt):(ST.srt pts).Pairwise plt:=gP.mp (ST.srt_asc pts)
theorem fz {pts:List Pt} (h:2≤(ST.srt pts).length):ak pts=(aj (ST.srt pts)).tail.reverse++(aj (ST.srt pts).reverse).tail.reverse:=by
 unfold ak;rw[if_neg (by omega),rF,rF]
theorem uW {pts:List Pt} (h:pts≠[]):ak pts≠[]:=by
 have hs:ST.srt pts≠[]:=fun z=>by
  obtain ⟨p,r,rfl⟩:=List.exists_cons_of_ne_nil h
  have:=(ST.srt_mem p (p::r)).mpr AF
  rw[z] at this;simp at this
 by_cases h1:(ST.srt pts).length=1
 ·unfold ak;rw[if_pos h1];exact hs
 ·have h2:2≤(ST.srt pts).length:=by have:=DU.mpr hs;omega
  obtain ⟨mn,mx,t1,t2,e1,e2,m1,m2,_⟩:=ends (dN pts) h2
  rw[fz h2,e1,e2]
  intro z
  have:t1.reverse=[]:=(List.append_eq_nil_iff.mp z).1
  rw[List.reverse_eq_nil_iff.mp this] at m1
  simp at m1
theorem cg (pts:List Pt):(ak pts).Nodup:=by
 have nd:∀{l:List Pt},l.Pairwise plt→l.Nodup:=fun h=>h.imp fun {a b} k e=>by rw[e] at k;exact bD b k
 by_cases h2:2≤(ST.srt pts).length
 ·have hs:=dN pts
  obtain ⟨mn,mx,t1,t2,e1,e2,m1,m2,hmn,hmx,i1,i2⟩:=ends hs h2
  have n1:(mx::t1).Nodup:=by rw[←e1];exact fQ.mp (nd (gP.mp (dz hs)))
  have n2:(mn::t2).Nodup:=by
   rw[←e2,bR]
   have:=fQ.mp (nd (gP.mp (dz (cR hs))))
   refine BD.mpr (this.imp fun {a b} hab e=>hab ?_)
   rw[←gs a,e,gs]
  obtain ⟨x1,y1⟩:=Ce.mp n1
  obtain ⟨x2,y2⟩:=Ce.mp n2
  rw[fz h2,e1,e2,C9,C9,Em]
  refine ⟨fQ.mpr y1,fQ.mpr y2,fun p hp q hq=>?_⟩
  rintro rfl
  have p1:p∈t1:=AN.mp hp
  have p2:p∈t2:=AN.mp hq
  have b1:p∈aj (ST.srt pts):=by rw[e1];exact Aw _ p1
  have b2:p∈aj (ST.srt pts).reverse:=by rw[e2];exact Aw _ p2
  have pr:=cj _ _ b1
  have l1:plt mn p:=(hmn p pr).resolve_left fun e=>x2 (by rw[←e];exact p2)
  have l2:plt p mx:=(hmx p pr).resolve_left fun e=>x1 (by rw[←e];exact p1)
  have d1:=lG hs b1 mn i1 mx i2 l1 l2
  have b3:ng p∈aj ((ST.srt pts).reverse.map ng):=by rw[fF];exact Az.mpr ⟨p,b2,rfl⟩
  have d2:=lG (cR hs) b3 (ng mx) (Az.mpr ⟨mx,AN.mpr i2,rfl⟩) (ng mn) (Az.mpr ⟨mn,AN.mpr i1,rfl⟩) (jc l2) (jc l1)
  rw[jF] at d2
  unfold aq at d1 d2
  grind
 ·unfold ak
  split
  ·exact nd (dN pts)
  ·have e:ST.srt pts=[]:=Cf.mp (by omega)
   rw[e];exact List.nodup_nil
theorem cF (pts:List Pt):∀p∈ak pts,p∈pts:=fun p hp=>by
 unfold ak at hp
 split at hp
 ·exact (ST.srt_mem p pts).mp hp
 ·rcases B4.mp hp with h |h
  ·exact (ST.srt_mem p pts).mp (cj _ _ (AN.mp (GB _ h)))
  ·exact (ST.srt_mem p pts).mp (AN.mp (cj _ _ (AN.mp (GB _ h))))
theorem ig (pts:List Pt):ak (ak pts)=ak pts:=by
 by_cases h2:2≤(ST.srt pts).length
 ·have hs:=dN pts
  obtain ⟨mn,mx,t1,t2,e1,e2,m1,m2,hmn,hmx,i1,i2⟩:=ends hs h2
  have ec:=fz h2
  have mem1:∀p∈aj (ST.srt pts),p∈ak pts:=fun p hp=>by
   rw[ec,e1,e2,C9,C9]
   rw[e1] at hp
   rcases AB.mp hp with z |z
   ·rw[z];exact AH _ (AN.mpr m2)
   ·exact Bu _ (AN.mpr z)
  have mem2:∀p∈aj (ST.srt pts).reverse,p∈ak pts:=fun p hp=>by
   rw[ec,e1,e2,C9,C9]
   rw[e2] at hp
   rcases AB.mp hp with z |z
   ·rw[z];exact Bu _ (AN.mpr m1)
   ·exact AH _ (AN.mpr z)
  have hs':=dN (ak pts)
  have sub:∀p∈ST.srt (ak pts),p∈ST.srt pts:=fun p hp=>(ST.srt_mem p pts).mpr (cF pts p ((ST.srt_mem p _).mp hp))
  have q1:=ml hs hs' sub fun p hp=>(ST.srt_mem p _).mpr (mem1 p hp)
  have q2:=kC hs hs' sub fun p hp=>(ST.srt_mem p _).mpr (mem2 p hp)
  have len:2≤(ST.srt (ak pts)).length:=by
   have a1:mn∈ST.srt (ak pts):=(ST.srt_mem _ _).mpr (mem1 mn (by rw[e1];exact Aw _ m1))
   have a2:mx∈ST.srt (ak pts):=(ST.srt_mem _ _).mpr (mem1 mx (by rw[e1];exact AF))
   have ne:mn≠mx:=fun z=>by
    have nd:=cg pts
    rw[ec,e1,e2,C9,C9,Em] at nd
    exact nd.2.2 mn (AN.mpr m1) mx (AN.mpr m2) z
   have:=ir (l:=[mn,mx]) (m:=ST.srt (ak pts)) (by simp[ne]) (fun x hx=>by
    rcases AB.mp hx with z |z
    ·rw[z];exact a1
    ·rw[BA.mp z];exact a2)
   exact this
  rw[fz len,q1,q2,←ec]
 ·have e:ak pts=ST.srt pts:=by
   unfold ak
   split
   ·rfl
   ·have e:ST.srt pts=[]:=Cf.mp (by omega)
    rw[e];rfl
  rw[e]
  have e3:ST.srt (ST.srt pts)=ST.srt pts:=ST.asc_srt (ST.srt_asc pts)
  unfold ak
  rw[e3]
  split
  ·rfl
  ·have e:ST.srt pts=[]:=Cf.mp (by omega)
   rw[e];rfl
end
section
variable {P:AD}{w:World}{K:Ap}{mg:Str→Option Value}{base:Heap}
def qw:List U→Out→Prop:=fun us o=>∃P Q R:P2,us=[pu P,pu Q,pu R]∧Szp 5000 P∧Szp 5000 Q∧Szp 5000 R∧o=.val (.int (sgn (aq P Q R)))
theorem uU (T:Txt K mg):bF P w K mg base (CXF P w) 2 T.a_turn T.d_turn ["P","Q","R"] (spU K (qw)):=by
 refine bG T.F_turn u5 (fun us o h=>?_) (fun cdv A outer s H E O us o hr h=>?_)
 ·obtain ⟨P,Q,R,rfl,⟨p1,p2⟩,⟨q1,q2⟩,⟨r1,r2⟩,rfl⟩:=h
  rfl
 obtain ⟨P,Q,R,rfl,⟨p1,p2⟩,⟨q1,q2⟩,⟨r1,r2⟩,rfl⟩:=h
 refine Ws.nox ?_
 refine ac (bA (aw ((oV T).mono (by decide)) hr rfl T.m_sign T.F_sign.kp T.b_sign aB (ae (bu (aK (bu (ar (aa 1 rfl) ab rfl rfl) (ar (aa 0 rfl) ab rfl rfl)) (bu (ar (aa 2 rfl) ab rfl rfl) (ar (aa 0 rfl) ab rfl rfl)) (by walk_at "mul")) (aK (bu (ar (aa 1 rfl) ab rfl rfl) (ar (aa 0 rfl) ab rfl rfl)) (bu (ar (aa 2 rfl) ab rfl rfl) (ar (aa 0 rfl) ab rfl rfl)) (by walk_at "mul"))) ao bB) ⟨_,rfl,rfl⟩) ?_)
 exact rfl
def ox:List U→Out→Prop:=fun us o=>∃row:List P2,us=[lp row]∧(∀p∈row,Szp 5000 p)∧row.length≤900∧o=.new ((aj row).reverse.map pu)
theorem gr (T:Txt K mg):bF P w K mg base (CXF P w) 3 T.a_left_bends T.d_left_bends ["row"] (spU K (ox)):=by
 refine bG T.F_left_bends dZ (fun us o h=>?_) (fun cdv A outer s H E O us o hr h=>?_)
 ·obtain ⟨row,rfl,sz,hl,rfl⟩:=h
  rfl
 obtain ⟨row,rfl,sz,hl,rfl⟩:=h
 refine Ws.nox ?_
 refine ac (ko (i:=1) dZ.nd rfl (Or.inl rfl) (dD bg) ?_)
 refine ac (fc (fun st:List P2=>[some (.val (lp row)),some (.own (st.reverse.map pu)),none]) (fun i st=>st=aj (row.take i)) rfl PassesOwn.never (cD (aa 0 rfl) (.inl rfl)) ?h0 ?hs ?hd)
 case h0=>exact ⟨[],rfl,rfl,rfl,trivial⟩
 case hs=>
  rintro H0 i x _ hx rfl
  obtain ⟨P,hP,mP,rfl⟩:=wf hx
  have hi:i < row.length:=aF hP
  have sP:=sz P mP
  refine ⟨_,(fe (i:=2) dZ.nd rfl (Or.inl rfl)),?_⟩
  have len0:=fP row i
  refine fk (fun ps=>SubP [some (.val (lp row)),some (.own ((a_ P (aj (row.take i))).reverse.map pu)),some (.val (pu P))] ps) (jn (fun s2:List P2=>[some (.val (lp row)),some (.own (s2.reverse.map pu)),some (.val (pu P))]) (fun m s2=>m=s2.length∧a_ P s2=a_ P (aj (row.take i))∧(∀p∈s2,p∈row)∧s2.length≤i) PassesOwn.never ?h0 ?hs) ?hj
  case h0=>exact ⟨_,_,⟨rfl,rfl,fun q hq=>eX row i q hq,len0⟩,rfl,rfl,rfl,trivial⟩
  case hs=>
   rintro m s2 ⟨rfl,e2,sub,len2⟩
   match s2,e2,sub,len2 with
   |[],e2,sub,len2=>
    refine ⟨false,?_,fun h=>(nomatch h),fun h ps hps=>e2 ▸ hps⟩
    exact (Tw.t (je (bp mZ (gC 1 rfl rfl T.z_len) ab) rfl))
   |[b],e2,sub,len2=>
    refine ⟨false,?_,fun h=>(nomatch h),fun h ps hps=>e2 ▸ hps⟩
    exact (Tw.t (je (bp mZ (gC 1 rfl rfl T.z_len) ab) rfl))
   |b::a::r,e2,sub,len2=>
    have sa:=sz a (sub a (by simp))
    have sb:=sz b (sub b (by simp))
    have e1:decide ((1:Int) < ((((b::a::r).reverse.map pu).length:Nat):Int))=true:=decide_eq_true (by simp;omega)
    refine ⟨decide ((1:Int) < ((((b::a::r).reverse.map pu).length:Nat):Int)) && decide (sgn (aq a b P) < 1),?_,fun h=>?_,fun h ps hps=>?_⟩
    ·exact (Tw.t (lO (bp mZ (gC 1 rfl rfl T.z_len) ab) (fun hz=>(kO (bp p8 (aw ((uU T).mono (by decide)) hr rfl T.m_turn T.F_turn.kp T.b_turn aB (ae (oX 1 rfl (bK ab) (wP b a r)) (ae (oX 1 rfl (bK ab) (wd b (a::r))) (ae (aa 2 rfl) ao af) bv) bv) ⟨a,b,P,rfl,sa,sb,sP,rfl⟩) ab)))))
    ·rw[e1,ER,rE] at h
     have hd:=dTb h
     refine ac (wJ 1 rfl (by simp) (aU ?_))
     refine ⟨_,a::r,?_,⟨rfl,?_,fun q hq=>sub q (Aw _ hq),?_⟩,rfl,?_,rfl,trivial⟩
     ·simp
     ·rw[←e2];conv=>rhs;unfold a_
      rw[if_pos hd]
     ·simp only[A_] at *;omega
     ·exact congrArg (fun l=>some (Sl.own l)) (by simp)
    ·rw[e1,ER,rE] at h
     have hd:=dFb h
     have e3:a_ P (b::a::r)=b::a::r:=by conv=>lhs;unfold a_
                                        rw[if_neg hd]
     rw[←e2,e3]
     exact hps
  case hj=>
   intro ps hps
   refine dm ?_ hps
   have e4:=ff hP
   have len3:=iR P (aj (row.take i))
   refine ac (eI 1 rfl (aa 2 rfl) (by rw[Ar,Bn];exact aS (by omega)) (aU ?_))
   refine ⟨_,rfl,rfl,?_,trivial⟩
   exact congrArg (fun l=>some (Sl.own l)) (by rw[e4];simp)
 case hd=>
  rintro st ps hst hps
  refine dm ?_ hps
  refine ac (uh 1 rfl ?_)
  rw[hst]
  simp
theorem n8 {l m:List Pt} (h:ST.srt l=ST.srt m):ak l=ak m:=by unfold ak;rw[h]
theorem kz {l m:List Pt} (h:∀z,z∈l↔z∈m):ST.srt l=ST.srt m:=ST.asc_one (ST.srt_asc l) (ST.srt_asc m) fun z=>by rw[ST.srt_mem,ST.srt_mem];exact h z
theorem ja {pts:List Pt} (h:¬ 2≤(ST.srt pts).length):ak pts=ST.srt pts:=by
 unfold ak
 split
 ·rfl
 ·have e:ST.srt pts=[]:=Cf.mp (by omega)
  rw[e];rfl
section
variable {f:Pt→Pt}
theorem vJ (hf:∀a b,plt a b→plt (f a) (f b)) (l:List Pt):ST.srt (l.map f)=(ST.srt l).map f:=by
 refine ST.asc_one (ST.srt_asc _) (gP.mpr (BD.mpr ((dN l).imp fun {a b} h=>hf a b h))) fun z=>?_
 rw[ST.srt_mem,Az,Az]
 exact ⟨fun ⟨x,hx,e⟩=>⟨x,(ST.srt_mem x l).mpr hx,e⟩,fun ⟨x,hx,e⟩=>⟨x,(ST.srt_mem x l).mp hx,e⟩⟩
theorem pX (hd:∀a b c,aq (f a) (f b) (f c)≤0↔aq a b c≤0) (P:Pt):∀st:List Pt,a_ (f P) (st.map f)=(a_ P st).map f
 |[]=>rfl
 |[_]=>rfl
 |b::a::r=>by
  show a_ (f P) (f b::f a::r.map f)=_
  unfold a_
  by_cases h:aq a b P≤0
  ·rw[if_pos h,if_pos ((hd a b P).mpr h)];exact pX hd P (a::r)
  ·rw[if_neg h,if_neg fun z=>h ((hd a b P).mp z)];rfl
theorem kg (hd:∀a b c,aq (f a) (f b) (f c)≤0↔aq a b c≤0) (row:List Pt):aj (row.map f)=(aj row).map f:=by
 have key:∀(l:List Pt) (st:List Pt),(l.map f).foldl (fun st P=>P::a_ P st) (st.map f)=(l.foldl (fun st P=>P::a_ P st) st).map f:=by
  intro l
  induction l with
  |nil=>intro st;rfl
  |cons p r ih=>
   intro st
   rw[Bz,D9,D9,pX hd]
   exact ih (p::a_ p st)
 exact key row []
theorem sK (hf:∀a b,plt a b→plt (f a) (f b)) (hd:∀a b c,aq (f a) (f b) (f c)≤0↔aq a b c≤0) (l:List Pt):ak (l.map f)=(ak l).map f:=by
 unfold ak
 rw[vJ hf,Ar,←Cq,kg hd,kg hd]
 split
 ·rfl
 ·rw[BB,Fu,Fu,Cq,Cq]
end
theorem nB {done:List Pt}:∀{st:List Pt},gl done st→∀(k:Nat) {a b:Pt},st[k]?=some b→st[k+1]?=some a→∀q∈done,0≤aq a b q
 |[],_,k,_,_,h,_=>by simp at h
 |[_],_,k,_,_,_,h=>by simp at h
 |x::y::r,C,0,a,b,h1,h2=>by
  simp at h1 h2
  subst h1;subst h2
  exact C.1
 |x::y::r,C,k+1,a,b,h1,h2=>nB C.2 k (by simpa using h1) (by simpa using h2)
theorem mB:∀{st:List Pt},Turns st→∀(k:Nat) {a b c:Pt},st[k]?=some c→st[k+1]?=some b→st[k+2]?=some a→0 < aq a b c
 |[],_,k,_,_,_,h,_,_=>by simp at h
 |[_],_,k,_,_,_,_,h,_=>by simp at h
 |[_,_],_,k,_,_,_,_,_,h=>by simp at h
 |x::y::z::r,C,0,a,b,c,h1,h2,h3=>by
  simp at h1 h2 h3
  subst h1;subst h2;subst h3
  exact C.1
 |x::y::z::r,C,k+1,a,b,c,h1,h2,h3=>mB C.2 k (by simpa using h1) (by simpa using h2) (by simpa using h3)
theorem uv {st:List Pt}{i:Nat}{a b:Pt} (h1:st.reverse[i]?=some a) (h2:st.reverse[i+1]?=some b):∃k,st[k]?=some b∧st[k+1]?=some a:=by
 have l2:i+1 < st.length:=by have:=(AG.mp h2).1;simpa using this
 rw[BU (by omega)] at h1
 rw[BU l2] at h2
 exact ⟨st.length - 1 - (i+1),h2,by rw[←h1];congr 1;omega⟩
theorem qv {st:List Pt}{i:Nat}{a b c:Pt} (h1:st.reverse[i]?=some a) (h2:st.reverse[i+1]?=some b) (h3:st.reverse[i+2]?=some c):∃k,st[k]?=some c∧st[k+1]?=some b∧st[k+2]?=some a:=by
 have l3:i+2 < st.length:=by have:=(AG.mp h3).1;simpa using this
 rw[BU (by omega)] at h1
 rw[BU (by omega)] at h2
 rw[BU l3] at h3
 exact ⟨st.length - 1 - (i+2),h3,by rw[←h2];congr 1;omega,by rw[←h1];congr 1;omega⟩
theorem fL {row:List Pt} (hs:row.Pairwise plt) (h:row≠[]) {i:Nat}{a b:Pt} (h1:(aj row).reverse[i]?=some a) (h2:(aj row).reverse[i+1]?=some b):∀q∈row,0≤aq a b q:=by
 obtain ⟨k,e1,e2⟩:=uv h1 h2
 exact nB (cA hs h).1.cover k e1 e2
theorem gK {row:List Pt} (hs:row.Pairwise plt) (h:row≠[]) {i:Nat}{a b c:Pt} (h1:(aj row).reverse[i]?=some a) (h2:(aj row).reverse[i+1]?=some b) (h3:(aj row).reverse[i+2]?=some c):0 < aq a b c:=by
 obtain ⟨k,e1,e2,e3⟩:=qv h1 h2 h3
 exact mB (cA hs h).1.turns k e1 e2 e3
theorem e6 {row:List Pt}{i:Nat}{a:Pt} (h1:(aj row.reverse).reverse[i]?=some a):(aj (row.reverse.map ng)).reverse[i]?=some (ng a):=by
 rw[bR,←Cq,Av] at h1
 cases e:(aj (row.reverse.map ng)).reverse[i]? with
 |none=>rw[e] at h1;cases h1
 |some z=>rw[e] at h1;cases h1;rw[gs]
theorem jo {row:List Pt} (hs:row.Pairwise plt) (h:row≠[]) {i:Nat}{a b:Pt} (h1:(aj row.reverse).reverse[i]?=some a) (h2:(aj row.reverse).reverse[i+1]?=some b):∀q∈row,0≤aq a b q:=fun q hq=>by
 have:=fL (cR hs) (by simpa using h) (e6 h1) (e6 h2) (ng q) (E5 (AN.mpr hq))
 rwa [jF] at this
theorem jX {row:List Pt} (hs:row.Pairwise plt) (h:row≠[]) {i:Nat}{a b c:Pt} (h1:(aj row.reverse).reverse[i]?=some a) (h2:(aj row.reverse).reverse[i+1]?=some b) (h3:(aj row.reverse).reverse[i+2]?=some c):0 < aq a b c:=by
 have:=gK (cR hs) (by simpa using h) (e6 h1) (e6 h2) (e6 h3)
 rwa [jF] at this
theorem rZ {u1 u2 v1 v2 w1 w2:Int} (hu:lpos u1 u2) (hv:lpos v1 v2) (h0:u1*v2 - u2*v1=0) (h1:u1*w2 - u2*w1≤0) (h2:0≤v1*w2 - v2*w1):u1*w2 - u2*w1=0∧v1*w2 - v2*w1=0:=by
 have e1:v1*(u1*w2 - u2*w1)=u1*(v1*w2 - v2*w1):=by grind
 have e2:v2*(u1*w2 - u2*w1)=u2*(v1*w2 - v2*w1):=by grind
 have fin:∀{s t A B:Int},0 < s→0 < t→s*A=t*B→A≤0→0≤B→A=0∧B=0:=fun {s t A B} hs ht e ha hb=>by
  have k1:s*A≤0:=Int.mul_nonpos_of_nonneg_of_nonpos (by omega) ha
  have k2:0≤t*B:=BX (by omega) hb
  have z1:s*A=0:=by omega
  have z2:t*B=0:=by omega
  refine ⟨(Ck.mp z1).resolve_left (by omega),(Ck.mp z2).resolve_left (by omega)⟩
 rcases hu with hu |⟨hu,hu2⟩
 ·rcases hv with hv |⟨hv,hv2⟩
  ·exact fin hv hu e1 h1 h2
  ·rw[hv] at h0
   have:=Cb hu hv2
   omega
 ·rcases hv with hv |⟨hv,hv2⟩
  ·rw[hu] at h0
   have:=Cb hu2 hv
   omega
  ·exact fin hv2 hu2 e2 h1 h2
theorem p6 {a m c:Pt} (ha:plt a m) (hc:plt c m) (h:aq a m c=0) {q:Pt} (h1:0≤aq a m q) (h2:0≤aq m c q):aq a m q=0∧aq m c q=0:=by
 have k:=rZ (w1:=m.1 - q.1) (w2:=m.2 - q.2) (bC ha) (bC hc) (by unfold aq at h;grind) (by unfold aq at h1;grind) (by unfold aq at h2;grind)
 unfold aq
 exact ⟨by grind,by grind⟩
theorem v3 (a b c:Pt):aq a b c=aq b c a:=by unfold aq;grind
theorem yT {row:List Pt} (hs:row.Pairwise plt) (hne:row≠[]) {i:Nat}{a m c:Pt} (h1:(aj row).reverse[i]?=some a) (h2:(aj row).reverse[i+1]?=some m) (hl:(aj row).length=i+2)
  (h3:(aj row.reverse).reverse[0]?=some m) (h4:(aj row.reverse).reverse[1]?=some c) (ha:plt a m) (hc:plt c m) (big:2 < (aj row).length∨2 < (aj row.reverse).length):0 < aq a m c:=by
 have mem:∀{j:Nat}{p:Pt},(aj row).reverse[j]?=some p→p∈row:=fun h=>cj row _ (AN.mp (AO h))
 have memR:∀{j:Nat}{p:Pt},(aj row.reverse).reverse[j]?=some p→p∈row:=fun h=>AN.mp (cj _ _ (AN.mp (AO h)))
 have cv:=fL hs hne h1 h2
 have cb:=jo hs hne h3 h4
 have h0:=cv c (memR h4)
 rcases Fc h0 with z |z
 ·exact z
 ·exfalso
  have flat:∀q∈row,aq a m q=0∧aq m c q=0:=fun q hq=>p6 ha hc z.symm (cv q hq) (cb q hq)
  rcases big with b |b
  ·have hi:0 < i:=by omega
   have hx:i - 1 < (aj row).reverse.length:=by simp;omega
   have e:=An hx
   have t:=gK hs hne e (by rw[Nat.sub_add_cancel hi];exact h1) (by rw[show i - 1+2=i+1 by omega];exact h2)
   rw[v3,(flat _ (mem e)).1] at t
   omega
  ·have hx:2 < (aj row.reverse).reverse.length:=by simpa using b
   have e:=An hx
   have t:=jX hs hne h3 h4 e
   rw[(flat _ (memR e)).2] at t
   omega
structure yo (row T B:List Pt) (mn mx:Pt):Prop where
 t0:T[0]?=some mn
 t1:T[T.length - 1]?=some mx
 b0:B[0]?=some mx
 b1:B[B.length - 1]?=some mn
 lt:2≤T.length
 lb:2≤B.length
 least:∀p∈row,p=mn∨plt mn p
 most:∀p∈row,p=mx∨plt p mx
theorem wg {l:List Pt}:l.reverse[0]?=l.getLast?:=by rw[List.getLast?_eq_head?_reverse,Ds]
theorem wq {l:List Pt}:l.reverse[l.reverse.length - 1]?=l.head?:=by rw[←B8,EE]
theorem Ad {row:List Pt} (hs:row.Pairwise plt) (h2:2≤row.length):∃mn mx,yo row (aj row).reverse (aj row.reverse).reverse mn mx:=by
 have hne:row≠[]:=fun z=>by rw[z] at h2;simp at h2
 obtain ⟨mn,mx,t1,t2,e1,e2,m1,m2,least,most,_,_⟩:=ends hs h2
 obtain ⟨K,hl,hh⟩:=cA hs hne
 obtain ⟨KR,hlR,hhR⟩:=cA (cR hs) (by simpa using hne)
 have l1:2≤(aj row).length:=by rw[e1];have:=Cr m1;simp;omega
 have l2:2≤(aj row.reverse).length:=by rw[e2];have:=Cr m2;simp;omega
 have hd:row.head?=some row[0]:=by rw[Ds];exact An (by omega)
 have ld:row.getLast?=some row[row.length - 1]:=by rw[B8];exact An (by omega)
 have q1:row[0]=mn:=by
  have hb:=hhR
  rw[En,EE,hd] at hb
  have:(aj row.reverse).head?=some row[0]:=by rw[bR,Fk,hb];simp[gs]
  rw[e2] at this
  exact (Bo this).symm
 have q2:row[row.length - 1]=mx:=by
  rw[ld,e1] at hh
  exact (Bo hh).symm
 refine ⟨mn,mx,?_,?_,?_,?_,by simpa using l1,by simpa using l2,least,most⟩
 ·rw[wg,hl,hd,q1]
 ·rw[wq,hh,ld,q2]
 ·rw[wg,bR,En,hlR,Fk,Hc,ld,q2];simp[gs]
 ·rw[wq,e2];rfl
section
variable {row T B:List Pt}{mn mx:Pt}
theorem ft (W:yo row T B mn mx) {k:Nat} (hk:k≤T.length - 1):(T.dropLast++B.dropLast)[k % (T.dropLast++B.dropLast).length]?=T[k]?:=by
 have h1:=W.lt
 have h2:=W.lb
 have hn:(T.dropLast++B.dropLast).length=T.length - 1+(B.length - 1):=by simp
 rw[hn,Bb (by omega)]
 by_cases h:k < T.length - 1
 ·rw[A7 (by simpa using h),CT,if_pos h]
 ·obtain rfl:k=T.length - 1:=by omega
  rw[A0 (by simp),CH,Nat.sub_self,CT,if_pos (by omega),W.b0,W.t1]
theorem iS (W:yo row T B mn mx) {k:Nat} (h0:T.length - 1≤k) (hk:k≤T.length - 1+(B.length - 1)):(T.dropLast++B.dropLast)[k % (T.dropLast++B.dropLast).length]?=B[k - (T.length - 1)]?:=by
 have h1:=W.lt
 have h2:=W.lb
 have hn:(T.dropLast++B.dropLast).length=T.length - 1+(B.length - 1):=by simp
 by_cases h:k < T.length - 1+(B.length - 1)
 ·rw[hn,Bb h,A0 (by simpa using h0),CH,CT,if_pos (by omega)]
 ·obtain rfl:k=T.length - 1+(B.length - 1):=by omega
  have:=ft W (k:=0) (by omega)
  rw[Nat.zero_mod] at this
  rw[hn,D4,this,W.t0,show T.length - 1+(B.length - 1) - (T.length - 1)=B.length - 1 by omega,W.b1]
end
theorem dW {l:List Pt}{i:Nat} (h:i < l.length):∃a,l[i]?=some a:=⟨_,An h⟩
theorem gN {pts:List Pt} (h2:2≤(ST.srt pts).length) {i:Nat} (hi:i < (ak pts).length):∃a b,(ak pts)[i]?=some a∧(ak pts)[(i+1) % (ak pts).length]?=some b∧(∀p∈pts,0≤aq a b p)∧(2 < (ak pts).length→∃c,(ak pts)[(i+2) % (ak pts).length]?=some c∧0 < aq a b c):=by
 have hs:=dN pts
 have hne:ST.srt pts≠[]:=fun z=>by rw[z] at h2;simp at h2
 obtain ⟨mn,mx,W⟩:=Ad hs h2
 have hmem:∀p∈pts,p∈ST.srt pts:=fun p hp=>(ST.srt_mem p pts).mpr hp
 have hc:ak pts=(aj (ST.srt pts)).reverse.dropLast++(aj (ST.srt pts).reverse).reverse.dropLast:=by
  unfold ak;rw[if_neg (by omega)]
 have tc:∀{j:Nat}{a b:Pt},(aj (ST.srt pts)).reverse[j]?=some a→(aj (ST.srt pts)).reverse[j+1]?=some b→∀q∈ST.srt pts,0≤aq a b q:=fun h h'=>fL hs hne h h'
 have tt:∀{j:Nat}{a b c:Pt},(aj (ST.srt pts)).reverse[j]?=some a→(aj (ST.srt pts)).reverse[j+1]?=some b→(aj (ST.srt pts)).reverse[j+2]?=some c→0 < aq a b c:=fun h h' h''=>gK hs hne h h' h''
 have bc:∀{j:Nat}{a b:Pt},(aj (ST.srt pts).reverse).reverse[j]?=some a→(aj (ST.srt pts).reverse).reverse[j+1]?=some b→∀q∈ST.srt pts,0≤aq a b q:=fun h h'=>jo hs hne h h'
 have bt:∀{j:Nat}{a b c:Pt},(aj (ST.srt pts).reverse).reverse[j]?=some a→(aj (ST.srt pts).reverse).reverse[j+1]?=some b→(aj (ST.srt pts).reverse).reverse[j+2]?=some c→0 < aq a b c:=fun h h' h''=>jX hs hne h h' h''
 have memT:∀{j:Nat}{p:Pt},(aj (ST.srt pts)).reverse[j]?=some p→p∈ST.srt pts:=fun h=>cj _ _ (AN.mp (AO h))
 have memB:∀{j:Nat}{p:Pt},(aj (ST.srt pts).reverse).reverse[j]?=some p→p∈ST.srt pts:=fun h=>AN.mp (cj _ _ (AN.mp (AO h)))
 have ndT:(aj (ST.srt pts)).reverse.Nodup:=(dz hs).imp fun {a b} h e=>by subst e;exact bD _ ((lN _ _).mpr h)
 have ndB:(aj (ST.srt pts).reverse).reverse.Nodup:=by
  rw[bR,←Cq]
  have ndR:(aj ((ST.srt pts).reverse.map ng)).reverse.Nodup:=(dz (cR hs)).imp fun {a b} h e=>by subst e;exact bD _ ((lN _ _).mpr h)
  exact Fv _ (fun a b (h:a≠b) e=>h (by have:=congrArg ng e;rwa [gs,gs] at this)) ndR
 have m1:∀{j:Nat}{a m c:Pt},(aj (ST.srt pts)).reverse[j]?=some a→(aj (ST.srt pts)).reverse[j+1]?=some m→(aj (ST.srt pts)).length=j+2→(aj (ST.srt pts).reverse).reverse[0]?=some m→(aj (ST.srt pts).reverse).reverse[1]?=some c→plt a m→plt c m→2 < (aj (ST.srt pts)).length∨2 < (aj (ST.srt pts).reverse).length→0 < aq a m c:=fun a1 a2 a3 a4 a5 a6 a7 a8=>yT hs hne a1 a2 a3 a4 a5 a6 a7 a8
 have m2:∀{j:Nat}{a m c:Pt},(aj (ST.srt pts).reverse).reverse[j]?=some a→(aj (ST.srt pts).reverse).reverse[j+1]?=some m→(aj (ST.srt pts).reverse).length=j+2→(aj (ST.srt pts)).reverse[0]?=some m→(aj (ST.srt pts)).reverse[1]?=some c→plt m a→plt m c→2 < (aj (ST.srt pts)).length∨2 < (aj (ST.srt pts).reverse).length→0 < aq a m c:=fun {j a m c} a1 a2 a3 a4 a5 a6 a7 a8=>by
  have er:((ST.srt pts).reverse.map ng).reverse=(ST.srt pts).map ng:=by rw[←Cq,List.reverse_reverse]
  have fw:∀{k:Nat}{p:Pt},(aj (ST.srt pts)).reverse[k]?=some p→(aj ((ST.srt pts).reverse.map ng).reverse).reverse[k]?=some (ng p):=fun {k p} h=>by
   rw[er,fF,←Cq,Av,h];rfl
  have lb:(aj ((ST.srt pts).reverse.map ng)).length=(aj (ST.srt pts).reverse).length:=by rw[bR,Ar]
  have lt:(aj ((ST.srt pts).reverse.map ng).reverse).length=(aj (ST.srt pts)).length:=by rw[er,fF,Ar]
  have:=yT (cR hs) (by simpa using hne) (e6 a1) (e6 a2) (by rw[lb];exact a3) (fw a4) (fw a5) (jc a6) (jc a7) (by rw[lb,lt];exact a8.symm)
  rwa [jF] at this
 rw[hc] at hi ⊢
 have lT:(aj (ST.srt pts)).reverse.length=(aj (ST.srt pts)).length:=Bn
 have lB:(aj (ST.srt pts).reverse).reverse.length=(aj (ST.srt pts).reverse).length:=Bn
 generalize (aj (ST.srt pts)).reverse=T at *
 generalize (aj (ST.srt pts).reverse).reverse=B at *
 have h1:=W.lt
 have h3:=W.lb
 have hn:(T.dropLast++B.dropLast).length=T.length - 1+(B.length - 1):=by simp
 have own:∀k,k < (T.dropLast++B.dropLast).length→(T.dropLast++B.dropLast)[k]?=(T.dropLast++B.dropLast)[k % (T.dropLast++B.dropLast).length]?:=fun k hk=>by rw[Bb hk]
 have tne:∀{j k:Nat}{p q:Pt},T[j]?=some p→T[k]?=some q→j≠k→p≠q:=fun {j k p q} a1 a2 a3 e=>a3 ((Eo (aF a1) ndT).mp (by rw[a1,a2,e]))
 have bne:∀{j k:Nat}{p q:Pt},B[j]?=some p→B[k]?=some q→j≠k→p≠q:=fun {j k p q} a1 a2 a3 e=>a3 ((Eo (aF a1) ndB).mp (by rw[a1,a2,e]))
 by_cases c1:i < T.length - 1
 ·obtain ⟨a,ea⟩:=dW (l:=T) (i:=i) (by omega)
  obtain ⟨b,eb⟩:=dW (l:=T) (i:=i+1) (by omega)
  refine ⟨a,b,by rw[own i hi,ft W (by omega)];exact ea,by rw[ft W (by omega)];exact eb,fun p hp=>tc ea eb p (hmem p hp),fun big=>?_⟩
  by_cases c2:i+2≤T.length - 1
  ·obtain ⟨c,ec⟩:=dW (l:=T) (i:=i+2) (by omega)
   exact ⟨c,by rw[ft W c2];exact ec,tt ea eb ec⟩
  ·have e:i+1=T.length - 1:=by omega
   obtain ⟨c,ec⟩:=dW (l:=B) (i:=1) (by omega)
   have emx:b=mx:=by have:=W.t1;rw[←e,eb] at this;exact Bo this
   subst emx
   refine ⟨c,by rw[iS W (by omega) (by omega),show i+2 - (T.length - 1)=1 by omega];exact ec,m1 ea eb (by omega) W.b0 ec ?_ ?_ (by omega)⟩
   ·exact (W.most a (memT ea)).resolve_left (tne ea eb (by omega))
   ·exact (W.most c (memB ec)).resolve_left (bne ec W.b0 (by omega))
 ·obtain ⟨a,ea⟩:=dW (l:=B) (i:=i - (T.length - 1)) (by omega)
  obtain ⟨b,eb⟩:=dW (l:=B) (i:=i - (T.length - 1)+1) (by omega)
  refine ⟨a,b,by rw[own i hi,iS W (by omega) (by omega)];exact ea,by rw[iS W (by omega) (by omega),show i+1 - (T.length - 1)=i - (T.length - 1)+1 by omega];exact eb,fun p hp=>bc ea eb p (hmem p hp),fun big=>?_⟩
  by_cases c2:i+2≤T.length - 1+(B.length - 1)
  ·obtain ⟨c,ec⟩:=dW (l:=B) (i:=i - (T.length - 1)+2) (by omega)
   exact ⟨c,by rw[iS W (by omega) c2,show i+2 - (T.length - 1)=i - (T.length - 1)+2 by omega];exact ec,bt ea eb ec⟩
  ·have e:i - (T.length - 1)+1=B.length - 1:=by omega
   obtain ⟨c,ec⟩:=dW (l:=T) (i:=1) (by omega)
   have emn:b=mn:=by have:=W.b1;rw[←e,eb] at this;exact Bo this
   subst emn
   refine ⟨c,?_,m2 ea eb (by omega) W.t0 ec ?_ ?_ (by omega)⟩
   ·have:=ft W (k:=1) (by omega)
    rw[show (i+2) % (T.dropLast++B.dropLast).length=1 % (T.dropLast++B.dropLast).length by rw[hn,show i+2=1+(T.length - 1+(B.length - 1)) by omega,Ep],this]
    exact ec
   ·exact (W.least a (memB ea)).resolve_left (bne ea eb (by omega))
   ·exact (W.least c (memT ec)).resolve_left (tne ec W.t0 (by omega))
abbrev gp (l:List P2) (i:Nat):P2:=l.getD i (0,0)
theorem fH {l:List P2}{i:Nat} (h:i < l.length):l[i]?=some (gp l i):=by simp[gp,h]
theorem b_ {l:List P2}{i:Nat} (h:i < l.length):gp l i∈l:=AO (fH h)
theorem yx (l:List U):fi l (some 1) none=l.drop 1:=by
 unfold fi HT.sIx
 cases l with
 |nil=>simp
 |cons a l=>simp
theorem zh (l:List U):fi l none (some 1)=l.take 1:=by
 unfold fi HT.sIx
 cases l with
 |nil=>simp
 |cons a l=>simp
def nxt (l:List P2) (i:Nat):P2:=gp l ((i+1) % l.length)
def sdl (l:List P2):List (P2×P2):=(Bi l.length).map fun i=>(gp l i,nxt l i)
theorem iN {l:List P2}{s:P2×P2} (h:s∈sdl l):s.1∈l∧s.2∈l:=by
 obtain ⟨i,hi,rfl⟩:=Az.mp h
 have hi':=AQ.mp hi
 exact ⟨b_ hi',b_ (Cm _ (by omega))⟩
def wth (a b:Int) (p:Pt):Int:=a*p.1+b*p.2
theorem xL {a b:Int}{u p v:Pt} (hb:b≤0) (h1:plt u p) (h2:plt p v) (h:aq u p v≤0):wth a b p≤wth a b u∨wth a b p≤wth a b v:=by
 rcases Fd (wth a b u) (wth a b p) with c1 |c1
 ·rcases Fd (wth a b v) (wth a b p) with c2 |c2
  ·exfalso
   have e:(v.1 - p.1) *(wth a b p - wth a b u)+(p.1 - u.1) *(wth a b p - wth a b v)=-((-b) *(-(aq u p v))):=by unfold wth aq;grind
   have n1:0≤(-b) *(-(aq u p v)):=BX (by omega) (by omega)
   have d1:0≤p.1 - u.1:=by unfold plt at h1;omega
   have d2:0≤v.1 - p.1:=by unfold plt at h2;omega
   have m1:0≤(v.1 - p.1) *(wth a b p - wth a b u):=BX d2 (by omega)
   have m2:0≤(p.1 - u.1) *(wth a b p - wth a b v):=BX d1 (by omega)
   rcases Fd 0 (p.1 - u.1) with d |d
   ·have:=Cb d (show 0 < wth a b p - wth a b v by omega)
    omega
   ·have ex:u.1=p.1:=by omega
    have ey:u.2 < p.2:=by unfold plt at h1;omega
    have:0≤(-b) *(p.2 - u.2):=BX (by omega) (by omega)
    have e2:wth a b p - wth a b u=-((-b) *(p.2 - u.2)):=by unfold wth;rw[ex];grind
    omega
  ·exact .inr c2
 ·exact .inl c1
theorem o3 {row:List Pt} (hs:row.Pairwise plt) {a b:Int} (hb:b≤0) {p:Pt} (hp:p∈row):∃c∈aj row,wth a b p≤wth a b c:=by
 by_cases h:p∈aj row
 ·exact ⟨p,h,JG _⟩
 ·obtain ⟨u,hu,v,hv,k1,k2,k3⟩:=gap hs hp h
  rcases xL (a:=a) hb k1 k2 k3 with e |e
  ·exact ⟨u,hu,e⟩
  ·exact ⟨v,hv,e⟩
theorem xn (a b:Int) (p:Pt):wth (-a) (-b) (ng p)=wth a b p:=by unfold wth ng;grind
theorem ve (a b:Int) (p:Pt):wth a b (ng p)=wth (-a) (-b) p:=by unfold wth ng;grind
theorem ue {row:List Pt} (hs:row.Pairwise plt) {a b:Int} (hb:0≤b) {p:Pt} (hp:p∈row):∃c∈aj row.reverse,wth a b p≤wth a b c:=by
 obtain ⟨c,hc,k⟩:=o3 (cR hs) (a:=-a) (b:=-b) (by omega) (p:=ng p) (Az.mpr ⟨p,AN.mpr hp,rfl⟩)
 refine ⟨ng c,by rw[bR];exact Az.mpr ⟨c,hc,rfl⟩,?_⟩
 rw[xn] at k
 rw[ve]
 exact k
theorem jD {pts:List Pt} (a b:Int) {p:Pt} (hp:p∈pts):∃c∈ak pts,wth a b p≤wth a b c:=by
 have hp':p∈ST.srt pts:=(ST.srt_mem p pts).mpr hp
 by_cases h2:2≤(ST.srt pts).length
 ·have hs:=dN pts
  obtain ⟨mn,mx,t1,t2,e1,e2,m1,m2,_⟩:=ends hs h2
  have big:=fz h2
  rw[e1,e2] at big
  rcases Int.le_total b 0 with hb |hb
  ·obtain ⟨c,hc,k⟩:=o3 hs (a:=a) hb hp'
   refine ⟨c,?_,k⟩
   rw[big]
   rw[e1] at hc
   rcases AB.mp hc with rfl |hc
   ·exact AH _ (AN.mpr m2)
   ·exact Bu _ (AN.mpr hc)
  ·obtain ⟨c,hc,k⟩:=ue hs (a:=a) hb hp'
   refine ⟨c,?_,k⟩
   rw[big]
   rw[e2] at hc
   rcases AB.mp hc with rfl |hc
   ·exact Bu _ (AN.mpr m1)
   ·exact AH _ (AN.mpr hc)
 ·exact ⟨p,by rw[ja h2];exact hp',JG _⟩
theorem w8 {l:List P2} (hn:l.Nodup) (h2:2≤l.length):∀s∈sdl l,s.1≠s.2:=fun s hs e=>by
 obtain ⟨i,hi,rfl⟩:=Az.mp hs
 have hi':=AQ.mp hi
 have hj:(i+1) % l.length < l.length:=Cm _ (by omega)
 have e':gp l i=gp l ((i+1) % l.length):=e
 have:l[i]?=l[(i+1) % l.length]?:=by rw[fH hi',fH hj,e']
 have:=(Eo hi' hn).mp this
 by_cases hk:i+1 < l.length
 ·rw[Bb hk] at this;omega
 ·have e:i+1=l.length:=by omega
  rw[e,D4] at this;omega
theorem eS {l:List P2} (h3:3≤(ak l).length):2≤(ST.srt l).length:=by
 rcases CB (ST.srt l).length 2 with h |h
 ·rw[ja (by omega)] at h3;omega
 ·exact h
theorem mw {l:List P2}{i:Nat} (h:i < l.length):(gp l i,gp l ((i+1) % l.length))∈sdl l:=Az.mpr ⟨i,AQ.mpr h,rfl⟩
theorem iE {l:List P2}{i:Nat}{a:P2} (h:l[i]?=some a):gp l i=a:=by simp[gp,h]
theorem tJ {n i:Nat}:((i+1) % n+1) % n=(i+2) % n:=by rw[Gb]
theorem eU {l:List P2} (h3:3≤(ak l).length) {s:P2×P2} (hs:s∈sdl (ak l)):∀q∈l,0≤aq s.1 s.2 q:=by
 obtain ⟨i,hi,rfl⟩:=Az.mp hs
 obtain ⟨a,b,e1,e2,cov,_⟩:=gN (eS h3) (AQ.mp hi)
 show ∀q∈l,0≤aq (gp (ak l) i) (gp (ak l) ((i+1) % (ak l).length)) q
 rw[iE e1,iE e2];exact cov
theorem iZ {l:List P2} (h3:3≤(ak l).length) {A B:P2} (hs:(A,B)∈sdl (ak l)):∃C,(B,C)∈sdl (ak l)∧0 < aq A B C:=by
 obtain ⟨i,hi,e⟩:=Az.mp hs
 have hi':=AQ.mp hi
 obtain ⟨a,b,e1,e2,_,tu⟩:=gN (eS h3) hi'
 obtain ⟨c,e3,pos⟩:=tu (by omega)
 have ea:A=a:=by rw[←iE e1];exact (congrArg ES e).symm
 have eb:B=b:=by rw[←iE e2];exact (congrArg ET e).symm
 refine ⟨c,?_,by rw[ea,eb];exact pos⟩
 have:=mw (l:=ak l) (i:=(i+1) % (ak l).length) (Cm _ (by omega))
 rw[tJ,iE e2,iE e3] at this
 rw[eb];exact this
theorem yq {l:List P2}{A:P2} (h:A∈l):∃B,(A,B)∈sdl l:=by
 obtain ⟨i,hi⟩:=BH.mp h
 have hi':=(AG.mp hi).1
 have:=mw hi'
 rw[iE hi] at this
 exact ⟨_,this⟩
theorem wQ {l:List P2}{A:P2} (h:A∈l):∃Z,(Z,A)∈sdl l:=by
 obtain ⟨i,hi⟩:=BH.mp h
 have hi':=(AG.mp hi).1
 have hj:(i+l.length - 1) % l.length < l.length:=Cm _ (by omega)
 have:=mw hj
 have e:((i+l.length - 1) % l.length+1) % l.length=i:=by
  rw[Gb,show i+l.length - 1+1=i+l.length by omega,Ep,Bb hi']
 rw[e,iE hi] at this
 exact ⟨_,this⟩
theorem rM {l:List P2} (hn:l.Nodup) {A B C:P2} (h1:(A,B)∈sdl l) (h2:(A,C)∈sdl l):B=C:=by
 obtain ⟨i,hi,e⟩:=Az.mp h1
 obtain ⟨j,hj,e'⟩:=Az.mp h2
 have hi':=AQ.mp hi
 have hj':=AQ.mp hj
 have ea:gp l i=gp l j:=(congrArg ES e).trans (congrArg ES e').symm
 have:i=j:=(Eo hi' hn).mp (by rw[fH hi',fH hj',ea])
 subst this
 exact (congrArg ET e).symm.trans (congrArg ET e')
theorem yf {u1 u2 v1 v2 w1 w2:Int} (hd:0 < u1*v2 - u2*v1) (h1:u1*w2 - u2*w1=0) (h2:v1*w2 - v2*w1=0):w1=0∧w2=0:=by
 have e1:(u1*v2 - u2*v1) *w1=0:=by
  have:(u1*v2 - u2*v1) *w1=v1*(u1*w2 - u2*w1) - u1*(v1*w2 - v2*w1):=by grind
  rw[this,h1,h2];simp
 have e2:(u1*v2 - u2*v1) *w2=0:=by
  have:(u1*v2 - u2*v1) *w2=v2*(u1*w2 - u2*w1) - u2*(v1*w2 - v2*w1):=by grind
  rw[this,h1,h2];simp
 refine ⟨?_,?_⟩
 ·rcases Ck.mp e1 with h |h
  ·omega
  ·exact h
 ·rcases Ck.mp e2 with h |h
  ·omega
  ·exact h
def p_ (l:List P2) (p:P2):Prop:=p∈l∧∃a b:Int,∀q∈l,q≠p→wth a b q < wth a b p
theorem fj {l:List P2}{p:P2} (h:p_ l p):p∈ak l:=by
 obtain ⟨hp,a,b,k⟩:=h
 obtain ⟨c,hc,e⟩:=jD a b hp
 by_cases hcp:c=p
 ·rw[←hcp];exact hc
 ·have:=k c (cF _ c hc) hcp
  omega
theorem dM {l:List P2} (h3:3≤(ak l).length) {p:P2} (hp:p∈ak l):p_ l p:=by
 obtain ⟨Z,hZ⟩:=wQ hp
 obtain ⟨B,hB,pos⟩:=iZ h3 hZ
 refine ⟨cF _ p hp,B.2 - Z.2,Z.1 - B.1,fun q hq hne=>?_⟩
 have c1:=eU h3 hZ q hq
 have c2:=eU h3 hB q hq
 dsimp only at c1 c2
 have e:wth (B.2 - Z.2) (Z.1 - B.1) q - wth (B.2 - Z.2) (Z.1 - B.1) p=-(aq Z p q+aq p B q):=by unfold wth aq;grind
 rcases Fc (Int.add_nonneg c1 c2) with h |h
 ·omega
 ·exfalso
  have z1:aq Z p q=0:=by omega
  have z2:aq p B q=0:=by omega
  have:=yf (u1:=p.1 - Z.1) (u2:=p.2 - Z.2) (v1:=B.1 - p.1) (v2:=B.2 - p.2) (w1:=q.1 - p.1) (w2:=q.2 - p.2) (by rw[←(show aq Z p B=(p.1 - Z.1) *(B.2 - p.2) - (p.2 - Z.2) *(B.1 - p.1) by unfold aq;grind)];exact pos) (by rw[←z1];unfold aq;grind) (by rw[←z2];unfold aq;grind)
  exact hne (CD (by omega) (by omega))
theorem xt {u1 u2 v1 v2 w1 w2:Int} (h:u1*w2 - u2*w1=0):(u1*v2 - u2*v1) *w1=(w1*v2 - w2*v1) *u1∧(u1*v2 - u2*v1) *w2=(w1*v2 - w2*v1) *u2:=by
 constructor
 ·have:(u1*v2 - u2*v1) *w1 - (w1*v2 - w2*v1) *u1=v1*(u1*w2 - u2*w1):=by grind
  rw[h] at this;simp at this;omega
 ·have:(u1*v2 - u2*v1) *w2 - (w1*v2 - w2*v1) *u2=v2*(u1*w2 - u2*w1):=by grind
  rw[h] at this;simp at this;omega
theorem iu {l:List P2} (h3:3≤(ak l).length) {A B:P2}:(A,B)∈sdl (ak l)↔A∈ak l∧B∈ak l∧A≠B∧∀q∈ak l,0≤aq A B q:=by
 constructor
 ·intro h
  exact ⟨(iN h).1,(iN h).2,w8 (cg l) (by omega) _ h,fun q hq=>eU h3 h q (cF _ q hq)⟩
 ·rintro ⟨hA,hB,hne,cov⟩
  obtain ⟨C,hC⟩:=yq hA
  obtain ⟨Z,hZ⟩:=wQ hA
  by_cases hBC:B=C
  ·rw[hBC];exact hC
  ·exfalso
   obtain ⟨D,hD,pD⟩:=iZ h3 hC
   obtain ⟨C',hC',pC⟩:=iZ h3 hZ
   have:C'=C:=rM (cg l) hC' hC
   subst this
   have mC:=(iN hC).2
   have mD:=(iN hD).2
   have lB:=cF _ B hB
   have k1:=eU h3 hC B lB
   have k2:=cov C' mC
   have k3:=eU h3 hZ B lB
   have k4:=eU h3 hD B lB
   dsimp only at k1 k3 k4 mC mD
   have z:(C'.1 - A.1) *(B.2 - A.2) - (C'.2 - A.2) *(B.1 - A.1)=0:=by
    have e1:aq A C' B=(C'.1 - A.1) *(B.2 - A.2) - (C'.2 - A.2) *(B.1 - A.1):=rfl
    have e2:aq A B C'=-((C'.1 - A.1) *(B.2 - A.2) - (C'.2 - A.2) *(B.1 - A.1)):=by unfold aq;grind
    omega
   obtain ⟨p1,p2⟩:=xt (v1:=Z.1 - A.1) (v2:=Z.2 - A.2) z
   have dpos:0 < (C'.1 - A.1) *(Z.2 - A.2) - (C'.2 - A.2) *(Z.1 - A.1):=by
    rw[←(show aq Z A C'=(C'.1 - A.1) *(Z.2 - A.2) - (C'.2 - A.2) *(Z.1 - A.1) by unfold aq;grind)];exact pC
   have spos:0≤(B.1 - A.1) *(Z.2 - A.2) - (B.2 - A.2) *(Z.1 - A.1):=by
    rw[←(show aq Z A B=(B.1 - A.1) *(Z.2 - A.2) - (B.2 - A.2) *(Z.1 - A.1) by unfold aq;grind)];exact k3
   generalize (C'.1 - A.1) *(Z.2 - A.2) - (C'.2 - A.2) *(Z.1 - A.1)=d at *
   generalize (B.1 - A.1) *(Z.2 - A.2) - (B.2 - A.2) *(Z.1 - A.1)=s at *
   have s0:s≠0:=fun e=>by
    rw[e,EB] at p1 p2
    have q1:=(Ck.mp p1).resolve_left (by omega)
    have q2:=(Ck.mp p2).resolve_left (by omega)
    exact hne (CD (by omega) (by omega))
   have s1:s≠d:=fun e=>by
    rw[e] at p1 p2
    have q1:=BN (by omega) p1
    have q2:=BN (by omega) p2
    exact hBC (CD (by omega) (by omega))
   have s2:s≤d:=by
    have e:d*aq C' D B=(d - s) *aq A C' D:=by
     have e1:d*aq C' D B=(D.1 - C'.1) *(d*(B.2 - A.2) - d*(C'.2 - A.2)) - (D.2 - C'.2) *(d*(B.1 - A.1) - d*(C'.1 - A.1)):=by unfold aq;grind
     rw[e1,p1,p2];unfold aq;grind
    have:0≤d*aq C' D B:=BX (by omega) k4
    rcases Fd d s with h |h
    ·have:0 < (s - d) *aq A C' D:=Cb (by omega) pD
     have e3:(d - s) *aq A C' D=-((s - d) *aq A C' D):=by grind
     omega
    ·exact h
   obtain ⟨_,a,b,top⟩:=dM h3 hB
   have t1:=top A (cF _ A hA) hne
   have t2:=top C' (cF _ C' mC) (fun e=>hBC e.symm)
   have w1:d*(wth a b B - wth a b A)=s*(wth a b C' - wth a b A):=by
    have e1:d*(wth a b B - wth a b A)=a*(d*(B.1 - A.1))+b*(d*(B.2 - A.2)):=by unfold wth;grind
    rw[e1,p1,p2];unfold wth;grind
   have g1:0 < d*(wth a b B - wth a b A):=Cb (by omega) (by omega)
   have g2:0 < wth a b C' - wth a b A:=by
    rcases Fd 0 (wth a b C' - wth a b A) with h |h
    ·exact h
    ·have:0≤s* -(wth a b C' - wth a b A):=BX (by omega) (by omega)
     have e3:s*(wth a b C' - wth a b A)=-(s* -(wth a b C' - wth a b A)):=by grind
     omega
   have g3:0 < (d - s) *(wth a b C' - wth a b A):=Cb (by omega) g2
   have w2:d*(wth a b B - wth a b C')=-((d - s) *(wth a b C' - wth a b A)):=by
    have:d*(wth a b B - wth a b C')=d*(wth a b B - wth a b A) - d*(wth a b C' - wth a b A):=by grind
    rw[this,w1];grind
   have g4:0 < d*(wth a b B - wth a b C'):=Cb (by omega) (by omega)
   omega
structure Lin (f:P2→P2) (d:Int):Prop where
 one:d=1∨d=-1
 ex:∃a b c e:Int,a*e - b*c=d∧∀p,f p=(a*p.1+b*p.2,c*p.1+e*p.2)
theorem Lin.det {f:P2→P2}{d:Int} (L:Lin f d) (A B q:P2):aq (f A) (f B) (f q)=d*aq A B q:=by
 obtain ⟨a,b,c,e,h,k⟩:=L.ex
 rw[k,k,k,←h];unfold aq;grind
theorem lH {f:P2→P2}{d:Int} (L:Lin f d) (x y:Int):∃x' y':Int,∀p,wth x' y' (f p)=wth x y p:=by
 obtain ⟨a,b,c,e,h,k⟩:=L.ex
 refine ⟨d*(x*e - y*c),d*(y*a - x*b),fun p=>?_⟩
 rw[k]
 have dd:d*d=1:=by rcases L.one with z |z <;>rw[z] <;>rfl
 have:wth (d*(x*e - y*c)) (d*(y*a - x*b)) (a*p.1+b*p.2,c*p.1+e*p.2)=d*(a*e - b*c) *wth x y p:=by unfold wth;grind
 rw[this,h,dd,B0]
theorem Lin.inj {f:P2→P2}{d:Int} (L:Lin f d) {p q:P2} (e:f p=f q):p=q:=by
 obtain ⟨x,y,h⟩:=lH L 1 0
 obtain ⟨x',y',h'⟩:=lH L 0 1
 have h1:wth 1 0 p=wth 1 0 q:=by rw[←h,←h,e]
 have h2:wth 0 1 p=wth 0 1 q:=by rw[←h',←h',e]
 unfold wth at h1 h2
 exact CD (by omega) (by omega)
theorem pL {f:P2→P2}{d:Int} (L:Lin f d) {l:List P2}{p:P2} (h:p_ l p):p_ (l.map f) (f p):=by
 obtain ⟨hp,a,b,k⟩:=h
 obtain ⟨x,y,e⟩:=lH L a b
 refine ⟨E5 hp,x,y,fun q hq hne=>?_⟩
 obtain ⟨r,hr,rfl⟩:=Az.mp hq
 rw[e,e]
 exact k r hr fun z=>hne (by rw[z])
theorem ur {f:P2→P2}{d:Int} (L:Lin f d) {l:List P2}{p:P2} (hp:p∈l) (h:p_ (l.map f) (f p)):p_ l p:=by
 obtain ⟨_,a,b,k⟩:=h
 obtain ⟨u,v,w,z,_,kf⟩:=L.ex
 refine ⟨hp,a*u+b*w,a*v+b*z,fun q hq hne=>?_⟩
 have e:∀r:P2,wth (a*u+b*w) (a*v+b*z) r=wth a b (f r):=fun r=>by rw[kf];unfold wth;grind
 rw[e,e]
 exact k (f q) (E5 hq) fun z=>hne (L.inj z)
theorem hW {f:P2→P2}{d:Int} (L:Lin f d) {l:List P2} (h3:3≤(ak l).length):3≤(ak (l.map f)).length:=by
 have nd:((ak l).map f).Nodup:=Fv _ (fun a b (h:a≠b) e=>h (L.inj e)) (cg l)
 have:=ir nd (m:=ak (l.map f)) fun x hx=>by
  obtain ⟨p,hp,rfl⟩:=Az.mp hx
  exact fj (pL L (dM h3 hp))
 rw[Ar] at this
 omega
theorem cE {f:P2→P2}{d:Int} (L:Lin f d) {l:List P2} (h3:3≤(ak l).length) (x:P2):x∈ak (l.map f)↔∃p∈ak l,f p=x:=by
 constructor
 ·intro h
  obtain ⟨p,hp,rfl⟩:=Az.mp (cF _ x h)
  exact ⟨p,fj (ur L hp (dM (hW L h3) h)),rfl⟩
 ·rintro ⟨p,hp,rfl⟩
  exact fj (pL L (dM h3 hp))
def sdf (f:P2→P2) (d:Int) (s:P2×P2):P2×P2:=if d=1 then (f s.1,f s.2) else (f s.2,f s.1)
theorem xA {f:P2→P2}{d:Int} (L:Lin f d) {l:List P2} (h3:3≤(ak l).length) (t:P2×P2):t∈sdl (ak (l.map f))↔∃s∈sdl (ak l),sdf f d s=t:=by
 have h3':=hW L h3
 have sw:∀A B q:P2,aq B A q=-aq A B q:=fun A B q=>by unfold aq;grind
 constructor
 ·intro h
  obtain ⟨x,y⟩:=t
  obtain ⟨hx,hy,ne,cov⟩:=(iu h3').mp h
  obtain ⟨A,hA,rfl⟩:=(cE L h3 x).mp hx
  obtain ⟨B,hB,rfl⟩:=(cE L h3 y).mp hy
  have cv:∀q∈ak l,0≤d*aq A B q:=fun q hq=>by
   have:=cov (f q) ((cE L h3 _).mpr ⟨q,hq,rfl⟩)
   rwa [L.det] at this
  rcases L.one with z |z
  ·refine ⟨(A,B),(iu h3).mpr ⟨hA,hB,fun e=>ne (by rw[e]),fun q hq=>?_⟩,by unfold sdf;rw[if_pos z]⟩
   have:=cv q hq
   rw[z] at this;omega
  ·refine ⟨(B,A),(iu h3).mpr ⟨hB,hA,fun e=>ne (by rw[e]),fun q hq=>?_⟩,by unfold sdf;rw[if_neg (by omega)]⟩
   have:=cv q hq
   rw[sw]
   rw[z] at this;omega
 ·rintro ⟨⟨A,B⟩,hs,rfl⟩
  obtain ⟨hA,hB,ne,cov⟩:=(iu h3).mp hs
  have cv:∀q∈ak (l.map f),0≤d*aq (f A) (f B) q:=fun q hq=>by
   obtain ⟨p,hp,rfl⟩:=(cE L h3 q).mp hq
   have:=cov p hp
   rw[L.det,←CK,show d*d=1 by rcases L.one with z |z <;>rw[z] <;>rfl]
   omega
  unfold sdf
  rcases L.one with z |z
  ·rw[if_pos z]
   refine (iu h3').mpr ⟨(cE L h3 _).mpr ⟨A,hA,rfl⟩,(cE L h3 _).mpr ⟨B,hB,rfl⟩,fun e=>ne (L.inj e),fun q hq=>?_⟩
   have:=cv q hq
   dsimp only
   rw[z] at this;omega
  ·rw[if_neg (by omega)]
   refine (iu h3').mpr ⟨(cE L h3 _).mpr ⟨B,hB,rfl⟩,(cE L h3 _).mpr ⟨A,hA,rfl⟩,fun e=>ne (L.inj e.symm),fun q hq=>?_⟩
   have:=cv q hq
   dsimp only
   rw[sw]
   rw[z] at this;omega
end
section
variable {P:AD}{w:World}{K:Ap}{mg:Str→Option Value}{base:Heap}
def ap (a b c d e f:Int) (p:P2):P2:=(a*p.1+b*p.2+e,c*p.1+d*p.2+f)
structure Stn (C A B:P2) (a b c d e f:Int):Prop where
 dt:a*d - b*c=1∨a*d - b*c=-1
 at0:ap a b c d e f C=(0,0)
 nx:0 < (ap a b c d e f A).1
 ny:(ap a b c d e f A).2=0
 f0:0≤(ap a b c d e f B).1
 f1:(ap a b c d e f B).1 < (ap a b c d e f B).2
theorem xr {C A B:P2}{g u v s t k q x y:Int} (g0:0 < g) (e1:A.1 - C.1=g*u) (e2:A.2 - C.2=g*v) (h:s*u+t*v=1)
  (hx:x=s*B.1+t*B.2+(-s*C.1 - t*C.2)) (hy:y=-v*B.1+u*B.2+(v*C.1 - u*C.2)) (hk:k=1∨k=-1) (ky:0 < k*y) (hq:q=x / (k*y)):
  Stn C A B (s - q*(k* -v)) (t - q*(k*u)) (k* -v) (k*u) ((-s*C.1 - t*C.2) - q*(k*(v*C.1 - u*C.2))) (k*(v*C.1 - u*C.2)):=by
 have a1:A.1=C.1+g*u:=by omega
 have a2:A.2=C.2+g*v:=by omega
 have dv:=Gn x (k*y)
 have m0:=Cg x (show k*y≠0 by omega)
 have m1:=BP x ky
 rw[←hq] at dv
 have bx:(ap (s - q*(k* -v)) (t - q*(k*u)) (k* -v) (k*u) ((-s*C.1 - t*C.2) - q*(k*(v*C.1 - u*C.2))) (k*(v*C.1 - u*C.2)) B).1=x - q*(k*y):=by
  unfold ap;dsimp only;rw[hx,hy];grind
 have b2:(ap (s - q*(k* -v)) (t - q*(k*u)) (k* -v) (k*u) ((-s*C.1 - t*C.2) - q*(k*(v*C.1 - u*C.2))) (k*(v*C.1 - u*C.2)) B).2=k*y:=by
  unfold ap;dsimp only;rw[hy];grind
 have c1:k*y*q=q*(k*y):=D0 _ _
 refine ⟨?_,?_,?_,?_,by rw[bx];omega,by rw[bx,b2];omega⟩
 ·have:(s - q*(k* -v)) *(k*u) - (t - q*(k*u)) *(k* -v)=k*(s*u+t*v):=by grind
  rw[this,h,Dx];exact hk
 ·unfold ap;exact CD (by dsimp only;grind) (by dsimp only;grind)
 ·have:(ap (s - q*(k* -v)) (t - q*(k*u)) (k* -v) (k*u) ((-s*C.1 - t*C.2) - q*(k*(v*C.1 - u*C.2))) (k*(v*C.1 - u*C.2)) A).1=g*(s*u+t*v):=by
   unfold ap;dsimp only;rw[a1,a2];grind
  rw[this,h];omega
 ·unfold ap;dsimp only;rw[a1,a2];grind
theorem tG {a b c d e f:Int} (h:a*d - b*c=1∨a*d - b*c=-1) {p q:P2} (k:ap a b c d e f p=ap a b c d e f q):p=q:=by
 unfold ap at k
 have k1:=congrArg ES k
 have k2:=congrArg ET k
 dsimp only at k1 k2
 have e1:(a*d - b*c) *(p.1 - q.1)=0:=by grind
 have e2:(a*d - b*c) *(p.2 - q.2)=0:=by grind
 rcases h with h |h <;>rw[h] at e1 e2 <;>exact CD (by omega) (by omega)
def pI (n k:Nat):Nat:=(k+n - 1) % n
def nI (n k:Nat):Nat:=(k+1) % n
theorem gX {n k:Nat} (h:k < n):pI n k=if k=0 then n - 1 else k - 1:=by
 unfold pI
 split
 ·rename_i z;rw[z,Jy];exact Bb (by omega)
 ·rw[show k+n - 1=(k - 1)+n by omega,Ep];exact Bb (by omega)
theorem kj {n k:Nat} (h:k < n):nI n k=if k+1=n then 0 else k+1:=by
 unfold nI
 split
 ·rename_i z;rw[z,D4]
 ·exact Bb (by omega)
theorem ji {n k:Nat} (h:k < n):pI n k < n:=Cm _ (by omega)
theorem lW {n k:Nat} (h:k < n):nI n k < n:=Cm _ (by omega)
theorem wo {n k:Nat} (h3:3≤n) (h:k < n):pI n k≠nI n k:=by
 rw[gX h,kj h]
 split <;>split <;>omega
structure Pr (l:List P2) (a b c d e f:Int) (i j:Nat):Prop where
 hi:i < l.length
 nd:l.Nodup
 n3:3≤l.length
 st:(j=pI l.length i∧Stn (gp l i) (gp l (pI l.length i)) (gp l (nI l.length i)) a b c d e f)∨(j=nI l.length i∧Stn (gp l i) (gp l (nI l.length i)) (gp l (pI l.length i)) a b c d e f)
section
variable {l:List P2}{a b c d e f:Int}{i j i' j':Nat}
theorem Pr.dt (P:Pr l a b c d e f i j):a*d - b*c=1∨a*d - b*c=-1:=by
 rcases P.st with ⟨_,S⟩ |⟨_,S⟩ <;>exact S.dt
theorem Pr.at0 (P:Pr l a b c d e f i j):ap a b c d e f (gp l i)=(0,0):=by
 rcases P.st with ⟨_,S⟩ |⟨_,S⟩ <;>exact S.at0
theorem pe (nd:l.Nodup) (hi:i < l.length) (hj:j < l.length) (h:gp l i=gp l j):i=j:=by
 have e1:gp l i=l[i]:=by simp[gp,hi]
 have e2:gp l j=l[j]:=by simp[gp,hj]
 rw[e1,e2] at h
 rcases Cv i j with z |z |z
 ·exact absurd h (A8.mp nd i j hi hj z)
 ·exact z
 ·exact absurd h.symm (A8.mp nd j i hj hi z)
theorem Pr.only (P:Pr l a b c d e f i j) {k:Nat} (hk:k < l.length) (h:ap a b c d e f (gp l k)=(0,0)):k=i:=pe P.nd hk P.hi (tG P.dt (h.trans P.at0.symm))
theorem Pr.one (P:Pr l a b c d e f i j) (P':Pr l a b c d e f i' j'):i=i'∧j=j':=by
 have e:=P'.only P.hi P.at0
 subst e
 refine ⟨rfl,?_⟩
 rcases P.st with ⟨h1,S⟩ |⟨h1,S⟩ <;>rcases P'.st with ⟨h2,S'⟩ |⟨h2,S'⟩
 ·rw[h1,h2]
 ·have:=S.ny;have:=S'.f0;have:=S'.f1;omega
 ·have:=S.ny;have:=S'.f0;have:=S'.f1;omega
 ·rw[h1,h2]
end
def PrL (l:List P2) (m:List Int) (p:Nat×Nat):Prop:=∃a b c d e f,m=[a,b,c,d,e,f]∧Pr l a b c d e f p.1 p.2
theorem PrL.one {l:List P2}{m:List Int}{p p':Nat×Nat} (h:PrL l m p) (h':PrL l m p'):p=p':=by
 obtain ⟨a,b,c,d,e,f,rfl,P⟩:=h
 obtain ⟨a',b',c',d',e',f',q,P'⟩:=h'
 cases q
 obtain ⟨h1,h2⟩:=P.one P'
 exact CD h1 h2
def prs (n x:Nat):Nat×Nat:=(x / 2,if x % 2=0 then pI n (x / 2) else nI n (x / 2))
theorem uD {n x y:Nat} (h3:3≤n) (hx:x < 2*n) (hy:y < 2*n) (h:prs n x=prs n y):x=y:=by
 unfold prs at h
 have h1:x / 2=y / 2:=congrArg ES h
 have h2:=congrArg ET h
 dsimp only at h2
 have ne:=wo h3 (show x / 2 < n by omega)
 rw[←h1] at h2
 split at h2 <;>split at h2
 ·omega
 ·exact absurd h2 ne
 ·exact absurd h2.symm ne
 ·omega
structure All (l:List P2) (ms:List (List Int)):Prop where
 n3:3≤l.length
 len:ms.length=2*l.length
 at_:∀x,(h:x < ms.length)→PrL l ms[x] (prs l.length x)
theorem All.six {l:List P2}{ms:List (List Int)} (A:All l ms):∀m∈ms,m.length=6:=fun m hm=>by
 obtain ⟨x,hx,rfl⟩:=EM.mp hm
 obtain ⟨a,b,c,d,e,f,h,_⟩:=A.at_ x hx
 rw[h];rfl
theorem All.inj {l:List P2}{ms:List (List Int)} (A:All l ms) {x y:Nat} (hx:x < ms.length) (hy:y < ms.length) (h:prs l.length x=prs l.length y):x=y:=uD A.n3 (by rw[←A.len];exact hx) (by rw[←A.len];exact hy) h
theorem All.nodup {l:List P2}{ms:List (List Int)} (A:All l ms):ms.Nodup:=by
 refine A8.mpr fun x y hx hy hlt e=>?_
 have h1:=A.at_ x hx
 rw[e] at h1
 have:=A.inj hx hy (h1.one (A.at_ y hy))
 omega
open Classical in
noncomputable def pf (l:List P2) (m:List Int):Nat×Nat:=if h:∃p,PrL l m p then h.choose else (0,0)
theorem xY {l:List P2} (nd:l.Nodup) (h3:3≤l.length) (F G:Nat→List Int)
  (hF:∀i,i < l.length→∃a b c d e f,F i=[a,b,c,d,e,f]∧Stn (gp l i) (gp l (pI l.length i)) (gp l (nI l.length i)) a b c d e f)
  (hG:∀i,i < l.length→∃a b c d e f,G i=[a,b,c,d,e,f]∧Stn (gp l i) (gp l (nI l.length i)) (gp l (pI l.length i)) a b c d e f):
  All l ((Bi (2*l.length)).map fun x=>if x % 2=0 then F (x / 2) else G (x / 2)):=by
 refine ⟨h3,by simp,fun x hx=>?_⟩
 have hx':x < 2*l.length:=by simpa using hx
 have hi:x / 2 < l.length:=by omega
 rw[List.getElem_map,List.getElem_range]
 unfold prs
 split
 ·obtain ⟨a,b,c,d,e,f,h,S⟩:=hF _ hi
  exact ⟨a,b,c,d,e,f,h,hi,nd,h3,.inl ⟨rfl,S⟩⟩
 ·obtain ⟨a,b,c,d,e,f,h,S⟩:=hG _ hi
  exact ⟨a,b,c,d,e,f,h,hi,nd,h3,.inr ⟨rfl,S⟩⟩
theorem jW {pts:List P2} (h3:3≤(ak pts).length) (h2:2≤(ST.srt pts).length) {i:Nat} (hi:i < (ak pts).length):0 < aq (gp (ak pts) (pI (ak pts).length i)) (gp (ak pts) i) (gp (ak pts) (nI (ak pts).length i)):=by
 obtain ⟨a,b,e1,e2,_,h⟩:=gN h2 (ji hi)
 obtain ⟨c,e3,h⟩:=h (by omega)
 have k1:(pI (ak pts).length i+1) % (ak pts).length=i:=by
  rw[gX hi]
  split
  ·rename_i z;rw[show (ak pts).length - 1+1=(ak pts).length by omega,D4,z]
  ·rw[show i - 1+1=i by omega];exact Bb hi
 have k2:(pI (ak pts).length i+2) % (ak pts).length=nI (ak pts).length i:=by
  rw[gX hi,kj hi]
  split
  ·rename_i z;rw[show (ak pts).length - 1+2=1+(ak pts).length by omega,Ep,z,Bb (by omega),if_neg (by omega)]
  ·rw[show i - 1+2=i+1 by omega]
   split
   ·rename_i z;rw[z,D4]
   ·exact Bb (by omega)
 rw[k1] at e2
 rw[k2] at e3
 have g:∀{j:Nat}{p:P2},(ak pts)[j]?=some p→gp (ak pts) j=p:=fun h=>by simp[gp,h]
 rw[g e1,g e2,g e3];exact h
def trn (e f:Int) (p:P2):P2:=(p.1+e,p.2+f)
def lnr (a b c d:Int) (p:P2):P2:=(a*p.1+b*p.2,c*p.1+d*p.2)
theorem nX (a b c d e f:Int) (l:List P2):l.map (ap a b c d e f)=(l.map (lnr a b c d)).map (trn e f):=by
 rw[Bf];rfl
theorem jz (e f:Int) (l:List P2):ak (l.map (trn e f))=(ak l).map (trn e f):=
 sK (fun a b h=>by unfold plt trn at *;dsimp only;omega) (fun a b c=>by
  have:aq (trn e f a) (trn e f b) (trn e f c)=aq a b c:=by unfold aq trn;dsimp only;grind
  rw[this]) l
theorem kJ {a b c d:Int} (h:a*d - b*c=1∨a*d - b*c=-1):Lin (lnr a b c d) (a*d - b*c):=⟨h,a,b,c,d,rfl,fun _=>rfl⟩
section
variable {a b c d e f:Int}{l:List P2}
theorem lu (h:a*d - b*c=1∨a*d - b*c=-1) (h3:3≤(ak l).length) (x:P2):x∈ak (l.map (ap a b c d e f))↔∃p∈ak l,ap a b c d e f p=x:=by
 rw[nX,jz,Az]
 constructor
 ·rintro ⟨y,hy,rfl⟩
  obtain ⟨p,hp,rfl⟩:=(cE (kJ h) h3 y).mp hy
  exact ⟨p,hp,rfl⟩
 ·rintro ⟨p,hp,rfl⟩
  exact ⟨lnr a b c d p,(cE (kJ h) h3 _).mpr ⟨p,hp,rfl⟩,rfl⟩
theorem tR (h:a*d - b*c=1∨a*d - b*c=-1) (h3:3≤(ak l).length):3≤(ak (l.map (ap a b c d e f))).length:=by
 rw[nX,jz,Ar];exact hW (kJ h) h3
theorem rY (g:P2→P2) (l:List P2) {A B:P2}:(A,B)∈sdl l→(g A,g B)∈sdl (l.map g):=by
 intro h
 obtain ⟨i,hi,e⟩:=Az.mp h
 have hi':=AQ.mp hi
 have gm:∀j,j < l.length→gp (l.map g) j=g (gp l j):=fun j hj=>by simp[gp,hj]
 have e1:=congrArg ES e
 have e2:=congrArg ET e
 dsimp only at e1 e2
 refine Az.mpr ⟨i,AQ.mpr (by simpa using hi'),?_⟩
 unfold nxt at *
 rw[gm i hi',Ar,gm _ (Cm _ (by omega)),e1,e2]
theorem v9 (h:a*d - b*c=1∨a*d - b*c=-1) (h3:3≤(ak l).length) {A B:P2} (hs:(A,B)∈sdl (ak l)):if a*d - b*c=1 then (ap a b c d e f A,ap a b c d e f B)∈sdl (ak (l.map (ap a b c d e f))) else (ap a b c d e f B,ap a b c d e f A)∈sdl (ak (l.map (ap a b c d e f))):=by
 have key:=(xA (kJ h) h3 (sdf (lnr a b c d) (a*d - b*c) (A,B))).mpr ⟨(A,B),hs,rfl⟩
 rw[nX,jz]
 unfold sdf at key
 by_cases z:a*d - b*c=1
 ·rw[if_pos z] at key ⊢
  exact rY (trn e f) _ key
 ·rw[if_neg z] at key ⊢
  exact rY (trn e f) _ key
end
def Cn (l:List P2) (C A B:P2):Prop:=(A,C)∈sdl l∧(C,B)∈sdl l
def Nb (l:List P2) (C A B:P2):Prop:=Cn l C A B∨Cn l C B A
theorem sW {l:List P2}{i:Nat} (hi:i < l.length):Cn l (gp l i) (gp l (pI l.length i)) (gp l (nI l.length i)):=by
 refine ⟨?_,mw hi⟩
 have:=mw (ji hi)
 have e:(pI l.length i+1) % l.length=i:=by
  rw[gX hi]
  split
  ·rename_i z;rw[show l.length - 1+1=l.length by omega,D4,z]
  ·rw[show i - 1+1=i by omega];exact Bb hi
 rwa [e] at this
theorem o6 {l:List P2} (nd:l.Nodup) {C A B:P2} (h:Cn l C A B):∃i,i < l.length∧C=gp l i∧A=gp l (pI l.length i)∧B=gp l (nI l.length i):=by
 obtain ⟨h1,h2⟩:=h
 obtain ⟨i,hi,e⟩:=Az.mp h2
 have hi':=AQ.mp hi
 have e1:=congrArg ES e
 have e2:=congrArg ET e
 dsimp only at e1 e2
 obtain ⟨j,hj,k⟩:=Az.mp h1
 have hj':=AQ.mp hj
 have k1:=congrArg ES k
 have k2:=congrArg ET k
 dsimp only at k1 k2
 unfold nxt at k2 e2
 have q:=pe nd (Cm _ (by omega)) hi' (k2.trans e1.symm)
 refine ⟨i,hi',e1.symm,?_,e2.symm⟩
 rw[←k1]
 congr 1
 rw[←q]
 have lt:(j+1) % l.length < l.length:=Cm _ (by omega)
 rw[gX lt]
 by_cases z:j+1=l.length
 ·rw[z,D4,if_pos rfl];omega
 ·rw[Bb (by omega),if_neg (by omega)];omega
section
variable {a b c d e f:Int}{l:List P2}
theorem v6 (h:a*d - b*c=1∨a*d - b*c=-1) (h3:3≤(ak l).length) {C A B:P2} (hn:Nb (ak l) C A B):Nb (ak (l.map (ap a b c d e f))) (ap a b c d e f C) (ap a b c d e f A) (ap a b c d e f B):=by
 have one:∀{A B:P2},Cn (ak l) C A B→Nb (ak (l.map (ap a b c d e f))) (ap a b c d e f C) (ap a b c d e f A) (ap a b c d e f B):=fun {A B} q=>by
  have k1:=v9 (e:=e) (f:=f) h h3 q.1
  have k2:=v9 (e:=e) (f:=f) h h3 q.2
  by_cases z:a*d - b*c=1
  ·rw[if_pos z] at k1 k2;exact .inl ⟨k1,k2⟩
  ·rw[if_neg z] at k1 k2;exact .inr ⟨k2,k1⟩
 rcases hn with q |q
 ·exact one q
 ·rcases one q with z |z
  ·exact .inr z
  ·exact .inl z
end
theorem kK (a b c d e f a' b' c' d' e' f':Int) (p:P2):ap a' b' c' d' e' f' (ap a b c d e f p)=ap (a'*a+b'*c) (a'*b+b'*d) (c'*a+d'*c) (c'*b+d'*d) (a'*e+b'*f+e') (c'*e+d'*f+f') p:=by
 unfold ap;exact CD (by dsimp only;grind) (by dsimp only;grind)
theorem m9 {x y:Int} (h:x*y=1∨x*y=-1) (hx:0 < x):x=1:=by
 have:x ∣ 1:=by
  rcases h with h |h
  ·exact ⟨y,h.symm⟩
  ·exact ⟨-y,by rw[Int.mul_neg,h];rfl⟩
 have:=Jn (by decide) this
 omega
theorem uJ {C A B:P2}{a b c d e f a' b' c' d' e' f':Int} (hd:aq C A B≠0) (S:Stn C A B a b c d e f) (S':Stn C A B a' b' c' d' e' f'):a'=a∧b'=b∧c'=c∧d'=d∧e'=e∧f'=f:=by
 obtain ⟨dt,z0,nx,ny,f0,f1⟩:=S
 obtain ⟨dt',z0',nx',ny',f0',f1'⟩:=S'
 unfold ap at *
 have z1:=congrArg ES z0
 have z2:=congrArg ET z0
 have y1:=congrArg ES z0'
 have y2:=congrArg ET z0'
 dsimp only at *
 obtain ⟨C1,C2⟩:=C
 obtain ⟨A1,A2⟩:=A
 obtain ⟨B1,B2⟩:=B
 unfold aq at hd
 dsimp only at *
 have ee:e=-(a*C1+b*C2):=by omega
 have ef:f=-(c*C1+d*C2):=by omega
 have ee':e'=-(a'*C1+b'*C2):=by omega
 have ef':f'=-(c'*C1+d'*C2):=by omega
 generalize hp1:A1 - C1=p1 at *
 generalize hp2:A2 - C2=p2 at *
 generalize hq1:B1 - C1=q1 at *
 generalize hq2:B2 - C2=q2 at *
 have gA:a*A1+b*A2+e=a*p1+b*p2:=by rw[ee,←hp1,←hp2];grind
 have gA2:c*A1+d*A2+f=c*p1+d*p2:=by rw[ef,←hp1,←hp2];grind
 have gB:a*B1+b*B2+e=a*q1+b*q2:=by rw[ee,←hq1,←hq2];grind
 have gB2:c*B1+d*B2+f=c*q1+d*q2:=by rw[ef,←hq1,←hq2];grind
 have gA':a'*A1+b'*A2+e'=a'*p1+b'*p2:=by rw[ee',←hp1,←hp2];grind
 have gA2':c'*A1+d'*A2+f'=c'*p1+d'*p2:=by rw[ef',←hp1,←hp2];grind
 have gB':a'*B1+b'*B2+e'=a'*q1+b'*q2:=by rw[ee',←hq1,←hq2];grind
 have gB2':c'*B1+d'*B2+f'=c'*q1+d'*q2:=by rw[ef',←hq1,←hq2];grind
 rw[gA] at nx
 rw[gA2] at ny
 rw[gB] at f0 f1
 rw[gB2] at f1
 rw[gA'] at nx'
 rw[gA2'] at ny'
 rw[gB'] at f0' f1'
 rw[gB2'] at f1'
 clear gA gA2 gB gB2 gA' gA2' gB' gB2' z0 z0' z1 z2 y1 y2
 have dd:(a*d - b*c) *(a*d - b*c)=1:=by rcases dt with h |h <;>rw[h] <;>rfl
 generalize hD:a*d - b*c=D at *
 generalize hD':a'*d' - b'*c'=D' at *
 generalize hP:a'*d - b'*c=P at *
 generalize hR:d'*a - c'*b=R at *
 generalize hQ:b'*a - a'*b=Q at *
 have n21:(c'*d - d'*c) *p1=0∧(c'*d - d'*c) *p2=0:=by
  constructor
  ·have:(c'*d - d'*c) *p1=d*(c'*p1+d'*p2) - d'*(c*p1+d*p2):=by grind
   rw[this,ny,ny'];simp
  ·have:(c'*d - d'*c) *p2=c'*(c*p1+d*p2) - c*(c'*p1+d'*p2):=by grind
   rw[this,ny,ny'];simp
 have pn:p1≠0∨p2≠0:=by
  by_cases z:p1=0
  ·right;intro w
   rw[z,w] at nx;simp at nx
  ·exact .inl z
 have e21:c'*d - d'*c=0:=by
  rcases pn with z |z
  ·exact (Ck.mp n21.1).resolve_right z
  ·exact (Ck.mp n21.2).resolve_right z
 have pr:P*R=D'*D:=by
  have:P*R - Q*(c'*d - d'*c)=D'*D:=by rw[←hP,←hR,←hQ,←hD,←hD'];grind
  rw[e21,C7,Int.sub_zero] at this;exact this
 have un:(D*P) *(D*R)=1∨(D*P) *(D*R)=-1:=by
  have:(D*P) *(D*R)=(D*D) *(P*R):=by grind
  rw[this,dd,B0,pr]
  rcases dt with h |h <;>rcases dt' with h' |h' <;>rw[h,h'] <;>decide
 have gx:(a'*p1+b'*p2)=D*P*(a*p1+b*p2):=by
  have:P*(a*p1+b*p2)+Q*(c*p1+d*p2)=(a'*p1+b'*p2) *D:=by rw[←hP,←hQ,←hD];grind
  rw[ny,C7,Gp] at this
  have k:D*P*(a*p1+b*p2)=D*(P*(a*p1+b*p2)):=CK _ _ _
  rw[k,this,D0 (a'*p1+b'*p2) D,←CK,dd,B0]
 have pos_of:∀{x y z:Int},0 < y→0 < z→z=x*y→0 < x:=fun {x y z} hy hz e=>by
  rcases Ho 0 x with w |w |w
  ·exact w
  ·rw[←w,EB] at e;omega
  ·have:=Int.mul_neg_of_neg_of_pos w hy
   omega
 have dP:D*P=1:=m9 un (pos_of nx nx' gx)
 have gy:(c'*q1+d'*q2)=D*R*(c*q1+d*q2):=by
  have:(c'*d - d'*c) *(a*q1+b*q2)+R*(c*q1+d*q2)=(c'*q1+d'*q2) *D:=by rw[←hR,←hD];grind
  rw[e21,EB,Gq] at this
  have k:D*R*(c*q1+d*q2)=D*(R*(c*q1+d*q2)):=CK _ _ _
  rw[k,this,D0 (c'*q1+d'*q2) D,←CK,dd,B0]
 have dR:D*R=1:=m9 (by rw[D0];exact un) (pos_of (by omega) (by omega) gy)
 rw[dR,B0] at gy
 have gz:a'*q1+b'*q2=(a*q1+b*q2)+D*Q*(c*q1+d*q2):=by
  have:P*(a*q1+b*q2)+Q*(c*q1+d*q2)=(a'*q1+b'*q2) *D:=by rw[←hP,←hQ,←hD];grind
  have k:D*(P*(a*q1+b*q2)+Q*(c*q1+d*q2))=D*P*(a*q1+b*q2)+D*Q*(c*q1+d*q2):=by grind
  rw[dP,B0] at k
  rw[←k,this,D0 (a'*q1+b'*q2) D,←CK,dd,B0]
 have dQ:D*Q=0:=by
  generalize D*Q=w at *
  generalize a*q1+b*q2=x at *
  generalize c*q1+d*q2=y at *
  rw[gz] at f0' f1'
  rw[gy] at f1'
  have yp:0 < y:=by omega
  rcases Ho 0 w with z |z |z
  ·have:1*y≤w*y:=EF (by omega) (by omega)
   omega
  ·exact z.symm
  ·have:w*y≤-1*y:=EF (by omega) (by omega)
   omega
 have un1:∀{x:Int},D*x=1→x=D:=fun {x} h=>by
  have:D*(D*x)=D*1:=by rw[h]
  rw[←CK,dd,B0,Dx] at this;exact this
 have eP:=un1 dP
 have eR:=un1 dR
 have eQ:Q=0:=by
  have:D*(D*Q)=D*0:=by rw[dQ]
  rw[←CK,dd,B0,C7] at this;exact this
 have can:∀{x y:Int},x*D=y*D→x=y:=fun {x y} h=>by
  have:x*D*D=y*D*D:=by rw[h]
  rw[CK,CK,dd,Dx,Dx] at this;exact this
 have ra:a'=a:=can (by
  have:a*P+c*Q=a'*D:=by rw[←hP,←hQ,←hD];grind
  rw[←this,eP,eQ,C7,Gp])
 have rb:b'=b:=can (by
  have:b*P+d*Q=b'*D:=by rw[←hP,←hQ,←hD];grind
  rw[←this,eP,eQ,C7,Gp])
 have rc:c'=c:=can (by
  have:a*(c'*d - d'*c)+c*R=c'*D:=by rw[←hR,←hD];grind
  rw[←this,eR,e21,C7,Gq])
 have rd:d'=d:=can (by
  have:b*(c'*d - d'*c)+d*R=d'*D:=by rw[←hR,←hD];grind
  rw[←this,eR,e21,C7,Gq])
 exact ⟨ra,rb,rc,rd,by rw[ee,ee',ra,rb],by rw[ef,ef',rc,rd]⟩
theorem jA {A B:List P2} (h:∀z,z∈A↔z∈B):ak A=ak B:=n8 (kz h)
def apL (m:List Int) (p:P2):P2:=ap (m.getD 0 0) (m.getD 1 0) (m.getD 2 0) (m.getD 3 0) (m.getD 4 0) (m.getD 5 0) p
structure jQ (l:List P2) (ms:List (List Int)):Prop where
 mem:∀m∈ms,∃C A B a b c d e f,Nb l C A B∧m=[a,b,c,d,e,f]∧Stn C A B a b c d e f
 all:∀C A B,Nb l C A B→∃a b c d e f,[a,b,c,d,e,f]∈ms∧Stn C A B a b c d e f
theorem xa {l:List P2} (h3:3≤(ak l).length) {C A B:P2} (h:Nb (ak l) C A B):aq C A B≠0:=by
 have one:∀{A B:P2},Cn (ak l) C A B→0 < aq A C B:=fun {A B} q=>by
  obtain ⟨D,h1,h2⟩:=iZ h3 q.1
  rw[rM (cg l) q.2 h1];exact h2
 rcases h with q |q
 ·have:=one q
  intro z
  unfold aq at *;grind
 ·have:=one q
  intro z
  unfold aq at *;grind
section
variable {a b c d e f:Int}
def gg (a b c d e f:Int) (p:P2):P2:=ap ((a*d - b*c) *d) (-((a*d - b*c) *b)) (-((a*d - b*c) *c)) ((a*d - b*c) *a) (-((a*d - b*c) *d*e - (a*d - b*c) *b*f)) (-(-((a*d - b*c) *c) *e+(a*d - b*c) *a*f)) p
theorem x9 (h:a*d - b*c=1∨a*d - b*c=-1):((a*d - b*c) *d) *((a*d - b*c) *a) - (-((a*d - b*c) *b)) *(-((a*d - b*c) *c))=1∨((a*d - b*c) *d) *((a*d - b*c) *a) - (-((a*d - b*c) *b)) *(-((a*d - b*c) *c))=-1:=by
 have:((a*d - b*c) *d) *((a*d - b*c) *a) - (-((a*d - b*c) *b)) *(-((a*d - b*c) *c))=(a*d - b*c) *(a*d - b*c) *(a*d - b*c):=by grind
 rw[this]
 rcases h with h |h <;>rw[h] <;>decide
theorem pW (h:a*d - b*c=1∨a*d - b*c=-1) (p:P2):gg a b c d e f (ap a b c d e f p)=p:=by
 have dd:(a*d - b*c) *(a*d - b*c)=1:=by rcases h with h |h <;>rw[h] <;>rfl
 unfold gg ap
 refine CD ?_ ?_
 ·have:(a*d - b*c) *d*(a*p.1+b*p.2+e)+-((a*d - b*c) *b) *(c*p.1+d*p.2+f)+-((a*d - b*c) *d*e - (a*d - b*c) *b*f)=(a*d - b*c) *(a*d - b*c) *p.1:=by grind
  dsimp only
  rw[this,dd,B0]
 ·have:-((a*d - b*c) *c) *(a*p.1+b*p.2+e)+(a*d - b*c) *a*(c*p.1+d*p.2+f)+-(-((a*d - b*c) *c) *e+(a*d - b*c) *a*f)=(a*d - b*c) *(a*d - b*c) *p.2:=by grind
  dsimp only
  rw[this,dd,B0]
theorem vm (h:a*d - b*c=1∨a*d - b*c=-1) (p:P2):ap a b c d e f (gg a b c d e f p)=p:=by
 have dd:(a*d - b*c) *(a*d - b*c)=1:=by rcases h with h |h <;>rw[h] <;>rfl
 unfold gg ap
 refine CD ?_ ?_
 ·dsimp only
  have:a*((a*d - b*c) *d*p.1+-((a*d - b*c) *b) *p.2+-((a*d - b*c) *d*e - (a*d - b*c) *b*f))+b*(-((a*d - b*c) *c) *p.1+(a*d - b*c) *a*p.2+-(-((a*d - b*c) *c) *e+(a*d - b*c) *a*f))+e=(a*d - b*c) *(a*d - b*c) *p.1+(1 - (a*d - b*c) *(a*d - b*c)) *e:=by grind
  rw[this,dd];omega
 ·dsimp only
  have:c*((a*d - b*c) *d*p.1+-((a*d - b*c) *b) *p.2+-((a*d - b*c) *d*e - (a*d - b*c) *b*f))+d*(-((a*d - b*c) *c) *p.1+(a*d - b*c) *a*p.2+-(-((a*d - b*c) *c) *e+(a*d - b*c) *a*f))+f=(a*d - b*c) *(a*d - b*c) *p.2+(1 - (a*d - b*c) *(a*d - b*c)) *f:=by grind
  rw[this,dd];omega
variable {l:List P2}
theorem qM (h:a*d - b*c=1∨a*d - b*c=-1) (hl:ak l=l) (h3:3≤l.length):ak ((ak (l.map (ap a b c d e f))).map (gg a b c d e f))=l:=by
 have h3':3≤(ak l).length:=by rw[hl];exact h3
 conv=>rhs;rw[←hl]
 refine jA fun z=>?_
 rw[Az]
 constructor
 ·rintro ⟨x,hx,rfl⟩
  obtain ⟨p,hp,rfl⟩:=(lu h h3' x).mp hx
  rw[pW h,←hl];exact hp
 ·intro hz
  exact ⟨ap a b c d e f z,(lu h h3' _).mpr ⟨z,by rw[hl];exact hz,rfl⟩,pW h z⟩
theorem vw (h:a*d - b*c=1∨a*d - b*c=-1) (hl:ak l=l) (h3:3≤l.length) {C A B:P2} (hn:Nb (ak (l.map (ap a b c d e f))) C A B):Nb l (gg a b c d e f C) (gg a b c d e f A) (gg a b c d e f B):=by
 have h3':3≤(ak l).length:=by rw[hl];exact h3
 have k3:3≤(ak (ak (l.map (ap a b c d e f)))).length:=by rw[ig];exact tR h h3'
 rw[←ig] at hn
 have:=v6 (e:=-((a*d - b*c) *d*e - (a*d - b*c) *b*f)) (f:=-(-((a*d - b*c) *c) *e+(a*d - b*c) *a*f)) (x9 h) k3 hn
 have bk:=qM (e:=e) (f:=f) h hl h3
 unfold gg at bk ⊢
 rw[bk] at this
 exact this
theorem shp {ms ms':List (List Int)} (h:a*d - b*c=1∨a*d - b*c=-1) (hl:ak l=l) (h3:3≤l.length) (W:jQ l ms) (W':jQ (ak (l.map (ap a b c d e f))) ms'):∀m'∈ms',∃m∈ms,∀p,apL m p=apL m' (ap a b c d e f p):=by
 intro m' hm'
 obtain ⟨C',A',B',a',b',c',d',e',f',nb,rfl,S⟩:=W'.mem m' hm'
 have nbl:=vw h hl h3 nb
 obtain ⟨a2,b2,c2,d2,e2,f2,mem,S2⟩:=W.all _ _ _ nbl
 have h3':3≤(ak l).length:=by rw[hl];exact h3
 have dn:aq (gg a b c d e f C') (gg a b c d e f A') (gg a b c d e f B')≠0:=xa h3' (by rw[hl];exact nbl)
 have S3:Stn (gg a b c d e f C') (gg a b c d e f A') (gg a b c d e f B') (a'*a+b'*c) (a'*b+b'*d) (c'*a+d'*c) (c'*b+d'*d) (a'*e+b'*f+e') (c'*e+d'*f+f'):=by
  have cm:∀p,ap (a'*a+b'*c) (a'*b+b'*d) (c'*a+d'*c) (c'*b+d'*d) (a'*e+b'*f+e') (c'*e+d'*f+f') (gg a b c d e f p)=ap a' b' c' d' e' f' p:=fun p=>by rw[←kK,vm h]
  refine ⟨?_,by rw[cm];exact S.at0,by rw[cm];exact S.nx,by rw[cm];exact S.ny,by rw[cm];exact S.f0,by rw[cm];exact S.f1⟩
  have:(a'*a+b'*c) *(c'*b+d'*d) - (a'*b+b'*d) *(c'*a+d'*c)=(a'*d' - b'*c') *(a*d - b*c):=by grind
  rw[this]
  rcases S.dt with q |q <;>rcases h with z |z <;>rw[q,z] <;>decide
 obtain ⟨r1,r2,r3,r4,r5,r6⟩:=uJ dn S2 S3
 refine ⟨_,mem,fun p=>?_⟩
 show ap a2 b2 c2 d2 e2 f2 p=ap a' b' c' d' e' f' (ap a b c d e f p)
 rw[kK,r1,r2,r3,r4,r5,r6]
end
structure Fm (l:List P2) (ms:List (List Int)) (x:List P2):Prop where
 mem:∃m∈ms,x=ak (l.map (apL m))
 low:∀m∈ms,ST.ltLs (ak (l.map (apL m))) x=false
theorem ul {pts:List P2}{A B C:P2} (hA:A∈pts) (hB:B∈pts) (hC:C∈pts) (hd:aq A B C≠0):3≤(ak pts).length:=by
 have key:∀c1 c2:P2,(∀c∈ak pts,c=c1∨c=c2)→∀a b:Int,wth a b c1=wth a b c2→∀p∈pts,wth a b p=wth a b c1:=fun c1 c2 hc a b e p hp=>by
  obtain ⟨x,hx,l1⟩:=jD a b hp
  obtain ⟨y,hy,l2⟩:=jD (-a) (-b) hp
  have n:∀q:P2,wth (-a) (-b) q=-wth a b q:=fun q=>by unfold wth;grind
  rw[n,n] at l2
  have wx:wth a b x=wth a b c1:=by rcases hc x hx with z |z <;>rw[z];exact e.symm
  have wy:wth a b y=wth a b c1:=by rcases hc y hy with z |z <;>rw[z];exact e.symm
  omega
 have flat:∀c1 c2:P2,(∀c∈ak pts,c=c1∨c=c2)→aq A B C=0:=fun c1 c2 hc=>by
  by_cases z:c1=c2
  ·subst z
   have e:∀p∈pts,p=c1:=fun p hp=>by
    have h1:=key c1 c1 hc 1 0 rfl p hp
    have h2:=key c1 c1 hc 0 1 rfl p hp
    unfold wth at h1 h2
    exact CD (by omega) (by omega)
   rw[e A hA,e B hB]
   unfold aq;grind
  ·have h:=key c1 c2 hc (c1.2 - c2.2) (c2.1 - c1.1) (by unfold wth;grind)
   have hA':=h A hA
   have hB':=h B hB
   have hC':=h C hC
   unfold wth at hA' hB' hC'
   unfold aq
   have u:c1.2 - c2.2≠0∨c2.1 - c1.1≠0:=by
    by_cases w:c1.2 - c2.2=0
    ·right;intro w'
     exact z (CD (by omega) (by omega))
    ·exact .inl w
   generalize c1.2 - c2.2=s at *
   generalize c2.1 - c1.1=t at *
   have k1:s*(B.1 - A.1)+t*(B.2 - A.2)=0:=by grind
   have k2:s*(C.1 - A.1)+t*(C.2 - A.2)=0:=by grind
   generalize B.1 - A.1=b1 at *
   generalize B.2 - A.2=b2 at *
   generalize C.1 - A.1=c1' at *
   generalize C.2 - A.2=c2' at *
   rcases u with u |u
   ·have:s*(b1*c2' - b2*c1')=0:=by grind
    exact (Ck.mp this).resolve_left u
   ·have:t*(b1*c2' - b2*c1')=0:=by grind
    exact (Ck.mp this).resolve_left u
 refine DP fun z=>hd ?_
 match h:ak pts,z with
 |[],_=>exact absurd h (uW (fun w=>by rw[w] at hA;cases hA))
 |[c1],_=>exact flat c1 c1 (fun c hc=>by rw[h] at hc;simp at hc;exact .inl hc)
 |[c1,c2],_=>exact flat c1 c2 (fun c hc=>by rw[h] at hc;simpa using hc)
 |_::_::_::_,z=>simp at z;omega
structure M6 where
 a:Int
 b:Int
 c:Int
 d:Int
 e:Int
 f:Int
abbrev M6.go (m:M6):P2→P2:=ap m.a m.b m.c m.d m.e m.f
abbrev M6.D (m:M6):Int:=m.a*m.d - m.b*m.c
abbrev M6.U (m:M6):Prop:=m.a*m.d - m.b*m.c=1∨m.a*m.d - m.b*m.c=-1
def M6.bk (m:M6):M6:=⟨(m.a*m.d - m.b*m.c) *m.d,-(m.a*m.d - m.b*m.c) *m.b,-(m.a*m.d - m.b*m.c) *m.c,(m.a*m.d - m.b*m.c) *m.a,-((m.a*m.d - m.b*m.c) *m.d*m.e+-(m.a*m.d - m.b*m.c) *m.b*m.f),-(-(m.a*m.d - m.b*m.c) *m.c*m.e+(m.a*m.d - m.b*m.c) *m.a*m.f)⟩
def M6.bh (m n:M6):M6:=⟨n.a*m.a+n.b*m.c,n.a*m.b+n.b*m.d,n.c*m.a+n.d*m.c,n.c*m.b+n.d*m.d,n.a*m.e+n.b*m.f+n.e,n.c*m.e+n.d*m.f+n.f⟩
def M6.one:M6:=⟨1,0,0,1,0,0⟩
theorem M6.bh_go (m n:M6) (p:P2):(m.bh n).go p=n.go (m.go p):=(kK _ _ _ _ _ _ _ _ _ _ _ _ p).symm
theorem M6.bh_U {m n:M6} (h:m.U) (k:n.U):(m.bh n).U:=by
 have:(m.bh n).a*(m.bh n).d - (m.bh n).b*(m.bh n).c=(m.a*m.d - m.b*m.c) *(n.a*n.d - n.b*n.c):=by unfold M6.bh;dsimp only;grind
 unfold M6.U
 rw[this]
 rcases h with h |h <;>rcases k with k |k <;>rw[h,k] <;>decide
theorem M6.bk_go {m:M6} (h:m.U) (p:P2):m.bk.go (m.go p)=p:=by
 have dd:(m.a*m.d - m.b*m.c) *(m.a*m.d - m.b*m.c)=1:=by rcases h with h |h <;>rw[h] <;>rfl
 unfold M6.bk M6.go ap
 generalize hD:m.a*m.d - m.b*m.c=D at *
 refine CD ?_ ?_ <;>dsimp only
 ·have:D*m.d*(m.a*p.1+m.b*p.2+m.e)+-D*m.b*(m.c*p.1+m.d*p.2+m.f)+-(D*m.d*m.e+-D*m.b*m.f)=D*(m.a*m.d - m.b*m.c) *p.1:=by grind
  rw[this,hD,dd,B0]
 ·have:-D*m.c*(m.a*p.1+m.b*p.2+m.e)+D*m.a*(m.c*p.1+m.d*p.2+m.f)+-(-D*m.c*m.e+D*m.a*m.f)=D*(m.a*m.d - m.b*m.c) *p.2:=by grind
  rw[this,hD,dd,B0]
theorem M6.go_bk {m:M6} (h:m.U) (p:P2):m.go (m.bk.go p)=p:=by
 have dd:(m.a*m.d - m.b*m.c) *(m.a*m.d - m.b*m.c)=1:=by rcases h with h |h <;>rw[h] <;>rfl
 unfold M6.bk M6.go ap
 generalize hD:m.a*m.d - m.b*m.c=D at *
 refine CD ?_ ?_ <;>dsimp only
 ·have:m.a*(D*m.d*p.1+-D*m.b*p.2+-(D*m.d*m.e+-D*m.b*m.f))+m.b*(-D*m.c*p.1+D*m.a*p.2+-(-D*m.c*m.e+D*m.a*m.f))+m.e=D*(m.a*m.d - m.b*m.c) *p.1+(1 - D*(m.a*m.d - m.b*m.c)) *m.e:=by grind
  rw[this,hD,dd];omega
 ·have:m.c*(D*m.d*p.1+-D*m.b*p.2+-(D*m.d*m.e+-D*m.b*m.f))+m.d*(-D*m.c*p.1+D*m.a*p.2+-(-D*m.c*m.e+D*m.a*m.f))+m.f=D*(m.a*m.d - m.b*m.c) *p.2+(1 - D*(m.a*m.d - m.b*m.c)) *m.f:=by grind
  rw[this,hD,dd];omega
theorem M6.bk_U {m:M6} (h:m.U):m.bk.U:=by
 have:m.bk.a*m.bk.d - m.bk.b*m.bk.c=(m.a*m.d - m.b*m.c) *(m.a*m.d - m.b*m.c) *(m.a*m.d - m.b*m.c):=by unfold M6.bk;dsimp only;grind
 unfold M6.U
 rw[this]
 rcases h with h |h <;>rw[h] <;>decide
theorem M6.inj {m:M6} (h:m.U) {p q:P2} (k:m.go p=m.go q):p=q:=tG h k
theorem M6.ext3 {m n:M6} (h:∀p,m.go p=n.go p):m=n:=by
 have h0:=h (0,0)
 have h1:=h (1,0)
 have h2:=h (0,1)
 unfold M6.go ap at h0 h1 h2
 simp only[Jl,C7,Dx,Gp,Gq] at h0 h1 h2
 obtain ⟨a,b,c,d,e,f⟩:=m
 obtain ⟨a',b',c',d',e',f'⟩:=n
 dsimp only at h0 h1 h2
 rw[M6.mk.injEq]
 omega
theorem lc {α:Type} [DecidableEq α]:∀{l m:List α},l.Nodup→(∀x∈l,x∈m)→l.length≤m.length
 |[],m,_,_=>Bh _
 |a::l,m,h,s=>by
  obtain ⟨h1,h2⟩:=Ce.mp h
  have hm:=s a (by simp)
  have e:=lc (l:=l) (m:=m.erase a) h2 fun x hx=>(DH (a:=x) (b:=a) (fun z=>h1 (by rw[←z];exact hx))).mpr (s x (Aw _ hx))
  rw[Dg hm] at e
  have:=Cr hm
  rw[A_];omega
theorem yD {a b:P2} (h:ST.ltP a b=true):ST.srt [a,b]=[a,b]:=by
 refine ST.asc_srt ?_
 unfold ST.Asc
 simp[h]
theorem kt {a b:P2} (h:ST.ltP a b=true):ak [a,b]=[a,b]:=by
 unfold ak
 rw[yD h]
 rfl
theorem qP {a b:P2} (h:a≠b):ak [a,b]=if ST.ltP a b=true then [a,b] else [b,a]:=by
 split
 ·rename_i k;exact kt k
 ·rename_i k
  have k':=ST.ltP_tot h (by simpa using k)
  rw[jA (A:=[a,b]) (B:=[b,a]) (fun z=>by simp;exact Or.comm)]
  exact kt k'
theorem iX {l:List P2} (h:ak l=l):l.Nodup:=by rw[←h];exact cg l
theorem vF {l:List P2}{m:M6} (u:m.U) (hl:ak l=l) (ne:l≠[]) (y:P2):y∈ak (l.map m.go)↔∃p∈l,m.go p=y:=by
 match l,hl,ne with
 |[p],_,_=>
  show y∈ak [m.go p]↔_
  rw[show ak [m.go p]=[m.go p] from rfl]
  simp[eq_comm]
 |[p,q],hl,_=>
  have nd:=iX hl
  have hn:p≠q:=fun z=>by rw[z] at nd;simp at nd
  show y∈ak [m.go p,m.go q]↔_
  rw[qP (fun z=>hn (M6.inj u z))]
  split <;>simp[eq_comm,or_comm]
 |p::q::r::t,hl,_=>
  have h3:3≤(ak (p::q::r::t)).length:=by rw[hl];simp
  have:=lu (e:=m.e) (f:=m.f) u h3 y
  rw[hl] at this
  exact this
structure FP (l x:List P2) (m:M6):Prop where
 hl:ak l=l
 ne:l≠[]
 u:m.U
 ex:x=ak (l.map m.go)
 k:(l.length=1∧x=[(0,0)])∨(l.length=2∧∃g:Int,0 < g∧x=[(0,0),(g,0)])∨(3≤l.length∧∃ms,jQ l ms∧Fm l ms x)
section
variable {l l' x x':List P2}{m m' N:M6}
end
def M6.l (m:M6):List Int:=[m.a,m.b,m.c,m.d,m.e,m.f]
def toM (k:List Int):M6:=⟨k.getD 0 0,k.getD 1 0,k.getD 2 0,k.getD 3 0,k.getD 4 0,k.getD 5 0⟩
theorem t5 (m:M6):toM m.l=m:=rfl
theorem m8 {m n:M6} (h:m.l=n.l):m=n:=by rw[←t5 m,h,t5]
structure Sym (l l':List P2) (m:M6):Prop where
 u:m.U
 mem:∀q,q∈l'↔∃p∈l,m.go p=q
section
variable {l l' l'':List P2}{m n:M6}
theorem Sym.crn (hl':ak l'=l') (h:Sym l l' m):l'=ak (l.map m.go):=by
 rw[←hl']
 exact jA fun z=>by rw[h.mem,Az]
theorem Sym.of (hl:ak l=l) (ne:l≠[]) (u:m.U) (e:l'=ak (l.map m.go)):Sym l l' m:=⟨u,fun q=>by rw[e];exact vF u hl ne q⟩
theorem Sym.srt (h:Sym l l' m):ST.srt (l.map m.go)=ST.srt l':=kz fun z=>by rw[Az,h.mem]
theorem Sym.of_srt (u:m.U) (h:ST.srt (l.map m.go)=ST.srt l'):Sym l l' m:=⟨u,fun q=>by
 rw[←ST.srt_mem,←h,ST.srt_mem,Az]⟩
theorem Sym.stand {ms:List (List Int)} (hl:ak l=l) (h3:3≤l.length) (W:jQ l ms) (S:Sym l l m) {t:M6} (ht:t.l∈ms):(m.bh t).l∈ms:=by
 have e:=S.crn hl
 have W':jQ (ak (l.map m.go)) ms:=by rw[←e];exact W
 obtain ⟨s,hs,k⟩:=shp S.u hl h3 W W' _ ht
 obtain ⟨C,A,B,a,b,c,d,e',f,_,es,_⟩:=W.mem s hs
 have:(⟨a,b,c,d,e',f⟩:M6)=m.bh t:=M6.ext3 fun p=>by
  rw[M6.bh_go]
  have:=k p
  rw[es] at this
  exact this
 rw[←this]
 rw[es] at hs
 exact hs
end
def i0 (l:List P2) (st:List (List Int)) (t:M6):List (List Int):=(st.map fun s=>((toM s).bh t.bk).l).filter fun k=>decide (ak (l.map (apL k))=l)
theorem jQ.u {l:List P2}{ms:List (List Int)} (W:jQ l ms) {s:List Int} (h:s∈ms):(toM s).U∧(toM s).l=s:=by
 obtain ⟨C,A,B,a,b,c,d,e,f,_,es,S⟩:=W.mem s h
 subst es
 exact ⟨S.dt,rfl⟩
section
variable {l:List P2}{st ms:List (List Int)}{t:M6}
theorem nt {k:List Int} (h:k∈i0 l st t):∃m:M6,k=m.l:=by
 obtain ⟨h1,_⟩:=Cd.mp h
 obtain ⟨s,_,rfl⟩:=Az.mp h1
 exact ⟨_,rfl⟩
theorem vo (hl:ak l=l) (h3:3≤l.length) (W:jQ l ms) (hs:∀s,s∈st↔s∈ms) (ht:t.l∈ms) (m:M6):m.l∈i0 l st t↔Sym l l m:=by
 have ne:l≠[]:=fun z=>by rw[z] at h3;simp at h3
 have tu:t.U:=(W.u ht).1
 unfold i0
 rw[Cd,Az]
 constructor
 ·rintro ⟨⟨s,hs',e⟩,d⟩
  have em:=m8 e
  have su:=(W.u ((hs s).mp hs')).1
  have d':=of_decide_eq_true d
  refine Sym.of hl ne (by rw[←em];exact M6.bh_U su (M6.bk_U tu)) ?_
  exact d'.symm
 ·intro S
  refine ⟨⟨(m.bh t).l,(hs _).mpr (S.stand hl h3 W ht),?_⟩,decide_eq_true (S.crn hl).symm⟩
  rw[t5]
  have:(m.bh t).bh t.bk=m:=M6.ext3 fun p=>by rw[M6.bh_go,M6.bh_go,M6.bk_go tu]
  rw[this]
theorem xJ (W:jQ l ms) (hs:∀s,s∈st↔s∈ms) (ht:t.l∈ms) (nd:st.Nodup):(i0 l st t).Nodup:=by
 have tu:t.U:=(W.u ht).1
 refine JA _ ?_
 refine BD.mpr ?_
 refine nd.imp_of_mem fun {a b} ha hb h e=>h ?_
 have em:=m8 e
 have ea:=(W.u ((hs a).mp ha)).2
 have eb:=(W.u ((hs b).mp hb)).2
 rw[←ea,←eb]
 congr 1
 refine M6.ext3 fun p=>?_
 have h1:=congrArg (fun z=>M6.go z p) em
 rw[M6.bh_go,M6.bh_go] at h1
 have:=congrArg t.go h1
 rw[M6.go_bk tu,M6.go_bk tu] at this
 exact this
end
def frm (a b:P2):P2:=(b.1 - a.1,b.2 - a.2)
def trW (C A B:P2):Int:=(frm C A).1*(frm C B).2 - (frm C A).2*(frm C B).1
def trT (C A B C' A' B':P2):List Int:=[(frm C' A').1*(frm C B).2 - (frm C' B').1*(frm C A).2,(frm C' B').1*(frm C A).1 - (frm C' A').1*(frm C B).1,(frm C' A').2*(frm C B).2 - (frm C' B').2*(frm C A).2,(frm C' B').2*(frm C A).1 - (frm C' A').2*(frm C B).1]
def trM (C A B C' A' B':P2):M6:=⟨(trT C A B C' A' B').getD 0 0 / trW C A B,(trT C A B C' A' B').getD 1 0 / trW C A B,(trT C A B C' A' B').getD 2 0 / trW C A B,(trT C A B C' A' B').getD 3 0 / trW C A B,
 C'.1 - (trT C A B C' A' B').getD 0 0 / trW C A B*C.1 - (trT C A B C' A' B').getD 1 0 / trW C A B*C.2,C'.2 - (trT C A B C' A' B').getD 2 0 / trW C A B*C.1 - (trT C A B C' A' B').getD 3 0 / trW C A B*C.2⟩
def vZ (C A B C' A' B':P2):Prop:=(∀x∈trT C A B C' A' B',x % trW C A B=0)∧(trM C A B C' A' B').U
theorem wa {C A B C' A' B':P2}{m:M6} (u:m.U) (w:trW C A B≠0) (e0:m.go C=C') (e1:m.go A=A') (e2:m.go B=B'):vZ C A B C' A' B'∧trM C A B C' A' B'=m:=by
 subst e0 e1 e2
 have f:∀X:P2,frm (m.go C) (m.go X)=(m.a*(frm C X).1+m.b*(frm C X).2,m.c*(frm C X).1+m.d*(frm C X).2):=fun X=>by
  unfold frm M6.go ap;exact CD (by dsimp only;grind) (by dsimp only;grind)
 have t:trT C A B (m.go C) (m.go A) (m.go B)=[trW C A B*m.a,trW C A B*m.b,trW C A B*m.c,trW C A B*m.d]:=by
  unfold trT
  rw[f A,f B]
  unfold trW
  generalize frm C A=p
  generalize frm C B=q
  dsimp only
  rw[CS,CS,CS,CS]
  exact ⟨by grind,by grind,by grind,by grind,rfl⟩
 have q:∀x:Int,trW C A B*x / trW C A B=x:=fun x=>CF _ w
 have em:trM C A B (m.go C) (m.go A) (m.go B)=m:=by
  unfold trM
  rw[t]
  simp only[GS,GT]
  rw[q,q,q,q]
  obtain ⟨a,b,c,d,e,f⟩:=m
  unfold M6.go ap
  rw[M6.mk.injEq]
  dsimp only
  exact ⟨rfl,rfl,rfl,rfl,by omega,by omega⟩
 refine ⟨⟨fun x hx=>?_,by rw[em];exact u⟩,em⟩
 rw[t] at hx
 simp only[AB,BL,or_false] at hx
 rcases hx with e |e |e |e <;>rw[e] <;>exact Int.mul_emod_right _ _
theorem wB {C A B C' A' B':P2} (w:trW C A B≠0) (h:vZ C A B C' A' B'):(trM C A B C' A' B').go C=C'∧(trM C A B C' A' B').go A=A'∧(trM C A B C' A' B').go B=B':=by
 have dv:∀x∈trT C A B C' A' B',trW C A B*(x / trW C A B)=x:=fun x hx=>by
  have:=Gn x (trW C A B)
  rw[h.1 x hx] at this;omega
 have d0:=dv ((trT C A B C' A' B').getD 0 0) (by unfold trT;simp)
 have d1:=dv ((trT C A B C' A' B').getD 1 0) (by unfold trT;simp)
 have d2:=dv ((trT C A B C' A' B').getD 2 0) (by unfold trT;simp)
 have d3:=dv ((trT C A B C' A' B').getD 3 0) (by unfold trT;simp)
 unfold trM
 generalize (trT C A B C' A' B').getD 0 0 / trW C A B=a at *
 generalize (trT C A B C' A' B').getD 1 0 / trW C A B=b at *
 generalize (trT C A B C' A' B').getD 2 0 / trW C A B=c at *
 generalize (trT C A B C' A' B').getD 3 0 / trW C A B=d at *
 unfold trT at d0 d1 d2 d3
 simp only[GS,GT] at d0 d1 d2 d3
 have hw:trW C A B=(frm C A).1*(frm C B).2 - (frm C A).2*(frm C B).1:=rfl
 have can:∀{x y:Int},trW C A B*x=trW C A B*y→x=y:=fun h=>BN w h
 have r1:(frm C' A').1=a*(frm C A).1+b*(frm C A).2:=can (by
  have:trW C A B*(a*(frm C A).1+b*(frm C A).2)=(trW C A B*a) *(frm C A).1+(trW C A B*b) *(frm C A).2:=by grind
  rw[this,d0,d1,hw];grind)
 have r2:(frm C' A').2=c*(frm C A).1+d*(frm C A).2:=can (by
  have:trW C A B*(c*(frm C A).1+d*(frm C A).2)=(trW C A B*c) *(frm C A).1+(trW C A B*d) *(frm C A).2:=by grind
  rw[this,d2,d3,hw];grind)
 have r3:(frm C' B').1=a*(frm C B).1+b*(frm C B).2:=can (by
  have:trW C A B*(a*(frm C B).1+b*(frm C B).2)=(trW C A B*a) *(frm C B).1+(trW C A B*b) *(frm C B).2:=by grind
  rw[this,d0,d1,hw];grind)
 have r4:(frm C' B').2=c*(frm C B).1+d*(frm C B).2:=can (by
  have:trW C A B*(c*(frm C B).1+d*(frm C B).2)=(trW C A B*c) *(frm C B).1+(trW C A B*d) *(frm C B).2:=by grind
  rw[this,d2,d3,hw];grind)
 unfold frm at r1 r2 r3 r4
 dsimp only at r1 r2 r3 r4
 unfold M6.go ap
 refine ⟨CD (by dsimp only;grind) (by dsimp only;grind),CD (by dsimp only;grind) (by dsimp only;grind),CD (by dsimp only;grind) (by dsimp only;grind)⟩
def nbr (l:List P2) (i:Nat) (w:Bool):P2:=if w then gp l (nI l.length i) else gp l (pI l.length i)
def trO (l l':List P2) (i:Nat) (w:Bool):Prop:=vZ (gp l 0) (gp l 1) (gp l (l.length - 1)) (gp l' i) (nbr l' i w) (nbr l' i (!w))
def trm (l l':List P2) (i:Nat) (w:Bool):M6:=trM (gp l 0) (gp l 1) (gp l (l.length - 1)) (gp l' i) (nbr l' i w) (nbr l' i (!w))
theorem lm {l:List P2} (hl:ak l=l) (h3:3≤l.length):0 < trW (gp l 0) (gp l 1) (gp l (l.length - 1)):=by
 have h3':3≤(ak l).length:=by rw[hl];exact h3
 have:=jW h3' (eS h3') (i:=0) (by omega)
 rw[hl,gX (by omega),kj (by omega),if_pos rfl,if_neg (by omega)] at this
 unfold trW frm
 unfold aq at this
 dsimp only[Jy] at *
 grind
theorem Sym.tried {l l':List P2}{m:M6} (hl:ak l=l) (h3:3≤l.length) (hl':ak l'=l') (S:Sym l l' m):∃i w,i < l'.length∧trO l l' i w∧trm l l' i w=m:=by
 have wp:=lm hl h3
 have h3':3≤(ak l).length:=by rw[hl];exact h3
 have e:=S.crn hl'
 have n1:=sW (l:=l) (i:=0) (by omega)
 rw[gX (by omega),kj (by omega),if_pos rfl,if_neg (by omega)] at n1
 have nb:=v6 (e:=m.e) (f:=m.f) S.u h3' (C:=gp l 0) (A:=gp l (l.length - 1)) (B:=gp l 1) (by rw[hl];exact .inl n1)
 have nb':Nb l' (m.go (gp l 0)) (m.go (gp l (l.length - 1))) (m.go (gp l 1)):=by rw[e];exact nb
 have nd:l'.Nodup:=iX hl'
 rcases nb' with q |q
 ·obtain ⟨i,hi,e0,e1,e2⟩:=o6 nd q
  refine ⟨i,true,hi,?_⟩
  unfold trO trm nbr
  exact wa S.u (by omega) e0 e2 e1
 ·obtain ⟨i,hi,e0,e1,e2⟩:=o6 nd q
  refine ⟨i,false,hi,?_⟩
  unfold trO trm nbr
  exact wa S.u (by omega) e0 e1 e2
theorem tL {l l':List P2}{i j:Nat}{w v:Bool} (hl:ak l=l) (h3:3≤l.length) (nd:l'.Nodup) (h3':3≤l'.length) (hi:i < l'.length) (hj:j < l'.length) (O:trO l l' i w) (O':trO l l' j v) (e:trm l l' i w=trm l l' j v):i=j∧w=v:=by
 have wp:=lm hl h3
 obtain ⟨a1,a2,_⟩:=wB (by omega) O
 obtain ⟨b1,b2,_⟩:=wB (by omega) O'
 unfold trm at e
 rw[e] at a1 a2
 have e1:i=j:=pe nd hi hj (a1.symm.trans b1)
 subst e1
 refine ⟨rfl,?_⟩
 have k:=a2.symm.trans b2
 have ne:=wo h3' hi
 have inj:gp l' (nI l'.length i)≠gp l' (pI l'.length i):=fun z=>ne (pe nd (lW hi) (ji hi) z).symm
 unfold nbr at k
 cases w <;>cases v
 ·rfl
 ·exact absurd k.symm inj
 ·exact absurd k inj
 ·rfl
end
section
variable {P:AD}{w:World}{K:Ap}{mg:Str→Option Value}{base:Heap}
theorem rS {m:Nat}{pts:List P2} (h:∀p∈pts,Szp m p):∀p∈ST.srt pts,Szp m p:=fun p hp=>h p ((ST.srt_mem p pts).mp hp)
theorem fD (row:List P2):(aj row).length≤row.length:=by
 have:=fP row row.length
 rwa [Dm] at this
def ot:List U→Out→Prop:=fun us o=>∃pts:List P2,us=[lp pts]∧(∀p∈pts,Szp 5000 p)∧pts.length < 64∧pts≠[]∧o=.new ((ak pts).map pu)
theorem t8 (T:Txt K mg):bF P w K mg base (CXF P w) 4 T.a_field T.d_field ["points"] (spU K (ot)):=by
 refine bG T.F_field fv (fun us o h=>?_) (fun cdv A outer s H E O us o hr h=>?_)
 ·obtain ⟨pts,rfl,sz,hl,hne,rfl⟩:=h
  rfl
 obtain ⟨pts,rfl,sz,hl,hne,rfl⟩:=h
 refine Ws.nox ?_
 have hml:((pts.map pu).length:Int)=(pts.length:Int):=by rw[Ar]
 have hpos:0 < pts.length:=DU.mpr hne
 refine ac (cU (bp dX (aV (dS rfl) rfl T.z_len BF (ae (aa 0 rfl) ao af)) ab) (by rw[hml];exact decide_eq_false (by omega)) (aU ?_))
 have sl:=ST.srt_len pts
 have hms:(((ST.srt pts).map pu).length:Int)=((ST.srt pts).length:Int):=by rw[Ar]
 have szs:=rS sz
 by_cases h1:(ST.srt pts).length=1
 ·refine ac (ko (i:=1) fv.nd rfl (Or.inl rfl) (j3 rfl (kP hr) rfl T.z_sorted rfl T.z_set (aa 0 rfl) hl af) ?_)
  refine ac (iD (bp dX (gC 1 rfl rfl T.z_len) ab) (by rw[hms];exact decide_eq_true (by omega)) ?_)
  refine ac (uh 1 rfl ?_)
  show Out.new _=Out.new _
  unfold ak
  rw[if_pos h1]
 ·refine ac (ax (i:=1) fv.nd rfl (Or.inl rfl) (EvN.ev (j3 rfl (kP hr) rfl T.z_sorted rfl T.z_set (aa 0 rfl) hl af)) ?_)
  refine ac (cU (bp dX (aV (dS rfl) rfl T.z_len BF (ae (aa 1 rfl) ao af)) ab) (by rw[hms];exact decide_eq_false (by omega)) (aU ?_))
  have b1:=fD (ST.srt pts)
  have b2:=fD (ST.srt pts).reverse
  rw[Bn] at b2
  refine ac (ax (i:=2) fv.nd rfl (Or.inl rfl) (EvN.ev (fE ((gr T).mono (by decide)) hr rfl T.m_left_bends T.F_left_bends.kp T.b_left_bends aB (ae (aa 1 rfl) ao af) ⟨ST.srt pts,rfl,szs,by omega,rfl⟩)) ?_)
  refine ac (ax (i:=3) fv.nd rfl (Or.inl rfl) (EvN.ev (fE ((gr T).mono (by decide)) hr rfl T.m_left_bends T.F_left_bends.kp T.b_left_bends aB (ae (EvN.ev (yr (aa 1 rfl) (bK ab) (.inl rfl))) ao bv) ⟨(ST.srt pts).reverse,by rw[lp,Cq],fun p hp=>szs p (AN.mp hp),by rw[Bn];omega,rfl⟩)) ?_)
  refine ac (k_ (jB (EvN.ev (dY (aa 2 rfl) gG (e7 (bK ab)) (.inl rfl))) (EvN.ev (dY (aa 3 rfl) gG (e7 (bK ab)) (.inl rfl))) (by rw[gE,gE,Ar,Ar,CH,CH,Bn,Bn];exact By (aS (by omega)))) ?_)
  show Out.new _=Out.new _
  unfold ak
  rw[if_neg h1,gE,gE,←BB]
def kL:List U→Out→Prop:=fun us o=>∃(pts:List P2) (a b c d e f:Int),us=[lp pts,mv a b c d e f]∧Mv a b c d e f∧(∀p∈pts,Szp 3000 p)∧(∀p∈pts,Szp 5000 (ap a b c d e f p))∧pts≠[]∧pts.length < 64∧o=.new ((ak (pts.map (ap a b c d e f))).map pu)
theorem fN (T:Txt K mg):bF P w K mg base (CXF P w) 5 T.a_field_moved T.d_field_moved ["land","move"] (spU K (kL)):=by
 refine bG T.F_field_moved fG (fun us o h=>?_) (fun cdv A outer s H E O us o hr h=>?_)
 ·obtain ⟨pts,a,b,c,d,e,f,rfl,M,sz,sy,hne,hl,rfl⟩:=h
  rfl
 obtain ⟨pts,a,b,c,d,e,f,rfl,M,sz,sy,hne,hl,rfl⟩:=h
 refine Ws.nox ?_
 refine ac (k_ (fE ((t8 T).mono (by decide)) hr rfl T.m_field T.F_field.kp T.b_field aB (ae (EvN.ev (gJ (ys:=(pts.map fun p=>pu (ap a b c d e f p))) rfl (blk (ag bO) ["land","move","P"] [2] rfl rfl rfl rfl (by decide+kernel)) (cD (aa 0 rfl) (.inl rfl)) (fun _ _ _ _=>bj (i:=2) fG.nd rfl (Or.inl rfl)) (cQ (by decide)) ?clen ?csz (fun _ _=>trivial) ?celt)) ao e_) ⟨pts.map (ap a b c d e f),by rw[lp,Bf];rfl,fun p hp=>by obtain ⟨q,hq,rfl⟩:=Az.mp hp;exact sy q hq,by rw[Ar];exact hl,by simpa using hne,rfl⟩) ?_)
 case clen=>simp
 case csz=>rw[Ar];exact By (aS (by omega))
 case celt=>
  intro C s' H' fp j x y hx hy
  obtain ⟨p,hp,mp,rfl,rfl⟩:=fR hx hy
  exact (aw ((eT T).mono (by decide)) hr rfl T.m_moved T.F_moved.kp T.b_moved aB (ae (aa 2 rfl) (ae (aa 1 rfl) ao af) af) ⟨p.1,p.2,a,b,c,d,e,f,rfl,M,(sz p mp).1.mono (by decide),(sz p mp).2.mono (by decide),rfl⟩)
 exact rfl
end
section
variable {P:AD}{w:World}{K:Ap}{mg:Str→Option Value}{base:Heap}
structure SM (C A B:P2) (a b c d e f:Int) (g u v s t s1 t1 k q x y:Int):Prop where
 L:LvG C A g u v s t s1 t1
 hx:x=s*B.1+t*B.2+(-s*C.1 - t*C.2)
 hy:y=-v*B.1+u*B.2+(v*C.1 - u*C.2)
 hk:(k=1∧0 < y)∨(k=-1∧y < 0)
 hq:q=x / (k*y)
 ea:a=s - q*(k* -v)
 eb:b=t - q*(k*u)
 ec:c=k* -v
 ed:d=k*u
 ee:e=(-s*C.1 - t*C.2) - q*(k*(v*C.1 - u*C.2))
 ef:f=k*(v*C.1 - u*C.2)
def SMx (C A B:P2) (a b c d e f:Int):Prop:=∃g u v s t s1 t1 k q x y,SM C A B a b c d e f g u v s t s1 t1 k q x y
theorem we {C A B:P2} (h:C≠A) (hd:aq C A B≠0):∃a b c d e f,SMx C A B a b c d e f:=by
 obtain ⟨g,u,v,s,t,s1,t1,L⟩:=wY h
 have gp:0 < g:=by have:=L.G.g0;have:=L.gn;omega
 have e1:A.1 - C.1=g*u:=by rw[L.hu];exact (DK L.G.da).symm
 have e2:A.2 - C.2=g*v:=by rw[L.hv];exact (DK L.G.db).symm
 have yn:-v*B.1+u*B.2+(v*C.1 - u*C.2)≠0:=fun z=>hd (by
  unfold aq
  rw[e1,e2]
  have:g*u*(B.2 - C.2) - g*v*(B.1 - C.1)=g*(-v*B.1+u*B.2+(v*C.1 - u*C.2)):=by grind
  rw[this,z,C7])
 by_cases yp:0 < -v*B.1+u*B.2+(v*C.1 - u*C.2)
 ·exact ⟨_,_,_,_,_,_,g,u,v,s,t,s1,t1,1,_,_,_,L,rfl,rfl,.inl ⟨rfl,yp⟩,rfl,rfl,rfl,rfl,rfl,rfl,rfl⟩
 ·exact ⟨_,_,_,_,_,_,g,u,v,s,t,s1,t1,-1,_,_,_,L,rfl,rfl,.inr ⟨rfl,by omega⟩,rfl,rfl,rfl,rfl,rfl,rfl,rfl⟩
section
variable {C A B:P2}{a b c d e f g u v s t s1 t1 k q x y:Int}
theorem SM.stn (h:SM C A B a b c d e f g u v s t s1 t1 k q x y):Stn C A B a b c d e f:=by
 have gp:0 < g:=by have:=h.L.G.g0;have:=h.L.gn;omega
 have e1:A.1 - C.1=g*u:=by rw[h.L.hu];exact (DK h.L.G.da).symm
 have e2:A.2 - C.2=g*v:=by rw[h.L.hv];exact (DK h.L.G.db).symm
 rw[h.ea,h.eb,h.ec,h.ed,h.ee,h.ef]
 refine xr gp e1 e2 h.L.G1.eq h.hx h.hy ?_ ?_ h.hq
 ·rcases h.hk with ⟨z,_⟩ |⟨z,_⟩
  ·exact .inl z
  ·exact .inr z
 ·rcases h.hk with ⟨z,w⟩ |⟨z,w⟩ <;>rw[z] <;>omega
structure SMz (m:Nat) (u v s t x y e0 f0 q:Int):Prop where
 u:Sz (m+1) u
 v:Sz (m+1) v
 s:Sz (m+9) s
 t:Sz (2*m+10) t
 e0:Sz (3*m+11) e0
 f0:Sz (2*m+2) f0
 x:Sz (3*m+13) x
 y:Sz (2*m+4) y
 q:Sz (3*m+13) q
theorem SM.sz {m:Nat} (h:SM C A B a b c d e f g u v s t s1 t1 k q x y) (zC:Szp m C) (zA:Szp m A) (zB:Szp m B):SMz m u v s t x y (-s*C.1 - t*C.2) (v*C.1 - u*C.2) q:=by
 have zu:Sz (m+1) u:=by rw[h.L.hu];exact ((L2.Sz.sub' zA.1 zC.1).mono (by omega):Sz (m+1) _).ediv
 have zv:Sz (m+1) v:=by rw[h.L.hv];exact ((L2.Sz.sub' zA.2 zC.2).mono (by omega):Sz (m+1) _).ediv
 obtain ⟨_,zs,zt⟩:=iY h.L.G1 zu zv
 have ze:Sz (3*m+11) (-s*C.1 - t*C.2):=(L2.Sz.sub' (L2.Sz.mul (L2.Sz.neg zs) zC.1) (L2.Sz.mul zt zC.2)).mono (by omega)
 have zf:Sz (2*m+2) (v*C.1 - u*C.2):=(L2.Sz.sub' (L2.Sz.mul zv zC.1) (L2.Sz.mul zu zC.2)).mono (by omega)
 have zx:Sz (3*m+13) x:=by rw[h.hx];exact (L2.Sz.add' (L2.Sz.add' (L2.Sz.mul zs zB.1) (L2.Sz.mul zt zB.2)) ze).mono (by omega)
 have zy:Sz (2*m+4) y:=by rw[h.hy];exact (L2.Sz.add' (L2.Sz.add' (L2.Sz.mul (L2.Sz.neg zv) zB.1) (L2.Sz.mul zu zB.2)) zf).mono (by omega)
 exact ⟨zu,zv,zs.mono (by omega),zt.mono (by omega),ze,zf,zx,zy,by rw[h.hq];exact zx.ediv⟩
theorem SM.k1 (h:SM C A B a b c d e f g u v s t s1 t1 k q x y):Sz 1 k:=by
 rcases h.hk with ⟨z,_⟩ |⟨z,_⟩ <;>rw[z] <;>decide
structure Mz (m:Nat) (a b c d e f:Int):Prop where
 u:a*d - b*c=1∨a*d - b*c=-1
 a:Sz (4*m+16) a
 b:Sz (4*m+16) b
 c:Sz (m+2) c
 d:Sz (m+2) d
 e:Sz (5*m+17) e
 f:Sz (2*m+3) f
theorem SM.mz {m:Nat} (h:SM C A B a b c d e f g u v s t s1 t1 k q x y) (zC:Szp m C) (zA:Szp m A) (zB:Szp m B):Mz m a b c d e f:=by
 have Z:=h.sz zC zA zB
 have zk:=h.k1
 refine ⟨h.stn.dt,?_,?_,?_,?_,?_,?_⟩
 ·rw[h.ea];exact (L2.Sz.sub' Z.s (L2.Sz.mul Z.q (L2.Sz.mul zk (L2.Sz.neg Z.v)))).mono (by omega)
 ·rw[h.eb];exact (L2.Sz.sub' Z.t (L2.Sz.mul Z.q (L2.Sz.mul zk Z.u))).mono (by omega)
 ·rw[h.ec];exact (L2.Sz.mul zk (L2.Sz.neg Z.v)).mono (by omega)
 ·rw[h.ed];exact (L2.Sz.mul zk Z.u).mono (by omega)
 ·rw[h.ee];exact (L2.Sz.sub' Z.e0 (L2.Sz.mul Z.q (L2.Sz.mul zk Z.f0))).mono (by omega)
 ·rw[h.ef];exact (L2.Sz.mul zk Z.f0).mono (by omega)
theorem Mz.mv {m:Nat} (h:Mz m a b c d e f) (hm:m≤1000):Mv a b c d e f:=
 ⟨h.u,h.a.mono (by omega),h.b.mono (by omega),h.c.mono (by omega),h.d.mono (by omega),h.e.mono (by omega),h.f.mono (by omega)⟩
theorem Mz.ap {m:Nat} (h:Mz m a b c d e f) {p:P2} (z:Szp m p):Szp (5*m+30) (ap a b c d e f p):=
 ⟨(L2.Sz.add' (L2.Sz.add' (L2.Sz.mul h.a z.1) (L2.Sz.mul h.b z.2)) h.e).mono (by omega),(L2.Sz.add' (L2.Sz.add' (L2.Sz.mul h.c z.1) (L2.Sz.mul h.d z.2)) h.f).mono (by omega)⟩
end
theorem xk (a b c d e f:Int):beh a b c d e f 1 0 0 (-1) 0 0=mv a b (-c) (-d) e (-f):=by
 unfold beh
 rw[show (1*a+0*c:Int)=a by omega,show (1*b+0*d:Int)=b by omega,show (0*a+-1*c:Int)=-c by omega,show (0*b+-1*d:Int)=-d by omega,show (1*e+0*f+0:Int)=e by omega,show (0*e+-1*f+0:Int)=-f by omega]
theorem uA (a b c d e f q:Int):beh a b c d e f 1 (-q) 0 1 0 0=mv (a - q*c) (b - q*d) c d (e - q*f) f:=by
 unfold beh
 rw[show (1*a+-q*c:Int)=a - q*c by grind,show (1*b+-q*d:Int)=b - q*d by grind,show (0*a+1*c:Int)=c by omega,show (0*b+1*d:Int)=d by omega,show (1*e+-q*f+0:Int)=e - q*f by grind,show (0*e+1*f+0:Int)=f by omega]
theorem yi:Mv 1 0 0 (-1) 0 0:=by
 have k:∀{x:Int},Sz 8 x→Sz 30000 x:=fun h=>h.mono (by decide)
 exact ⟨.inr (by decide),k (by decide),k (by decide),k (by decide),k (by decide),k (by decide),k (by decide)⟩
theorem uc {q:Int} (z:Sz 4000 q):Mv 1 (-q) 0 1 0 0:=by
 have k:∀{x:Int},Sz 8 x→Sz 30000 x:=fun h=>h.mono (by decide)
 exact ⟨.inl (by omega),k (by decide),(L2.Sz.neg z).mono (by decide),k (by decide),k (by decide),k (by decide),k (by decide)⟩
def oA:List U→Out→Prop:=fun us o=>∃(C A B:P2) (a b c d e f:Int),us=[pu C,pu A,pu B]∧Szp 400 C∧Szp 400 A∧Szp 400 B∧SMx C A B a b c d e f∧o=.val (mv a b c d e f)
theorem mt (T:Txt K mg):bF P w K mg base (CXF P w) 6 T.a_stand T.d_stand ["corner","along","aside"] (spU K (oA)):=by
 refine bG T.F_stand fM (fun us o h=>?_) (fun cdv A outer s H E O us o hr h=>?_)
 ·obtain ⟨C,A,B,a,b,c,d,e,f,rfl,zC,zA,zB,⟨g,u,v,s',t,s1,t1,k,q,x,y,S⟩,rfl⟩:=h
  rfl
 obtain ⟨C,A,B,a,b,c,d,e,f,rfl,zC,zA,zB,⟨g,u,v,s',t,s1,t1,k,q,x,y,S⟩,rfl⟩:=h
 refine Ws.nox ?_
 have Z:=S.sz zC zA zB
 have L:=S.L
 have e1:=L.G1
 rw[L.hu,L.hv] at e1
 have two:vV C.1 C.2 A.1 A.2:=⟨zC.1.mono (by decide),zC.2.mono (by decide),zA.1.mono (by decide),zA.2.mono (by decide)⟩
 have M0:Mv s' t (-v) u (-s'*C.1 - t*C.2) (v*C.1 - u*C.2):=⟨.inl (by have:=L.G1.eq;grind),Z.s.mono (by decide),Z.t.mono (by decide),(L2.Sz.neg Z.v).mono (by decide),Z.u.mono (by decide),Z.e0.mono (by decide),Z.f0.mono (by decide)⟩
 have b1:Sz 30000 B.1:=zB.1.mono (by decide)
 have b2:Sz 30000 B.2:=zB.2.mono (by decide)
 have hx:=S.hx
 have hy:=S.hy
 have hq:=S.hq
 have zy:=Z.y
 have zq:=Z.q
 have key:=S
 refine ac (ax (i:=3) fM.nd rfl (Or.inl rfl) (aw ((lP T).mono (by decide)) hr rfl T.m_level T.F_level.kp T.b_level aB (ae (aa 0 rfl) (ae (aa 1 rfl) ao af) af) ⟨C.1,C.2,A.1,A.2,g,s1,t1,s',t,rfl,two,L.G,L.gn,e1,rfl⟩) ?_)
 rw[←L.hu,←L.hv]
 rcases S.hk with ⟨hk,yp⟩ |⟨hk,yn⟩
 ·subst hk
  refine ac (cU (bp p8 (ar (aw ((eT T).mono (by decide)) hr rfl T.m_moved T.F_moved.kp T.b_moved aB (ae (aa 2 rfl) (ae (aa 3 rfl) ao af) af) ⟨B.1,B.2,s',t,-v,u,_,_,rfl,M0,b1,b2,rfl⟩) ab rfl rfl) ab) (decide_eq_false (show ¬ (-v*B.1+u*B.2+(v*C.1 - u*C.2) < 0) by rw[←hy];omega)) (aU ?_))
  refine ac (ax (i:=4) fM.nd rfl (Or.inl rfl) (aw ((eT T).mono (by decide)) hr rfl T.m_moved T.F_moved.kp T.b_moved aB (ae (aa 2 rfl) (ae (aa 3 rfl) ao af) af) ⟨B.1,B.2,s',t,-v,u,_,_,rfl,M0,b1,b2,rfl⟩) ?_)
  rw[←hx,←hy]
  rw[B0] at hq
  refine ac (bA (aw ((fO T).mono (by decide)) hr rfl T.m_behind T.F_behind.kp T.b_behind aB (ae (aa 3 rfl) (ae (bo (ai ab (ai (bK (dE (ar (aa 4 rfl) ab rfl rfl) (ar (aa 4 rfl) ab rfl rfl) ⟨yp,zy.mono (by decide)⟩)) (ai ab (ai ab (ai ab (ai ab bg aG) aG) aG) aG) cC) aG)) ao cX) af) ⟨s',t,-v,u,_,_,1,-(x / y),0,1,0,0,rfl,M0,uc (by rw[←hq];exact zq.mono (by decide)),rfl⟩) ?_)
  rw[←hq]
  refine congrArg Out.val ((uA _ _ _ _ _ _ _).trans ?_)
  rw[S.ea,S.eb,S.ec,S.ed,S.ee,S.ef,B0,B0,B0]
 ·subst hk
  have yy:-1*y=-y:=by omega
  rw[yy] at hq
  have M1:Mv s' t (- -v) (-u) (-s'*C.1 - t*C.2) (-(v*C.1 - u*C.2)):=⟨.inr (by have:=L.G1.eq;grind),M0.a,M0.b,L2.Sz.neg M0.c,L2.Sz.neg M0.d,M0.e,L2.Sz.neg M0.f⟩
  refine ac (iD (bp p8 (ar (aw ((eT T).mono (by decide)) hr rfl T.m_moved T.F_moved.kp T.b_moved aB (ae (aa 2 rfl) (ae (aa 3 rfl) ao af) af) ⟨B.1,B.2,s',t,-v,u,_,_,rfl,M0,b1,b2,rfl⟩) ab rfl rfl) ab) (decide_eq_true (show -v*B.1+u*B.2+(v*C.1 - u*C.2) < 0 by rw[←hy];exact yn)) ?_)
  refine ac (ax (i:=3) fM.nd rfl (Or.inl rfl) (aw ((fO T).mono (by decide)) hr rfl T.m_behind T.F_behind.kp T.b_behind aB (ae (aa 3 rfl) (ae (bo (ai ab (ai ab (ai ab (ai (bK ab) (ai ab (ai ab bg aG) aG) cC) aG) aG) aG)) ao cX) af) ⟨s',t,-v,u,_,_,1,0,0,-1,0,0,rfl,M0,yi,(congrArg Out.val (xk _ _ _ _ _ _)).symm⟩) (aU ?_))
  have hy2:- -v*B.1+-u*B.2+-(v*C.1 - u*C.2)=-y:=by rw[hy];grind
  refine ac (ax (i:=4) fM.nd rfl (Or.inl rfl) (aw ((eT T).mono (by decide)) hr rfl T.m_moved T.F_moved.kp T.b_moved aB (ae (aa 2 rfl) (ae (aa 3 rfl) ao af) af) ⟨B.1,B.2,s',t,- -v,-u,_,_,rfl,M1,b1,b2,rfl⟩) ?_)
  rw[←hx,hy2]
  refine ac (bA (aw ((fO T).mono (by decide)) hr rfl T.m_behind T.F_behind.kp T.b_behind aB (ae (aa 3 rfl) (ae (bo (ai ab (ai (bK (dE (ar (aa 4 rfl) ab rfl rfl) (ar (aa 4 rfl) ab rfl rfl) ⟨(by omega),(L2.Sz.neg zy).mono (by decide)⟩)) (ai ab (ai ab (ai ab (ai ab bg aG) aG) aG) aG) cC) aG)) ao cX) af) ⟨s',t,- -v,-u,_,_,1,-(x / -y),0,1,0,0,rfl,M1,uc (by rw[←hq];exact zq.mono (by decide)),rfl⟩) ?_)
  rw[←hq]
  refine congrArg Out.val ((uA _ _ _ _ _ _ _).trans ?_)
  rw[S.ea,S.eb,S.ec,S.ed,S.ee,S.ef,show -1* -v=- -v by omega,show -1*u=-u by omega,show -1*(v*C.1 - u*C.2)=-(v*C.1 - u*C.2) by omega]
end
section
variable {P:AD}{w:World}{K:Ap}{mg:Str→Option Value}{base:Heap}
theorem sJ {l:List P2} (h:0 < l.length):fi (l.map pu) (some (-1)) none++fi (l.map pu) none (some (-1))=((Bi l.length).map fun i=>gp l (pI l.length i)).map pu:=by
 rw[gE]
 have e:fi (l.map pu) (some (-1)) none=[pu (gp l (l.length - 1))]:=by
  unfold fi HT.sIx
  have e2:l=l.dropLast++[gp l (l.length - 1)]:=by
   have hne:l≠[]:=fun z=>by rw[z] at h;simp at h
   have:=(List.dropLast_concat_getLast hne).symm
   rw[List.getLast_eq_getElem] at this
   have g:gp l (l.length - 1)=l[l.length - 1]:=by
    show l.getD (l.length - 1) (0,0)=_
    rw[Ax,An (by omega)];rfl
   rw[g];exact this
  have e3:((-1:Int)+((l.map pu).length:Int)).toNat=l.length - 1:=by rw[Ar];omega
  simp only[show ((-1:Int) < 0)=True by simp,if_true,e3]
  rw[Ar,←G6]
  have e4:l.drop (l.length - 1)=[gp l (l.length - 1)]:=by
   have:=congrArg (JN (l.length - 1)) e2
   rw[this,List.drop_append_of_le_length (by simp),Eg (by simp)];rfl
  rw[e4]
  show JM (l.length - (l.length - 1)) [pu (gp l (l.length - 1))]=_
  rw[show l.length - (l.length - 1)=1 by omega];rfl
 rw[e]
 apply Cz
 intro i
 by_cases hi:i < l.length
 ·rw[Bf,Av,DV hi]
  show _=some (pu (gp l (pI l.length i)))
  rw[gX hi]
  match i,hi with
  |0,hi=>rfl
  |i+1,hi=>
   rw[if_neg (by omega)]
   show (List.map pu l.dropLast)[i]?=_
   rw[Av,CT,if_pos (by omega)]
   rw[show i+1 - 1=i by omega,fH (show i < l.length by omega)];rfl
 ·rw[AZ (by simp;omega),AZ (by simp;omega)]
theorem rC {l:List P2} (h:0 < l.length):fi (l.map pu) (some 1) none++fi (l.map pu) none (some 1)=((Bi l.length).map fun i=>gp l (nI l.length i)).map pu:=by
 rw[yx,zh]
 apply Cz
 intro i
 by_cases hi:i < l.length
 ·rw[Bf,Av,DV hi]
  show _=some (pu (gp l (nI l.length i)))
  rw[kj hi]
  by_cases k:i+1=l.length
  ·rw[if_pos k,A0 (by simp;omega),HB,Ar,show i - (l.length - 1)=0 by omega,List.getElem?_take,if_pos (by decide),Av,fH h];rfl
  ·rw[if_neg k,A7 (by simp;omega),Du,Av,show 1+i=i+1 by omega,fH (show i+1 < l.length by omega)];rfl
 ·rw[AZ (by simp;omega),AZ (by simp;omega)]
structure Gen (l:List P2) (F G:Nat→List Int):Prop where
 n3:3≤l.length
 n64:l.length≤31
 nd:l.Nodup
 sz:∀p∈l,Szp 400 p
 F:∀i,i < l.length→∃a b c d e f,F i=[a,b,c,d,e,f]∧SMx (gp l i) (gp l (pI l.length i)) (gp l (nI l.length i)) a b c d e f
 G:∀i,i < l.length→∃a b c d e f,G i=[a,b,c,d,e,f]∧SMx (gp l i) (gp l (nI l.length i)) (gp l (pI l.length i)) a b c d e f
def msU (n:Nat) (F G:Nat→List Int):List (List Int):=(Bi (2*n)).map fun x=>if x % 2=0 then F (x / 2) else G (x / 2)
theorem Gen.all {l:List P2}{F G:Nat→List Int} (h:Gen l F G):All l (msU l.length F G):=by
 refine xY h.nd h.n3 F G (fun i hi=>?_) (fun i hi=>?_)
 ·obtain ⟨a,b,c,d,e,f,e1,g,u,v,s,t,s1,t1,k,q,x,y,S⟩:=h.F i hi
  exact ⟨a,b,c,d,e,f,e1,S.stn⟩
 ·obtain ⟨a,b,c,d,e,f,e1,g,u,v,s,t,s1,t1,k,q,x,y,S⟩:=h.G i hi
  exact ⟨a,b,c,d,e,f,e1,S.stn⟩
theorem tV (n:Nat) (F G:Nat→List Int):msU (n+1) F G=msU n F G++[F n]++[G n]:=by
 unfold msU
 rw[show 2*(n+1)=2*n+1+1 by omega,Gr,Gr,BB,BB]
 congr 1
 ·congr 1
  show [if 2*n % 2=0 then F (2*n / 2) else G (2*n / 2)]=_
  rw[if_pos (by omega),show 2*n / 2=n by omega]
 ·show [if (2*n+1) % 2=0 then F ((2*n+1) / 2) else G ((2*n+1) / 2)]=_
  rw[if_neg (by omega),show (2*n+1) / 2=n by omega]
theorem iO (n:Nat) (F G:Nat→List Int):(msU n F G).length=2*n:=by unfold msU;simp
def my:List U→Out→Prop:=fun us o=>∃(l:List P2) (F G:Nat→List Int),us=[lp l]∧Gen l F G∧o=.new ((ST6.srtL (msU l.length F G)).map sxU)
theorem jU (T:Txt K mg):bF P w K mg base (CXF P w) 7 T.a_stands T.d_stands ["land"] (spU K (my)):=by
 refine bG T.F_stands eE (fun us o h=>?_) (fun cdv A outer s H E O us o hr h=>?_)
 ·obtain ⟨l,F,G,rfl,W,rfl⟩:=h
  rfl
 obtain ⟨l,F,G,rfl,W,rfl⟩:=h
 refine Ws.nox ?_
 have n3:=W.n3
 have n64:=W.n64
 have n0:0 < l.length:=by omega
 have q1:=sJ n0
 have q2:=rC n0
 refine ac (cU (bp p8 (aV (dS rfl) rfl T.z_len BF (ae (aa 0 rfl) ao af)) ab) (by rw[Ar];exact decide_eq_false (by omega)) (aU ?_))
 refine ac (ko (i:=1) eE.nd rfl (Or.inl rfl) (dD bg) ?_)
 refine ac (v5 (fun i:Nat=>[some (.val (lp l)),some (.own ((msU i F G).map sxU)),none,none,none]) (fun i j=>i=j) rfl PassesOwn.never (xI rfl T.z_zip (EvN.ev (jB (EvN.ev (dY (aa 0 rfl) (e7 (bK ab)) gG (.inl rfl))) (EvN.ev (dY (aa 0 rfl) gG (e7 (bK ab)) (.inl rfl))) (by rw[←Bd,q1];simp;exact By (aS (by omega))))) (.inl rfl) (aa 0 rfl) (.inl rfl) (EvN.ev (jB (EvN.ev (dY (aa 0 rfl) (e7 ab) gG (.inl rfl))) (EvN.ev (dY (aa 0 rfl) gG (e7 ab) (.inl rfl))) (by rw[←Bd,q2];simp;exact By (aS (by omega))))) (.inl rfl) (by rw[q1];simp) (by rw[q1,q2];simp) bB af bB) ?h0 ?hs ?hd)
 case h0=>exact ⟨0,rfl,rfl,rfl,trivial⟩
 case hs=>
  rintro H0 i x _ hx rfl
  rw[q1,q2] at hx
  have hi:i < l.length:=by
   have:=aF hx
   rwa [fT (by simp) (by simp),Ar,Ar,Ft] at this
  have at1:∀(f:Nat→P2),(((Bi l.length).map f).map pu)[i]?=some (pu (f i)):=fun f=>by rw[Bf,Av,DV hi];rfl
  have at2:(l.map pu)[i]?=some (pu (gp l i)):=by rw[Av,fH hi];rfl
  rw[jj (at1 _) at2 (at1 _)] at hx
  cases hx
  have zc:=W.sz _ (b_ hi)
  have zp:=W.sz _ (b_ (ji hi))
  have zn:=W.sz _ (b_ (lW hi))
  obtain ⟨a,b,c,d,e,f,eF,SF⟩:=W.F i hi
  obtain ⟨a',b',c',d',e',f',eG,SG⟩:=W.G i hi
  refine ⟨_,(wO [2,3,4] rfl (bS (bj (i:=2) eE.nd rfl (Or.inl rfl)) (bS (bj (i:=3) eE.nd rfl (Or.inl rfl)) (bS (bj (i:=4) eE.nd rfl (Or.inl rfl)) gZ))) rfl),?_⟩
  refine ac (eI 1 rfl (aw ((mt T).mono (by decide)) hr rfl T.m_stand T.F_stand.kp T.b_stand aB (ae (aa 3 rfl) (ae (aa 2 rfl) (ae (aa 4 rfl) ao af) af) af) ⟨_,_,_,a,b,c,d,e,f,rfl,zc,zp,zn,SF,rfl⟩) (by rw[Ar,iO];exact aS (by omega)) ?_)
  refine ac (eI 1 rfl (aw ((mt T).mono (by decide)) hr rfl T.m_stand T.F_stand.kp T.b_stand aB (ae (aa 3 rfl) (ae (aa 4 rfl) (ae (aa 2 rfl) ao af) af) af) ⟨_,_,_,a',b',c',d',e',f',rfl,zc,zn,zp,SG,rfl⟩) (by rw[Bd,Ar,iO];exact aS (by simp;omega)) (aU ?_))
  refine ⟨i+1,rfl,rfl,?_,trivial⟩
  refine congrArg (fun z=>some (Sl.own z)) ?_
  rw[tV,BB,BB,eF,eG];rfl
 case hd=>
  rintro q ps hq hps
  refine dm ?_ hps
  have:q=l.length:=by rw[←hq,q1,q2,fT (by simp) (by simp)];simp
  subst this
  have A:=W.all
  refine lC 1 rfl ?_
  refine ac (k_ (jG rfl T.z_sorted (aa 1 rfl) ⟨by rw[iO];omega,A.nodup,A.six⟩ af) ?_)
  exact rfl
end
section
variable {P:AD}{w:World}{K:Ap}{mg:Str→Option Value}{base:Heap}
def stL (l:List P2) (F G:Nat→List Int):List (List Int):=ST6.srtL (msU l.length F G)
def shK (l:List P2) (F G:Nat→List Int) (j:Nat):List P2:=ak (l.map (apL ((stL l F G).getD j [])))
def ka (l:List P2) (F G:Nat→List Int):Nat:=abK (shK l F G) ((stL l F G).length - 1)
def lR (l:List P2) (F G:Nat→List Int):List Int:=(stL l F G).getD (ka l F G) []
theorem nT {α:Type} [DecidableEq α]:∀{l m:List α},l.Nodup→(∀x∈l,x∈m)→l.length≤m.length
 |[],m,_,_=>Bh _
 |a::l,m,h,s=>by
  obtain ⟨h1,h2⟩:=Ce.mp h
  have hm:=s a (by simp)
  have e:=nT (l:=l) (m:=m.erase a) h2 fun x hx=>(DH (a:=x) (b:=a) (fun z=>h1 (by rw[←z];exact hx))).mpr (s x (Aw _ hx))
  rw[Dg hm] at e
  have:=Cr hm
  rw[A_];omega
theorem ud {ms:List (List Int)} (nd:ms.Nodup):(ST6.srtL ms).length=ms.length:=by
 have n2:(ST6.srtL ms).Nodup:=(ST6.srtL_ascL ms).imp fun {a b} h e=>by subst e;rw[ST6.ascL_irr] at h;cases h
 exact Nat.le_antisymm (nT n2 fun x hx=>(ST6.srtL_mem x ms).mp hx) (nT nd fun x hx=>(ST6.srtL_mem x ms).mpr hx)
theorem Gen.len {l:List P2}{F G:Nat→List Int} (W:Gen l F G):(stL l F G).length=2*l.length:=by
 unfold stL
 rw[ud W.all.nodup,iO]
theorem Gen.mz {m:Nat}{l:List P2}{F G:Nat→List Int} (W:Gen l F G) (sz:∀p∈l,Szp m p) {x:List Int} (h:x∈msU l.length F G):∃a b c d e f,x=[a,b,c,d,e,f]∧Mz m a b c d e f:=by
 unfold msU at h
 obtain ⟨x,hx,rfl⟩:=Az.mp h
 have hi:x / 2 < l.length:=by have:=AQ.mp hx;omega
 have zc:=sz _ (b_ hi)
 have zp:=sz _ (b_ (ji hi))
 have zn:=sz _ (b_ (lW hi))
 split
 ·obtain ⟨a,b,c,d,e,f,e1,g,u,v,s,t,s1,t1,k,q,x,y,S⟩:=W.F _ hi
  exact ⟨a,b,c,d,e,f,e1,S.mz zc zp zn⟩
 ·obtain ⟨a,b,c,d,e,f,e1,g,u,v,s,t,s1,t1,k,q,x,y,S⟩:=W.G _ hi
  exact ⟨a,b,c,d,e,f,e1,S.mz zc zn zp⟩
theorem Gen.at_ {l:List P2}{F G:Nat→List Int} (W:Gen l F G) {j:Nat} (h:j < (stL l F G).length):(stL l F G).getD j []∈msU l.length F G:=by
 rw[Ax,An h]
 exact (ST6.srtL_mem _ _).mp (DR h)
theorem Gen.fm {l:List P2}{F G:Nat→List Int} (W:Gen l F G) {j:Nat} (h:j < (stL l F G).length):kL [lp l,sxU ((stL l F G).getD j [])] (.new ((shK l F G j).map pu)):=by
 obtain ⟨a,b,c,d,e,f,e1,M⟩:=W.mz W.sz (W.at_ h)
 unfold shK
 rw[e1]
 have n3:=W.n3
 have n60:=W.n64
 refine ⟨l,a,b,c,d,e,f,rfl,M.mv (by decide),fun p hp=>⟨(W.sz p hp).1.mono (by decide),(W.sz p hp).2.mono (by decide)⟩,fun p hp=>?_,fun z=>by rw[z] at n3;simp at n3,by omega,rfl⟩
 have:=M.ap (W.sz p hp)
 exact ⟨this.1.mono (by decide),this.2.mono (by decide)⟩
theorem Gen.best {l:List P2}{F G:Nat→List Int} (W:Gen l F G):ka l F G < (stL l F G).length:=by
 have:=tX (shK l F G) ((stL l F G).length - 1)
 have n3:=W.n3
 have e:=W.len
 unfold ka
 omega
theorem Szp.mono {m n:Nat}{p:P2} (h:Szp m p) (le:m≤n):Szp n p:=⟨h.1.mono le,h.2.mono le⟩
theorem eA {l:List P2}{k:Int}{i:Nat} (e:k=(i:Int)) (h:i < l.length):atI (l.map pu) k=some (pu (gp l i)):=x5 e (by rw[Av,fH h];rfl)
theorem xl {pts:List P2} (h3:3≤(ak pts).length) (cl:(ak pts).length≤31) (hz:∀p∈ak pts,Szp 400 p):∃F G,Gen (ak pts) F G:=by
 have h2:=eS h3
 have nd:=cg pts
 have key:∀i,i < (ak pts).length→∃m m',(∃a b c d e f,m=[a,b,c,d,e,f]∧SMx (gp (ak pts) i) (gp (ak pts) (pI (ak pts).length i)) (gp (ak pts) (nI (ak pts).length i)) a b c d e f)∧
   ∃a b c d e f,m'=[a,b,c,d,e,f]∧SMx (gp (ak pts) i) (gp (ak pts) (nI (ak pts).length i)) (gp (ak pts) (pI (ak pts).length i)) a b c d e f:=fun i hi=>by
  have bd:=jW h3 h2 hi
  have n1:gp (ak pts) i≠gp (ak pts) (pI (ak pts).length i):=fun z=>by
   rw[←z] at bd;unfold aq at bd;rw[Jz,Jz] at bd;simp at bd
  have n2:gp (ak pts) i≠gp (ak pts) (nI (ak pts).length i):=fun z=>by
   rw[←z] at bd;unfold aq at bd
   generalize gp (ak pts) i=p at *
   generalize gp (ak pts) (pI (ak pts).length i)=q at *
   have:(p.1 - q.1) *(p.2 - q.2) - (p.2 - q.2) *(p.1 - q.1)=0:=by grind
   omega
  obtain ⟨a,b,c,d,e,f,S⟩:=we (B:=gp (ak pts) (nI (ak pts).length i)) n1 (fun z=>by
   unfold aq at bd z;grind)
  obtain ⟨a',b',c',d',e',f',S'⟩:=we (B:=gp (ak pts) (pI (ak pts).length i)) n2 (fun z=>by
   unfold aq at bd z;grind)
  exact ⟨_,_,⟨a,b,c,d,e,f,rfl,S⟩,a',b',c',d',e',f',rfl,S'⟩
 refine ⟨fun i=>if h:i < (ak pts).length then (key i h).choose else [],fun i=>if h:i < (ak pts).length then (key i h).choose_spec.choose else [],h3,cl,nd,hz,fun i hi=>?_,fun i hi=>?_⟩
 ·rw[dif_pos hi];exact (key i hi).choose_spec.choose_spec.1
 ·rw[dif_pos hi];exact (key i hi).choose_spec.choose_spec.2
theorem Gen.p {l:List P2}{F G:Nat→List Int} (W:Gen l F G):jQ l (msU l.length F G):=by
 refine ⟨fun m hm=>?_,fun C A B nb=>?_⟩
 ·unfold msU at hm
  obtain ⟨x,hx,rfl⟩:=Az.mp hm
  have hi:x / 2 < l.length:=by have:=AQ.mp hx;omega
  split
  ·obtain ⟨a,b,c,d,e,f,e1,g,u,v,s,t,s1,t1,k,q,x,y,S⟩:=W.F _ hi
   exact ⟨_,_,_,a,b,c,d,e,f,.inl (sW hi),e1,S.stn⟩
  ·obtain ⟨a,b,c,d,e,f,e1,g,u,v,s,t,s1,t1,k,q,x,y,S⟩:=W.G _ hi
   exact ⟨_,_,_,a,b,c,d,e,f,.inr (sW hi),e1,S.stn⟩
 ·rcases nb with q |q
  ·obtain ⟨i,hi,rfl,rfl,rfl⟩:=o6 W.nd q
   obtain ⟨a,b,c,d,e,f,e1,g,u,v,s,t,s1,t1,k,q,x,y,S⟩:=W.F _ hi
   refine ⟨a,b,c,d,e,f,?_,S.stn⟩
   unfold msU
   refine Az.mpr ⟨2*i,AQ.mpr (by omega),?_⟩
   rw[if_pos (by omega),show 2*i / 2=i by omega,e1]
  ·obtain ⟨i,hi,rfl,rfl,rfl⟩:=o6 W.nd q
   obtain ⟨a,b,c,d,e,f,e1,g,u,v,s,t,s1,t1,k,q,x,y,S⟩:=W.G _ hi
   refine ⟨a,b,c,d,e,f,?_,S.stn⟩
   unfold msU
   refine Az.mpr ⟨2*i+1,AQ.mpr (by omega),?_⟩
   rw[if_neg (by omega),show (2*i+1) / 2=i by omega,e1]
abbrev mvM (m:M6):U:=mv m.a m.b m.c m.d m.e m.f
abbrev MvM (m:M6):Prop:=Mv m.a m.b m.c m.d m.e m.f
inductive TF:List P2→M6→List P2→Prop
 |one (p:P2):Szp 400 p→TF [p] ⟨1,0,0,1,-p.1,-p.2⟩ [(0,0)]
 |two (p q:P2) (g u v s t s1 t1:Int):Szp 400 p→Szp 400 q→LvG p q g u v s t s1 t1→TF [p,q] ⟨s,t,-v,u,-s*p.1 - t*p.2,v*p.1 - u*p.2⟩ [(0,0),(g,0)]
 |more (l:List P2) (F G:Nat→List Int) (m:M6):Gen l F G→lR l F G=[m.a,m.b,m.c,m.d,m.e,m.f]→TF l m (shK l F G (ka l F G))
structure Sz6 (n:Nat) (m:M6):Prop where
 a:Sz n m.a
 b:Sz n m.b
 c:Sz n m.c
 d:Sz n m.d
 e:Sz n m.e
 f:Sz n m.f
theorem Sz6.mv {n:Nat}{m:M6} (h:Sz6 n m) (u:m.U) (le:n≤30000):MvM m:=⟨u,h.a.mono le,h.b.mono le,h.c.mono le,h.d.mono le,h.e.mono le,h.f.mono le⟩
theorem Sz6.bk {n:Nat}{m:M6} (h:Sz6 n m) (u:m.U):Sz6 (2*n+4) m.bk:=by
 have z:Sz 1 (m.a*m.d - m.b*m.c):=by rcases u with q |q <;>rw[q] <;>decide
 unfold M6.bk
 exact ⟨(L2.Sz.mul z h.d).mono (by omega),(L2.Sz.mul (L2.Sz.neg z) h.b).mono (by omega),(L2.Sz.mul (L2.Sz.neg z) h.c).mono (by omega),(L2.Sz.mul z h.a).mono (by omega),
  (L2.Sz.neg (L2.Sz.add' (L2.Sz.mul (L2.Sz.mul z h.d) h.e) (L2.Sz.mul (L2.Sz.mul (L2.Sz.neg z) h.b) h.f))).mono (by omega),(L2.Sz.neg (L2.Sz.add' (L2.Sz.mul (L2.Sz.mul (L2.Sz.neg z) h.c) h.e) (L2.Sz.mul (L2.Sz.mul z h.a) h.f))).mono (by omega)⟩
section
variable {l x:List P2}{m:M6}
theorem TF.u (h:TF l m x):m.U:=by
 cases h with
 |one p hp=>exact .inl (show (1:Int) *1 - 0*0=1 by decide)
 |two p q g u v s t s1 t1 hp hq L=>exact .inl (by have:=L.G1.eq;dsimp only;grind)
 |more _ F G _ W em=>
  obtain ⟨a,b,c,d,e,f,e1,M⟩:=W.mz W.sz (W.at_ W.best)
  have:[m.a,m.b,m.c,m.d,m.e,m.f]=[a,b,c,d,e,f]:=em.symm.trans e1
  simp only[CS,and_true] at this
  obtain ⟨h1,h2,h3,h4,h5,h6⟩:=this
  unfold M6.U
  rw[h1,h2,h3,h4];exact M.u
theorem TF.sz (h:TF l m x):Sz6 2100 m:=by
 have k8:∀{x:Int},Sz 8 x→Sz 2100 x:=fun h=>h.mono (by decide)
 cases h with
 |one p hp=>exact ⟨k8 (show Sz 8 (1:Int) by decide),k8 (show Sz 8 (0:Int) by decide),k8 (show Sz 8 (0:Int) by decide),k8 (show Sz 8 (1:Int) by decide),(L2.Sz.neg hp.1).mono (by decide),(L2.Sz.neg hp.2).mono (by decide)⟩
 |two p q g u v s t s1 t1 hp hq L=>
  have zu:Sz 401 u:=by rw[L.hu];exact ((L2.Sz.sub' hq.1 hp.1).mono (by decide):Sz 401 _).ediv
  have zv:Sz 401 v:=by rw[L.hv];exact ((L2.Sz.sub' hq.2 hp.2).mono (by decide):Sz 401 _).ediv
  obtain ⟨_,zs,zt⟩:=iY L.G1 zu zv
  refine ⟨zs.mono (by decide),zt.mono (by decide),(L2.Sz.neg zv).mono (by decide),zu.mono (by decide),?_,?_⟩
  ·exact (L2.Sz.sub' (L2.Sz.mul (L2.Sz.neg zs) hp.1) (L2.Sz.mul zt hp.2)).mono (by decide)
  ·exact (L2.Sz.sub' (L2.Sz.mul zv hp.1) (L2.Sz.mul zu hp.2)).mono (by decide)
 |more _ F G _ W em=>
  obtain ⟨a,b,c,d,e,f,e1,M⟩:=W.mz W.sz (W.at_ W.best)
  have:[m.a,m.b,m.c,m.d,m.e,m.f]=[a,b,c,d,e,f]:=em.symm.trans e1
  simp only[CS,and_true] at this
  obtain ⟨h1,h2,h3,h4,h5,h6⟩:=this
  exact ⟨by rw[h1];exact M.a.mono (by decide),by rw[h2];exact M.b.mono (by decide),by rw[h3];exact M.c.mono (by decide),by rw[h4];exact M.d.mono (by decide),by rw[h5];exact M.e.mono (by decide),by rw[h6];exact M.f.mono (by decide)⟩
theorem TF.mv (h:TF l m x):MvM m:=h.sz.mv h.u (by decide)
end
end
section
variable {P:AD}{w:World}{K:Ap}{mg:Str→Option Value}{base:Heap}
def mW:List U→Out→Prop:=fun us o=>∃(l x:List P2) (m:M6),us=[lp l]∧TF l m x∧o=.val (mvM m)
theorem nQ (T:Txt K mg):bF P w K mg base (CXF P w) 8 T.a_to_form T.d_to_form ["land"] (spU K (mW)):=by
 refine wS T.F_to_form nZ (fun us o h=>?_) (fun A outer s H E O us o hr h=>?_)
 ·obtain ⟨l,x,m,rfl,h,rfl⟩:=h
  rfl
 obtain ⟨l,x,m,rfl,h,rfl⟩:=h
 refine Ws.nox ?_
 cases h with
 |one p hp=>
  refine ac (iD (bp dX (aV (dS rfl) rfl T.z_len BF (ae (aa 0 rfl) ao af)) ab) rfl ?_)
  refine ac (bA (bo (ai ab (ai ab (ai ab (ai ab (ai (bK (ar (ar (aa 0 rfl) ab rfl rfl) ab rfl rfl)) (ai (bK (ar (ar (aa 0 rfl) ab rfl rfl) ab rfl rfl)) bg cC) cC) aG) aG) aG) aG)) ?_)
  exact rfl
 |two p q g u v s' t s1 t1 hp hq L=>
  have e1:=L.G1
  rw[L.hu,L.hv] at e1
  refine ac (cU (bp dX (aV (dS rfl) rfl T.z_len BF (ae (aa 0 rfl) ao af)) ab) rfl (aU ?_))
  refine ac (iD (bp dX (aV (dS rfl) rfl T.z_len BF (ae (aa 0 rfl) ao af)) ab) rfl ?_)
  refine ac (bA (aw ((lP T).mono (by decide)) hr rfl T.m_level T.F_level.kp T.b_level aB (ae (ar (aa 0 rfl) ab rfl rfl) (ae (ar (aa 0 rfl) ab rfl rfl) ao bv) bv) ⟨p.1,p.2,q.1,q.2,g,s1,t1,s',t,rfl,⟨hp.1.mono (by decide),hp.2.mono (by decide),hq.1.mono (by decide),hq.2.mono (by decide)⟩,L.G,L.gn,e1,rfl⟩) ?_)
  rw[L.hu,L.hv]
 |more _ F G _ W em=>
  have ee:mvM m=sxU (lR l F G):=by rw[em];rfl
  rw[ee]
  have n3:=W.n3
  have hm:((l.map pu).length:Int)=(l.length:Int):=by rw[Ar]
  have hlen:=W.len
  refine ac (cU (bp dX (aV (dS rfl) rfl T.z_len BF (ae (aa 0 rfl) ao af)) ab) (by rw[hm];exact decide_eq_false (by omega)) (aU ?_))
  refine ac (cU (bp dX (aV (dS rfl) rfl T.z_len BF (ae (aa 0 rfl) ao af)) ab) (by rw[hm];exact decide_eq_false (by omega)) (aU ?_))
  refine ac (bA (sE (items:=(stL l F G).map sxU) (kf:=shK l F G) (y:="land") (z:="move") (iy:=0) (landU:=lp l) rfl (kP hr) hr.depth rfl T.z_min T.tf (EvN.ev (fE ((jU T).mono (by decide)) hr rfl T.m_stands T.F_stands.kp T.b_stands aB (ae (aa 0 rfl) ao af) ⟨l,F,G,rfl,W,rfl⟩)) (by rw[Ar];omega) rfl rfl rfl rfl T.tf_cd (show (("to_form":Str)++".<locals>.")++"<lambda>"=ik by decide+kernel) rfl rfl ⟨rfl,rfl,rfl,by decide,rfl,rfl,by decide⟩ (by decide) (fun _ _ _ _=>rfl) (fun s' H' q c' O' j x hx=>?he)) ?_)
  case he=>
   rw[Av] at hx
   obtain ⟨m,hm',rfl⟩:=BO.mp hx
   have hj:j < (stL l F G).length:=aF hm'
   have e:(stL l F G).getD j []=m:=by rw[Ax,hm'];rfl
   rw[←e]
   exact fE ((fN T).mono (by decide)) (hr.in1.deeper _) rfl T.m_field_moved T.F_field_moved.kp T.b_field_moved aB (ae (aa 0 rfl) (ae (aa 1 rfl) ao af) af) (W.fm hj)
  show Out.val _=Out.val _
  unfold lR ka
  rw[Ar]
  have hb:=W.best
  unfold ka at hb
  rw[Ax,Av,An hb,Ax,An hb]
  rfl
end
section
variable {P:AD}{w:World}{K:Ap}{mg:Str→Option Value}{base:Heap}
theorem tO {α β:Type} (P:α→Prop) [DecidablePred P] (g:α→β):∀L:List α,(L.map fun k=>if P k then some (g k) else none).filterMap id=(L.filter fun k=>decide (P k)).map g
 |[]=>rfl
 |a::L=>by
  rw[Bz,EH]
  by_cases h:P a
  ·rw[if_pos h,Ca]
   show g a::(L.map fun k=>if P k then some (g k) else none).filterMap id=_
   rw[tO P g L,if_pos (decide_eq_true h),Bz]
  ·rw[if_neg h,Ca]
   show (L.map fun k=>if P k then some (g k) else none).filterMap id=_
   rw[tO P g L,if_neg (by simp[h])]
theorem Gen.ms {l:List P2}{F G:Nat→List Int}{k:List Int}:k∈stL l F G↔k∈msU l.length F G:=ST6.srtL_mem k _
theorem Gen.st_nd {l:List P2}{F G:Nat→List Int}:(stL l F G).Nodup:=(ST6.srtL_ascL _).imp fun {a b} h e=>by subst e;rw[ST6.ascL_irr] at h;cases h
theorem Gen.z6 {l:List P2}{F G:Nat→List Int} (W:Gen l F G) {k:List Int} (h:k∈msU l.length F G):Mz 400 (toM k).a (toM k).b (toM k).c (toM k).d (toM k).e (toM k).f∧(toM k).l=k:=by
 obtain ⟨a,b,c,d,e,f,e1,M⟩:=W.mz W.sz h
 subst e1
 exact ⟨M,rfl⟩
theorem Mz.own {s t:M6} (h:Mz 400 s.a s.b s.c s.d s.e s.f) (k:Mz 400 t.a t.b t.c t.d t.e t.f):Sz6 2430 (s.bh t.bk):=by
 have z:Sz 1 (t.a*t.d - t.b*t.c):=by rcases k.u with q |q <;>rw[q] <;>decide
 have ba:Sz 403 t.bk.a:=(L2.Sz.mul z k.d).mono (by decide)
 have bb:Sz 1617 t.bk.b:=(L2.Sz.mul (L2.Sz.neg z) k.b).mono (by decide)
 have bc:Sz 403 t.bk.c:=(L2.Sz.mul (L2.Sz.neg z) k.c).mono (by decide)
 have bd:Sz 1617 t.bk.d:=(L2.Sz.mul z k.a).mono (by decide)
 have be:Sz 2421 t.bk.e:=(L2.Sz.neg (L2.Sz.add' (L2.Sz.mul (L2.Sz.mul z k.d) k.e) (L2.Sz.mul (L2.Sz.mul (L2.Sz.neg z) k.b) k.f))).mono (by decide)
 have bf:Sz 2421 t.bk.f:=(L2.Sz.neg (L2.Sz.add' (L2.Sz.mul (L2.Sz.mul (L2.Sz.neg z) k.c) k.e) (L2.Sz.mul (L2.Sz.mul z k.a) k.f))).mono (by decide)
 exact ⟨(L2.Sz.add' (L2.Sz.mul ba h.a) (L2.Sz.mul bb h.c)).mono (by decide),(L2.Sz.add' (L2.Sz.mul ba h.b) (L2.Sz.mul bb h.d)).mono (by decide),(L2.Sz.add' (L2.Sz.mul bc h.a) (L2.Sz.mul bd h.c)).mono (by decide),(L2.Sz.add' (L2.Sz.mul bc h.b) (L2.Sz.mul bd h.d)).mono (by decide),
  (L2.Sz.add' (L2.Sz.add' (L2.Sz.mul ba h.e) (L2.Sz.mul bb h.f)) (be.mono (n:=2422) (by decide))).mono (by decide),(L2.Sz.add' (L2.Sz.add' (L2.Sz.mul bc h.e) (L2.Sz.mul bd h.f)) (bf.mono (n:=2422) (by decide))).mono (by decide)⟩
theorem Sz6.go {n:Nat}{m:M6}{p:P2} (h:Sz6 n m) (z:Szp 400 p):Szp (n+402) (m.go p):=
 ⟨(L2.Sz.add' (L2.Sz.add' (L2.Sz.mul h.a z.1) (L2.Sz.mul h.b z.2)) (h.e.mono (n:=n+400+1) (by omega))).mono (by omega),(L2.Sz.add' (L2.Sz.add' (L2.Sz.mul h.c z.1) (L2.Sz.mul h.d z.2)) (h.f.mono (n:=n+400+1) (by omega))).mono (by omega)⟩
def lY:List U→Out→Prop:=fun us o=>∃(l:List P2) (F G:Nat→List Int) (t:M6),us=[lp l]∧Gen l F G∧lR l F G=t.l∧o=.new ((ST6.srtL (i0 l (stL l F G) t)).map sxU)
theorem lI (T:Txt K mg):bF P w K mg base (CXF P w) 9 T.a_own_moves T.d_own_moves ["land"] (spU K (lY)):=by
 refine bG T.F_own_moves ck (fun us o h=>?_) (fun cdv A outer s H E O us o hr h=>?_)
 ·obtain ⟨l,F,G,t,rfl,W,et,rfl⟩:=h
  rfl
 obtain ⟨l,F,G,t,rfl,W,et,rfl⟩:=h
 refine Ws.nox ?_
 have TT:=TF.more l F G t W et
 have tm:t.l∈msU l.length F G:=by rw[←et];exact W.at_ W.best
 have zt:=(W.z6 tm).1
 have len:=W.len
 have n60:=W.n64
 have all:∀k∈stL l F G,Sz6 2430 ((toM k).bh t.bk)∧((toM k).bh t.bk).U∧MvM (toM k)∧(toM k).l=k:=fun k hk=>by
  obtain ⟨z,e⟩:=W.z6 (Gen.ms.mp hk)
  exact ⟨Mz.own z zt,M6.bh_U z.u (M6.bk_U zt.u),z.mv (by decide),e⟩
 refine ac (ax (i:=1) ck.nd rfl (Or.inl rfl) (EvN.ev (fE ((jU T).mono (by decide)) hr rfl T.m_stands T.F_stands.kp T.b_stands aB (ae (aa 0 rfl) ao af) ⟨l,F,G,rfl,W,rfl⟩)) ?_)
 refine ac (ax (i:=2) ck.nd rfl (Or.inr rfl) (aw ((m_ T).mono (by decide)) hr rfl T.m_way_back T.F_way_back.kp T.b_way_back aB (ae (aw ((nQ T).mono (by decide)) hr rfl T.m_to_form T.F_to_form.kp T.b_to_form aB (ae (aa 0 rfl) ao af) ⟨l,_,t,rfl,TT,rfl⟩) ao e8) ⟨t.a,t.b,t.c,t.d,t.e,t.f,rfl,TT.mv,rfl⟩) ?_)
 refine ac (ki (ys:=(((stL l F G).map fun s=>((toM s).bh t.bk).l).map sxU)) (j:=3) false rfl ck.nd rfl (Or.inl rfl) (blk (ag bW) ["land","there","back","found","move"] [4] rfl rfl rfl rfl (by decide+kernel)) (cD (aa 1 rfl) (.inl rfl)) (fun _ _ _ _=>bj (i:=4) ck.nd rfl (Or.inl rfl)) (cQ (by decide)) ?clen ?csz (fun _ _=>trivial) ?celt ?_)
 case clen=>simp[stL]
 case csz=>rw[Ar];exact By (aS (show (stL l F G).length≤1000 by omega))
 case celt=>
  intro C s' H' fp j x y hx hy
  rw[Bf] at hy
  rw[Av] at hx hy
  obtain ⟨k,hk,rfl⟩:=BO.mp hx
  have hk':(stL l F G)[j]?=some k:=hk
  rw[hk'] at hy
  cases hy
  obtain ⟨_,_,mk,ek⟩:=all k (AO hk')
  have e2:sxU k=mvM (toM k):=by rw[←ek];rfl
  rw[e2]
  exact (aw ((fO T).mono (by decide)) hr rfl T.m_behind T.F_behind.kp T.b_behind aB (ae (aa 4 rfl) (ae (aa 2 rfl) ao af) af) ⟨(toM k).a,(toM k).b,(toM k).c,(toM k).d,(toM k).e,(toM k).f,t.bk.a,t.bk.b,t.bk.c,t.bk.d,t.bk.e,t.bk.f,rfl,mk,(TT.sz.bk TT.u).mv (M6.bk_U TT.u) (by decide),rfl⟩)
 show Ws _ _ _ _ _ _ [some (.val (lp l)),some (.val (.lst ((stL l F G).map sxU))),some (.val (mvM t.bk)),some (.val (.lst (((stL l F G).map fun s=>((toM s).bh t.bk).l).map sxU))),none]
 have onl:(i0 l (stL l F G) t).length≤(stL l F G).length:=by
  unfold i0
  exact BR (List.length_filter_le _ _) (by rw[Ar];exact Ay _)
 have on6:∀k∈i0 l (stL l F G) t,k.length=6:=fun k hk=>by
  obtain ⟨m,rfl⟩:=nt hk
  rfl
 have ond:(i0 l (stL l F G) t).Nodup:=xJ W.p (fun s=>Gen.ms) tm Gen.st_nd
 refine ac (k_ (jG rfl T.z_sorted (EvN.ev (yb (tO (fun k=>ak (l.map (apL k))=l) sxU _) (o7 ((((stL l F G).map fun s=>((toM s).bh t.bk).l)).map fun k=>if ak (l.map (apL k))=l then some (sxU k) else none) rfl (blk (ag bW) ["land","there","back","found","move"] [4] rfl rfl rfl rfl (by decide+kernel)) (cD (aa 3 rfl) (.inl rfl)) (fun _ _ _ _=>bj (i:=4) ck.nd rfl (Or.inl rfl)) (cQ (by decide)) ?clen ?csz (fun _ _=>trivial) ?ctest ?celt))) ⟨(show (i0 l (stL l F G) t).length < 64 by omega),ond,on6⟩ e_) ?_)
 case clen=>simp
 case csz=>rw[Ar,Ar];exact By (aS (by omega))
 case ctest=>
  intro C s' H' fp j x o hx ho
  rw[Av] at hx ho
  obtain ⟨k,hk,rfl⟩:=BO.mp hx
  rw[hk] at ho
  obtain ⟨s,hs,rfl⟩:=Az.mp (AO hk)
  obtain ⟨z6,zu,_,_⟩:=all s hs
  have fmk:kL [lp l,mvM ((toM s).bh t.bk)] (.new ((ak (l.map (apL ((toM s).bh t.bk).l))).map pu)):=by
   have n3:=W.n3
   exact ⟨l,_,_,_,_,_,_,rfl,z6.mv zu (by decide),fun p hp=>⟨(W.sz p hp).1.mono (by decide),(W.sz p hp).2.mono (by decide)⟩,fun p hp=>Szp.mono (z6.go (W.sz p hp)) (by decide),fun z=>by rw[z] at n3;simp at n3,by omega,rfl⟩
  have eo:o.isSome=decide (ak (l.map (apL ((toM s).bh t.bk).l))=l):=by
   by_cases c:ak (l.map (apL ((toM s).bh t.bk).l))=l
   ·rw[Gs,if_pos c] at ho
    cases ho
    rw[decide_eq_true c];rfl
   ·rw[Gs,if_neg c] at ho
    cases ho
    rw[decide_eq_false c];rfl
  rw[eo,←show eqW (U.lst ((ak (l.map (apL ((toM s).bh t.bk).l))).map pu)) (lp l)=decide (ak (l.map (apL ((toM s).bh t.bk).l))=l) from kY _ _]
  exact (bp (xS (kP hr) (iG _) (iG _)) (EvN.ev (fE ((fN T).mono (by decide)) hr rfl T.m_field_moved T.F_field_moved.kp T.b_field_moved aB (ae (aa 0 rfl) (ae (aa 4 rfl) ao af) af) fmk)) (aa 0 rfl))
 case celt=>
  intro C s' H' fp j x y hx hy
  rw[Av] at hx hy
  obtain ⟨k,hk,rfl⟩:=BO.mp hx
  rw[hk,Gs] at hy
  have:y=sxU k:=by
   by_cases c:ak (l.map (apL k))=l
   ·rw[if_pos c] at hy;cases hy;rfl
   ·rw[if_neg c] at hy;cases hy
  subst this
  exact (aa 4 rfl)
 exact rfl
end
section
variable {P:AD}{w:World}{K:Ap}{mg:Str→Option Value}{base:Heap}
def cel (ns:List Int) (k:Int):Int:=if k < (ns.length:Int) then ns.getD k.toNat 0 else 0
theorem r_ {ns:List Int} (h:∀m∈ns,Sz 1048576 m) (k:Int):Sz 1048576 (cel ns k):=by
 unfold cel
 split
 ·exact vi h _
 ·exact Sz.mono (m:=8) (by decide) (by decide)
def qG:List U→Out→Prop:=fun us o=>∃(ns:List Int) (k:Int),us=[.scr (ns.map U.int),.int k]∧0≤k∧o=.val (.int (cel ns k))
theorem br (T:Txt K mg):bF P w K mg base (CXF P w) 1 T.a__law_cell_at T.d__law_cell_at ["script","k"] (spU K (qG)):=by
 refine bG T.F__law_cell_at iI (fun us o h=>?_) (fun cdv A outer s H E O us o hr h=>?_)
 ·obtain ⟨ns,k,rfl,h0,rfl⟩:=h
  rfl
 obtain ⟨ns,k,rfl,h0,rfl⟩:=h
 refine Ws.nox ?_
 have hm:((ns.map U.int).length:Int)=(ns.length:Int):=by rw[Ar]
 refine ac (kB (bp p8 (aa 1 rfl) (aV (dS rfl) rfl T.z_len BF (ae (aa 0 rfl) ao af))) (fun hT=>?_) (fun hF=>(aU ?_)))
 ·rw[hm] at hT
  have hk:=dTb hT
  refine ac (bA (ar (aa 0 rfl) (aa 1 rfl) rfl (sq h0 hk)) ?_)
  exact vIO (by unfold cel;rw[if_pos hk])
 ·rw[hm] at hF
  have hk:=dFb hF
  refine ac (bA ab ?_)
  exact vIO (by unfold cel;rw[if_neg hk])
def uO:List U→Out→Prop:=fun us o=>∃n:Int,us=[.int n]∧o=.val (.bl true)
theorem jP (T:Txt K mg):bF P w K mg base (CXF P w) 1 T.a__law_whole T.d__law_whole ["found"] (spU K (uO)):=by
 refine bG T.F__law_whole jJ (fun us o h=>?_) (fun cdv A outer s H E O us o hr h=>?_)
 ·obtain ⟨n,rfl,rfl⟩:=h
  rfl
 obtain ⟨n,rfl,rfl⟩:=h
 refine Ws.nox ?_
 refine ac (bA (wu (aV (dG (by intro _ h;cases h) (by walk_at "kit")) rfl T.z_isinstance Dh (ae (aa 0 rfl) (ae (oE rfl T.z_int boot_int) ao af) af)) (fun hz=>(wn (wc (aV (dG (by intro _ h;cases h) (by walk_at "kit")) rfl T.z_isinstance Dh (ae (aa 0 rfl) (ae (oE rfl T.z_bool boot_bool) ao af) af)))))) ?_)
 exact rfl
def nS:List U→Out→Prop:=fun us o=>∃P Q R:P2,us=[pu P,pu Q,pu R]∧Szp 5000 P∧Szp 5000 Q∧Szp 5000 R∧o=.val (.int (aq P Q R))
theorem jH (T:Txt K mg):bF P w K mg base (CXF P w) 1 T.a__law_cross T.d__law_cross ["one","two","three"] (spU K (nS)):=by
 refine bG T.F__law_cross gh (fun us o h=>?_) (fun cdv A outer s H E O us o hr h=>?_)
 ·obtain ⟨P,Q,R,rfl,⟨p1,p2⟩,⟨q1,q2⟩,⟨r1,r2⟩,rfl⟩:=h
  rfl
 obtain ⟨P,Q,R,rfl,⟨p1,p2⟩,⟨q1,q2⟩,⟨r1,r2⟩,rfl⟩:=h
 refine Ws.nox ?_
 refine ac (ax (i:=3) gh.nd rfl (Or.inl rfl) (aK (bu (ar (aa 1 rfl) ab rfl rfl) (ar (aa 0 rfl) ab rfl rfl)) (bu (ar (aa 2 rfl) ab rfl rfl) (ar (aa 0 rfl) ab rfl rfl)) (by walk_at "mul")) ?_)
 refine ac (bA (bu (aa 3 rfl) (aK (bu (ar (aa 1 rfl) ab rfl rfl) (ar (aa 0 rfl) ab rfl rfl)) (bu (ar (aa 2 rfl) ab rfl rfl) (ar (aa 0 rfl) ab rfl rfl)) (by walk_at "mul"))) ?_)
 exact rfl
def g_ (row:List P2) (j:Nat):List P2:=if j=0 then [] else if j=1 then (aj row).reverse.dropLast else (aj row).reverse.dropLast++(aj row.reverse).reverse.dropLast
def jO:List U→Out→Prop:=fun us o=>∃pts:List P2,us=[lp pts]∧(∀p∈pts,Szp 5000 p)∧pts.length < 250∧(ST.srt pts).length < 64∧2≤(ST.srt pts).length∧o=.val (lp (ak pts))
theorem iL (T:Txt K mg):bF P w K mg base (CXF P w) 2 T.a__law_corners T.d__law_corners ["points"] (spU K (jO)):=by
 refine bG T.F__law_corners bE (fun us o h=>?_) (fun cdv A outer s H E O us o hr h=>?_)
 ·obtain ⟨pts,rfl,sz,hl,h64,h2,rfl⟩:=h
  rfl
 obtain ⟨pts,rfl,sz,hl,h64,h2,rfl⟩:=h
 refine Ws.nox ?_
 have sl:=ST.srt_len pts
 have szs:=rS sz
 have b1:=fD (ST.srt pts)
 have b2:=fD (ST.srt pts).reverse
 rw[Bn] at b2
 refine ac (ax (i:=1) bE.nd rfl (Or.inl rfl) (EvN.ev (oG rfl (kP hr) rfl T.z_sorted rfl T.z_set (aa 0 rfl) ⟨by omega,h64⟩ af)) ?_)
 have ec:ak pts=g_ (ST.srt pts) 2:=by unfold ak g_;rw[if_neg (by omega)];rfl
 rw[ec]
 generalize ST.srt pts=row at *
 refine ac (ax (i:=2) bE.nd rfl (Or.inl rfl) (EvN.ev (dD bg)) ?_)
 refine ac (fc (fun j:Nat=>[some (.val (lp pts)),some (.val (lp row)),some (.val (lp (g_ row j))),none,none,none]) (fun i j=>i=j) rfl PassesOwn.never (cD (EvN.ev (dD (ai (aa 1 rfl) (ai (EvN.ev (qU rfl rfl T.z_list rfl T.z_reversed (aa 1 rfl) af)) bg e8) af))) (.inl rfl)) ?h0 ?hs ?hd)
 case h0=>exact ⟨0,rfl,rfl,rfl,rfl,trivial⟩
 case hs=>
  rintro H0 j x _ hx rfl
  have hz:∃w:List P2,x=lp w∧(∀p∈w,Szp 5000 p)∧w.length≤250∧g_ row (j+1)=g_ row j++(aj w).reverse.dropLast∧(g_ row j).length≤250:=by
   match j,hx with
   |0,hx=>
    cases hx
    exact ⟨row,rfl,szs,by omega,by simp[g_],by simp[g_]⟩
   |1,hx=>
    have e:x=U.lst ((row.map pu).reverse):=by cases hx;rfl
    subst e
    exact ⟨row.reverse,by rw[lp,Cq],fun p hp=>szs p (AN.mp hp),by rw[Bn];omega,by simp[g_],by simp[g_];omega⟩
   |j+2,hx=>simp at hx
  obtain ⟨w,rfl,wz,wl,hacc,hal⟩:=hz
  refine ⟨_,(fe (i:=3) bE.nd rfl (Or.inl rfl)),?_⟩
  have bw:=fD w
  refine ac (ko (i:=4) bE.nd rfl (Or.inl rfl) (dD bg) ?_)
  refine fk (fun ps=>SubP [some (.val (lp pts)),some (.val (lp row)),some (.val (lp (g_ row j))),some (.val (lp w)),some (.own ((aj w).reverse.map pu)),none] ps) (fc (fun st:List P2=>[some (.val (lp pts)),some (.val (lp row)),some (.val (lp (g_ row j))),some (.val (lp w)),some (.own (st.reverse.map pu)),none]) (fun i st=>st=aj (w.take i)) rfl PassesOwn.never (cD (aa 3 rfl) (.inl rfl)) ?h02 ?hs2 ?hd2) ?hj
  case h02=>exact ⟨[],rfl,rfl,rfl,rfl,rfl,rfl,trivial⟩
  case hs2=>
   rintro H0 i x _ hx rfl
   obtain ⟨P,hP,mP,rfl⟩:=wf hx
   have hi:i < w.length:=aF hP
   have sP:=wz P mP
   refine ⟨_,(fe (i:=5) bE.nd rfl (Or.inl rfl)),?_⟩
   have len0:=fP w i
   refine fk (fun ps=>SubP [some (.val (lp pts)),some (.val (lp row)),some (.val (lp (g_ row j))),some (.val (lp w)),some (.own ((a_ P (aj (w.take i))).reverse.map pu)),some (.val (pu P))] ps) (jn (fun s2:List P2=>[some (.val (lp pts)),some (.val (lp row)),some (.val (lp (g_ row j))),some (.val (lp w)),some (.own (s2.reverse.map pu)),some (.val (pu P))]) (fun m s2=>m=s2.length∧a_ P s2=a_ P (aj (w.take i))∧(∀p∈s2,p∈w)∧s2.length≤i) PassesOwn.never ?h03 ?hs3) ?hj3
   case h03=>exact ⟨_,_,⟨rfl,rfl,fun q hq=>eX w i q hq,len0⟩,rfl,rfl,rfl,rfl,rfl,rfl,trivial⟩
   case hs3=>
    rintro m s2 ⟨rfl,e2,sub,len2⟩
    match s2,e2,sub,len2 with
    |[],e2,sub,len2=>
     refine ⟨false,?_,fun h=>(nomatch h),fun h ps hps=>e2 ▸ hps⟩
     exact (Tw.t (je (bp mZ (gC 4 rfl rfl T.z_len) ab) rfl))
    |[b],e2,sub,len2=>
     refine ⟨false,?_,fun h=>(nomatch h),fun h ps hps=>e2 ▸ hps⟩
     exact (Tw.t (je (bp mZ (gC 4 rfl rfl T.z_len) ab) rfl))
    |b::a::r,e2,sub,len2=>
     have sa:=wz a (sub a (by simp))
     have sb:=wz b (sub b (by simp))
     have e1:decide ((1:Int) < ((((b::a::r).reverse.map pu).length:Nat):Int))=true:=decide_eq_true (by simp;omega)
     refine ⟨decide ((1:Int) < ((((b::a::r).reverse.map pu).length:Nat):Int)) && decide (aq a b P≤0),?_,fun h=>?_,fun h ps hps=>?_⟩
     ·exact (Tw.t (lO (bp mZ (gC 4 rfl rfl T.z_len) ab) (fun hz=>(kO (bp zQ (aw ((jH T).mono (by decide)) hr rfl T.m__law_cross T.F__law_cross.kp T.b__law_cross aB (ae (oX 4 rfl (bK ab) (wP b a r)) (ae (oX 4 rfl (bK ab) (wd b (a::r))) (ae (aa 5 rfl) ao af) bv) bv) ⟨a,b,P,rfl,sa,sb,sP,rfl⟩) ab)))))
     ·rw[e1,ER] at h
      have hd:=dTb h
      refine ac (wJ 4 rfl (by simp) (aU ?_))
      refine ⟨_,a::r,?_,⟨rfl,?_,fun q hq=>sub q (Aw _ hq),?_⟩,rfl,rfl,rfl,rfl,?_,rfl,trivial⟩
      ·simp
      ·rw[←e2];conv=>rhs;unfold a_
       rw[if_pos hd]
      ·simp only[A_] at *;omega
      ·exact congrArg (fun l=>some (Sl.own l)) (by simp)
     ·rw[e1,ER] at h
      have hd:=dFb h
      have e3:a_ P (b::a::r)=b::a::r:=by conv=>lhs;unfold a_
                                         rw[if_neg hd]
      rw[←e2,e3]
      exact hps
   case hj3=>
    intro ps hps
    refine dm ?_ hps
    have e4:=ff hP
    have len3:=iR P (aj (w.take i))
    refine ac (eI 4 rfl (aa 5 rfl) (by rw[Ar,Bn];exact aS (by omega)) (aU ?_))
    refine ⟨_,rfl,rfl,rfl,rfl,rfl,?_,trivial⟩
    exact congrArg (fun l=>some (Sl.own l)) (by rw[e4];simp)
  case hd2=>
   rintro st ps hst hps
   rw[hst] at hps
   rw[Ar,Dm] at hps
   exact hps
  case hj=>
   intro ps hps
   refine dm ?_ hps
   refine lC 4 rfl ?_
   refine ac (ax (i:=2) bE.nd rfl (Or.inl rfl) (EvN.ev (jB (aa 2 rfl) (EvN.ev (dY (aa 4 rfl) gG (e7 (bK ab)) (.inl rfl))) (by rw[gE,Ar,Ar,CH,Bn];exact By (aS (by omega))))) (aU ?_))
   rw[gE,←BB,←hacc]
   exact ⟨j+1,rfl,rfl,rfl,rfl,trivial⟩
 case hd=>
  rintro q ps hq hps
  refine dm ?_ hps
  have:q=2:=by rw[←hq];rfl
  subst this
  refine ac (bA (aa 2 rfl) ?_)
  exact rfl
end
section
variable {P:AD}{w:World}{K:Ap}{mg:Str→Option Value}{base:Heap}
def vS:List U→Out→Prop:=fun us o=>∃(a b c d e f:Int) (p:P2),us=[mv a b c d e f,pu p]∧Mv a b c d e f∧Szp 30000 p∧o=.val (pu (ap a b c d e f p))
theorem jk (T:Txt K mg):bF P w K mg base (CXF P w) 1 T.a__law_by T.d__law_by ["move","spot"] (spU K (vS)):=by
 refine bG T.F__law_by jw (fun us o h=>?_) (fun cdv A outer s H E O us o hr h=>?_)
 ·obtain ⟨a,b,c,d,e,f,p,rfl,M,⟨s1,s2⟩,rfl⟩:=h
  rfl
 obtain ⟨a,b,c,d,e,f,p,rfl,M,⟨s1,s2⟩,rfl⟩:=h
 refine Ws.nox ?_
 obtain ⟨hd,sa,sb,sc,sd,se,sf⟩:=M
 refine ac (ax (i:=2) jw.nd rfl (Or.inl rfl) (ca (ca (aK (ar (aa 0 rfl) ab rfl rfl) (ar (aa 1 rfl) ab rfl rfl) (by walk_at "mul")) (aK (ar (aa 0 rfl) ab rfl rfl) (ar (aa 1 rfl) ab rfl rfl) (by walk_at "mul"))) (ar (aa 0 rfl) ab rfl rfl)) ?_)
 refine ac (bA (bo (ai (aa 2 rfl) (ai (ca (ca (aK (ar (aa 0 rfl) ab rfl rfl) (ar (aa 1 rfl) ab rfl rfl) (by walk_at "mul")) (aK (ar (aa 0 rfl) ab rfl rfl) (ar (aa 1 rfl) ab rfl rfl) (by walk_at "mul"))) (ar (aa 0 rfl) ab rfl rfl)) bg bB) af)) ?_)
 exact rfl
end
section
variable {P:AD}{w:World}{K:Ap}{mg:Str→Option Value}{base:Heap}
def wI (w:Bool):Int:=if w then 1 else -1
theorem t9 {l:List P2}{i:Nat} (h:i < l.length) (w:Bool):atI (l.map pu) (((i:Int)+wI w) % ((l.map pu).length:Int))=some (pu (nbr l i w)):=by
 rw[Ar]
 cases w with
 |true=>
  show atI (l.map pu) (((i:Int)+1) % (l.length:Int))=some (pu (gp l (nI l.length i)))
  refine eA ?_ (lW h)
  rw[kj h]
  split
  ·rename_i z
   rw[show (i:Int)+1=(l.length:Int) by omega,Int.emod_self];rfl
  ·rw[Fw (by omega) (by omega)];omega
 |false=>
  show atI (l.map pu) (((i:Int)+-1) % (l.length:Int))=some (pu (gp l (pI l.length i)))
  refine eA ?_ (ji h)
  rw[gX h]
  split
  ·rename_i z
   have e:((i:Int)+-1) % (l.length:Int)=((i:Int)+-1+(l.length:Int)) % (l.length:Int):=by simp
   rw[e,Fw (by omega) (by omega)];omega
  ·rw[Fw (by omega) (by omega)];omega
theorem vn {l:List P2}{i:Nat} (h:i < l.length) (w:Bool):atI (l.map pu) (((i:Int) - wI w) % ((l.map pu).length:Int))=some (pu (nbr l i (!w))):=by
 have:=t9 h (!w)
 rwa [show (i:Int)+wI (!w)=(i:Int) - wI w by cases w <;>unfold wI <;>simp <;>omega] at this
theorem xV {l:List P2} (h:0 < l.length):atI (l.map pu) (-1)=some (pu (gp l (l.length - 1))):=by
 have e:ixN l.length (-1)=some (l.length - 1):=by
  unfold ixN
  split
  ·omega
  ·split
   ·congr 1;omega
   ·omega
 unfold atI
 rw[Ar,e]
 show (l.map pu)[l.length - 1]?=_
 rw[Av,fH (show l.length - 1 < l.length by omega)];rfl
theorem iW {l:List P2}{i:Nat} (h:i < l.length) (w:Bool):nbr l i w∈l:=by
 unfold nbr
 cases w
 ·exact b_ (ji h)
 ·exact b_ (lW h)
def qy:List U→Out→Prop:=fun us o=>∃a b:P2,us=[pu a,pu b]∧Szp 400 a∧Szp 400 b∧o=.val (pu (frm a b))
theorem dq (T:Txt K mg):bF P w K mg base (CXF P w) 1 T.a__law_from T.d__law_from ["start","spot"] (spU K (qy)):=by
 refine bG T.F__law_from lg (fun us o h=>?_) (fun cdv A outer s H E O us o hr h=>?_)
 ·obtain ⟨a,b,rfl,⟨a1,a2⟩,⟨b1,b2⟩,rfl⟩:=h
  rfl
 obtain ⟨a,b,rfl,⟨a1,a2⟩,⟨b1,b2⟩,rfl⟩:=h
 refine Ws.nox ?_
 refine ac (bA (bo (ai (bu (ar (aa 1 rfl) ab rfl rfl) (ar (aa 0 rfl) ab rfl rfl)) (ai (bu (ar (aa 1 rfl) ab rfl rfl) (ar (aa 0 rfl) ab rfl rfl)) bg bB) bB)) ?_)
 exact rfl
theorem dk {a b:P2} (ha:Szp 400 a) (hb:Szp 400 b):Szp 401 (frm a b):=⟨(L2.Sz.sub' hb.1 ha.1).mono (by decide),(L2.Sz.sub' hb.2 ha.2).mono (by decide)⟩
structure TrI (l l':List P2) (i:Nat):Prop where
 c:ak l=l
 n3:3≤l.length
 hi:i < l'.length
 z:∀p∈l,Szp 400 p
 z':∀p∈l',Szp 400 p
section
variable {l l':List P2}{i:Nat}
theorem TrI.sz (h:TrI l l' i) (w:Bool):(∀x∈trT (gp l 0) (gp l 1) (gp l (l.length - 1)) (gp l' i) (nbr l' i w) (nbr l' i (!w)),Sz 803 x)∧Sz6 1210 (trm l l' i w):=by
 have n3:=h.n3
 have zC:=h.z _ (b_ (show 0 < l.length by omega))
 have zC':=h.z' _ (b_ h.hi)
 have zp:=dk zC (h.z _ (b_ (show 1 < l.length by omega)))
 have zq:=dk zC (h.z _ (b_ (show l.length - 1 < l.length by omega)))
 have zr:=dk zC' (h.z' _ (iW h.hi w))
 have zs:=dk zC' (h.z' _ (iW h.hi (!w)))
 have k:∀{a b c d:Int},Sz 401 a→Sz 401 b→Sz 401 c→Sz 401 d→Sz 803 (a*b - c*d):=fun ha hb hc hd=>(L2.Sz.sub' (L2.Sz.mul ha hb) (L2.Sz.mul hc hd)).mono (by decide)
 have t0:=k zr.1 zq.2 zs.1 zp.2
 have t1:=k zs.1 zp.1 zr.1 zq.1
 have t2:=k zr.2 zq.2 zs.2 zp.2
 have t3:=k zs.2 zp.1 zr.2 zq.1
 have all:∀x∈trT (gp l 0) (gp l 1) (gp l (l.length - 1)) (gp l' i) (nbr l' i w) (nbr l' i (!w)),Sz 803 x:=fun x hx=>by
  unfold trT at hx
  simp only[AB,BL,or_false] at hx
  rcases hx with e |e |e |e <;>rw[e] <;>assumption
 refine ⟨all,?_⟩
 have d0:Sz 803 ((trT (gp l 0) (gp l 1) (gp l (l.length - 1)) (gp l' i) (nbr l' i w) (nbr l' i (!w))).getD 0 0 / trW (gp l 0) (gp l 1) (gp l (l.length - 1))):=Sz.ediv t0
 have d1:Sz 803 ((trT (gp l 0) (gp l 1) (gp l (l.length - 1)) (gp l' i) (nbr l' i w) (nbr l' i (!w))).getD 1 0 / trW (gp l 0) (gp l 1) (gp l (l.length - 1))):=Sz.ediv t1
 have d2:Sz 803 ((trT (gp l 0) (gp l 1) (gp l (l.length - 1)) (gp l' i) (nbr l' i w) (nbr l' i (!w))).getD 2 0 / trW (gp l 0) (gp l 1) (gp l (l.length - 1))):=Sz.ediv t2
 have d3:Sz 803 ((trT (gp l 0) (gp l 1) (gp l (l.length - 1)) (gp l' i) (nbr l' i w) (nbr l' i (!w))).getD 3 0 / trW (gp l 0) (gp l 1) (gp l (l.length - 1))):=Sz.ediv t3
 exact ⟨d0.mono (by decide),d1.mono (by decide),d2.mono (by decide),d3.mono (by decide),(L2.Sz.sub' (L2.Sz.sub' (zC'.1.mono (n:=1203) (by decide)) (L2.Sz.mul d0 zC.1)) ((L2.Sz.mul d1 zC.2).mono (n:=1204) (by decide))).mono (by decide),(L2.Sz.sub' (L2.Sz.sub' (zC'.2.mono (n:=1203) (by decide)) (L2.Sz.mul d2 zC.1)) ((L2.Sz.mul d3 zC.2).mono (n:=1204) (by decide))).mono (by decide)⟩
end
open Classical in
def oM:List U→Out→Prop:=fun us o=>∃(l l':List P2) (i:Nat) (w:Bool),us=[lp l,lp l',.int (i:Int),.int (wI w)]∧TrI l l' i∧o=.val (if trO l l' i w then mvM (trm l l' i w) else .non)
theorem gi (T:Txt K mg):bF P w K mg base (CXF P w) 2 T.a__law_tried T.d__law_tried ["one","other","at","way"] (spU K (oM)):=by
 refine bG T.F__law_tried aJ (fun us o h=>?_) (fun cdv A outer s H E O us o hr h=>?_)
 ·obtain ⟨l,l',i,w,rfl,I,rfl⟩:=h
  rfl
 obtain ⟨l,l',i,w,rfl,I,rfl⟩:=h
 refine Ws.nox ?_
 have n3:=I.n3
 have hi:=I.hi
 have zC:=I.z _ (b_ (show 0 < l.length by omega))
 have zC':=I.z' _ (b_ I.hi)
 have zA:=I.z _ (b_ (show 1 < l.length by omega))
 have zB:=I.z _ (b_ (show l.length - 1 < l.length by omega))
 have zR:=I.z' _ (iW I.hi w)
 have zS:=I.z' _ (iW I.hi (!w))
 obtain ⟨tz,mz⟩:=I.sz w
 have wp:=lm I.c n3
 refine ac (ax (i:=4) aJ.nd rfl (Or.inl rfl) (aw ((dq T).mono (by decide)) hr rfl T.m__law_from T.F__law_from.kp T.b__law_from aB (ae (ar (aa 0 rfl) ab rfl (eA (i:=0) rfl (by omega))) (ae (ar (aa 0 rfl) ab rfl (eA (i:=1) rfl (by omega))) ao bv) bv) ⟨_,_,rfl,zC,zA,rfl⟩) ?_)
 refine ac (ax (i:=5) aJ.nd rfl (Or.inl rfl) (aw ((dq T).mono (by decide)) hr rfl T.m__law_from T.F__law_from.kp T.b__law_from aB (ae (ar (aa 0 rfl) ab rfl (eA (i:=0) rfl (by omega))) (ae (ar (aa 0 rfl) (bK ab) rfl (xV (by omega))) ao bv) bv) ⟨_,_,rfl,zC,zB,rfl⟩) ?_)
 refine ac (ax (i:=6) aJ.nd rfl (Or.inl rfl) (aw ((dq T).mono (by decide)) hr rfl T.m__law_from T.F__law_from.kp T.b__law_from aB (ae (ar (aa 1 rfl) (aa 2 rfl) rfl (eA (i:=i) rfl hi)) (ae (ar (aa 1 rfl) (cB (ca (aa 2 rfl) (aa 3 rfl)) (aV (dS rfl) rfl T.z_len BF (ae (aa 1 rfl) ao af)) (by rw[Ar];omega)) rfl (t9 hi w)) ao bv) bv) ⟨_,_,rfl,zC',zR,rfl⟩) ?_)
 refine ac (ax (i:=7) aJ.nd rfl (Or.inl rfl) (aw ((dq T).mono (by decide)) hr rfl T.m__law_from T.F__law_from.kp T.b__law_from aB (ae (ar (aa 1 rfl) (aa 2 rfl) rfl (eA (i:=i) rfl hi)) (ae (ar (aa 1 rfl) (cB (bu (aa 2 rfl) (aa 3 rfl)) (aV (dS rfl) rfl T.z_len BF (ae (aa 1 rfl) ao af)) (by rw[Ar];omega)) rfl (vn hi w)) ao bv) bv) ⟨_,_,rfl,zC',zS,rfl⟩) ?_)
 have p1:=(dk zC zA).1
 have p2:=(dk zC zA).2
 have q1:=(dk zC zB).1
 have q2:=(dk zC zB).2
 have r1:=(dk zC' zR).1
 have r2:=(dk zC' zR).2
 have s1:=(dk zC' zS).1
 have s2:=(dk zC' zS).2
 refine ac (ax (i:=8) aJ.nd rfl (Or.inr rfl) (bu (aK (ar (aa 4 rfl) ab rfl rfl) (ar (aa 5 rfl) ab rfl rfl) (by walk_at "mul")) (aK (ar (aa 4 rfl) ab rfl rfl) (ar (aa 5 rfl) ab rfl rfl) (by walk_at "mul"))) ?_)
 have wz:Sz 803 (trW (gp l 0) (gp l 1) (gp l (l.length - 1))):=(L2.Sz.sub' (L2.Sz.mul p1 q2) (L2.Sz.mul p2 q1)).mono (by decide)
 refine ac (ax (i:=9) aJ.nd rfl (Or.inl rfl) (EvN.ev (dD (ai (bu (aK (ar (aa 6 rfl) ab rfl rfl) (ar (aa 5 rfl) ab rfl rfl) (by walk_at "mul")) (aK (ar (aa 7 rfl) ab rfl rfl) (ar (aa 4 rfl) ab rfl rfl) (by walk_at "mul"))) (ai (bu (aK (ar (aa 7 rfl) ab rfl rfl) (ar (aa 4 rfl) ab rfl rfl) (by walk_at "mul")) (aK (ar (aa 6 rfl) ab rfl rfl) (ar (aa 5 rfl) ab rfl rfl) (by walk_at "mul"))) bg bB) bB))) ?_)
 refine ac (ax (i:=9) aJ.nd rfl (Or.inl rfl) (EvN.ev (jB (aa 9 rfl) (EvN.ev (dD (ai (bu (aK (ar (aa 6 rfl) ab rfl rfl) (ar (aa 5 rfl) ab rfl rfl) (by walk_at "mul")) (aK (ar (aa 7 rfl) ab rfl rfl) (ar (aa 4 rfl) ab rfl rfl) (by walk_at "mul"))) (ai (bu (aK (ar (aa 7 rfl) ab rfl rfl) (ar (aa 4 rfl) ab rfl rfl) (by walk_at "mul")) (aK (ar (aa 6 rfl) ab rfl rfl) (ar (aa 5 rfl) ab rfl rfl) (by walk_at "mul"))) bg bB) bB))) (show 2+2≤sizeLine by decide))) ?_)
 show Ws _ _ _ _ _ _ [some (.val (lp l)),some (.val (lp l')),some (.val (.int (i:Int))),some (.val (.int (wI w))),some (.val (pu (frm (gp l 0) (gp l 1)))),some (.val (pu (frm (gp l 0) (gp l (l.length - 1))))),some (.val (pu (frm (gp l' i) (nbr l' i w)))),some (.val (pu (frm (gp l' i) (nbr l' i (!w))))),some (.val (.int (trW (gp l 0) (gp l 1) (gp l (l.length - 1))))),some (.val (.lst ((trT (gp l 0) (gp l 1) (gp l (l.length - 1)) (gp l' i) (nbr l' i w) (nbr l' i (!w))).map U.int))),none,none,none,none,none,none,none]
 unfold trO trm
 have eM:(trM (gp l 0) (gp l 1) (gp l (l.length - 1)) (gp l' i) (nbr l' i w) (nbr l' i (!w)))=⟨(trT (gp l 0) (gp l 1) (gp l (l.length - 1)) (gp l' i) (nbr l' i w) (nbr l' i (!w))).getD 0 0 / trW (gp l 0) (gp l 1) (gp l (l.length - 1)),(trT (gp l 0) (gp l 1) (gp l (l.length - 1)) (gp l' i) (nbr l' i w) (nbr l' i (!w))).getD 1 0 / trW (gp l 0) (gp l 1) (gp l (l.length - 1)),(trT (gp l 0) (gp l 1) (gp l (l.length - 1)) (gp l' i) (nbr l' i w) (nbr l' i (!w))).getD 2 0 / trW (gp l 0) (gp l 1) (gp l (l.length - 1)),(trT (gp l 0) (gp l 1) (gp l (l.length - 1)) (gp l' i) (nbr l' i w) (nbr l' i (!w))).getD 3 0 / trW (gp l 0) (gp l 1) (gp l (l.length - 1)),_,_⟩:=rfl
 have tl:(trT (gp l 0) (gp l 1) (gp l (l.length - 1)) (gp l' i) (nbr l' i w) (nbr l' i (!w))).length=4:=rfl
 unfold trm at mz
 have okd:vZ (gp l 0) (gp l 1) (gp l (l.length - 1)) (gp l' i) (nbr l' i w) (nbr l' i (!w))=((∀x∈trT (gp l 0) (gp l 1) (gp l (l.length - 1)) (gp l' i) (nbr l' i w) (nbr l' i (!w)),x % trW (gp l 0) (gp l 1) (gp l (l.length - 1))=0)∧(trM (gp l 0) (gp l 1) (gp l (l.length - 1)) (gp l' i) (nbr l' i w) (nbr l' i (!w))).U):=rfl
 rw[okd]
 generalize trM (gp l 0) (gp l 1) (gp l (l.length - 1)) (gp l' i) (nbr l' i w) (nbr l' i (!w))=m at *
 generalize trT (gp l 0) (gp l 1) (gp l (l.length - 1)) (gp l' i) (nbr l' i w) (nbr l' i (!w))=T4 at *
 generalize trW (gp l 0) (gp l 1) (gp l (l.length - 1))=W at *
 have wz9:0 < W∧Sz 9000 W:=⟨wp,wz.mono (by decide)⟩
 refine ac (fc (fun _:Unit=>[some (.val (lp l)),some (.val (lp l')),some (.val (.int (i:Int))),some (.val (.int (wI w))),some (.val (pu (frm (gp l 0) (gp l 1)))),some (.val (pu (frm (gp l 0) (gp l (l.length - 1))))),some (.val (pu (frm (gp l' i) (nbr l' i w)))),some (.val (pu (frm (gp l' i) (nbr l' i (!w))))),some (.val (.int W)),some (.val (.lst (T4.map U.int))),none,none,none,none,none,none,none]) (fun k _=>∀j,j < k→T4.getD j 0 % W=0) rfl PassesOwn.never (cD (aa 9 rfl) (.inl rfl)) ?h0 ?hs ?hd)
 case h0=>exact ⟨(),fun j hj=>absurd hj (by omega),rfl,rfl,rfl,rfl,rfl,rfl,rfl,rfl,rfl,rfl,trivial⟩
 case hs=>
  rintro H0 k y _ hy inv
  rw[Av] at hy
  obtain ⟨x,hx,rfl⟩:=BO.mp hy
  have xm:=AO hx
  have xg:T4.getD k 0=x:=by rw[Ax,hx];rfl
  refine ⟨_,(fe (i:=10) aJ.nd rfl (Or.inl rfl)),?_⟩
  by_cases z:x % W=0
  ·refine ac (cU (bp jr (cB (aa 10 rfl) (aa 8 rfl) wp) ab) (by rw[z];rfl) (aU (aU ?_)))
   refine ⟨(),fun j hj=>?_,rfl,rfl,rfl,rfl,rfl,rfl,rfl,rfl,rfl,rfl,trivial⟩
   by_cases e:j=k
   ·rw[e,xg];exact z
   ·exact inv j (by omega)
  ·refine ac (iD (bp jr (cB (aa 10 rfl) (aa 8 rfl) wp) ab) (by simp[z]) ?_)
   refine ac (bA wC ?_)
   show Out.val _=Out.val _
   rw[if_neg (fun h=>z (h.1 x xm))]
 case hd=>
  rintro _ ps inv hps
  refine dm ?_ hps
  rw[Ar,tl] at inv
  have dv:∀x∈T4,x % W=0:=fun x hx=>by
   obtain ⟨j,hj⟩:=BH.mp hx
   have:=inv j (by have:=aF hj;omega)
   rw[Ax,hj] at this
   exact this
  have e4:T4=[T4.getD 0 0,T4.getD 1 0,T4.getD 2 0,T4.getD 3 0]:=by
   match T4,tl with
   |[a,b,c,d],_=>rfl
  have ea:T4.getD 0 0 / W=m.a:=by rw[eM]
  have eb:T4.getD 1 0 / W=m.b:=by rw[eM]
  have ec:T4.getD 2 0 / W=m.c:=by rw[eM]
  have ed:T4.getD 3 0 / W=m.d:=by rw[eM]
  have ee:m.e=(gp l' i).1 - m.a*(gp l 0).1 - m.b*(gp l 0).2:=by rw[eM]
  have ef:m.f=(gp l' i).2 - m.c*(gp l 0).1 - m.d*(gp l 0).2:=by rw[eM]
  have zc1:=zC.1
  have zc2:=zC.2
  have zc1':=zC'.1
  have zc2':=zC'.2
  have za:=mz.a
  have zb:=mz.b
  have zc:=mz.c
  have zd:=mz.d
  refine ac (ww (EvN.ev (gJ (ys:=[U.int m.a,.int m.b,.int m.c,.int m.d]) rfl (blk (ag bY) ["one","other","at","way","p","q","r","s","wide","tops","top","a","b","c","d","x","y"] [10] rfl rfl rfl rfl (by decide+kernel)) (cD (aa 9 rfl) (.inl rfl)) (fun _ _ _ _=>bj (i:=10) aJ.nd rfl (Or.inl rfl)) (cQ (by decide)) ?clen ?csz (fun _ _=>trivial) ?celt)) (yw [11,12,13,14] rfl (bS (bj (i:=11) aJ.nd rfl (Or.inl rfl)) (bS (bj (i:=12) aJ.nd rfl (Or.inl rfl)) (bS (bj (i:=13) aJ.nd rfl (Or.inl rfl)) (bS (bj (i:=14) aJ.nd rfl (Or.inl rfl)) gZ)))) (.inl rfl) rfl) ?_)
  case clen=>rw[Ar,tl];rfl
  case csz=>rw[Ar,tl];decide
  case celt=>
   intro C s' H' fp j y z hy hz
   rw[Av] at hy
   obtain ⟨x,hx,rfl⟩:=BO.mp hy
   have xz:=tz x (AO hx)
   have:z=.int (x / W):=by
    rw[←ea,←eb,←ec,←ed] at hz
    have hx':x=T4.getD j 0:=by rw[Ax,hx];rfl
    match j,hz with
    |0,hz=>cases hz;rw[hx']
    |1,hz=>cases hz;rw[hx']
    |2,hz=>cases hz;rw[hx']
    |3,hz=>cases hz;rw[hx']
    |j+4,hz=>cases hz
   subst this
   exact (dE (aa 10 rfl) (aa 8 rfl) wz9)
  by_cases u:m.U
  ·refine ac (cU (bp jr (aV mV rfl T.z_abs PyProof.Rows.boot_abs (ae (bu (aK (aa 11 rfl) (aa 14 rfl) (by walk_at "mul")) (aK (aa 12 rfl) (aa 13 rfl) (by walk_at "mul"))) ao bB)) ab) (by rcases u with q |q <;>rw[q] <;>rfl) (aU ?_))
   refine ac (ax (i:=15) aJ.nd rfl (Or.inl rfl) (bu (bu (ar (ar (aa 1 rfl) (aa 2 rfl) rfl (eA (i:=i) rfl hi)) ab rfl rfl) (aK (aa 11 rfl) (ar (ar (aa 0 rfl) ab rfl (eA (i:=0) rfl (by omega))) ab rfl rfl) (by walk_at "mul"))) (aK (aa 12 rfl) (ar (ar (aa 0 rfl) ab rfl (eA (i:=0) rfl (by omega))) ab rfl rfl) (by walk_at "mul"))) ?_)
   refine ac (ax (i:=16) aJ.nd rfl (Or.inl rfl) (bu (bu (ar (ar (aa 1 rfl) (aa 2 rfl) rfl (eA (i:=i) rfl hi)) ab rfl rfl) (aK (aa 13 rfl) (ar (ar (aa 0 rfl) ab rfl (eA (i:=0) rfl (by omega))) ab rfl rfl) (by walk_at "mul"))) (aK (aa 14 rfl) (ar (ar (aa 0 rfl) ab rfl (eA (i:=0) rfl (by omega))) ab rfl rfl) (by walk_at "mul"))) ?_)
   refine ac (bA (bo (ai (aa 11 rfl) (ai (aa 12 rfl) (ai (aa 13 rfl) (ai (aa 14 rfl) (ai (aa 15 rfl) (ai (aa 16 rfl) bg af) af) af) af) af) af)) ?_)
   show Out.val _=Out.val _
   rw[if_pos ⟨dv,u⟩,←ee,←ef]
  ·have nu:¬ (m.a*m.d - m.b*m.c=1∨m.a*m.d - m.b*m.c=-1):=u
   refine ac (iD (bp jr (aV mV rfl T.z_abs PyProof.Rows.boot_abs (ae (bu (aK (aa 11 rfl) (aa 14 rfl) (by walk_at "mul")) (aK (aa 12 rfl) (aa 13 rfl) (by walk_at "mul"))) ao bB)) ab) (by rw[Bool.not_eq_true'];exact decide_eq_false (fun q=>nu (by omega))) ?_)
   refine ac (bA wC ?_)
   show Out.val _=Out.val _
   rw[if_neg (fun h=>u h.2)]
end
section
variable {P:AD}{w:World}{K:Ap}{mg:Str→Option Value}{base:Heap}
open Classical in
noncomputable def trF (l:List P2) (i:Nat) (w:Bool):Option (List Int):=if trO l l i w∧ST.srt (l.map (trm l l i w).go)=ST.srt l then some (trm l l i w).l else none
noncomputable def dueI (l:List P2) (i j:Nat):List (List Int):=([true,false].take j).filterMap (trF l i)
noncomputable def dueL (l:List P2) (k:Nat):List (List Int):=(Bi k).flatMap fun i=>dueI l i 2
theorem ij (l:List P2) (k:Nat):dueL l (k+1)=dueL l k++dueI l k 2:=by
 unfold dueL
 rw[Gr,List.flatMap_append];simp
theorem fu {l:List P2}{k:Nat}{x:List Int} (h:x∈dueL l k):∃i w,i < k∧trO l l i w∧ST.srt (l.map (trm l l i w).go)=ST.srt l∧x=(trm l l i w).l:=by
 unfold dueL dueI at h
 obtain ⟨i,hi,h⟩:=HL.mp h
 obtain ⟨w,_,e⟩:=CZ.mp h
 unfold trF at e
 split at e
 ·rename_i q
  cases e
  exact ⟨i,w,AQ.mp hi,q.1,q.2,rfl⟩
 ·cases e
theorem pV {l:List P2} (hl:ak l=l) (h3:3≤l.length) (m:M6):m.l∈dueL l l.length↔Sym l l m:=by
 constructor
 ·intro h
  obtain ⟨i,w,hi,o,s,e⟩:=fu h
  rw[m8 e]
  exact Sym.of_srt o.2 s
 ·intro S
  obtain ⟨i,w,hi,o,e⟩:=S.tried hl h3 hl
  unfold dueL dueI
  refine HL.mpr ⟨i,AQ.mpr hi,CZ.mpr ⟨w,by cases w <;>simp,?_⟩⟩
  unfold trF
  rw[if_pos ⟨o,by rw[e];exact S.srt⟩,e]
theorem sD {l:List P2} (hl:ak l=l) (h3:3≤l.length):∀k,k≤l.length→(dueL l k).Nodup
 |0,_=>by unfold dueL;simp
 |k+1,hk=>by
  have nd:=iX hl
  rw[ij]
  refine Em.mpr ⟨sD hl h3 k (by omega),?_,fun a ha b hb e=>?_⟩
  ·unfold dueI
   show (IJ (trF l k) [true,false]).Nodup
   have two:∀a b,trF l k true=some a→trF l k false=some b→a≠b:=fun a b ha hb e=>by
    unfold trF at ha hb
    split at ha
    ·rename_i qa
     split at hb
     ·rename_i qb
      cases ha;cases hb
      have:=(tL hl h3 nd h3 (by omega) (by omega) qa.1 qb.1 (m8 e)).2
      cases this
     ·cases hb
    ·cases ha
   cases ha:trF l k true with
   |none=>
    cases hb:trF l k false with
    |none=>simp[ha,hb]
    |some b=>simp[ha,hb]
   |some a=>
    cases hb:trF l k false with
    |none=>simp[ha,hb]
    |some b=>simp[ha,hb,two a b ha hb]
  ·subst e
   obtain ⟨i,w,hi,o,_,e1⟩:=fu ha
   unfold dueI at hb
   obtain ⟨v,_,e2⟩:=CZ.mp hb
   unfold trF at e2
   split at e2
   ·rename_i q
    cases e2
    have:=(tL hl h3 nd h3 (by omega) (by omega) q.1 o (m8 e1)).1
    omega
   ·cases e2
theorem lh (l:List P2):∀k,(dueL l k).length≤2*k
 |0=>by unfold dueL;simp
 |k+1=>by
  rw[ij,Bd]
  have h1:=lh l k
  have h2:(dueI l k 2).length≤2:=by
   unfold dueI
   exact BR (Fx _ _) (by simp)
  omega
theorem ql {l:List P2}{i j:Nat}{w:Bool} (h:[true,false][j]?=some w):dueI l i (j+1)=dueI l i j++(trF l i w).toList:=by
 unfold dueI
 rw[Hq,h,EA]
 have:IJ (trF l i) [w]=(trF l i w).toList:=by cases e:trF l i w <;>simp[e]
 exact congrArg _ this
def mX:List U→Out→Prop:=fun us o=>∃l:List P2,us=[lp l]∧ak l=l∧3≤l.length∧l.length≤31∧(∀p∈l,Szp 400 p)∧o=.val (.lst ((ST6.srtL (dueL l l.length)).map sxU))
theorem nw (T:Txt K mg):bF P w K mg base (CXF P w) 3 T.a__law_due T.d__law_due ["ends"] (spU K (mX)):=by
 refine bG T.F__law_due bM (fun us o h=>?_) (fun cdv A outer s H E O us o hr h=>?_)
 ·obtain ⟨l,rfl,hc,h3,h60,lz,rfl⟩:=h
  rfl
 obtain ⟨l,rfl,hc,h3,h60,lz,rfl⟩:=h
 refine Ws.nox ?_
 have nd:=iX hc
 have hm:((l.map pu).length:Int)=(l.length:Int):=by rw[Ar]
 refine ac (ko (i:=1) bM.nd rfl (Or.inl rfl) (dD bg) ?_)
 refine ac (ax (i:=2) bM.nd rfl (Or.inl rfl) (EvN.ev (kU rfl T.z_sorted (aa 0 rfl) ⟨by omega,nd⟩ af)) ?_)
 refine ac (fc (fun k:Nat=>[some (.val (lp l)),some (.own ((dueL l k).map sxU)),some (.val (lp (ST.srt l))),none,none,none,none]) (fun i k=>i=k) rfl PassesOwn.never (lQ rfl T.z_range (ae (aV (dS rfl) rfl T.z_len BF (ae (aa 0 rfl) ao af)) ao e8) (by rw[hm];omega) (by rw[hm];omega)) ?h0 ?hs ?hd)
 case h0=>exact ⟨0,rfl,rfl,rfl,rfl,trivial⟩
 case hs=>
  rintro H0 i x _ hx rfl
  obtain ⟨hi,rfl⟩:=i5 hx
  rw[hm] at hi
  have hi':i < l.length:=by omega
  rw[show (0:Int)+(i:Int)=(i:Int) by omega]
  have I:TrI l l i:=⟨hc,h3,hi',lz,lz⟩
  have dl:=lh l i
  refine ⟨_,(fe (i:=3) bM.nd rfl (Or.inl rfl)),?_⟩
  refine fk (fun ps=>SubP [some (.val (lp l)),some (.own ((dueL l (i+1)).map sxU)),some (.val (lp (ST.srt l))),none,none,none,none] ps) (fc (fun j:Nat=>[some (.val (lp l)),some (.own ((dueL l i++dueI l i j).map sxU)),some (.val (lp (ST.srt l))),some (.val (.int (i:Int))),none,none,none]) (fun i j=>i=j) rfl PassesOwn.never (cD (EvN.ev (dD (ai ab (ai (bK ab) bg cC) aG))) (.inl rfl)) ?h02 ?hs2 ?hd2) ?hj
  case h02=>
   refine ⟨0,rfl,rfl,?_,rfl,rfl,trivial⟩
   exact congrArg (fun z=>some (Sl.own z)) (show _=(dueL l i++([]:List (List Int))).map sxU by rw[Dy])
  case hs2=>
   rintro H0 j y _ hy rfl
   have hw:∃w:Bool,y=.int (wI w)∧[true,false][j]?=some w:=by
    match j,hy with
    |0,hy=>cases hy;exact ⟨true,rfl,rfl⟩
    |1,hy=>cases hy;exact ⟨false,rfl,rfl⟩
    |j+2,hy=>cases hy
   obtain ⟨w,rfl,ew⟩:=hw
   have jl:j < 2:=by have:=aF ew;simpa using this
   have il:(dueI l i j).length≤2:=by
    unfold dueI
    exact BR (Fx _ _) (by simp;omega)
   have es:=ql (l:=l) (i:=i) ew
   obtain ⟨_,mz⟩:=I.sz w
   refine ⟨_,(fe (i:=4) bM.nd rfl (Or.inl rfl)),?_⟩
   by_cases o:trO l l i w
   ·have mv:=mz.mv o.2 (by decide)
    have ndm:(l.map (trm l l i w).go).Nodup:=Fv _ (fun p q (h:p≠q) k=>h (M6.inj o.2 k)) nd
    refine ac (ax (i:=5) bM.nd rfl (Or.inr rfl) (aw ((gi T).mono (by decide)) hr rfl T.m__law_tried T.F__law_tried.kp T.b__law_tried aB (ae (aa 0 rfl) (ae (aa 0 rfl) (ae (aa 3 rfl) (ae (aa 4 rfl) ao af) af) af) af) ⟨l,l,i,w,rfl,I,(congrArg Out.val (if_pos o)).symm⟩) ?_)
    by_cases c:ST.srt (l.map (trm l l i w).go)=ST.srt l
    ·have ef:trF l i w=some (trm l l i w).l:=by unfold trF;rw[if_pos ⟨o,c⟩]
     rw[ef] at es
     refine ac (iD (Tw.t (lO (oH (aa 5 rfl) (nH _)) (fun hz=>(kO (bp (xS (kP hr) (iG _) (iG _)) (EvN.ev (kU rfl T.z_sorted (EvN.ev (gJ (ys:=((l.map (trm l l i w).go).map pu)) rfl (blk (ag cf) ["ends","some","row","at","way","move","spot"] [6] rfl rfl rfl rfl (by decide+kernel)) (cD (aa 0 rfl) (.inl rfl)) (fun _ _ _ _=>bj (i:=6) bM.nd rfl (Or.inl rfl)) (cQ (by decide)) ?clen ?csz (fun _ _=>trivial) ?celt)) ⟨by rw[Ar];omega,ndm⟩ e_)) (aa 2 rfl)))))) (by rw[show eqW (U.lst ((ST.srt (l.map (trm l l i w).go)).map pu)) (lp (ST.srt l))=decide (ST.srt (l.map (trm l l i w).go)=ST.srt l) from kY _ _,c];simp[oQ]) ?_)
     case clen=>simp
     case csz=>rw[Ar];exact By (aS (by omega))
     case celt=>
      intro C s' H' fp j y z hy hz
      rw[Bf] at hz
      obtain ⟨p,hp,mp,rfl,rfl⟩:=fR hy hz
      exact (aw ((jk T).mono (by decide)) hr rfl T.m__law_by T.F__law_by.kp T.b__law_by aB (ae (aa 5 rfl) (ae (aa 6 rfl) ao af) af) ⟨_,_,_,_,_,_,p,rfl,mv,Szp.mono (lz p mp) (by decide),rfl⟩)
     refine ac (eI 1 rfl (aa 5 rfl) (by simp only[Ar,Bd];exact aS (by omega)) (aU (aU ?_)))
     refine ⟨j+1,rfl,rfl,?_,rfl,rfl,trivial⟩
     refine congrArg (fun z=>some (Sl.own z)) ?_
     rw[es,←Ek];simp only[BB];rfl
    ·have ef:trF l i w=none:=by unfold trF;rw[if_neg (fun q=>c q.2)]
     rw[ef] at es
     refine ac (cU (Tw.t (lO (oH (aa 5 rfl) (nH _)) (fun hz=>(kO (bp (xS (kP hr) (iG _) (iG _)) (EvN.ev (kU rfl T.z_sorted (EvN.ev (gJ (ys:=((l.map (trm l l i w).go).map pu)) rfl (blk (ag cf) ["ends","some","row","at","way","move","spot"] [6] rfl rfl rfl rfl (by decide+kernel)) (cD (aa 0 rfl) (.inl rfl)) (fun _ _ _ _=>bj (i:=6) bM.nd rfl (Or.inl rfl)) (cQ (by decide)) ?clen ?csz (fun _ _=>trivial) ?celt)) ⟨by rw[Ar];omega,ndm⟩ e_)) (aa 2 rfl)))))) (by rw[show eqW (U.lst ((ST.srt (l.map (trm l l i w).go)).map pu)) (lp (ST.srt l))=decide (ST.srt (l.map (trm l l i w).go)=ST.srt l) from kY _ _,decide_eq_false c];simp[oQ]) (aU (aU ?_)))
     case clen=>simp
     case csz=>rw[Ar];exact By (aS (by omega))
     case celt=>
      intro C s' H' fp j y z hy hz
      rw[Bf] at hz
      obtain ⟨p,hp,mp,rfl,rfl⟩:=fR hy hz
      exact (aw ((jk T).mono (by decide)) hr rfl T.m__law_by T.F__law_by.kp T.b__law_by aB (ae (aa 5 rfl) (ae (aa 6 rfl) ao af) af) ⟨_,_,_,_,_,_,p,rfl,mv,Szp.mono (lz p mp) (by decide),rfl⟩)
     refine ⟨j+1,rfl,rfl,?_,rfl,rfl,trivial⟩
     refine congrArg (fun z=>some (Sl.own z)) ?_
     rw[es];simp
   ·have ef:trF l i w=none:=by unfold trF;rw[if_neg (fun q=>o q.1)]
    rw[ef] at es
    refine ac (ax (i:=5) bM.nd rfl (Or.inr rfl) (aw ((gi T).mono (by decide)) hr rfl T.m__law_tried T.F__law_tried.kp T.b__law_tried aB (ae (aa 0 rfl) (ae (aa 0 rfl) (ae (aa 3 rfl) (ae (aa 4 rfl) ao af) af) af) af) ⟨l,l,i,w,rfl,I,(congrArg Out.val (if_neg o)).symm⟩) ?_)
    refine ac (cU (Tw.t (je (oH (aa 5 rfl) (nH _)) rfl)) rfl (aU (aU ?_)))
    refine ⟨j+1,rfl,rfl,?_,rfl,rfl,trivial⟩
    refine congrArg (fun z=>some (Sl.own z)) ?_
    rw[es];simp
  case hd2=>
   rintro q ps hq hps
   have:q=2:=by rw[←hq];rfl
   subst this
   rw[←ij] at hps
   exact SubP.trans (by exact ⟨rfl,rfl,rfl,trivial⟩) hps
  case hj=>
   intro ps hps
   refine aU ?_
   exact ⟨i+1,rfl,hps⟩
 case hd=>
  rintro q ps hq hps
  refine dm ?_ hps
  have:q=l.length:=by rw[←hq,eZ,hm];omega
  subst this
  have dl:=lh l l.length
  refine lC 1 rfl ?_
  refine ac (bA (EvN.ev (jG rfl T.z_sorted (aa 1 rfl) ⟨by omega,sD hc h3 _ (Ay _),fun k hk=>by obtain ⟨_,_,_,_,_,e⟩:=fu hk;rw[e];rfl⟩ af)) ?_)
  exact rfl
end
section
variable {P:AD}{w:World}{K:Ap}{mg:Str→Option Value}{base:Heap}
def lnF (c:Int) (b:Bool):Int:=if b=true then c % 9 - 4 else c % (2*10 ^ (20:Int).toNat+1) - 10 ^ (20:Int).toNat
theorem lE (c:Int) (b:Bool):Sz 67 (lnF c b):=by
 unfold lnF
 split
 ·exact Sz.mono (m:=8) (by unfold Sz;omega) (by decide)
 ·have h1:=Cg c (show (2*10 ^ (20:Int).toNat+1:Int)≠0 by decide+kernel)
  have h2:=BP c (show (0:Int) < 2*10 ^ (20:Int).toNat+1 by decide+kernel)
  have z:Sz 67 ((10:Int) ^ (20:Int).toNat):=by decide+kernel
  exact z.natle (by omega)
def p7:List U→Out→Prop:=fun us o=>∃(c:Int) (b:Bool),us=[.int c,.bl b]∧Sz 1048576 c∧o=.val (.int (lnF c b))
theorem gY (T:Txt K mg):bF P w K mg base (CXF P w) 1 T.a__law_lean T.d__law_lean ["cell","small"] (spU K (p7)):=by
 refine bG T.F__law_lean lJ (fun us o h=>?_) (fun cdv A outer s H E O us o hr h=>?_)
 ·obtain ⟨c,b,rfl,sc,rfl⟩:=h
  rfl
 obtain ⟨c,b,rfl,sc,rfl⟩:=h
 refine Ws.nox ?_
 unfold lnF
 cases b with
 |true=>
  refine ac (iD (iF (aa 1 rfl)) rfl ?_)
  refine ac (bA (bu (cB (aa 0 rfl) ab (by walk_at "mod")) ab) ?_)
  exact rfl
 |false=>
  refine ac (cU (iF (aa 1 rfl)) rfl (aU ?_))
  refine ac (bA (bu (cB (aa 0 rfl) (ca (aK ab (iH ab ab ⟨by decide,by decide,by decide⟩) (by walk_at "mul")) ab) (by decide+kernel)) (iH ab ab ⟨by decide,by decide,by decide⟩)) ?_)
  exact rfl
def qV (ns:List Int):Int:=cel ns 0 / 256
def lA (ns:List Int):Int:=lnF (cel ns 1) (decide (qV ns % 2=1))
def lB (ns:List Int):Int:=lnF (cel ns 2) (decide (qV ns / 2 % 2=1))
def sR (ns:List Int):Int:=cel ns 3 % (2*10 ^ (40:Int).toNat+1) - 10 ^ (40:Int).toNat
def sU (ns:List Int):Int:=cel ns 4 % (2*10 ^ (40:Int).toNat+1) - 10 ^ (40:Int).toNat
def mu (ns:List Int):Int:=if qV ns / 4 % 2=1 then 1+cel ns 4 % 10 ^ (20:Int).toNat else 1
def xF (ns:List Int) (p:P2):P2:=if qV ns / 4 % 2=1 then (p.1*(1+cel ns 4 % 10 ^ (20:Int).toNat),p.2*(1+cel ns 4 % 10 ^ (20:Int).toNat)) else p
def yF (ns:List Int) (p:P2):Int:=(xF ns p).2+lA ns*(xF ns p).1
def putF (ns:List Int) (p:P2):P2:=((xF ns p).1+lB ns*yF ns p+sR ns,yF ns p+sU ns)
theorem s40 (c:Int):Sz 134 (c % (2*10 ^ (40:Int).toNat+1) - 10 ^ (40:Int).toNat):=by
 have h1:=Cg c (show (2*10 ^ (40:Int).toNat+1:Int)≠0 by decide+kernel)
 have h2:=BP c (show (0:Int) < 2*10 ^ (40:Int).toNat+1 by decide+kernel)
 have z:Sz 134 ((10:Int) ^ (40:Int).toNat):=by decide+kernel
 exact z.natle (by omega)
theorem uM (c:Int):0 < 1+c % 10 ^ (20:Int).toNat∧Sz 68 (1+c % 10 ^ (20:Int).toNat):=by
 have h1:=Cg c (show (10 ^ (20:Int).toNat:Int)≠0 by decide+kernel)
 have h2:=BP c (show (0:Int) < 10 ^ (20:Int).toNat by decide+kernel)
 have z:Sz 68 ((10:Int) ^ (20:Int).toNat):=by decide+kernel
 exact ⟨by omega,z.natle (by omega)⟩
theorem ua (ns:List Int) (p:P2):xF ns p=(p.1*mu ns,p.2*mu ns):=by
 unfold xF mu
 split
 ·rfl
 ·rw[Dx,Dx]
theorem xQ (ns:List Int):0 < mu ns:=by
 unfold mu
 split
 ·exact (uM _).1
 ·decide
theorem oY {ns:List Int}{p:P2} (h:Szp 8 p):Szp 76 (xF ns p):=by
 unfold xF
 split
 ·exact ⟨(L2.Sz.mul h.1 (uM _).2).mono (by decide),(L2.Sz.mul h.2 (uM _).2).mono (by decide)⟩
 ·exact ⟨h.1.mono (by decide),h.2.mono (by decide)⟩
theorem rD {ns:List Int}{p:P2} (h:Szp 8 p):Sz 144 (yF ns p):=(L2.Sz.add' ((oY (ns:=ns) h).2.mono (n:=143) (by decide)) (L2.Sz.mul (lE _ _) (oY (ns:=ns) h).1)).mono (by decide)
theorem xE {ns:List Int}{p:P2} (h:Szp 8 p):Szp 220 (putF ns p):=
 ⟨(L2.Sz.add' (L2.Sz.add' ((oY (ns:=ns) h).1.mono (n:=211) (by decide)) (L2.Sz.mul (lE _ _) (rD h))) ((s40 _).mono (n:=212) (by decide))).mono (by decide),(L2.Sz.add' ((rD h).mono (n:=144) (by decide)) ((s40 _).mono (n:=144) (by decide))).mono (by decide)⟩
def tZ:List U→Out→Prop:=fun us o=>∃(p:P2) (ns:List Int),us=[pu p,.scr (ns.map U.int)]∧(∀m∈ns,Sz 1048576 m)∧Szp 8 p∧o=.val (pu (putF ns p))
theorem mJ (T:Txt K mg):bF P w K mg base (CXF P w) 2 T.a__law_put T.d__law_put ["spot","script"] (spU K (tZ)):=by
 refine bG T.F__law_put bH (fun us o h=>?_) (fun cdv A outer s H E O us o hr h=>?_)
 ·obtain ⟨p,ns,rfl,hB,sp,rfl⟩:=h
  rfl
 obtain ⟨p,ns,rfl,hB,sp,rfl⟩:=h
 refine Ws.nox ?_
 have c1:=r_ hB 1
 have c2:=r_ hB 2
 have s1:=sp.1
 have s2:=sp.2
 have m20:=(uM (cel ns 4)).2
 have w:=oY (ns:=ns) sp
 have w1:=w.1
 have w2:=w.2
 have yz:=rD (ns:=ns) sp
 have az:Sz 67 (lA ns):=lE _ _
 have bz:Sz 67 (lB ns):=lE _ _
 refine ac (ww (aa 0 rfl) (wO [2,3] rfl (bS (bj (i:=2) bH.nd rfl (Or.inl rfl)) (bS (bj (i:=3) bH.nd rfl (Or.inl rfl)) gZ)) rfl) ?_)
 refine ac (ax (i:=4) bH.nd rfl (Or.inl rfl) (dE (aw ((br T).mono (by decide)) hr rfl T.m__law_cell_at T.F__law_cell_at.kp T.b__law_cell_at aB (ae (aa 1 rfl) (ae ab ao aG) af) ⟨ns,_,rfl,by decide,rfl⟩) ab (by walk_at "div")) ?_)
 rw[show cel ns 0 / 256=qV ns from rfl]
 refine fk (fun ps=>SubP [some (.val (pu p)),some (.val (.scr (ns.map U.int))),some (.val (.int (xF ns p).1)),some (.val (.int (xF ns p).2)),some (.val (.int (qV ns))),none,none] ps) (kB (bp dX (cB (dE (aa 4 rfl) ab (by walk_at "div")) ab (by walk_at "mod")) ab) (fun hT=>?_) (fun hF=>(aU ?_))) ?hj
 ·have e:xF ns p=(p.1*(1+cel ns 4 % 10 ^ (20:Int).toNat),p.2*(1+cel ns 4 % 10 ^ (20:Int).toNat)):=by unfold xF;rw[if_pos (dTb hT)]
  refine ac (ax (i:=2) bH.nd rfl (Or.inl rfl) (aK (aa 2 rfl) (ca ab (cB (aw ((br T).mono (by decide)) hr rfl T.m__law_cell_at T.F__law_cell_at.kp T.b__law_cell_at aB (ae (aa 1 rfl) (ae ab ao aG) af) ⟨ns,_,rfl,by decide,rfl⟩) (iH ab ab ⟨by decide,by decide,by decide⟩) (by decide+kernel))) (L2.Sz.ok s1 m20 (by decide))) ?_)
  refine ac (ax (i:=3) bH.nd rfl (Or.inl rfl) (aK (aa 3 rfl) (ca ab (cB (aw ((br T).mono (by decide)) hr rfl T.m__law_cell_at T.F__law_cell_at.kp T.b__law_cell_at aB (ae (aa 1 rfl) (ae ab ao aG) af) ⟨ns,_,rfl,by decide,rfl⟩) (iH ab ab ⟨by decide,by decide,by decide⟩) (by decide+kernel))) (L2.Sz.ok s2 m20 (by decide))) (aU ?_))
  rw[e]
  exact ⟨rfl,rfl,rfl,rfl,rfl,trivial⟩
 ·have e:xF ns p=p:=by unfold xF;rw[if_neg (dFb hF)]
  rw[e]
  exact ⟨rfl,rfl,rfl,rfl,rfl,trivial⟩
 case hj=>
  intro ps hps
  refine dm ?_ hps
  refine ac (ax (i:=3) bH.nd rfl (Or.inl rfl) (ca (aa 3 rfl) (aK (aw ((gY T).mono (by decide)) hr rfl T.m__law_lean T.F__law_lean.kp T.b__law_lean aB (ae (aw ((br T).mono (by decide)) hr rfl T.m__law_cell_at T.F__law_cell_at.kp T.b__law_cell_at aB (ae (aa 1 rfl) (ae ab ao aG) af) ⟨ns,_,rfl,by decide,rfl⟩) (ae (uz dX (cB (aa 4 rfl) ab (by walk_at "mod")) ab) ao rW) e8) ⟨_,_,rfl,c1,rfl⟩) (aa 2 rfl) (L2.Sz.ok az w1 (by decide)))) ?_)
  refine ac (ax (i:=2) bH.nd rfl (Or.inl rfl) (ca (aa 2 rfl) (aK (aw ((gY T).mono (by decide)) hr rfl T.m__law_lean T.F__law_lean.kp T.b__law_lean aB (ae (aw ((br T).mono (by decide)) hr rfl T.m__law_cell_at T.F__law_cell_at.kp T.b__law_cell_at aB (ae (aa 1 rfl) (ae ab ao aG) af) ⟨ns,_,rfl,by decide,rfl⟩) (ae (uz dX (cB (dE (aa 4 rfl) ab (by walk_at "div")) ab (by walk_at "mod")) ab) ao rW) e8) ⟨_,_,rfl,c2,rfl⟩) (aa 3 rfl) (L2.Sz.ok bz yz (by decide)))) ?_)
  refine ac (ax (i:=5) bH.nd rfl (Or.inl rfl) (bu (cB (aw ((br T).mono (by decide)) hr rfl T.m__law_cell_at T.F__law_cell_at.kp T.b__law_cell_at aB (ae (aa 1 rfl) (ae ab ao aG) af) ⟨ns,_,rfl,by decide,rfl⟩) (ca (aK ab (iH ab ab ⟨by decide,by decide,by decide⟩) (by walk_at "mul")) ab) (by decide+kernel)) (iH ab ab ⟨by decide,by decide,by decide⟩)) ?_)
  refine ac (ax (i:=6) bH.nd rfl (Or.inl rfl) (bu (cB (aw ((br T).mono (by decide)) hr rfl T.m__law_cell_at T.F__law_cell_at.kp T.b__law_cell_at aB (ae (aa 1 rfl) (ae ab ao aG) af) ⟨ns,_,rfl,by decide,rfl⟩) (ca (aK ab (iH ab ab ⟨by decide,by decide,by decide⟩) (by walk_at "mul")) ab) (by decide+kernel)) (iH ab ab ⟨by decide,by decide,by decide⟩)) ?_)
  refine ac (bA (bo (ai (ca (aa 2 rfl) (aa 5 rfl)) (ai (ca (aa 3 rfl) (aa 6 rfl)) bg bB) bB)) ?_)
  exact rfl
theorem vR (ns:List Int) (A B C:P2):aq (putF ns A) (putF ns B) (putF ns C)=mu ns*mu ns*aq A B C:=by
 unfold putF yF
 rw[ua,ua,ua]
 unfold aq
 dsimp only
 grind
end
section
variable {P:AD}{w:World}{K:Ap}{mg:Str→Option Value}{base:Heap}
theorem pJ {a b c d e f:Int}{i:Nat}{x:U}{o:Option U} (h1:[U.int a,.int b,.int c,.int d,.int e,.int f][i]?=some x) (h2:[some (U.int a),some (.int b),some (.int c),some (.int d),some (.int e),some (.int f)][i]?=some o):∃n:Int,x=.int n∧o=some (.int n):=by
 match i,h1,h2 with
 |0,h1,h2=>cases h1;cases h2;exact ⟨a,rfl,rfl⟩
 |1,h1,h2=>cases h1;cases h2;exact ⟨b,rfl,rfl⟩
 |2,h1,h2=>cases h1;cases h2;exact ⟨c,rfl,rfl⟩
 |3,h1,h2=>cases h1;cases h2;exact ⟨d,rfl,rfl⟩
 |4,h1,h2=>cases h1;cases h2;exact ⟨e,rfl,rfl⟩
 |5,h1,h2=>cases h1;cases h2;exact ⟨f,rfl,rfl⟩
 |i+6,h1,h2=>cases h1
def tbl (k:Int):List Int:=if k=0 then [-1,0,0,-1] else if k=1 then [0,-1,1,-1] else if k=2 then [0,-1,1,0] else [1,-1,1,0]
def tbm (t:List Int) (p:P2):P2:=(t.getD 0 0*p.1+t.getD 1 0*p.2,t.getD 2 0*p.1+t.getD 3 0*p.2)
def Hx (k:Int) (p:P2):Prop:=-2≤p.1∧p.1≤2∧-2≤p.2∧p.2≤2∧((k=0∨k=2)∨(-2≤p.1 - p.2∧p.1 - p.2≤2))
theorem xP {k:Int} (hk:0≤k∧k < 4) {p:P2} (h:Hx k p):Hx k (tbm (tbl k) p):=by
 have:k=0∨k=1∨k=2∨k=3:=by omega
 unfold Hx at *
 rcases this with e |e |e |e <;>subst e <;>simp[tbm,tbl] at h ⊢ <;>omega
def jg (t:List Int) (S:List P2):Nat→List P2
 |0=>S
 |k+1=>(jg t S k).map (tbm t)
def gM (t:List Int) (S:List P2):Nat→List P2
 |0=>S
 |k+1=>gM t S k++jg t S (k+1)
theorem lD {k:Int} (hk:0≤k∧k < 4) {S:List P2} (hS:∀p∈S,Hx k p):∀n,(jg (tbl k) S n).length=S.length∧∀p∈jg (tbl k) S n,Hx k p
 |0=>⟨rfl,hS⟩
 |n+1=>by
  obtain ⟨a,b⟩:=lD hk hS n
  refine ⟨by rw[jg,Ar];exact a,fun p hp=>?_⟩
  rw[jg] at hp
  obtain ⟨q,hq,rfl⟩:=Az.mp hp
  exact xP hk (b q hq)
theorem lw {k:Int} (hk:0≤k∧k < 4) {S:List P2} (hS:∀p∈S,Hx k p):∀n,(gM (tbl k) S n).length=(n+1) *S.length∧(∀p∈gM (tbl k) S n,Hx k p)∧∀p∈S,p∈gM (tbl k) S n
 |0=>⟨by rw[gM];omega,hS,fun p hp=>hp⟩
 |n+1=>by
  obtain ⟨a,b,c⟩:=lw hk hS n
  obtain ⟨d,e⟩:=lD hk hS (n+1)
  refine ⟨?_,fun p hp=>?_,fun p hp=>?_⟩
  ·rw[gM,Bd,a,d];grind
  ·rw[gM] at hp
   rcases B4.mp hp with z |z
   ·exact b p z
   ·exact e p z
  ·rw[gM];exact Bu _ (c p hp)
theorem yL {k:Int}{p:P2} (h:Hx k p):Szp 8 p:=by
 unfold Hx at h
 constructor <;>unfold Sz <;>omega
def t4 (t:List Int):U:=.tup (t.map U.int)
def nW:List U→Out→Prop:=fun us o=>∃(S:List P2) (k:Int),us=[lp S,t4 (tbl k)]∧(0≤k∧k < 4)∧(∀p∈S,Hx k p)∧S.length≤8∧o=.val (lp (gM (tbl k) S 5))
theorem jI (T:Txt K mg):bF P w K mg base (CXF P w) 1 T.a__law_round T.d__law_round ["some","table"] (spU K (nW)):=by
 refine bG T.F__law_round bI (fun us o h=>?_) (fun cdv A outer s H E O us o hr h=>?_)
 ·obtain ⟨S,k,rfl,hk,hS,h8,rfl⟩:=h
  rfl
 obtain ⟨S,k,rfl,hk,hS,h8,rfl⟩:=h
 refine Ws.nox ?_
 have tz:Sz 8 ((tbl k).getD 0 0)∧Sz 8 ((tbl k).getD 1 0)∧Sz 8 ((tbl k).getD 2 0)∧Sz 8 ((tbl k).getD 3 0):=by
  have:k=0∨k=1∨k=2∨k=3:=by omega
  rcases this with e |e |e |e <;>subst e <;>decide
 obtain ⟨tz0,tz1,tz2,tz3⟩:=tz
 have e4:t4 (tbl k)=.tup [.int ((tbl k).getD 0 0),.int ((tbl k).getD 1 0),.int ((tbl k).getD 2 0),.int ((tbl k).getD 3 0)]:=by
  have:k=0∨k=1∨k=2∨k=3:=by omega
  rcases this with e |e |e |e <;>subst e <;>rfl
 have fo:=lw hk hS
 have lo:=lD hk hS
 have tb:∀p:P2,tbm (tbl k) p=((tbl k).getD 0 0*p.1+(tbl k).getD 1 0*p.2,(tbl k).getD 2 0*p.1+(tbl k).getD 3 0*p.2):=fun p=>rfl
 rw[e4]
 generalize tbl k=t at *
 generalize t.getD 0 0=t0 at *
 generalize t.getD 1 0=t1 at *
 generalize t.getD 2 0=t2 at *
 generalize t.getD 3 0=t3 at *
 refine ac (ax (i:=2) bI.nd rfl (Or.inl rfl) (EvN.ev (kQ (nM rfl) rfl T.z_list G9 (ae (aa 0 rfl) ao af))) ?_)
 refine ac (ax (i:=3) bI.nd rfl (Or.inl rfl) (EvN.ev (kQ (nM rfl) rfl T.z_list G9 (ae (aa 0 rfl) ao af))) ?_)
 refine ac (fc (fun n:Nat=>[some (.val (lp S)),some (.val (.tup [.int t0,.int t1,.int t2,.int t3])),some (.val (lp (gM t S n))),some (.val (lp (jg t S n))),none,none,none]) (fun i n=>i=n) rfl PassesOwn.never (lQ rfl T.z_range (ae ab ao aG) (by omega) (by omega)) ?h0 ?hs ?hd)
 case h0=>exact ⟨0,rfl,rfl,rfl,rfl,rfl,trivial⟩
 case hs=>
  rintro H0 i x _ hx rfl
  obtain ⟨hi,rfl⟩:=i5 hx
  have hi5:i < 5:=by simpa using hi
  obtain ⟨l1,l2⟩:=lo i
  obtain ⟨f1,_,_⟩:=fo i
  have f1':(gM t S i).length≤48:=by
   rw[f1]
   have:(i+1) *S.length≤6*8:=Nat.mul_le_mul (by omega) h8
   omega
  refine ⟨_,(fe (i:=4) bI.nd rfl (Or.inl rfl)),?_⟩
  refine ac (ki (ys:=((jg t S (i+1)).map pu)) (j:=3) false rfl bI.nd rfl (Or.inl rfl) (blk (ag bX) ["some","table","found","last","k","x","y"] [5,6] rfl rfl rfl rfl (by decide+kernel)) (cD (aa 3 rfl) (.inl rfl)) (fun _ _ _ _=>nJ rfl (bS (bj (i:=5) bI.nd rfl (Or.inl rfl)) (bS (bj (i:=6) bI.nd rfl (Or.inl rfl)) gZ))) (pE (js:=[5,6]) (by decide)) ?clen ?csz ?dom ?celt ?_)
  case clen=>rw[jg];simp
  case csz=>rw[Ar];exact By (aS (by omega))
  case dom=>
   intro x hx
   obtain ⟨p,_,rfl⟩:=Az.mp hx
   exact ⟨_,rfl,rfl⟩
  case celt=>
   intro C s' H' fp j x y hx hy
   rw[jg,Bf] at hy
   obtain ⟨p,hp,mp,rfl,rfl⟩:=fR hx hy
   obtain ⟨s1,s2⟩:=yL (l2 p mp)
   show Ev _ _ _ _ _ (pu (tbm t p))
   rw[tb p]
   exact (bo (ai (ca (aK (ar (aa 1 rfl) ab rfl rfl) (aa 5 rfl) (by walk_at "mul")) (aK (ar (aa 1 rfl) ab rfl rfl) (aa 6 rfl) (by walk_at "mul"))) (ai (ca (aK (ar (aa 1 rfl) ab rfl rfl) (aa 5 rfl) (by walk_at "mul")) (aK (ar (aa 1 rfl) ab rfl rfl) (aa 6 rfl) (by walk_at "mul"))) bg bB) bB))
  refine ac (ax (i:=2) bI.nd rfl (Or.inl rfl) (EvN.ev (jB (aa 2 rfl) (aa 3 rfl) (by rw[Ar,Ar,jg,Ar,l1];exact By (aS (by omega))))) (aU ?_))
  refine ⟨i+1,rfl,rfl,rfl,?_,rfl,trivial⟩
  exact congrArg (fun z=>some (Sl.val (U.lst z))) (by rw[gM,BB])
 case hd=>
  rintro q ps hq hps
  refine dm ?_ hps
  have:q=5:=by rw[←hq,eZ];rfl
  subst this
  refine ac (bA (aa 2 rfl) ?_)
  exact rfl
end
section
variable {P:AD}{w:World}{K:Ap}{mg:Str→Option Value}{base:Heap}
theorem yl (l:List U):fi l (some 5) (some 10)=(l.drop 5).take 5:=by
 unfold fi
 rw[show HT.sIx l.length 0 (some 5)=min 5 l.length from rfl,show HT.sIx l.length l.length (some 10)=min 10 l.length from rfl]
 by_cases h5:5≤l.length
 ·rw[Il h5]
  by_cases h60:10≤l.length
  ·rw[Il h60]
  ·rw[Nat.min_eq_right (by omega),Dr (by simp),Dr (by simp;omega)]
 ·rw[Eg (by omega),Eg (by omega)];simp
def three:List P2:=[(0,0),(1,0),(0,1)]
def eW (ns:List Int):Int:=1+cel ns 0 % 3
def eH (ns:List Int):Int:=1+cel ns 0 / 4 % 3
def cS (ns:List Int):List Int:=(ns.drop 5).take 5
def pA (ns:List Int) (i:Nat):List P2:=three++((cS ns).take i).map fun c=>(c % eW ns,c / eW ns % eH ns)
def eK (ns:List Int):Int:=cel ns 0 / 64 % 4
def pB (ns:List Int):List P2:=if 0 < cel ns 0 / 16 % 4 then gM (tbl (eK ns)) (pA ns (cS ns).length) 5 else pA ns (cS ns).length
def eP (ns:List Int):List P2:=if cel ns 0 / 16 % 4=2 then pB ns++(pB ns).map (fun p=>(p.2,p.1)) else pB ns
theorem pY (ns:List Int):0 < eW ns∧eW ns≤3∧0 < eH ns∧eH ns≤3∧0≤eK ns∧eK ns < 4:=by unfold eW eH eK;omega
theorem sr (ns:List Int) (i:Nat):(pA ns i).length≤8∧(∀k,∀p∈pA ns i,Hx k p)∧∀p∈three,p∈pA ns i:=by
 unfold pA
 obtain ⟨w1,w2,h1,h2,_⟩:=pY ns
 refine ⟨by unfold cS three;simp;omega,fun k p hp=>?_,fun p hp=>Bu _ hp⟩
 rcases B4.mp hp with q |q
 ·have:∀r∈three,0≤r.1∧r.1≤2∧0≤r.2∧r.2≤2:=by decide
  have:=this p q
  unfold Hx;omega
 ·obtain ⟨c,_,rfl⟩:=Az.mp q
  have a1:=Cg c (show eW ns≠0 by omega)
  have a2:=BP c w1
  have b1:=Cg (c / eW ns) (show eH ns≠0 by omega)
  have b2:=BP (c / eW ns) h1
  unfold Hx;dsimp only;omega
def uZ:List P2:=[-2,-1,0,1,2].flatMap fun x=>[-2,-1,0,1,2].map fun y=>(x,y)
theorem t_ {p:P2} (h:-2≤p.1∧p.1≤2∧-2≤p.2∧p.2≤2):p∈uZ:=by
 obtain ⟨x,y⟩:=p
 dsimp only at h
 have hx:x=-2∨x=-1∨x=0∨x=1∨x=2:=by omega
 have hy:y=-2∨y=-1∨y=0∨y=1∨y=2:=by omega
 rcases hx with e |e |e |e |e <;>rcases hy with f |f |f |f |f <;>subst e <;>subst f <;>decide
def Bx (p:P2):Prop:=-2≤p.1∧p.1≤2∧-2≤p.2∧p.2≤2
theorem Bx.sz {p:P2} (h:Bx p):Szp 8 p:=by
 unfold Bx at h
 constructor <;>unfold Sz <;>omega
theorem wk (ns:List Int):(pB ns).length≤48∧(∀p∈pB ns,Bx p)∧∀p∈three,p∈pB ns:=by
 obtain ⟨a,b,c⟩:=sr ns (cS ns).length
 obtain ⟨_,_,_,_,k1,k2⟩:=pY ns
 unfold pB
 split
 ·obtain ⟨f1,f2,f3⟩:=lw ⟨k1,k2⟩ (b (eK ns)) 5
  refine ⟨by rw[f1];omega,fun p hp=>?_,fun p hp=>f3 p (c p hp)⟩
  have:=f2 p hp
  unfold Hx at this
  unfold Bx;omega
 ·refine ⟨by omega,fun p hp=>?_,c⟩
  have:=b 0 p hp
  unfold Hx at this
  unfold Bx;omega
theorem wb (ns:List Int):(eP ns).length≤96∧(∀p∈eP ns,Bx p)∧∀p∈three,p∈eP ns:=by
 obtain ⟨a,b,c⟩:=wk ns
 unfold eP
 split
 ·refine ⟨by rw[Bd,Ar];omega,fun p hp=>?_,fun p hp=>Bu _ (c p hp)⟩
  rcases B4.mp hp with q |q
  ·exact b p q
  ·obtain ⟨r,hr,rfl⟩:=Az.mp q
   have:=b r hr
   unfold Bx at *;dsimp only;omega
 ·exact ⟨by omega,b,c⟩
theorem pi (ns:List Int):(∀p∈(eP ns).map (putF ns),Szp 220 p)∧3≤(ak ((eP ns).map (putF ns))).length∧(ak ((eP ns).map (putF ns))).length≤25:=by
 obtain ⟨a,b,c⟩:=wb ns
 refine ⟨fun p hp=>?_,?_,?_⟩
 ·obtain ⟨q,hq,rfl⟩:=Az.mp hp
  exact xE (b q hq).sz
 ·have hm:∀p∈three,putF ns p∈(eP ns).map (putF ns):=fun p hp=>Az.mpr ⟨p,c p hp,rfl⟩
  refine ul (hm (0,0) (by decide)) (hm (1,0) (by decide)) (hm (0,1) (by decide)) ?_
  rw[vR]
  have:=xQ ns
  have e:aq (0,0) (1,0) (0,1)=1:=by decide
  rw[e,Dx]
  exact Int.ne_of_gt (Cb this this)
 ·have:=lc (cg ((eP ns).map (putF ns))) (m:=uZ.map (putF ns)) fun x hx=>by
   obtain ⟨q,hq,rfl⟩:=Az.mp (cF _ x hx)
   exact Az.mpr ⟨q,t_ (b q hq),rfl⟩
  exact this
theorem yI (ns:List Int):atI [t4 [-1,0,0,-1],t4 [0,-1,1,-1],t4 [0,-1,1,0],t4 [1,-1,1,0]] (eK ns)=some (t4 (tbl (eK ns))):=by
 obtain ⟨_,_,_,_,k1,k2⟩:=pY ns
 generalize eK ns=k at *
 have:k=0∨k=1∨k=2∨k=3:=by omega
 rcases this with e |e |e |e <;>subst e <;>rfl
def qN:List U→Out→Prop:=fun us o=>∃ns:List Int,us=[.scr (ns.map U.int)]∧(∀m∈ns,Sz 1048576 m)∧o=.val (lp (ak ((eP ns).map (putF ns))))
theorem kR (T:Txt K mg):bF P w K mg base (CXF P w) 3 T.a__law_ends T.d__law_ends ["script"] (spU K (qN)):=by
 refine bG T.F__law_ends bq (fun us o h=>?_) (fun cdv A outer s H E O us o hr h=>?_)
 ·obtain ⟨ns,rfl,hB,rfl⟩:=h
  rfl
 obtain ⟨ns,rfl,hB,rfl⟩:=h
 refine Ws.nox ?_
 obtain ⟨w1,w2,h1,h2,k1,k2⟩:=pY ns
 have wz:Sz 9000 (eW ns):=Sz.mono (m:=8) (by unfold Sz;omega) (by decide)
 obtain ⟨la,ba,_⟩:=sr ns (cS ns).length
 obtain ⟨lb,bb,_⟩:=wk ns
 obtain ⟨le,be,_⟩:=wb ns
 obtain ⟨ez,e3,e25⟩:=pi ns
 have cut:fi (ns.map U.int) (some 5) (some 10)=(cS ns).map U.int:=by rw[yl,←G6,←Jj];rfl
 have cl:(cS ns).length≤5:=by unfold cS;simp;omega
 have few:(ST.srt ((eP ns).map (putF ns))).length < 64:=by
  have nds:(ST.srt ((eP ns).map (putF ns))).Nodup:=(ST.srt_asc _).imp fun {a b} h e=>by subst e;rw[ST.asc_irr] at h;cases h
  have:=lc nds (m:=uZ.map (putF ns)) fun x hx=>by
   obtain ⟨q,hq,rfl⟩:=Az.mp ((ST.srt_mem _ _).mp hx)
   exact Az.mpr ⟨q,t_ (be q hq),rfl⟩
  have e25:(uZ.map (putF ns)).length=25:=by rw[Ar];rfl
  omega
 refine ac (ax (i:=1) bq.nd rfl (Or.inl rfl) (aw ((br T).mono (by decide)) hr rfl T.m__law_cell_at T.F__law_cell_at.kp T.b__law_cell_at aB (ae (aa 0 rfl) (ae ab ao aG) af) ⟨ns,_,rfl,by decide,rfl⟩) ?_)
 refine ac (ax (i:=2) bq.nd rfl (Or.inl rfl) (ca ab (cB (aa 1 rfl) ab (by walk_at "mod"))) ?_)
 refine ac (ax (i:=3) bq.nd rfl (Or.inl rfl) (ca ab (cB (dE (aa 1 rfl) ab (by walk_at "div")) ab (by walk_at "mod"))) ?_)
 rw[show 1+cel ns 0 % 3=eW ns from rfl,show 1+cel ns 0 / 4 % 3=eH ns from rfl]
 refine ac ?_
 generalize hE:(Expr.List _ _)=E0
 refine ko (i:=4) (xs:=three.map pu) bq.nd rfl (Or.inl rfl) ?_ ?_ (by subst hE;rfl) (.inl rfl)
 ·subst hE
  refine EvM.ev ?_
  refine zK ?_ (show 3≤sizeLine by decide)
  refine ai (bo (ai ab (ai ab bg aG) aG)) ?_ cX
  refine ai (bo (ai ab (ai ab bg aG) aG)) ?_ cX
  exact ai (bo (ai ab (ai ab bg aG) aG)) bg cX
 clear hE
 refine fk (fun ps=>SubP [some (.val (.scr (ns.map U.int))),some (.val (.int (cel ns 0))),some (.val (.int (eW ns))),some (.val (.int (eH ns))),some (.own ((pA ns (cS ns).length).map pu)),none,none,none,none] ps) (fc (fun i:Nat=>[some (.val (.scr (ns.map U.int))),some (.val (.int (cel ns 0))),some (.val (.int (eW ns))),some (.val (.int (eH ns))),some (.own ((pA ns i).map pu)),none,none,none,none]) (fun i j=>i=j) rfl PassesOwn.never (cD (EvN.ev (dY (aa 0 rfl) (e7 ab) (e7 ab) (.inr rfl))) (.inl rfl)) ?h0 ?hs ?hd) ?hj
 case h0=>
  refine ⟨0,rfl,rfl,rfl,rfl,rfl,?_,trivial⟩
  exact congrArg (fun z=>some (Sl.own z)) (show _=(three++([]:List P2)).map pu by rw[Dy])
 case hs=>
  rintro H0 i x _ hx rfl
  rw[cut,Av] at hx
  obtain ⟨c,hc,rfl⟩:=BO.mp hx
  have hi:i < (cS ns).length:=aF hc
  have lai:=(sr ns i).1
  have cz:Sz 1048576 c:=hB c (List.mem_of_mem_drop (List.mem_of_mem_take (AO hc)))
  refine ⟨_,(fe (i:=5) bq.nd rfl (Or.inl rfl)),?_⟩
  refine ac (eI 4 rfl (bo (ai (cB (aa 5 rfl) (aa 2 rfl) (by omega)) (ai (cB (dE (aa 5 rfl) (aa 2 rfl) ⟨w1,wz⟩) (aa 3 rfl) (by omega)) bg bB) bB)) (by rw[Ar];exact aS (by omega)) (aU ?_))
  refine ⟨i+1,rfl,rfl,rfl,rfl,rfl,?_,trivial⟩
  refine congrArg (fun z=>some (Sl.own z)) ?_
  unfold pA
  rw[Hq,hc,BB (l₁:=(cS ns).take i),←Ek];simp only[BB];rfl
 case hd=>
  rintro q ps hq hps
  have:q=(cS ns).length:=by rw[←hq,cut,Ar]
  subst this
  exact hps
 case hj=>
  intro ps hps
  refine dm ?_ hps
  refine lC 4 rfl ?_
  refine fk (fun ps=>SubP [some (.val (.scr (ns.map U.int))),some (.val (.int (cel ns 0))),some (.val (.int (eW ns))),some (.val (.int (eH ns))),some (.val (lp (pB ns))),none,none,none,none] ps) (kB (bp mZ (cB (dE (aa 1 rfl) ab (by walk_at "div")) ab (by walk_at "mod")) ab) (fun hT=>?_) (fun hF=>(aU ?_))) ?hj3
  ·have e:pB ns=gM (tbl (eK ns)) (pA ns (cS ns).length) 5:=by unfold pB;rw[if_pos (dTb hT)]
   rw[e]
   refine ac ?_
   generalize hE:(Expr.Subscript _ _ _)=E0
   refine ax (i:=4) (u:=lp (gM (tbl (eK ns)) (pA ns (cS ns).length) 5)) bq.nd rfl (Or.inl rfl) (aw ((jI T).mono (by decide)) hr rfl T.m__law_round T.F__law_round.kp T.b__law_round aB (ae (aa 4 rfl) (ae (EvD.ev ?hv) ao ?h1) ?h2) ⟨_,eK ns,rfl,⟨k1,k2⟩,ba (eK ns),la,rfl⟩ (hpl:=by subst hE;rfl)) ?h3 (by subst hE;rfl) (.inl rfl)
   case hv=>
    subst hE
    refine yN (us:=[t4 [-1,0,0,-1],t4 [0,-1,1,-1],t4 [0,-1,1,0],t4 [1,-1,1,0]]) ?_ (cB (dE (aa 1 rfl) ab (by walk_at "div")) ab (by walk_at "mod")) (yI ns)
    refine dsp ?_ (show 4≤sizeLine by decide)
    refine ai (bo (ai (bK ab) (ai ab (ai ab (ai (bK ab) bg cC) aG) aG) cC)) ?_ cX
    refine ai (bo (ai ab (ai (bK ab) (ai ab (ai (bK ab) bg cC) aG) cC) aG)) ?_ cX
    refine ai (bo (ai ab (ai (bK ab) (ai ab (ai ab bg aG) aG) cC) aG)) ?_ cX
    exact ai (bo (ai ab (ai (bK ab) (ai ab (ai ab bg aG) aG) cC) aG)) bg cX
   case h1=>subst hE;exact bv
   case h2=>subst hE;exact af
   case h3=>
    clear hE
    refine aU ?_
    exact ⟨rfl,rfl,rfl,rfl,rfl,trivial⟩
  ·have e:pB ns=pA ns (cS ns).length:=by unfold pB;rw[if_neg (dFb hF)]
   rw[e]
   exact ⟨rfl,rfl,rfl,rfl,rfl,trivial⟩
  case hj3=>
   intro ps hps
   refine dm ?_ hps
   refine fk (fun ps=>SubP [some (.val (.scr (ns.map U.int))),some (.val (.int (cel ns 0))),some (.val (.int (eW ns))),some (.val (.int (eH ns))),some (.val (lp (eP ns))),none,none,none,none] ps) (kB (bp dX (cB (dE (aa 1 rfl) ab (by walk_at "div")) ab (by walk_at "mod")) ab) (fun hT=>?_) (fun hF=>(aU ?_))) ?hj4
   ·have e:eP ns=pB ns++(pB ns).map (fun p=>(p.2,p.1)):=by unfold eP;rw[if_pos (dTb hT)]
    rw[e]
    refine ac (ax (i:=4) bq.nd rfl (Or.inl rfl) (EvN.ev (jB (aa 4 rfl) (EvN.ev (gJ (ys:=(((pB ns).map fun p:P2=>(p.2,p.1)).map pu)) rfl (blk (ag bV) ["script","shape","wide","high","some","cell","x","y","spot"] [6,7] rfl rfl rfl rfl (by decide+kernel)) (cD (aa 4 rfl) (.inl rfl)) (fun _ _ _ _=>nJ rfl (bS (bj (i:=6) bq.nd rfl (Or.inl rfl)) (bS (bj (i:=7) bq.nd rfl (Or.inl rfl)) gZ))) (pE (js:=[6,7]) (by decide)) ?clen ?csz ?dom ?celt)) (by simp only[Ar];exact By (aS (by omega))))) (aU ?_))
    case clen=>simp
    case csz=>rw[Ar];exact By (aS (by omega))
    case dom=>
     intro x hx
     obtain ⟨p,_,rfl⟩:=Az.mp hx
     exact ⟨_,rfl,rfl⟩
    case celt=>
     intro C s' H' fp j x y hx hy
     rw[Bf] at hy
     obtain ⟨p,hp,mp,rfl,rfl⟩:=fR hx hy
     exact (bo (ai (aa 7 rfl) (ai (aa 6 rfl) bg af) af))
    refine ⟨rfl,rfl,rfl,rfl,?_,trivial⟩
    exact congrArg (fun z=>some (Sl.val (U.lst z))) (by rw[BB])
   ·have e:eP ns=pB ns:=by unfold eP;rw[if_neg (dFb hF)]
    rw[e]
    exact ⟨rfl,rfl,rfl,rfl,rfl,trivial⟩
   case hj4=>
    intro ps hps
    refine dm ?_ hps
    refine ac (bA (aw ((iL T).mono (by decide)) hr rfl T.m__law_corners T.F__law_corners.kp T.b__law_corners aB (ae (EvN.ev (gJ (ys:=(((eP ns).map (putF ns)).map pu)) rfl (blk (ag bV) ["script","shape","wide","high","some","cell","x","y","spot"] [8] rfl rfl rfl rfl (by decide+kernel)) (cD (aa 4 rfl) (.inl rfl)) (fun _ _ _ _=>bj (i:=8) bq.nd rfl (Or.inl rfl)) (cQ (by decide)) ?clen ?csz (fun _ _=>trivial) ?celt)) ao e_) ⟨_,rfl,fun p hp=>Szp.mono (ez p hp) (by decide),by rw[Ar];omega,few,eS e3,rfl⟩) ?_)
    case clen=>simp
    case csz=>rw[Ar];exact By (aS (by omega))
    case celt=>
     intro C s' H' fp j x y hx hy
     rw[Bf] at hy
     obtain ⟨p,hp,mp,rfl,rfl⟩:=fR hx hy
     exact (aw ((mJ T).mono (by decide)) hr rfl T.m__law_put T.F__law_put.kp T.b__law_put aB (ae (aa 8 rfl) (ae (aa 0 rfl) ao af) af) ⟨p,ns,rfl,hB,(be p mp).sz,rfl⟩)
    exact rfl
end
section
variable {P:AD}{w:World}{K:Ap}{mg:Str→Option Value}{base:Heap}
theorem xR (T:Txt K mg):bF P w K mg base (CXF P w) 10 T.a_law T.d_law ["script"] (spU K (hV)):=by
 refine bG T.F_law ip (fun us o h=>?_) (fun cdv A outer s H E O us o hr h=>?_)
 ·obtain ⟨ns,rfl,h63,hB,rfl⟩:=h
  rfl
 obtain ⟨ns,rfl,h63,hB,rfl⟩:=h
 refine Ws.nox ?_
 obtain ⟨ez,e3,e25⟩:=pi ns
 have cz:∀p∈ak ((eP ns).map (putF ns)),Szp 400 p:=fun p hp=>Szp.mono (ez p (cF _ p hp)) (by decide)
 obtain ⟨F,G,W⟩:=xl e3 (by omega) cz
 obtain ⟨a,b,c,d,e,f,em,_⟩:=W.mz W.sz (W.at_ W.best)
 have kc:=ig ((eP ns).map (putF ns))
 refine ac (ax (i:=1) ip.nd rfl (Or.inl rfl) (aw ((kR T).mono (by decide)) hr rfl T.m__law_ends T.F__law_ends.kp T.b__law_ends aB (ae (aa 0 rfl) ao af) ⟨ns,rfl,hB,rfl⟩) ?_)
 generalize ak ((eP ns).map (putF ns))=l at *
 have tm:(M6.mk a b c d e f).l∈msU l.length F G:=by
  have:(M6.mk a b c d e f).l=lR l F G:=em.symm
  rw[this];exact W.at_ W.best
 have om:=vo kc W.n3 W.p (fun s=>Gen.ms) tm
 have same:ST6.srtL (i0 l (stL l F G) ⟨a,b,c,d,e,f⟩)=ST6.srtL (dueL l l.length):=by
  refine ST6.ascL_one (ST6.srtL_ascL _) (ST6.srtL_ascL _) fun z=>?_
  rw[ST6.srtL_mem,ST6.srtL_mem]
  constructor
  ·intro h
   obtain ⟨m,rfl⟩:=nt h
   exact (pV kc e3 m).mpr ((om m).mp h)
  ·intro h
   obtain ⟨i,w,_,_,_,rfl⟩:=fu h
   exact (om _).mpr ((pV kc e3 _).mp h)
 have six:∀k∈ST6.srtL (dueL l l.length),∃m:M6,k=m.l:=fun k hk=>by
  obtain ⟨i,w,_,_,_,e⟩:=fu ((ST6.srtL_mem k _).mp hk)
  exact ⟨_,e⟩
 have ow:lY [lp l] (.new ((ST6.srtL (dueL l l.length)).map sxU)):=⟨l,F,G,⟨a,b,c,d,e,f⟩,rfl,W,em,by rw[same]⟩
 have du:mX [lp l] (.val (.lst ((ST6.srtL (dueL l l.length)).map sxU))):=⟨l,rfl,kc,e3,by omega,cz,rfl⟩
 clear same om tm em W
 generalize ST6.srtL (dueL l l.length)=D at *
 have okD:okU 9 (U.lst (D.map sxU))=true:=by
  rw[okU]
  exact i6 fun k _=>by rw[okU];exact i6 fun _ _=>rfl
 have eqD:eqW (U.lst (D.map sxU)) (U.lst (D.map sxU))=true:=l_ 9 _ okD
 refine ac (ax (i:=2) ip.nd rfl (Or.inl rfl) (EvN.ev (kQ (nM rfl) rfl T.z_list G9 (ae (aa 1 rfl) ao af))) ?_)
 refine ac (ax (i:=3) ip.nd rfl (Or.inl rfl) (EvN.ev (fE ((lI T).mono (by decide)) hr rfl T.m_own_moves T.F_own_moves.kp T.b_own_moves aB (ae (aa 2 rfl) ao af) ow)) ?_)
 refine ac (cU (Tw.t (u9 (nq (iF (aV (dG (by intro _ h;cases h) rfl) rfl T.z_isinstance Dh (ae (aa 3 rfl) (ae (oE rfl T.z_list G9) ao af) af)))) (fun hz=>(u9 (bp (y9 (kP hr) okD okD) (aa 3 rfl) (aw ((nw T).mono (by decide)) hr rfl T.m__law_due T.F__law_due.kp T.b__law_due aB (ae (aa 1 rfl) ao af) du)) (fun hz=>(rq (bp (y9 (kP hr) (iG _) (iG _)) (aa 2 rfl) (aa 1 rfl)))))))) (by rw[eqD,show eqW (lp l) (lp l)=true from by rw[kY];simp];rfl) (aU ?_))
 refine ac (fc (fun _:Unit=>[some (.val (.scr (ns.map U.int))),some (.val (lp l)),some (.val (lp l)),some (.val (.lst (D.map sxU))),none,none]) (fun _ _=>True) rfl PassesOwn.never (cD (aa 3 rfl) (.inl rfl)) ?h0 ?hs ?hd)
 case h0=>exact ⟨(),trivial,rfl,rfl,rfl,rfl,trivial⟩
 case hs=>
  rintro H0 i y _ hy _
  rw[Av] at hy
  obtain ⟨k,hk,rfl⟩:=BO.mp hy
  obtain ⟨m,rfl⟩:=six k (AO hk)
  refine ⟨_,(fe (i:=4) ip.nd rfl (Or.inl rfl)),?_⟩
  show Ws _ _ _ _ _ _ [some (.val (.scr (ns.map U.int))),some (.val (lp l)),some (.val (lp l)),some (.val (.lst (D.map sxU))),some (.val (mvM m)),none]
  refine ac (cU (Tw.t (u9 (nq (iF (aV (dG (by intro _ h;cases h) rfl) rfl T.z_isinstance Dh (ae (aa 4 rfl) (ae (oE rfl T.z_tuple boot_tuple) ao af) af)))) (fun hz=>(rq (bp jr (aV (dS rfl) rfl T.z_len BF (ae (EvN.ev (o7 [some (U.int m.a),some (.int m.b),some (.int m.c),some (.int m.d),some (.int m.e),some (.int m.f)] rfl (blk (ag jh) ["script","ends","handed","found","move","number"] [5] rfl rfl rfl rfl (by decide+kernel)) (wA (aa 4 rfl)) (fun _ _ _ _=>bj (i:=5) ip.nd rfl (Or.inl rfl)) (cQ (by decide)) ?clen ?csz (fun _ _=>trivial) ?ctest ?celt)) ao e_)) ab))))) rfl (aU (aU ?_)))
  case clen=>rfl
  case csz=>show 6≤sizeLine;decide
  case ctest=>
   intro C s' H' fp i y o h1 h2
   obtain ⟨n,rfl,rfl⟩:=pJ h1 h2
   exact (iF (aw ((jP T).mono (by decide)) hr rfl T.m__law_whole T.F__law_whole.kp T.b__law_whole aB (ae (aa 5 rfl) ao af) ⟨n,rfl,rfl⟩))
  case celt=>
   intro C s' H' fp i y z h1 h2
   obtain ⟨n,rfl,e2⟩:=pJ h1 h2
   cases e2
   exact (aa 5 rfl)
  exact ⟨(),trivial,rfl,rfl,rfl,rfl,trivial⟩
 case hd=>
  rintro _ ps _ hps
  refine dm ?_ hps
  refine ac (bA zX ?_)
  exact rfl
end
theorem ar1 {p:List Value→Prop}{us:List Value} (h:us.length=1) (q:∀a0,p [a0]):p us:=match us,h with |[a0],_=>q a0
theorem ar2 {p:List Value→Prop}{us:List Value} (h:us.length=2) (q:∀a0 a1,p [a0,a1]):p us:=match us,h with |[a0,a1],_=>q a0 a1
theorem ar3 {p:List Value→Prop}{us:List Value} (h:us.length=3) (q:∀a0 a1 a2,p [a0,a1,a2]):p us:=match us,h with |[a0,a1,a2],_=>q a0 a1 a2
theorem ar4 {p:List Value→Prop}{us:List Value} (h:us.length=4) (q:∀a0 a1 a2 a3,p [a0,a1,a2,a3]):p us:=match us,h with |[a0,a1,a2,a3],_=>q a0 a1 a2 a3
theorem txt_mk {K:Ap}{h:Heap}{mg:Str→Option Value}{fa f0 f1 f2 f3 f4 f5 f6 f7 f8 f9 f10 f11 f12 f13 f14 f15 f16 f17 f18 f19 f20 f21 f22 f23 f24 f25 f26 f27 f28 f29 f30 f31 f32:Addr} (X:K.In h) {ts:List Addr} (TS:∀P∈ts,h.get? P=some jN) (BM:wK mg h) (G:h.Ns AK mg) (hfa:mg "law"=some (.ref fa))
  {od0 an0 od1 an1 od2 an2 od3 an3 od4 an4 od5 an5 od6 an6 od7 an7 od8 an8 od9 an9 od10 an10 od11 an11 od12 an12 od13 an13 od14 an14 od15 an15 od16 an16 od17 an17 od18 an18 od19 an19 od20 an20 od21 an21 od22 an22 od23 an23 od24 an24 od25 an25 od26 an26 od27 an27 od28 an28 od29 an29 od30 an30 od31 an31 od32 an32:Option Addr}{sl0 sl1 sl2 sl3 sl4 sl5 sl6 sl7 sl8 sl9 sl10 sl11 sl12 sl13 sl14 sl15 sl16 sl17 sl18 sl19 sl20 sl21 sl22 sl23 sl24 sl25 sl26 sl27 sl28 sl29 sl30 sl31 sl32:Array (Option Value)}{oc0 kV0 dc0 pm0 cd0 ct0 oc1 kV1 dc1 pm1 cd1 ct1 oc2 kV2 dc2 pm2 cd2 ct2 oc3 kV3 dc3 pm3 cd3 ct3 oc4 kV4 dc4 pm4 cd4 ct4 oc5 kV5 dc5 pm5 cd5 ct5 oc6 kV6 dc6 pm6 cd6 ct6 oc7 kV7 dc7 pm7 cd7 ct7 oc8 kV8 dc8 pm8 cd8 ct8 oc9 kV9 dc9 pm9 cd9 ct9 oc10 kV10 dc10 pm10 cd10 ct10 oc11 kV11 dc11 pm11 cd11 ct11 oc12 kV12 dc12 pm12 cd12 ct12 oc13 kV13 dc13 pm13 cd13 ct13 oc14 kV14 dc14 pm14 cd14 ct14 oc15 kV15 dc15 pm15 cd15 ct15 oc16 kV16 dc16 pm16 cd16 ct16 oc17 kV17 dc17 pm17 cd17 ct17 oc18 kV18 dc18 pm18 cd18 ct18 oc19 kV19 dc19 pm19 cd19 ct19 oc20 kV20 dc20 pm20 cd20 ct20 oc21 kV21 dc21 pm21 cd21 ct21 oc22 kV22 dc22 pm22 cd22 ct22 oc23 kV23 dc23 pm23 cd23 ct23 oc24 kV24 dc24 pm24 cd24 ct24 oc25 kV25 dc25 pm25 cd25 ct25 oc26 kV26 dc26 pm26 cd26 ct26 oc27 kV27 dc27 pm27 cd27 ct27 oc28 kV28 dc28 pm28 cd28 ct28 oc29 kV29 dc29 pm29 cd29 ct29 oc30 kV30 dc30 pm30 cd30 ct30 oc31 kV31 dc31 pm31 cd31 ct31 oc32 kV32 dc32 pm32 cd32 ct32:Value}
  (a0:AM K AK "is_whole"=some (some (.ref f0))) (l0:K.lookup f0=some ⟨oc0,od0,.func (AW "is_whole" "is_whole" (aD cZ) (ay cZ) (ag cZ) .none kV0 dc0 pm0 an0 cd0 ct0),sl0⟩) (c0:AJ K cd0 "is_whole"=true) (k0:AI K (.ref f0)=true)
  (a1:AM K AK "sign"=some (some (.ref f1))) (l1:K.lookup f1=some ⟨oc1,od1,.func (AW "sign" "sign" (aD h_) (ay h_) (ag h_) .none kV1 dc1 pm1 an1 cd1 ct1),sl1⟩) (c1:AJ K cd1 "sign"=true) (k1:AI K (.ref f1)=true)
  (a2:AM K AK "shares"=some (some (.ref f2))) (l2:K.lookup f2=some ⟨oc2,od2,.func (AW "shares" "shares" (aD eu) (ay eu) (ag eu) .none kV2 dc2 pm2 an2 cd2 ct2),sl2⟩) (c2:AJ K cd2 "shares"=true) (k2:AI K (.ref f2)=true)
  (a3:AM K AK "hand"=some (some (.ref f3))) (l3:K.lookup f3=some ⟨oc3,od3,.func (AW "hand" "hand" (aD h9) (ay h9) (ag h9) .none kV3 dc3 pm3 an3 cd3 ct3),sl3⟩) (c3:AJ K cd3 "hand"=true) (k3:AI K (.ref f3)=true)
  (a4:AM K AK "is_move"=some (some (.ref f4))) (l4:K.lookup f4=some ⟨oc4,od4,.func (AW "is_move" "is_move" (aD cW) (ay cW) (ag cW) .none kV4 dc4 pm4 an4 cd4 ct4),sl4⟩) (c4:AJ K cd4 "is_move"=true) (k4:AI K (.ref f4)=true)
  (a5:AM K AK "need_move"=some (some (.ref f5))) (l5:K.lookup f5=some ⟨oc5,od5,.func (AW "need_move" "need_move" (aD cL) (ay cL) (ag cL) .none kV5 dc5 pm5 an5 cd5 ct5),sl5⟩) (c5:AJ K cd5 "need_move"=true) (k5:AI K (.ref f5)=true)
  (a6:AM K AK "turned"=some (some (.ref f6))) (l6:K.lookup f6=some ⟨oc6,od6,.func (AW "turned" "turned" (aD d_) (ay d_) (ag d_) .none kV6 dc6 pm6 an6 cd6 ct6),sl6⟩) (c6:AJ K cd6 "turned"=true) (k6:AI K (.ref f6)=true)
  (a7:AM K AK "moved"=some (some (.ref f7))) (l7:K.lookup f7=some ⟨oc7,od7,.func (AW "moved" "moved" (aD fW) (ay fW) (ag fW) .none kV7 dc7 pm7 an7 cd7 ct7),sl7⟩) (c7:AJ K cd7 "moved"=true) (k7:AI K (.ref f7)=true)
  (a8:AM K AK "behind"=some (some (.ref f8))) (l8:K.lookup f8=some ⟨oc8,od8,.func (AW "behind" "behind" (aD eO) (ay eO) (ag eO) .none kV8 dc8 pm8 an8 cd8 ct8),sl8⟩) (c8:AJ K cd8 "behind"=true) (k8:AI K (.ref f8)=true)
  (a9:AM K AK "way_back"=some (some (.ref f9))) (l9:K.lookup f9=some ⟨oc9,od9,.func (AW "way_back" "way_back" (aD cV) (ay cV) (ag cV) .none kV9 dc9 pm9 an9 cd9 ct9),sl9⟩) (c9:AJ K cd9 "way_back"=true) (k9:AI K (.ref f9)=true)
  (a10:AM K AK "steps"=some (some (.ref f10))) (l10:K.lookup f10=some ⟨oc10,od10,.func (AW "steps" "steps" (aD fX) (ay fX) (ag fX) .none kV10 dc10 pm10 an10 cd10 ct10),sl10⟩) (c10:AJ K cd10 "steps"=true) (k10:AI K (.ref f10)=true)
  (a11:AM K AK "level"=some (some (.ref f11))) (l11:K.lookup f11=some ⟨oc11,od11,.func (AW "level" "level" (aD fY) (ay fY) (ag fY) .none kV11 dc11 pm11 an11 cd11 ct11),sl11⟩) (c11:AJ K cd11 "level"=true) (k11:AI K (.ref f11)=true)
  (a12:AM K AK "turn"=some (some (.ref f12))) (l12:K.lookup f12=some ⟨oc12,od12,.func (AW "turn" "turn" (aD ie) (ay ie) (ag ie) .none kV12 dc12 pm12 an12 cd12 ct12),sl12⟩) (c12:AJ K cd12 "turn"=true) (k12:AI K (.ref f12)=true)
  (a13:AM K AK "left_bends"=some (some (.ref f13))) (l13:K.lookup f13=some ⟨oc13,od13,.func (AW "left_bends" "left_bends" (aD cu) (ay cu) (ag cu) .none kV13 dc13 pm13 an13 cd13 ct13),sl13⟩) (c13:AJ K cd13 "left_bends"=true) (k13:AI K (.ref f13)=true)
  (a14:AM K AK "field"=some (some (.ref f14))) (l14:K.lookup f14=some ⟨oc14,od14,.func (AW "field" "field" (aD fZ) (ay fZ) (ag fZ) .none kV14 dc14 pm14 an14 cd14 ct14),sl14⟩) (c14:AJ K cd14 "field"=true) (k14:AI K (.ref f14)=true)
  (a15:AM K AK "field_moved"=some (some (.ref f15))) (l15:K.lookup f15=some ⟨oc15,od15,.func (AW "field_moved" "field_moved" (aD bO) (ay bO) (ag bO) .none kV15 dc15 pm15 an15 cd15 ct15),sl15⟩) (c15:AJ K cd15 "field_moved"=true) (k15:AI K (.ref f15)=true)
  (a16:AM K AK "stand"=some (some (.ref f16))) (l16:K.lookup f16=some ⟨oc16,od16,.func (AW "stand" "stand" (aD f_) (ay f_) (ag f_) .none kV16 dc16 pm16 an16 cd16 ct16),sl16⟩) (c16:AJ K cd16 "stand"=true) (k16:AI K (.ref f16)=true)
  (a17:AM K AK "stands"=some (some (.ref f17))) (l17:K.lookup f17=some ⟨oc17,od17,.func (AW "stands" "stands" (aD eN) (ay eN) (ag eN) .none kV17 dc17 pm17 an17 cd17 ct17),sl17⟩) (c17:AJ K cd17 "stands"=true) (k17:AI K (.ref f17)=true)
  (a18:AM K AK "to_form"=some (some (.ref f18))) (l18:K.lookup f18=some ⟨oc18,od18,.func (AW "to_form" "to_form" (aD dB) (ay dB) (ag dB) .none kV18 dc18 pm18 an18 cd18 ct18),sl18⟩) (c18:AJ K cd18 "to_form"=true) (k18:AI K (.ref f18)=true)
  (a19:AM K AK "own_moves"=some (some (.ref f19))) (l19:K.lookup f19=some ⟨oc19,od19,.func (AW "own_moves" "own_moves" (aD bW) (ay bW) (ag bW) .none kV19 dc19 pm19 an19 cd19 ct19),sl19⟩) (c19:AJ K cd19 "own_moves"=true) (k19:AI K (.ref f19)=true)
  (a20:AM K AK "_law_cell_at"=some (some (.ref f20))) (l20:K.lookup f20=some ⟨oc20,od20,.func (AW "_law_cell_at" "_law_cell_at" (aD bQ) (ay bQ) (ag bQ) .none kV20 dc20 pm20 an20 cd20 ct20),sl20⟩) (c20:AJ K cd20 "_law_cell_at"=true) (k20:AI K (.ref f20)=true)
  (a21:AM K AK "_law_whole"=some (some (.ref f21))) (l21:K.lookup f21=some ⟨oc21,od21,.func (AW "_law_whole" "_law_whole" (aD cx) (ay cx) (ag cx) .none kV21 dc21 pm21 an21 cd21 ct21),sl21⟩) (c21:AJ K cd21 "_law_whole"=true) (k21:AI K (.ref f21)=true)
  (a22:AM K AK "_law_cross"=some (some (.ref f22))) (l22:K.lookup f22=some ⟨oc22,od22,.func (AW "_law_cross" "_law_cross" (aD cr) (ay cr) (ag cr) .none kV22 dc22 pm22 an22 cd22 ct22),sl22⟩) (c22:AJ K cd22 "_law_cross"=true) (k22:AI K (.ref f22)=true)
  (a23:AM K AK "_law_corners"=some (some (.ref f23))) (l23:K.lookup f23=some ⟨oc23,od23,.func (AW "_law_corners" "_law_corners" (aD bT) (ay bT) (ag bT) .none kV23 dc23 pm23 an23 cd23 ct23),sl23⟩) (c23:AJ K cd23 "_law_corners"=true) (k23:AI K (.ref f23)=true)
  (a24:AM K AK "_law_lean"=some (some (.ref f24))) (l24:K.lookup f24=some ⟨oc24,od24,.func (AW "_law_lean" "_law_lean" (aD cN) (ay cN) (ag cN) .none kV24 dc24 pm24 an24 cd24 ct24),sl24⟩) (c24:AJ K cd24 "_law_lean"=true) (k24:AI K (.ref f24)=true)
  (a25:AM K AK "_law_put"=some (some (.ref f25))) (l25:K.lookup f25=some ⟨oc25,od25,.func (AW "_law_put" "_law_put" (aD cY) (ay cY) (ag cY) .none kV25 dc25 pm25 an25 cd25 ct25),sl25⟩) (c25:AJ K cd25 "_law_put"=true) (k25:AI K (.ref f25)=true)
  (a26:AM K AK "_law_round"=some (some (.ref f26))) (l26:K.lookup f26=some ⟨oc26,od26,.func (AW "_law_round" "_law_round" (aD bX) (ay bX) (ag bX) .none kV26 dc26 pm26 an26 cd26 ct26),sl26⟩) (c26:AJ K cd26 "_law_round"=true) (k26:AI K (.ref f26)=true)
  (a27:AM K AK "_law_ends"=some (some (.ref f27))) (l27:K.lookup f27=some ⟨oc27,od27,.func (AW "_law_ends" "_law_ends" (aD bV) (ay bV) (ag bV) .none kV27 dc27 pm27 an27 cd27 ct27),sl27⟩) (c27:AJ K cd27 "_law_ends"=true) (k27:AI K (.ref f27)=true)
  (a28:AM K AK "_law_from"=some (some (.ref f28))) (l28:K.lookup f28=some ⟨oc28,od28,.func (AW "_law_from" "_law_from" (aD cM) (ay cM) (ag cM) .none kV28 dc28 pm28 an28 cd28 ct28),sl28⟩) (c28:AJ K cd28 "_law_from"=true) (k28:AI K (.ref f28)=true)
  (a29:AM K AK "_law_tried"=some (some (.ref f29))) (l29:K.lookup f29=some ⟨oc29,od29,.func (AW "_law_tried" "_law_tried" (aD bY) (ay bY) (ag bY) .none kV29 dc29 pm29 an29 cd29 ct29),sl29⟩) (c29:AJ K cd29 "_law_tried"=true) (k29:AI K (.ref f29)=true)
  (a30:AM K AK "_law_by"=some (some (.ref f30))) (l30:K.lookup f30=some ⟨oc30,od30,.func (AW "_law_by" "_law_by" (aD dA) (ay dA) (ag dA) .none kV30 dc30 pm30 an30 cd30 ct30),sl30⟩) (c30:AJ K cd30 "_law_by"=true) (k30:AI K (.ref f30)=true)
  (a31:AM K AK "_law_due"=some (some (.ref f31))) (l31:K.lookup f31=some ⟨oc31,od31,.func (AW "_law_due" "_law_due" (aD cf) (ay cf) (ag cf) .none kV31 dc31 pm31 an31 cd31 ct31),sl31⟩) (c31:AJ K cd31 "_law_due"=true) (k31:AI K (.ref f31)=true)
  (a32:AM K AK "law"=some (some (.ref f32))) (l32:K.lookup f32=some ⟨oc32,od32,.func (AW "law" "law" (aD jh) (ay jh) (ag jh) .none kV32 dc32 pm32 an32 cd32 ct32),sl32⟩) (c32:AJ K cd32 "law"=true) (k32:AI K (.ref f32)=true)
  (z_abs:AM K AK "abs"=some none)
  (z_all:AM K AK "all"=some none)
  (z_bool:AM K AK "bool"=some none)
  (z_int:AM K AK "int"=some none)
  (z_isinstance:AM K AK "isinstance"=some none)
  (z_len:AM K AK "len"=some none)
  (z_list:AM K AK "list"=some none)
  (z_min:AM K AK "min"=some none)
  (z_range:AM K AK "range"=some none)
  (z_reversed:AM K AK "reversed"=some none)
  (z_set:AM K AK "set"=some none)
  (z_sorted:AM K AK "sorted"=some none)
  (z_tuple:AM K AK "tuple"=some none)
  (z_zip:AM K AK "zip"=some none)
  {tfc tfP:Addr} (u0:cd18=.ref tfc) {odc:Option Addr}{vsc:Array Value}{slc:Array (Option Value)} (w1:K.lookup tfc=some ⟨.type "code",odc,.fields vsc,slc⟩) (w2:vsc[11]?=some (.ref tfP)) (w3:BK [(tfc,⟨.type "code",odc,.fields vsc,slc⟩)] tfc tfP=true) (u2:tfP∈ts)
  :∃K2:Ap,∃f c tb,K2.In h∧mU K2 mg f c tb∧∃T:Txt (bU tb K2) mg,T.a_law=fa∧(∀(s:As) (v:Value),GN s T.d_law ⟨[v],[]⟩ [("script",v)]):=by
 have e:=hfa.symm.trans (AU X G a32)
 cases e
 obtain ⟨tfb,ob,bm1,bm2,bm3,bm4,bm5,bm6⟩:=BM
 obtain ⟨K2,X2,EL,v2,u4⟩:=zZ X (TS _ u2) bm3
 have u1:=L2.hd_one (EL _ _ w1) w3
 have TA:mU K2 mg f18 tfc tfP:=⟨AU X G a18,⟨_,_,EL _ _ l18,rfl,u0⟩,u1,v2⟩
 replace l0:=av v2 (EL _ _ l0)
 replace c0:=au v2 (aA EL c0)
 replace k0:=aM l0
 replace l1:=av v2 (EL _ _ l1)
 replace c1:=au v2 (aA EL c1)
 replace k1:=aM l1
 replace l2:=av v2 (EL _ _ l2)
 replace c2:=au v2 (aA EL c2)
 replace k2:=aM l2
 replace l3:=av v2 (EL _ _ l3)
 replace c3:=au v2 (aA EL c3)
 replace k3:=aM l3
 replace l4:=av v2 (EL _ _ l4)
 replace c4:=au v2 (aA EL c4)
 replace k4:=aM l4
 replace l5:=av v2 (EL _ _ l5)
 replace c5:=au v2 (aA EL c5)
 replace k5:=aM l5
 replace l6:=av v2 (EL _ _ l6)
 replace c6:=au v2 (aA EL c6)
 replace k6:=aM l6
 replace l7:=av v2 (EL _ _ l7)
 replace c7:=au v2 (aA EL c7)
 replace k7:=aM l7
 replace l8:=av v2 (EL _ _ l8)
 replace c8:=au v2 (aA EL c8)
 replace k8:=aM l8
 replace l9:=av v2 (EL _ _ l9)
 replace c9:=au v2 (aA EL c9)
 replace k9:=aM l9
 replace l10:=av v2 (EL _ _ l10)
 replace c10:=au v2 (aA EL c10)
 replace k10:=aM l10
 replace l11:=av v2 (EL _ _ l11)
 replace c11:=au v2 (aA EL c11)
 replace k11:=aM l11
 replace l12:=av v2 (EL _ _ l12)
 replace c12:=au v2 (aA EL c12)
 replace k12:=aM l12
 replace l13:=av v2 (EL _ _ l13)
 replace c13:=au v2 (aA EL c13)
 replace k13:=aM l13
 replace l14:=av v2 (EL _ _ l14)
 replace c14:=au v2 (aA EL c14)
 replace k14:=aM l14
 replace l15:=av v2 (EL _ _ l15)
 replace c15:=au v2 (aA EL c15)
 replace k15:=aM l15
 replace l16:=av v2 (EL _ _ l16)
 replace c16:=au v2 (aA EL c16)
 replace k16:=aM l16
 replace l17:=av v2 (EL _ _ l17)
 replace c17:=au v2 (aA EL c17)
 replace k17:=aM l17
 replace l18:=av v2 (EL _ _ l18)
 replace c18:=au v2 (aA EL c18)
 replace k18:=aM l18
 replace l19:=av v2 (EL _ _ l19)
 replace c19:=au v2 (aA EL c19)
 replace k19:=aM l19
 replace l20:=av v2 (EL _ _ l20)
 replace c20:=au v2 (aA EL c20)
 replace k20:=aM l20
 replace l21:=av v2 (EL _ _ l21)
 replace c21:=au v2 (aA EL c21)
 replace k21:=aM l21
 replace l22:=av v2 (EL _ _ l22)
 replace c22:=au v2 (aA EL c22)
 replace k22:=aM l22
 replace l23:=av v2 (EL _ _ l23)
 replace c23:=au v2 (aA EL c23)
 replace k23:=aM l23
 replace l24:=av v2 (EL _ _ l24)
 replace c24:=au v2 (aA EL c24)
 replace k24:=aM l24
 replace l25:=av v2 (EL _ _ l25)
 replace c25:=au v2 (aA EL c25)
 replace k25:=aM l25
 replace l26:=av v2 (EL _ _ l26)
 replace c26:=au v2 (aA EL c26)
 replace k26:=aM l26
 replace l27:=av v2 (EL _ _ l27)
 replace c27:=au v2 (aA EL c27)
 replace k27:=aM l27
 replace l28:=av v2 (EL _ _ l28)
 replace c28:=au v2 (aA EL c28)
 replace k28:=aM l28
 replace l29:=av v2 (EL _ _ l29)
 replace c29:=au v2 (aA EL c29)
 replace k29:=aM l29
 replace l30:=av v2 (EL _ _ l30)
 replace c30:=au v2 (aA EL c30)
 replace k30:=aM l30
 replace l31:=av v2 (EL _ _ l31)
 replace c31:=au v2 (aA EL c31)
 replace k31:=aM l31
 replace l32:=av v2 (EL _ _ l32)
 replace c32:=au v2 (aA EL c32)
 replace k32:=aM l32
 have u4':=gH (o0 v2 u4 fun vs z=>by rw[bm6] at z;cases z) u4
 have TF:TbF (bU tfP K2) mg f18 tfc tfP tfb:=⟨AU X G a18,⟨_,_,l18,rfl,u0⟩,vA u1,bm1,bm2,⟨_,u4',bm4,bm5,bm6⟩⟩
 have F0:=aY (st:=cZ) l0 c0 k0
 have b0:=F0.binds (ps:=["thing"]) fun _ _ _ _ _ _ us hl=>ar1 (p:=fun us=>Bv _ ⟨us,[]⟩=pure (BG _ us)) hl fun _=>rfl
 have F1:=aY (st:=h_) l1 c1 k1
 have b1:=F1.binds (ps:=["number"]) fun _ _ _ _ _ _ us hl=>ar1 (p:=fun us=>Bv _ ⟨us,[]⟩=pure (BG _ us)) hl fun _=>rfl
 have F2:=aY (st:=eu) l2 c2 k2
 have b2:=F2.binds (ps:=["a","b"]) fun _ _ _ _ _ _ us hl=>ar2 (p:=fun us=>Bv _ ⟨us,[]⟩=pure (BG _ us)) hl fun _ _=>rfl
 have F3:=aY (st:=h9) l3 c3 k3
 have b3:=F3.binds (ps:=["move"]) fun _ _ _ _ _ _ us hl=>ar1 (p:=fun us=>Bv _ ⟨us,[]⟩=pure (BG _ us)) hl fun _=>rfl
 have F4:=aY (st:=cW) l4 c4 k4
 have b4:=F4.binds (ps:=["thing"]) fun _ _ _ _ _ _ us hl=>ar1 (p:=fun us=>Bv _ ⟨us,[]⟩=pure (BG _ us)) hl fun _=>rfl
 have F5:=aY (st:=cL) l5 c5 k5
 have b5:=F5.binds (ps:=["thing"]) fun _ _ _ _ _ _ us hl=>ar1 (p:=fun us=>Bv _ ⟨us,[]⟩=pure (BG _ us)) hl fun _=>rfl
 have F6:=aY (st:=d_) l6 c6 k6
 have b6:=F6.binds (ps:=["P","move"]) fun _ _ _ _ _ _ us hl=>ar2 (p:=fun us=>Bv _ ⟨us,[]⟩=pure (BG _ us)) hl fun _ _=>rfl
 have F7:=aY (st:=fW) l7 c7 k7
 have b7:=F7.binds (ps:=["P","move"]) fun _ _ _ _ _ _ us hl=>ar2 (p:=fun us=>Bv _ ⟨us,[]⟩=pure (BG _ us)) hl fun _ _=>rfl
 have F8:=aY (st:=eO) l8 c8 k8
 have b8:=F8.binds (ps:=["first","second"]) fun _ _ _ _ _ _ us hl=>ar2 (p:=fun us=>Bv _ ⟨us,[]⟩=pure (BG _ us)) hl fun _ _=>rfl
 have F9:=aY (st:=cV) l9 c9 k9
 have b9:=F9.binds (ps:=["move"]) fun _ _ _ _ _ _ us hl=>ar1 (p:=fun us=>Bv _ ⟨us,[]⟩=pure (BG _ us)) hl fun _=>rfl
 have F10:=aY (st:=fX) l10 c10 k10
 have b10:=F10.binds (ps:=["P","Q"]) fun _ _ _ _ _ _ us hl=>ar2 (p:=fun us=>Bv _ ⟨us,[]⟩=pure (BG _ us)) hl fun _ _=>rfl
 have F11:=aY (st:=fY) l11 c11 k11
 have b11:=F11.binds (ps:=["P","Q"]) fun _ _ _ _ _ _ us hl=>ar2 (p:=fun us=>Bv _ ⟨us,[]⟩=pure (BG _ us)) hl fun _ _=>rfl
 have F12:=aY (st:=ie) l12 c12 k12
 have b12:=F12.binds (ps:=["P","Q","R"]) fun _ _ _ _ _ _ us hl=>ar3 (p:=fun us=>Bv _ ⟨us,[]⟩=pure (BG _ us)) hl fun _ _ _=>rfl
 have F13:=aY (st:=cu) l13 c13 k13
 have b13:=F13.binds (ps:=["row"]) fun _ _ _ _ _ _ us hl=>ar1 (p:=fun us=>Bv _ ⟨us,[]⟩=pure (BG _ us)) hl fun _=>rfl
 have F14:=aY (st:=fZ) l14 c14 k14
 have b14:=F14.binds (ps:=["points"]) fun _ _ _ _ _ _ us hl=>ar1 (p:=fun us=>Bv _ ⟨us,[]⟩=pure (BG _ us)) hl fun _=>rfl
 have F15:=aY (st:=bO) l15 c15 k15
 have b15:=F15.binds (ps:=["land","move"]) fun _ _ _ _ _ _ us hl=>ar2 (p:=fun us=>Bv _ ⟨us,[]⟩=pure (BG _ us)) hl fun _ _=>rfl
 have F16:=aY (st:=f_) l16 c16 k16
 have b16:=F16.binds (ps:=["corner","along","aside"]) fun _ _ _ _ _ _ us hl=>ar3 (p:=fun us=>Bv _ ⟨us,[]⟩=pure (BG _ us)) hl fun _ _ _=>rfl
 have F17:=aY (st:=eN) l17 c17 k17
 have b17:=F17.binds (ps:=["land"]) fun _ _ _ _ _ _ us hl=>ar1 (p:=fun us=>Bv _ ⟨us,[]⟩=pure (BG _ us)) hl fun _=>rfl
 have F18:=aY (st:=dB) l18 c18 k18
 have b18:=F18.binds (ps:=["land"]) fun _ _ _ _ _ _ us hl=>ar1 (p:=fun us=>Bv _ ⟨us,[]⟩=pure (BG _ us)) hl fun _=>rfl
 have F19:=aY (st:=bW) l19 c19 k19
 have b19:=F19.binds (ps:=["land"]) fun _ _ _ _ _ _ us hl=>ar1 (p:=fun us=>Bv _ ⟨us,[]⟩=pure (BG _ us)) hl fun _=>rfl
 have F20:=aY (st:=bQ) l20 c20 k20
 have b20:=F20.binds (ps:=["script","k"]) fun _ _ _ _ _ _ us hl=>ar2 (p:=fun us=>Bv _ ⟨us,[]⟩=pure (BG _ us)) hl fun _ _=>rfl
 have F21:=aY (st:=cx) l21 c21 k21
 have b21:=F21.binds (ps:=["found"]) fun _ _ _ _ _ _ us hl=>ar1 (p:=fun us=>Bv _ ⟨us,[]⟩=pure (BG _ us)) hl fun _=>rfl
 have F22:=aY (st:=cr) l22 c22 k22
 have b22:=F22.binds (ps:=["one","two","three"]) fun _ _ _ _ _ _ us hl=>ar3 (p:=fun us=>Bv _ ⟨us,[]⟩=pure (BG _ us)) hl fun _ _ _=>rfl
 have F23:=aY (st:=bT) l23 c23 k23
 have b23:=F23.binds (ps:=["points"]) fun _ _ _ _ _ _ us hl=>ar1 (p:=fun us=>Bv _ ⟨us,[]⟩=pure (BG _ us)) hl fun _=>rfl
 have F24:=aY (st:=cN) l24 c24 k24
 have b24:=F24.binds (ps:=["cell","small"]) fun _ _ _ _ _ _ us hl=>ar2 (p:=fun us=>Bv _ ⟨us,[]⟩=pure (BG _ us)) hl fun _ _=>rfl
 have F25:=aY (st:=cY) l25 c25 k25
 have b25:=F25.binds (ps:=["spot","script"]) fun _ _ _ _ _ _ us hl=>ar2 (p:=fun us=>Bv _ ⟨us,[]⟩=pure (BG _ us)) hl fun _ _=>rfl
 have F26:=aY (st:=bX) l26 c26 k26
 have b26:=F26.binds (ps:=["some","table"]) fun _ _ _ _ _ _ us hl=>ar2 (p:=fun us=>Bv _ ⟨us,[]⟩=pure (BG _ us)) hl fun _ _=>rfl
 have F27:=aY (st:=bV) l27 c27 k27
 have b27:=F27.binds (ps:=["script"]) fun _ _ _ _ _ _ us hl=>ar1 (p:=fun us=>Bv _ ⟨us,[]⟩=pure (BG _ us)) hl fun _=>rfl
 have F28:=aY (st:=cM) l28 c28 k28
 have b28:=F28.binds (ps:=["start","spot"]) fun _ _ _ _ _ _ us hl=>ar2 (p:=fun us=>Bv _ ⟨us,[]⟩=pure (BG _ us)) hl fun _ _=>rfl
 have F29:=aY (st:=bY) l29 c29 k29
 have b29:=F29.binds (ps:=["one","other","at","way"]) fun _ _ _ _ _ _ us hl=>ar4 (p:=fun us=>Bv _ ⟨us,[]⟩=pure (BG _ us)) hl fun _ _ _ _=>rfl
 have F30:=aY (st:=dA) l30 c30 k30
 have b30:=F30.binds (ps:=["move","spot"]) fun _ _ _ _ _ _ us hl=>ar2 (p:=fun us=>Bv _ ⟨us,[]⟩=pure (BG _ us)) hl fun _ _=>rfl
 have F31:=aY (st:=cf) l31 c31 k31
 have b31:=F31.binds (ps:=["ends"]) fun _ _ _ _ _ _ us hl=>ar1 (p:=fun us=>Bv _ ⟨us,[]⟩=pure (BG _ us)) hl fun _=>rfl
 have F32:=aY (st:=jh) l32 c32 k32
 have b32:=F32.binds (ps:=["script"]) fun _ _ _ _ _ _ us hl=>ar1 (p:=fun us=>Bv _ ⟨us,[]⟩=pure (BG _ us)) hl fun _=>rfl
 exact ⟨K2,_,_,_,X2,TA,⟨_,_,F0,b0,AU X G a0,_,_,F1,b1,AU X G a1,_,_,F2,b2,AU X G a2,_,_,F3,b3,AU X G a3,_,_,F4,b4,AU X G a4,_,_,F5,b5,AU X G a5,_,_,F6,b6,AU X G a6,_,_,F7,b7,AU X G a7,_,_,F8,b8,AU X G a8,_,_,F9,b9,AU X G a9,_,_,F10,b10,AU X G a10,_,_,F11,b11,AU X G a11,_,_,F12,b12,AU X G a12,_,_,F13,b13,AU X G a13,_,_,F14,b14,AU X G a14,_,_,F15,b15,AU X G a15,_,_,F16,b16,AU X G a16,_,_,F17,b17,AU X G a17,_,_,F18,b18,AU X G a18,_,_,F19,b19,AU X G a19,_,_,F20,b20,AU X G a20,_,_,F21,b21,AU X G a21,_,_,F22,b22,AU X G a22,_,_,F23,b23,AU X G a23,_,_,F24,b24,AU X G a24,_,_,F25,b25,AU X G a25,_,_,F26,b26,AU X G a26,_,_,F27,b27,AU X G a27,_,_,F28,b28,AU X G a28,_,_,F29,b29,AU X G a29,_,_,F30,b30,AU X G a30,_,_,F31,b31,AU X G a31,_,_,F32,b32,AU X G a32,Bm X G z_abs,Bm X G z_all,Bm X G z_bool,Bm X G z_int,Bm X G z_isinstance,Bm X G z_len,Bm X G z_list,Bm X G z_min,Bm X G z_range,Bm X G z_reversed,Bm X G z_set,Bm X G z_sorted,Bm X G z_tuple,Bm X G z_zip,_,_,_,TF,u0⟩,rfl,fun s v=>.of_eq rfl⟩
abbrev spLaw (K:Ap):Sp:=spU K hV
theorem law_start (K:Ap) (H:Hp) (a:Addr) (ns:List Int) (h1:ns.length≤63) (h2:∀m∈ns,Sz 1048576 m) (h3:SqL K H a (ns.map V.int)):spLaw K [.ref a] H (fun v _=>v=.bl true) fun _ _ _=>False:=qR h1 h2 h3
theorem law_ok {P:AD}{w:World}{mg:Str→Option Value}{fa:Addr}{h:Heap} (h':∃K2:Ap,∃f c tb,K2.In h∧mU K2 mg f c tb∧∃T:Txt (bU tb K2) mg,T.a_law=fa∧(∀(s:As) (v:Value),GN s T.d_law ⟨[v],[]⟩ [("script",v)])):
  ∃(K2:Ap) (f c tb:Addr) (fd:A9),K2.In h∧mU K2 mg f c tb∧(∀(s:As) (u:Value),GN s fd ⟨[u],[]⟩ [("script",u)])∧∀base:Heap,(bU tb K2).In base→base.Ns AK mg→bF P w (bU tb K2) mg base CX0 10 fa fd ["script"] (spLaw (bU tb K2)):=by
 obtain ⟨K2,f,c,tb,X2,TA,T,rfl,hb⟩:=h'
 exact ⟨K2,f,c,tb,T.d_law,X2,TA,hb,fun base _ _=>(xR T).calm uB⟩
end My
namespace PySem.W.Fast
def tw13668603897468003536:Unit:=()
def tw6487804601102861243:Unit:=()
def tw794699480482858295:Unit:=()
def tw17091605714157226556:Unit:=()
def tw6704954306423685141:Unit:=()
def tw11411409501270943803:Unit:=()
def tw5342303780059032566:Unit:=()
def tw16952250304784183317:Unit:=()
def tw7820928506998971194:Unit:=()
def tw16045226825868000881:Unit:=()
def tw1162435410610902396:Unit:=()
def tw838441243173025889:Unit:=()
def tw18243346275339135202:Unit:=()
def tw7154039636570967350:Unit:=()
def tw2391895561935754015:Unit:=()
def tw3644189557379251024:Unit:=()
def tw8298102410874807011:Unit:=()
def tw3663957942842878179:Unit:=()
def tw1417192486261472634:Unit:=()
def tw5994121571314546383:Unit:=()
end PySem.W.Fast
open PySem PySem.W PyProof.Rows L2
set_option maxRecDepth 100000 in
set_option maxHeartbeats 0 in
set_option maxHeartbeats 0 in
theorem PySem.Challenge.cw_stakefield_k58_own_moves_by_trying_holds : PySem.Challenge.rw_stakefield_k58_own_moves_by_trying.Holds := by
 w_on;o_law;k_head;(case hw=>w_witness2)
 k_fill
 refine L2.walk_ofT2 (l:=PySem.Challenge.rw_stakefield_k58_own_moves_by_trying) (n:=63) (k:=10) (x:="script") (CX:=CX0) (sp:=My.spLaw) rfl (by decide) rfl ⟨rfl,by decide,by decide⟩ (fun w h Y=>⟨PySem.W.km_in_of Y,PySem.W.km_tabs_of Y⟩) ?F My.law_start (fun _ _ _ _ z=>z)
 case F=>
  intro w mg fa h KX TS BM G hmg
  refine My.law_ok ?T
  refine' My.txt_mk KX TS BM G hmg ?a0 ?l0 ?c0 ?k0 ?a1 ?l1 ?c1 ?k1 ?a2 ?l2 ?c2 ?k2 ?a3 ?l3 ?c3 ?k3 ?a4 ?l4 ?c4 ?k4 ?a5 ?l5 ?c5 ?k5 ?a6 ?l6 ?c6 ?k6 ?a7 ?l7 ?c7 ?k7 ?a8 ?l8 ?c8 ?k8 ?a9 ?l9 ?c9 ?k9 ?a10 ?l10 ?c10 ?k10 ?a11 ?l11 ?c11 ?k11 ?a12 ?l12 ?c12 ?k12 ?a13 ?l13 ?c13 ?k13 ?a14 ?l14 ?c14 ?k14 ?a15 ?l15 ?c15 ?k15 ?a16 ?l16 ?c16 ?k16 ?a17 ?l17 ?c17 ?k17 ?a18 ?l18 ?c18 ?k18 ?a19 ?l19 ?c19 ?k19 ?a20 ?l20 ?c20 ?k20 ?a21 ?l21 ?c21 ?k21 ?a22 ?l22 ?c22 ?k22 ?a23 ?l23 ?c23 ?k23 ?a24 ?l24 ?c24 ?k24 ?a25 ?l25 ?c25 ?k25 ?a26 ?l26 ?c26 ?k26 ?a27 ?l27 ?c27 ?k27 ?a28 ?l28 ?c28 ?k28 ?a29 ?l29 ?c29 ?k29 ?a30 ?l30 ?c30 ?k30 ?a31 ?l31 ?c31 ?k31 ?a32 ?l32 ?c32 ?k32  ?z_abs ?z_all ?z_bool ?z_int ?z_isinstance ?z_len ?z_list ?z_min ?z_range ?z_reversed ?z_set ?z_sorted ?z_tuple ?z_zip   ?u0 ?w1 ?w2 ?w3 ?u2
  (case a0=>k_is);(case l0=>k_is);(case c0=>k_is);(case k0=>k_is)
  (case a1=>k_is);(case l1=>k_is);(case c1=>k_is);(case k1=>k_is)
  (case a2=>k_is);(case l2=>k_is);(case c2=>k_is);(case k2=>k_is)
  (case a3=>k_is);(case l3=>k_is);(case c3=>k_is);(case k3=>k_is)
  (case a4=>k_is);(case l4=>k_is);(case c4=>k_is);(case k4=>k_is)
  (case a5=>k_is);(case l5=>k_is);(case c5=>k_is);(case k5=>k_is)
  (case a6=>k_is);(case l6=>k_is);(case c6=>k_is);(case k6=>k_is)
  (case a7=>k_is);(case l7=>k_is);(case c7=>k_is);(case k7=>k_is)
  (case a8=>k_is);(case l8=>k_is);(case c8=>k_is);(case k8=>k_is)
  (case a9=>k_is);(case l9=>k_is);(case c9=>k_is);(case k9=>k_is)
  (case a10=>k_is);(case l10=>k_is);(case c10=>k_is);(case k10=>k_is)
  (case a11=>k_is);(case l11=>k_is);(case c11=>k_is);(case k11=>k_is)
  (case a12=>k_is);(case l12=>k_is);(case c12=>k_is);(case k12=>k_is)
  (case a13=>k_is);(case l13=>k_is);(case c13=>k_is);(case k13=>k_is)
  (case a14=>k_is);(case l14=>k_is);(case c14=>k_is);(case k14=>k_is)
  (case a15=>k_is);(case l15=>k_is);(case c15=>k_is);(case k15=>k_is)
  (case a16=>k_is);(case l16=>k_is);(case c16=>k_is);(case k16=>k_is)
  (case a17=>k_is);(case l17=>k_is);(case c17=>k_is);(case k17=>k_is)
  (case a18=>k_is);(case l18=>k_is);(case c18=>k_is);(case k18=>k_is)
  (case a19=>k_is);(case l19=>k_is);(case c19=>k_is);(case k19=>k_is)
  (case a20=>k_is);(case l20=>k_is);(case c20=>k_is);(case k20=>k_is)
  (case a21=>k_is);(case l21=>k_is);(case c21=>k_is);(case k21=>k_is)
  (case a22=>k_is);(case l22=>k_is);(case c22=>k_is);(case k22=>k_is)
  (case a23=>k_is);(case l23=>k_is);(case c23=>k_is);(case k23=>k_is)
  (case a24=>k_is);(case l24=>k_is);(case c24=>k_is);(case k24=>k_is)
  (case a25=>k_is);(case l25=>k_is);(case c25=>k_is);(case k25=>k_is)
  (case a26=>k_is);(case l26=>k_is);(case c26=>k_is);(case k26=>k_is)
  (case a27=>k_is);(case l27=>k_is);(case c27=>k_is);(case k27=>k_is)
  (case a28=>k_is);(case l28=>k_is);(case c28=>k_is);(case k28=>k_is)
  (case a29=>k_is);(case l29=>k_is);(case c29=>k_is);(case k29=>k_is)
  (case a30=>k_is);(case l30=>k_is);(case c30=>k_is);(case k30=>k_is)
  (case a31=>k_is);(case l31=>k_is);(case c31=>k_is);(case k31=>k_is)
  (case a32=>k_is);(case l32=>k_is);(case c32=>k_is);(case k32=>k_is)
  (case z_abs=>k_is)
  (case z_all=>k_is)
  (case z_bool=>k_is)
  (case z_int=>k_is)
  (case z_isinstance=>k_is)
  (case z_len=>k_is)
  (case z_list=>k_is)
  (case z_min=>k_is)
  (case z_range=>k_is)
  (case z_reversed=>k_is)
  (case z_set=>k_is)
  (case z_sorted=>k_is)
  (case z_tuple=>k_is)
  (case z_zip=>k_is)
  (case u0=>exact rfl);(case w1=>k_is);(case w2=>exact rfl);(case w3=>exact rfl);(case u2=>decide)
