import PyProof.Rows.All
import Wide.All
import OpenK.AllK
import Wide.FinOn
import Lean
import PyProof.EqAt
import PyProof.EqKinds
import PyProof.NeKinds
import PyProof.TupleCall
import KE.KDictSum
import KE.KSortTup
import KE.KRevIter
import KE.KRevSl
import KE.KLam
import KE.KNestM
import KE.KMinKey
import PySem.Challenge.RW_stakefield_k56_alike_by_trying
open List renaming getElem?_eq_getElem → Am, length_map → Aq, mem_cons_of_mem → Au, getElem?_map → Av, getD_eq_getElem?_getD → Ax, mem_cons → Ay, mem_map → Az, mem_cons_self → AE, getElem?_eq_some_iff → AF, mem_append_right → AI, mem_reverse → AM, size_toArray → AN, getElem?_eq_none → AU, mem_range → AV, mem_of_getElem? → AW, getElem?_append_right → A0, getElem?_append_left → A7, pairwise_iff_getElem → A8, length_cons → A9, getElem?_set_ne → Bb, filterMap_cons → Be, range → Bj, pairwise_cons → Bk, length_reverse → Bm, not_mem_nil → Bn, map_map → Bp, mem_singleton → Br, length_append → Bx, zip → Bz, map_cons → BE, pairwise_map → BJ, mem_append_left → BK, mem_iff_getElem? → BN, map_append → BO, getElem?_reverse → BQ, lookup_cons → BS, getLast?_eq_getElem? → B5, length_eq_zero_iff → Cb, map_reverse → Ci, ext_getElem? → Cq, mem_append → Cr, nodup_cons → Ct, length_dropLast → CA, getElem?_replicate → CD, mem_filter → CL, getElem?_dropLast → CP, length_pos_of_mem → CQ, length_replicate → CV, tail_cons → C6, getElem?_take_of_lt → C_, getElem?_cons_succ → Dh, getLast?_cons_cons → Dj, take_length → Dk, head?_eq_getElem? → Dq, getElem?_drop → Dt, getElem?_toArray → Dw, mem_of_getLast? → DG, mem_iff_getElem → DH, take_succ → DI, mem_take_iff_getElem → DL, length_pos_iff → DQ, getElem?_range → DR, length_erase_of_mem → DY, mem_filterMap → D0, append_nil → D3, length_set → D5, length_nil → D6, foldl_cons → D7, zip_cons_cons → D_, length_range → Ef, getLast?_map → Eg, getElem?_inj → Eh, pairwise_reverse → Ew, getLast?_reverse → Ex, getElem_inj → Ez, mem_erase_of_ne → ED, all_cons → EG, forIn_cons → EO, mem_map_of_mem → EV, nodup_iff_pairwise_ne → EY, drop_eq_getElem_cons → Fb, head?_map → Ff, getElem?_set → Fl, append_assoc → Fp, nodup_append → Fq, map_dropLast → Fs, filter_cons → FH, all_eq_true → FI, getElem_mem → FJ, getElem?_set_self → FO, take_of_length_le → FT, pairwise_lt_range → FV, of_mem_zip → Ga, length_singleton → Gb, filterMap_append → Gc, take_append_drop → Gg, dropLast_subset → Gz, take_zero → GD, forIn_nil → GK, take_succ_cons → GN, map_congr_left → GP, map_filterMap → G0, head?_reverse → G9, reverse_cons → Hk, toArray → Ho, length_take → Hx, length_drop → Hy, nodup_range → HB, perm_middle → HC, ext_getElem → HE, zipIdx_cons → HG, lookup → HU, zipIdx_nil → Ig, head?_cons → Io, range_succ → Iq, replicate → IH, any_cons → Jk, map_drop → Jo, take → JP, drop → JQ, Perm → JR
open PySem renaming wpAny_bind → An, Shared → Ar, wpAny_pure → As, Program → AC, mainGlobals → AJ, starEach → AK, Around → A4, FuncData → A6, boot_len → Bf, bindArgs → Bq, wpAny_holding → Bw, sizeLine_eq → BA, wpAny_Call_Name_kw → BB, mem_of_lookup → BD, foldedSetIterable → BI, compareOp → BZ, wpAny_seqItems → B3, wpAny_call_entry → B6, wpAny_loadPart' → Cd, bootBuiltins → Cg, wpAny_pyIter_list → Cj, wpAny_setState_of → Cp, codeAny_builtin → Cu, wpAny_mono → Cv, intKind_is → Cw, behindInMarks → CC, plainId_quiet → CF, wpAny_truthy_bool → CJ, assignEach → CT, sliceBounds → C4, wpAny_newObj_type → C8, wpAny_passesOwn → C9, wpAny_ite_split → Dc, wpAny_updateSeq → Dd, wpAny_callSpecial?_slot → Di, wpAny_isInstance → Do, wpAny_pyNext_list_item → Dp, rawInt → Ds, wpAny_setField_rec → Du, builtinLookup_eq_fast → Dx, GenState → DA, intKind → DD, isSubtype_type → DJ, wpAny_tryCatch → DK, wpAny_askSetting → DO, wpAny_letGo → DS, wpAny_field → DT, wpAny_getItem_list_slice → DV, wpAny_specialOf → D4, wpAny_newList → D9, wpAny_nextOf_list_item → Eb, ofAClassStatement → Ed, binaryOp → Ej, backTo → Eo, wpAny_pyNext_list_end → Ep, codeAny_mono → Er, wpAny_newFunctionEnv → EC, NameKind → EE, evalPart_some → EF, builtinsNs → EJ, PassesOwn → EK, pyNext → EM, codeAny → EN, typeLookup_type → ER, wpAny_setEntries_of → ES, recursionLimit → E_, swapsWith → Fh, wpAny_rule → Fi, wpAny_comprehension_free → Fn, swapsWithSole → Fv, swappedStores → Fw, wpAny_standAt → Fx, attributeBase → FA, setSearchFrom → FC, wpAny_attempt → FD, richCompare → FE, wpAny_onRaise → FF, wpAny_forIn_list → FK, codeAny_compStart_list → FS, wpAny_isTrue_Compare1 → FY, wpAny_execs_nil → FZ, letOwnedTupleGo → F_, wpAny_eqIsQuiet_tuple → Gf, updateSeq → Gn, compEnvC → Gs, closureFor → Gu, codeAny_extend_loopS → Gy, wpAny_setField → GF, wpAny_newTuple → GG, BindsTo → GM, hashByValue → GO, assignInOrder → GR, Result → GT, Arguments → GU, evalPart_none → GV, pickOrder → G3, wpAny_tupleItemsOf → G6, callerA → Hd, searchCouldBeSeen → Hf, wpAny_storeSet_of → Hg, wpAny_pyIter_slot → Hh, wpAny_typeOf → Hn, checkBuiltinCall → HD, wpAny_pyIter_zip → HH, unpackItems → HK, Keyword → HL, cellsFrom → HM, wpAny_Slice → HN, slicePick → HP, theTreesLotGoes → HS, seqItems? → HX, putSet_of → HY, codeAny_of_tree → HZ, wpAny_of_eq → H_, codeAmong → Ij, wpAny_Compare1 → Ir, wpAny_bindName → Iu, entryFor_alias → IK, wpAny_fieldsOf → IL, firstArgMember → IM, isSubtype_stop → IP, sysModules → IR, wpAny_Name → IS, wpAny_call → Je, typeIs_int → Jf, setsByText → Jg, checkCount → Jh, bindName → Ji, Operator → Jj, compPost → Jn, tupleKind → Js, Within → Jt, pyIter → Jv, argsOk → Jz, Fin → JA, revObj → JM, call → JN
open PySem.W renaming Frag → Ao, keepIn → AG, codeIn → AH, nsIn → AL, mg_of → AO, fnOf → AS, mg_none_of → Bl, kia_one → BF, codeHdIn → BG, cellsFrom_some → Ea, findIn → Ek, kitOne → E9, methodObj → Fg, kitx_list → Fj, instObj → FX, kla_obj → Gq, lookIn → GA, kitx_tuple → GS, specialIn → Ha, kitx_dict → Hb, plainGet → Hw, OpenLaw → HR, kla_fn → IQ, WalkO → Jm, isFn → Jw
open PySem.Heap renaming get?_push_of_some → Ap, lt_size → AB, get?_push_size → AD, get?_update_other → Ba, size_push → BC, get?_update_self → BP, SameBut → Dv, IsList → Ih, ExtBut → JG
open Nat renaming le_refl → Aw, ne_of_lt → AZ, lt_of_lt_of_le → A3, lt_or_eq_of_le → A5, mod_eq_of_lt → A_, zero_le → Bh, lt_irrefl → Bv, le_of_lt → BX, le_trans → B9, le_of_lt_succ → B_, lt_or_ge → Ca, mod_lt → Cf, lt_succ_of_lt → Ck, lt_trichotomy → Cm, ne_of_gt → Cs, pow_succ → CH, lt_succ_self → Dm, pow_le_pow_right → DE, le_of_not_lt → DM, le_add_right → DP, mod_self → DZ, add_mod_right → Ei, lt_of_le_of_lt → E3, mod_eq_sub_mod → E4, eq_zero_or_pos → E5, div_div_eq_div_mul → FU, lt_trans → Gd, mod_add_mod → Ge, le_antisymm → Gr, mul_le_mul_right → Gx, mod_mod_of_dvd → GY, add_sub_cancel → G8, le_max_right → HA, le_max_left → HQ, not_lt_zero → HW, min_self → Jx, add_zero → Jy, zero_add → JC, add_mod → JH, le_succ → JI
open Bool renaming false_eq_true → AQ, false_ne_true → AX, and_eq_true → BR, eq_iff_iff → CM, not_true → CW, beq_eq_decide_eq → Es, true_and → EH, not_false → Fc, and_eq_true_iff → Gw, and_false → GC, and_true → GW, or_eq_true → HV
open Array renaming length_toList → AR, getElem?_toList → Bg, getD_eq_getD_getElem? → Bu, getD → Co, getElem?_eq_some_iff → CS, getElem?_eq_getElem → C5, getElem?_replicate → DW, mem_toList_iff → EB, toList_inj → FL, toList_map → FM, forIn_toList → GZ, toList_zip → HF, size_map → IJ, toList → Ju
open PySem.Value renaming none → AY, int → Bc, bool → Bd, ref → Bi, str → Bt, type → BU, isInt_shape → CI, float → JE
open Option.some renaming inj → Bo
open Int renaming emod_lt_of_pos → Bs, mul_nonneg → By, emod_nonneg → BH, one_mul → BW, eq_of_mul_eq_mul_left → B4, dvd_trans → B7, mul_pos → B8, mul_eq_zero → Ce, mul_ediv_cancel_left → Cy, mul_ediv_cancel' → CB, mul_assoc → CG, dvd_mul_right → CK, dvd_mul_left → CU, emod_add_mul_ediv → C3, toNat_natCast → Da, mul_comm → De, mul_zero → Df, mul_le_mul_of_nonneg_right → Dg, natAbs_of_nonneg → DF, pos_of_mul_pos_right → DX, natAbs_mul → El, zero_mul → Et, natAbs_dvd_natAbs → Eu, mul_ediv_add_emod → Ey, dvd_add → EU, dvd_refl → E6, lt_or_eq_of_le → E7, lt_or_le → E8, emod_eq_of_lt → Ft, mul_one → Fy, add_nonneg → GL, lt_trichotomy → Hl, zero_dvd → Ht, add_zero → Hu, zero_add → Hv, dvd_antisymm → HI, ediv_le_self → HJ, dvd_neg → Ik, dvd_sub → Il, ediv_nonneg → Im, le_refl → Ip, le_of_dvd → Jr, dvd_zero → JB, sub_self → JD, mul_neg → JJ
open PySem.Obj renaming mapSeq → BL, data_mapFields → CY, putSet → Ee, isFreed_of_fields → Gj, cls_mapFields → Hj
open PySem.Around renaming under_plainId → BV, frames_deeper → Gv, in1 → JO
open PySem.F renaming plain_min_loop → BY, called_set → Cc, slot_zip_next → Dy, entry_min_loop → Ec, plain_extend_loop → Fd, plainAttrs_list → FB, args_zip_next_1 → FG, entry_zip_next → FW, plain_set_new → Gh, slot_set_iter → Gi, slot_tuple_lt → Gp
open Classical renaming byContradiction → B0
open PySem.MeetsSeq3 renaming plain_eq_loop → Cz, entry_eq_loop → EA
open PySem.Heap.SameBut renaming update → CN, refl → He
open List.cons renaming injEq → CO
open Prod renaming ext → CZ, fst → En, snd → EI
open PyProof.Rows renaming seqObj → C7, boot_isinstance → Dz, listUpdate_at → D8, SortKind → Em, seqEpoch_at → ET, assignInOrder_cons → EZ, AllBare → Fu, subscriptTail → Fz, subscriptTail_builtinR → FQ, get?_update_seq → Gk, entry_list_sort → Gm, envOfC → GB, slot_list_sort → GH, args_list_sort → GI, sortedHeap_old → GJ, Constant_none → GQ, sortedHeap_at → G4, boot_list → G5, assignInOrder_nil → G_, Subscript_ → Hc, plain_sorted → Hq, entry_sorted → Hr, args_sorted1 → Hs, list_sort_plain → Ib, kind_sorted → Ic, boot_sorted → Ie, IntsAre → Jl
open Option renaming map_eq_some_iff → Dr, getD_some → DN, isSome_iff_exists → DU, toList_some → GX, map → Hi, getD_none → Hz, none → JF
open List.Pairwise renaming nil → DB, map → DC, imp_of_mem → Fo
open PySem.Calls renaming Name_function_global → EW, spliced_cons → E1, call_function_entry → Fe, spliced_nil → Fk, callWith_builtin → FR
open PySem.Heap.IsSliceOf renaming new → E2
open PySem.Heap.IsList renaming push → FN
open List.Perm renaming refl → GE
open MonadExcept renaming tryCatch → G7
open List.Nodup renaming length_le_of_subset → Hm
open PySem.Shared renaming heap → Ii, TypeIs → Jp
open PySem.EqNone renaming eq_none_none → Iw, eq_none_bool → Iy, eq_bool_none → Iz, ne_none_none → IC, ne_none_bool → ID, ne_bool_none → IE, eq_none_int → IT, eq_none_str → IU, eq_int_none → IV, eq_str_none → IX, ne_none_int → IZ, ne_none_str → I_, ne_int_none → Ja, ne_str_none → Jc
open PySem.EqMixed renaming eq_bool_str → IA, eq_str_bool → IB, ne_bool_str → IF, ne_str_bool → IG, eq_int_str → IW, eq_str_int → IY, ne_int_str → Jb, ne_str_int → Jd
open PySem.Value.type renaming inj → II
open ToString renaming toString → Jq
open PySem.W.Dflts renaming none → JK, noKw → JL
open PySem.W.Frag renaming In → JS
set_option maxHeartbeats 8000000
set_option Elab.async false
set_option linter.all false
set_option maxRecDepth 100000
namespace L2
open PySem PySem.Spec PyProof.Rows
abbrev Key:=Sum Int Str
def v9:Key→Value→Bool
 | .inl k,v=>Value.isInt k v
 | .inr x,v=>Value.isStrOf x v
def zD (w:World):Key→Int
 | .inl k=>hashInt k
 | .inr x=>hashStr w x
theorem bJ:∀{k:Key}{v:Value},v9 k v=true→(∃i t,k=Sum.inl i∧v=Bc i t)∨(∃x t,k=Sum.inr x∧v=Bt x t)
 | .inl i,v,h=>by
  obtain ⟨t,e⟩:=CI (k:=i) (v:=v) h
  exact .inl ⟨i,t,rfl,e⟩
 | .inr x,v,h=>by
  obtain ⟨t,e⟩:=Value.isStrOf_shape (x:=x) (v:=v) h
  exact .inr ⟨x,t,rfl,e⟩
theorem yb (a b:Int):decide ((Sum.inl a:Key)=Sum.inl b)=(a==b):=by
 by_cases e:a=b
 ·subst e;simp
 ·have h:¬ (Sum.inl a:Key)=Sum.inl b:=fun q=>e (Sum.inl.inj q)
  rw[decide_eq_false h]
  exact (beq_eq_false_iff_ne.mpr e).symm
theorem xC (a b:Str):decide ((Sum.inr a:Key)=Sum.inr b)=decide (a=b):=by
 by_cases e:a=b
 ·subst e;simp
 ·have h:¬ (Sum.inr a:Key)=Sum.inr b:=fun q=>e (Sum.inr.inj q)
  rw[decide_eq_false h,decide_eq_false e]
theorem xa (a:Int) (b:Str):decide ((Sum.inl a:Key)=Sum.inr b)=false:=decide_eq_false (fun q=>nomatch q)
theorem xH (a:Str) (b:Int):decide ((Sum.inr a:Key)=Sum.inl b)=false:=decide_eq_false (fun q=>nomatch q)
def oZ (prog:AC) (w:World):PySem.KeyKind prog w Key where
 is:=v9
 hash:=zD w
 inj:=fun v a b ha hb=>by
  rcases bJ ha with ⟨i,t,rfl,rfl⟩ |⟨x,t,rfl,rfl⟩
  ·rcases bJ hb with ⟨j,u,rfl,e⟩ |⟨y,u,rfl,e⟩
   ·injection e with e1 _;rw[e1]
   ·exact nomatch e
  ·rcases bJ hb with ⟨j,u,rfl,e⟩ |⟨y,u,rfl,e⟩
   ·exact nomatch e
   ·injection e with e1 _;rw[e1]
 byValue:=fun k v h=>by
  rcases bJ h with ⟨i,t,rfl,rfl⟩ |⟨x,t,rfl,rfl⟩ <;>rfl
 pyHash:=fun hv h=>by
  rcases bJ hv with ⟨i,t,rfl,rfl⟩ |⟨x,t,rfl,rfl⟩
  ·exact wpAny_pyHash_int h
  ·exact wpAny_pyHash_str h
 eqBool:=fun hu hv h=>by
  rcases bJ hu with ⟨i,t,rfl,rfl⟩ |⟨x,t,rfl,rfl⟩
  ·rcases bJ hv with ⟨j,u,rfl,rfl⟩ |⟨y,u,rfl,rfl⟩
   ·rw[yb] at h;exact wpAny_eqBool_int h
   ·rw[xa] at h;exact SeqAt.EqAt.int_str i t y u _ _ _ _ h
  ·rcases bJ hv with ⟨j,u,rfl,rfl⟩ |⟨y,u,rfl,rfl⟩
   ·rw[xH] at h;exact SeqAt.EqAt.str_int x t j u _ _ _ _ h
   ·rw[xC] at h;exact wpAny_eqBool_str h
 «strs»:=fun k x t v h=>by
  rcases bJ h with ⟨i,u,rfl,e⟩ |⟨y,u,rfl,e⟩
  ·exact nomatch e
  ·injection e with e1 _
   subst e1
   cases v <;>rfl
inductive V where
 |non |bl (b:Bool) |int (i:Int) |str (x:Str) |byt (b:Array UInt8) |flt (b:UInt64) |ref (a:Addr) |ty (n:String)
 deriving DecidableEq
def aY:V→Value→Prop
 | .non,u=>u=AY
 | .bl b,u=>u=Bd b
 | .int i,u=>∃t,u=Bc i t
 | .str x,u=>∃t,u=Bt x t
 | .byt b,u=>∃t,u=Value.bytes b t
 | .flt b,u=>∃t,u=JE b t
 | .ref a,u=>u=Bi a
 | .ty n,u=>u=BU n
abbrev aV:List V→List Value→Prop:=Paired aY
theorem aV.length {xs:List V}{us:List Value} (r:aV xs us):xs.length=us.length:=Paired.length r
theorem aV.get:∀{xs:List V}{us:List Value}{i:Nat}{x:V},aV xs us→xs[i]?=some x→∃u,us[i]?=some u∧aY x u
 |_,_,_,_,.nil,e=>by simp at e
 |_,_,0,_,.cons r _,e=>by simp at e;subst e;exact ⟨_,rfl,r⟩
 |_,_,i+1,x,.cons _ t,e=>by
  obtain ⟨u,h1,h2⟩:=aV.get (i:=i) (x:=x) t (by simpa using e)
  exact ⟨u,by simpa using h1,h2⟩
theorem aV.append:∀{xs ys:List V}{us ws:List Value},aV xs us→aV ys ws→aV (xs++ys) (us++ws)
 |_,_,_,_,.nil,s=>s
 |_,_,_,_,.cons r t,s=>.cons r (aV.append t s)
theorem aV.take:∀{xs:List V}{us:List Value} (n:Nat),aV xs us→aV (xs.take n) (us.take n)
 |_,_,0,_=>.nil
 |_,_,_+1,.nil=>.nil
 |_,_,n+1,.cons r t=>.cons r (aV.take n t)
theorem aV.drop:∀{xs:List V}{us:List Value} (n:Nat),aV xs us→aV (xs.drop n) (us.drop n)
 |_,_,0,r=>r
 |_,_,_+1,.nil=>.nil
 |_,_,n+1,.cons _ t=>aV.drop n t
def xZ:Option V→Option Value→Prop
 |some v,some u=>aY v u
 |none,none=>True
 |_,_=>False
def KV {κ:Type}:List (κ×V)→List (κ×Value)→Prop:=Paired fun (p:κ×V) (q:κ×Value)=>p.1=q.1∧aY p.2 q.2
def kV:Key→V
 | .inl i=>.int i
 | .inr x=>.str x
inductive HO where
 /-- a list -/
 |lst (xs:List V)
 /-- a tuple (never changes) -/
 |tup (xs:List V)
 /-- a dict whose keys are ints and texts;one whose keys are tuples of ints and texts (the empty one is both) -/
 |dK (kvs:List (Key×V)) |dT (kvs:List (List Key×V))
 /-- a set of ints:its members,its size -/
 |set (S:Int→Bool) (n:Nat)
 /-- an instance of the class at C,its dict at dx,its attributes -/
 |ins (C dx:Addr) (fs:List (Str×V))
 /-- the dict of the instance at x -/
 |own (x:Addr)
 /-- the dict of an exception -/
 |xd (fs:List (Str×V))
 /-- a bound method,f of x -/
 |met (f x:Addr)
 /-- a range object lo,lo+1,.. below hi -/
 |rng (lo hi:Int)
 /-- a thing that is known to the object (the script;a dict while a loop walks it):read,never written while it is so -/
 |frz (o:Obj) (u:HO)
 /-- a code object's table -/
 |tbl (ps:Array Value)
 /-- any other thing,by what is true of its one object (a def of one's own:SetO a S n:=HO.ext fun h=>..) -/
 |ext (φ:Heap→Prop)
abbrev Hp:=Addr→Option HO
def upd (H:Hp) (a:Addr) (o:HO):Hp:=fun b=>if b=a then some o else H b
theorem aW {H:Hp}{a:Addr}{o:HO}:upd H a o a=some o:=by unfold upd;rw[if_pos rfl]
theorem aK {H:Hp}{a b:Addr}{o:HO} (h:b≠a):upd H a o b=H b:=by unfold upd;rw[if_neg h]
theorem ca {H:Hp}{a b:Addr}{o:HO} (h:H a=some o) (h':H b=none):a≠b:=by
 intro e;subst e;rw[h] at h';cases h'
def im:Str:="to_form.<locals>.<lambda>"
def e_:List (Nat×Nat×Addr)→List Value
 |[]=>[]
 |t::ts=>Ds t.1::Ds t.2.1::.ref t.2.2::e_ ts
def uW (H:Hp) (h:Heap) (a:Addr):Prop:=∃ts:List (Nat×Nat×Addr),h.get? a=some {cls:=.none,data:=.fields (e_ ts).toArray }∧∀t∈ts,∃oc u vs t',H t.2.2=some (.frz oc u)∧oc.data=.fields vs∧vs[1]?=some (.str im t')
section
variable (P:AC) (w:World)
def cE (H:Hp) (h:Heap) (a:Addr):HO→Prop
 | .lst xs=>xs.length≤sizeLine∧∃(its:List Value) (n:Nat),aV xs its∧h.get? a=some {cls:=.type "list",data:=.seq its.toArray n }
 | .tup xs=>xs.length≤sizeLine∧∃its:List Value,aV xs its∧IsTup h a its.toArray
 | .dK kvs=>kvs.length≤sizeLine∧(a==IR)=false∧∃vs,KV kvs vs∧h.DictOf (oZ P w) a vs
 | .dT kvs=>kvs.length≤sizeLine∧(a==IR)=false∧∃xs:List (List Key×Addr×Value),
   Paired (fun (p:List Key×V) (q:List Key×Addr×Value)=>p.1=q.1∧H q.2.1=some (.tup (p.1.map kV))∧aY p.2 q.2.2) kvs xs∧
   ∃o es ep,h.get? a=some o∧o.ExactDict∧o.data=.dict es ep∧es.toList=xs.map (entryOfKey (Js (oZ P w)))∧(xs.map (·.1)).Nodup
 | .set S n=>h.SetOf (DD P w) a S n
 | .ins C dx fs=>H dx=some (.own a)∧fs.length≤1000∧dx≠a∧h.get? a=some (FX C dx)∧
   ∃mA,h.Ns1 dx mA∧(∀f,xZ (fs.lookup f) (mA f))∧Jt mA (fs.map (·.1))
 | .own _=>∃o,h.get? a=some o
 | .xd fs=>∃mA,h.Ns1 a mA∧∀f,xZ (fs.lookup f) (mA f)
 | .rng lo hi=>∃t u v,h.get? a=some {cls:=.type "range",data:=.fields #[.int lo t,.int hi u,.int 1 v] }
 | .frz o u=>h.get? a=some o∧cE H h a u
 | .tbl _=>uW H h a
 | .met f x=>h.get? a=some (Fg (.ref f) (.ref x))
 | .ext φ=>φ h∧(∃o,h.get? a=some o)∧∀h1 h2:Heap,φ h1→(∀o,h1.get? a=some o→h2.get? a=some o)→φ h2
def HOk (H:Hp) (h:Heap):Prop:=∀a o,H a=some o→cE P w H h a o
end
section
variable {P:AC}{w:World}{H H':Hp}{h h':Heap}{a:Addr}{o:HO}
theorem cE.lt (x:cE P w H h a o):a < h.objs.size:=by
 cases o with
 |lst xs=>obtain ⟨_,_,_,_,e⟩:=x;exact AB e
 |tup xs=>obtain ⟨_,_,_,p⟩:=x;exact p.lt
 |dK kvs=>obtain ⟨_,_,_,_,o,_,_,e,_⟩:=x;exact AB e
 |dT kvs=>obtain ⟨_,_,_,_,o,_,_,e,_⟩:=x;exact AB e
 |set S n=>obtain ⟨o,_,_,_,e,_⟩:=x;exact AB e
 |ins C dx fs=>obtain ⟨_,_,_,e,_⟩:=x;exact AB e
 |own y=>obtain ⟨_,e⟩:=x;exact AB e
 |xd fs=>obtain ⟨_,⟨_,_,_,e,_⟩,_⟩:=x;exact AB e
 |rng lo hi=>obtain ⟨_,_,_,e⟩:=x;exact AB e
 |frz ob u=>obtain ⟨e,_⟩:=x;exact AB e
 |tbl ps=>obtain ⟨_,e,_⟩:=x;exact AB e
 |met f y=>exact AB (show h.get? a=some _ from x)
 |ext φ=>obtain ⟨_,⟨_,e⟩,_⟩:=x;exact AB e
theorem Paired.mapP {α β:Type}{F G:α→β→Prop}:∀{l₁:List α}{l₂:List β},Paired F l₁ l₂→(∀a b,F a b→G a b)→Paired G l₁ l₂
 |_,_,.nil,_=>.nil
 |_,_,.cons r t,f=>.cons (f _ _ r) (Paired.mapP t f)
theorem cE.stay (x:cE P w H h a o) (k:∀b u,(b=a∨H b=some (.own a))→h.get? b=some u→h'.get? b=some u)
  (ho:∀b,H b=some (.own a)→H' b=some (.own a)) (hz:∀b o u,H b=some (.frz o u)→H' b=some (.frz o u)) (ht:∀b xs,H b=some (.tup xs)→H' b=some (.tup xs)):cE P w H' h' a o:=by
 induction o with
 |lst xs=>obtain ⟨z,its,n,r,e⟩:=x;exact ⟨z,its,n,r,k _ _ (.inl rfl) e⟩
 |tup xs=>obtain ⟨z,its,r,ob,e,c⟩:=x;exact ⟨z,its,r,ob,k _ _ (.inl rfl) e,c⟩
 |dK kvs=>obtain ⟨z,y,vs,r,ob,es,ep,e,c⟩:=x;exact ⟨z,y,vs,r,ob,es,ep,k _ _ (.inl rfl) e,c⟩
 |dT kvs=>
  obtain ⟨z,y,xs,r,ob,es,ep,e,c⟩:=x
  exact ⟨z,y,xs,Paired.mapP r fun p q z=>⟨z.1,ht _ _ z.2.1,z.2.2⟩,ob,es,ep,k _ _ (.inl rfl) e,c⟩
 |set S n=>obtain ⟨ob,es,ep,t,e,c⟩:=x;exact ⟨ob,es,ep,t,k _ _ (.inl rfl) e,c⟩
 |ins C dx fs=>
  obtain ⟨d,z,ne,e,mA,⟨od,es,ep,e2,c⟩,r⟩:=x
  exact ⟨ho _ d,z,ne,k _ _ (.inl rfl) e,mA,⟨od,es,ep,k _ _ (.inr d) e2,c⟩,r⟩
 |own y=>obtain ⟨ob,e⟩:=x;exact ⟨ob,k _ _ (.inl rfl) e⟩
 |xd fs=>obtain ⟨mA,⟨od,es,ep,e,c⟩,r⟩:=x;exact ⟨mA,⟨od,es,ep,k _ _ (.inl rfl) e,c⟩,r⟩
 |rng lo hi=>obtain ⟨t,u,v,e⟩:=x;exact ⟨t,u,v,k _ _ (.inl rfl) e⟩
 |frz ob u ih=>obtain ⟨e,q⟩:=x;exact ⟨k _ _ (.inl rfl) e,ih q⟩
 |tbl ps=>
  obtain ⟨ts,e,q⟩:=x
  refine ⟨ts,k a _ (.inl rfl) e,fun t ht=>?_⟩
  obtain ⟨oc,u,vs,t',h1,h2⟩:=q t ht
  exact ⟨oc,u,vs,t',hz _ _ _ h1,h2⟩
 |met f y=>
  have e:h.get? a=some (Fg (.ref f) (.ref y)):=x
  show h'.get? a=some (Fg (.ref f) (.ref y))
  exact k a _ (.inl rfl) e
 |ext φ=>obtain ⟨p,⟨o,e⟩,st⟩:=x;exact ⟨st _ _ p fun o q=>k _ _ (.inl rfl) q,⟨o,k _ _ (.inl rfl) e⟩,st⟩
theorem HOk.lt (x:HOk P w H h) (e:H a=some o):a < h.objs.size:=(x a o e).lt
theorem HOk.fresh (x:HOk P w H h) (e:h.objs.size≤a):H a=none:=by
 cases q:H a with
 |none=>rfl
 |some u=>exact absurd (A3 (x.lt q) e) (Bv _)
theorem HOk.kept (x:HOk P w H h) (k:∀b u,h.get? b=some u→h'.get? b=some u):HOk P w H h':=fun a o e=>
 (x a o e).stay (fun b u _ q=>k b u q) (fun _ q=>q) (fun _ _ _ q=>q) fun _ _ q=>q
theorem HOk.laid (x:HOk P w H h) (k:∀b u,h.get? b=some u→h'.get? b=some u) (hp:h.objs.size≤a) (new:cE P w (upd H a o) h' a o):HOk P w (upd H a o) h':=fun b u e=>by
 have hn:=x.fresh hp
 by_cases hb:b=a
 ·subst hb;rw[aW] at e;cases e;exact new
 ·rw[aK hb] at e
  exact (x b u e).stay (fun c v _ q=>k c v q) (fun c q=>by rw[aK (ca q hn)];exact q) (fun c o' u' q=>by rw[aK (ca q hn)];exact q) fun c xs q=>by rw[aK (ca q hn)];exact q
end
def Rd (H:Hp) (a:Addr) (u:HO):Prop:=H a=some u∨∃o,H a=some (.frz o u)
theorem Rd.ok {P:AC}{w:World}{H:Hp}{h:Heap}{a:Addr}{u:HO} (r:Rd H a u) (x:HOk P w H h):cE P w H h a u:=by
 rcases r with r |⟨o,r⟩
 ·exact x a u r
 ·obtain ⟨_,q⟩:=x a _ r
  exact q
def Mut:Option HO→Prop
 |some (.lst _)=>True
 |some (.dK _)=>True
 |some (.dT _)=>True
 |some (.set _ _)=>True
 |some (.ins _ _ _)=>True
 |some (.ext _)=>True
 |_=>False
section
variable {P:AC}{w:World}{H:Hp}{h h':Heap}{x e:Addr}{o':HO}
theorem HOk.write (ok:HOk P w H h) (mu:Mut (H x)) (he:e=x∨H e=some (.own x)) (k:∀b u,b≠e→h.get? b=some u→h'.get? b=some u) (heo:∃u,h'.get? e=some u)
  (new:cE P w (upd H x o') h' x o'):HOk P w (upd H x o') h':=fun b u q=>by
 have nown:∀c y,H c=some (.own y)→c≠x:=fun c y r z=>by subst z;rw[r] at mu;exact mu
 have ntup:∀c xs,H c=some (.tup xs)→c≠x:=fun c xs r z=>by subst z;rw[r] at mu;exact mu
 by_cases hb:b=x
 ·subst hb;rw[aW] at q;cases q;exact new
 ·rw[aK hb] at q
  by_cases hbe:b=e
  ·have q':H b=some (.own x):=by
    rcases he with z |z
    ·exact absurd (hbe.trans z) hb
    ·rw[hbe];exact z
   rw[q] at q';cases q'
   obtain ⟨v,hv⟩:=heo
   exact ⟨v,by rw[hbe];exact hv⟩
  ·refine (ok b u q).stay (fun c v hc r=>k c v ?_ r) (fun c r=>by rw[aK (nown c b r)];exact r) (fun c o' u' r=>by rw[aK (fun z=>by subst z;rw[r] at mu;exact mu)];exact r) fun c xs r=>by rw[aK (ntup c xs r)];exact r
   rcases hc with rfl |hc
   ·exact hbe
   ·rintro rfl
    rcases he with z |z
    ·exact nown c b hc z
    ·rw[hc] at z;cases z;exact hb rfl
end
structure Un (fs ex:List Addr) (H H':Hp) (h h':Heap):Prop where
 keep:∀b o,h.get? b=some o→H b=none→b ∉ fs→b ∉ ex→h'.get? b=some o
 slot:∀b o,h.get? b=some o→H b=none→b∈fs→b ∉ ex→∃sl,h'.get? b=some {o with slots:=sl }
 free:∀b o,h.get? b=some o→H b=none→b ∉ ex→H' b=none
 there:∀b o,h.get? b=some o→b ∉ ex→∃o',h'.get? b=some o'
 tups:∀b xs,H b=some (.tup xs)→H' b=some (.tup xs)
 frzs:∀b o u,H b=some (.frz o u)→H' b=some (.frz o u)
 tbls:∀b ps,H b=some (.tbl ps)→∃more,H' b=some (.tbl (ps++more))
section
variable {fs fs' ex ex':List Addr}{H H1 H2:Hp}{h h1 h2 h':Heap}{a x e:Addr}{o:HO}
theorem Un.any (u:Un fs ex H H1 h h1) {b:Addr}{ob:Obj} (q:h.get? b=some ob) (n:H b=none) (hx:b ∉ ex):∃sl,h1.get? b=some {ob with slots:=sl }:=by
 by_cases hb:b∈fs
 ·exact u.slot b ob q n hb hx
 ·exact ⟨ob.slots,u.keep b ob q n hb hx⟩
theorem Un.kept (k:∀b u,h.get? b=some u→h'.get? b=some u):Un fs ex H H h h':=
 ⟨fun b ob q _ _ _=>k b ob q,fun b ob q _ _ _=>⟨ob.slots,k b ob q⟩,fun _ _ _ n _=>n,fun b ob q _=>⟨ob,k b ob q⟩,fun _ _ q=>q,fun _ _ _ q=>q,fun _ ps q=>⟨#[],by rw[q];simp⟩⟩
theorem Un.refl:Un fs ex H H h h:=Un.kept fun _ _ q=>q
theorem Un.laid (k:∀b u,h.get? b=some u→h'.get? b=some u) (hp:h.objs.size≤a) (hn:H a=none):Un fs ex H (upd H a o) h h' where
 keep:=fun b u q _ _ _=>k b u q
 slot:=fun b u q _ _ _=>⟨u.slots,k b u q⟩
 free:=fun b u q n _=>by rw[aK (AZ (A3 (AB q) hp))];exact n
 there:=fun b u q _=>⟨u,k b u q⟩
 tups:=fun b xs q=>by rw[aK (ca q hn)];exact q
 frzs:=fun b u xs q=>by rw[aK (ca q hn)];exact q
 tbls:=fun b ps q=>⟨#[],by rw[aK (ca q hn),q];simp⟩
theorem Un.write (mu:Mut (H x)) (he:e=x∨H e=some (.own x)) (k:∀b u,b≠e→h.get? b=some u→h'.get? b=some u) (heo:∃u,h'.get? e=some u):Un fs ex H (upd H x o) h h':=by
 have hx:∀b,H b=none→b≠x:=fun b n z=>by subst z;rw[n] at mu;exact mu
 have hb:∀b,H b=none→b≠e:=fun b n z=>by
  subst z
  rcases he with r |r
  ·exact hx b n r
  ·rw[n] at r;cases r
 have hm:∀b u,H b=some u→¬ Mut (some u)→b≠x:=fun b u q nm z=>by subst z;rw[q] at mu;exact nm mu
 refine ⟨fun b u q n _ _=>k b u (hb b n) q,fun b u q n _ _=>⟨u.slots,k b u (hb b n) q⟩,fun b u q n _=>by rw[aK (hx b n)];exact n,fun b u q _=>?_,
  fun b xs q=>by rw[aK (hm b _ q fun z=>z)];exact q,fun b u xs q=>by rw[aK (hm b _ q fun z=>z)];exact q,fun b ps q=>⟨#[],by rw[aK (hm b _ q fun z=>z),q];simp⟩⟩
 by_cases hbe:b=e
 ·subst hbe;exact heo
 ·exact ⟨u,k b u hbe q⟩
end
def trk (h:Heap) (H:Hp):List Addr:=(Bj h.objs.size).filter fun a=>(H a).isSome
def jF (h:Heap) (H:Hp):Heap:=PySem.W.hideAll h (trk h H)
theorem qM (h:Heap) (H:Hp):(jF h H).objs.size=h.objs.size:=PySem.W.hideAll_size _ _
theorem rA {h:Heap}{H:Hp}{b:Addr}{o:Obj} (e:h.get? b=some o) (n:H b=none):(jF h H).get? b=some o:=
 PySem.W.hideAll_get _ e fun hm=>by
  have q:(H b).isSome=true:=(CL.mp hm).2
  rw[n] at q;simp at q
theorem oQ {h:Heap}{H:Hp}{b:Addr}{o:Obj} (e:(jF h H).get? b=some o):h.get? b=some o∧H b=none:=by
 have e':h.get? b=some o:=PySem.W.of_hideAll (trk h H) e
 refine ⟨e',?_⟩
 cases q:H b with
 |none=>rfl
 |some x=>
  have hm:b∈trk h H:=CL.mpr ⟨AV.mpr (AB e'),by simp[q]⟩
  have z:(jF h H).get? b=none:=PySem.W.hideAll_none (trk h H) hm
  rw[z] at e;cases e
def vg (g h:Heap) (L:Addr):List (Addr×Obj):=(Bj h.objs.size).filterMap fun a=>if a=L∨(g.get? a).isSome=true then none else (h.get? a).map fun o=>(a,o)
def rest (g h:Heap) (L d:Addr):List (Addr×Obj):=(vg g h L).filter fun p=>decide (p.1≠d)
structure Mod (K:Ao) (mg:Str→Option Value) (base:Heap):Prop where
 kin:K.In base
 glob:base.Ns AJ mg
 blt:∃mb,base.Ns EJ mb∧∀x:Str,x≠"__name__"→mb x=Cg x
 nolimit:base.NoLimit
structure Cx where
 prog:AC
 w:World
 K:Ao
 mg:Str→Option Value
 base:Heap
 A:A4
 N:List Str
 s₀:Ar
 H₀:Hp
 env:Env
 outer:List Env
 stack:List Env
 ex:List Addr
 fn:Str→Bool
 calm:Bool
 pn:List (Addr×Obj)
 xe:Value→Ar→Prop
def frs (l:List Env):List Addr:=l.filterMap (·.frame)
abbrev Cx.fs (X:Cx):List Addr:=frs X.outer
def Vis (sc:Scope) (x:Str):Prop:=sc.names.lookup x=some .local∨sc.names.lookup x=some .cell∨sc.names.lookup x=some .free
def Loc (sc:Scope) (x:Str):Prop:=sc.names.lookup x=some .local∨sc.names.lookup x=some .cell
def zI (env:Env) (h:Heap) (m:Str→Option Value) (x:Str) (u:Value):Prop:=
 (env.kindOf x=some .local∧m x=some u)∨((env.kindOf x=some .cell∨env.kindOf x=some .free)∧∃c,env.cells.lookup x=some c∧h.IsCell c (some u))
def Amb (mg:Str→Option Value) (base:Heap) (H:Hp):Prop:=∀f o fd c oc vs P,mg "to_form"=some (.ref f)→base.get? f=some o→o.data=.func fd→fd.code=.ref c→base.get? c=some oc→oc.data=.fields vs→vs.getD 11 .none=.ref P→∃ps,H P=some (.tbl ps)
structure Frf (mg:Str→Option Value) (base:Heap) (fs:List Addr) (H:Hp):Prop where
 fr:∀b∈fs,H b=none
 amb:Amb mg base H
structure Cx.Ok (X:Cx):Prop where
 mod:Mod X.K X.mg X.base
 kind:X.env.scope.kind=.function
 glob:X.env.globals=AJ
 blt:X.env.builtins=EJ
 above:X.s₀.heap.objs.size≤X.env.locals
 inj:∀x y c,X.env.cells.lookup x=some c→X.env.cells.lookup y=some c→x=y
 has:∀x,(X.env.kindOf x=some .cell∨X.env.kindOf x=some .free)→∃c,X.env.cells.lookup x=some c
 cab:∀x c,X.fn x=true→X.env.cells.lookup x=some c→X.s₀.heap.objs.size≤c
 hd:X.calm=true→X.A.handled=none
 frames:X.A.frames=some X.stack
 stk:X.stack=X.outer∨(X.stack=X.env::X.outer∧X.env.frame=some X.env.locals)
 exf:∀b∈X.ex,b≠X.env.locals∧∀x c,X.env.cells.lookup x=some c→c≠b
 bs:∀b o,X.base.get? b=some o→X.s₀.heap.get? b=some o∧X.H₀ b=none
 bsz:X.base.objs.size≤X.s₀.heap.objs.size
 noex:∀b o,X.base.get? b=some o→b ∉ X.ex
 exfs:∀b∈X.ex,b ∉ X.fs
 funs:X.s₀.heap.FunFrames X.base X.outer
 frf:Frf X.mg X.base X.fs X.H₀
structure Inv (X:Cx) (pins:List (Addr×Obj)) (σ:List (Option V)) (H:Hp) (s:Ar):Prop where
 ok:X.Ok
 os:s.os=X.s₀.os
 bare:Fu s.gens
 base:Un X.fs X.ex X.H₀ H X.s₀.heap s.heap
 loc:∃m,s.heap.Ns X.env.locals m∧∀(i:Nat) (x:Str) (v:V),X.N[i]?=some x→σ[i]?=some (some v)→Vis X.env.scope x→∃u,aY v u∧zI X.env s.heap m x u
 cell:∀x c,X.env.cells.lookup x=some c→∃v,s.heap.IsCell c v
 free:H X.env.locals=none
 freeC:∀x c,X.env.cells.lookup x=some c→H c=none
 pin:∀p∈X.pn++pins,s.heap.get? p.1=some p.2∧H p.1=none∧p.1≠X.env.locals∧p.1 ∉ X.fs∧∀v,p.2.data≠.cell v
 hok:HOk X.prog X.w H s.heap
 len:σ.length=X.N.length
section
variable {X:Cx}{pins:List (Addr×Obj)}{σ:List (Option V)}{H H':Hp}{s:Ar}{h':Heap}
theorem Cx.Ok.nofr (ok:X.Ok) {b:Addr}{o:Obj} (e:X.base.get? b=some o):b ∉ X.fs:=fun hb=>by
 have:=(ok.funs.mem hb).1
 rw[e] at this;cases this
theorem Inv.bs (I:Inv X pins σ H s):∀b o,X.base.get? b=some o→s.heap.get? b=some o∧H b=none:=fun b o e=>
 ⟨I.base.keep b o (I.ok.bs b o e).1 (I.ok.bs b o e).2 (I.ok.nofr e) (I.ok.noex b o e),I.base.free b o (I.ok.bs b o e).1 (I.ok.bs b o e).2 (I.ok.noex b o e)⟩
theorem Inv.bk (I:Inv X pins σ H s):∀b o,X.base.get? b=some o→s.heap.get? b=some o:=fun b o e=>(I.bs b o e).1
theorem Inv.mod (I:Inv X pins σ H s):Mod X.K X.mg X.base:=I.ok.mod
theorem Inv.kIn (I:Inv X pins σ H s):X.K.In s.heap:=I.ok.mod.kin.keeps I.bk
theorem Inv.nolimit (I:Inv X pins σ H s):s.heap.NoLimit:=I.ok.mod.nolimit.keeps I.bk
theorem Inv.lt (I:Inv X pins σ H s):X.env.locals < s.heap.objs.size:=let ⟨_,hn,_⟩:=I.loc;hn.lt
theorem Inv.sz (I:Inv X pins σ H s):X.s₀.heap.objs.size≤s.heap.objs.size:=B9 I.ok.above (BX I.lt)
theorem Inv.nofs (I:Inv X pins σ H s) {a:Addr} (h:s.heap.objs.size≤a):a ∉ X.fs:=fun hb=>by
 obtain ⟨_,o,ho,_⟩:=I.ok.funs.mem hb
 exact absurd (A3 (AB ho) (B9 I.sz h)) (Bv _)
theorem Inv.cne (I:Inv X pins σ H s):∀x c,X.env.cells.lookup x=some c→c≠X.env.locals:=fun x c e z=>by
 obtain ⟨v,o,ho,hd⟩:=I.cell x c e
 obtain ⟨m,⟨o',es,ep,ho',hd',_⟩,_⟩:=I.loc
 rw[z,ho'] at ho;cases ho;rw[hd'] at hd;cases hd
theorem Inv.funs (I:Inv X pins σ H s):s.heap.FunFrames X.base X.outer:=by
 have all:∀(l:List Env),(∀b∈frs l,b∈X.fs)→X.s₀.heap.FunFrames X.base l→s.heap.FunFrames X.base l:=by
  intro l
  induction l with
  |nil=>intro _ _;trivial
  |cons env r ih=>
   intro hs hl
   obtain ⟨hk,⟨L,o,hf,hn,ho,hd⟩,hr⟩:=hl
   have hL:L∈X.fs:=hs L (by unfold frs;rw[Be,hf];exact AE)
   obtain ⟨sl,e⟩:=I.base.slot L o ho (I.ok.frf.fr L hL) hL fun z=>I.ok.exfs L z hL
   exact ⟨hk,⟨L,_,hf,hn,e,hd⟩,ih (fun b hb=>hs b (by unfold frs;rw[Be,hf];exact Au _ hb)) hr⟩
 exact all X.outer (fun _ hb=>hb) I.ok.funs
theorem Inv.stack (I:Inv X pins σ H s):s.heap.FunFrames X.base X.stack:=by
 rcases I.ok.stk with e |⟨e,hf⟩
 ·rw[e];exact I.funs
 ·rw[e]
  obtain ⟨m,hn,_⟩:=I.loc
  refine .cons (by rw[I.ok.kind];decide) hf hn ?_ I.funs
  exact Heap.get?_none_of_le (B9 I.ok.bsz I.ok.above)
theorem Inv.stkSub (I:Inv X pins σ H s):∀b∈frs X.stack,b∈X.env.locals::X.fs:=fun b hb=>by
 rcases I.ok.stk with e |⟨e,hf⟩
 ·rw[e] at hb;exact Au _ hb
 ·rw[e] at hb
  unfold frs at hb
  rw[Be,hf] at hb
  exact hb
theorem Inv.amb (I:Inv X pins σ H s):Amb X.mg X.base H:=fun f o fd c oc vs P h1 h2 h3 h4 h5 h6 h7=>by
 obtain ⟨ps,e⟩:=I.ok.frf.amb f o fd c oc vs P h1 h2 h3 h4 h5 h6 h7
 obtain ⟨m,q⟩:=I.base.tbls P ps e
 exact ⟨_,q⟩
theorem Inv.stkFree (I:Inv X pins σ H s):∀b∈frs X.stack,H b=none:=fun b hb=>by
 rcases Ay.mp (I.stkSub b hb) with e |hb
 ·rw[e];exact I.free
 ·obtain ⟨_,o,ho,_⟩:=I.ok.funs.mem hb
  exact I.base.free b o ho (I.ok.frf.fr b hb) fun z=>I.ok.exfs b z hb
theorem Inv.step {g':Array DA}{t':Nat}{d':Drawn}{ch:List Addr} (I:Inv X pins σ H s)
  (hch:∀b∈ch,(b∈X.ex∨X.s₀.heap.objs.size≤b)∧b≠X.env.locals∧(∀x c,X.env.cells.lookup x=some c→c≠b)∧∀p∈X.pn++pins,p.1≠b)
  (keep:∀b o,b≠X.env.locals→b ∉ X.fs→b ∉ ch→s.heap.get? b=some o→H b=none→h'.get? b=some o)
  (slot:∀b o,b≠X.env.locals→b∈X.fs→b ∉ ch→s.heap.get? b=some o→H b=none→∃sl,h'.get? b=some {o with slots:=sl }) (free:∀b o,b ∉ ch→s.heap.get? b=some o→H b=none→H' b=none)
  (there:∀b o,b ∉ ch→s.heap.get? b=some o→∃o',h'.get? b=some o')
  (tups:∀b xs,H b=some (.tup xs)→H' b=some (.tup xs)) (frzs:∀b o u,H b=some (.frz o u)→H' b=some (.frz o u)) (tbls:∀b ps,H b=some (.tbl ps)→∃more,H' b=some (.tbl (ps++more)))
  (ns:∀m,s.heap.Ns X.env.locals m→h'.Ns X.env.locals m) (hok:HOk X.prog X.w H' h') (hg:Fu g'):
  Inv X pins σ H' {s with heap:=h',gens:=g',drawn:=d',toks:=t' }:=by
 have neL:∀b o,X.s₀.heap.get? b=some o→b≠X.env.locals:=fun b o e=>AZ (A3 (AB e) I.ok.above)
 have neC:∀b o,X.s₀.heap.get? b=some o→b ∉ X.ex→b ∉ ch:=fun b o e hx hb=>by
  rcases (hch b hb).1 with z |z
  ·exact hx z
  ·exact absurd (A3 (AB e) z) (Bv _)
 have cellK:∀x c,X.env.cells.lookup x=some c→∀v,s.heap.IsCell c v→h'.IsCell c v:=fun x c e v ⟨o,ho,hd⟩=>by
  have nch:c ∉ ch:=fun z=>(hch c z).2.2.1 x c e rfl
  by_cases hc:c∈X.fs
  ·obtain ⟨sl,q⟩:=slot c o (I.cne x c e) hc nch ho (I.freeC x c e)
   exact ⟨_,q,hd⟩
  ·exact ⟨o,keep c o (I.cne x c e) hc nch ho (I.freeC x c e),hd⟩
 refine ⟨I.ok,I.os,hg,⟨fun b o e n hb hx=>?_,fun b o e n hb hx=>?_,fun b o e n hx=>?_,fun b o e hx=>?_,fun b xs e=>tups b xs (I.base.tups b xs e),fun b o xs e=>frzs b o xs (I.base.frzs b o xs e),fun b ps e=>?_⟩,?_,fun x c e=>?_,?_,fun x c e=>?_,fun p hp=>?_,hok,I.len⟩
 ·exact keep b o (neL b o e) hb (neC b o e hx) (I.base.keep b o e n hb hx) (I.base.free b o e n hx)
 ·obtain ⟨sl,e1⟩:=I.base.slot b o e n hb hx
  obtain ⟨sl',e2⟩:=slot b _ (neL b o e) hb (neC b o e hx) e1 (I.base.free b o e n hx)
  exact ⟨sl',e2⟩
 ·obtain ⟨o',e1⟩:=I.base.there b o e hx
  exact free b o' (neC b o e hx) e1 (I.base.free b o e n hx)
 ·obtain ⟨o',e1⟩:=I.base.there b o e hx
  exact there b o' (neC b o e hx) e1
 ·obtain ⟨m1,e1⟩:=I.base.tbls b ps e
  obtain ⟨m2,e2⟩:=tbls b _ e1
  exact ⟨m1++m2,by rw[e2,Array.append_assoc]⟩
 ·obtain ⟨m,hn,hl⟩:=I.loc
  refine ⟨m,ns m hn,fun i x v e1 e2 e3=>?_⟩
  obtain ⟨u,r,l⟩:=hl i x v e1 e2 e3
  refine ⟨u,r,?_⟩
  rcases l with l |⟨k,c,e,z⟩
  ·exact .inl l
  ·exact .inr ⟨k,c,e,cellK x c e _ z⟩
 ·obtain ⟨v,z⟩:=I.cell x c e
  exact ⟨v,cellK x c e v z⟩
 ·obtain ⟨m,⟨o,_,_,ho,_⟩,_⟩:=I.loc
  exact free _ o (fun z=>(hch _ z).2.1 rfl) ho I.free
 ·obtain ⟨v,o,ho,hd⟩:=I.cell x c e
  exact free c o (fun z=>(hch c z).2.2.1 x c e rfl) ho (I.freeC x c e)
 ·obtain ⟨e,n,ne,nf,d⟩:=I.pin p hp
  have nch:p.1 ∉ ch:=fun z=>(hch p.1 z).2.2.2 p hp rfl
  exact ⟨keep p.1 p.2 ne nf nch e n,free p.1 p.2 nch e n,ne,nf,d⟩
theorem Inv.un {t':Nat} (I:Inv X pins σ H s) (u:Un X.fs [] H H' s.heap h') (hok:HOk X.prog X.w H' h'):Inv X pins σ H' {s with heap:=h',toks:=t' }:=by
 obtain ⟨m,⟨o,es,ep,ho,r⟩,_⟩:=id I.loc
 obtain ⟨sl,hL⟩:=u.any ho I.free (by simp)
 exact I.step (g':=s.gens) (d':=s.drawn) (ch:=[]) (fun _ z=>nomatch z) (fun b o _ hb _ e n=>u.keep b o e n hb (by simp)) (fun b o _ hb _ e n=>u.slot b o e n hb (by simp)) (fun b o _ e n=>u.free b o e n (by simp)) (fun b o _ e=>u.there b o e (by simp)) u.tups u.frzs u.tbls (fun m' hm=>by
  obtain ⟨o',es',ep',ho',r'⟩:=hm
  rw[ho] at ho';cases ho'
  exact ⟨_,es',ep',hL,r'⟩) hok I.bare
theorem Inv.call {g':Array DA}{t':Nat}{d':Drawn}{ch:List Addr} (I:Inv X pins σ H s) (u:Un (frs X.stack) ch H H' s.heap h') (hok:HOk X.prog X.w H' h') (hg:Fu g')
  (hch:∀b∈ch,(b∈X.ex∨X.s₀.heap.objs.size≤b)∧b≠X.env.locals∧(∀x c,X.env.cells.lookup x=some c→c≠b)∧∀p∈X.pn++pins,p.1≠b):
  Inv X pins σ H' {s with heap:=h',gens:=g',drawn:=d',toks:=t' }:=by
 obtain ⟨m,⟨o,es,ep,ho,r⟩,_⟩:=id I.loc
 obtain ⟨sl,hL⟩:=u.any ho I.free fun z=>(hch _ z).2.1 rfl
 exact I.step (ch:=ch) hch (fun b o hL hb hc e n=>u.keep b o e n (fun z=>(Ay.mp (I.stkSub b z)).elim hL hb) hc) (fun b o _ _ hc e n=>u.any e n hc) (fun b o hc e n=>u.free b o e n hc) (fun b o hc e=>u.there b o e hc) u.tups u.frzs u.tbls (fun m' hm=>by
  obtain ⟨o',es',ep',ho',r'⟩:=hm
  rw[ho] at ho';cases ho'
  exact ⟨_,es',ep',hL,r'⟩) hok hg
theorem Inv.turned {t':Nat}{it:Addr} (I:Inv X pins σ H s) (k:∀b o,b≠it→s.heap.get? b=some o→h'.get? b=some o) (hn:H it=none) (hL:it≠X.env.locals)
  (h1:it∈X.ex∨X.s₀.heap.objs.size≤it) (h2:∀x c,X.env.cells.lookup x=some c→c≠it) (h3:∀p∈X.pn++pins,p.1≠it):Inv X pins σ H {s with heap:=h',toks:=t' }:=by
 have nit:∀b u,H b=some u→b≠it:=fun b u e z=>by rw[z,hn] at e;cases e
 refine I.step (g':=s.gens) (d':=s.drawn) (ch:=[it]) (fun b hb=>?_) (fun b o _ _ hc e _=>k b o (fun z=>hc (by simp[z])) e) (fun b o _ _ hc e _=>⟨o.slots,k b o (fun z=>hc (by simp[z])) e⟩) (fun _ _ _ _ n=>n)
  (fun b o hc e=>⟨o,k b o (fun z=>hc (by simp[z])) e⟩) (fun _ _ e=>e) (fun _ _ _ e=>e) (fun b ps e=>⟨#[],by rw[e];simp⟩) (fun m hm=>?_) (fun b u e=>?_) I.bare
 ·have e:b=it:=by simpa using hb
  subst e
  exact ⟨h1,hL,h2,h3⟩
 ·obtain ⟨o,es,ep,ho,r⟩:=hm
  exact ⟨o,es,ep,k _ o (Ne.symm hL) ho,r⟩
 ·refine (I.hok b u e).stay (fun c v hc q=>k c v ?_ q) (fun _ q=>q) (fun _ _ _ q=>q) fun _ _ q=>q
  rcases hc with z |z
  ·rw[z];exact nit b u e
  ·exact nit c _ z
theorem Inv.tok (I:Inv X pins σ H s) (t:Nat):Inv X pins σ H {s with toks:=t }:=I.un (h':=s.heap) (t':=t) Un.refl I.hok
theorem Inv.kept {t':Nat} (I:Inv X pins σ H s) (k:∀b u,s.heap.get? b=some u→h'.get? b=some u):Inv X pins σ H {s with heap:=h',toks:=t' }:=I.un (Un.kept k) (I.hok.kept k)
theorem Inv.laid {a:Addr}{o:HO}{t':Nat} (I:Inv X pins σ H s) (k:∀b u,s.heap.get? b=some u→h'.get? b=some u) (hp:s.heap.objs.size≤a) (new:cE X.prog X.w (upd H a o) h' a o):
  Inv X pins σ (upd H a o) {s with heap:=h',toks:=t' }:=I.un (Un.laid k hp (I.hok.fresh hp)) (I.hok.laid k hp new)
theorem Inv.write {x e:Addr}{o:HO}{t':Nat} (I:Inv X pins σ H s) (mu:Mut (H x)) (he:e=x∨H e=some (.own x)) (k:∀b u,b≠e→s.heap.get? b=some u→h'.get? b=some u) (heo:∃u,h'.get? e=some u)
  (new:cE X.prog X.w (upd H x o) h' x o):Inv X pins σ (upd H x o) {s with heap:=h',toks:=t' }:=I.un (Un.write mu he k heo) (I.hok.write mu he k heo new)
theorem Inv.weak {σ':List (Option V)} (I:Inv X pins σ H s) (hl:σ'.length=σ.length) (w:∀(i:Nat) v,σ'[i]?=some (some v)→σ[i]?=some (some v)):Inv X pins σ' H s:=
 ⟨I.ok,I.os,I.bare,I.base,let ⟨m,hn,hl'⟩:=I.loc;⟨m,hn,fun i x v e1 e2 e3=>hl' i x v e1 (w i v e2) e3⟩,I.cell,I.free,I.freeC,I.pin,I.hok,hl.trans I.len⟩
theorem Inv.pins_of {pins':List (Addr×Obj)} (I:Inv X pins σ H s) (h:∀p∈pins',s.heap.get? p.1=some p.2∧H p.1=none∧p.1≠X.env.locals∧p.1 ∉ X.fs∧∀v,p.2.data≠.cell v):Inv X pins' σ H s:=
 ⟨I.ok,I.os,I.bare,I.base,I.loc,I.cell,I.free,I.freeC,fun p hp=>(Cr.mp hp).elim (fun z=>I.pin p (BK _ z)) (h p),I.hok,I.len⟩
theorem mM {N:List Str} (hN:N.Nodup) {i j:Nat}{x:Str} (a:N[i]?=some x) (b:N[j]?=some x):i=j:=by
 obtain ⟨h1,e1⟩:=AF.mp a
 obtain ⟨h2,e2⟩:=AF.mp b
 exact (Ez hN).mp (e1.trans e2.symm)
theorem qL {M:Model}{A:A4}{E:Value→Ar→Prop}{i:Nat}{x:Str}{v:V}{u:Value}{Q:Unit→Ar→Prop} (I:Inv X pins σ H s) (hN:X.N.Nodup) (hi:X.N[i]?=some x) (hx:Loc X.env.scope x) (r:aY v u)
  (h:∀s',Inv X pins (σ.set i (some v)) H s'→(∃a,Dv a s.heap s'.heap∧(a=X.env.locals∨X.env.cells.lookup x=some a))→Q () s') (hf:X.fn x=true∨X.env.scope.names.lookup x=some .local:=by first |exact .inl rfl |exact .inr rfl |assumption):wpAny M A (storeName X.env x u) Q E s:=by
 obtain ⟨m,hn,hl⟩:=id I.loc
 have hcls:(X.env.scope.kind==.class || (X.env.scope.kind==.module && X.env.locals !=X.env.globals))=false:=by rw[I.ok.kind];rfl
 have hiσ:i < σ.length:=by rw[I.len];exact (AF.mp hi).1
 have cne:=I.cne
 have tracked:∀{a:Addr}{h':Heap},(∃o,s.heap.get? a=some o∧H a=none)→Dv a s.heap h'→HOk X.prog X.w H h':=fun {a h'} ha hs b ob e=>by
  obtain ⟨_,_,hfree⟩:=ha
  refine (I.hok b ob e).stay (fun c w' hc q=>(hs.2 c ?_).trans q) (fun _ q=>q) (fun _ _ _ q=>q) fun _ _ q=>q
  rintro rfl
  rcases hc with rfl |hc
  ·rw[hfree] at e;cases e
  ·rw[hfree] at hc;cases hc
 rcases hx with hk |hk
 ·refine wpAny_storeName_local hk hn (fun h' hn' hs=>?_) hcls
  obtain ⟨oL,_,_,hoL,_⟩:=id hn
  refine h _ ⟨I.ok,I.os,I.bare,⟨fun b o e n hb hx=>?_,fun b o e n hb hx=>?_,I.base.free,fun b o e hx=>?_,I.base.tups,I.base.frzs,I.base.tbls⟩,⟨_,hn',fun j y v' e1 e2 e3=>?_⟩,fun y c e=>?_,I.free,I.freeC,fun p hp=>?_,tracked ⟨oL,hoL,I.free⟩ hs,by simpa using I.len⟩ ⟨_,hs,.inl rfl⟩
  ·exact (hs.2 b (AZ (A3 (AB e) I.ok.above))).trans (I.base.keep b o e n hb hx)
  ·obtain ⟨sl,e1⟩:=I.base.slot b o e n hb hx
   exact ⟨sl,(hs.2 b (AZ (A3 (AB e) I.ok.above))).trans e1⟩
  ·obtain ⟨o',e1⟩:=I.base.there b o e hx
   exact ⟨o',(hs.2 b (AZ (A3 (AB e) I.ok.above))).trans e1⟩
  ·by_cases hj:j=i
   ·subst hj
    rw[hi] at e1;cases e1
    rw[FO hiσ] at e2
    cases e2
    exact ⟨u,r,.inl ⟨hk,by simp⟩⟩
   ·rw[Bb (Ne.symm hj)] at e2
    obtain ⟨u',r',q⟩:=hl j y v' e1 e2 e3
    refine ⟨u',r',?_⟩
    rcases q with ⟨k,e⟩ |⟨k,c,e,z⟩
    ·refine .inl ⟨k,?_⟩
     have:y≠x:=fun e=>hj (mM hN e1 (e ▸ hi))
     simp[this,e]
    ·exact .inr ⟨k,c,e,z.sameBut hs (cne y c e)⟩
  ·obtain ⟨w',z⟩:=I.cell y c e
   exact ⟨w',z.sameBut hs (cne y c e)⟩
  ·obtain ⟨e,n,ne,nf,d⟩:=I.pin p hp
   exact ⟨(hs.2 p.1 ne).trans e,n,ne,nf,d⟩
 ·have hfn:X.fn x=true:=by
   rcases hf with z |z
   ·exact z
   ·rw[z] at hk;cases hk
  obtain ⟨c,hc⟩:=I.ok.has x (.inl hk)
  obtain ⟨w',z⟩:=I.cell x c hc
  refine wpAny_storeName_cell I.ok.kind hk hc z (fun h' hc' hs=>?_)
  obtain ⟨oc,hoc,hocd⟩:=id z
  refine h {s with heap:=h' } ⟨I.ok,I.os,I.bare,⟨fun b o e n hb hx=>?_,fun b o e n hb hx=>?_,I.base.free,fun b o e hx=>?_,I.base.tups,I.base.frzs,I.base.tbls⟩,⟨m,hn.sameBut hs (Ne.symm (cne x c hc)),fun j y v' e1 e2 e3=>?_⟩,fun y c' e=>?_,I.free,I.freeC,fun p hp=>?_,tracked ⟨oc,hoc,I.freeC x c hc⟩ hs,by simpa using I.len⟩ ⟨c,hs,.inr hc⟩
  ·exact (hs.2 b (AZ (A3 (AB e) (I.ok.cab x c hfn hc)))).trans (I.base.keep b o e n hb hx)
  ·obtain ⟨sl,e1⟩:=I.base.slot b o e n hb hx
   exact ⟨sl,(hs.2 b (AZ (A3 (AB e) (I.ok.cab x c hfn hc)))).trans e1⟩
  ·obtain ⟨o',e1⟩:=I.base.there b o e hx
   exact ⟨o',(hs.2 b (AZ (A3 (AB e) (I.ok.cab x c hfn hc)))).trans e1⟩
  ·by_cases hj:j=i
   ·subst hj
    rw[hi] at e1;cases e1
    rw[FO hiσ] at e2
    cases e2
    exact ⟨u,r,.inr ⟨.inl hk,c,hc,hc'⟩⟩
   ·rw[Bb (Ne.symm hj)] at e2
    obtain ⟨u',r',q⟩:=hl j y v' e1 e2 e3
    refine ⟨u',r',?_⟩
    rcases q with q |⟨k,c',e,z'⟩
    ·exact .inl q
    ·refine .inr ⟨k,c',e,z'.sameBut hs ?_⟩
     rintro rfl
     exact hj (mM hN e1 (I.ok.inj _ _ _ e hc ▸ hi))
  ·by_cases hcc:c'=c
   ·subst hcc;exact ⟨_,hc'⟩
   ·obtain ⟨w2,z2⟩:=I.cell y c' e
    exact ⟨w2,z2.sameBut hs hcc⟩
  ·obtain ⟨e,n,ne,nf,d⟩:=I.pin p hp
   refine ⟨(hs.2 p.1 ?_).trans e,n,ne,nf,d⟩
   intro q
   rw[q,hoc] at e
   have q':oc=p.2:=Bo e
   exact d w' (by rw[←q'];exact hocd)
theorem gX {M:Model}{A:A4}{E:Value→Ar→Prop}{i:Nat}{x:Str}{v:V}{u:Value}{Q:Unit→Ar→Prop} (I:Inv X pins σ H s) (hN:X.N.Nodup) (hi:X.N[i]?=some x) (hx:Loc X.env.scope x) (r:aY v u)
  (h:∀s',Inv X pins (σ.set i (some v)) H s'→Q () s') (hf:X.fn x=true∨X.env.scope.names.lookup x=some .local:=by first |exact .inl rfl |exact .inr rfl |assumption):wpAny M A (storeName X.env x u) Q E s:=
 qL I hN hi hx r (fun s' I' _=>h s' I') hf
theorem Inv.call' {s':Ar}{ch:List Addr} (I:Inv X pins σ H s) (ho:s'.os=s.os) (u:Un (frs X.stack) ch H H' s.heap s'.heap) (hok:HOk X.prog X.w H' s'.heap) (hg:Fu s'.gens)
  (hch:∀b∈ch,(b∈X.ex∨X.s₀.heap.objs.size≤b)∧b≠X.env.locals∧(∀x c,X.env.cells.lookup x=some c→c≠b)∧∀p∈X.pn++pins,p.1≠b):Inv X pins σ H' s':=by
 obtain ⟨h',g',d',t',o'⟩:=s'
 have e:o'=s.os:=ho
 subst e
 exact I.call (g':=g') (t':=t') (d':=d') u hok hg hch
end
abbrev XK:=Value→Option Addr→Hp→Prop
abbrev St:=List (Option V)
abbrev VK:=V→Hp→Prop
abbrev TE:=St→Hp→VK→Prop
abbrev TT:=St→Hp→(Bool→Hp→Prop)→Prop
abbrev TA:=St→Hp→(List V→Hp→Prop)→Prop
structure k_ where
 nx:St→Hp→Prop
 rt:VK
 bk:St→Hp→Prop:=fun _ _=>False
 ct:St→Hp→Prop:=fun _ _=>False
abbrev TS:=k_→St→Hp→Prop
def EP (X:Cx) (pins:List (Addr×Obj)) (σ:St) (Q:VK) (u:Value) (s':Ar):Prop:=∃v H',Inv X pins σ H' s'∧aY v u∧Q v H'
def TP (X:Cx) (pins:List (Addr×Obj)) (σ:St) (Q:Bool→Hp→Prop) (b:Bool) (s':Ar):Prop:=∃H',Inv X pins σ H' s'∧Q b H'
def AP (X:Cx) (pins:List (Addr×Obj)) (σ:St) (Q:List V→Hp→Prop) (us:List Value) (s':Ar):Prop:=∃vs H',Inv X pins σ H' s'∧aV vs us∧Q vs H'
def SP (X:Cx) (pins:List (Addr×Obj)) (D:k_) (f:Flow) (s':Ar):Prop:=
 match f with
 | .next=>∃σ' H',Inv X pins σ' H' s'∧D.nx σ' H'
 | .brk=>∃σ' H',Inv X pins σ' H' s'∧D.bk σ' H'
 | .cont=>∃σ' H',Inv X pins σ' H' s'∧D.ct σ' H'
 | .ret u=>∃v σ' H',Inv X pins σ' H' s'∧aY v u∧D.rt v H'
def PE (X:Cx) (e:Expr) (t:TE):Prop:=
 ∀(pins:List (Addr×Obj)) (s:Ar) (σ:St) (H:Hp) (Q:VK),Inv X pins σ H s→t σ H Q→wpAny (model X.prog X.w) X.A (eval e X.env) (EP X pins σ Q) X.xe s
def PT (X:Cx) (e:Expr) (t:TT):Prop:=
 ∀(pins:List (Addr×Obj)) (s:Ar) (σ:St) (H:Hp) (Q:Bool→Hp→Prop),Inv X pins σ H s→t σ H Q→wpAny (model X.prog X.w) X.A (isTrue e X.env (eval e X.env)) (TP X pins σ Q) X.xe s
def PW (X:Cx) (e:Expr) (t:TT):Prop:=
 ∀(whole:Sem Value) (pins:List (Addr×Obj)) (s:Ar) (σ:St) (H:Hp) (Q:Bool→Hp→Prop),Inv X pins σ H s→t σ H Q→wpAny (model X.prog X.w) X.A (isTrue e X.env whole) (TP X pins σ Q) X.xe s
theorem PW.pt {X:Cx}{e:Expr}{t:TT} (h:PW X e t):PT X e t:=h _
def PA (X:Cx) (es:List Expr) (t:TA):Prop:=
 ∀(pos:Pos) (pins:List (Addr×Obj)) (s:Ar) (σ:St) (H:Hp) (Q:List V→Hp→Prop),Inv X pins σ H s→t σ H Q→wpAny (model X.prog X.w) X.A (spliced (Eo pos (AK es X.env))) (AP X pins σ Q) X.xe s
def PS (X:Cx) (st:Stmt) (t:TS):Prop:=
 ∀(pins:List (Addr×Obj)) (s:Ar) (σ:St) (H:Hp) (D:k_),Inv X pins σ H s→t D σ H→wpAny (model X.prog X.w) X.A (exec st X.env) (SP X pins D) X.xe s
def PSs (X:Cx) (st:List Stmt) (t:TS):Prop:=
 ∀(pins:List (Addr×Obj)) (s:Ar) (σ:St) (H:Hp) (D:k_),Inv X pins σ H s→t D σ H→wpAny (model X.prog X.w) X.A (execs st X.env) (SP X pins D) X.xe s
theorem thn {α:Type}{t:Sem α}{Q Q':α→Ar→Prop}{M:Model}{A:A4}{E:Value→Ar→Prop}{s:Ar} (h:wpAny M A t Q E s) (hQ:∀a s,Q a s→Q' a s):wpAny M A t Q' E s:=Cv h hQ fun _ _ x=>x
section
variable {X:Cx}
def zL (i:Nat):TE:=fun σ H Q=>∃v,σ[i]?=some (some v)∧Q v H
def tC (v:V):TE:=fun _ H Q=>Q v H
theorem ip {i:Nat}{x:Str}{pos:Pos} (hN:X.N[i]?=some x) (hv:Vis X.env.scope x) (hd:(x==("__debug__":Str))=false:=by decide) (hcd:(x==("__classdict__":Str))=false:=by decide):PE X (.Name x pos) (zL i):=by
 intro pins s σ H Q I h
 obtain ⟨v,e,h⟩:=h
 obtain ⟨m,hn,hl⟩:=I.loc
 obtain ⟨u,r,l⟩:=hl i x v hN e hv
 have fin:EP X pins σ Q u s:=⟨v,H,I,r,h⟩
 rcases l with ⟨hk,hm⟩ |⟨hk,c,hc,hcell⟩
 ·exact IS (wpAny_loadName_local I.ok.kind hk hn hm fin) hd
 ·rcases hk with hk |hk
  ·exact IS (wpAny_loadName_cell I.ok.kind hk hc hcell fin) hd
  ·exact IS (wpAny_loadName_free I.ok.kind hk hc hcell fin hcd) hd
theorem wX {i j pos}:PE X (.Constant (.int i) j pos) (tC (.int i)):=fun _ _ _ H _ I h=>wpAny_Constant_int ⟨.int i,H,I.tok _,⟨_,rfl⟩,h⟩
theorem yl {b j pos}:PE X (.Constant (.bool b) j pos) (tC (.bl b)):=fun _ _ _ H _ I h=>Constant_bool ⟨.bl b,H,I,rfl,h⟩
theorem xq {j pos}:PE X (.Constant .none j pos) (tC .non):=fun _ _ _ H _ I h=>GQ ⟨.non,H,I,rfl,h⟩
def Gl (X:Cx) (x:Str):Prop:=X.env.kindOf x=some .globalImplicit
theorem vL {E:Value→Ar→Prop}{pins:List (Addr×Obj)}{s:Ar}{σ:St}{H:Hp}{x:Str}{u:Value}{pos:Pos}{Q:Value→Ar→Prop} (I:Inv X pins σ H s) (hg:Gl X x) (hm:X.mg x=some u) (h:Q u s)
  (hd:(x==("__debug__":Str))=false:=by decide):wpAny (model X.prog X.w) X.A (eval (.Name x pos) X.env) Q E s:=
 EW I.ok.kind hg (Calls.loadGlobal_global (by rw[I.ok.glob];exact I.mod.glob.keeps I.bk) hm h) hd
theorem dk {E:Value→Ar→Prop}{pins:List (Addr×Obj)}{s:Ar}{σ:St}{H:Hp}{x:Str}{u:Value}{pos:Pos}{Q:Value→Ar→Prop} (I:Inv X pins σ H s) (hg:Gl X x) (hm:X.mg x=none) (hv:Cg x=some u) (h:Q u s)
  (hn:x≠"__name__":=by decide) (hd:(x==("__debug__":Str))=false:=by decide):wpAny (model X.prog X.w) X.A (eval (.Name x pos) X.env) Q E s:=by
 obtain ⟨mb,h1,h2⟩:=I.mod.blt
 exact EW I.ok.kind hg (Calls.loadGlobal_builtin (by rw[I.ok.glob];exact I.mod.glob.keeps I.bk) hm (by rw[I.ok.blt];exact h1.keeps I.bk) ((h2 x hn).trans hv) h) hd
theorem vq {x:Str}{v:V}{u:Value}{pos:Pos} (hg:Gl X x) (hm:X.mg x=none) (hv:Cg x=some u) (r:aY v u) (hn:x≠"__name__":=by decide) (hd:(x==("__debug__":Str))=false:=by decide):PE X (.Name x pos) (tC v):=
 fun _ _ _ H _ I h=>dk I hg hm hv ⟨v,H,I,r,h⟩ hn hd
variable {a b:Expr}{ta tb:TE}{pos:Pos}
def PC (X:Cx) (op:CmpOp) (a b:Expr) (t:TE):Prop:=
 ∀(pins:List (Addr×Obj)) (s:Ar) (σ:St) (H:Hp) (Q:VK),Inv X pins σ H s→t σ H Q→
  wpAny (model X.prog X.w) X.A (eval a X.env) (fun v s₁=>wpAny (model X.prog X.w) X.A (eval b X.env) (fun u s₂=>wpAny (model X.prog X.w) X.A (BZ op v u) (EP X pins σ Q) X.xe s₂) X.xe s₁) X.xe s
theorem mq (b:Expr) {op:CmpOp} (h:op≠.In) (h2:op≠.NotIn):CC op b=false:=by
 have e1:(op==CmpOp.In)=false:=by cases op <;>first |rfl |exact absurd rfl h
 have e2:(op==CmpOp.NotIn)=false:=by cases op <;>first |rfl |exact absurd rfl h2
 cases b <;>simp[CC,e1,e2]
def z7 (ta:TE):TE:=fun σ H Q=>ta σ H fun x H1=>Q (.bl (decide (x=.non))) H1
def yg (ta:TE):TE:=fun σ H Q=>ta σ H fun x H1=>Q (.bl (!decide (x=.non))) H1
theorem aY.none_iff {x:V}{v:Value} (r:aY x v):(v==AY)=decide (x=.non):=by
 cases x with
 |non=>cases r;rfl
 |bl _=>cases r;rfl
 |int _=>obtain ⟨t,rfl⟩:=r;rfl
 |str _=>obtain ⟨t,rfl⟩:=r;rfl
 |byt _=>obtain ⟨t,rfl⟩:=r;rfl
 |flt _=>obtain ⟨t,rfl⟩:=r;rfl
 |ref _=>cases r;rfl
 |ty _=>cases r;rfl
theorem wT {j pos'} (ha:PE X a ta):PC X .Is a (.Constant .none j pos') (z7 ta):=by
 intro pins s σ H Q I h
 refine thn (ha pins s σ H _ I h) fun v s1 ⟨x,H1,I1,r1,q1⟩=>?_
 exact GQ (is_none_gen ⟨.bl _,H1,I1,by rw[r1.none_iff];rfl,q1⟩)
theorem vJ {j pos'} (ha:PE X a ta):PC X .IsNot a (.Constant .none j pos') (yg ta):=by
 intro pins s σ H Q I h
 refine thn (ha pins s σ H _ I h) fun v s1 ⟨x,H1,I1,r1,q1⟩=>?_
 exact GQ (isnot_none_gen ⟨.bl _,H1,I1,by rw[r1.none_iff];rfl,q1⟩)
def tB (t:TE):TT:=fun σ H Q=>t σ H fun x H1=>∃c,x=.bl c∧Q c H1
theorem xF {op:CmpOp}{t:TE} (h:PC X op a b t) (h1:CC op b=false:=by first |exact mq _ (by decide) (by decide) |rfl):PE X (.Compare a [op] [b] pos) t:=fun pins s σ H Q I hw=>Ir (h pins s σ H Q I hw) h1
theorem x9 {op:CmpOp}{t:TE} (h:PC X op a b t) (h1:CC op b=false:=by first |exact mq _ (by decide) (by decide) |rfl):PT X (.Compare a [op] [b] pos) (tB t):=by
 intro pins s σ H Q I hw
 refine FY (thn (h pins s σ H _ I hw) fun v s1 h1=>thn h1 fun u s2 h2=>thn h2 fun c s3 ⟨x,H1,I1,r1,q1⟩=>?_) h1
 obtain ⟨d,rfl,q⟩:=q1
 cases r1
 exact CJ ⟨H1,I1,q⟩
theorem w8 {e:Expr}{t:TE} (h:PE X e t) (he:∀whole,isTrue e X.env whole=(do let v ←whole;standAt e.pos;holding [v] (truthy v)):=by intro _;rfl):PT X e (tB t):=by
 intro pins s σ H Q I hw
 refine isTrue_plain (thn (h pins s σ H _ I hw) fun v s1 ⟨x,H1,I1,r1,q1⟩=>?_) (he _)
 obtain ⟨d,rfl,q⟩:=q1
 cases r1
 exact CJ ⟨H1,I1,q⟩
variable {tA tB':TT}{rest:List Expr}
def zj (t u:TT):TT:=fun σ H Q=>t σ H fun c H1=>if c=true then u σ H1 Q else Q false H1
def tOr (t u:TT):TT:=fun σ H Q=>t σ H fun c H1=>if c=true then Q true H1 else u σ H1 Q
def Ai (t:TT):TT:=fun σ H Q=>t σ H fun c H1=>Q (!c) H1
theorem uI (ha:PT X a tA):PW X (.BoolOp .And [a] pos) tA:=by
 intro wh pins s σ H Q I h
 refine isTrue_and (thn (ha pins s σ H Q I h) fun c s1 e=>?_)
 cases c with
 |true=>exact isTrue_and_nil e
 |false=>exact e
theorem xA (ha:PT X a tA):PW X (.BoolOp .Or [a] pos) tA:=by
 intro wh pins s σ H Q I h
 refine isTrue_or (thn (ha pins s σ H Q I h) fun c s1 e=>?_)
 cases c with
 |false=>exact isTrue_or_nil e
 |true=>exact e
theorem tT (ha:PT X a tA) (hb:PW X (.BoolOp .And (b::rest) pos) tB'):PW X (.BoolOp .And (a::b::rest) pos) (zj tA tB'):=by
 intro wh pins s σ H Q I h
 refine isTrue_and (thn (ha pins s σ H _ I h) fun c s1 ⟨H1,I1,q1⟩=>?_)
 cases c with
 |true=>exact hb wh pins s1 σ H1 Q I1 q1
 |false=>exact ⟨H1,I1,q1⟩
theorem wm (ha:PT X a tA) (hb:PW X (.BoolOp .Or (b::rest) pos) tB'):PW X (.BoolOp .Or (a::b::rest) pos) (tOr tA tB'):=by
 intro wh pins s σ H Q I h
 refine isTrue_or (thn (ha pins s σ H _ I h) fun c s1 ⟨H1,I1,q1⟩=>?_)
 cases c with
 |true=>exact ⟨H1,I1,q1⟩
 |false=>exact hb wh pins s1 σ H1 Q I1 q1
theorem wU (ha:PT X a tA):PT X (.UnaryOp .Not a pos) (Ai tA):=by
 intro pins s σ H Q I h
 exact isTrue_not (ha pins s σ H (fun c H1=>Q (!c) H1) I h)
def y_ (ta tb:TE):TE:=fun σ H Q=>ta σ H fun x H1=>∃c,x=.bl c∧if c=true then tb σ H1 Q else Q (.bl false) H1
def y8 (ta:TE):TE:=fun σ H Q=>ta σ H fun x H1=>∃c,x=.bl c∧Q (.bl (!c)) H1
theorem w4 {op}{t:TE} (h:PE X a t):PE X (.BoolOp op [a] pos) t:=fun pins s σ H Q I hw=>BoolOp_one (h pins s σ H Q I hw)
theorem tZ (ha:PE X a ta) (hb:PE X (.BoolOp .And (b::rest) pos) tb):PE X (.BoolOp .And (a::b::rest) pos) (y_ ta tb):=by
 intro pins s σ H Q I h
 refine BoolOp_and (thn (ha pins s σ H _ I h) fun v s1 ⟨x,H1,I1,r1,q1⟩=>?_)
 obtain ⟨c,rfl,q1⟩:=q1
 cases r1
 refine CJ ?_
 cases c with
 |true=>exact hb pins s1 σ H1 Q I1 q1
 |false=>exact ⟨.bl false,H1,I1,rfl,q1⟩
theorem xY (ha:PE X a ta):PE X (.UnaryOp .Not a pos) (y8 ta):=by
 intro pins s σ H Q I h
 refine UnaryOp_ (thn (ha pins s σ H _ I h) fun v s1 ⟨x,H1,I1,r1,q1⟩=>?_)
 obtain ⟨c,rfl,q1⟩:=q1
 cases r1
 exact not_of (CJ ⟨.bl (!c),H1,I1,rfl,q1⟩)
end
def SqL (K:Ao) (H:Hp) (a:Addr) (xs:List V):Prop:=
 Rd H a (.lst xs)∨
  ∃(o:Obj) (its:Array Value) (n:Nat),K.lookup a=some o∧o.cls=.type "list"∧o.dict=none∧o.data=.seq its n∧its.size≤sizeLine∧aV xs its.toList
def SqT (K:Ao) (H:Hp) (a:Addr) (xs:List V):Prop:=
 Rd H a (.tup xs)∨
  ∃(o:Obj) (its:Array Value) (n:Nat),K.lookup a=some o∧o.cls=.type "tuple"∧o.data=.seq its n∧its.size≤sizeLine∧aV xs its.toList
def zT:Value→Option V
 | .none=>some .non
 | .bool b=>some (.bl b)
 | .int i _=>some (.int i)
 | .str x _=>some (.str x)
 | .bytes b _=>some (.byt b)
 | .float b _=>some (.flt b)
 | .ref a=>some (.ref a)
 | .type n=>some (.ty n)
 |_=>none
theorem aY.abs {x:V}{u:Value} (r:aY x u):zT u=some x:=by
 cases x with
 |non=>cases r;rfl
 |bl _=>cases r;rfl
 |int _=>obtain ⟨t,rfl⟩:=r;rfl
 |str _=>obtain ⟨t,rfl⟩:=r;rfl
 |byt _=>obtain ⟨t,rfl⟩:=r;rfl
 |flt _=>obtain ⟨t,rfl⟩:=r;rfl
 |ref _=>cases r;rfl
 |ty _=>cases r;rfl
theorem aY.inj {x y:V}{u:Value} (r:aY x u) (q:aY y u):x=y:=Bo (r.abs.symm.trans q.abs)
theorem aV.inj:∀{xs ys:List V}{us:List Value},aV xs us→aV ys us→xs=ys
 |_,_,_,.nil,.nil=>rfl
 |_,_,_,.cons r t,.cons r' t'=>by rw[r.inj r',aV.inj t t']
section
variable {X:Cx}{pins:List (Addr×Obj)}{σ:St}{H:Hp}{s:Ar}{a:Addr}{xs ys:List V}
theorem SqL.of {K:Ao} (h:H a=some (.lst xs)):SqL K H a xs:=.inl (.inl h)
theorem SqT.of {K:Ao} (h:H a=some (.tup xs)):SqT K H a xs:=.inl (.inl h)
theorem Inv.list (I:Inv X pins σ H s) (h:SqL X.K H a xs):∃its:List Value,aV xs its∧PlainL s.heap a its.toArray∧xs.length≤sizeLine:=by
 rcases h with h |⟨o,its,n,hk,hc,hd,hs,hz,r⟩
 ·obtain ⟨z,its,n,r,e⟩:=h.ok I.hok
  exact ⟨its,r,⟨_,n,e,rfl,rfl,rfl⟩,z⟩
 ·refine ⟨its.toList,r,⟨o,n,I.kIn a o hk,hc,hd,by simpa using hs⟩,?_⟩
  have e:=r.length
  simp only[AR] at e
  omega
theorem Inv.tuple (I:Inv X pins σ H s) (h:SqT X.K H a xs):∃its:List Value,aV xs its∧IsTup s.heap a its.toArray∧xs.length≤sizeLine:=by
 rcases h with h |⟨o,its,n,hk,hc,hs,hz,r⟩
 ·obtain ⟨z,its,r,p⟩:=h.ok I.hok
  exact ⟨its,r,p,z⟩
 ·refine ⟨its.toList,r,⟨o,I.kIn a o hk,hc,n,by simpa using hs⟩,?_⟩
  have e:=r.length
  simp only[AR] at e
  omega
theorem Inv.list_inj (I:Inv X pins σ H s) (h:SqL X.K H a xs) (h':SqL X.K H a ys):xs=ys:=by
 obtain ⟨its,r,⟨o,n,e,_,_,d⟩,_⟩:=I.list h
 obtain ⟨its',r',⟨o',n',e',_,_,d'⟩,_⟩:=I.list h'
 rw[e] at e';cases e'
 rw[d] at d'
 injection d' with d1 _
 have:its=its':=by simpa using congrArg Ju d1
 subst this
 exact r.inj r'
theorem Inv.tuple_inj (I:Inv X pins σ H s) (h:SqT X.K H a xs) (h':SqT X.K H a ys):xs=ys:=by
 obtain ⟨its,r,⟨o,e,_,n,d⟩,_⟩:=I.tuple h
 obtain ⟨its',r',⟨o',e',_,n',d'⟩,_⟩:=I.tuple h'
 rw[e] at e';cases e'
 rw[d] at d'
 injection d' with d1 _
 have:its=its':=by simpa using congrArg Ju d1
 subst this
 exact r.inj r'
end
abbrev Cx.wish (X:Cx) (E:Value→Ar→Prop):Cx:={X with xe:=E }
abbrev Cx.nox (X:Cx):Cx:=X.wish fun _ _=>False
theorem Cx.Ok.wish {X:Cx} (ok:X.Ok) (E:Value→Ar→Prop):(X.wish E).Ok:=
 ⟨ok.mod,ok.kind,ok.glob,ok.blt,ok.above,ok.inj,ok.has,ok.cab,ok.hd,ok.frames,ok.stk,ok.exf,ok.bs,ok.bsz,ok.noex,ok.exfs,ok.funs,ok.frf⟩
theorem Cx.Ok.unwish {X:Cx}{E:Value→Ar→Prop} (ok:(X.wish E).Ok):X.Ok:=
 ⟨ok.mod,ok.kind,ok.glob,ok.blt,ok.above,ok.inj,ok.has,ok.cab,ok.hd,ok.frames,ok.stk,ok.exf,ok.bs,ok.bsz,ok.noex,ok.exfs,ok.funs,ok.frf⟩
section
variable {X:Cx}{pins:List (Addr×Obj)}{σ:St}{H:Hp}{s:Ar}{E:Value→Ar→Prop}
theorem Inv.wish (I:Inv X pins σ H s) (E:Value→Ar→Prop):Inv (X.wish E) pins σ H s:=⟨I.ok.wish E,I.os,I.bare,I.base,I.loc,I.cell,I.free,I.freeC,I.pin,I.hok,I.len⟩
theorem Inv.unwish (I:Inv (X.wish E) pins σ H s):Inv X pins σ H s:=⟨I.ok.unwish,I.os,I.bare,I.base,I.loc,I.cell,I.free,I.freeC,I.pin,I.hok,I.len⟩
theorem SP.unwish {D:k_}{f:Flow}{s':Ar} (h:SP (X.wish E) pins D f s'):SP X pins D f s':=by
 cases f with
 |next=>obtain ⟨σ',H',I,q⟩:=h;exact ⟨σ',H',I.unwish,q⟩
 |brk=>obtain ⟨σ',H',I,q⟩:=h;exact ⟨σ',H',I.unwish,q⟩
 |cont=>obtain ⟨σ',H',I,q⟩:=h;exact ⟨σ',H',I.unwish,q⟩
 |ret u=>obtain ⟨v,σ',H',I,r,q⟩:=h;exact ⟨v,σ',H',I.unwish,r,q⟩
theorem PSs.nox {st:List Stmt}{t:TS} (h:PSs X.nox st t):PSs X st t:=fun pins s σ H D I hw=>
 Cv (h pins s σ H D (I.wish _) hw) (fun _ _ q=>q.unwish) fun _ _ z=>False.elim z
end
section
variable {X:Cx}{st:Stmt}{rest:List Stmt}{t u:TS}{e:Expr}{te:TE}{pos:Pos}
def yw:TS:=fun D σ H=>D.nx σ H
def zN (t u:TS):TS:=fun D σ H=>t {D with nx:=u D } σ H
theorem vN:PSs X [] yw:=fun _ _ σ H _ I h=>FZ ⟨σ,H,I,h⟩
theorem sL (h1:PS X st t) (h2:PSs X rest u):PSs X (st::rest) (zN t u):=by
 intro pins s σ H D I h
 refine wpAny_execs_cons (thn (h1 pins s σ H {D with nx:=u D } I h) fun f s1 q=>?_)
 cases f with
 |next=>
  obtain ⟨σ',H',I',q⟩:=q
  exact h2 pins s1 σ' H' D I' q
 |ret v=>exact q
 |brk=>exact q
 |cont=>exact q
theorem Inv.quiet {pins:List (Addr×Obj)}{σ:St}{H:Hp}{s:Ar} (I:Inv X pins σ H s):interactive X.env=false:=by simp[interactive,I.ok.kind]
def yJ (te:TE):TS:=fun D σ H=>te σ H fun _ H1=>D.nx σ H1
theorem kF (he:PE X e te) (hs:Fh e none pos.line X.env=pure false:=by rfl):PS X (.Expr e pos) (yJ te):=by
 intro pins s σ H D I h
 exact wpAny_Expr_any (thn (he pins s σ H _ I h) fun v s1 ⟨x,H1,I1,r1,q1⟩=>⟨σ,H1,I1,q1⟩) I.quiet hs
def zZ (te:TE):TS:=fun D σ H=>te σ H D.rt
theorem oB (he:PE X e te):PS X (.Return (some e) pos) (zZ te):=by
 intro pins s σ H D I h
 exact wpAny_Return_some (thn (he pins s σ H _ I h) fun v s1 ⟨x,H1,I1,r1,q1⟩=>⟨x,σ,H1,I1,r1,q1⟩)
def zJ (c:TT) (t u:TS):TS:=fun D σ H=>c σ H fun b H1=>if b=true then t D σ H1 else u D σ H1
theorem wg {c:Expr}{a b:List Stmt}{tc:TT} (hc:PT X c tc) (ha:PSs X a t) (hb:PSs X b u):PS X (.If c a b pos) (zJ tc t u):=by
 intro pins s σ H D I h
 refine wpAny_If (thn (hc pins s σ H _ I h) fun d s1 ⟨H1,I1,q1⟩=>?_)
 cases d with
 |true=>exact ha pins s1 σ H1 D I1 q1
 |false=>exact hb pins s1 σ H1 D I1 q1
end
abbrev TG:=V→St→Hp→(St→Hp→Prop)→Prop
abbrev TGs:=List V→St→Hp→(St→Hp→Prop)→Prop
def PG (X:Cx) (target:Expr) (t:TG):Prop:=
 ∀(pins:List (Addr×Obj)) (s:Ar) (σ:St) (H:Hp) (v:V) (u:Value) (Q:St→Hp→Prop),Inv X pins σ H s→aY v u→t v σ H Q→
  wpAny (model X.prog X.w) X.A (assign target X.env u) (fun _ s'=>∃σ' H',Inv X pins σ' H' s'∧Q σ' H') X.xe s
def PGs (X:Cx) (ts:List Expr) (t:TGs):Prop:=
 ∀(pins:List (Addr×Obj)) (s:Ar) (σ:St) (H:Hp) (vs:List V) (us:List Value) (Q:St→Hp→Prop),Inv X pins σ H s→aV vs us→t vs σ H Q→
  wpAny (model X.prog X.w) X.A (GR ((CT ts X.env).map (·.2)) us) (fun _ s'=>∃σ' H',Inv X pins σ' H' s'∧Q σ' H') X.xe s
section
variable {X:Cx}{pos:Pos}
def oE (i:Nat):TG:=fun v σ H Q=>Q (σ.set i (some v)) H
theorem bF {i:Nat}{x:Str} (hN:X.N.Nodup) (hi:X.N[i]?=some x) (hx:Loc X.env.scope x) (hf:X.fn x=true∨X.env.scope.names.lookup x=some .local:=by first |exact .inl rfl |exact .inr rfl |assumption):PG X (.Name x pos) (oE i):=by
 intro pins s σ H v u Q I r h
 exact wpAny_assign_Name (gX I hN hi hx r (fun s' I'=>⟨_,H,I',h⟩) hf)
def yW:TGs:=fun vs σ H Q=>vs=[]∧Q σ H
def v_ (t:TG) (u:TGs):TGs:=fun vs σ H Q=>∃v r,vs=v::r∧t v σ H fun σ' H'=>u r σ' H' Q
theorem iU:PGs X [] yW:=by
 intro pins s σ H vs us Q I r h
 obtain ⟨e,h⟩:=h
 subst e
 cases r
 exact G_ ⟨σ,H,I,h⟩
theorem ci {e:Expr}{es:List Expr}{t:TG}{u:TGs} (h1:PG X e t) (h2:PGs X es u)
  (hs:(CT (e::es) X.env).map (·.2)=assign e X.env::(CT es X.env).map (·.2):=by rfl):PGs X (e::es) (v_ t u):=by
 intro pins s σ H vs us Q I r h
 obtain ⟨v,vr,e1,h⟩:=h
 subst e1
 cases r with
 |cons r rr=>
  rw[hs]
  refine EZ (thn (h1 pins s σ H _ _ _ I r h) fun _ s1 ⟨σ1,H1,I1,q1⟩=>?_)
  exact h2 pins s1 σ1 H1 _ _ Q I1 rr q1
def Ag (K:Ao) (n:Nat) (t:TGs):TG:=fun v σ H Q=>∃a xs,v=.ref a∧SqT K H a xs∧xs.length=n∧t xs σ H Q
theorem xy {es:List Expr}{k:Nat}{t:TGs}{n:Nat} (hc:X.calm=true) (h:PGs X es t)
  (hn:(CT es X.env).length=n:=by rfl) (hst:(CT es X.env).findIdx? (·.1)=none:=by rfl):PG X (.Tuple es k pos) (Ag X.K n t):=by
 intro pins s σ H v u Q I r hw
 obtain ⟨a,xs,e1,hq,hl,hw⟩:=hw
 subst e1
 cases r
 obtain ⟨its,rv,ht,hz⟩:=I.tuple hq
 refine assign_Tuple_tuple (I.ok.hd hc) ht (by simp[hn,←hl,rv.length]) hst fun h' hx=>?_
 have I1:Inv X pins σ H {s with heap:=h' }:=I.kept (t':=s.toks) fun b o e=>hx b o (AZ (AB e)) e
 exact h pins _ σ H xs _ Q I1 (by simpa using rv) hw
def yY (te:TE) (g:TG):TS:=fun D σ H=>te σ H fun x H1=>g x σ H1 D.nx
theorem wV {tg e:Expr}{te:TE}{g:TG} (he:PE X e te) (hg:PG X tg g) (hs:Fv [tg] e pos.line X.env=pure false:=by rfl) (hw:Fw [tg] e X.env=pure none:=by rfl)
  (h1:(CT [tg] X.env).map (·.2)=[assign tg X.env]:=by rfl):PS X (.Assign [tg] e pos) (yY te g):=by
 intro pins s σ H D I h
 refine wpAny_Assign_stores (thn (he pins s σ H _ I h) fun v s1 ⟨x,H1,I1,r1,q1⟩=>?_) hs hw
 rw[h1]
 exact thn (hg pins s1 σ H1 x v _ I1 r1 q1) fun _ s2 q=>q
theorem sX {i:Nat}{x:Str}{e:Expr}{te:TE}{pos':Pos} (hN:X.N.Nodup) (hi:X.N[i]?=some x) (hx:Loc X.env.scope x) (he:PE X e te) (hs:Fh e (some (.Name x pos')) pos.line X.env=pure false:=by rfl) (hf:X.fn x=true∨X.env.scope.names.lookup x=some .local:=by first |exact .inl rfl |exact .inr rfl |assumption):
  PS X (.Assign [.Name x pos'] e pos) (yY te (oE i)):=by
 intro pins s σ H D I h
 refine wpAny_Assign_Name (thn (he pins s σ H _ I h) fun v s1 ⟨y,H1,I1,r1,q1⟩=>?_) hs
 exact gX I1 hN hi hx r1 (fun s2 I2=>⟨_,H1,I2,q1⟩) hf
def zY (i j:Nat) (ta:TA):TS:=fun D σ H=>ta σ H fun vs H1=>∃v w,vs=[v,w]∧D.nx ((σ.set i (some v)).set j (some w)) H1
theorem wR {i j:Nat}{x y:Str}{a b:Expr}{ta:TA}{px py pt:Pos}{kt k2 pt2} (hc:X.calm=true) (hN:X.N.Nodup) (hi:X.N[i]?=some x) (hj:X.N[j]?=some y) (hij:i≠j)
  (hx:X.env.scope.names.lookup x=some .local) (hy:X.env.scope.names.lookup y=some .local) (ha:PA X [a,b] ta)
  (hw:Fw [.Tuple [.Name x px,.Name y py] kt pt] (.Tuple [a,b] k2 pt2) X.env=pure (some [x,y]))
  (hs:Fv [.Tuple [.Name x px,.Name y py] kt pt] (.Tuple [a,b] k2 pt2) pos.line X.env=pure false:=by rfl):
  PS X (.Assign [.Tuple [.Name x px,.Name y py] kt pt] (.Tuple [a,b] k2 pt2) pos) (zY i j ta):=by
 intro pins s σ H D I h
 rw[exec_Assign_arm]
 refine An (Fx ?_)
 rw[hs]
 refine An (As ?_)
 rw[if_neg (by decide)]
 refine An (Tuple_ (thn (ha _ pins s σ H _ I h) fun us s1 ⟨vs,H1,I1,r1,q1⟩=>?_))
 obtain ⟨v,w,e1,q1⟩:=q1
 subst e1
 obtain ⟨u1,u2,rfl,rv,rw'⟩:∃u1 u2,us=[u1,u2]∧aY v u1∧aY w u2:=by
  cases r1 with
  |cons p q=>
   cases q with
   |cons p' q'=>
    cases q'
    exact ⟨_,_,rfl,p,p'⟩
 refine C8 ?_ (by show 2≤sizeLine;decide)
 have I2:Inv X pins σ H1 {s1 with heap:=s1.heap.push {cls:=.type "tuple",data:=.seq [u1,u2].toArray } }:=I1.kept (t':=s1.toks) fun b o e=>Ap _ e
 rw[hw]
 refine An (As ?_)
 show wpAny (model X.prog X.w) X.A (do rule "assign.swapped-stores";let items ←HK (.ref s1.heap.objs.size) 2 none;GR [fun v=>Ji X.env y v,fun v=>Ji X.env x v] items.reverse;pure Flow.next) _ _ _
 refine An (Fi (An (unpackItems_tuple (items:=#[u1,u2]) (I.ok.hd hc) (IsTup.new s1.heap _) fun h' hx'=>?_)))
 have I3:=I2.kept (h':=h') (t':=s1.toks) fun b o e=>hx' b o (AZ (AB e)) e
 show wpAny _ _ (GR [fun v=>Ji X.env y v,fun v=>Ji X.env x v] [u2,u1] >>=fun _=>pure Flow.next) _ _ _
 refine An (EZ (Iu (gX I3 hN hj (.inl hy) rw' (fun s2 I4=>?_) (.inr hy))))
 refine EZ (Iu (gX I4 hN hi (.inl hx) rv (fun s3 I5=>G_ (As ?_)) (.inr hx)))
 rw[List.set_comm _ _ (Ne.symm hij)] at I5
 exact ⟨_,H1,I5,q1⟩
end
section
variable {X:Cx}{pos:Pos}
def x4 (c:TT) (tb:TS):TS:=fun D σ H=>∃W:Nat→St→Hp→Prop,(∃m,W m σ H)∧∀m σ H,W m σ H→
 c σ H fun b H1=>if b=true then ∃N:St→Hp→Prop,(∀σ' H',N σ' H'→∃m',m' < m∧W m' σ' H')∧tb {D with nx:=N,ct:=N,bk:=D.nx } σ H1 else D.nx σ H1
theorem tK {c:Expr}{body:List Stmt}{tc:TT}{tb:TS} (hp:EK (model X.prog X.w) X.A X.env X.xe) (hc:PT X c tc) (hb:PSs X body tb):PS X (.While c body [] pos) (x4 tc tb):=by
 intro pins s σ H D I h
 obtain ⟨W,⟨m0,w0⟩,turn⟩:=h
 refine wpAny_While (codeAny_whileLoop (fun n s'=>∃σ' H',Inv X pins σ' H' s'∧W n σ' H') ?_ m0 ⟨σ,H,I,w0⟩)
 rintro n s1 ⟨σ1,H1,I1,w1⟩
 refine C9 hp (thn (hc pins s1 σ1 H1 _ I1 (turn n σ1 H1 w1)) fun b s2 ⟨H2,I2,q2⟩=>?_)
 cases b with
 |true=>
  obtain ⟨N,hN,q2⟩:=q2
  rw[if_pos rfl]
  refine C9 hp (thn (hb pins s2 σ1 H2 _ I2 q2) fun f s3 q3=>?_)
  cases f with
  |next=>
   obtain ⟨σ3,H3,I3,n3⟩:=q3
   obtain ⟨m',hm,w3⟩:=hN σ3 H3 n3
   exact ⟨m',hm,σ3,H3,I3,w3⟩
  |cont=>
   obtain ⟨σ3,H3,I3,n3⟩:=q3
   obtain ⟨m',hm,w3⟩:=hN σ3 H3 n3
   exact ⟨m',hm,σ3,H3,I3,w3⟩
  |brk=>exact q3
  |ret v=>exact q3
 |false=>
  rw[if_neg AX]
  exact FZ ⟨σ1,H2,I2,q2⟩
end
structure It where
 go:Nat→Hp→Prop
 yld:Nat→Hp→V→Hp→Prop
 stop:Nat→Hp→Prop
def dW (X:Cx) (pins:List (Addr×Obj)) (H:Hp) (b:Addr):Prop:=
 H b=none∧b≠X.env.locals∧b ∉ X.fs∧(b∈X.ex∨X.s₀.heap.objs.size≤b)∧(∀x c,X.env.cells.lookup x=some c→c≠b)∧∀p∈X.pn++pins,p.1≠b
theorem Inv.fpOk {X:Cx}{pins:List (Addr×Obj)}{σ:St}{H H':Hp}{s:Ar}{b:Addr} (I:Inv X pins σ H s) (hb:s.heap.objs.size≤b) (hn:H' b=none):dW X pins H' b:=by
 refine ⟨hn,Cs (A3 I.lt hb),I.nofs hb,.inr (B9 I.sz hb),fun x c e z=>?_,fun p hp z=>?_⟩
 ·obtain ⟨v,q⟩:=I.cell x c e
  exact absurd (A3 q.lt (by rw[z];exact hb)) (Bv _)
 ·exact absurd (A3 (AB (I.pin p hp).1) (by rw[z];exact hb)) (Bv _)
structure sZ (P:AC) (w:World) (K:Ao) (tg:Expr) (J:It) (fp:List Addr) (it:Addr) (tn:Nat→Heap→Prop):Prop where
 mem:it∈fp
 obj:∀i h,tn i h→∀b∈fp,∃o,h.get? b=some o∧∀v,o.data≠.cell v
 keep:∀i h h',tn i h→(∀b∈fp,∀o,h.get? b=some o→h'.get? b=some o)→tn i h'
 item:∀(X:Cx),X.prog=P→X.w=w→X.K=K→X.calm=true→∀(i:Nat) (pins:List (Addr×Obj)) (s:Ar) (σ:St) (H:Hp) (E:Value→Ar→Prop),Inv X pins σ H s→(∀b∈fp,dW X pins H b)→tn i s.heap→J.go i H→
  wpAny (model P w) X.A (EM (.ref it)) (fun r s1=>∃u,r=some u∧
   wpAny (model P w) X.A (F_ tg (.ref it) u) (fun _ s2=>∃x H',Inv X pins σ H' s2∧aY x u∧J.yld i H x H'∧tn (i+1) s2.heap∧∀b∈fp,H' b=none) E s1) E s
 done:∀(X:Cx),X.prog=P→X.w=w→X.K=K→X.calm=true→∀(i:Nat) (pins:List (Addr×Obj)) (s:Ar) (σ:St) (H:Hp) (E:Value→Ar→Prop),Inv X pins σ H s→(∀b∈fp,dW X pins H b)→tn i s.heap→J.stop i H→
  wpAny (model P w) X.A (EM (.ref it)) (fun r s1=>r=none∧Inv X pins σ H s1) E s
 self:∀(A:A4) (i:Nat) (s:Ar) (Q:Value→Ar→Prop) (E:Value→Ar→Prop),tn i s.heap→Q (.ref it) s→wpAny (model P w) A (Jv (.ref it)) Q E s
abbrev TI:=St→Hp→(It→Hp→Prop)→Prop
def PIE (X:Cx) (pins:List (Addr×Obj)) (σ:St) (tg:Expr) (R:It→Hp→Prop) (itv:Value) (s2:Ar):Prop:=
 ∃(it:Addr) (fp:List Addr) (tn:Nat→Heap→Prop) (J:It) (H':Hp),itv=.ref it∧Inv X pins σ H' s2∧sZ X.prog X.w X.K tg J fp it tn∧tn 0 s2.heap∧(∀b∈fp,dW X pins H' b)∧R J H'
def PI (X:Cx) (tg iter:Expr) (wi:TI):Prop:=
 ∀(pins:List (Addr×Obj)) (s:Ar) (σ:St) (H:Hp) (R:It→Hp→Prop),Inv X pins σ H s→wi σ H R→
  wpAny (model X.prog X.w) X.A (eval iter X.env) (fun v s1=>wpAny (model X.prog X.w) X.A (Jv v) (PIE X pins σ tg R) X.xe s1) X.xe s
theorem tp {M:Model}{A:A4}{E:Value→Ar→Prop}{s:Ar}{tg:Expr}{it:Addr}{u:Value}{o:Obj}{n:String}{vs:Array Value}{Q:Unit→Ar→Prop} (ho:s.heap.get? it=some o) (hc:o.cls=.type n) (hd:o.data=.fields vs)
  (hn:["enumerate","zip","dict_itemiterator","dict_reverseitemiterator","odict_iterator","itertools.zip_longest","itertools.pairwise"].contains n=false) (hQ:Q () s):wpAny M A (F_ tg (.ref it) u) Q E s:=by
 unfold F_
 cases tg <;>first
  |exact As hQ
  | (cases u <;>first
    |exact As hQ
    | (refine An (wpAny_load ho ?_)
       rw[hc,hd]
       show wpAny M A (if (["enumerate","zip","dict_itemiterator","dict_reverseitemiterator","odict_iterator","itertools.zip_longest","itertools.pairwise"].contains n && vs[0]?==some (Ds _))=true then _ else _) Q E s
       rw[if_neg (by intro h;rw[hn,Bool.false_and] at h;cases h)]
       exact As hQ))
def Itl (K:Ao) (a:Addr):It:=
 ⟨fun i H=>∃xs x,SqL K H a xs∧xs[i]?=some x,fun i H x H'=>H'=H∧∀xs,SqL K H a xs→xs[i]?=some x,fun i H=>∃xs,SqL K H a xs∧xs.length≤i⟩
def Itt (K:Ao) (a:Addr):It:=
 ⟨fun i H=>∃xs x,SqT K H a xs∧xs[i]?=some x,fun i H x H'=>H'=H∧∀xs,SqT K H a xs→xs[i]?=some x,fun i H=>∃xs,SqT K H a xs∧xs.length≤i⟩
def Itr (lo:Int) (n:Nat):It:=⟨fun i _=>i < n,fun i H x H'=>H'=H∧x=.int (lo+i),fun i _=>n≤i⟩
theorem qb {P:AC}{w:World}{K:Ao}{tg:Expr} (a it:Addr):sZ P w K tg (Itl K a) [it] it (fun i h=>h.IsListIter it a i) where
 mem:=by simp
 obj:=fun i h st b hb=>by
  have e:b=it:=by simpa using hb
  subst e
  obtain ⟨o,e,c,d⟩:=st
  exact ⟨o,e,fun v z=>by rw[d] at z;cases z⟩
 keep:=fun i h h' st k=>st.at fun o e=>k it (by simp) o e
 item:=by
  intro X hP hw hK hc i pins s σ H E I hf st hg
  subst hP hw hK
  obtain ⟨xs,x,hq,hx⟩:=hg
  obtain ⟨its,rv,p,hz⟩:=I.list hq
  obtain ⟨u,hu,ru⟩:=rv.get hx
  obtain ⟨f0,f1,f2,f3,f4,f5⟩:=hf it (by simp)
  refine Dp st p.isList (x:=u) (by simpa using hu) fun h' st' sb=>?_
  have I1:Inv X pins σ H {s with heap:=h' }:=I.turned (t':=s.toks) (fun b o hb e=>(sb.2 b hb).trans e) f0 f1 f3 f4 f5
  obtain ⟨o,e,c,d⟩:=id st'
  exact ⟨u,rfl,tp (s:={s with heap:=h' }) e c d (by decide) ⟨x,H,I1,ru,⟨rfl,fun ys hy=>by rw[I.list_inj hy hq];exact hx⟩,st',fun b hb=>(hf b hb).1⟩⟩
 done:=by
  intro X hP hw hK hc i pins s σ H E I hf st hg
  subst hP hw hK
  obtain ⟨xs,hq,hx⟩:=hg
  obtain ⟨its,rv,p,hz⟩:=I.list hq
  obtain ⟨f0,f1,f2,f3,f4,f5⟩:=hf it (by simp)
  have hl:=rv.length
  exact Ep (I.ok.hd hc) st p.isList (by simp;omega) fun h' eb=>⟨rfl,I.turned (t':=s.toks) (fun b o hb e=>eb b o hb e) f0 f1 f3 f4 f5⟩
 self:=fun _ _ _ _ _ st h=>wpAny_pyIter_listiter st h
theorem nM {P:AC}{w:World}{K:Ao}{tg:Expr} (a it:Addr):sZ P w K tg (Itt K a) [it] it (fun i h=>h.IsTupleIter it a i) where
 mem:=by simp
 obj:=fun i h st b hb=>by
  have e:b=it:=by simpa using hb
  subst e
  obtain ⟨o,e,c,d⟩:=st
  exact ⟨o,e,fun v z=>by rw[d] at z;cases z⟩
 keep:=fun i h h' st k=>st.at fun o e=>k it (by simp) o e
 item:=by
  intro X hP hw hK hc i pins s σ H E I hf st hg
  subst hP hw hK
  obtain ⟨xs,x,hq,hx⟩:=hg
  obtain ⟨its,rv,p,hz⟩:=I.tuple hq
  obtain ⟨u,hu,ru⟩:=rv.get hx
  obtain ⟨f0,f1,f2,f3,f4,f5⟩:=hf it (by simp)
  refine wpAny_pyNext_tuple_item st (show s.heap.IsTuple a its.toArray from p) (x:=u) (by simpa using hu) fun h' st' sb=>?_
  have I1:Inv X pins σ H {s with heap:=h' }:=I.turned (t':=s.toks) (fun b o hb e=>(sb.2 b hb).trans e) f0 f1 f3 f4 f5
  obtain ⟨o,e,c,d⟩:=id st'
  exact ⟨u,rfl,tp (s:={s with heap:=h' }) e c d (by decide) ⟨x,H,I1,ru,⟨rfl,fun ys hy=>by rw[I.tuple_inj hy hq];exact hx⟩,st',fun b hb=>(hf b hb).1⟩⟩
 done:=by
  intro X hP hw hK hc i pins s σ H E I hf st hg
  subst hP hw hK
  obtain ⟨xs,hq,hx⟩:=hg
  obtain ⟨its,rv,p,hz⟩:=I.tuple hq
  obtain ⟨f0,f1,f2,f3,f4,f5⟩:=hf it (by simp)
  have hl:=rv.length
  exact wpAny_pyNext_tuple_end (I.ok.hd hc) st (show s.heap.IsTuple a its.toArray from p) (by simp;omega) fun h' eb=>⟨rfl,I.turned (t':=s.toks) (fun b o hb e=>eb b o hb e) f0 f1 f3 f4 f5⟩
 self:=fun _ _ _ _ _ st h=>wpAny_pyIter_tupleiter st h
theorem oa {P:AC}{w:World}{K:Ao}{tg:Expr} (it:Addr) (lo:Int) (n:Nat):sZ P w K tg (Itr lo n) [it] it (fun i h=>IsRangeIter h it (lo+(i:Nat) *1) ((n:Int) - (i:Nat)) 1) where
 mem:=by simp
 obj:=fun i h st b hb=>by
  have e:b=it:=by simpa using hb
  subst e
  exact ⟨_,st,fun v z=>by
   have z':Data.fields _=Data.cell v:=z
   cases z'⟩
 keep:=fun i h h' st k=>k it (by simp) _ st
 item:=by
  intro X hP hw hK hc i pins s σ H E I hf st hg
  subst hP hw hK
  obtain ⟨f0,f1,f2,f3,f4,f5⟩:=hf it (by simp)
  have W:=Walks.range (prog:=X.prog) (w:=X.w) (I.ok.hd hc) it lo 1 n
  refine W.item i s _ _ hg st fun v h' tk hv st' kk=>?_
  obtain ⟨t,rfl⟩:=hv
  have I1:Inv X pins σ H {s with heap:=h',toks:=tk }:=I.turned (fun b o hb e=>kk b o (by simpa using hb) e) f0 f1 f3 f4 f5
  refine ⟨_,rfl,tp (s:={s with heap:=h',toks:=tk }) (n:="range_iterator") st' rfl rfl (by decide) ⟨.int (lo+i),H,I1,⟨t,?_⟩,⟨rfl,rfl⟩,st',fun b hb=>(hf b hb).1⟩⟩
  rw[Fy]
 done:=by
  intro X hP hw hK hc i pins s σ H E I hf st hg
  subst hP hw hK
  obtain ⟨f0,f1,f2,f3,f4,f5⟩:=hf it (by simp)
  exact wpAny_pyNext_range_end (I.ok.hd hc) st (by have:n≤i:=hg;omega) fun h' eb=>⟨rfl,I.turned (t':=s.toks) (fun b o hb e=>eb b o hb e) f0 f1 f3 f4 f5⟩
 self:=fun _ _ _ _ _ st h=>wpAny_pyIter_rangeiter st h
section
variable {X:Cx}{tg:Expr}
def yh (K:Ao) (tl:TE):TI:=fun σ H R=>tl σ H fun x H1=>∃a,x=.ref a∧(∃xs,SqL K H1 a xs)∧R (Itl K a) H1
def Ae (K:Ao) (tl:TE):TI:=fun σ H R=>tl σ H fun x H1=>∃a,x=.ref a∧(∃xs,SqT K H1 a xs)∧R (Itt K a) H1
theorem vx {l:Expr}{tl:TE} (hl:PE X l tl):PI X tg l (yh X.K tl):=by
 intro pins s σ H R I h
 refine thn (hl pins s σ H _ I h) fun v s1 ⟨x,H1,I1,r1,q1⟩=>?_
 obtain ⟨a,e,⟨xs,hq⟩,q⟩:=q1
 subst e
 cases r1
 obtain ⟨its,rv,p,hz⟩:=I1.list hq
 refine Cj p.isList ?_
 refine ⟨s1.heap.objs.size,[s1.heap.objs.size],_,_,H1,rfl,I1.kept (t':=s1.toks) fun b o e=>Ap _ e,qb a _,⟨_,AD _ rfl,rfl,rfl⟩,fun b hb=>?_,q⟩
 have e:b=s1.heap.objs.size:=by simpa using hb
 subst e
 exact I1.fpOk (Aw _) (I1.hok.fresh (Aw _))
theorem x6 {l:Expr}{tl:TE} (hl:PE X l tl):PI X tg l (Ae X.K tl):=by
 intro pins s σ H R I h
 refine thn (hl pins s σ H _ I h) fun v s1 ⟨x,H1,I1,r1,q1⟩=>?_
 obtain ⟨a,e,⟨xs,hq⟩,q⟩:=q1
 subst e
 cases r1
 obtain ⟨its,rv,p,hz⟩:=I1.tuple hq
 refine wpAny_pyIter_tuple (show s1.heap.IsTuple a its.toArray from p) ?_
 refine ⟨s1.heap.objs.size,[s1.heap.objs.size],_,_,H1,rfl,I1.kept (t':=s1.toks) fun b o e=>Ap _ e,nM a _,⟨_,AD _ rfl,rfl,rfl⟩,fun b hb=>?_,q⟩
 have e:b=s1.heap.objs.size:=by simpa using hb
 subst e
 exact I1.fpOk (Aw _) (I1.hok.fresh (Aw _))
theorem sD {pins:List (Addr×Obj)}{σ:St}{H:Hp}{s:Ar}{R:It→Hp→Prop}{E:Value→Ar→Prop}{lo hi:Int}{t u v:Tok}{tk:Nat} (I:Inv X pins σ H s) (h1:-(2 ^ 62)≤lo) (h2:lo < 2 ^ 62) (h3:-(2 ^ 62)≤hi) (h4:hi < 2 ^ 62)
  (q:R (Itr lo (hi - lo).toNat) H):wpAny (model X.prog X.w) X.A (Jv (.ref s.heap.objs.size)) (PIE X pins σ tg R) E {s with heap:=s.heap.push {cls:=.type "range",data:=.fields #[.int lo t,.int hi u,.int 1 v] },toks:=tk }:=by
 refine wpAny_pyIter_range (IsRange.new ..) (small_one h1 h2 h3 h4) ?_
 have I1:Inv X pins σ H {s with heap:=s.heap.push {cls:=.type "range",data:=.fields #[.int lo t,.int hi u,.int 1 v] },toks:=tk }:=I.kept fun b o e=>Ap _ e
 refine ⟨(s.heap.push {cls:=.type "range",data:=.fields #[.int lo t,.int hi u,.int 1 v] }).objs.size,[(s.heap.push {cls:=.type "range",data:=.fields #[.int lo t,.int hi u,.int 1 v] }).objs.size],_,_,H,rfl,
  I1.kept (t':=tk) fun b o e=>Ap _ e,oa _ lo (hi - lo).toNat,?_,fun b hb=>?_,q⟩
 ·have e1:lo+((0:Nat):Int) *1=lo:=by simp
  have e2:(((hi - lo).toNat:Nat):Int) - ((0:Nat):Int)=Builtin.Range.rangeSize lo hi 1:=by rw[rangeSize_one];split <;>omega
  show IsRangeIter _ _ (lo+((0:Nat):Int) *1) ((((hi - lo).toNat:Nat):Int) - ((0:Nat):Int)) 1
  rw[e1,e2]
  exact AD _ rfl
 ·have e:b=(s.heap.push {cls:=.type "range",data:=.fields #[.int lo t,.int hi u,.int 1 v] }).objs.size:=by simpa using hb
  subst e
  exact I1.fpOk (Aw _) (I1.hok.fresh (Aw _))
def yA (ta:TA):TI:=fun σ H R=>ta σ H fun vs H1=>∃j:Int,vs=[.int j]∧-(2 ^ 62)≤j∧j < 2 ^ 62∧R (Itr 0 j.toNat) H1
theorem qQ {a:Expr}{ta:TA}{p pos:Pos} (hg:Gl X "range") (hm:X.mg "range"=none) (ha:PA X [a] ta) (hs:AK [a] X.env=[(false,eval a X.env)]:=by rfl):PI X tg (.Call (.Name "range" p) [a] [] pos) (yA ta):=by
 intro pins s σ H R I h
 refine Call_ (dk I hg hm boot_range (PyProof.Rows.callWith_type1 (thn (ha pos pins s σ H _ I h) fun us s1 ⟨vs,H1,I1,r1,q1⟩=>?_) hs rfl))
 obtain ⟨j,e,q1,q2,q⟩:=q1
 subst e
 cases r1 with
 |cons r rr=>
  cases rr
  obtain ⟨t,rfl⟩:=r
  exact call_range_1 (sD I1 (by omega) (by omega) q1 q2 (by simpa using q))
def zm (wi:TI) (g:TG) (tb:TS):TS:=fun D σ H=>wi σ H fun J H1=>∃W:Nat→Nat→St→Hp→Prop,(∃m,W 0 m σ H1)∧∀i m σ H,W i m σ H→
 (J.stop i H∧D.nx σ H)∨(J.go i H∧∃N:St→Hp→Prop,(∀σ' H',N σ' H'→∃m',m' < m∧W (i+1) m' σ' H')∧∀x H',J.yld i H x H'→g x σ H' fun σ2 H2=>tb {D with nx:=N,ct:=N,bk:=D.nx } σ2 H2)
def jj (fp:List Addr) (h:Heap):List (Addr×Obj):=fp.filterMap fun b=>(h.get? b).map fun o=>(b,o)
theorem bL {fp:List Addr}{h:Heap}{b:Addr}{o:Obj} (hb:b∈fp) (e:h.get? b=some o):(b,o)∈jj fp h:=D0.mpr ⟨b,hb,by rw[e];rfl⟩
theorem qv {fp:List Addr}{h:Heap}{p:Addr×Obj} (hp:p∈jj fp h):p.1∈fp∧h.get? p.1=some p.2:=by
 obtain ⟨b,hb,e⟩:=D0.mp hp
 cases q:h.get? b with
 |none=>rw[q] at e;cases e
 |some o=>
  rw[q] at e
  have e':(b,o)=p:=Bo e
  subst e'
  exact ⟨hb,q⟩
theorem Inv.pinned {pins:List (Addr×Obj)}{σ:St}{H:Hp}{s:Ar}{fp:List Addr} (I:Inv X pins σ H s) (hf:∀b∈fp,dW X pins H b) (ho:∀b∈fp,∃o,s.heap.get? b=some o∧∀v,o.data≠.cell v):Inv X (pins++jj fp s.heap) σ H s:=
 I.pins_of fun p hp=>(Cr.mp hp).elim (fun z=>I.pin p (AI _ z)) fun z=>by
  obtain ⟨hb,e⟩:=qv z
  obtain ⟨f0,f1,f2,_⟩:=hf p.1 hb
  obtain ⟨o,e',d⟩:=ho p.1 hb
  rw[e] at e';cases e'
  exact ⟨e,f0,f1,f2,d⟩
theorem Inv.unpinned {pins pl:List (Addr×Obj)}{σ:St}{H:Hp}{s:Ar} (I:Inv X (pins++pl) σ H s):Inv X pins σ H s:=I.pins_of fun p hp=>I.pin p (AI _ (BK _ hp))
theorem tm {iter:Expr}{body:List Stmt}{wi:TI}{g:TG}{tb:TS}{pos:Pos} (hp:EK (model X.prog X.w) X.A X.env X.xe) (hc:X.calm=true) (hi:PI X tg iter wi) (hg:PG X tg g) (hb:PSs X body tb)
  (hs:∀x,BI iter X.env x=pure x:=by intro _;rfl):PS X (.For tg iter body [] pos) (zm wi g tb):=by
 intro pins s σ H D I h
 refine wpAny_For (thn (hi pins s σ H _ I h) fun v s1 h1=>thn h1 fun itv s2 h2=>?_) hs
 obtain ⟨it,fp,tn,J,H2,e,I2,T,st2,f2,W,⟨m0,w0⟩,turn⟩:=h2
 subst e
 have stat:∀{H':Hp},(∀b∈fp,H' b=none)→∀b∈fp,dW X pins H' b:=fun hn b hb=>⟨hn b hb,(f2 b hb).2⟩
 refine codeAny_forLoop_any (fun n s'=>∃i σ' H',Inv X pins σ' H' s'∧tn i s'.heap∧(∀b∈fp,H' b=none)∧W i n σ' H') ?_ m0 ⟨0,σ,H2,I2,st2,fun b hb=>(f2 b hb).1,w0⟩
 rintro n s3 ⟨i,σ3,H3,I3,st3,fr3,w3⟩
 rcases turn i n σ3 H3 w3 with ⟨stop,qn⟩ |⟨go,N,hN,step⟩
 ·refine C9 hp (thn (T.done X rfl rfl rfl hc i pins s3 σ3 H3 X.xe I3 (stat fr3) st3 stop) fun r s4 ⟨hr,I4⟩=>?_)
  subst hr
  exact FZ ⟨σ3,H3,I4,qn⟩
 ·refine C9 hp (thn (T.item X rfl rfl rfl hc i pins s3 σ3 H3 X.xe I3 (stat fr3) st3 go) fun r s4 ⟨u,hr,h4⟩=>?_)
  subst hr
  refine C9 hp (thn h4 fun _ s5 ⟨x,H5,I5,r5,y5,st5,fr5⟩=>?_)
  have I5':=I5.pinned (stat fr5) (T.obj _ _ st5)
  refine C9 hp (thn (hg _ s5 σ3 H5 x u _ I5' r5 (step x H5 y5)) fun _ s6 ⟨σ6,H6,I6,q6⟩=>?_)
  refine C9 hp (thn (hb _ s6 σ6 H6 _ I6 q6) fun f s7 q7=>?_)
  have again:∀{σ7:St}{H7:Hp},Inv X (pins++jj fp s5.heap) σ7 H7 s7→N σ7 H7→∃m,m < n∧∃i σ' H',Inv X pins σ' H' s7∧tn i s7.heap∧(∀b∈fp,H' b=none)∧W i m σ' H':=fun {σ7 H7} I7 n7=>by
   obtain ⟨m',hm,w7⟩:=hN σ7 H7 n7
   refine ⟨m',hm,i+1,σ7,H7,I7.unpinned,T.keep _ _ _ st5 fun b hb o e=>(I7.pin (b,o) (AI _ (AI _ (bL hb e)))).1,fun b hb=>?_,w7⟩
   obtain ⟨o,e,d⟩:=T.obj _ _ st5 b hb
   exact (I7.pin (b,o) (AI _ (AI _ (bL hb e)))).2.1
  cases f with
  |next=>obtain ⟨σ7,H7,I7,n7⟩:=q7;exact again I7 n7
  |cont=>obtain ⟨σ7,H7,I7,n7⟩:=q7;exact again I7 n7
  |brk=>obtain ⟨σ7,H7,I7,q7⟩:=q7;exact ⟨σ7,H7,I7.unpinned,q7⟩
  |ret v=>obtain ⟨x7,σ7,H7,I7,r7,q7⟩:=q7;exact ⟨x7,σ7,H7,I7.unpinned,r7,q7⟩
end
abbrev R2:=V→V→Hp→VK→Prop
def OpR (X:Cx) (f:Value→Value→Sem Value) (r:R2):Prop:=
 ∀(pins:List (Addr×Obj)) (s:Ar) (σ:St) (H:Hp) (x y:V) (v u:Value) (Q:VK),Inv X pins σ H s→aY x v→aY y u→r x y H Q→
  wpAny (model X.prog X.w) X.A (f v u) (EP X pins σ Q) X.xe s
def UnR (X:Cx) (f:Value→Sem Value) (r:V→Hp→VK→Prop):Prop:=
 ∀(pins:List (Addr×Obj)) (s:Ar) (σ:St) (H:Hp) (x:V) (v:Value) (Q:VK),Inv X pins σ H s→aY x v→r x H Q→
  wpAny (model X.prog X.w) X.A (f v) (EP X pins σ Q) X.xe s
def eB (X:Cx) (f:Value) (r:List V→Hp→VK→Prop):Prop:=
 ∀(pins:List (Addr×Obj)) (s:Ar) (σ:St) (H:Hp) (xs:List V) (us:List Value) (Q:VK),Inv X pins σ H s→aV xs us→r xs H Q→
  wpAny (model X.prog X.w) X.A (call f us) (EP X pins σ Q) X.xe s
def tOp (r:R2) (ta tb:TE):TE:=fun σ H Q=>ta σ H fun x H1=>tb σ H1 fun y H2=>r x y H2 Q
def tUn (r:V→Hp→VK→Prop) (ta:TE):TE:=fun σ H Q=>ta σ H fun x H1=>r x H1 Q
def rI (C:Int→Int→Prop) (g:Int→Int→V):R2:=fun x y H Q=>∃i j,x=.int i∧y=.int j∧C i j∧Q (g i j) H
def rI0 (g:Int→Int→V):R2:=fun x y H Q=>∃i j,x=.int i∧y=.int j∧Q (g i j) H
def rU (g:Int→V):V→Hp→VK→Prop:=fun x H Q=>∃i,x=.int i∧Q (g i) H
section
variable {X:Cx}{a b c:Expr}{ta tb tc:TE}{pos:Pos}
theorem xf (ha:PE X a ta) (hb:PE X b tb) {pins:List (Addr×Obj)}{s:Ar}{σ:St}{H:Hp}{R:V→V→Hp→Prop} (I:Inv X pins σ H s)
  (h:ta σ H fun x H1=>tb σ H1 fun y H2=>R x y H2) {Q:Value→Ar→Prop}{f:Value→Value→Sem Value}
  (hf:∀v u s2 x y H2,Inv X pins σ H2 s2→aY x v→aY y u→R x y H2→wpAny (model X.prog X.w) X.A (f v u) Q X.xe s2):
  wpAny (model X.prog X.w) X.A (eval a X.env) (fun v s₁=>wpAny (model X.prog X.w) X.A (eval b X.env) (fun u s₂=>wpAny (model X.prog X.w) X.A (f v u) Q X.xe s₂) X.xe s₁) X.xe s:=by
 refine thn (ha pins s σ H _ I h) fun v s1 ⟨x,H1,I1,r1,q1⟩=>?_
 refine thn (hb pins s1 σ H1 _ I1 q1) fun u s2 ⟨y,H2,I2,r2,q2⟩=>?_
 exact hf v u s2 x y H2 I2 r1 r2 q2
theorem ui {op:Jj}{r:R2} (ho:OpR X (Ej op) r) (ha:PE X a ta) (hb:PE X b tb):PE X (.BinOp a op b pos) (tOp r ta tb):=by
 intro pins s σ H Q I h
 exact wpAny_BinOp (xf ha hb I h fun v u s2 x y H2 I2 rx ry q=>ho pins s2 σ H2 x y v u Q I2 rx ry q)
theorem y4 {op:UnaryOp}{r:V→Hp→VK→Prop} (ho:UnR X (unaryOp op) r) (ha:PE X a ta):PE X (.UnaryOp op a pos) (tUn r ta):=by
 intro pins s σ H Q I h
 exact UnaryOp_ (thn (ha pins s σ H _ I h) fun v s1 ⟨x,H1,I1,r1,q1⟩=>ho pins s1 σ H1 x v Q I1 r1 q1)
theorem opI {f:Value→Value→Sem Value}{C:Int→Int→Prop}{g:Int→Int→Int}
  (rule:∀(i j:Int) (t u:Tok) (s:Ar) (Q:Value→Ar→Prop) (E:Value→Ar→Prop),C i j→Q (.int (g i j) s.toks) {s with toks:=s.toks+1 }→wpAny (model X.prog X.w) X.A (f (.int i t) (.int j u)) Q E s):
  OpR X f (rI C fun i j=>.int (g i j)):=by
 intro pins s σ H x y v u Q I rx ry h
 obtain ⟨i,j,rfl,rfl,hc,q⟩:=h
 obtain ⟨t,rfl⟩:=rx
 obtain ⟨t',rfl⟩:=ry
 exact rule i j t t' s _ _ hc ⟨.int (g i j),H,I.tok _,⟨_,rfl⟩,q⟩
theorem yV {f:Value→Value→Sem Value}{g:Int→Int→Int}
  (rule:∀(i j:Int) (t u:Tok) (s:Ar) (Q:Value→Ar→Prop) (E:Value→Ar→Prop),Q (.int (g i j) s.toks) {s with toks:=s.toks+1 }→wpAny (model X.prog X.w) X.A (f (.int i t) (.int j u)) Q E s):
  OpR X f (rI0 fun i j=>.int (g i j)):=by
 intro pins s σ H x y v u Q I rx ry h
 obtain ⟨i,j,rfl,rfl,q⟩:=h
 obtain ⟨t,rfl⟩:=rx
 obtain ⟨t',rfl⟩:=ry
 exact rule i j t t' s _ _ ⟨.int (g i j),H,I.tok _,⟨_,rfl⟩,q⟩
theorem xD {f:Value→Value→Sem Value}{g:Int→Int→Bool}
  (rule:∀(i j:Int) (t u:Tok) (s:Ar) (Q:Value→Ar→Prop) (E:Value→Ar→Prop),Q (.bool (g i j)) s→wpAny (model X.prog X.w) X.A (f (.int i t) (.int j u)) Q E s):
  OpR X f (rI0 fun i j=>.bl (g i j)):=by
 intro pins s σ H x y v u Q I rx ry h
 obtain ⟨i,j,rfl,rfl,q⟩:=h
 obtain ⟨t,rfl⟩:=rx
 obtain ⟨t',rfl⟩:=ry
 exact rule i j t t' s _ _ ⟨.bl (g i j),H,I,rfl,q⟩
def yL (i j:Int):Prop:=0≤j∧j≤1000000∧i.natAbs < 2 ^ 64
theorem xo:OpR X (Ej .Add) (rI0 fun i j=>.int (i+j)):=yV fun _ _ _ _ _ _ _ q=>add_int q
theorem xS:OpR X (Ej .Sub) (rI0 fun i j=>.int (i - j)):=yV fun _ _ _ _ _ _ _ q=>sub_int q
theorem xV:OpR X (Ej .Mod) (rI (fun _ j=>0 < j) fun i j=>.int (i % j)):=opI fun i j _ _ _ _ _ hc q=>by
 have h1:(0:Int) < j:=hc
 exact mod_int' (by omega) (by rw[Int.fmod_eq_emod_of_nonneg i (by omega)];exact q)
theorem xE:OpR X (Ej .Pow) (rI yL fun i j=>.int (i ^ j.toNat)):=opI fun _ _ _ _ _ _ _ hc q=>pow_int_small hc.1 hc.2.1 hc.2.2 q
theorem unI {f:Value→Sem Value}{g:Int→Int}
  (rule:∀(i:Int) (t:Tok) (s:Ar) (Q:Value→Ar→Prop) (E:Value→Ar→Prop),Q (.int (g i) s.toks) {s with toks:=s.toks+1 }→wpAny (model X.prog X.w) X.A (f (.int i t)) Q E s):
  UnR X f (rU fun i=>.int (g i)):=by
 intro pins s σ H x v Q I rx h
 obtain ⟨i,rfl,q⟩:=h
 obtain ⟨t,rfl⟩:=rx
 exact rule i t s _ _ ⟨.int (g i),H,I.tok _,⟨_,rfl⟩,q⟩
theorem xj:UnR X (unaryOp .USub) (rU fun i=>.int (-i)):=unI fun _ _ _ _ _ q=>neg_int q
end
def yS:V→V→Bool
 | .non,.non=>true | .non,.int _=>true | .int _,.non=>true | .non,.bl _=>true | .bl _,.non=>true | .non,.str _=>true | .str _,.non=>true
 | .int _,.int _=>true | .bl _,.bl _=>true | .str _,.str _=>true | .byt _,.byt _=>true
 | .int _,.str _=>true | .str _,.int _=>true | .bl _,.str _=>true | .str _,.bl _=>true
 |_,_=>false
def rEq:R2:=fun x y H Q=>yS x y=true∧Q (.bl (decide (x=y))) H
def rNe:R2:=fun x y H Q=>yS x y=true∧Q (.bl (!decide (x=y))) H
theorem iS {i j:Int}:decide (V.int i=V.int j)=(i==j):=by
 rw[CM]
 simp
theorem rF {i j:Bool}:decide (V.bl i=V.bl j)=(i==j):=by
 rw[CM]
 simp
theorem oW {i j:Str}:decide (V.str i=V.str j)=(i==j):=by
 rw[CM]
 simp
theorem pJ {i j:Array UInt8}:decide (V.byt i=V.byt j)=(i.toList==j.toList):=by
 rw[CM]
 cases i
 cases j
 simp
section
variable {X:Cx}{a b c:Expr}{ta tb tc:TE}{pos:Pos}
theorem bj {pins:List (Addr×Obj)}{σ:St}{H:Hp}{s:Ar}{Q:VK}{k k':Bool} (I:Inv X pins σ H s) (q:Q (.bl k) H) (e:k=k'):EP X pins σ Q (.bool k') s:=by
 subst e
 exact ⟨.bl k,H,I,rfl,q⟩
theorem ym:OpR X (BZ .Eq) rEq:=by
 intro pins s σ H x y v u Q I rx ry h
 obtain ⟨hs,q⟩:=h
 cases x with
 |non=>
  cases rx
  cases y with
  |non=>cases ry;exact Iw (bj I q (by simp))
  |bl j=>cases ry;exact Iy (bj I q (by simp))
  |int j=>obtain ⟨t',rfl⟩:=ry;exact IT (bj I q (by simp))
  |str j=>obtain ⟨t',rfl⟩:=ry;exact IU (bj I q (by simp))
  |_=>exact absurd (show false=true from hs) AX
 |bl i=>
  cases rx
  cases y with
  |non=>cases ry;exact Iz (bj I q (by simp))
  |bl j=>cases ry;exact eq_bool (bj I q rF)
  |str j=>obtain ⟨t',rfl⟩:=ry;exact IA (bj I q (by simp))
  |_=>exact absurd (show false=true from hs) AX
 |int i=>
  obtain ⟨t,rfl⟩:=rx
  cases y with
  |non=>cases ry;exact IV (bj I q (by simp))
  |int j=>obtain ⟨t',rfl⟩:=ry;exact eq_int (bj I q iS)
  |str j=>obtain ⟨t',rfl⟩:=ry;exact IW (bj I q (by simp))
  |_=>exact absurd (show false=true from hs) AX
 |str i=>
  obtain ⟨t,rfl⟩:=rx
  cases y with
  |non=>cases ry;exact IX (bj I q (by simp))
  |bl j=>cases ry;exact IB (bj I q (by simp))
  |int j=>obtain ⟨t',rfl⟩:=ry;exact IY (bj I q (by simp))
  |str j=>obtain ⟨t',rfl⟩:=ry;exact eq_str (bj I q oW)
  |_=>exact absurd (show false=true from hs) AX
 |byt i=>
  obtain ⟨t,rfl⟩:=rx
  cases y with
  |byt j=>obtain ⟨t',rfl⟩:=ry;exact PySem.W.eq_bytes (bj I q pJ)
  |_=>exact absurd (show false=true from hs) AX
 |_=>cases y <;>exact absurd (show false=true from hs) AX
theorem yG:OpR X (BZ .NotEq) rNe:=by
 intro pins s σ H x y v u Q I rx ry h
 obtain ⟨hs,q⟩:=h
 cases x with
 |non=>
  cases rx
  cases y with
  |non=>cases ry;exact IC (bj I q (by simp))
  |bl j=>cases ry;exact ID (bj I q (by simp))
  |int j=>obtain ⟨t',rfl⟩:=ry;exact IZ (bj I q (by simp))
  |str j=>obtain ⟨t',rfl⟩:=ry;exact I_ (bj I q (by simp))
  |_=>exact absurd (show false=true from hs) AX
 |bl i=>
  cases rx
  cases y with
  |non=>cases ry;exact IE (bj I q (by simp))
  |bl j=>cases ry;exact ne_bool (bj I q (congrArg not rF))
  |str j=>obtain ⟨t',rfl⟩:=ry;exact IF (bj I q (by simp))
  |_=>exact absurd (show false=true from hs) AX
 |int i=>
  obtain ⟨t,rfl⟩:=rx
  cases y with
  |non=>cases ry;exact Ja (bj I q (by simp))
  |int j=>obtain ⟨t',rfl⟩:=ry;exact ne_int (bj I q (congrArg not iS))
  |str j=>obtain ⟨t',rfl⟩:=ry;exact Jb (bj I q (by simp))
  |_=>exact absurd (show false=true from hs) AX
 |str i=>
  obtain ⟨t,rfl⟩:=rx
  cases y with
  |non=>cases ry;exact Jc (bj I q (by simp))
  |bl j=>cases ry;exact IG (bj I q (by simp))
  |int j=>obtain ⟨t',rfl⟩:=ry;exact Jd (bj I q (by simp))
  |str j=>obtain ⟨t',rfl⟩:=ry;exact ne_str (bj I q (congrArg not oW))
  |_=>exact absurd (show false=true from hs) AX
 |byt i=>
  obtain ⟨t,rfl⟩:=rx
  cases y with
  |byt j=>obtain ⟨t',rfl⟩:=ry;exact PySem.W.ne_bytes (bj I q (congrArg not pJ))
  |_=>exact absurd (show false=true from hs) AX
 |_=>cases y <;>exact absurd (show false=true from hs) AX
theorem y3:OpR X (BZ .Lt) (rI0 fun i j=>.bl (decide (i < j))):=xD fun _ _ _ _ _ _ _ q=>lt_int q
theorem yT:OpR X (BZ .LtE) (rI0 fun i j=>.bl (decide (i≤j))):=xD fun _ _ _ _ _ _ _ q=>le_int q
theorem yR:OpR X (BZ .Gt) (rI0 fun i j=>.bl (decide (j < i))):=xD fun _ _ _ _ _ _ _ q=>gt_int q
theorem rX (b:Expr) {op:CmpOp} (h:op≠.In:=by decide) (h2:op≠.NotIn:=by decide):CC op b=false:=by
 have e1:(op==CmpOp.In)=false:=by cases op <;>first |rfl |exact absurd rfl h
 have e2:(op==CmpOp.NotIn)=false:=by cases op <;>first |rfl |exact absurd rfl h2
 cases b <;>simp[CC,e1,e2]
theorem vd {op:CmpOp}{r:R2} (ho:OpR X (BZ op) r) (ha:PE X a ta) (hb:PE X b tb) (hm:CC op b=false):PE X (.Compare a [op] [b] pos) (tOp r ta tb):=by
 intro pins s σ H Q I h
 exact Ir (xf ha hb I h fun v u s2 x y H2 I2 rx ry q=>ho pins s2 σ H2 x y v u Q I2 rx ry q) hm
def yx (t:TE):TT:=fun σ H Q=>t σ H fun x H'=>∃k,x=.bl k∧Q k H'
theorem uK {op:CmpOp}{r:R2} (ho:OpR X (BZ op) r) (ha:PE X a ta) (hb:PE X b tb) (hm:CC op b=false):PT X (.Compare a [op] [b] pos) (yx (tOp r ta tb)):=by
 intro pins s σ H Q I h
 refine FY (thn (ha pins s σ H _ I h) fun v s1 ⟨x,H1,I1,r1,q1⟩=>thn (hb pins s1 σ H1 _ I1 q1) fun u s2 ⟨y,H2,I2,r2,q2⟩=>
  thn (ho pins s2 σ H2 x y v u _ I2 r1 r2 q2) fun c s3 ⟨z,H3,I3,r3,k,e,q3⟩=>?_) hm
 subst e
 cases r3
 exact CJ ⟨H3,I3,q3⟩
theorem om:(sizeLine:Nat) < 2 ^ 63:=by rw[BA];decide
theorem ig {x:V}{us:List Value} (r:aV [x] us):∃u,us=[u]∧aY x u:=by
 cases r with
 |cons r1 r2=>cases r2;exact ⟨_,rfl,r1⟩
theorem pj {x y:V}{us:List Value} (r:aV [x,y] us):∃u w',us=[u,w']∧aY x u∧aY y w':=by
 cases r with
 |cons r1 r2=>
  cases r2 with
  |cons r3 r4=>cases r4;exact ⟨_,_,rfl,r1,r3⟩
theorem rP:eB X (.builtin "abs") (fun xs H Q=>∃i,xs=[.int i]∧Q (.int (if i < 0 then -i else i)) H):=by
 intro pins s σ H xs us Q I r h
 obtain ⟨i,rfl,q⟩:=h
 obtain ⟨u,rfl,t,rfl⟩:=ig r
 exact call_abs_int fun u tk=>⟨.int (if i < 0 then -i else i),H,I.tok _,⟨_,rfl⟩,q⟩
end
structure xl (h:Heap) (x dx C:Addr) (mA:Str→Option Value):Prop where
 obj:h.get? x=some (FX C dx)
 ns:h.Ns1 dx mA
 ne:dx≠x
theorem p_ {h:Heap}{dx:Addr}{mA:Str→Option Value} (n:h.Ns1 dx mA):∃od,h.get? dx=some od∧∀name,GA name od=some (mA name):=by
 obtain ⟨o,es,ep,ho,hd,hk,_,hm⟩:=n
 refine ⟨o,ho,fun name=>?_⟩
 have e:=hm name
 unfold nsFind findBy at e
 rw[←Array.find?_toList] at e
 unfold GA
 rw[hd]
 dsimp only
 split
 ·rename_i y q
  rw[q] at e
  exact congrArg some e
 ·rename_i q
  rw[q] at e
  have a:es.toList.any (·.refKey)=false:=by
   rw[List.any_eq_false]
   intro y hy
   obtain ⟨z,t,hkey⟩:=hk y (EB.mp hy)
   simp[DictEntry.refKey,hkey]
  have a':¬ es.toList.any (·.refKey)=true:=by rw[a];exact AX
  rw[if_neg a']
  exact congrArg some e
theorem xl.look {h:Heap}{x dx C:Addr}{mA:Str→Option Value} (I:xl h x dx C mA):∃od,PySem.W.InstAt h x (FX C dx) C (some od)∧∀name,GA name od=some (mA name):=
 let ⟨od,ho,hl⟩:=p_ I.ns
 ⟨od,⟨I.obj,rfl,rfl,ho⟩,hl⟩
section
variable {prog:AC}{w:World}{A:A4}{E:Value→Ar→Prop}{s:Ar}{K:Ao}{x dx C f:Addr}{mA:Str→Option Value}{name:Str}{v:Value}
end
section
variable {P:AC}{w:World}{H H':Hp}{h h':Heap}{a C dx:Addr}{fs fs':List (Str×V)}
theorem uR (hok:HOk P w H h) (e:H a=some (.ins C dx fs)):∃mA,xl h a dx C mA∧(∀f,xZ (fs.lookup f) (mA f))∧Jt mA (fs.map (·.1))∧fs.length≤1000∧H dx=some (.own a):=by
 obtain ⟨d,z,ne,ob,mA,n,r,q⟩:=(show cE P w H h a (.ins C dx fs) from hok a _ e)
 exact ⟨mA,⟨ob,n,ne⟩,r,q,z,d⟩
end
structure Cls (K:Ao) (C:Addr):Prop where
 pg:Hw K C Str.empty=true
 hd:PySem.W.hasDictIn K C=true
 po:PySem.W.plainOver K C=true
 sa:Ek K (.ref C) "__setattr__"=some (some (.builtin "object.__setattr__"))
theorem Cls.get {K:Ao}{C:Addr} (c:Cls K C) (f:Str):Hw K C f=true:=c.pg
structure Con (K:Ao) (C:Addr) (f:Str) (v:V) (u:Value):Prop where
 at_:Ek K (.ref C) f=some (some u)
 rel:aY v u
 get:Ha K u "__get__"=some none
 cp:PySem.W.copiedNames.contains f=false
structure Aj (K:Ao) (C:Addr) (m:Str) (f:Addr):Prop where
 at_:Ek K (.ref C) m=some (some (.ref f))
 fn:Jw K (.ref f)=true
 kp:AG K (.ref f)=true
section
variable {X:Cx}{pins:List (Addr×Obj)}{σ:St}{H:Hp}{s:Ar}{a C dx:Addr}{fs:List (Str×V)}{f:Str}{v:V}{A:A4}{E:Value→Ar→Prop}
end
section
variable {X:Cx}{o e value:Expr}{f:Str}{pos pos' tpos:Pos}{ta tv:TE}
end
section
variable {X:Cx}{pins:List (Addr×Obj)}{σ:St}{H:Hp}{s:Ar}{A:A4}{E:Value→Ar→Prop}{Q:Value→Ar→Prop}{c:Value}{b:Bool}
inductive iR (K:Ao) (H:Hp):V→Value→Prop where
 |non:iR K H .non (.type "NoneType")
 |bl (x:Bool):iR K H (.bl x) (.type "bool")
 |int (i:Int):iR K H (.int i) (.type "int")
 |str (x:Str):iR K H (.str x) (.type "str")
 |flt (x:UInt64):iR K H (.flt x) (.type "float")
 |lst {a:Addr}{xs:List V} (e:H a=some (.lst xs)):iR K H (.ref a) (.type "list")
 |frz {a:Addr}{o:Obj}{xs:List V} (e:H a=some (.frz o (.lst xs))):iR K H (.ref a) (.type "list")
 |tup {a:Addr}{xs:List V} (e:H a=some (.tup xs)):iR K H (.ref a) (.type "tuple")
 |dK {a:Addr}{kvs:List (Key×V)} (e:H a=some (.dK kvs)):iR K H (.ref a) (.type "dict")
 |dT {a:Addr}{kvs:List (List Key×V)} (e:H a=some (.dT kvs)):iR K H (.ref a) (.type "dict")
 |ins {a C dx:Addr}{fs:List (Str×V)} (e:H a=some (.ins C dx fs)) (cl:Cls K C) (ha:Ek K (.ref C) "__class__"=some (some (.builtin "object.__class__")))
   (hn:Ha K (.builtin "object.__class__") "__get__"=some (some (.builtin "getset_descriptor.__get__"))) (htk:PySem.W.takesIn K (.builtin "object.__class__")=some true)
   (hm:PySem.W.mroIn K C (.type "object")=some true):iR K H (.ref a) (.ref C)
theorem dr {x:V}{u t:Value} (I:Inv X pins σ H s) (rx:aY x u) (ty:iR X.K H x t) (e:E9 X.K t c=some b) (h:∀tk,Q (.bool b) {s with toks:=tk }):
  wpAny (model X.prog X.w) A (call (.builtin "isinstance") [u,c]) Q E s:=by
 cases ty with
 |non=>cases (show u=AY from rx);exact BF PySem.W.kitx_none I.kIn True.intro e (fun z=>nomatch z) h
 |bl y=>cases (show u=Bd y from rx);exact BF PySem.W.kitx_bool I.kIn True.intro e (fun z=>nomatch z) h
 |int i=>obtain ⟨t,q⟩:=(show ∃t,u=Bc i t from rx);cases q;exact BF PySem.W.kitx_int I.kIn True.intro e (fun z=>nomatch z) h
 |str y=>obtain ⟨t,q⟩:=(show ∃t,u=Bt y t from rx);cases q;exact BF PySem.W.kitx_str I.kIn True.intro e (fun z=>nomatch z) h
 |flt y=>obtain ⟨t,q⟩:=(show ∃t,u=JE y t from rx);cases q;exact BF PySem.W.kitx_float I.kIn True.intro e (fun z=>nomatch z) h
 | @lst a xs ea=>
  cases (show u=Bi a from rx)
  obtain ⟨_,_,n,_,h1⟩:=(show cE X.prog X.w H s.heap a (.lst xs) from I.hok a _ ea)
  exact BF Fj I.kIn ⟨_,h1,rfl⟩ e (fun z=>nomatch z) h
 | @frz a ob xs ea=>
  cases (show u=Bi a from rx)
  obtain ⟨_,_,_,n,_,h1⟩:=(show cE X.prog X.w H s.heap a (.frz ob (.lst xs)) from I.hok a _ ea)
  exact BF Fj I.kIn ⟨_,h1,rfl⟩ e (fun z=>nomatch z) h
 | @tup a xs ea=>
  cases (show u=Bi a from rx)
  obtain ⟨_,_,_,p⟩:=(show cE X.prog X.w H s.heap a (.tup xs) from I.hok a _ ea)
  obtain ⟨o,h1,h2,_⟩:=p
  exact BF GS I.kIn ⟨o,h1,h2⟩ e (fun z=>nomatch z) h
 | @dK a kvs ea=>
  cases (show u=Bi a from rx)
  obtain ⟨_,_,vs,_,p⟩:=(show cE X.prog X.w H s.heap a (.dK kvs) from I.hok a _ ea)
  obtain ⟨o,es,ep,h1,h2,_⟩:=p
  exact BF Hb I.kIn ⟨o,h1,h2.1⟩ e (fun z=>nomatch z) h
 | @dT a kvs ea=>
  cases (show u=Bi a from rx)
  obtain ⟨_,_,xs,_,o,es,ep,h1,h2,_⟩:=(show cE X.prog X.w H s.heap a (.dT kvs) from I.hok a _ ea)
  exact BF Hb I.kIn ⟨o,h1,h2.1⟩ e (fun z=>nomatch z) h
 | @ins a C dx fs ea cl ha hn htk hm=>
  cases (show u=Bi a from rx)
  obtain ⟨mA,O,_⟩:=uR I.hok ea
  obtain ⟨od,J,_⟩:=O.look
  exact BF (PySem.W.kitx_own (cl.get _) cl.hd ha hn htk hm) I.kIn J e (fun z=>nomatch z) h
end
structure dF (k:Nat) (A:A4):Prop where
 hd:A.handled=none
 dp:A.depth+3*k+5 < E_
 un:A.units+16*k+200 < cLine
theorem dF.mono {j k:Nat}{A:A4} (r:dF k A) (h:j≤k):dF j A:=⟨r.hd,by have:=r.dp;omega,by have:=r.un;omega⟩
theorem dF.deeper {k:Nat}{A:A4} (r:dF (k+1) A) (env:Env):dF k (A.deeper env):=
 ⟨r.hd,by have:=r.dp;show A.depth+1+3*k+5 < _;omega,by have:=r.un;show A.units+3+16*k+200 < _;omega⟩
theorem dF.in1 {k:Nat}{A:A4} (r:dF (k+1) A):dF k A.in1:=
 ⟨r.hd,by have:=r.dp;show A.depth+3*k+5 < _;omega,by have:=r.un;show A.units+1+16*k+200 < _;omega⟩
theorem dF.depth {k:Nat}{A:A4} (r:dF k A):A.depth < E_:=by have:=r.dp;omega
def zW:TA:=fun _ H Q=>Q [] H
def yQ (ta:TE) (tr:TA):TA:=fun σ H Q=>ta σ H fun x H1=>tr σ H1 fun xs H2=>Q (x::xs) H2
section
variable {X:Cx}{e:Expr}{es:List Expr}{te:TE}{t:TA}{pos:Pos}
theorem eW:PA X [] zW:=fun _ _ _ _ H Q I h=>Fk ⟨[],H,I,.nil,h⟩
theorem cS (ha:PE X e te) (hr:PA X es t) (hs:AK (e::es) X.env=(false,eval e X.env)::AK es X.env:=by rfl):PA X (e::es) (yQ te t):=by
 intro pos pins s σ H Q I h
 rw[hs]
 show wpAny _ _ (spliced ((false,eval e X.env)::Eo pos (AK es X.env))) _ _ s
 refine E1 (thn (ha pins s σ H _ I h) fun u s1 ⟨x,H1,I1,r1,q1⟩=>?_)
 exact thn (hr pos pins s1 σ H1 _ I1 q1) fun us s2 ⟨xs,H2,I2,r2,q2⟩=>⟨x::xs,H2,I2,.cons r1 r2,q2⟩
def z8 (t:TA):TE:=fun σ H Q=>t σ H fun xs H1=>xs.length≤sizeLine∧∀p,H1 p=none→Q (.ref p) (upd H1 p (.tup xs))
def zw (t:TA):TE:=fun σ H Q=>t σ H fun xs H1=>xs.length≤sizeLine∧∀p,H1 p=none→Q (.ref p) (upd H1 p (.lst xs))
theorem xx {x1} (h:PA X es t):PE X (.Tuple es x1 pos) (z8 t):=by
 intro pins s σ H Q I hq
 refine wpAny_Tuple_spliced (thn (h pos pins s σ H _ I hq) fun us s1 ⟨xs,H1,I1,r,z,q⟩=>⟨by rw[←r.length];exact z,?_⟩)
 have hf:H1 s1.heap.objs.size=none:=I1.hok.fresh (Aw _)
 refine ⟨.ref s1.heap.objs.size,upd H1 s1.heap.objs.size (.tup xs),I1.laid (t':=s1.toks) (fun b u e=>Ap _ e) (Aw _) ?_,rfl,q _ hf⟩
 exact ⟨z,us,r,⟨_,AD _ rfl,rfl,_,rfl⟩⟩
theorem xu (h:PA X es t):PE X (.List es pos) (zw t):=by
 intro pins s σ H Q I hq
 refine wpAny_List_spliced (thn (h pos pins s σ H _ I hq) fun us s1 ⟨xs,H1,I1,r,z,q⟩=>⟨by rw[←r.length];exact z,?_⟩)
 have hf:H1 s1.heap.objs.size=none:=I1.hok.fresh (Aw _)
 refine ⟨.ref s1.heap.objs.size,upd H1 s1.heap.objs.size (.lst xs),I1.laid (t':=s1.toks) (fun b u e=>Ap _ e) (Aw _) ?_,rfl,q _ hf⟩
 exact ⟨z,us,0,r,AD _ rfl⟩
end
abbrev Sp:=List V→Hp→VK→XK→Prop
abbrev CXT:=List Env→Hp→Ar→XK→Value→Ar→Prop
structure ot (P:AC) (w:World) (K:Ao) (mg:Str→Option Value) (base:Heap) (A:A4) (outer:List Env) (s:Ar) (H:Hp):Prop where
 frames:A.frames=some outer
 mod:Mod K mg base
 bs:∀b o,base.get? b=some o→s.heap.get? b=some o∧H b=none
 bsz:base.objs.size≤s.heap.objs.size
 funs:s.heap.FunFrames base outer
 frf:Frf mg base (frs outer) H
 hok:HOk P w H s.heap
 bare:Fu s.gens
def CE (outer:List Env) (P:AC) (w:World) (H:Hp) (s:Ar) (Q:VK) (u:Value) (s':Ar):Prop:=
 ∃v H',s'.os=s.os∧Fu s'.gens∧Un (frs outer) [] H H' s.heap s'.heap∧HOk P w H' s'.heap∧aY v u∧Q v H'
def CR (CX:CXT) (outer:List Env) (P:AC) (w:World) (H:Hp) (s:Ar) (Q:VK) (E:XK) (r:GT) (s':Ar):Prop:=
 match r with
 | .ok (.ret u)=>CE outer P w H s Q u s'
 | .ok _=>False
 | .error e=>CX outer H s E e s'
structure bA (P:AC) (w:World) (K:Ao) (mg:Str→Option Value) (base:Heap) (CX:CXT) (k:Nat) (f:Addr) (fd:A6) (ps:List Str) (sp:Sp):Prop where
 len:∀vs H Q E,sp vs H Q E→vs.length=ps.length
 run:∀(A:A4) (outer:List Env) (s:Ar) (H:Hp) (args:Args) (us:List Value) (vs:List V) (Q:VK) (E:XK),dF k A→ot P w K mg base A outer s H→GM s fd args (ps.zip us)→aV vs us→sp vs H Q E→
  EN (model P w) A (.call (.ref f) args) (CR CX outer P w H s Q E) s
theorem bA.mono {P:AC}{w:World}{K:Ao}{mg:Str→Option Value}{base:Heap}{CX:CXT}{j k:Nat}{f:Addr}{fd:A6}{ps:List Str}{sp:Sp} (F:bA P w K mg base CX j f fd ps sp) (h:j≤k):
  bA P w K mg base CX k f fd ps sp:=⟨F.len,fun A outer s H args us vs Q E hr=>F.run A outer s H args us vs Q E (hr.mono h)⟩
theorem ot.in1 {P:AC}{w:World}{K:Ao}{mg:Str→Option Value}{base:Heap}{A:A4}{outer:List Env}{s:Ar}{H:Hp} (e:ot P w K mg base A outer s H):
  ot P w K mg base A.in1 outer s H:=⟨e.frames,e.mod,e.bs,e.bsz,e.funs,e.frf,e.hok,e.bare⟩
section
variable {X:Cx}{pins:List (Addr×Obj)}{σ:St}{H:Hp}{s s':Ar}
theorem Inv.env0 (I:Inv X pins σ H s):ot X.prog X.w X.K X.mg X.base X.A X.stack s H:=
 ⟨I.ok.frames,I.ok.mod,I.bs,B9 I.ok.bsz I.sz,I.stack,⟨I.stkFree,I.amb⟩,I.hok,I.bare⟩
theorem Inv.after {Q:VK}{u:Value} (I:Inv X pins σ H s) (h:CE X.stack X.prog X.w H s Q u s'):EP X pins σ Q u s':=by
 obtain ⟨v,H',os,bare,un,hok,r,q⟩:=h
 obtain ⟨hh,g,d,t,os'⟩:=s'
 obtain rfl:os'=s.os:=os
 exact ⟨v,H',I.call (h':=hh) (g':=g) (d':=d) (t':=t) (ch:=[]) un hok bare (fun b z=>absurd z (by simp)),r,q⟩
end
def yK (sp:Sp) (dvs:List V) (E:XK) (t:TA):TE:=fun σ H Q=>t σ H fun vs H1=>sp (vs++dvs) H1 Q E
def bp (K:Ao) (fd:A6) (ps:List Str) (ds:List Value):Prop:=
 ∀(s:Ar) (us:List Value),K.In s.heap→(us++ds).length=ps.length→GM s fd ⟨us,[]⟩ (ps.zip (us++ds))
theorem bp.all {K:Ao}{fd:A6}{ps:List Str} (h:∀us:List Value,us.length=ps.length→Bq fd ⟨us,[]⟩=pure (ps.zip us)):bp K fd ps []:=fun s us _ hl=>by
 rw[D3] at hl ⊢
 exact .of_eq (h us hl)
def jx (CX:CXT) (X:Cx) (E:XK):Prop:=∀(pins:List (Addr×Obj)) (σ:St) (H:Hp) (s:Ar) (e:Value) (s':Ar),Inv X pins σ H s→CX X.stack H s E e s'→X.xe e s'
section
variable {X:Cx}{CX:CXT}{k:Nat}{f C:Addr}{fd:A6}{ps:List Str}{sp:Sp}{dvs:List V}{ds:List Value}{E:XK}{x m:Str}{p pos apos:Pos}{e o:Expr}{es:List Expr}{ta:TE}{t:TA}
theorem xK {pins:List (Addr×Obj)}{σ:St}{H:Hp}{s:Ar}{Q:VK}{us:List Value}{vs:List V} (F:bA X.prog X.w X.K X.mg X.base CX k f fd ps sp) (hr:dF k X.A) (hb:bp X.K fd ps ds) (hd:aV dvs ds) (hx:jx CX X E)
  (I:Inv X pins σ H s) (r:aV vs us) (h:sp (vs++dvs) H Q E):wpAny (model X.prog X.w) X.A (call (.ref f) us) (EP X pins σ Q) X.xe s:=by
 have r2:aV (vs++dvs) (us++ds):=r.append hd
 have hl:(us++ds).length=ps.length:=by rw[←r2.length];exact F.len _ _ _ _ h
 refine Je (Er (F.run X.A X.stack s H ⟨us,[]⟩ (us++ds) (vs++dvs) Q E hr I.env0 (hb s us I.kIn hl) r2 h) fun r s' hq=>?_)
 cases r with
 |error e=>exact hx pins σ H s e s' I hq
 |ok fl=>
  cases fl with
  |ret u=>exact I.after hq
  |next=>exact False.elim hq
  |brk=>exact False.elim hq
  |cont=>exact False.elim hq
theorem pe (F:bA X.prog X.w X.K X.mg X.base CX k f fd ps sp) (hr:dF k X.A) (hg:Gl X x) (hm:X.mg x=some (.ref f)) (hk:AG X.K (.ref f)=true) (hb:bp X.K fd ps ds) (hd:aV dvs ds) (hx:jx CX X E)
  (ha:PA X (e::es) t) (hdb:(x==("__debug__":Str))=false:=by decide) (he:AK (e::es) X.env=(false,eval e X.env)::AK es X.env:=by rfl) (hpl:(Eo pos (AK es X.env)).any (·.1)=false:=by rfl):
  PE X (.Call (.Name x p) (e::es) [] pos) (yK sp dvs E t):=by
 intro pins s σ H Q I h
 refine BB (vL I hg hm ?_ hdb)
 refine PySem.W.callWith_K (h₀:=X.base) I.ok.mod.kin hk (thn (ha pos pins s σ H _ I h) fun us s1 ⟨vs,H1,I1,r,q⟩=>⟨I1.kIn,?_⟩) he hpl
 exact xK F hr hb hd hx I1 r q
structure Mk (K:Ao) (C f:Addr):Prop where
 makes:PySem.W.makesIn K C=true
 init:Ek K (.ref C) "__init__"=some (some (.ref f))
 fn:Jw K (.ref f)=true
 kp:AG K (.ref C)=true
end
section
variable {X:Cx}{CX:CXT}{k:Nat}{f C:Addr}{fd:A6}{ps ks:List Str}{sp:Sp}{E:XK}{x m:Str}{p pos apos kpos:Pos}{e o:Expr}{es:List Expr}{kws:List HL}{te ta:TE}{t tk:TA}{nm:Option Str}
structure zQ (K:Ao) (fd:A6) (ps ks:List Str) (g:List Value→List Value→List Value) (gV:List V→List V→List V):Prop where
 to:∀(s:Ar) (us ws:List Value),K.In s.heap→(g us ws).length=ps.length→GM s fd ⟨us,ks.zip ws⟩ (ps.zip (g us ws))
 rel:∀{vs:List V}{us:List Value}{zs:List V}{ws:List Value},aV vs us→aV zs ws→aV (gV vs zs) (g us ws)
variable {g:List Value→List Value→List Value}{gV:List V→List V→List V}
end
structure aD (N P:List Str) (sc:Scope):Prop where
 kind:sc.kind=.function
 co:sc.isCoroutine=false
 gen:sc.isGenerator=false
 nd:N.Nodup
 pre:N.take P.length=P
 par:∀x∈P,sc.names.lookup x=some .local∨sc.names.lookup x=some .cell
 nofree:∀y∈sc.names,y.2≠.free
theorem j5 {kindOf:Str→Option EE}{x:Str}:∀{binds:List (Str×Value)}{m:Str→Option Value},(∀v,(x,v) ∉ binds)→bindL kindOf binds m x=m x
 |[],_,_=>rfl
 | (n,v)::r,m,h=>by
  unfold bindL
  rw[j5 fun w hw=>h w (Au _ hw)]
  split
  ·have:x≠n:=by rintro rfl;exact h v AE
   simp[this]
  ·rfl
theorem jX {kindOf:Str→Option EE}{x:Str}:∀{binds:List (Str×Value)}{m:Str→Option Value},(∀v,(x,v) ∉ binds)→bindC kindOf binds m x=m x
 |[],_,_=>rfl
 | (n,v)::r,m,h=>by
  unfold bindC
  rw[jX fun w hw=>h w (Au _ hw)]
  split
  ·rfl
  ·have:x≠n:=by rintro rfl;exact h v AE
   simp[this]
theorem j0 {kindOf:Str→Option EE}{x:Str}{v:Value}:∀{P:List Str}{vs:List Value}{i:Nat}{m:Str→Option Value},P.Nodup→P[i]?=some x→vs[i]?=some v→kindOf x=some .local→
  bindL kindOf (P.zip vs) m x=some v
 |[],_,_,_,_,h,_,_=>by simp at h
 |_::_,[],_,_,_,_,h,_=>by simp at h
 |p::P,w::vs,0,m,nd,h1,h2,hk=>by
  simp at h1 h2;subst h1;subst h2
  show bindL kindOf ((p,w)::P.zip vs) m p=_
  unfold bindL
  rw[j5 fun v hv=>(Ct.mp nd).1 (Ga hv).1,if_pos hk]
  simp
 |p::P,w::vs,i+1,m,nd,h1,h2,hk=>by
  show bindL kindOf ((p,w)::P.zip vs) m x=_
  unfold bindL
  exact j0 (i:=i) (Ct.mp nd).2 (by simpa using h1) (by simpa using h2) hk
theorem jP {kindOf:Str→Option EE}{x:Str}{v:Value}:∀{P:List Str}{vs:List Value}{i:Nat}{m:Str→Option Value},P.Nodup→P[i]?=some x→vs[i]?=some v→kindOf x≠some .local→
  bindC kindOf (P.zip vs) m x=some v
 |[],_,_,_,_,h,_,_=>by simp at h
 |_::_,[],_,_,_,_,h,_=>by simp at h
 |p::P,w::vs,0,m,nd,h1,h2,hk=>by
  simp at h1 h2;subst h1;subst h2
  show bindC kindOf ((p,w)::P.zip vs) m p=_
  unfold bindC
  rw[jX fun v hv=>(Ct.mp nd).1 (Ga hv).1,if_neg hk]
  simp
 |p::P,w::vs,i+1,m,nd,h1,h2,hk=>by
  show bindC kindOf ((p,w)::P.zip vs) m x=_
  unfold bindC
  exact jP (i:=i) (Ct.mp nd).2 (by simpa using h1) (by simpa using h2) hk
def start (N:List Str) (vs:List V):St:=vs.map some++IH (N.length - vs.length) none
def mI (CX:CXT) (P:AC) (w:World) (K:Ao) (mg:Str→Option Value) (base:Heap) (N:List Str) (qual:Str) (scope:Scope) (f:Addr) (cd:Value) (A:A4) (outer:List Env) (s:Ar) (H:Hp) (E:XK):Cx where
 prog:=P
 w:=w
 K:=K
 mg:=mg
 base:=base
 A:=A.deeper (GB qual scope s.heap.objs.size f cd)
 N:=N
 s₀:=s
 H₀:=H
 env:=GB qual scope s.heap.objs.size f cd
 outer:=outer
 stack:=GB qual scope s.heap.objs.size f cd::outer
 ex:=[]
 calm:=true
 fn:=fun _=>true
 pn:=[]
 xe:=fun e s'=>wpAny (model P w) (A.deeper (GB qual scope s.heap.objs.size f cd)) (leaving (GB qual scope s.heap.objs.size f cd) e) (fun _ s''=>CX outer H s E e s'') (fun e' s''=>CX outer H s E e' s'') s'
theorem lZ {sc:Scope}{n:Nat}{x:Str} (h:sc.names.lookup x=some .cell):∃c,(HM n sc.names []).lookup x=some c:=by
 have q:=Ea sc.names n [] (.inl h)
 exact DU.mp q
theorem qY {CX:CXT}{P:AC}{w:World}{K:Ao}{mg:Str→Option Value}{base:Heap}{N ps:List Str}{qual:Str}{scope:Scope}{f:Addr}{cd:Value}{A:A4}{outer:List Env}{s s1:Ar}{H:Hp}{E:XK}{us:List Value}{vs:List V}
  (S:aD N ps scope) (hd:A.handled=none) (e0:ot P w K mg base A outer s H) (hl:vs.length=ps.length) (r:aV vs us)
  (x:InCallC s s.heap.objs.size (bindL (GB qual scope s.heap.objs.size f cd).kindOf (ps.zip us) fun _=>none) (HM (s.heap.objs.size+1) scope.names []) (bindC (GB qual scope s.heap.objs.size f cd).kindOf (ps.zip us) fun _=>none) s1):
  Inv (mI CX P w K mg base N qual scope f cd A outer s H E) [] (start N vs) H s1:=by
 have hpl:ps.length≤N.length:=by have:=congrArg List.length S.pre;rw[Hx] at this;omega
 obtain ⟨h1,tk,rfl,hk⟩:=x.done
 have noA:∀b:Addr,b ∉ (mI CX P w K mg base N qual scope f cd A outer s H E).ex:=fun b z=>absurd (show b∈([]:List Addr) from z) (by simp)
 refine ⟨⟨e0.mod,S.kind,rfl,rfl,Aw _,fun y z c h1 h2=>?_,fun y hy=>?_,fun y c _ h=>?_,fun _=>hd,Gv e0.frames,.inr ⟨rfl,rfl⟩,fun b z=>absurd z (noA b),e0.bs,e0.bsz,fun b _ _=>noA b,fun b z=>absurd z (noA b),e0.funs,e0.frf⟩,
  rfl,e0.bare,Un.kept hk,⟨_,x.toInCall.ns,fun i y v h1 h2 h3=>?_⟩,fun y c h=>⟨_,x.cell y c h⟩,e0.hok.fresh (Aw _),fun y c h=>?_,fun p hp=>absurd (show p∈([]:List (Addr×Obj)) from hp) (by simp),e0.hok.kept hk,?_⟩
 ·exact name_of_addr x.apart (BD h1) (BD h2)
 ·have hy:scope.names.lookup y=some .cell∨scope.names.lookup y=some .free:=hy
  rcases hy with hy |hy
  ·exact lZ hy
  ·exact absurd rfl (S.nofree _ (BD hy))
 ·exact BX (x.above y c (BD h))
 ·have hi:i < vs.length:=by
   unfold start at h2
   by_cases hi:i < vs.length
   ·exact hi
   ·rw[A0 (by simpa using hi)] at h2
    rw[CD] at h2
    split at h2 <;>cases h2
  have ha:vs[i]?=some v:=by
   unfold start at h2
   rw[A7 (by simpa using hi),Av] at h2
   cases e:vs[i]? with
   |none=>rw[e] at h2;cases h2
   |some a=>rw[e] at h2;cases h2;rfl
  obtain ⟨u,hu,rv⟩:=r.get ha
  have hp:ps[i]?=some y:=by
   rw[←S.pre,C_ (by omega)];exact h1
  have ndP:ps.Nodup:=by rw[←S.pre];exact S.nd.sublist (List.take_sublist _ _)
  refine ⟨u,rv,?_⟩
  rcases S.par y (AW hp) with k |k
  ·exact .inl ⟨k,j0 ndP hp hu k⟩
  ·obtain ⟨c,e⟩:=lZ (n:=s.heap.objs.size+1) k
   refine .inr ⟨.inl k,c,e,?_⟩
   have q:=x.cell y c e
   rw[jP ndP hp hu (by show scope.names.lookup y≠_;rw[k];decide)] at q
   exact q
 ·exact e0.hok.fresh (BX (x.above y c (BD h)))
 ·unfold start
  show _=N.length
  rw[Bx,Aq,CV]
  omega
theorem v5 {CX:CXT}{P:AC}{w:World}{K:Ao}{mg:Str→Option Value}{base:Heap}{k:Nat}{f:Addr}{name qual:Str}{params:GU}{body:List Stmt}{scope:Scope}{dV kV doc pm cdv ct oc:Value}{an od:Option Addr}
  {osl:Array (Option Value)}{N ps:List Str}{sp:Sp} (lk:K.lookup f=some ⟨oc,od,.func (AS name qual params body scope dV kV doc pm an cdv ct),osl⟩) (hcd:AH K cdv qual=true) (S:aD N ps scope)
  (len:∀vs H Q E,sp vs H Q E→vs.length=ps.length)
  (hbody:∀(A:A4) (outer:List Env) (s:Ar) (H:Hp) (vs:List V) (Q:VK) (E:XK),dF k (A.deeper (GB qual scope s.heap.objs.size f cdv))→sp vs H Q E→
   ∃t,PSs (mI CX P w K mg base N qual scope f cdv A outer s H E) body t∧t {nx:=fun _ H'=>Q .non H',rt:=Q } (start N vs) H):
  bA P w K mg base CX (k+1) f (AS name qual params body scope dV kV doc pm an cdv ct) ps sp:=by
 refine ⟨len,fun A outer s H args us vs Q E hr e0 hb r hsp=>?_⟩
 have hl:=len _ _ _ _ hsp
 have KX:K.In s.heap:=e0.mod.kin.keeps fun b o e=>(e0.bs b o e).1
 have lim:s.heap.NoLimit:=e0.mod.nolimit.keeps fun b o e=>(e0.bs b o e).1
 have hkind:∀y∈ps.zip us,scope.names.lookup y.1=some .local∨(scope.names.lookup y.1=some .cell∧((HM (s.heap.objs.size+1) scope.names []).lookup y.1).isSome=true):=fun ⟨n,v⟩ hy=>by
  rcases S.par n (Ga hy).1 with q |q
  ·exact .inl q
  ·exact .inr ⟨q,Ea _ _ _ (.inl q)⟩
 refine codeAny_call_function hr.depth (KX _ _ lk) rfl S.co S.gen rfl (PySem.W.codeRec_of KX hcd) (hb _ _ _ _ ?_)
 refine wpAny_newFunctionEnv_cells S.kind hkind fun env he s1 x=>?_
 subst he
 refine ⟨lim.keeps x.toInCall.keep,codeAny_func ?_⟩
 obtain ⟨t,ht,hq⟩:=hbody A outer s H vs Q E (hr.deeper _) hsp
 have I:Inv (mI CX P w K mg base N qual scope f cdv A outer s H E) [] (start N vs) H s1:=qY S hr.hd e0 hl r x
 refine Cv (ht [] s1 (start N vs) H _ I hq) (fun fl s' hs=>?_) fun e s' hs=>hs
 have fin:∀{σ':St}{H':Hp}{v:V}{u:Value},Inv (mI CX P w K mg base N qual scope f cdv A outer s H E) [] σ' H' s'→aY v u→Q v H'→CE outer P w H s Q u s':=
  fun {σ' H' v u} J rv q=>⟨v,H',J.os,J.bare,J.base,J.hok,rv,q⟩
 cases fl with
 |ret u=>
  obtain ⟨v,σ',H',J,rv,q⟩:=hs
  exact fin J rv q
 |next=>
  obtain ⟨σ',H',J,q⟩:=hs
  exact fin (v:=V.non) (u:=AY) J rfl q
 |brk=>
  obtain ⟨_,_,_,q⟩:=hs
  exact False.elim q
 |cont=>
  obtain ⟨_,_,_,q⟩:=hs
  exact False.elim q
section
variable {X:Cx}{x:Str}{p pos:Pos}{e:Expr}{es:List Expr}{t:TA}{id T:String}{r:List V→Hp→VK→Prop}
def tCB (r:List V→Hp→VK→Prop) (t:TA):TE:=fun σ H Q=>t σ H fun vs H1=>r vs H1 Q
theorem lH (hc:eB X (.builtin id) r) (hg:Gl X x) (hm:X.mg x=none) (hv:Cg x=some (.builtin id)) (ha:PA X (e::es) t) (hn:x≠"__name__":=by decide) (hdb:(x==("__debug__":Str))=false:=by decide)
  (he:AK (e::es) X.env=(false,eval e X.env)::AK es X.env:=by rfl) (hpl:(Eo pos (AK es X.env)).any (·.1)=false:=by rfl):PE X (.Call (.Name x p) (e::es) [] pos) (tCB r t):=by
 intro pins s σ H Q I h
 refine BB (dk I hg hm hv ?_ hn hdb)
 exact PyProof.Rows.callWith_builtin1 (thn (ha pos pins s σ H _ I h) fun us s1 ⟨vs,H1,I1,r1,q1⟩=>hc pins s1 σ H1 vs us Q I1 r1 q1) he hpl
theorem qT (hc:eB X (.type T) r) (hg:Gl X x) (hm:X.mg x=none) (hv:Cg x=some (.type T)) (ha:PA X (e::es) t) (hn:x≠"__name__":=by decide) (hdb:(x==("__debug__":Str))=false:=by decide)
  (he:AK (e::es) X.env=(false,eval e X.env)::AK es X.env:=by rfl) (hpl:(Eo pos (AK es X.env)).any (·.1)=false:=by rfl):PE X (.Call (.Name x p) (e::es) [] pos) (tCB r t):=by
 intro pins s σ H Q I h
 refine BB (dk I hg hm hv ?_ hn hdb)
 exact PyProof.Rows.callWith_type1 (thn (ha pos pins s σ H _ I h) fun us s1 ⟨vs,H1,I1,r1,q1⟩=>hc pins s1 σ H1 vs us Q I1 r1 q1) he hpl
end
end L2
namespace HT
open PySem PyProof.Rows
section
open PySem.SeqAt
open PySem.AutoSeq1 (wpAny_loadPart')
open PySem.MeetsSeq PySem.MeetsSeq2 PySem.MeetsSeq3
end
section
variable {prog:AC}{w:World}{A:A4}{E:Value→Ar→Prop}{s:Ar}
def sIx (n d:Nat):Option Int→Nat
 |none=>d
 |some v=>if v < 0 then (v+(n:Int)).toNat else min v.toNat n
end
end HT
namespace L2
open PySem PySem.Spec PyProof.Rows
abbrev TO:=St→Hp→(Option Int→Hp→Prop)→Prop
def PO (X:Cx) (e:Option Expr) (t:TO):Prop:=
 ∀(pins:List (Addr×Obj)) (s:Ar) (σ:St) (H:Hp) (Q:Option Int→Hp→Prop),Inv X pins σ H s→t σ H Q→
  wpAny (model X.prog X.w) X.A (evalPart e X.env) (fun u s'=>∃o H',Inv X pins σ H' s'∧IsPart u o∧Q o H') X.xe s
def uQ:TO:=fun _ H Q=>Q none H
def yX (t:TE):TO:=fun σ H Q=>t σ H fun x H1=>∃i,x=.int i∧Q (some i) H1
section
variable {X:Cx}{e:Expr}{te:TE}{lo hi:Option Expr}{tl th:TO}{pos p2:Pos}
theorem vP:PO X none uQ:=by
 intro pins s σ H Q I h
 rw[GV]
 exact As ⟨none,H,I,.none,h⟩
theorem vC (h:PE X e te):PO X (some e) (yX te):=by
 intro pins s σ H Q I hw
 rw[EF]
 refine thn (h pins s σ H _ I hw) fun u s1 ⟨x,H1,I1,r1,q1⟩=>?_
 obtain ⟨i,rfl,q⟩:=q1
 obtain ⟨t,rfl⟩:=r1
 exact ⟨some i,H1,I1,.int i t,q⟩
def SlR (X:Cx) (r:V→Option Int→Option Int→Hp→VK→Prop):Prop:=
 ∀(pins:List (Addr×Obj)) (s:Ar) (σ:St) (H:Hp) (x:V) (v vl vu:Value) (lo hi:Option Int) (sl:Addr) (Q:VK),Inv X pins σ H s→aY x v→s.heap.IsSliceOf sl vl vu .none→IsPart vl lo→IsPart vu hi→r x lo hi H Q→
  ∃T id,typeLookup (.type T) "__getitem__"=pure (some (.builtin id))∧s.TypeIs v T∧wpAny (model X.prog X.w) X.A (getItem v (.ref sl)) (EP X pins σ Q) X.xe s
def tSl (r:V→Option Int→Option Int→Hp→VK→Prop) (te:TE) (tl th:TO):TE:=fun σ H Q=>te σ H fun x H1=>tl σ H1 fun l H2=>th σ H2 fun u H3=>r x l u H3 Q
theorem r_ {r:V→Option Int→Option Int→Hp→VK→Prop} (hr:SlR X r) (he:PE X e te) (hl:PO X lo tl) (hu:PO X hi th):PE X (.Subscript e (.Slice lo hi none p2) pos) (tSl r te tl th):=by
 intro pins s σ H Q I h
 refine Hc (thn (he pins s σ H _ I h) fun v s1 ⟨x,H1,I1,r1,q1⟩=>?_)
 refine HN (thn (hl pins s1 σ H1 _ I1 q1) fun vl s2 ⟨l,H2,I2,pl,q2⟩=>thn (hu pins s2 σ H2 _ I2 q2) fun vu s3 ⟨u,H3,I3,pu,q3⟩=>?_)
 rw[GV]
 refine As ?_
 have I4:Inv X pins σ H3 {s3 with heap:=s3.heap.push {cls:=.type "slice",data:=.fields #[vl,vu,.none] } }:=I3.kept (t':=s3.toks) fun b ob q=>Ap _ q
 obtain ⟨T,id,hT,ht,hg⟩:=hr pins {s3 with heap:=s3.heap.push {cls:=.type "slice",data:=.fields #[vl,vu,.none] } } σ H3 x v vl vu l u s3.heap.objs.size Q I4 r1 (E2 ..) pl pu q3
 show wpAny (model X.prog X.w) X.A (Fz e (.Slice lo hi none p2) v (.ref s3.heap.objs.size)) (EP X pins σ Q) X.xe {s3 with heap:=s3.heap.push {cls:=.type "slice",data:=.fields #[vl,vu,.none] } }
 exact tail_any (ops:=[.ref s3.heap.objs.size,v]) ht hT hg (by with_unfolding_all rfl)
def qF (xs:List V) (lo hi:Option Int):List V:=(xs.drop (HT.sIx xs.length 0 lo)).take (HT.sIx xs.length xs.length hi - HT.sIx xs.length 0 lo)
theorem lP (xs:List V) (lo hi:Option Int):(qF xs lo hi).length≤xs.length:=by
 unfold qF
 rw[Hx,Hy]
 omega
end
def ixN (n:Nat) (i:Int):Option Nat:=if 0≤i then (if i < n then some i.toNat else none) else if -(n:Int)≤i then some (i+n).toNat else none
def atI {α:Type} (xs:List α) (i:Int):Option α:=(ixN xs.length i).bind fun j=>xs[j]?
theorem vo {n:Nat}{i:Int}{j:Nat} (h:ixN n i=some j):seqIndex? i n=some j∧j < n∧-(n:Int)≤i∧i < n:=by
 unfold ixN at h
 by_cases h0:0≤i
 ·rw[if_pos h0] at h
  by_cases h1:i < n
  ·rw[if_pos h1] at h
   have e:i.toNat=j:=Bo h
   exact ⟨by rw[seqIndex_of h0 h1,e],by omega,by omega,h1⟩
  ·rw[if_neg h1] at h;cases h
 ·rw[if_neg h0] at h
  by_cases h1:-(n:Int)≤i
  ·rw[if_pos h1] at h
   have e:(i+n).toNat=j:=Bo h
   exact ⟨by rw[seqIndex_neg (by omega) h1,e],by omega,h1,by omega⟩
  ·rw[if_neg h1] at h;cases h
theorem oT {α:Type}{xs:List α}{i:Int}{v:α} (h:atI xs i=some v):∃j,seqIndex? i xs.length=some j∧xs[j]?=some v∧j < xs.length∧-(xs.length:Int)≤i∧i < xs.length:=by
 unfold atI at h
 cases e:ixN xs.length i with
 |none=>rw[e] at h;cases h
 |some j=>
  rw[e] at h
  obtain ⟨h1,h2,h3,h4⟩:=vo e
  exact ⟨j,h1,h,h2,h3,h4⟩
theorem o6 {α:Type}{xs:List α}{j:Nat}{v:α} (h:xs[j]?=some v):atI xs (j:Int)=some v:=by
 have hj:j < xs.length:=(AF.mp h).1
 have e:ixN xs.length (j:Int)=some j:=by
  unfold ixN
  rw[if_pos (by omega),if_pos (by omega)];simp
 unfold atI;rw[e];exact h
def iX (b:Expr):Prop:=∀o i,subscripted b false o i=operate [o,i] (getItem o i)
def IxR (X:Cx) (r:R2):Prop:=
 ∀(value slice:Expr) (pins:List (Addr×Obj)) (s:Ar) (σ:St) (H:Hp) (x y:V) (v u:Value) (Q:VK),Inv X pins σ H s→aY x v→aY y u→r x y H Q→
  subscripted slice false v u=operate [v,u] (getItem v u)→wpAny (model X.prog X.w) X.A (Fz value slice v u) (EP X pins σ Q) X.xe s
def MtR (X:Cx) (id:String) (r:V→List V→Hp→VK→Prop):Prop:=
 ∀(pins:List (Addr×Obj)) (s:Ar) (σ:St) (H:Hp) (x:V) (xs:List V) (v:Value) (us:List Value) (Q:VK),Inv X pins σ H s→aY x v→aV xs us→r x xs H Q→
  wpAny (model X.prog X.w) X.A (call (.builtin id) (v::us)) (EP X pins σ Q) X.xe s
section
variable {X:Cx}{a b:Expr}{ta tb:TE}{pos:Pos}
theorem IxR.or {r r':R2} (h:IxR X r) (h':IxR X r'):IxR X (fun x y H Q=>r x y H Q∨r' x y H Q):=by
 intro value slice pins s σ H x y v u Q I rx ry q hs
 rcases q with q |q
 ·exact h value slice pins s σ H x y v u Q I rx ry q hs
 ·exact h' value slice pins s σ H x y v u Q I rx ry q hs
theorem ww {r:R2} (hr:IxR X r) (ha:PE X a ta) (hb:PE X b tb) (hs:iX b):PE X (.Subscript a b pos) (tOp r ta tb):=by
 intro pins s σ H Q I h
 exact Hc (xf ha hb I h fun v u s2 x y H2 I2 rx ry q=>hr a b pins s2 σ H2 x y v u Q I2 rx ry q (hs _ _))
def zV (K:Ao):R2:=fun x y H Q=>∃p xs i v,x=.ref p∧y=.int i∧SqL K H p xs∧atI xs i=some v∧Q v H
def z_ (K:Ao):R2:=fun x y H Q=>∃p xs i v,x=.ref p∧y=.int i∧SqT K H p xs∧atI xs i=some v∧Q v H
theorem pL:IxR X (zV X.K):=by
 intro value slice pins s σ H x y v u Q I rx ry h hs
 obtain ⟨p,xs,i,z,rfl,rfl,hq,he,q⟩:=h
 cases rx
 obtain ⟨t,rfl⟩:=ry
 obtain ⟨its,r,pl,hz⟩:=I.list hq
 obtain ⟨j,h1,h2,h3,h4,h5⟩:=oT he
 obtain ⟨w,ew,rw'⟩:=r.get h2
 have hl:=r.length
 have hn:=om
 have fin:EP X pins σ Q w s:=⟨z,H,I,rw',q⟩
 by_cases h0:0≤i
 ·have hj:i.toNat=j:=by
   rw[seqIndex_of h0 h5] at h1
   exact Bo h1
  exact item_listR pl.isList h0 (by omega) (by rw[hj];simpa using ew) fin hs
 ·have hj:(i+(its.toArray.size:Int)).toNat=j:=by
   rw[seqIndex_neg (by omega) h4] at h1
   rw[AN,←hl]
   exact Bo h1
  exact FQ (x:=w) pl.isList.typeIs slot_list_getitem.lookup
   (wpAny_getItem_list_neg (Q:=fun r s'=>r=w∧EP X pins σ Q r s') pl.isList (by omega) (by rw[AN] <;>omega) (by omega) (by rw[hj];simpa using ew) ⟨rfl,fin⟩) hs
theorem xw:IxR X (z_ X.K):=by
 intro value slice pins s σ H x y v u Q I rx ry h hs
 obtain ⟨p,xs,i,z,rfl,rfl,hq,he,q⟩:=h
 cases rx
 obtain ⟨t,rfl⟩:=ry
 obtain ⟨its,r,pl,hz⟩:=I.tuple hq
 obtain ⟨j,h1,h2,h3,h4,h5⟩:=oT he
 obtain ⟨w,ew,rw'⟩:=r.get h2
 have hl:=r.length
 have hn:=om
 have fin:EP X pins σ Q w s:=⟨z,H,I,rw',q⟩
 exact FQ (x:=w) pl.typeIs slot_tuple_getitem.lookup
  (getItem_tuple (j:=j) (Q:=fun r s'=>r=w∧EP X pins σ Q r s') pl (by omega) (by omega) (by rw[AN,←hl];exact h1) (by simpa using ew) ⟨rfl,fin⟩) hs
theorem lg (lo hi:Option Int) (n:Nat):(C4 lo hi none n).1=((HT.sIx n 0 lo:Nat):Int)∧(C4 lo hi none n).2.1=((HT.sIx n n hi:Nat):Int)∧(C4 lo hi none n).2.2=1:=by
 refine ⟨?_,?_,rfl⟩
 ·cases lo with
  |none=>simp[C4,HT.sIx]
  |some i=>
   simp only[C4,HT.sIx,Hz,show (1:Int) >0 by decide,if_true]
   by_cases h:i < 0
   ·simp only[h,if_true] <;>omega
   ·simp only[h,if_false] <;>omega
 ·cases hi with
  |none=>simp[C4,HT.sIx]
  |some i=>
   simp only[C4,HT.sIx,Hz,show (1:Int) >0 by decide,if_true]
   by_cases h:i < 0
   ·simp only[h,if_true] <;>omega
   ·simp only[h,if_false] <;>omega
theorem jD (its:List Value) (lo hi:Option Int):HP its.toArray lo hi none=((its.drop (HT.sIx its.length 0 lo)).take (HT.sIx its.length its.length hi - HT.sIx its.length 0 lo)).toArray:=by
 obtain ⟨h1,h2,h3⟩:=lg lo hi its.toArray.size
 unfold HP
 rw[h1,h2,h3]
 simp only[sliceRange_one,pick_run,AN] <;>rfl
def z9 (K:Ao):V→Option Int→Option Int→Hp→VK→Prop:=fun x lo hi H Q=>∃a xs,x=.ref a∧SqL K H a xs∧∀p,H p=none→Q (.ref p) (upd H p (.lst (qF xs lo hi)))
theorem vI:SlR X (z9 X.K):=by
 intro pins s σ H x v vl vu lo hi sl Q I rx hs pl pu h
 obtain ⟨a,xs,rfl,hx,q⟩:=h
 cases rx
 obtain ⟨its,r,ht,hz⟩:=I.list hx
 have hlen:=r.length
 refine ⟨"list",_,slot_list_getitem.lookup,ht.isList.typeIs,?_⟩
 refine DV ht.isList hs pl pu .none (by simp) ?_ (by rw[AN] <;>omega)
 rw[jD,←hlen]
 refine ⟨.ref s.heap.objs.size,_,I.laid (t':=s.toks) (o:=.lst (qF xs lo hi)) (fun b ob q=>Ap _ q) (Aw _) ?_,rfl,q _ (I.hok.fresh (Aw _))⟩
 exact ⟨B9 (lP xs lo hi) hz,_,0,(r.drop (HT.sIx xs.length 0 lo)).take (HT.sIx xs.length xs.length hi - HT.sIx xs.length 0 lo),AD _ rfl⟩
def gl:V→Bool
 | .non=>true
 | .bl _=>true
 | .int _=>true
 | .str _=>true
 |_=>false
def eqV:V→V→Bool
 | .non,.non=>true
 | .bl a,.bl b=>a==b
 | .bl a,.int b=>(if a then 1 else 0)==b
 | .int a,.bl b=>a==(if b then 1 else 0)
 | .int a,.int b=>a==b
 | .str a,.str b=>a==b
 |_,_=>false
theorem xU {A:A4}{s:Ar}{y x:V}{u v:Value} (ry:aY y u) (rx:aY x v) (fy:gl y=true) (fx:gl x=true):SeqAt.EqAt A s u v (eqV y x):=by
 cases y with
 |non=>
  cases ry
  cases x with
  |non=>cases rx;exact SeqAt.EqAt.same _
  |bl b=>cases rx;exact SeqAt.EqAt.none_bool b
  |int b=>obtain ⟨t,rfl⟩:=rx;exact SeqAt.EqAt.none_int b t
  |str b=>obtain ⟨t,rfl⟩:=rx;exact SeqAt.EqAt.none_str b t
  |_=>exact absurd (show false=true from fx) AX
 |bl a=>
  cases ry
  cases x with
  |non=>cases rx;exact SeqAt.EqAt.bool_none a
  |bl b=>cases rx;exact SeqAt.EqAt.bool_bool a b
  |int b=>obtain ⟨t,rfl⟩:=rx;exact SeqAt.EqAt.bool_int a b t
  |str b=>obtain ⟨t,rfl⟩:=rx;exact SeqAt.EqAt.bool_str a b t
  |_=>exact absurd (show false=true from fx) AX
 |int a=>
  obtain ⟨t',rfl⟩:=ry
  cases x with
  |non=>cases rx;exact SeqAt.EqAt.int_none a t'
  |bl b=>cases rx;exact SeqAt.EqAt.int_bool a t' b
  |int b=>obtain ⟨t,rfl⟩:=rx;exact SeqAt.EqAt.int_int a t' b t
  |str b=>obtain ⟨t,rfl⟩:=rx;exact SeqAt.EqAt.int_str a t' b t
  |_=>exact absurd (show false=true from fx) AX
 |str a=>
  obtain ⟨t',rfl⟩:=ry
  cases x with
  |non=>cases rx;exact SeqAt.EqAt.str_none a t'
  |bl b=>cases rx;exact SeqAt.EqAt.str_bool a t' b
  |int b=>obtain ⟨t,rfl⟩:=rx;exact SeqAt.EqAt.str_int a t' b t
  |str b=>obtain ⟨t,rfl⟩:=rx;exact SeqAt.EqAt.str_str a t' b t
  |_=>exact absurd (show false=true from fx) AX
 |_=>exact absurd (show false=true from fy) AX
def eqU (x:V) (u:Value):Bool:=match u with
 | .none=>eqV .non x
 | .bool b=>eqV (.bl b) x
 | .int i _=>eqV (.int i) x
 | .str z _=>eqV (.str z) x
 |_=>false
theorem sn {x y:V}{u:Value} (r:aY y u) (f:gl y=true):eqU x u=eqV y x:=by
 cases y with
 |non=>cases r;rfl
 |bl b=>cases r;rfl
 |int i=>obtain ⟨t,rfl⟩:=r;rfl
 |str z=>obtain ⟨t,rfl⟩:=r;rfl
 |_=>exact absurd (show false=true from f) AX
theorem kT {x:V}:∀{xs:List V}{us:List Value},aV xs us→xs.all gl=true→us.any (eqU x)=xs.any fun y=>eqV y x
 |_,_,.nil,_=>rfl
 |y::xs,u::us,.cons r t,f=>by
  rw[EG,BR] at f
  rw[Jk,Jk,sn r f.1,kT t f.2]
theorem je {A:A4}{s:Ar}{x:V}{v:Value} (rx:aY x v) (fx:gl x=true):∀{xs:List V}{us:List Value},aV xs us→xs.all gl=true→∀u∈us,SeqAt.EqAt A s u v (eqU x u)
 |_,_,.nil,_=>fun u hu=>by cases hu
 |y::xs,u::us,.cons r t,f=>fun u' hu=>by
  rw[EG,BR] at f
  rcases Ay.mp hu with rfl |hu
  ·rw[sn r f.1];exact xU r rx f.1 fx
  ·exact je rx fx t f.2 u' hu
def inV (x:V) (xs:List V):Bool:=xs.any fun y=>eqV y x
def rIn (K:Ao) (neg:Bool):R2:=fun x y H Q=>∃p xs,y=.ref p∧(SqL K H p xs∨SqT K H p xs)∧gl x=true∧xs.all gl=true∧Q (.bl (if neg then !inV x xs else inV x xs)) H
theorem qO:OpR X (BZ .In) (rIn X.K false):=by
 intro pins s σ H x y v u Q I rx ry h
 obtain ⟨p,xs,rfl,hq,fx,fs,q⟩:=h
 cases ry
 rcases hq with hq |hq
 ·obtain ⟨its,r,pl,hz⟩:=I.list hq
  refine SeqAt.in_listAt (eqU x) pl.isList (fun w hw=>je rx fx r fs w (by simpa using hw)) ⟨.bl _,H,I,rfl,?_⟩
  rw[show its.toArray.any (eqU x)=its.any (eqU x) by simp,kT r fs]
  exact q
 ·obtain ⟨its,r,pl,hz⟩:=I.tuple hq
  refine SeqAt.in_tupleAt (eqU x) pl (fun w hw=>je rx fx r fs w (by simpa using hw)) ⟨.bl _,H,I,rfl,?_⟩
  rw[show its.toArray.any (eqU x)=its.any (eqU x) by simp,kT r fs]
  exact q
theorem hW:eB X (.builtin "len") (fun xs H Q=>∃p ys,xs=[.ref p]∧(SqL X.K H p ys∨SqT X.K H p ys)∧Q (.int ys.length) H):=by
 intro pins s σ H xs us Q I r h
 obtain ⟨p,ys,rfl,hq,q⟩:=h
 obtain ⟨u,rfl,rx⟩:=ig r
 cases rx
 have hn:=om
 rcases hq with hq |hq
 ·obtain ⟨its,r',pl,hz⟩:=I.list hq
  have hlen:=r'.length
  exact Calls.call_len_list pl.isList (by simp only[AN] <;>omega) ⟨.int ys.length,H,I.tok _,⟨s.toks+1,by rw[AN,hlen]⟩,q⟩
 ·obtain ⟨its,r',pl,hz⟩:=I.tuple hq
  have hlen:=r'.length
  exact len_tuple pl (by simp only[AN] <;>omega) ⟨.int ys.length,H,I.tok _,⟨s.toks+1,by rw[AN,hlen]⟩,q⟩
theorem ll:eB X (.type "list") (fun xs H Q=>∃p ys,xs=[.ref p]∧(SqL X.K H p ys∨SqT X.K H p ys)∧∀l,H l=none→Q (.ref l) (upd H l (.lst ys))):=by
 intro pins s σ H xs us Q I r h
 obtain ⟨p,ys,rfl,hq,q⟩:=h
 obtain ⟨u,rfl,rx⟩:=ig r
 cases rx
 have fin:∀(its:List Value),aV ys its→ys.length≤sizeLine→∀(h':Heap) (c':Nat),(∀b o',s.heap.get? b=some o'→h'.get? b=some o')→
   h'.get? s.heap.objs.size=some {cls:=.type "list",dict:=none,data:=.seq its.toArray c',slots:=#[] }→EP X pins σ Q (.ref s.heap.objs.size) {s with heap:=h' }:=fun its r' hz h' c' kp e=>
  ⟨.ref s.heap.objs.size,_,I.laid (t':=s.toks) kp (Aw _) (show cE X.prog X.w _ h' _ (.lst ys) from ⟨hz,its,c',r',e⟩),rfl,q _ (I.hok.fresh (Aw _))⟩
 rcases hq with hq |hq
 ·obtain ⟨its,r',pl,hz⟩:=I.list hq
  have hlen:=r'.length
  obtain ⟨o,ho,hc,n,hd⟩:=pl.isList
  exact call_list_seq p (.inl rfl) ho hc hd (fun h' c' kp e=>fin its r' hz h' c' kp e) (by simp only[AN] <;>omega)
 ·obtain ⟨its,r',pl,hz⟩:=I.tuple hq
  have hlen:=r'.length
  obtain ⟨o,ho,hc,n,hd⟩:=pl
  exact call_list_seq p (.inr rfl) ho hc hd (fun h' c' kp e=>fin its r' hz h' c' kp e) (by simp only[AN] <;>omega)
def tyV (K:Ao) (T:String) (x:V) (H:Hp):Prop:=match x with
 | .str _=>T="str"
 | .int _=>T="int"
 | .ref p=>(T="list"∧∃xs,SqL K H p xs)∨(T="tuple"∧∃o,K.lookup p=some o∧o.cls=.type "tuple"∧o.dict=none)∨
   (T="dict"∧((∃kvs,H p=some (.dK kvs))∨∃kvs,H p=some (.dT kvs)))∨(T="set"∧∃S n,H p=some (.set S n))
 |_=>False
theorem tE {pins:List (Addr×Obj)}{σ:St}{H:Hp}{s:Ar}{T:String}{x:V}{v:Value} (I:Inv X pins σ H s) (r:aY x v) (ty:tyV X.K T x H):
  s.TypeIs v T∧∀a,v=.ref a→∃ob,s.heap.get? a=some ob∧ob.dict=none:=by
 cases x with
 |str z=>
  obtain ⟨t,rfl⟩:=r
  cases (show T="str" from ty)
  exact ⟨typeIs_str s z t,fun _ e=>nomatch e⟩
 |int i=>
  obtain ⟨t,rfl⟩:=r
  cases (show T="int" from ty)
  exact ⟨Jf s i t,fun _ e=>nomatch e⟩
 |ref p=>
  cases r
  rcases ty with ⟨rfl,xs,hq⟩ |⟨rfl,o,hk,hc,hd⟩ |⟨rfl,hk⟩ |⟨rfl,S,n,hk⟩
  ·obtain ⟨its,_,pl,_⟩:=I.list hq
   refine ⟨pl.isList.typeIs,fun a e=>?_⟩
   cases e
   obtain ⟨o,n,e,c,hd,_⟩:=pl
   exact ⟨o,e,hd⟩
  ·refine ⟨⟨o,I.kIn p o hk,hc⟩,fun a e=>?_⟩
   cases e
   exact ⟨o,I.kIn _ o hk,hd⟩
  ·have z:∃o,s.heap.get? p=some o∧o.ExactDict:=by
    rcases hk with ⟨kvs,hk⟩ |⟨kvs,hk⟩
    ·obtain ⟨_,_,_,_,o,_,_,e,ex,_⟩:=I.hok p _ hk
     exact ⟨o,e,ex⟩
    ·obtain ⟨_,_,_,_,o,_,_,e,ex,_⟩:=I.hok p _ hk
     exact ⟨o,e,ex⟩
   obtain ⟨o,e,ex⟩:=z
   refine ⟨⟨o,e,ex.1⟩,fun a e2=>?_⟩
   cases e2
   exact ⟨o,e,ex.2.1⟩
  ·obtain ⟨o,_,_,_,e,ex,_⟩:=I.hok p _ hk
   refine ⟨⟨o,e,ex.1⟩,fun a e2=>?_⟩
   cases e2
   exact ⟨o,e,ex.2.1⟩
 |_=>exact False.elim ty
def zE (K:Ao) (T:String) (r:V→List V→Hp→VK→Prop) (to:TE):TE:=fun σ H Q=>to σ H fun x H1=>tyV K T x H1∧r x [] H1 Q
def tBM (K:Ao) (T:String) (r:V→List V→Hp→VK→Prop) (to:TE) (t:TA):TE:=fun σ H Q=>to σ H fun x H1=>tyV K T x H1∧t σ H1 fun xs H2=>r x xs H2 Q
variable {o e:Expr}{es:List Expr}{to:TE}{t:TA}{name:Str}{apos cpos:Pos}{T id:String}{r:V→List V→Hp→VK→Prop}
theorem xk (pa:PlainAttrs T) (slot:Slot T name id) (hty:typeOf (.builtin id)=pure (.type "method_descriptor")) (hm:MtR X id r) (ho:PE X o to)
  (hbase:FA o name X.env (eval o X.env)=eval o X.env:=by rfl) (hline:(apos.endLine==cpos.line)=true:=by rfl):PE X (.Call (.Attribute o name apos) [] [] cpos) (zE X.K T r to):=by
 intro pins s σ H Q I h
 refine wpAny_Call_method0_late hbase hline (thn (ho pins s σ H _ I h) fun v s1 ⟨x,H1,I1,r1,ty,q1⟩=>?_)
 obtain ⟨h1,h2⟩:=tE I1 r1 ty
 exact ⟨T,id,pa,slot,hty,h1,h2,FR rfl (PySem.evalArgs_none (hm pins s1 σ H1 x [] v [] Q I1 r1 .nil q1))⟩
theorem yF (pa:PlainAttrs T) (slot:Slot T name id) (hty:typeOf (.builtin id)=pure (.type "method_descriptor")) (hm:MtR X id r) (ho:PE X o to) (ha:PA X (e::es) t)
  (hbase:FA o name X.env (eval o X.env)=eval o X.env:=by rfl)
  (hfew:((Eo cpos (AK (e::es) X.env)).all (fun x=>!x.1) && (backToKw cpos (keywordEach [] X.env)).all (fun x=>x.1.isSome)
   && decide ((e::es).length+([]:List HL).length+(if ([]:List HL).isEmpty then 0 else 1) < 30))=true:=by rfl)
  (hline:(apos.endLine==cpos.line)=true:=by rfl) (hs:AK (e::es) X.env=(false,eval e X.env)::AK es X.env:=by rfl) (hplain:(Eo cpos (AK es X.env)).any (·.1)=false:=by rfl):
  PE X (.Call (.Attribute o name apos) (e::es) [] cpos) (tBM X.K T r to t):=by
 intro pins s σ H Q I h
 refine wpAny_Call_method_late hbase hfew hline rfl (thn (ho pins s σ H _ I h) fun v s1 ⟨x,H1,I1,r1,ty,q1⟩=>?_)
 obtain ⟨h1,h2⟩:=tE I1 r1 ty
 refine ⟨T,id,pa,slot,hty,h1,h2,?_⟩
 have hA:=ha cpos pins s1 σ H1 _ I1 q1
 rw[hs] at hA ⊢
 refine FR (by show (false || (Eo cpos (AK es X.env)).any (·.1))=false;rw[hplain] <;>rfl) (Calls.evalArgs_plain ?_)
 exact thn hA fun us s2 ⟨vs,H2,I2,r2,q2⟩=>hm pins s2 σ H2 x vs v us Q I2 r1 r2 q2
/- xs.append(e),list.index on a module's tuple .. are MtR facts of 06m -/
end
def MtM (X:Cx) (id:String) (r:V→List V→Hp→VK→Prop):Prop:=
 ∀(pins:List (Addr×Obj)) (s:Ar) (σ:St) (H:Hp) (x:V) (xs:List V) (v:Value) (us:List Value) (Q:VK),Inv X pins σ H s→aY x v→aV xs us→r x xs H Q→
  wpAny (model X.prog X.w) X.A (call (.builtin id) (v::us)) (EP X pins σ Q) X.xe s
theorem aV.one:∀{x:V}{us:List Value},aV [x] us→∃u,us=[u]∧aY x u
 |_,_,.cons r .nil=>⟨_,rfl,r⟩
theorem aV.zero:∀{us:List Value},aV [] us→us=[]
 |_,.nil=>rfl
theorem aV.dropLast {xs:List V}{us:List Value} (h:aV xs us):aV xs.dropLast us.dropLast:=by
 induction h with
 |nil=>exact .nil
 |cons r t ih=>
  cases t with
  |nil=>exact .nil
  |cons q t'=>exact .cons r ih
theorem n5 {α:Type} (l:List α):l.eraseIdx (l.length - 1)=l.dropLast:=by
 induction l with
 |nil=>rfl
 |cons a r ih=>
  cases r with
  |nil=>rfl
  |cons b r=>
   have e:(a::b::r).length - 1=((b::r).length - 1)+1:=by
    have h1:(a::b::r).length=r.length+2:=rfl
    have h2:(b::r).length=r.length+1:=rfl
    omega
   rw[e,List.eraseIdx_cons_succ,ih]
   all_goals rfl
section
variable {X:Cx}{pins:List (Addr×Obj)}{σ:St}{H:Hp}{s:Ar}{l b:Addr}{xs ys zs:List V}
theorem Inv.lset {its its':List Value}{n:Nat}{f:Array Value→Array Value}{t':Nat} (I:Inv X pins σ H s) (hH:H l=some (.lst xs))
  (e:s.heap.get? l=some {cls:=.type "list",data:=.seq its.toArray n }) (hf:f its.toArray=its'.toArray) (hv:aV ys its') (hz:ys.length≤sizeLine):
  Inv X pins σ (upd H l (.lst ys)) {s with heap:=s.heap.update l (BL f),toks:=t' }:=by
 have q:=PySem.IsL.update e f
 rw[hf] at q
 refine I.write (x:=l) (e:=l) (by rw[hH];exact trivial) (.inl rfl) (fun b' u hb hu=>(Ba s.heap (BL f) (Ne.symm hb)).trans hu) ⟨_,q⟩ ?_
 exact ⟨hz,its',_,hv,q⟩
theorem Inv.lnew {its:List Value}{t':Nat} (I:Inv X pins σ H s) (hv:aV ys its) (hz:ys.length≤sizeLine):
  Inv X pins σ (upd H s.heap.objs.size (.lst ys)) {s with heap:=s.heap.push {cls:=.type "list",data:=.seq its.toArray },toks:=t' }:=
 I.laid (fun _ _ q=>Ap _ q) (Aw _) ⟨hz,its,0,hv,AD _ rfl⟩
theorem Inv.fresh (I:Inv X pins σ H s):H s.heap.objs.size=none:=I.hok.fresh (Aw _)
theorem Inv.lstM (I:Inv X pins σ H s) (hH:H l=some (.lst xs)):xs.length≤sizeLine∧∃(its:List Value) (n:Nat),aV xs its∧xs.length=its.length∧s.heap.get? l=some {cls:=.type "list",data:=.seq its.toArray n }:=by
 obtain ⟨z,its,n,r,e⟩:=I.hok l _ hH
 exact ⟨z,its,n,r,r.length,e⟩
theorem y6 {n:Nat} (h:n≤sizeLine):Builtin.List.listTooLong n=false:=by
 unfold Builtin.List.listTooLong
 exact decide_eq_false (by omega)
end
section
variable {X:Cx}
def uY:V→List V→Hp→VK→Prop:=fun x vs H Q=>∃l xs y,x=.ref l∧vs=[y]∧H l=some (.lst xs)∧xs.length < sizeLine∧Q .non (upd H l (.lst (xs++[y])))
theorem iu:MtM X "list.append" uY:=by
 intro pins s σ H x vs v us Q I rx rv h
 obtain ⟨l,xs,y,rfl,rfl,hH,hz,q⟩:=h
 cases rx
 obtain ⟨u,rfl,ru⟩:=rv.one
 obtain ⟨z,its,n,r,hl,e⟩:=I.lstM hH
 refine call_meets F.slot_list_append ⟨_,e,rfl⟩ F.entry_list_append (F.args_list_append_2 _ _) (PySem.list_append l its.toArray n u (by rw[AN];omega)) ⟨e,?_⟩
 refine ⟨.non,_,I.lset (its':=its++[u]) hH e (by simp) (r.append (.cons ru .nil)) ?_,rfl,q⟩
 rw[Bx,Gb]
 omega
def zX:V→List V→Hp→VK→Prop:=fun x vs H Q=>∃l xs y,x=.ref l∧vs=[]∧H l=some (.lst xs)∧xs[xs.length - 1]?=some y∧Q y (upd H l (.lst xs.dropLast))
theorem wS:MtM X "list.pop" zX:=by
 intro pins s σ H x vs v us Q I rx rv h
 obtain ⟨l,xs,y,rfl,rfl,hH,hy,q⟩:=h
 cases rx
 have hus:=rv.zero
 subst hus
 obtain ⟨z,its,n,r,hl,e⟩:=I.lstM hH
 obtain ⟨u,hu,ru⟩:=r.get hy
 have hy':its.toArray[its.toArray.size - 1]?=some u:=by
  show its.toArray[its.length - 1]?=some u
  rw[←Bg,←hl]
  exact hu
 refine call_meets F.slot_list_pop ⟨_,e,rfl⟩ F.entry_list_pop (F.args_list_pop_1 _) (MeetsSeq.list_pop_last l its.toArray n u hy' (by rw[AN];omega)) ⟨e,?_⟩
 refine ⟨y,_,I.lset (its':=its.dropLast) hH e ?_ r.dropLast ?_,ru,q⟩
 ·show its.toArray.eraseIdxIfInBounds (its.toArray.size - 1)=its.dropLast.toArray
  rw[AN,List.eraseIdxIfInBounds_toArray,n5]
 ·rw[CA]
  omega
def Aa:R2:=fun x y H Q=>∃l b xs zs,x=.ref l∧y=.ref b∧H l=some (.lst xs)∧H b=some (.lst zs)∧xs.length+zs.length≤sizeLine∧∀p,H p=none→Q (.ref p) (upd H p (.lst (xs++zs)))
theorem wE:OpR X (Ej .Add) Aa:=by
 intro pins s σ H x y v u Q I rx ry h
 obtain ⟨l,b,xs,zs,rfl,rfl,hH,hB,hz,q⟩:=h
 cases rx
 cases ry
 obtain ⟨z,its,n,r,hl,e⟩:=I.lstM hH
 obtain ⟨z2,its2,n2,r2,hl2,e2⟩:=I.lstM hB
 refine PySem.P.add_list e e2 ?_ (by rw[AN,AN];omega)
 have ea:its.toArray++its2.toArray=(its++its2).toArray:=by simp
 rw[ea]
 exact ⟨.ref _,_,I.lnew (t':=s.toks) (r.append r2) (by rw[Bx];omega),rfl,q _ I.fresh⟩
end
section
variable {prog:AC}{w:World}{A:A4}{E:Value→Ar→Prop}{s:Ar}
end
section
variable {X:Cx}
end
end L2
namespace Att
open PySem PySem.W PySem.Calls PyProof.Rows
theorem iQ {P:Params}{h:Heap}:∀(ns:List Int) (vs:List Value),WellAll P h vs (ns.map WData.int)→Jl vs ns:=by
 intro ns
 induction ns with
 |nil=>
  intro vs w
  rw[List.map_nil] at w
  cases w
  exact .nil
 |cons n ns ih=>
  intro vs w
  rw[BE] at w
  cases w with
  |cons a b=>
   cases a
   exact .cons _ _ (ih _ b)
theorem script_of {l:OpenLaw}{n:Nat} (hn:l.most=some n) {P:Params}{h:Heap}{args:List WData}{vals:List Value}
  (hpre:l.row.toRowW.claim.pre args=true) (hwl:WellAll P h vals args):
  ∃a vs ns,vals=[Bi a]∧args=[WData.list (ns.map WData.int)]∧h.get? a=some {cls:=.type "list",data:=.seq vs.toArray }∧Jl vs ns∧ns.length≤n:=by
 have hsh:WShape.hasAll [] args [.list .int]=true:=(pre_splitW hpre).1
 have hc:l.pre.holds [] {args:=args }=true:=(pre_splitW hpre).2
 obtain ⟨d,r,rfl,h1,h2⟩:=hasAllW_cons hsh
 obtain rfl:=hasAllW_nil h2
 obtain ⟨xs,rfl,h3⟩:=hasW_list h1
 obtain ⟨ns,rfl⟩:=items_int h3
 have hlen:ns.length≤n:=by
  unfold OpenLaw.pre at hc
  have h4:(WTm.not (.lt (.lit (.int (n:Int))) (.len (.arg 0)))).holds [] {args:=[.list (ns.map .int)] }=true:=by
   have h4:=(holds_andW hc).1
   rw[hn] at h4
   exact h4
  have h5:=condW_of h4 (w_not (w_lt w_lit (w_len_list (w_arg rfl))))
  rw[Aq] at h5
  refine DM fun q=>?_
  have q':(n:Int) < ((ns.length:Nat):Int):=by omega
  first
   | (rw[decide_eq_true q'] at h5;exact absurd h5 (by decide))
   | (simp at h5;omega)
 cases hwl with
 |cons w1 w2=>
  cases w2
  cases w1 with
  |list ho hall=>exact ⟨_,_,ns,rfl,rfl,ho,iQ ns _ hall,hlen⟩
theorem post_true (l:OpenLaw) (args:List WData):l.row.toRowW.claim.post args (.bool true) args=true:=
 postW_of (r:=l.row.toRowW) (X:=(true==true))
  (show WShape.has [] (.bool true) .bool=true by first |rfl |decide |simp[WShape.has,WShape.arms,WShape.armsAll])
  (show (WTm.eq .res (.lit (.bool true))).value [] {args:=args,res:=some (.bool true),after:=args }=some (.bool (true==true)) from w_eq_bool (w_res rfl) w_lit) rfl
section
variable {prog:AC}{w:World}{A:A4}{E:Value→Ar→Prop}{s:Ar}{K:Frag}
end
end Att
namespace L2
open PySem PySem.Spec PyProof.Rows
theorem j9:∀{vs:List Value}{ns:List Int},Jl vs ns→aV (ns.map V.int) vs
 |_,_,.nil=>.nil
 |_,_,.cons n t h=>.cons ⟨t,rfl⟩ (j9 h)
end L2
/- THE LAST THEOREM (shape;LID,My.*are yours):
   My.Adr:a structure of the addresses that your layer names (classes,functions);My.Txt K t:a structure (Prop) of the equations over K;
   My.txt_mk:{K}{implicit addresses ..} (e1:nsIn K AJ "law"=some (some (.ref f))) (e2:K.lookup f=some ⟨oc,od,.func (fnOf "law" "law" params body scope dV kV doc pm an cdv ct),sl⟩) (e3:codeIn K cdv "law"=true) ..:∃t,My.Txt K t
set_option maxRecDepth 100000 in
theorem PySem.Challenge.cw_LID_holds : PySem.Challenge.rw_LID.Holds := by
 w_on;o_law;k_head;(case hw=>w_witness2)
 k_fill
 refine L2.walk_of (l:=PySem.Challenge.rw_LID) (n:=63) (k:=40) (x:="script") (CX:=fun w=>..) (sp:=fun _=>My.sp_law) rfl (by decide) rfl ⟨rfl,by decide,by decide⟩ (fun w h Y=>PySem.W.kIn_of Y) ?F ?S ?C
 case F=>
  intro w mg fa h KX G hmg
  have T:∃t,My.Txt (L2.KOf KX) t:=by
   dsimp only[L2.KOf]                          -- K must stand as «<heap const> w.params» for k_is
   refine' My.txt_mk ?e1 ?e2 ?e3 ..
   (case e1=>PySem.W.k_is)                    -- in the order:a name ->its address ->its object ->its parts
   (case e2=>PySem.W.k_is)
   ..
  obtain ⟨t,T⟩:=T
  have e0:=hmg.symm.trans (AO KX G T.law)
  cases e0                                       -- fa is the law's own address
  exact ⟨_,fun s u=>.of_eq rfl,fun base kb nb=>My.law_fn T kb nb⟩     -- if «.of_eq rfl» comes too early:refine' ⟨_,?b,fun base kb nb=>My.law_fn T kb nb⟩;exact fun s u=>.of_eq rfl
 case S=>exact fun w H a ns hl hO hS=>..
 case C=>exact ..
(the tactic k_is has no namespace:write k_is) -/
namespace L2
open PySem PySem.Spec PyProof.Rows
def aE (s:Stmt):GU:=match s with
 | .FunctionDef _ a _ _ _ _ _ _ _ _=>a
 |_=>{posonlyargs:=[],args:=[],vararg:=none,kwonlyargs:=[],kw_defaults:=[],kwarg:=none,defaults:=[] }
def aB (s:Stmt):List Stmt:=match s with
 | .FunctionDef _ _ b _ _ _ _ _ _ _=>b
 |_=>[]
def ai (s:Stmt):Scope:=match s with
 | .FunctionDef _ _ _ _ _ _ sc _ _ _=>sc
 |_=>{kind:=.function,names:=[],isGenerator:=false,isCoroutine:=false }
abbrev CX0:CXT:=fun _ _ _ _ _ _=>False
abbrev E0:XK:=fun _ _ _=>False
structure Fun (K:Ao) (x qual:Str) (st:Stmt) (f:Addr) (fd:A6):Prop where
 ex:∃(oc:Value) (od:Option Addr) (kV doc pm:Value) (an:Option Addr) (cdv ct:Value) (osl:Array (Option Value)),
  fd=AS x qual (aE st) (aB st) (ai st) .none kV doc pm an cdv ct∧K.lookup f=some ⟨oc,od,.func fd,osl⟩∧AH K cdv qual=true
 kp:AG K (.ref f)=true
section
variable {P:AC}{w:World}{K:Ao}{mg:Str→Option Value}{base:Heap}
theorem Fun.binds {x qual:Str}{st:Stmt}{f:Addr}{fd:A6}{ps:List Str} (F:Fun K x qual st f fd)
  (h:∀(kV doc pm:Value) (an:Option Addr) (cdv ct:Value) (us:List Value),us.length=ps.length→Bq (AS x qual (aE st) (aB st) (ai st) .none kV doc pm an cdv ct) ⟨us,[]⟩=pure (ps.zip us)):bp K fd ps []:=by
 obtain ⟨oc,od,kV,doc,pm,an,cdv,ct,osl,rfl,lk,hcd⟩:=F.ex
 exact .all (h kV doc pm an cdv ct)
theorem aX {x qual:Str}{st:Stmt}{f:Addr}{oc:Value}{od an:Option Addr}{osl:Array (Option Value)}{kV doc pm cdv ct:Value} (l:K.lookup f=some ⟨oc,od,.func (AS x qual (aE st) (aB st) (ai st) .none kV doc pm an cdv ct),osl⟩)
  (c:AH K cdv qual=true) (k:AG K (.ref f)=true):Fun K x qual st f (AS x qual (aE st) (aB st) (ai st) .none kV doc pm an cdv ct):=⟨⟨oc,od,kV,doc,pm,an,cdv,ct,osl,rfl,l,c⟩,k⟩
end
theorem bC {n:Nat} (h:n≤1000):n < sizeLine:=E3 h (by decide)
section
variable {X:Cx}
end
theorem qI {A B:Prop} (h:B):if false=true then A else B:=by
 rw[if_neg AX]
 exact h
theorem qw {A B:Prop} (h:A):if true=true then A else B:=by
 rw[if_pos rfl]
 exact h
def aF (H H':Hp):Prop:=∀b o,H b=some o→H' b=some o
theorem aF.refl (H:Hp):aF H H:=fun _ _ h=>h
theorem aF.trans {H H1 H2:Hp} (a:aF H H1) (b:aF H1 H2):aF H H2:=fun c o h=>b c o (a c o h)
theorem aF.free {H H':Hp} (e:aF H H') {l:Addr} (h:H' l=JF):H l=JF:=by
 cases q:H l with
 |none=>rfl
 |some o=>
  rw[e l o q] at h
  cases h
theorem aF.seq {K:Ao}{H H':Hp}{a:Addr}{xs:List V} (e:aF H H') (h:SqL K H a xs):SqL K H' a xs:=by
 rcases h with (h |⟨o,h⟩) |h
 ·exact .inl (.inl (e _ _ h))
 ·exact .inl (.inr ⟨o,e _ _ h⟩)
 ·exact .inr h
def bQ (tb:Addr) (K:Ao):Ao:=K.filter fun p=>!(p.1==tb)
theorem dH (tb:Addr):∀(K:Ao) (b:Addr),(bQ tb K).lookup b=if b=tb then none else K.lookup b
 |[],b=>by unfold bQ;simp
 | (c,o)::K,b=>by
  have ih:=dH tb K b
  unfold bQ at *
  by_cases hc:c=tb
  ·rw[FH,if_neg (by simp[hc]),ih]
   by_cases hb:b=tb
   ·rw[if_pos hb,if_pos hb]
   ·rw[if_neg hb,if_neg hb,BS,beq_eq_false_iff_ne.mpr (fun z=>hb (z.trans hc))]
  ·rw[FH,if_pos (by simp[hc]),BS,BS,ih]
   by_cases hb:b=c
   ·subst hb
    simp[hc]
   ·rw[beq_eq_false_iff_ne.mpr hb]
theorem ox (tb:Addr) (K:Ao):(bQ tb K).lookup tb=none:=by rw[dH,if_pos rfl]
theorem si {tb b:Addr}{K:Ao}{o:Obj} (h:(bQ tb K).lookup b=some o):K.lookup b=some o:=by
 rw[dH] at h
 split at h
 ·cases h
 ·exact h
theorem gP {tb b:Addr}{K:Ao}{o:Obj} (n:b≠tb) (h:K.lookup b=some o):(bQ tb K).lookup b=some o:=by rw[dH,if_neg n];exact h
abbrev jI:Obj:={cls:=.none,data:=.fields #[] }
structure mE (K:Ao) (mg:Str→Option Value) (f c tb:Addr):Prop where
 m:mg "to_form"=some (.ref f)
 lf:∃o fd,K.lookup f=some o∧o.data=.func fd∧fd.code=.ref c
 hd:BG K c tb=true
 t0:K.lookup tb=some jI
theorem ix {K:Ao}{c tb:Addr} (h:BG K c tb=true):∃o vs,K.lookup c=some o∧o.cls=.type "code"∧o.data=.fields vs∧vs[11]?=some (.ref tb):=by
 unfold BG at h
 split at h
 ·rename_i vs _ hk
  simp only[BR] at h
  obtain ⟨⟨⟨⟨⟨e1,_⟩,_⟩,_⟩,_⟩,_⟩:=h
  split at e1
  ·rename_i P' h11
   exact ⟨_,vs,hk,rfl,rfl,by rw[h11,beq_iff_eq.mp e1]⟩
  ·cases e1
 ·cases h
theorem mE.amb {K:Ao}{mg:Str→Option Value}{f c tb:Addr} (T:mE K mg f c tb) {h base:Heap}{H:Hp} (X:K.In h) (hb:∀b o,base.get? b=some o→h.get? b=some o) (hH:∃ps,H tb=some (.tbl ps)):Amb mg base H:=by
 intro f' o fd c' oc vs P h1 h2 h3 h4 h5 h6 h7
 obtain ⟨o1,fd1,l1,l2,l3⟩:=T.lf
 obtain ⟨o2,vs2,m1,_,m3,m4⟩:=ix T.hd
 rw[T.m] at h1
 cases h1
 have e1:=hb _ _ h2
 rw[X _ _ l1] at e1
 cases e1
 rw[l2] at h3
 cases h3
 rw[l3] at h4
 cases h4
 have e2:=hb _ _ h5
 rw[X _ _ m1] at e2
 cases e2
 rw[m3] at h6
 cases h6
 rw[Bu,m4] at h7
 cases h7
 exact hH
theorem qm {P:AC}{w:World}{K:Ao}{mg mb:Str→Option Value}{CX:CXT}{k:Nat}{fa a f c tb:Addr}{fd:A6}{x:Str}{sp:Sp}{s1:Ar}{vs:List Value}{ns:List Int}
  (KX:K.In s1.heap) (TB:mE K mg f c tb) (hns:s1.heap.Ns AJ mg) (hb:s1.heap.Ns EJ mb) (hbb:∀x:Str,x≠"__name__"→mb x=Cg x) (hlim:s1.heap.NoLimit) (hg:s1.gens=#[])
  (ha:s1.heap.get? a=some {cls:=.type "list",data:=.seq vs.toArray }) (hi:Jl vs ns) (hl:ns.length≤sizeLine) (hr:dF k Hd)
  (F:∀base:Heap,(bQ tb K).In base→base.Ns AJ mg→bA P w (bQ tb K) mg base CX k fa fd [x] sp) (hbind:∀(s:Ar) (u:Value),GM s fd ⟨[u],[]⟩ [(x,u)])
  (hsp:∀H:Hp,SqL (bQ tb K) H a (ns.map V.int)→sp [.ref a] H (fun v _=>v=.bl true) fun _ _ _=>False)
  (hCX:∀H e s',CX [] H s1 (fun _ _ _=>False) e s'→False):
  EN (model P w) Hd (.call (.ref fa) ⟨[.ref a],[]⟩) (fun r s'=>r=.ok (.ret (.bool true))∧OldK s1.heap s'.heap∧s'.os=s1.os∧Fu s'.gens) s1:=by
 have rv:=j9 hi
 have lenV:=hi.length
 have hT:s1.heap.get? tb=some jI:=KX _ _ TB.t0
 have nat:a≠tb:=fun z=>by
  rw[z,hT] at ha
  cases ha
 have isT:isCodeTable s1.heap tb:=by
  obtain ⟨o2,vs2,m1,m2,m3,m4⟩:=ix TB.hd
  exact ⟨c,o2,vs2,KX _ _ m1,m2,m3,m4⟩
 have core:∀H:Hp,SqL (bQ tb K) H a (ns.map V.int)→HOk P w H s1.heap→(∀b,H b≠none→b=a∨b=tb)→(H a≠none→K.lookup a=none)→(∀u,H a=some u→∃xs,u=.frz {cls:=.type "list",data:=.seq vs.toArray } (.lst xs))→H tb=some (.tbl #[])→
   EN (model P w) Hd (.call (.ref fa) ⟨[.ref a],[]⟩) (fun r s'=>r=.ok (.ret (.bool true))∧OldK s1.heap s'.heap∧s'.os=s1.os∧Fu s'.gens) s1:=by
  intro H hS hok hA hK hF hB
  have base_of:∀{b:Addr}{o:Obj},s1.heap.get? b=some o→H b=none→(jF s1.heap H).get? b=some o:=fun e n=>rA e n
  have noA:∀{b:Addr}{o:Obj}{es:Array DictEntry}{ep:Nat},s1.heap.get? b=some o→o.data=.dict es ep→H b=none:=fun {b o es ep} e d=>by
   cases q:H b with
   |none=>rfl
   |some u=>
    rcases hA b (by rw[q];simp) with z |z
    ·rw[z,ha] at e;cases e;cases d
    ·rw[z,hT] at e;cases e;cases d
  have nsK:∀{b:Addr}{m:Str→Option Value},s1.heap.Ns b m→(jF s1.heap H).Ns b m:=fun {b m} ⟨o,es,ep,e,d,r⟩=>⟨o,es,ep,base_of e (noA e d),d,r⟩
  have hKb:(bQ tb K).In (jF s1.heap H):=fun b o e=>base_of (KX b o (si e)) (by
   cases q:H b with
   |none=>rfl
   |some u=>
    rcases hA b (by rw[q];simp) with z |z
    ·rw[z,dH,if_neg nat,hK (by rw[←z,q];simp)] at e;cases e
    ·rw[z,ox] at e;cases e)
  have hM:Mod (bQ tb K) mg (jF s1.heap H):=⟨hKb,nsK hns,⟨mb,nsK hb,hbb⟩,let ⟨mc,h1,h2⟩:=hlim;⟨mc,nsK h1,h2⟩⟩
  have am:Amb mg (jF s1.heap H) H:=TB.amb KX (fun b o e=>(oQ e).1) ⟨_,hB⟩
  have e0:ot P w (bQ tb K) mg (jF s1.heap H) Hd [] s1 H:=⟨rfl,hM,fun b o e=>oQ e,Nat.le_of_eq (qM _ _),trivial,⟨fun b hb=>absurd (show b∈([]:List Addr) from hb) (by simp),am⟩,hok,.of_eq hg⟩
  refine Er ((F _ hKb (nsK hns)).run Hd [] s1 H ⟨[.ref a],[]⟩ [.ref a] [.ref a] _ _ hr e0 (hbind s1 (.ref a)) (.cons rfl .nil) (hsp H hS)) fun r s' h=>?_
  cases r with
  |error e=>exact (hCX H e s' h).elim
  |ok fl=>
   cases fl with
   |next=>exact False.elim h
   |brk=>exact False.elim h
   |cont=>exact False.elim h
   |ret u=>
    obtain ⟨v,H',os,bare,un,hok',r',q⟩:=h
    have q':v=.bl true:=q
    subst q'
    obtain rfl:u=Bd true:=r'
    refine ⟨rfl,⟨fun b o e=>?_,fun b o e=>un.there b o e (by simp)⟩,os,bare⟩
    cases q:H b with
    |none=>exact .inl (un.keep b o e q (by intro z;exact absurd (show b∈([]:List Addr) from z) (by simp)) (by simp))
    |some u=>
     rcases hA b (by rw[q];simp) with z |z
     ·subst z
      obtain ⟨xs,rfl⟩:=hF u q
      have z2:=un.frzs b _ _ q
      obtain ⟨e1,_⟩:=hok b _ q
      obtain ⟨e2,_⟩:=hok' b _ z2
      rw[e] at e1;cases e1
      exact .inl e2
     ·subst z
      obtain ⟨m,z2⟩:=un.tbls b _ hB
      obtain ⟨ts,e2,_⟩:=(show uW H' s'.heap b from hok' b _ z2)
      rw[hT] at e;cases e
      exact .inr (.inl ⟨isT,rfl,#[],(e_ ts).toArray,rfl,by rw[e2];simp⟩)
 have tbOk:∀H:Hp,uW H s1.heap tb:=fun H=>⟨[],hT,fun t ht=>by cases ht⟩
 cases hk:K.lookup a with
 |some o=>
  have e:=KX a o hk
  rw[ha] at e
  cases e
  refine core (fun b=>if b=tb then some (.tbl #[]) else none) (.inr ⟨_,vs.toArray,_,gP nat hk,rfl,rfl,rfl,by rw[AN,lenV];exact hl,by simpa using rv⟩) (fun b u z=>?_) (fun b z=>?_) (fun z=>absurd (if_neg nat) z) (fun u z=>?_) (if_pos rfl)
  ·by_cases hb:b=tb
   ·have z':=(if_pos hb).symm.trans z
    cases z'
    rw[hb];exact tbOk _
   ·have z':=(if_neg hb).symm.trans z
    cases z'
  ·by_cases hb:b=tb
   ·exact .inr hb
   ·exact absurd (if_neg hb) z
  ·have z':=(if_neg nat).symm.trans z
   cases z'
 |none=>
  have at_:∀{b:Addr},b=a→(fun b=>if b=a then some (HO.frz {cls:=.type "list",data:=.seq vs.toArray } (.lst (ns.map V.int))) else if b=tb then some (.tbl #[]) else none:Hp) b=some (HO.frz {cls:=.type "list",data:=.seq vs.toArray } (.lst (ns.map V.int))):=fun e=>if_pos e
  have at2:∀{b:Addr},b=tb→(fun b=>if b=a then some (HO.frz {cls:=.type "list",data:=.seq vs.toArray } (.lst (ns.map V.int))) else if b=tb then some (.tbl #[]) else none:Hp) b=some (.tbl #[]):=fun e=>by
   dsimp only
   rw[if_neg (fun z=>nat (z.symm.trans e)),if_pos e]
  have at3:∀{b:Addr},b≠a→b≠tb→(fun b=>if b=a then some (HO.frz {cls:=.type "list",data:=.seq vs.toArray } (.lst (ns.map V.int))) else if b=tb then some (.tbl #[]) else none:Hp) b=none:=fun n1 n2=>by
   dsimp only
   rw[if_neg n1,if_neg n2]
  generalize (fun b=>if b=a then some (HO.frz {cls:=.type "list",data:=.seq vs.toArray } (.lst (ns.map V.int))) else if b=tb then some (.tbl #[]) else none:Hp)=H at *
  refine core H (.inl (.inr ⟨{cls:=.type "list",data:=.seq vs.toArray },at_ rfl⟩)) (fun b u z=>?_) (fun b z=>?_) (fun _=>hk) (fun u z=>?_) (at2 rfl)
  ·by_cases hb:b=a
   ·rw[at_ hb] at z
    cases z
    subst hb
    exact ⟨ha,by rw[Aq];exact hl,vs,_,rv,ha⟩
   ·by_cases hc:b=tb
    ·rw[at2 hc] at z
     cases z
     rw[hc];exact tbOk _
    ·rw[at3 hb hc] at z;cases z
  ·by_cases hb:b=a
   ·exact .inl hb
   ·by_cases hc:b=tb
    ·exact .inr hc
    ·exact absurd (at3 hb hc) z
  ·rw[at_ rfl] at z
   cases z
   exact ⟨_,rfl⟩
def Sz (m:Nat) (x:Int):Prop:=x.natAbs < 2 ^ m
theorem Sz.mono {m n:Nat}{x:Int} (h:Sz m x) (hmn:m≤n):Sz n x:=A3 h (DE (by decide) hmn)
theorem Sz.neg {m:Nat}{x:Int} (h:Sz m x):Sz m (-x):=by unfold Sz at *;rw[Int.natAbs_neg];exact h
theorem Sz.add {m:Nat}{x y:Int} (hx:Sz m x) (hy:Sz m y):Sz (m+1) (x+y):=by
 unfold Sz at *
 have:=Int.natAbs_add_le x y
 rw[CH];omega
theorem Sz.sub {m:Nat}{x y:Int} (hx:Sz m x) (hy:Sz m y):Sz (m+1) (x - y):=by
 rw[Int.sub_eq_add_neg];exact hx.add hy.neg
theorem Sz.mul {m n:Nat}{x y:Int} (hx:Sz m x) (hy:Sz n y):Sz (m+n) (x*y):=by
 unfold Sz at *
 rw[El,Nat.pow_add]
 exact Nat.mul_lt_mul'' hx hy
theorem Sz.le {m:Nat}{x y:Int} (h:x.natAbs≤y.natAbs) (hy:Sz m y):Sz m x:=E3 h hy
theorem Sz.ediv {m:Nat}{x y:Int} (hx:Sz m x):Sz m (x / y):=Sz.le (Int.natAbs_ediv_le_natAbs x y) hx
theorem Sz.abs {m:Nat}{x:Int} (hx:Sz m x):Sz m (if x < 0 then -x else x):=by split;exact hx.neg;exact hx
instance (m:Nat) (x:Int):Decidable (Sz m x):=inferInstanceAs (Decidable (x.natAbs < 2 ^ m))
theorem Sz.add' {m n:Nat}{x y:Int} (hx:Sz m x) (hy:Sz n y):Sz (max m n+1) (x+y):=(hx.mono (HQ m n)).add (hy.mono (HA m n))
theorem Sz.sub' {m n:Nat}{x y:Int} (hx:Sz m x) (hy:Sz n y):Sz (max m n+1) (x - y):=(hx.mono (HQ m n)).sub (hy.mono (HA m n))
theorem Sz.lit {m:Nat}{x:Int} (h:Sz m x):Sz m x:=h
theorem Sz.ok {m n:Nat}{x y:Int} (hx:Sz m x) (hy:Sz n y) (h:m+n≤134217728):IntMulOk x y:=
 PyProof.Rows.mulOk_of_bits (intBits_le_iff.mpr hx) (intBits_le_iff.mpr hy) h
theorem Sz.log {m:Nat}{x:Int} (h:Sz m x) (hm:m≤9000) (h0:x≠0):x.natAbs.log2 < 9000:=by
 have q:=(Nat.log2_lt (by omega)).mpr (show x.natAbs < 2 ^ m from h)
 omega
def wa (_ j:Int):Prop:=0 < j∧Sz 9000 j
def wB (_ j:Int):Prop:=j≠0∧Sz 9000 j
section
variable {X:Cx}{a b c:Expr}{ta tb tc:TE}{pos:Pos}
theorem uV:OpR X (Ej .Mult) (rI IntMulOk fun i j=>.int (i*j)):=opI fun _ _ _ _ _ _ _ hc q=>mul_int q hc
theorem ua:OpR X (Ej .FloorDiv) (rI wa fun i j=>.int (i / j)):=opI fun i j _ _ _ _ _ hc q=>by
 have h1:(0:Int) < j:=hc.1
 exact floordiv_int (by omega) (by rw[Int.fdiv_eq_ediv_of_nonneg i (by omega)];exact q) (.inl (PyProof.noPylong_of_log2 (hc.2.log (by decide) (by omega))))
theorem tw:OpR X (Ej .FloorDiv) (rI wB fun i j=>.int (i.fdiv j)):=opI fun i j _ _ _ _ _ hc q=>
 floordiv_int hc.1 q (.inl (PyProof.noPylong_of_log2 (hc.2.log (by decide) hc.1)))
theorem yP {x:Str}{n:String}{pos:Pos} (hg:Gl X x) (hm:X.mg x=none) (hv:Cg x=some (.type n)) (hn:x≠"__name__":=by decide) (hd:(x==("__debug__":Str))=false:=by decide):PE X (.Name x pos) (tC (.ty n)):=
 vq hg hm hv rfl hn hd
end
section
variable {X:Cx}
end
theorem kit_int_int (K:Ao):E9 K (.type "int") (.type "int")=some true:=rfl
theorem kit_int_bool (K:Ao):E9 K (.type "int") (.type "bool")=some false:=rfl
section
variable {X:Cx}{tg:Expr}
end
theorem aU {H:Hp}{p:Addr} (h:H p=none) (o:HO):aF H (upd H p o):=fun b u q=>by rw[aK (ca q h)];exact q
theorem aF.put {H H':Hp}{l:Addr} (e:aF H H') (h:H l=none) (o:HO):aF H (upd H' l o):=fun b u q=>by rw[aK (ca q h)];exact e b u q
theorem aF.tup {K:Ao}{H H':Hp}{a:Addr}{xs:List V} (e:aF H H') (h:SqT K H a xs):SqT K H' a xs:=by
 rcases h with (h |⟨o,h⟩) |h
 ·exact .inl (.inl (e _ _ h))
 ·exact .inl (.inr ⟨o,e _ _ h⟩)
 ·exact .inr h
end L2
namespace L2
open PySem PySem.W PySem.Calls PySem.Spec PyProof.Rows
theorem lM {ns:List Int} (h:WData.layableAll [WData.list (ns.map WData.int)]=true):∀n∈ns,Sz 1048576 n:=by
 intro n hn
 have h1:=(PySem.W.layableW_arg h) _ (Br.mpr rfl)
 have h2:=PySem.W.layableW_item h1 (WData.int n) (Az.mpr ⟨n,hn,rfl⟩)
 have h3:=(PySem.W.layableW_iff.mp h2).2.2
 have h4:Builtin.Int.intBits n≤1048576:=by simpa only[WData.weight,Builtin.Int.intBits] using h3
 exact intBits_le_iff.mp h4
theorem kA {l:HR}{n:Nat}{q:AC}{loose:List Str}{XP:(Str→Option Value)→Heap→Prop}{YP:World→Heap→Prop}{d:DefRec}
  (hn:l.most=some n) (hdf:d.params.defaults=[])
  (call:∀(w:World) (s₀ s₁:Ar) (mg mb:Str→Option Value) (fa:Addr) (o:Obj) (pm cd doc:Value) (a:Addr) (vs:List Value) (ns:List Int),
   PySem.W.Ground q loose [] XP w s₀ mg mb s₁.heap→YP w s₁.heap→
   s₁.heap.get? fa=some o→o.data=.func (docDef d.name d.params d.body d.scope pm cd doc)→s₁.heap.CodeRec cd d.name→mg d.name=some (.ref fa)→
   s₁.heap.get? a=some {cls:=.type "list",data:=.seq vs.toArray }→Jl vs ns→ns.length≤n→(∀m∈ns,Sz 1048576 m)→s₁.gens=#[]→
   EN (model l.prog w) Hd (.call (.ref fa) ⟨[.ref a],[]⟩) (fun r s'=>r=.ok (.ret (.bool true))∧OldK s₁.heap s'.heap∧s'.os=s₁.os∧Fu s'.gens) s₁):
  Jm q loose XP YP l.row.toRowW d [] (fun f vs=>JN f vs):=by
 intro w s₀ s₁ mg mb G Y fa o pm cd doc dV kV ho hd hcd hD hmg hg args vals as hpre hlay hrd hwl hlo
 obtain rfl:dV=.none:=JK hD hdf
 obtain rfl:kV=.none:=JL hD
 obtain ⟨a,vs,ns,rfl,rfl,hobj,hints,hlen⟩:=Att.script_of hn hpre hwl
 refine PySem.W.enter_call (Er (call w s₀ s₁ mg mb fa o pm cd doc a vs ns G Y ho (PySem.W.fd_plain hd) hcd hmg hobj hints hlen (lM hlay) hg) fun r s' hq=>?_)
 obtain ⟨rfl,h2,h3,h4⟩:=hq
 exact ⟨.inl ⟨.bool true,.bool true,[],rfl,fun _=>rfl,.bool true,Att.post_true l _,fun _=>⟨DB,fun _ hm=>(nomatch hm)⟩⟩,h2,h3,h4⟩
end L2
namespace L2
theorem wF {α:Type}{xs:List α}{k:Int}{i:Nat}{v:α} (e:k=(i:Int)) (h:xs[i]?=some v):atI xs k=some v:=by subst e;exact o6 h
theorem Sz.natle {m:Nat}{x y:Int} (hy:Sz m y) (h:x.natAbs≤y.natAbs):Sz m x:=Sz.le h hy
end L2
namespace L2
open PySem PySem.Spec PyProof.Rows
abbrev aS (X:Cx) (scope:Scope) (cl:List (Str×Addr)) (C:Addr) (s:Ar) (H:Hp) (fp:List Addr):Cx:=
 {X with s₀:=s,H₀:=H,env:=Gs scope cl C X.env,outer:=X.stack,ex:=fp,fn:=fun _=>false,pn:=[],xe:=fun _ _=>False }
def mask:List Nat→St→St
 |[],σ=>σ
 |i::is,σ=>mask is (σ.set i none)
theorem eS:∀(is:List Nat) (σ:St),(mask is σ).length=σ.length
 |[],_=>rfl
 |i::is,σ=>by rw[mask,eS is];simp
theorem ii:∀(is:List Nat) (σ:St) (j:Nat) (v:V),(mask is σ)[j]?=some (some v)→σ[j]?=some (some v)∧j ∉ is
 |[],σ,j,v,h=>⟨h,by simp⟩
 |i::is,σ,j,v,h=>by
  obtain ⟨h1,h2⟩:=ii is _ j v h
  by_cases e:i=j
  ·subst e
   rw[Fl] at h1
   simp at h1
  ·rw[Bb e] at h1
   exact ⟨h1,by simp[Ne.symm e,h2]⟩
structure dU (X:Cx) (scope:Scope) (cl:List (Str×Addr)) (is:List Nat):Prop where
 clos:Gu scope X.env=pure cl
 cell:∀y∈scope.names,y.2≠.cell
 kind:scope.kind=.function
 names:∀y∈scope.names,y.2=.local→scope.names.lookup y.1=some .local
 cls:∀x c,cl.lookup x=some c→X.env.cells.lookup x=some c
 free:∀x,((relabel scope X.env).names.lookup x=some .cell∨(relabel scope X.env).names.lookup x=some .free)→Vis X.env.scope x∧X.env.scope.names.lookup x≠some .local∧∃c,cl.lookup x=some c
 own:∀i x,X.N[i]?=some x→(relabel scope X.env).names.lookup x=some .local→i∈is
def t8 (J:It) (is:List Nat) (g:TG) (te:TE) (σ:St) (H1:Hp) (l:Addr) (Q:VK):Prop:=
 ∃W:Nat→Nat→Hp→Prop,(∃m,W 0 m (upd H1 l (.lst [])))∧∀i m H2,W i m H2→
  (J.stop i H2∧Q (.ref l) H2)∨(J.go i H2∧∀x H3,J.yld i H2 x H3→g x (mask is σ) H3 fun σ4 H4=>te σ4 H4 fun y H5=>
   (∀(j:Nat) (v:V),(mask is σ)[j]?=some (some v)→σ4[j]?=some (some v))∧∃vs,H5 l=some (.lst vs)∧vs.length < sizeLine∧∃m',m' < m∧W (i+1) m' (upd H5 l (.lst (vs++[y]))))
def wu (is:List Nat) (g:TG) (te:TE) (σ:St) (Q:VK) (J:It) (H1:Hp):Prop:=∀l,H1 l=none→t8 J is g te σ H1 l Q
def vZ (is:List Nat) (wi:TI) (g:TG) (te:TE):TE:=fun σ H Q=>wi σ H (wu is g te σ Q)
section
variable {X:Cx}{pins:List (Addr×Obj)}{σ:St}{H:Hp}{s:Ar}
theorem iL {scope:Scope}{cl:List (Str×Addr)}{is:List Nat}{fp:List Addr}{h₁:Heap}{m:Str→Option Value}{t':Nat} (I:Inv X pins σ H s) (B:dU X scope cl is) (hf:∀b∈fp,dW X pins H b) (hfl:∀b∈fp,b < s.heap.objs.size)
  (hn:h₁.Ns s.heap.objs.size m) (hk:∀b o,s.heap.get? b=some o→h₁.get? b=some o):
  Inv (aS X scope cl s.heap.objs.size s H fp) [] (mask is σ) H {s with heap:=h₁,toks:=t' }:=by
 refine ⟨⟨I.ok.mod,B.kind,I.ok.glob,I.ok.blt,Aw _,fun x y c h1 h2=>I.ok.inj x y c (B.cls x c h1) (B.cls y c h2),fun x hx=>(B.free x hx).2.2,fun x c h=>(by cases h),I.ok.hd,I.ok.frames,.inl rfl,fun b hb=>⟨AZ (hfl b hb),fun x c e=>(hf b hb).2.2.2.2.1 x c (B.cls x c e)⟩,
  I.bs,B9 I.ok.bsz I.sz,fun b o e hb=>?_,fun b hb z=>?_,I.stack,⟨I.stkFree,I.amb⟩⟩,rfl,I.bare,Un.kept hk,⟨m,hn,fun i x v h1 h2 h3=>?_⟩,fun x c e=>?_,I.hok.fresh (Aw _),fun x c e=>I.freeC x c (B.cls x c e),fun p hp=>absurd (show p∈([]:List (Addr×Obj)) from hp) (by simp),I.hok.kept hk,?_⟩
 ·rcases (hf b hb).2.2.2.1 with z |z
  ·exact I.ok.noex b o e z
  ·exact absurd (A3 (AB e) (B9 I.ok.bsz z)) (Bv _)
 ·rcases Ay.mp (I.stkSub b z) with e |e
  ·exact (hf b hb).2.1 e
  ·exact (hf b hb).2.2.1 e
 ·obtain ⟨e2,ni⟩:=ii is σ i v h2
  have h3':(relabel scope X.env).names.lookup x=some .local∨(relabel scope X.env).names.lookup x=some .cell∨(relabel scope X.env).names.lookup x=some .free:=h3
  rcases h3' with z |z
  ·exact absurd (B.own i x h1 z) ni
  ·obtain ⟨hv,hnl,c,hc⟩:=B.free x z
   obtain ⟨m0,_,hl⟩:=I.loc
   obtain ⟨u,r,l⟩:=hl i x v h1 e2 hv
   refine ⟨u,r,.inr ⟨z,c,hc,?_⟩⟩
   rcases l with ⟨k,_⟩ |⟨_,c',hc',o,ho,hd⟩
   ·exact absurd k hnl
   ·have ec:=B.cls x c hc
    rw[hc'] at ec
    cases ec
    exact ⟨o,hk _ _ ho,hd⟩
 ·obtain ⟨v,o,ho,hd⟩:=I.cell x c (B.cls x c e)
  exact ⟨v,o,hk _ _ ho,hd⟩
 ·show (mask is σ).length=X.N.length
  rw[eS];exact I.len
theorem rS {elt iter tg:Expr}{scope:Scope}{cl:List (Str×Addr)}{pos pos0:Pos}{is:List Nat}{wi:TI}{g:TG}{te:TE}{use:Option (Value→Sem Unit)}{Q0:VK}{Q:Value→Ar→Prop} (hc:X.calm=true) (B:dU X scope cl is)
  (hi:PI X tg iter wi) (hg:∀C s H fp,PG (aS X scope cl C s H fp) tg g) (he:∀C s H fp,PE (aS X scope cl C s H fp) elt te) (hs:∀x,BI iter X.env x=pure x)
  (I:Inv X pins σ H s) (h:vZ is wi g te σ H Q0)
  (fin:∀(l C:Addr) (H':Hp) (s':Ar) (m:Str→Option Value),Inv X pins σ H' s'→s'.heap.Ns C m→H' C=none→C≠X.env.locals→C ∉ X.fs→X.s₀.heap.objs.size≤C→(∀x c,X.env.cells.lookup x=some c→c≠C)→(∀p∈X.pn++pins,p.1≠C)→Q0 (.ref l) H'→
   Jn (model X.prog X.w) X.A X.xe use Q (.ref l) C (.ok .next) s'):
  wpAny (model X.prog X.w) X.A (comprehension (.ListComp elt [⟨tg,iter,[],0⟩] scope pos) scope X.env pos0 (newList []) false (eval iter X.env) use) Q X.xe s:=by
 refine Fn rfl hs B.clos B.kind B.names (thn (hi pins s σ H _ I h) fun xv s1 h1=>thn h1 fun itv s2 h2=>?_)
 obtain ⟨it,fp,tn,J,H2,e,I2,T,st2,f2,R⟩:=h2
 subst e
 refine C8 (EC B.cell (by intro y hy;simp at hy) (fun h₁ hns hsb=>?_) B.kind)
 have hl:H2 s2.heap.objs.size=none:=I2.hok.fresh (Aw _)
 obtain ⟨W,⟨m0,w0⟩,turn⟩:=R s2.heap.objs.size hl
 have I3:Inv X pins σ (upd H2 s2.heap.objs.size (.lst [])) {s2 with heap:=s2.heap.push {cls:=.type "list",dict:=none,data:=.seq ([]:List Value).toArray } }:=
  I2.laid (t':=s2.toks) (o:=.lst []) (fun b u e=>Ap _ e) (Aw _) ⟨Bh _,[],0,.nil,AD _ rfl⟩
 have hfl:∀b∈fp,b < s2.heap.objs.size:=fun b hb=>let ⟨o,e,_⟩:=T.obj 0 _ st2 b hb;AB e
 have f3:∀b∈fp,dW X pins (upd H2 s2.heap.objs.size (.lst [])) b:=fun b hb=>⟨by rw[aK (AZ (hfl b hb))];exact (f2 b hb).1,(f2 b hb).2⟩
 have kp:∀b o,(s2.heap.push {cls:=.type "list",dict:=none,data:=.seq ([]:List Value).toArray }).get? b=some o→h₁.get? b=some o:=fun b o e=>
  hsb.extBut b o (AZ (AB e)) (Ap _ e)
 have st4:tn 0 h₁:=T.keep 0 _ _ st2 fun b _ o e=>kp b o (Ap _ e)
 have hfl3:∀b∈fp,b < (s2.heap.push {cls:=.type "list",dict:=none,data:=.seq ([]:List Value).toArray }).objs.size:=fun b hb=>by
  rw[BC];exact Ck (hfl b hb)
 have I4:=iL (t':=s2.toks+([]:List (Str×Value)).length) I3 B f3 hfl3 hns kp
 have loop:EN (model X.prog X.w) X.A (.compLoop (.ListComp elt [⟨tg,iter,[],0⟩] scope pos) 0 (.ref it) (.ref s2.heap.objs.size) (Gs scope cl (s2.heap.push {cls:=.type "list",dict:=none,data:=.seq ([]:List Value).toArray }).objs.size X.env))
   (Jn (model X.prog X.w) X.A X.xe use Q (.ref s2.heap.objs.size) (s2.heap.push {cls:=.type "list",dict:=none,data:=.seq ([]:List Value).toArray }).objs.size)
   {s2 with heap:=h₁,toks:=s2.toks+([]:List (Str×Value)).length }:=by
  generalize hs3:({s2 with heap:=s2.heap.push {cls:=.type "list",dict:=none,data:=.seq ([]:List Value).toArray } }:Ar)=s3 at *
  have hC:(s2.heap.push {cls:=.type "list",dict:=none,data:=.seq ([]:List Value).toArray }).objs.size=s3.heap.objs.size:=by rw[←hs3]
  rw[hC]
  have hstat:∀{H':Hp},(∀b∈fp,H' b=none)→∀b∈fp,dW (aS X scope cl s3.heap.objs.size s3 (upd H2 s2.heap.objs.size (.lst [])) fp) [] H' b:=fun hn b hb=>
   ⟨hn b hb,(I4.ok.exf b hb).1,I4.ok.exfs b hb,.inl hb,fun x c e=>(I4.ok.exf b hb).2 x c e,fun p hp=>absurd (show p∈([]:List (Addr×Obj)) from hp) (by simp)⟩
  have back:∀{σ':St}{H':Hp}{pp:List (Addr×Obj)}{s':Ar},Inv (aS X scope cl s3.heap.objs.size s3 (upd H2 s2.heap.objs.size (.lst [])) fp) pp σ' H' s'→Inv X pins σ H' s':=fun I'=>
   I3.call' (ch:=fp) I'.os I'.base I'.hok I'.bare fun b hb=>⟨(f3 b hb).2.2.2.1,(f3 b hb).2.1,(f3 b hb).2.2.2.2.1,(f3 b hb).2.2.2.2.2⟩
  refine codeAny_loop rfl (fun n s'=>∃i H',Inv (aS X scope cl s3.heap.objs.size s3 (upd H2 s2.heap.objs.size (.lst [])) fp) [] (mask is σ) H' s'∧tn i s'.heap∧(∀b∈fp,H' b=none)∧W i n H') ?_ m0 ⟨0,_,(by subst hs3;exact I4),st4,fun b hb=>(f3 b hb).1,w0⟩
  rintro n s5 ⟨i,H5,I5,st5,fr5,w5⟩
  show wpAny _ _ ((compTurn (.ListComp elt [⟨tg,iter,[],0⟩] scope pos) 0 (.ref it) (.ref s2.heap.objs.size) (Gs scope cl s3.heap.objs.size X.env)).onRaise (fun x=>do noteFrame x (Gs scope cl s3.heap.objs.size X.env);HS x)) _ _ s5
  refine wpAny_noted ?_
  rw[compTurn_list1]
  refine An (Fx (An ?_))
  rcases turn i n H5 w5 with ⟨stop,q⟩ |⟨go,step⟩
  ·refine thn (T.done (aS X scope cl s3.heap.objs.size s3 (upd H2 s2.heap.objs.size (.lst [])) fp) rfl rfl rfl hc i [] s5 _ H5 _ I5 (hstat fr5) st5 stop) fun r s6 ⟨hr,I6⟩=>?_
   subst hr
   refine As ?_
   obtain ⟨m6,hn6,_⟩:=I6.loc
   have hCn:∀b,b < s3.heap.objs.size→b≠s3.heap.objs.size:=fun b hb=>AZ hb
   refine fin _ s3.heap.objs.size H5 s6 m6 (back I6) hn6 I6.free (Cs I3.lt) (I3.nofs (Aw _)) I3.sz (fun x c e=>?_) (fun p hp=>?_) q
   ·obtain ⟨v,z⟩:=I3.cell x c e
    exact AZ z.lt
   ·exact AZ (AB (I3.pin p hp).1)
  ·refine thn (T.item (aS X scope cl s3.heap.objs.size s3 (upd H2 s2.heap.objs.size (.lst [])) fp) rfl rfl rfl hc i [] s5 _ H5 _ I5 (hstat fr5) st5 go) fun r s6 ⟨u,hr,h6⟩=>?_
   subst hr
   refine An (thn h6 fun _ s7 ⟨x,H7,I7,r7,y7,st7,fr7⟩=>?_)
   have I7':=I7.pinned (hstat fr7) (T.obj _ _ st7)
   refine An (Cv (hg _ _ _ _ _ s7 (mask is σ) H7 x u _ I7' r7 (step x H7 y7)) (fun _ s8 ⟨σ8,H8,I8,q8⟩=>?_) fun _ _ z=>z.elim)
   refine An (An (Cv (he _ _ _ _ _ s8 σ8 H8 _ I8 q8) (fun v s9 ⟨y,H9,I9,r9,sub,vs,hl9,hz,m',hm,w'⟩=>?_) fun _ _ z=>z.elim))
   refine An (Cv (iu (X:=aS X scope cl s3.heap.objs.size s3 (upd H2 s2.heap.objs.size (.lst [])) fp) _ s9 σ8 H9 (.ref s2.heap.objs.size) [y] (.ref s2.heap.objs.size) [v] (fun _ H'=>H'=upd H9 s2.heap.objs.size (.lst (vs++[y]))) I9 rfl (.cons r9 .nil) ⟨_,vs,y,rfl,rfl,hl9,hz,rfl⟩) (fun z s10 ⟨zv,H10,I10,_,e10⟩=>?_) fun _ _ z=>z.elim)
   subst e10
   refine As (As ⟨rfl,m',hm,i+1,_,(I10.unpinned (pins:=[])).weak (by rw[I10.len,eS,I.len]) sub,T.keep _ _ _ st7 fun b hb o e=>(I10.pin (b,o) (AI _ (AI _ (bL hb e)))).1,fun b hb=>?_,w'⟩)
   obtain ⟨o,e,d⟩:=T.obj _ _ st7 b hb
   exact (I10.pin (b,o) (AI _ (AI _ (bL hb e)))).2.1
 exact FS loop (T.self X.A 0 _ _ _ st4 loop)
theorem uZ {elt iter tg:Expr}{scope:Scope}{cl:List (Str×Addr)}{pos:Pos}{is:List Nat}{wi:TI}{g:TG}{te:TE} (hc:X.calm=true) (B:dU X scope cl is)
  (hi:PI X tg iter wi) (hg:∀C s H fp,PG (aS X scope cl C s H fp) tg g) (he:∀C s H fp,PE (aS X scope cl C s H fp) elt te) (hs:∀x,BI iter X.env x=pure x:=by intro _;rfl):
  PE X (.ListComp elt [⟨tg,iter,[],0⟩] scope pos) (vZ is wi g te):=by
 intro pins s σ H Q I h
 rw[eval_ListComp]
 refine rS (use:=none) hc B hi hg he hs I h fun l C H' s' m I' hn h1 h2 h3 h4 h5 h6 q=>⟨m,hn,fun h' hsb=>?_⟩
 exact ⟨.ref l,H',I'.turned (t':=s'.toks) (fun b o hb e=>hsb.extBut b o hb e) h1 (Ne.symm h2.symm) (.inr h4) h5 h6,rfl,q⟩
end
section
variable {X:Cx}
end
section
variable {prog:AC}{w:World}{A:A4}{E:Value→Ar→Prop}
theorem jO {it t:Addr}{items:Array Value} (hne:t≠it):∀(n i:Nat) (s:Ar) (Q:List Value→Ar→Prop),s.heap.IsListIter it t i→s.heap.IsList t items→i+n≤items.size→
  (∀h',h'.IsListIter it t (i+n)→Dv it s.heap h'→Q ((items.toList.drop i).take n) {s with heap:=h' })→wpAny (model prog w) A (draw (.ref it) n) Q E s
 |0,i,s,Q,hit,_,_,hQ=>by
  show wpAny _ _ (pure []) Q E s
  exact As (by simpa using hQ s.heap hit (He ..))
 |n+1,i,s,Q,hit,ht,hle,hQ=>by
  have hlt:i < items.size:=by omega
  show wpAny _ _ (EM (.ref it) >>=_) Q E s
  refine An (Dp hit ht (x:=items[i]) (by simp[hlt]) fun h₁ hit₁ hs₁=>?_)
  refine An (Bw (jO hne n (i+1) _ _ hit₁ (ht.extBut hs₁.extBut hne) (by omega) fun h₂ hit₂ hs₂=>As ?_))
  have hd:items.toList.drop i=items[i]::items.toList.drop (i+1):=by simp[Fb,hlt]
  have:=hQ h₂ (by rw[show i+(n+1)=i+1+n by omega];exact hit₂) (hs₁.trans hs₂)
  rw[hd,GN] at this
  exact this
theorem iz {s:Ar}{t:Addr}{items:Array Value}{Q:List Value→Ar→Prop} (hh:A.handled=none) (ht:s.heap.IsList t items)
  (hQ:∀h',JG s.heap.objs.size s.heap h'→Q items.toList {s with heap:=h' }):wpAny (model prog w) A (HK (.ref t) items.size none) Q E s:=by
 have hlt:t≠s.heap.objs.size:=by obtain ⟨o,ho,_⟩:=ht;exact AZ (AB ho)
 unfold HK
 refine An ?_
 ·unfold notIterableAtAll
  refine An (D4 ht.typeIs PySem.slot_list_iter.lookup ?_)
  refine As ?_
  simp only[AQ,if_false]
  refine An (Bw (Cj ht ?_))
  refine An (Bw (jO hlt items.size 0 _ _ ⟨_,AD _ rfl,rfl,rfl⟩ (ht.push _) (by omega) fun h₁ hit₁ hs₁=>?_))
  have hall:JP items.size (JQ 0 items.toList)=items.toList:=by
   rw[List.drop_zero];exact FT (by simp)
  rw[hall]
  rw[if_neg (by simp)]
  have ht₁:h₁.IsList t items:=(ht.push _).extBut hs₁.extBut hlt
  refine An (Bw (Ep hh hit₁ ht₁ (by simp) fun h₂ he₂=>?_))
  simp only[Option.isSome_none,AQ,if_false]
  refine As (hQ h₂ fun b o hb e=>he₂ b o hb (hs₁.extBut b o hb (Ap _ e)))
end
section
variable {X:Cx}{pos:Pos}
def zU (K:Ao) (n:Nat) (t:TGs):TG:=fun v σ H Q=>∃a xs,v=.ref a∧SqL K H a xs∧xs.length=n∧t xs σ H Q
theorem ye {es:List Expr}{k:Nat}{t:TGs}{n:Nat} (hc:X.calm=true) (h:PGs X es t)
  (hn:(CT es X.env).length=n:=by rfl) (hst:(CT es X.env).findIdx? (·.1)=none:=by rfl):PG X (.Tuple es k pos) (zU X.K n t):=by
 intro pins s σ H v u Q I r hw
 obtain ⟨a,xs,e1,hq,hl,hw⟩:=hw
 subst e1
 cases r
 obtain ⟨its,rv,ht,hz⟩:=I.list hq
 rw[assign_Tuple]
 refine An (Fx ?_)
 unfold unpack
 rw[hst,hn,←hl,rv.length,←AN]
 refine An (Bw (iz (I.ok.hd hc) ht.isList fun h' hx=>?_))
 have I1:Inv X pins σ H {s with heap:=h' }:=I.kept (t':=s.toks) fun b o e=>hx b o (AZ (AB e)) e
 exact h pins _ σ H xs _ Q I1 (by simpa using rv) hw
end
def goC (cells:List (Str×Addr)):List (Str×EE)→List (Str×Addr)→List (Str×Addr)
 |[],acc=>acc
 | (n,k)::r,acc=>goC cells r (if (k==.free)=true then (n,(cells.lookup n).getD 0)::acc else acc)
theorem mZ {env:Env}{scope:Scope} (h:∀y∈scope.names,y.2=.free→(env.cells.lookup y.1).isSome=true):Gu scope env=pure (goC env.cells scope.names []):=by
 have all:∀(names:List (Str×EE)) (acc:List (Str×Addr)),(∀y∈names,y.2=.free→(env.cells.lookup y.1).isSome=true)→
   (forIn names acc (fun x cs=>match x with | (name,kind)=>if (kind==.free)=true then (do let c ←cellOf env name;pure (ForInStep.yield ((name,c)::cs))) else pure (ForInStep.yield cs)):Sem (List (Str×Addr)))=pure (goC env.cells names acc):=by
  intro names
  induction names with
  |nil=>intro acc _;rfl
  |cons y r ih=>
   intro acc hy
   obtain ⟨n,k⟩:=y
   rw[EO]
   by_cases hk:k=.free
   ·subst hk
    have:=hy (n,.free) AE rfl
    obtain ⟨c,hc⟩:=DU.mp this
    have e:cellOf env n=pure c:=by unfold cellOf;rw[hc]
    simp only[beq_self_eq_true,if_true,e,pure_bind]
    rw[ih _ fun y hy'=>hy y (Au _ hy')]
    simp only[goC,beq_self_eq_true,if_true,hc,DN]
   ·have hb:(k==NameKind.free)=false:=by simpa using hk
    simp only[hb,AQ,if_false,pure_bind]
    rw[ih _ fun y hy'=>hy y (Au _ hy')]
    simp only[goC,hb,AQ,if_false]
 simp only[Gu]
 have:=all scope.names [] h
 simpa using this
theorem pP {cells:List (Str×Addr)}:∀(names:List (Str×EE)) (acc:List (Str×Addr)),(∀y∈names,y.2=.free→(cells.lookup y.1).isSome=true)→(∀x c,acc.lookup x=some c→cells.lookup x=some c)→
  ∀x c,(goC cells names acc).lookup x=some c→cells.lookup x=some c
 |[],_,_,ha,x,c,h=>ha x c h
 | (n,k)::r,acc,hy,ha,x,c,h=>by
  rw[goC] at h
  refine pP r _ (fun y hy'=>hy y (Au _ hy')) (fun x' c' e=>?_) x c h
  by_cases hk:k=.free
  ·subst hk
   simp only[beq_self_eq_true,if_true] at e
   rw[BS] at e
   by_cases hx:(x'==n)=true
   ·rw[hx] at e
    have hx':x'=n:=by simpa using hx
    obtain ⟨c2,hc2⟩:=DU.mp (hy (n,.free) AE rfl)
    simp only[hc2,DN] at e
    rw[hx',hc2];exact e
   ·have:(x'==n)=false:=by simpa using hx
    rw[this] at e
    exact ha x' c' e
  ·have hb:(k==NameKind.free)=false:=by simpa using hk
   rw[hb] at e
   exact ha x' c' e
theorem oM {cells:List (Str×Addr)}{x:Str}:∀(names:List (Str×EE)) (acc:List (Str×Addr)),((x,NameKind.free)∈names∨∃c,acc.lookup x=some c)→∃c,(goC cells names acc).lookup x=some c
 |[],_,h=>by
  rcases h with h |h
  ·cases h
  ·exact h
 | (n,k)::r,acc,h=>by
  rw[goC]
  refine oM r _ ?_
  rcases h with h |⟨c,h⟩
  ·rcases Ay.mp h with e |h
   ·cases e
    right
    simp
   ·exact .inl h
  ·right
   by_cases hk:k=.free
   ·subst hk
    simp only[beq_self_eq_true,if_true]
    rw[BS]
    cases hx:x==n with
    |true=>exact ⟨_,rfl⟩
    |false=>exact ⟨c,h⟩
   ·have hb:(k==NameKind.free)=false:=by simpa using hk
    rw[hb];exact ⟨c,h⟩
theorem cQ {env:Env}{x:Str}{kd:EE}:∀{names:List (Str×EE)},
  (names.map fun (n,k)=>if (k==NameKind.free && env.scope.kind==.function && env.kindOf n==some .cell) then (n,NameKind.cell) else (n,k)).lookup x=some kd→names.lookup x=some kd∨(kd=.cell∧names.lookup x=some .free)
 |[],h=>by simp at h
 | (n,k)::r,h=>by
  have ih:=@cQ env x kd r
  change HU x ((if (k==NameKind.free && env.scope.kind==.function && env.kindOf n==some .cell)=true then (n,NameKind.cell) else (n,k))::_)=_ at h
  by_cases hc:(k==NameKind.free && env.scope.kind==.function && env.kindOf n==some .cell)=true
  ·rw[if_pos hc] at h
   rw[BS] at h ⊢
   cases hx:x==n with
   |true=>
    rw[hx] at h
    have hk:k=.free:=by
     have:=(Gw.mp (Gw.mp hc).1).1
     simpa using this
    subst hk
    have h':some NameKind.cell=some kd:=h
    cases h'
    exact .inr ⟨rfl,rfl⟩
   |false=>rw[hx] at h;exact ih h
  ·rw[if_neg hc] at h
   rw[BS] at h ⊢
   cases hx:x==n with
   |true=>rw[hx] at h;exact .inl h
   |false=>rw[hx] at h;exact ih h
def rK (scope fscope:Scope) (N:List Str) (is:List Nat):Bool:=
 scope.names.all (fun y=>y.2 !=.cell) && scope.names.all (fun y=>y.2 !=.local ||scope.names.lookup y.1==some .local) && scope.names.all (fun y=>y.2 !=.free ||fscope.names.lookup y.1==some .cell) &&
  (Bj N.length).all fun i=>match N[i]? with |some x=>scope.names.lookup x !=some .local ||is.contains i |none=>true
theorem blk {X:Cx}{scope:Scope} (fscope:Scope) (N:List Str) (is:List Nat) (hNN:X.N=N) (hs:X.env.scope=fscope) (hcs:X.env.cells=HM (X.env.locals+1) fscope.names []) (hk:scope.kind=.function) (h:rK scope fscope N is=true):dU X scope (goC X.env.cells scope.names []) is:=by
 subst hNN
 unfold rK at h
 simp only[BR,FI] at h
 obtain ⟨⟨⟨h1,h2⟩,h3⟩,h4⟩:=h
 have f1:∀y∈scope.names,y.2=.free→fscope.names.lookup y.1=some .cell:=fun y hy e=>by
  have:=h3 y hy
  simp only[HV,bne_iff_ne,ne_eq,beq_iff_eq] at this
  exact this.resolve_left fun z=>z e
 have f2:∀y∈scope.names,y.2=.free→(X.env.cells.lookup y.1).isSome=true:=fun y hy e=>by
  rw[hcs];exact Ea _ _ _ (.inl (f1 y hy e))
 have nc:∀y∈scope.names,y.2≠.cell:=fun y hy=>by have:=h1 y hy;simpa using this
 refine ⟨mZ f2,nc,hk,fun y hy e=>?_,pP _ _ f2 (fun x c e=>by simp at e),fun x hx=>?_,fun i x hi hl=>?_⟩
 ·have:=h2 y hy
  simp only[HV,bne_iff_ne,ne_eq,beq_iff_eq] at this
  exact this.resolve_left fun z=>z e
 ·have hf:(x,NameKind.free)∈scope.names:=by
   rcases hx with hx |hx
   ·rcases cQ hx with z |⟨_,z⟩
    ·exact absurd rfl (nc _ (BD z))
    ·exact BD z
   ·rcases cQ hx with z |⟨z,_⟩
    ·exact BD z
    ·cases z
  have hc:=f1 _ hf rfl
  refine ⟨.inr (.inl (by rw[hs];exact hc)),(by rw[hs,show fscope.names.lookup x=some .cell from hc];intro z;cases z),oM _ _ (.inl hf)⟩
 ·have hi':i < X.N.length:=(AF.mp hi).1
  have:=h4 i (AV.mpr hi')
  rw[hi] at this
  have hl':scope.names.lookup x=some .local:=by
   rcases cQ hl with z |⟨z,_⟩
   ·exact z
   ·cases z
  simp only[hl',bne_self_eq_false,Bool.false_or,List.contains_iff_mem] at this
  exact this
end L2
namespace L2
end L2
namespace L2
open PySem PySem.Spec PySem.W PyProof.Rows
def CXF (P:AC) (w:World):CXT:=fun outer H s E e s'=>∃(ea:Addr) (cls a0:Value) (B:Heap) (H':Hp),e=.ref ea∧s'.os=s.os∧Fu s'.gens∧Un (frs outer) [] H H' s.heap s'.heap∧HOk P w H' s'.heap∧H' ea=none∧
 (∀b o,s.heap.get? b=some o→b ∉ frs outer→H b=none→B.get? b=some o)∧(∀b u,H' b=some u→∃o,B.get? b=some o)∧(∀b o,s.heap.get? b=some o→b ∉ frs outer→∃o',B.get? b=some o')∧
 Heap.FlyingW B outer ea cls a0 s'.heap∧E cls none H'
theorem ax {P:AC}{w:World}{X:Cx}:jx (CXF P w) X E0:=fun _ _ _ _ _ _ _ h=>by
 obtain ⟨_,_,_,_,_,_,_,_,_,_,_,_,_,_,_,hE⟩:=h
 exact hE.elim
section
variable {P:AC}{w:World}{K:Frag}{mg:Str→Option Value}{base:Heap}{N:List Str}{qual:Str}{scope:Scope}{f:Addr}{cd:Value}{A:A4}{outer:List Env}{s:Ar}{H:Hp}{E:XK}
end
theorem Fun.okF {P:AC}{w:World}{K:Frag}{mg:Str→Option Value}{base:Heap}{x qual:Str}{st:Stmt}{f:Addr}{fd:A6}{N ps:List Str}{k:Nat}{sp:Sp} (F:Fun K x qual st f fd) (S:aD N ps (ai st)) (len:∀vs H Q E,sp vs H Q E→vs.length=ps.length)
  (hbody:∀(cdv:Value) (A:A4) (outer:List Env) (s:Ar) (H:Hp) (vs:List V) (Q:VK) (E:XK),dF k (A.deeper (GB qual (ai st) s.heap.objs.size f cdv))→sp vs H Q E→
   ∃t,PSs (mI (CXF P w) P w K mg base N qual (ai st) f cdv A outer s H E) (aB st) t∧t {nx:=fun _ H'=>Q .non H',rt:=Q } (start N vs) H):bA P w K mg base (CXF P w) (k+1) f fd ps sp:=by
 obtain ⟨oc,od,kV,doc,pm,an,cdv,ct,osl,rfl,lk,hcd⟩:=F.ex
 exact v5 lk hcd S len fun A outer s H vs Q E hr hsp=>hbody cdv A outer s H vs Q E hr hsp
section
variable {X:Cx}{pins:List (Addr×Obj)}{σ:St}{H:Hp}{s:Ar}
end
section
variable {X:Cx}
end
end L2
namespace L2
open PySem PySem.Spec PyProof.Rows
theorem j8 {n:Nat}{e:Nat→Bool}:(Bj n).all e=true↔∀j,j < n→e j=true:=by
 rw[FI]
 exact ⟨fun h j hj=>h j (AV.mpr hj),fun h j hj=>h j (AV.mp hj)⟩
section
variable {X:Cx}
end
end L2
namespace PySem.W
open PySem PySem.Spec PySem.Calls PyProof.Rows PySem.Builtin PySem.Builtin.ObjectAttr PySem.Builtin.Getset_descriptor
section
variable {prog:AC}{w:World}{A:A4}{E:Value→Ar→Prop}{s:Ar}{K:Frag}{x C:Addr}
def OfCls (x C:Addr) (h:Heap):Prop:=∃o,h.get? x=some o∧o.cls=.ref C
variable (hga:findIn K (.ref C) "__getattribute__"=some (some (.builtin "BaseException.__getattribute__"))) (hgn:findIn K (.ref C) "__getattr__"=some none) (ha:findIn K (.ref C) "__class__"=some (some (.builtin "object.__class__")))
 (hn:specialIn K (.builtin "object.__class__") "__get__"=some (some (.builtin "getset_descriptor.__get__"))) (htk:takesIn K (.builtin "object.__class__")=some true) (hm:mroIn K C (.type "object")=some true) (hmB:mroIn K C (.type "BaseException")=some true)
include ha hn htk hm in
end
structure XcOk (K:Frag) (C:Addr):Prop where
 ga:findIn K (.ref C) "__getattribute__"=some (some (.builtin "BaseException.__getattribute__"))
 gn:findIn K (.ref C) "__getattr__"=some none
 at_:findIn K (.ref C) "__class__"=some (some (.builtin "object.__class__"))
 sp:specialIn K (.builtin "object.__class__") "__get__"=some (some (.builtin "getset_descriptor.__get__"))
 tk:takesIn K (.builtin "object.__class__")=some true
 mo:mroIn K C (.type "object")=some true
 mb:mroIn K C (.type "BaseException")=some true
theorem XcOk.off {x C:Addr}{h:Heap}{o:Obj}{T:String} (I:OfCls x C h) (e:h.get? x=some o) (c:o.cls=.type T):False:=by
 obtain ⟨o',e',c'⟩:=I
 rw[e] at e';cases e'
 rw[c] at c';cases c'
end PySem.W
namespace L2
open PySem PySem.Spec PyProof.Rows
inductive TyX where
 |nm (n:String) |xc (C:Addr)
inductive U where
 |non |bl (b:Bool) |int (i:Int) |str (x:Str) |ty (n:TyX) |dic |scr (xs:List U) |tup (xs:List U) |lst (xs:List U)
def U.items:U→Option (List U)
 | .scr xs=>some xs
 | .tup xs=>some xs
 | .lst xs=>some xs
 |_=>none
def hid (H:Hp) (O:List Addr):Hp:=fun b=>if b∈O then none else H b
theorem gG {H:Hp}{O:List Addr}{b:Addr}{o:HO} (h:hid H O b=some o):H b=some o∧b ∉ O:=by
 unfold hid at h
 split at h
 ·cases h
 ·exact ⟨h,by assumption⟩
theorem dC {H:Hp}{O:List Addr}{b:Addr}{o:HO} (h:H b=some o) (n:b ∉ O):hid H O b=some o:=by
 unfold hid;rw[if_neg n];exact h
theorem aH {H:Hp}{O:List Addr}:aF (hid H O) H:=fun _ _ h=>(gG h).1
theorem aT {H H':Hp}{O:List Addr} (e:aF H H'):aF (hid H O) (hid H' O):=fun _ _ h=>dC (e _ _ (gG h).1) (gG h).2
theorem eo {H:Hp}{O O':List Addr} (e:∀a∈O',a∈O):aF (hid H O) (hid H O'):=fun _ _ h=>dC (gG h).1 fun z=>(gG h).2 (e _ z)
theorem bI {H H':Hp}{O:List Addr}{a:Addr} (e:aF H H') (n:H a=none):aF (hid H O) (hid H' (a::O)):=fun b o h=>by
 obtain ⟨h1,h2⟩:=gG h
 refine dC (e _ _ h1) fun z=>?_
 rcases Ay.mp z with y |y
 ·subst y;rw[n] at h1;cases h1
 ·exact h2 y
theorem kQ {H:Hp}{O:List Addr}{a:Addr}{o:HO} (h:a∈O):hid (upd H a o) O=hid H O:=by
 funext b
 unfold hid
 split
 ·rfl
 ·rename_i n
  rw[aK fun e=>n (by rw[e];exact h)]
inductive Rp (K:Ao) (H:Hp):V→U→Prop where
 |non:Rp K H .non .non
 |bl (b:Bool):Rp K H (.bl b) (.bl b)
 |int (i:Int):Rp K H (.int i) (.int i)
 |str (x:Str):Rp K H (.str x) (.str x)
 |ty (n:String):Rp K H (.ty n) (.ty (.nm n))
 |dic {a:Addr}{kvs:List (Key×V)} (h:H a=some (.dK kvs)):Rp K H (.ref a) .dic
 |xc {a C:Addr} (h:H a=some (.ext (PySem.W.OfCls a C))) (k:PySem.W.XcOk K C):Rp K H (.ref a) (.ty (.xc C))
 |scr {a:Addr}{vs:List V}{xs:List U} (h:SqL K H a vs) (hl:vs.length=xs.length) (hi:∀(i:Nat) (v:V) (x:U),vs[i]?=some v→xs[i]?=some x→Rp K H v x):Rp K H (.ref a) (.scr xs)
 |tup {a:Addr}{vs:List V}{xs:List U} (h:SqT K H a vs) (hl:vs.length=xs.length) (hi:∀(i:Nat) (v:V) (x:U),vs[i]?=some v→xs[i]?=some x→Rp K H v x):Rp K H (.ref a) (.tup xs)
 |lst {a:Addr}{vs:List V}{xs:List U} (h:H a=some (.lst vs)) (hl:vs.length=xs.length) (hi:∀(i:Nat) (v:V) (x:U),vs[i]?=some v→xs[i]?=some x→Rp K H v x):Rp K H (.ref a) (.lst xs)
theorem Rp.same {K:Ao}{H H':Hp}{v:V}{u:U} (e:aF H H') (h:Rp K H v u):Rp K H' v u:=by
 induction h with
 |non=>exact .non
 |bl b=>exact .bl b
 |int i=>exact .int i
 |str x=>exact .str x
 |ty n=>exact .ty n
 |dic h=>exact .dic (e _ _ h)
 |xc h k=>exact .xc (e _ _ h) k
 |scr h hl hi ih=>exact .scr (e.seq h) hl ih
 |tup h hl hi ih=>exact .tup (e.tup h) hl ih
 |lst h hl hi ih=>exact .lst (e _ _ h) hl ih
structure Rps (K:Ao) (H:Hp) (vs:List V) (xs:List U):Prop where
 len:vs.length=xs.length
 at_:∀(i:Nat) (v:V) (x:U),vs[i]?=some v→xs[i]?=some x→Rp K H v x
theorem Rps.same {K:Ao}{H H':Hp}{vs:List V}{xs:List U} (e:aF H H') (h:Rps K H vs xs):Rps K H' vs xs:=⟨h.len,fun i v x a b=>(h.at_ i v x a b).same e⟩
theorem Rps.nil {K:Ao}{H:Hp}:Rps K H [] []:=⟨rfl,fun i v x h=>by simp at h⟩
theorem Rps.cons {K:Ao}{H:Hp}{v:V}{x:U}{vs:List V}{xs:List U} (h:Rp K H v x) (t:Rps K H vs xs):Rps K H (v::vs) (x::xs):=by
 refine ⟨by simp[t.len],fun i a b h1 h2=>?_⟩
 cases i with
 |zero=>simp at h1 h2;subst h1;subst h2;exact h
 |succ i=>exact t.at_ i a b (by simpa using h1) (by simpa using h2)
theorem Rps.snoc {K:Ao}{H:Hp}{vs ws:List V}{xs ys:List U} (h:Rps K H vs xs) (t:Rps K H ws ys):Rps K H (vs++ws) (xs++ys):=by
 refine ⟨by simp[h.len,t.len],fun i a b h1 h2=>?_⟩
 by_cases hi:i < vs.length
 ·rw[A7 hi] at h1
  rw[A7 (by rw[←h.len];exact hi)] at h2
  exact h.at_ i a b h1 h2
 ·have hle:vs.length≤i:=DM hi
  rw[A0 hle] at h1
  rw[A0 (by rw[←h.len];exact hle),←h.len] at h2
  exact t.at_ _ a b h1 h2
theorem Rps.get {K:Ao}{H:Hp}{vs:List V}{xs:List U}{i:Nat}{x:U} (h:Rps K H vs xs) (e:xs[i]?=some x):∃v,vs[i]?=some v∧Rp K H v x:=by
 have hi:i < vs.length:=by rw[h.len];exact (AF.mp e).1
 exact ⟨vs[i],Am hi,h.at_ i _ x (Am hi) e⟩
theorem Rps.atI {K:Ao}{H:Hp}{vs:List V}{xs:List U}{i:Int}{x:U} (h:Rps K H vs xs) (e:L2.atI xs i=some x):∃v,L2.atI vs i=some v∧Rp K H v x:=by
 unfold L2.atI at e ⊢
 rw[h.len]
 cases q:ixN xs.length i with
 |none=>rw[q] at e;cases e
 |some j=>
  rw[q] at e
  obtain ⟨v,h1,h2⟩:=h.get (show xs[j]?=some x from e)
  exact ⟨v,h1,h2⟩
theorem Rps.cons_inv {K:Ao}{H:Hp}{vs:List V}{x:U}{xs:List U} (h:Rps K H vs (x::xs)):∃v ws,vs=v::ws∧Rp K H v x∧Rps K H ws xs:=by
 cases vs with
 |nil=>have:=h.len;simp at this
 |cons v ws=>
  refine ⟨v,ws,rfl,h.at_ 0 v x rfl rfl,by have:=h.len;simpa using this,fun i a b h1 h2=>h.at_ (i+1) a b (by simpa using h1) (by simpa using h2)⟩
theorem Rps.nil_inv {K:Ao}{H:Hp}{vs:List V} (h:Rps K H vs []):vs=[]:=Cb.mp (by rw[h.len];rfl)
inductive Sl where
 |val (u:U) |own (xs:List U) |pin (w:V) (u:U)
abbrev PSt:=List (Option Sl)
def uJ (K:Ao) (H:Hp) (O O0:List Addr) (v:V):Sl→Prop
 | .val u=>Rp K (hid H O) v u
 | .own xs=>∃a vs,v=.ref a∧a∈O∧a ∉ O0∧H a=some (.lst vs)∧Rps K (hid H O) vs xs
 | .pin w u=>v=w∧Rp K (hid H O) v u
structure Rs (K:Ao) (H0:Hp) (O0:List Addr) (ps:PSt) (σ:St) (H:Hp) (O:List Addr):Prop where
 same:aF H0 H
 old:∀a∈O0,a∈O
 new:∀a∈O,a∈O0∨H0 a=none
 dom:∀a∈O,H a≠none
 len:σ.length=ps.length
 at_:∀(i:Nat) (s:Sl),ps[i]?=some (some s)→∃v,σ[i]?=some (some v)∧uJ K H O O0 v s
 inj:∀(i j:Nat) (xs ys:List U) (a:Addr),ps[i]?=some (some (.own xs))→ps[j]?=some (some (.own ys))→σ[i]?=some (some (.ref a))→σ[j]?=some (some (.ref a))→i=j
section
variable {K:Ao}{H0 H H':Hp}{O0 O:List Addr}{ps:PSt}{σ:St}
theorem uJ.same {v:V}{s:Sl} (e:aF H H') (h:uJ K H O O0 v s):uJ K H' O O0 v s:=by
 cases s with
 |val u=>exact Rp.same (aT e) h
 |own xs=>obtain ⟨a,vs,h1,h2,h3,h4,h5⟩:=h;exact ⟨a,vs,h1,h2,h3,e _ _ h4,h5.same (aT e)⟩
 |pin w u=>exact ⟨h.1,Rp.same (aT e) h.2⟩
theorem Rs.go (R:Rs K H0 O0 ps σ H O) (e:aF H H'):Rs K H0 O0 ps σ H' O:=
 ⟨R.same.trans e,R.old,R.new,fun a ha z=>R.dom a ha (e.free z),R.len,fun i s h=>let ⟨v,h1,h2⟩:=R.at_ i s h;⟨v,h1,h2.same e⟩,R.inj⟩
theorem dj {α:Type}{xs:List α}{i j:Nat}{y x:α} (h:(xs.set i y)[j]?=some x):(i=j∧x=y)∨(i≠j∧xs[j]?=some x):=by
 by_cases e:i=j
 ·subst e
  rw[Fl] at h
  simp at h
  exact .inl ⟨rfl,h.2.symm⟩
 ·rw[Bb e] at h
  exact .inr ⟨e,h⟩
theorem g_ {α:Type}{xs:List α}{i:Nat}{y:α} (h:i < xs.length):(xs.set i y)[i]?=some y:=by rw[Fl];simp[h]
theorem aP {α:Type}{xs:List α}{i:Nat}{y:α} (h:xs[i]?=some y):i < xs.length:=(AF.mp h).1
theorem jy {i:Nat}{u:U}{j:Nat}{xs:List U} (h:(ps.set i (some (.val u)))[j]?=some (some (.own xs))):i≠j∧ps[j]?=some (some (.own xs)):=by
 rcases dj h with ⟨_,e⟩ |h
 ·cases e
 ·exact h
theorem Rs.set {i:Nat}{v:V}{u:U} (R:Rs K H0 O0 ps σ H O) (r:Rp K (hid H O) v u):Rs K H0 O0 (ps.set i (some (.val u))) (σ.set i (some v)) H O:=by
 refine ⟨R.same,R.old,R.new,R.dom,by simp[R.len],fun j s h=>?_,fun j k xs ys a h1 h2 h3 h4=>?_⟩
 ·rcases dj h with ⟨e,q⟩ |⟨n,q⟩
  ·subst e
   cases q
   have hi:=aP h
   rw[D5] at hi
   exact ⟨v,g_ (by rw[R.len];exact hi),r⟩
  ·obtain ⟨w,h1,h2⟩:=R.at_ j s q
   exact ⟨w,by rw[Bb n];exact h1,h2⟩
 ·obtain ⟨n1,q1⟩:=jy h1
  obtain ⟨n2,q2⟩:=jy h2
  rw[Bb n1] at h3
  rw[Bb n2] at h4
  exact R.inj j k xs ys a q1 q2 h3 h4
theorem Rs.drop {i:Nat}{o:Option V} (R:Rs K H0 O0 ps σ H O):Rs K H0 O0 (ps.set i none) (σ.set i o) H O:=by
 have key:∀{j:Nat}{s:Sl},(ps.set i none)[j]?=some (some s)→i≠j∧ps[j]?=some (some s):=fun {j s} h=>by
  rcases dj h with ⟨_,e⟩ |h
  ·cases e
  ·exact h
 refine ⟨R.same,R.old,R.new,R.dom,by simp[R.len],fun j s h=>?_,fun j k xs ys a h1 h2 h3 h4=>?_⟩
 ·obtain ⟨n,q⟩:=key h
  obtain ⟨w,h1,h2⟩:=R.at_ j s q
  exact ⟨w,by rw[Bb n];exact h1,h2⟩
 ·obtain ⟨n1,q1⟩:=key h1
  obtain ⟨n2,q2⟩:=key h2
  rw[Bb n1] at h3
  rw[Bb n2] at h4
  exact R.inj j k xs ys a q1 q2 h3 h4
theorem Rs.own {i:Nat}{a:Addr}{vs:List V}{xs:List U} (R:Rs K H0 O0 ps σ H O) (e:aF H H') (n:H a=none) (h:H' a=some (.lst vs)) (r:Rps K (hid H' (a::O)) vs xs):
  Rs K H0 O0 (ps.set i (some (.own xs))) (σ.set i (some (.ref a))) H' (a::O):=by
 have na:a ∉ O:=fun z=>R.dom a z n
 have na0:a ∉ O0:=fun z=>na (R.old a z)
 have n0:H0 a=none:=R.same.free n
 have noref:∀(j:Nat) (ys:List U),ps[j]?=some (some (.own ys))→σ[j]?≠some (some (.ref a)):=fun j ys h1 h2=>by
  obtain ⟨v,h3,b,ws,h4,h5,_⟩:=R.at_ j _ h1
  rw[h2] at h3
  cases h3
  cases h4
  exact na h5
 refine ⟨R.same.trans e,fun b hb=>Au _ (R.old b hb),fun b hb=>?_,fun b hb z=>?_,by simp[R.len],fun j s q=>?_,fun j k ys zs b h1 h2 h3 h4=>?_⟩
 ·rcases Ay.mp hb with y |y
  ·subst y;exact .inr n0
  ·exact R.new b y
 ·rcases Ay.mp hb with y |y
  ·subst y;rw[h] at z;cases z
  ·exact R.dom b y (e.free z)
 ·rcases dj q with ⟨e',q'⟩ |⟨ne,q'⟩
  ·subst e'
   cases q'
   have hi:=aP q
   rw[D5] at hi
   exact ⟨.ref a,g_ (by rw[R.len];exact hi),a,vs,rfl,AE,na0,h,r⟩
  ·obtain ⟨w,h1,h2⟩:=R.at_ j s q'
   refine ⟨w,by rw[Bb ne];exact h1,?_⟩
   cases s with
   |val u=>exact Rp.same (bI e n) h2
   |own ys=>
    obtain ⟨b,ws,k1,k2,k3,k4,k5⟩:=h2
    exact ⟨b,ws,k1,Au _ k2,k3,e _ _ k4,k5.same (bI e n)⟩
   |pin z u=>exact ⟨h2.1,Rp.same (bI e n) h2.2⟩
 ·rcases dj h1 with ⟨e1,q1⟩ |⟨n1,q1⟩ <;>rcases dj h2 with ⟨e2,q2⟩ |⟨n2,q2⟩
  ·rw[←e1,←e2]
  ·subst e1
   have hi:=aP h3
   rw[D5] at hi
   rw[g_ hi] at h3
   cases h3
   rw[Bb n2] at h4
   exact absurd h4 (noref k zs q2)
  ·subst e2
   have hi:=aP h4
   rw[D5] at hi
   rw[g_ hi] at h4
   cases h4
   rw[Bb n1] at h3
   exact absurd h3 (noref j ys q1)
  ·rw[Bb n1] at h3
   rw[Bb n2] at h4
   exact R.inj j k ys zs b q1 q2 h3 h4
theorem Rs.write {i:Nat}{a:Addr}{vs:List V}{xs ys:List U} (R:Rs K H0 O0 ps σ H O) (hp:ps[i]?=some (some (.own xs))) (hs:σ[i]?=some (some (.ref a))) (r:Rps K (hid H O) vs ys):
  Rs K H0 O0 (ps.set i (some (.own ys))) σ (upd H a (.lst vs)) O:=by
 obtain ⟨v,h1,b,ws,h2,h3,h4,h5,h6⟩:=R.at_ i _ hp
 rw[hs] at h1
 cases h1
 cases h2
 have h0:H0 a=none:=(R.new a h3).resolve_left h4
 have eh:hid (upd H a (.lst vs)) O=hid H O:=kQ h3
 refine ⟨R.same.put h0 _,R.old,R.new,fun b hb z=>?_,by simp[R.len],fun j s q=>?_,fun j k zs us b q1 q2 q3 q4=>?_⟩
 ·by_cases e:b=a
  ·subst e;rw[aW] at z;cases z
  ·rw[aK e] at z;exact R.dom b hb z
 ·rcases dj q with ⟨e',q'⟩ |⟨ne,q'⟩
  ·subst e'
   cases q'
   exact ⟨.ref a,hs,a,vs,rfl,h3,h4,aW,by rw[eh];exact r⟩
  ·obtain ⟨w,k1,k2⟩:=R.at_ j s q'
   refine ⟨w,k1,?_⟩
   cases s with
   |val u=>exact (show Rp K (hid (upd H a (.lst vs)) O) w u by rw[eh];exact k2)
   |own zs=>
    obtain ⟨b,us,e1,e2,e3,e4,e5⟩:=k2
    subst e1
    have:b≠a:=fun z=>by subst z;exact ne (R.inj i j xs zs b hp q' hs k1)
    exact ⟨b,us,rfl,e2,e3,by rw[aK this];exact e4,by rw[eh];exact e5⟩
   |pin z u=>exact ⟨k2.1,by rw[eh];exact k2.2⟩
 ·have c1:∃zs',ps[j]?=some (some (.own zs')):=by
   rcases dj q1 with ⟨e,_⟩ |⟨_,z⟩
   ·subst e;exact ⟨_,hp⟩
   ·exact ⟨_,z⟩
  have c2:∃zs',ps[k]?=some (some (.own zs')):=by
   rcases dj q2 with ⟨e,_⟩ |⟨_,z⟩
   ·subst e;exact ⟨_,hp⟩
   ·exact ⟨_,z⟩
  obtain ⟨_,c1⟩:=c1
  obtain ⟨_,c2⟩:=c2
  exact R.inj j k _ _ b c1 c2 q3 q4
def SubP:PSt→PSt→Prop
 |[],[]=>True
 |none::p,_::q=>SubP p q
 |some s::p,t::q=>t=some s∧SubP p q
 |_,_=>False
theorem SubP.at_:∀{p q:PSt},SubP p q→p.length=q.length∧∀(i:Nat) (s:Sl),p[i]?=some (some s)→q[i]?=some (some s)
 |[],[],_=>⟨rfl,fun i s h=>by simp at h⟩
 |none::p,t::q,h=>by
  obtain ⟨h1,h2⟩:=SubP.at_ (p:=p) (q:=q) h
  refine ⟨by simp[h1],fun i s e=>?_⟩
  cases i with
  |zero=>simp at e
  |succ i=>exact h2 i s (by simpa using e)
 |some s0::p,t::q,h=>by
  obtain ⟨h0,h⟩:=h
  obtain ⟨h1,h2⟩:=SubP.at_ (p:=p) (q:=q) h
  refine ⟨by simp[h1],fun i s e=>?_⟩
  cases i with
  |zero=>simp at e;subst e;rw[h0];rfl
  |succ i=>exact h2 i s (by simpa using e)
 |[],_::_,h=>h.elim
 |none::_,[],h=>h.elim
 |some _::_,[],h=>h.elim
theorem Rs.sub {ps':PSt} (R:Rs K H0 O0 ps σ H O) (h:SubP ps' ps):Rs K H0 O0 ps' σ H O:=by
 obtain ⟨h1,h2⟩:=h.at_
 exact ⟨R.same,R.old,R.new,R.dom,R.len.trans h1.symm,fun i s e=>R.at_ i s (h2 i s e),fun i j xs ys a e1 e2=>R.inj i j xs ys a (h2 _ _ e1) (h2 _ _ e2)⟩
end
def Ev (X:Cx) (H0:Hp) (O0:List Addr) (ps:PSt) (e:Expr) (u:U):Prop:=
 PE X e fun σ H Q=>∃O,Rs X.K H0 O0 ps σ H O∧∀v H',aF H H'→Rp X.K (hid H' O) v u→Q v H'
def EvN (X:Cx) (H0:Hp) (O0:List Addr) (ps:PSt) (e:Expr) (xs:List U):Prop:=
 PE X e fun σ H Q=>∃O,Rs X.K H0 O0 ps σ H O∧∀a vs H',aF H H'→H a=none→H' a=some (.lst vs)→Rps X.K (hid H' (a::O)) vs xs→Q (.ref a) H'
def Tt (X:Cx) (H0:Hp) (O0:List Addr) (ps:PSt) (e:Expr) (b:Bool):Prop:=
 PT X e fun σ H Q=>∃O,Rs X.K H0 O0 ps σ H O∧∀H',aF H H'→Q b H'
def Tw (X:Cx) (H0:Hp) (O0:List Addr) (ps:PSt) (e:Expr) (b:Bool):Prop:=
 PW X e fun σ H Q=>∃O,Rs X.K H0 O0 ps σ H O∧∀H',aF H H'→Q b H'
def EvA (X:Cx) (H0:Hp) (O0:List Addr) (ps:PSt) (es:List Expr) (us:List U):Prop:=
 PA X es fun σ H Q=>∃O,Rs X.K H0 O0 ps σ H O∧∀vs H',aF H H'→Rps X.K (hid H' O) vs us→Q vs H'
theorem PE.mono {X:Cx}{e:Expr}{t t':TE} (h:PE X e t) (m:∀σ H Q,t' σ H Q→t σ H Q):PE X e t':=fun pins s σ H Q I q=>h pins s σ H Q I (m σ H Q q)
theorem PT.mono {X:Cx}{e:Expr}{t t':TT} (h:PT X e t) (m:∀σ H Q,t' σ H Q→t σ H Q):PT X e t':=fun pins s σ H Q I q=>h pins s σ H Q I (m σ H Q q)
theorem PW.mono {X:Cx}{e:Expr}{t t':TT} (h:PW X e t) (m:∀σ H Q,t' σ H Q→t σ H Q):PW X e t':=fun wh pins s σ H Q I q=>h wh pins s σ H Q I (m σ H Q q)
theorem PA.mono {X:Cx}{e:List Expr}{t t':TA} (h:PA X e t) (m:∀σ H Q,t' σ H Q→t σ H Q):PA X e t':=fun pos pins s σ H Q I q=>h pos pins s σ H Q I (m σ H Q q)
theorem PS.mono {X:Cx}{e:Stmt}{t t':TS} (h:PS X e t) (m:∀D σ H,t' D σ H→t D σ H):PS X e t':=fun pins s σ H D I q=>h pins s σ H D I (m D σ H q)
theorem PSs.mono {X:Cx}{e:List Stmt}{t t':TS} (h:PSs X e t) (m:∀D σ H,t' D σ H→t D σ H):PSs X e t':=fun pins s σ H D I q=>h pins s σ H D I (m D σ H q)
section
variable {X:Cx}{H0:Hp}{O0:List Addr}{ps:PSt}{a b c e:Expr}{es:List Expr}{pos p:Pos}{u x y:U}{xs ys us:List U}{i j:Int}
theorem EvN.ev (h:EvN X H0 O0 ps e xs):Ev X H0 O0 ps e (.lst xs):=PE.mono h fun σ H Q ⟨O,R,k⟩=>⟨O,R,fun a vs H' s n h r=>by
 have na:a ∉ O:=fun z=>R.dom a z n
 have less:aF (hid H' (a::O)) (hid H' O):=eo fun b hb=>Au _ hb
 exact k _ H' s (.lst (dC h na) (r.same less).len (r.same less).at_)⟩
theorem aa (i:Nat) {x:Str}{u:U} (h:ps[i]?=some (some (.val u))) (hN:X.N[i]?=some x:=by rfl) (hv:Vis X.env.scope x:=by first |exact Or.inl rfl |exact Or.inr (Or.inl rfl) |exact Or.inr (Or.inr rfl)) (hd:(x==("__debug__":Str))=false:=by decide)
  (hcd:(x==("__classdict__":Str))=false:=by decide):Ev X H0 O0 ps (.Name x pos) u:=PE.mono (ip hN hv hd hcd) fun σ H Q ⟨O,R,k⟩=>by
 obtain ⟨v,h1,h2⟩:=R.at_ i _ h
 exact ⟨v,h1,k v H (.refl H) h2⟩
theorem ab {i j pos}:Ev X H0 O0 ps (.Constant (.int i) j pos) (.int i):=PE.mono wX fun _ H _ ⟨_,_,k⟩=>k _ H (.refl H) (.int i)
theorem ya {i j pos}:Ev X H0 O0 ps (.Constant (.bool i) j pos) (.bl i):=PE.mono yl fun _ H _ ⟨_,_,k⟩=>k _ H (.refl H) (.bl i)
theorem rh {j pos}:Ev X H0 O0 ps (.Constant .none j pos) .non:=PE.mono xq fun _ H _ ⟨_,_,k⟩=>k _ H (.refl H) .non
theorem qA {x:Str}{n:String}{pos:Pos} (hg:Gl X x) (hm:X.mg x=none) (hv:Cg x=some (.type n)) (hn:x≠"__name__":=by decide) (hd:(x==("__debug__":Str))=false:=by decide):Ev X H0 O0 ps (.Name x pos) (.ty (.nm n)):=
 PE.mono (yP hg hm hv hn hd) fun _ H _ ⟨_,_,k⟩=>k _ H (.refl H) (.ty n)
theorem two {ta tb:TE}{σ:St}{H:Hp}{Q:VK}{O:List Addr}{r:R2} (R:Rs X.K H0 O0 ps σ H O)
  (ha:∀σ H Q,(∃O,Rs X.K H0 O0 ps σ H O∧∀v H',aF H H'→Rp X.K (hid H' O) v x→Q v H')→ta σ H Q) (hb:∀σ H Q,(∃O,Rs X.K H0 O0 ps σ H O∧∀v H',aF H H'→Rp X.K (hid H' O) v y→Q v H')→tb σ H Q)
  (h:∀v w H',aF H H'→Rs X.K H0 O0 ps σ H' O→Rp X.K (hid H' O) v x→Rp X.K (hid H' O) w y→r v w H' Q):tOp r ta tb σ H Q:=
 ha σ H _ ⟨O,R,fun v H1 s1 r1=>hb σ H1 _ ⟨O,R.go s1,fun w H2 s2 r2=>h v w H2 (s1.trans s2) (R.go (s1.trans s2)) (r1.same (aT s2)) r2⟩⟩
theorem wc {op:Jj}{g:Int→Int→Int} (ho:OpR X (Ej op) (rI0 fun i j=>.int (g i j))) (ha:Ev X H0 O0 ps a (.int i)) (hb:Ev X H0 O0 ps b (.int j)):Ev X H0 O0 ps (.BinOp a op b pos) (.int (g i j)):=
 PE.mono (ui ho ha hb) fun σ H Q ⟨O,R,k⟩=>two (x:=.int i) (y:=.int j) R (fun _ _ _ z=>z) (fun _ _ _ z=>z) fun v w H' s _ r1 r2=>by
  cases r1;cases r2;exact ⟨i,j,rfl,rfl,k _ H' s (.int _)⟩
theorem mK {op:Jj}{C:Int→Int→Prop}{g:Int→Int→Int} (ho:OpR X (Ej op) (rI C fun i j=>.int (g i j))) (ha:Ev X H0 O0 ps a (.int i)) (hb:Ev X H0 O0 ps b (.int j)) (hc:C i j):Ev X H0 O0 ps (.BinOp a op b pos) (.int (g i j)):=
 PE.mono (ui ho ha hb) fun σ H Q ⟨O,R,k⟩=>two (x:=.int i) (y:=.int j) R (fun _ _ _ z=>z) (fun _ _ _ z=>z) fun v w H' s _ r1 r2=>by
  cases r1;cases r2;exact ⟨i,j,rfl,rfl,hc,k _ H' s (.int _)⟩
theorem ce (ha:Ev X H0 O0 ps a (.int i)) (hb:Ev X H0 O0 ps b (.int j)):Ev X H0 O0 ps (.BinOp a .Add b pos) (.int (i+j)):=wc xo ha hb
theorem bo (ha:Ev X H0 O0 ps a (.int i)) (hb:Ev X H0 O0 ps b (.int j)):Ev X H0 O0 ps (.BinOp a .Sub b pos) (.int (i - j)):=wc xS ha hb
theorem aQ (ha:Ev X H0 O0 ps a (.int i)) (hb:Ev X H0 O0 ps b (.int j)) (hc:IntMulOk i j):Ev X H0 O0 ps (.BinOp a .Mult b pos) (.int (i*j)):=mK uV ha hb hc
theorem eI (ha:Ev X H0 O0 ps a (.int i)) (hb:Ev X H0 O0 ps b (.int j)) (hc:wa i j):Ev X H0 O0 ps (.BinOp a .FloorDiv b pos) (.int (i / j)):=mK ua ha hb hc
theorem xt (ha:Ev X H0 O0 ps a (.int i)) (hb:Ev X H0 O0 ps b (.int j)) (hc:wB i j):Ev X H0 O0 ps (.BinOp a .FloorDiv b pos) (.int (i.fdiv j)):=mK tw ha hb hc
theorem bW (ha:Ev X H0 O0 ps a (.int i)) (hb:Ev X H0 O0 ps b (.int j)) (hc:0 < j):Ev X H0 O0 ps (.BinOp a .Mod b pos) (.int (i % j)):=mK xV ha hb hc
theorem mO (ha:Ev X H0 O0 ps a (.int i)) (hb:Ev X H0 O0 ps b (.int j)) (hc:yL i j):Ev X H0 O0 ps (.BinOp a .Pow b pos) (.int (i ^ j.toNat)):=mK xE ha hb hc
theorem bU (ha:Ev X H0 O0 ps a (.int i)):Ev X H0 O0 ps (.UnaryOp .USub a pos) (.int (-i)):=
 PE.mono (y4 xj ha) fun σ H Q ⟨O,R,k⟩=>⟨O,R,fun v H' s r=>by cases r;exact ⟨i,rfl,k _ H' s (.int _)⟩⟩
end
mutual
def eqW:U→U→Bool
 | .non,.non=>true
 | .bl a,.bl b=>a==b
 | .bl a,.int j=>(if a then 1 else 0)==j
 | .int i,.bl b=>i==(if b then 1 else 0)
 | .int i,.int j=>i==j
 | .str a,.str b=>a==b
 | .tup xs,.tup ys=>eqWs xs ys
 | .lst xs,.lst ys=>eqWs xs ys
 | .lst xs,.scr ys=>eqWs xs ys
 | .scr xs,.lst ys=>eqWs xs ys
 | .scr xs,.scr ys=>eqWs xs ys
 |_,_=>false
def eqWs:List U→List U→Bool
 |[],[]=>true
 |x::xs,y::ys=>eqW x y && eqWs xs ys
 |_,_=>false
end
mutual
def okU:Nat→U→Bool
 |_,.ty _=>false
 |_,.dic=>false
 |0,.tup _=>false
 |0,.lst _=>false
 |0,.scr _=>false
 |n+1,.tup xs=>okUs n xs
 |n+1,.lst xs=>okUs n xs
 |n+1,.scr xs=>okUs n xs
 |_,_=>true
def okUs:Nat→List U→Bool
 |_,[]=>true
 |n,x::xs=>okU n x && okUs n xs
end
theorem i8:∀{n:Nat}{xs:List U}{i:Nat}{x:U},okUs n xs=true→xs[i]?=some x→okU n x=true
 |n,[],i,x,_,h=>by simp at h
 |n,y::xs,0,x,h,e=>by simp at e;subst e;simp[okUs] at h;exact h.1
 |n,y::xs,i+1,x,h,e=>by simp[okUs] at h;exact i8 (i:=i) h.2 (by simpa using e)
theorem de:∀(xs ys:List U),((Bj (min xs.length ys.length)).all (fun j=>eqW (xs.getD j .non) (ys.getD j .non)) && xs.length==ys.length)=eqWs xs ys
 |[],[]=>rfl
 |[],y::ys=>by simp[eqWs]
 |x::xs,[]=>by simp[eqWs]
 |x::xs,y::ys=>by
  have ih:=de xs ys
  rw[eqWs,←ih]
  simp only[A9,Nat.succ_min_succ]
  rw[List.range_succ_eq_map,EG,List.all_map]
  have e:((xs.length+1==ys.length+1))=(xs.length==ys.length):=by simp
  rw[e,Bool.and_assoc]
  rfl
theorem Rp.one {X:Cx}{pins:List (Addr×Obj)}{σ:St}{H:Hp}{s:Ar} (I:Inv X pins σ H s) {v:V}{x:U} (h:Rp X.K H v x):∀{n:Nat}{y:U},Rp X.K H v y→okU n x=true→eqW x y=true:=by
 have key:∀{vs ws:List V}{xs ys:List U},vs=ws→vs.length=xs.length→ws.length=ys.length→(∀(i:Nat) (x y:U),xs[i]?=some x→ys[i]?=some y→eqW x y=true)→eqWs xs ys=true:=fun {vs ws xs ys} e h1 h2 hh=>by
  subst e
  rw[←de,BR,j8]
  refine ⟨fun j hj=>?_,by simp[←h1,←h2]⟩
  have j1:j < xs.length:=by omega
  have j2:j < ys.length:=by omega
  rw[Ax,Am j1,Ax,Am j2]
  exact hh j _ _ (Am j1) (Am j2)
 have key2:∀{vs:List V}{xs ys:List U}{n:Nat},vs.length=xs.length→(∀(i:Nat) (v:V) (x:U),vs[i]?=some v→xs[i]?=some x→∀{n:Nat}{y:U},Rp X.K H v y→okU n x=true→eqW x y=true)→(∀(i:Nat) (v:V) (y:U),vs[i]?=some v→ys[i]?=some y→Rp X.K H v y)→okUs n xs=true→
   ∀(i:Nat) (x y:U),xs[i]?=some x→ys[i]?=some y→eqW x y=true:=fun {vs xs ys n} h1 ih hi ok i x y e1 e2=>by
  have hlt:i < vs.length:=by rw[h1];exact aP e1
  exact ih i _ x (Am hlt) e1 (hi i _ y (Am hlt) e2) (i8 ok e1)
 induction h with
 |non=>intro n y q _;cases q;rfl
 |bl b=>intro n y q _;cases q;simp[eqW]
 |int i=>intro n y q _;cases q;simp[eqW]
 |str i=>intro n y q _;cases q;simp[eqW]
 |ty=>intro n y q ok;simp[okU] at ok
 |dic=>intro n y q ok;simp[okU] at ok
 |xc=>intro n y q ok;simp[okU] at ok
 | @scr a vs xs hq hl hi ih=>
  intro n y q ok
  cases n with
  |zero=>simp[okU] at ok
  |succ n=>
   rw[okU] at ok
   cases q with
   |scr hq' hl' hi'=>rw[eqW];have e:=I.list_inj hq hq';subst e;exact key rfl hl hl' (key2 hl (fun i v x a b=>ih i v x a b) hi' ok)
   |lst hq' hl' hi'=>rw[eqW];have e:=I.list_inj hq (SqL.of hq');subst e;exact key rfl hl hl' (key2 hl (fun i v x a b=>ih i v x a b) hi' ok)
   |xc hq' kk=>
    exfalso
    obtain ⟨_,_,pl,_⟩:=I.list hq
    obtain ⟨o,n,e,c,_⟩:=pl
    exact PySem.W.XcOk.off (I.hok _ _ hq').1 e c
   |dic hq'=>
    exfalso
    obtain ⟨_,_,pl,_⟩:=I.list hq
    obtain ⟨o,n,e,c,_⟩:=pl
    obtain ⟨_,_,_,_,o',_,_,e',ex,_⟩:=I.hok _ _ hq'
    rw[e] at e';cases e'
    rw[ex.1] at c;exact absurd (II c) (by decide)
   |tup hq' hl' hi'=>
    exfalso
    obtain ⟨_,_,pl,_⟩:=I.list hq
    obtain ⟨_,_,pt,_⟩:=I.tuple hq'
    exact SeqAt.ne_of_list_tuple pl.isList pt rfl
 | @tup a vs xs hq hl hi ih=>
  intro n y q ok
  cases n with
  |zero=>simp[okU] at ok
  |succ n=>
   rw[okU] at ok
   cases q with
   |tup hq' hl' hi'=>rw[eqW];have e:=I.tuple_inj hq hq';subst e;exact key rfl hl hl' (key2 hl (fun i v x a b=>ih i v x a b) hi' ok)
   |scr hq' hl' hi'=>
    exfalso
    obtain ⟨_,_,pl,_⟩:=I.list hq'
    obtain ⟨_,_,pt,_⟩:=I.tuple hq
    exact SeqAt.ne_of_list_tuple pl.isList pt rfl
   |lst hq' hl' hi'=>
    exfalso
    obtain ⟨_,_,pl,_⟩:=I.list (SqL.of hq')
    obtain ⟨_,_,pt,_⟩:=I.tuple hq
    exact SeqAt.ne_of_list_tuple pl.isList pt rfl
   |xc hq' kk=>
    exfalso
    obtain ⟨_,_,pt,_⟩:=I.tuple hq
    obtain ⟨o,e,c,_⟩:=pt
    exact PySem.W.XcOk.off (I.hok _ _ hq').1 e c
   |dic hq'=>
    exfalso
    obtain ⟨_,_,pt,_⟩:=I.tuple hq
    obtain ⟨o,e,c,_⟩:=pt
    obtain ⟨_,_,_,_,o',_,_,e',ex,_⟩:=I.hok _ _ hq'
    rw[e] at e';cases e'
    rw[ex.1] at c;exact absurd (II c) (by decide)
 | @lst a vs xs hq hl hi ih=>
  intro n y q ok
  cases n with
  |zero=>simp[okU] at ok
  |succ n=>
   rw[okU] at ok
   cases q with
   |lst hq' hl' hi'=>rw[eqW];have e:=I.list_inj (SqL.of hq) (SqL.of hq');subst e;exact key rfl hl hl' (key2 hl (fun i v x a b=>ih i v x a b) hi' ok)
   |scr hq' hl' hi'=>rw[eqW];have e:=I.list_inj (SqL.of hq) hq';subst e;exact key rfl hl hl' (key2 hl (fun i v x a b=>ih i v x a b) hi' ok)
   |tup hq' hl' hi'=>
    exfalso
    obtain ⟨_,_,pl,_⟩:=I.list (SqL.of hq)
    obtain ⟨_,_,pt,_⟩:=I.tuple hq'
    exact SeqAt.ne_of_list_tuple pl.isList pt rfl
   |xc hq' kk=>
    exfalso
    rw[hq] at hq';cases hq'
   |dic hq'=>
    exfalso
    rw[hq] at hq';cases hq'
theorem IsU.list {X:Cx}{pins:List (Addr×Obj)}{σ:St}{H:Hp}{s:Ar} (I:Inv X pins σ H s) {a:Addr}{xs:List U}{vs:List V} (h:SqL X.K H a vs) (hl:vs.length=xs.length):∃its:List Value,aV vs its∧s.heap.IsList a its.toArray∧its.length=xs.length:=by
 obtain ⟨its,r,pl,_⟩:=I.list h
 exact ⟨its,r,pl.isList,by rw[←r.length,hl]⟩
theorem IsU.tup {X:Cx}{pins:List (Addr×Obj)}{σ:St}{H:Hp}{s:Ar} (I:Inv X pins σ H s) {a:Addr}{xs:List U}{vs:List V} (h:SqT X.K H a vs) (hl:vs.length=xs.length):∃its:List Value,aV vs its∧IsTup s.heap a its.toArray∧its.length=xs.length:=by
 obtain ⟨its,r,pl,_⟩:=I.tuple h
 exact ⟨its,r,pl,by rw[←r.length,hl]⟩
section
variable {X:Cx}{pins:List (Addr×Obj)}{σ:St}{H:Hp}{s:Ar}
theorem cF (I:Inv X pins σ H s) {n:Nat}{vs ws:List V}{xs ys:List U}{its its2:List Value} (r1:aV vs its) (r2:aV ws its2) (hl1:vs.length=xs.length) (hl2:ws.length=ys.length)
  (h1:∀(i:Nat) (v:V) (x:U),vs[i]?=some v→xs[i]?=some x→Rp X.K H v x) (h2:∀(i:Nat) (v:V) (x:U),ws[i]?=some v→ys[i]?=some x→Rp X.K H v x) (ok1:okUs n xs=true) (ok2:okUs n ys=true) {A:A4}
  (rc0:∀(x y:U) (v w:V) (p q:Value),Rp X.K H v x→Rp X.K H w y→aY v p→aY w q→okU n x=true→okU n y=true→SeqAt.RcAt A.in1 s p q (eqW x y)) (hu:A.units+n+1 < cLine)
  (j:Nat) (j1:j < its.length) (j2:j < its2.length):SeqAt.EqAt A.in1 s its[j] its2[j] (eqW (xs.getD j .non) (ys.getD j .non)):=by
 have a1:j < vs.length:=by rw[r1.length];exact j1
 have a2:j < ws.length:=by rw[r2.length];exact j2
 have b1:j < xs.length:=by omega
 have b2:j < ys.length:=by omega
 rw[Ax,Am b1,Ax,Am b2,DN,DN]
 have R1:=h1 j vs[j] xs[j] (Am a1) (Am b1)
 have R2:=h2 j ws[j] ys[j] (Am a2) (Am b2)
 obtain ⟨u1,e1,q1⟩:=r1.get (Am a1)
 obtain ⟨u2,e2,q2⟩:=r2.get (Am a2)
 rw[Am j1] at e1
 rw[Am j2] at e2
 cases e1;cases e2
 have o1:=i8 ok1 (Am b1)
 have o2:=i8 ok2 (Am b2)
 generalize vs[j]=v at *
 generalize ws[j]=w at *
 generalize its[j]=p at *
 generalize its2[j]=q at *
 generalize xs[j]=x at *
 generalize ys[j]=y at *
 have main:=rc0 x y v w p q R1 R2 q1 q2 o1 o2
 have ref_ref:∀(a b:Addr),p=.ref a→q=.ref b→SeqAt.EqAt A.in1 s p q (eqW x y):=fun a b ea eb=>by
  subst ea eb
  by_cases e:a=b
  ·subst e
   have e2:v=w:=q1.inj q2
   subst e2
   rw[R1.one I R2 o1]
   exact SeqAt.EqAt.same _
  ·exact SeqAt.EqAt.of_refs e main
 have hu1:A.in1.units < cLine:=by show A.units+1 < _;omega
 cases R1 with
 |non=>
  cases (show p=AY from q1)
  cases R2 with
  |non=>cases (show q=AY from q2);exact SeqAt.EqAt.same _
  |bl b=>cases (show q=Bd b from q2);exact SeqAt.EqAt.none_bool b
  |int i=>obtain ⟨t,rfl⟩:=(show ∃t,q=Bc i t from q2);exact SeqAt.EqAt.none_int i t
  |str i=>obtain ⟨t,rfl⟩:=(show ∃t,q=Bt i t from q2);exact SeqAt.EqAt.none_str i t
  |ty=>simp[okU] at o2
  |dic=>simp[okU] at o2
  |xc=>simp[okU] at o2
  |scr hq hl hi=>cases q2;obtain ⟨_,_,pl,_⟩:=IsU.list I hq hl;exact SeqAt.EqAt.none_list pl hu1
  |tup hq hl hi=>cases q2;obtain ⟨_,_,pl,_⟩:=IsU.tup I hq hl;exact SeqAt.EqAt.none_tuple pl hu1
  |lst hq hl hi=>cases q2;obtain ⟨_,_,pl,_⟩:=IsU.list I (SqL.of hq) hl;exact SeqAt.EqAt.none_list pl hu1
 |bl c=>
  cases (show p=Bd c from q1)
  cases R2 with
  |non=>cases (show q=AY from q2);exact SeqAt.EqAt.bool_none c
  |bl b=>cases (show q=Bd b from q2);exact SeqAt.EqAt.bool_bool c b
  |int i=>obtain ⟨t,rfl⟩:=(show ∃t,q=Bc i t from q2);exact SeqAt.EqAt.bool_int c i t
  |str i=>obtain ⟨t,rfl⟩:=(show ∃t,q=Bt i t from q2);exact SeqAt.EqAt.bool_str c i t
  |ty=>simp[okU] at o2
  |dic=>simp[okU] at o2
  |xc=>simp[okU] at o2
  |scr hq hl hi=>cases q2;obtain ⟨_,_,pl,_⟩:=IsU.list I hq hl;exact SeqAt.EqAt.bool_list c pl hu1
  |tup hq hl hi=>cases q2;obtain ⟨_,_,pl,_⟩:=IsU.tup I hq hl;exact SeqAt.EqAt.bool_tuple c pl hu1
  |lst hq hl hi=>cases q2;obtain ⟨_,_,pl,_⟩:=IsU.list I (SqL.of hq) hl;exact SeqAt.EqAt.bool_list c pl hu1
 |int c=>
  obtain ⟨t0,rfl⟩:=(show ∃t,p=Bc c t from q1)
  cases R2 with
  |non=>cases (show q=AY from q2);exact SeqAt.EqAt.int_none c t0
  |bl b=>cases (show q=Bd b from q2);exact SeqAt.EqAt.int_bool c t0 b
  |int i=>obtain ⟨t,rfl⟩:=(show ∃t,q=Bc i t from q2);exact SeqAt.EqAt.int_int c t0 i t
  |str i=>obtain ⟨t,rfl⟩:=(show ∃t,q=Bt i t from q2);exact SeqAt.EqAt.int_str c t0 i t
  |ty=>simp[okU] at o2
  |dic=>simp[okU] at o2
  |xc=>simp[okU] at o2
  |scr hq hl hi=>cases q2;obtain ⟨_,_,pl,_⟩:=IsU.list I hq hl;exact SeqAt.EqAt.int_list c t0 pl hu1
  |tup hq hl hi=>cases q2;obtain ⟨_,_,pl,_⟩:=IsU.tup I hq hl;exact SeqAt.EqAt.int_tuple c t0 pl hu1
  |lst hq hl hi=>cases q2;obtain ⟨_,_,pl,_⟩:=IsU.list I (SqL.of hq) hl;exact SeqAt.EqAt.int_list c t0 pl hu1
 |str c=>
  obtain ⟨t0,rfl⟩:=(show ∃t,p=Bt c t from q1)
  cases R2 with
  |non=>cases (show q=AY from q2);exact SeqAt.EqAt.str_none c t0
  |bl b=>cases (show q=Bd b from q2);exact SeqAt.EqAt.str_bool c t0 b
  |int i=>obtain ⟨t,rfl⟩:=(show ∃t,q=Bc i t from q2);exact SeqAt.EqAt.str_int c t0 i t
  |str i=>obtain ⟨t,rfl⟩:=(show ∃t,q=Bt i t from q2);exact SeqAt.EqAt.str_str c t0 i t
  |ty=>simp[okU] at o2
  |dic=>simp[okU] at o2
  |xc=>simp[okU] at o2
  |scr hq hl hi=>cases q2;obtain ⟨_,_,pl,_⟩:=IsU.list I hq hl;exact SeqAt.EqAt.str_list c t0 pl hu1
  |tup hq hl hi=>cases q2;obtain ⟨_,_,pl,_⟩:=IsU.tup I hq hl;exact SeqAt.EqAt.str_tuple c t0 pl hu1
  |lst hq hl hi=>cases q2;obtain ⟨_,_,pl,_⟩:=IsU.list I (SqL.of hq) hl;exact SeqAt.EqAt.str_list c t0 pl hu1
 |ty=>simp[okU] at o1
 |dic=>simp[okU] at o1
 |xc=>simp[okU] at o1
 | @scr a vs xs hq hl hi=>
  cases q1
  obtain ⟨_,_,pl,_⟩:=IsU.list I hq hl
  cases R2 with
  |non=>cases (show q=AY from q2);exact SeqAt.EqAt.list_none pl hu1
  |bl b=>cases (show q=Bd b from q2);exact SeqAt.EqAt.list_bool b pl hu1
  |int i=>obtain ⟨t,rfl⟩:=(show ∃t,q=Bc i t from q2);exact SeqAt.EqAt.list_int i t pl hu1
  |str i=>obtain ⟨t,rfl⟩:=(show ∃t,q=Bt i t from q2);exact SeqAt.EqAt.list_str i t pl hu1
  |ty=>simp[okU] at o2
  |dic=>simp[okU] at o2
  |xc=>simp[okU] at o2
  |scr=>exact ref_ref _ _ rfl q2
  |tup=>exact ref_ref _ _ rfl q2
  |lst=>exact ref_ref _ _ rfl q2
 | @lst a vs xs hq hl hi=>
  cases q1
  obtain ⟨_,_,pl,_⟩:=IsU.list I (SqL.of hq) hl
  cases R2 with
  |non=>cases (show q=AY from q2);exact SeqAt.EqAt.list_none pl hu1
  |bl b=>cases (show q=Bd b from q2);exact SeqAt.EqAt.list_bool b pl hu1
  |int i=>obtain ⟨t,rfl⟩:=(show ∃t,q=Bc i t from q2);exact SeqAt.EqAt.list_int i t pl hu1
  |str i=>obtain ⟨t,rfl⟩:=(show ∃t,q=Bt i t from q2);exact SeqAt.EqAt.list_str i t pl hu1
  |ty=>simp[okU] at o2
  |dic=>simp[okU] at o2
  |xc=>simp[okU] at o2
  |scr=>exact ref_ref _ _ rfl q2
  |tup=>exact ref_ref _ _ rfl q2
  |lst=>exact ref_ref _ _ rfl q2
 | @tup a vs xs hq hl hi=>
  cases q1
  obtain ⟨_,_,pl,_⟩:=IsU.tup I hq hl
  cases R2 with
  |non=>cases (show q=AY from q2);exact SeqAt.EqAt.tuple_none pl hu1
  |bl b=>cases (show q=Bd b from q2);exact SeqAt.EqAt.tuple_bool b pl hu1
  |int i=>obtain ⟨t,rfl⟩:=(show ∃t,q=Bc i t from q2);exact SeqAt.EqAt.tuple_int i t pl hu1
  |str i=>obtain ⟨t,rfl⟩:=(show ∃t,q=Bt i t from q2);exact SeqAt.EqAt.tuple_str i t pl hu1
  |ty=>simp[okU] at o2
  |dic=>simp[okU] at o2
  |xc=>simp[okU] at o2
  |scr=>exact ref_ref _ _ rfl q2
  |tup=>exact ref_ref _ _ rfl q2
  |lst=>exact ref_ref _ _ rfl q2
theorem gZ {A:A4}{n:Nat}{a b:Addr}{xs ys:List U}{its its2:List Value} (p1:s.heap.IsList a its.toArray) (p2:s.heap.IsList b its2.toArray) (l1:its.length=xs.length) (l2:its2.length=ys.length) (hu:A.units+n < cLine)
  (he:∀(j:Nat) (j1:j < its.length) (j2:j < its2.length),SeqAt.EqAt A.in1 s its[j] its2[j] (eqW (xs.getD j .non) (ys.getD j .non))):SeqAt.RcAt A s (.ref a) (.ref b) (eqWs xs ys):=by
 by_cases hl:its.length=its2.length
 ·have:=SeqAt.RcAt.lists (A:=A) (s:=s) (e:=fun j=>eqW (xs.getD j .non) (ys.getD j .non)) p1 p2 (by simpa using hl) (by omega) (fun j h1 h2=>by simpa using he j (by simpa using h1) (by simpa using h2))
  rw[←de,←l1,←l2,hl,Jx,beq_self_eq_true,GW]
  rwa [AN,hl] at this
 ·have:=SeqAt.RcAt.lists_lengths (A:=A) (s:=s) p1 p2 (by simpa using hl) (by omega)
  rw[←de,←l1,←l2,show (its.length==its2.length)=false by simpa using hl,GC]
  exact this
theorem uA {A:A4}{n:Nat}{a b:Addr}{xs ys:List U}{its its2:List Value} (p1:IsTup s.heap a its.toArray) (p2:IsTup s.heap b its2.toArray) (l1:its.length=xs.length) (l2:its2.length=ys.length) (hu:A.units+n < cLine)
  (he:∀(j:Nat) (j1:j < its.length) (j2:j < its2.length),SeqAt.EqAt A.in1 s its[j] its2[j] (eqW (xs.getD j .non) (ys.getD j .non))):SeqAt.RcAt A s (.ref a) (.ref b) (eqWs xs ys):=by
 have:=SeqAt.RcAt.tuples (A:=A) (s:=s) (e:=fun j=>eqW (xs.getD j .non) (ys.getD j .non)) p1 p2 (by omega) (fun j h1 h2=>by simpa using he j (by simpa using h1) (by simpa using h2))
 rw[AN,AN,l1,l2,de] at this
 exact this
theorem yN (I:Inv X pins σ H s):∀(n:Nat) (A:A4) (x y:U) (v w:V) (p q:Value),Rp X.K H v x→Rp X.K H w y→aY v p→aY w q→okU n x=true→okU n y=true→A.units+n < cLine→SeqAt.RcAt A s p q (eqW x y):=by
 intro n
 induction n with
 |zero=>
  intro A x y v w p q R1 R2 q1 q2 o1 o2 hu
  cases R1 with
  |non=>
   cases (show p=AY from q1)
   cases R2 with
   |non=>cases (show q=AY from q2);exact SeqAt.RcAt.none_none
   |bl b=>cases (show q=Bd b from q2);exact SeqAt.RcAt.none_bool b
   |int i=>obtain ⟨t,rfl⟩:=(show ∃t,q=Bc i t from q2);exact SeqAt.RcAt.none_int i t
   |str i=>obtain ⟨t,rfl⟩:=(show ∃t,q=Bt i t from q2);exact SeqAt.RcAt.none_str i t
   |_=>simp[okU] at o2
  |bl c=>
   cases (show p=Bd c from q1)
   cases R2 with
   |non=>cases (show q=AY from q2);exact SeqAt.RcAt.bool_none c
   |bl b=>cases (show q=Bd b from q2);exact SeqAt.RcAt.bool_bool c b
   |int i=>obtain ⟨t,rfl⟩:=(show ∃t,q=Bc i t from q2);exact SeqAt.RcAt.bool_int c i t
   |str i=>obtain ⟨t,rfl⟩:=(show ∃t,q=Bt i t from q2);exact SeqAt.RcAt.bool_str c i t
   |_=>simp[okU] at o2
  |int c=>
   obtain ⟨t0,rfl⟩:=(show ∃t,p=Bc c t from q1)
   cases R2 with
   |non=>cases (show q=AY from q2);exact SeqAt.RcAt.int_none c t0
   |bl b=>cases (show q=Bd b from q2);exact SeqAt.RcAt.int_bool c t0 b
   |int i=>obtain ⟨t,rfl⟩:=(show ∃t,q=Bc i t from q2);exact SeqAt.RcAt.int_int c t0 i t
   |str i=>obtain ⟨t,rfl⟩:=(show ∃t,q=Bt i t from q2);exact SeqAt.RcAt.int_str c t0 i t
   |_=>simp[okU] at o2
  |str c=>
   obtain ⟨t0,rfl⟩:=(show ∃t,p=Bt c t from q1)
   cases R2 with
   |non=>cases (show q=AY from q2);exact SeqAt.RcAt.str_none c t0
   |bl b=>cases (show q=Bd b from q2);exact SeqAt.RcAt.str_bool c t0 b
   |int i=>obtain ⟨t,rfl⟩:=(show ∃t,q=Bc i t from q2);exact SeqAt.RcAt.str_int c t0 i t
   |str i=>obtain ⟨t,rfl⟩:=(show ∃t,q=Bt i t from q2);exact SeqAt.RcAt.str_str c t0 i t
   |_=>simp[okU] at o2
  |_=>simp[okU] at o1
 |succ n ih=>
  intro A x y v w p q R1 R2 q1 q2 o1 o2 hu
  have hu1:A.units < cLine:=by omega
  have rc0:∀(x y:U) (v w:V) (p q:Value),Rp X.K H v x→Rp X.K H w y→aY v p→aY w q→okU n x=true→okU n y=true→SeqAt.RcAt A.in1 s p q (eqW x y):=fun x y v w p q r1 r2 k1 k2 z1 z2=>ih A.in1 x y v w p q r1 r2 k1 k2 z1 z2 (by show A.units+1+n < _;omega)
  cases R1 with
  |non=>
   cases (show p=AY from q1)
   cases R2 with
   |non=>cases (show q=AY from q2);exact SeqAt.RcAt.none_none
   |bl b=>cases (show q=Bd b from q2);exact SeqAt.RcAt.none_bool b
   |int i=>obtain ⟨t,rfl⟩:=(show ∃t,q=Bc i t from q2);exact SeqAt.RcAt.none_int i t
   |str i=>obtain ⟨t,rfl⟩:=(show ∃t,q=Bt i t from q2);exact SeqAt.RcAt.none_str i t
   |ty=>simp[okU] at o2
   |dic=>simp[okU] at o2
   |xc=>simp[okU] at o2
   |scr hq hl hi=>cases q2;obtain ⟨_,_,pl,_⟩:=IsU.list I hq hl;exact SeqAt.RcAt.none_list pl hu1
   |tup hq hl hi=>cases q2;obtain ⟨_,_,pl,_⟩:=IsU.tup I hq hl;exact SeqAt.RcAt.none_tuple pl hu1
   |lst hq hl hi=>cases q2;obtain ⟨_,_,pl,_⟩:=IsU.list I (SqL.of hq) hl;exact SeqAt.RcAt.none_list pl hu1
  |bl c=>
   cases (show p=Bd c from q1)
   cases R2 with
   |non=>cases (show q=AY from q2);exact SeqAt.RcAt.bool_none c
   |bl b=>cases (show q=Bd b from q2);exact SeqAt.RcAt.bool_bool c b
   |int i=>obtain ⟨t,rfl⟩:=(show ∃t,q=Bc i t from q2);exact SeqAt.RcAt.bool_int c i t
   |str i=>obtain ⟨t,rfl⟩:=(show ∃t,q=Bt i t from q2);exact SeqAt.RcAt.bool_str c i t
   |ty=>simp[okU] at o2
   |dic=>simp[okU] at o2
   |xc=>simp[okU] at o2
   |scr hq hl hi=>cases q2;obtain ⟨_,_,pl,_⟩:=IsU.list I hq hl;exact SeqAt.RcAt.bool_list c pl hu1
   |tup hq hl hi=>cases q2;obtain ⟨_,_,pl,_⟩:=IsU.tup I hq hl;exact SeqAt.RcAt.bool_tuple c pl hu1
   |lst hq hl hi=>cases q2;obtain ⟨_,_,pl,_⟩:=IsU.list I (SqL.of hq) hl;exact SeqAt.RcAt.bool_list c pl hu1
  |int c=>
   obtain ⟨t0,rfl⟩:=(show ∃t,p=Bc c t from q1)
   cases R2 with
   |non=>cases (show q=AY from q2);exact SeqAt.RcAt.int_none c t0
   |bl b=>cases (show q=Bd b from q2);exact SeqAt.RcAt.int_bool c t0 b
   |int i=>obtain ⟨t,rfl⟩:=(show ∃t,q=Bc i t from q2);exact SeqAt.RcAt.int_int c t0 i t
   |str i=>obtain ⟨t,rfl⟩:=(show ∃t,q=Bt i t from q2);exact SeqAt.RcAt.int_str c t0 i t
   |ty=>simp[okU] at o2
   |dic=>simp[okU] at o2
   |xc=>simp[okU] at o2
   |scr hq hl hi=>cases q2;obtain ⟨_,_,pl,_⟩:=IsU.list I hq hl;exact SeqAt.RcAt.int_list c t0 pl hu1
   |tup hq hl hi=>cases q2;obtain ⟨_,_,pl,_⟩:=IsU.tup I hq hl;exact SeqAt.RcAt.int_tuple c t0 pl hu1
   |lst hq hl hi=>cases q2;obtain ⟨_,_,pl,_⟩:=IsU.list I (SqL.of hq) hl;exact SeqAt.RcAt.int_list c t0 pl hu1
  |str c=>
   obtain ⟨t0,rfl⟩:=(show ∃t,p=Bt c t from q1)
   cases R2 with
   |non=>cases (show q=AY from q2);exact SeqAt.RcAt.str_none c t0
   |bl b=>cases (show q=Bd b from q2);exact SeqAt.RcAt.str_bool c t0 b
   |int i=>obtain ⟨t,rfl⟩:=(show ∃t,q=Bc i t from q2);exact SeqAt.RcAt.str_int c t0 i t
   |str i=>obtain ⟨t,rfl⟩:=(show ∃t,q=Bt i t from q2);exact SeqAt.RcAt.str_str c t0 i t
   |ty=>simp[okU] at o2
   |dic=>simp[okU] at o2
   |xc=>simp[okU] at o2
   |scr hq hl hi=>cases q2;obtain ⟨_,_,pl,_⟩:=IsU.list I hq hl;exact SeqAt.RcAt.str_list c t0 pl hu1
   |tup hq hl hi=>cases q2;obtain ⟨_,_,pl,_⟩:=IsU.tup I hq hl;exact SeqAt.RcAt.str_tuple c t0 pl hu1
   |lst hq hl hi=>cases q2;obtain ⟨_,_,pl,_⟩:=IsU.list I (SqL.of hq) hl;exact SeqAt.RcAt.str_list c t0 pl hu1
  |ty=>simp[okU] at o1
  |dic=>simp[okU] at o1
  |xc=>simp[okU] at o1
  | @scr a vs xs hq hl hi=>
   cases q1
   obtain ⟨its,r1,pl,l1⟩:=IsU.list I hq hl
   rw[okU] at o1
   cases R2 with
   |non=>cases (show q=AY from q2);exact SeqAt.RcAt.list_none pl hu1
   |bl b=>cases (show q=Bd b from q2);exact SeqAt.RcAt.list_bool b pl hu1
   |int i=>obtain ⟨t,rfl⟩:=(show ∃t,q=Bc i t from q2);exact SeqAt.RcAt.list_int i t pl hu1
   |str i=>obtain ⟨t,rfl⟩:=(show ∃t,q=Bt i t from q2);exact SeqAt.RcAt.list_str i t pl hu1
   |ty=>simp[okU] at o2
   |dic=>simp[okU] at o2
   |xc=>simp[okU] at o2
   |scr hq' hl' hi'=>cases q2;rw[okU] at o2;obtain ⟨its2,r2,pl2,l2⟩:=IsU.list I hq' hl';rw[eqW];exact gZ pl pl2 l1 l2 hu (cF I r1 r2 hl hl' hi hi' o1 o2 rc0 (by omega))
   |lst hq' hl' hi'=>cases q2;rw[okU] at o2;obtain ⟨its2,r2,pl2,l2⟩:=IsU.list I (SqL.of hq') hl';rw[eqW];exact gZ pl pl2 l1 l2 hu (cF I r1 r2 hl hl' hi hi' o1 o2 rc0 (by omega))
   |tup hq' hl' hi'=>cases q2;obtain ⟨its2,r2,pl2,l2⟩:=IsU.tup I hq' hl';exact SeqAt.RcAt.list_tuple pl pl2 hu1
  | @lst a vs xs hq hl hi=>
   cases q1
   obtain ⟨its,r1,pl,l1⟩:=IsU.list I (SqL.of hq) hl
   rw[okU] at o1
   cases R2 with
   |non=>cases (show q=AY from q2);exact SeqAt.RcAt.list_none pl hu1
   |bl b=>cases (show q=Bd b from q2);exact SeqAt.RcAt.list_bool b pl hu1
   |int i=>obtain ⟨t,rfl⟩:=(show ∃t,q=Bc i t from q2);exact SeqAt.RcAt.list_int i t pl hu1
   |str i=>obtain ⟨t,rfl⟩:=(show ∃t,q=Bt i t from q2);exact SeqAt.RcAt.list_str i t pl hu1
   |ty=>simp[okU] at o2
   |dic=>simp[okU] at o2
   |xc=>simp[okU] at o2
   |scr hq' hl' hi'=>cases q2;rw[okU] at o2;obtain ⟨its2,r2,pl2,l2⟩:=IsU.list I hq' hl';rw[eqW];exact gZ pl pl2 l1 l2 hu (cF I r1 r2 hl hl' hi hi' o1 o2 rc0 (by omega))
   |lst hq' hl' hi'=>cases q2;rw[okU] at o2;obtain ⟨its2,r2,pl2,l2⟩:=IsU.list I (SqL.of hq') hl';rw[eqW];exact gZ pl pl2 l1 l2 hu (cF I r1 r2 hl hl' hi hi' o1 o2 rc0 (by omega))
   |tup hq' hl' hi'=>cases q2;obtain ⟨its2,r2,pl2,l2⟩:=IsU.tup I hq' hl';exact SeqAt.RcAt.list_tuple pl pl2 hu1
  | @tup a vs xs hq hl hi=>
   cases q1
   obtain ⟨its,r1,pl,l1⟩:=IsU.tup I hq hl
   rw[okU] at o1
   cases R2 with
   |non=>cases (show q=AY from q2);exact SeqAt.RcAt.tuple_none pl hu1
   |bl b=>cases (show q=Bd b from q2);exact SeqAt.RcAt.tuple_bool b pl hu1
   |int i=>obtain ⟨t,rfl⟩:=(show ∃t,q=Bc i t from q2);exact SeqAt.RcAt.tuple_int i t pl hu1
   |str i=>obtain ⟨t,rfl⟩:=(show ∃t,q=Bt i t from q2);exact SeqAt.RcAt.tuple_str i t pl hu1
   |ty=>simp[okU] at o2
   |dic=>simp[okU] at o2
   |xc=>simp[okU] at o2
   |scr hq' hl' hi'=>cases q2;obtain ⟨its2,r2,pl2,l2⟩:=IsU.list I hq' hl';exact SeqAt.RcAt.tuple_list pl pl2 hu1
   |lst hq' hl' hi'=>cases q2;obtain ⟨its2,r2,pl2,l2⟩:=IsU.list I (SqL.of hq') hl';exact SeqAt.RcAt.tuple_list pl pl2 hu1
   |tup hq' hl' hi'=>cases q2;rw[okU] at o2;obtain ⟨its2,r2,pl2,l2⟩:=IsU.tup I hq' hl';rw[eqW];exact uA pl pl2 l1 l2 hu (cF I r1 r2 hl hl' hi hi' o1 o2 rc0 (by omega))
end
section
variable {X:Cx}{pins:List (Addr×Obj)}{σ:St}{H:Hp}{s:Ar}
theorem e6 {A:A4}{n:Nat}{a b:Addr}{xs ys:List U}{its its2:List Value} (p1:s.heap.IsList a its.toArray) (p2:s.heap.IsList b its2.toArray) (l1:its.length=xs.length) (l2:its2.length=ys.length) (hu:A.units+n < cLine)
  (he:∀(j:Nat) (j1:j < its.length) (j2:j < its2.length),SeqAt.EqAt A.in1 s its[j] its2[j] (eqW (xs.getD j .non) (ys.getD j .non))):SeqAt.RcNeAt A s (.ref a) (.ref b) (!eqWs xs ys):=by
 by_cases hl:its.length=its2.length
 ·have:=SeqAt.RcNeAt.lists (A:=A) (s:=s) (e:=fun j=>eqW (xs.getD j .non) (ys.getD j .non)) p1 p2 (by simpa using hl) (by omega) (fun j h1 h2=>by simpa using he j (by simpa using h1) (by simpa using h2))
  rw[←de,←l1,←l2,hl,Jx,beq_self_eq_true,GW]
  rwa [AN,hl] at this
 ·have:=SeqAt.RcNeAt.lists_lengths (A:=A) (s:=s) p1 p2 (by simpa using hl) (by omega)
  rw[←de,←l1,←l2,show (its.length==its2.length)=false by simpa using hl,GC]
  exact this
theorem qy {A:A4}{n:Nat}{a b:Addr}{xs ys:List U}{its its2:List Value} (p1:IsTup s.heap a its.toArray) (p2:IsTup s.heap b its2.toArray) (l1:its.length=xs.length) (l2:its2.length=ys.length) (hu:A.units+n < cLine)
  (he:∀(j:Nat) (j1:j < its.length) (j2:j < its2.length),SeqAt.EqAt A.in1 s its[j] its2[j] (eqW (xs.getD j .non) (ys.getD j .non))):SeqAt.RcNeAt A s (.ref a) (.ref b) (!eqWs xs ys):=by
 have:=SeqAt.RcNeAt.tuples (A:=A) (s:=s) (e:=fun j=>eqW (xs.getD j .non) (ys.getD j .non)) p1 p2 (by omega) (fun j h1 h2=>by simpa using he j (by simpa using h1) (by simpa using h2))
 rw[AN,AN,l1,l2,de] at this
 exact this
theorem xL (I:Inv X pins σ H s) (n:Nat) (A:A4) (x y:U) (v w:V) (p q:Value) (R1:Rp X.K H v x) (R2:Rp X.K H w y) (q1:aY v p) (q2:aY w q) (o1:okU (n+1) x=true) (o2:okU (n+1) y=true) (hu:A.units+(n+1) < cLine):SeqAt.RcNeAt A s p q (!eqW x y):=by
 have hu1:A.units < cLine:=by omega
 have rc0:∀(x y:U) (v w:V) (p q:Value),Rp X.K H v x→Rp X.K H w y→aY v p→aY w q→okU n x=true→okU n y=true→SeqAt.RcAt A.in1 s p q (eqW x y):=fun x y v w p q r1 r2 k1 k2 z1 z2=>yN I n A.in1 x y v w p q r1 r2 k1 k2 z1 z2 (by show A.units+1+n < _;omega)
 cases R1 with
 |ty=>simp[okU] at o1
 |dic=>simp[okU] at o1
 |xc=>simp[okU] at o1
 |non=>
  cases (show p=AY from q1)
  cases R2 with
  |ty=>simp[okU] at o2
  |dic=>simp[okU] at o2
  |xc=>simp[okU] at o2
  |non=>cases (show q=AY from q2);exact SeqAt.RcNeAt.none_none
  |bl c2=>cases (show q=Bd c2 from q2);exact SeqAt.RcNeAt.none_bool c2
  |int c2=>obtain ⟨t2,rfl⟩:=(show ∃t,q=Bc c2 t from q2);exact SeqAt.RcNeAt.none_int c2 t2
  |str c2=>obtain ⟨t2,rfl⟩:=(show ∃t,q=Bt c2 t from q2);exact SeqAt.RcNeAt.none_str c2 t2
  |scr hq2 hl2 hi2=>cases q2;obtain ⟨its2,r2,pl2,l2⟩:=IsU.list I hq2 hl2;exact SeqAt.RcNeAt.none_list pl2 hu1
  |tup hq2 hl2 hi2=>cases q2;obtain ⟨its2,r2,pl2,l2⟩:=IsU.tup I hq2 hl2;exact SeqAt.RcNeAt.none_tuple pl2 hu1
  |lst hq2 hl2 hi2=>cases q2;obtain ⟨its2,r2,pl2,l2⟩:=IsU.list I (SqL.of hq2) hl2;exact SeqAt.RcNeAt.none_list pl2 hu1
 |bl c1=>
  cases (show p=Bd c1 from q1)
  cases R2 with
  |ty=>simp[okU] at o2
  |dic=>simp[okU] at o2
  |xc=>simp[okU] at o2
  |non=>cases (show q=AY from q2);exact SeqAt.RcNeAt.bool_none c1
  |bl c2=>cases (show q=Bd c2 from q2);exact SeqAt.RcNeAt.bool_bool c1 c2
  |int c2=>obtain ⟨t2,rfl⟩:=(show ∃t,q=Bc c2 t from q2);exact SeqAt.RcNeAt.bool_int c1 c2 t2
  |str c2=>obtain ⟨t2,rfl⟩:=(show ∃t,q=Bt c2 t from q2);exact SeqAt.RcNeAt.bool_str c1 c2 t2
  |scr hq2 hl2 hi2=>cases q2;obtain ⟨its2,r2,pl2,l2⟩:=IsU.list I hq2 hl2;exact SeqAt.RcNeAt.bool_list c1 pl2 hu1
  |tup hq2 hl2 hi2=>cases q2;obtain ⟨its2,r2,pl2,l2⟩:=IsU.tup I hq2 hl2;exact SeqAt.RcNeAt.bool_tuple c1 pl2 hu1
  |lst hq2 hl2 hi2=>cases q2;obtain ⟨its2,r2,pl2,l2⟩:=IsU.list I (SqL.of hq2) hl2;exact SeqAt.RcNeAt.bool_list c1 pl2 hu1
 |int c1=>
  obtain ⟨t1,rfl⟩:=(show ∃t,p=Bc c1 t from q1)
  cases R2 with
  |ty=>simp[okU] at o2
  |dic=>simp[okU] at o2
  |xc=>simp[okU] at o2
  |non=>cases (show q=AY from q2);exact SeqAt.RcNeAt.int_none c1 t1
  |bl c2=>cases (show q=Bd c2 from q2);exact SeqAt.RcNeAt.int_bool c1 t1 c2
  |int c2=>obtain ⟨t2,rfl⟩:=(show ∃t,q=Bc c2 t from q2);exact SeqAt.RcNeAt.int_int c1 t1 c2 t2
  |str c2=>obtain ⟨t2,rfl⟩:=(show ∃t,q=Bt c2 t from q2);exact SeqAt.RcNeAt.int_str c1 t1 c2 t2
  |scr hq2 hl2 hi2=>cases q2;obtain ⟨its2,r2,pl2,l2⟩:=IsU.list I hq2 hl2;exact SeqAt.RcNeAt.int_list c1 t1 pl2 hu1
  |tup hq2 hl2 hi2=>cases q2;obtain ⟨its2,r2,pl2,l2⟩:=IsU.tup I hq2 hl2;exact SeqAt.RcNeAt.int_tuple c1 t1 pl2 hu1
  |lst hq2 hl2 hi2=>cases q2;obtain ⟨its2,r2,pl2,l2⟩:=IsU.list I (SqL.of hq2) hl2;exact SeqAt.RcNeAt.int_list c1 t1 pl2 hu1
 |str c1=>
  obtain ⟨t1,rfl⟩:=(show ∃t,p=Bt c1 t from q1)
  cases R2 with
  |ty=>simp[okU] at o2
  |dic=>simp[okU] at o2
  |xc=>simp[okU] at o2
  |non=>cases (show q=AY from q2);exact SeqAt.RcNeAt.str_none c1 t1
  |bl c2=>cases (show q=Bd c2 from q2);exact SeqAt.RcNeAt.str_bool c1 t1 c2
  |int c2=>obtain ⟨t2,rfl⟩:=(show ∃t,q=Bc c2 t from q2);exact SeqAt.RcNeAt.str_int c1 t1 c2 t2
  |str c2=>obtain ⟨t2,rfl⟩:=(show ∃t,q=Bt c2 t from q2);exact SeqAt.RcNeAt.str_str c1 t1 c2 t2
  |scr hq2 hl2 hi2=>cases q2;obtain ⟨its2,r2,pl2,l2⟩:=IsU.list I hq2 hl2;exact SeqAt.RcNeAt.str_list c1 t1 pl2 hu1
  |tup hq2 hl2 hi2=>cases q2;obtain ⟨its2,r2,pl2,l2⟩:=IsU.tup I hq2 hl2;exact SeqAt.RcNeAt.str_tuple c1 t1 pl2 hu1
  |lst hq2 hl2 hi2=>cases q2;obtain ⟨its2,r2,pl2,l2⟩:=IsU.list I (SqL.of hq2) hl2;exact SeqAt.RcNeAt.str_list c1 t1 pl2 hu1
 |scr hq1 hl1 hi1=>
  cases q1;obtain ⟨its1,r1,pl1,l1⟩:=IsU.list I hq1 hl1
  cases R2 with
  |ty=>simp[okU] at o2
  |dic=>simp[okU] at o2
  |xc=>simp[okU] at o2
  |non=>cases (show q=AY from q2);exact SeqAt.RcNeAt.list_none pl1 hu1
  |bl c2=>cases (show q=Bd c2 from q2);exact SeqAt.RcNeAt.list_bool c2 pl1 hu1
  |int c2=>obtain ⟨t2,rfl⟩:=(show ∃t,q=Bc c2 t from q2);exact SeqAt.RcNeAt.list_int c2 t2 pl1 hu1
  |str c2=>obtain ⟨t2,rfl⟩:=(show ∃t,q=Bt c2 t from q2);exact SeqAt.RcNeAt.list_str c2 t2 pl1 hu1
  |scr hq2 hl2 hi2=>cases q2;obtain ⟨its2,r2,pl2,l2⟩:=IsU.list I hq2 hl2;rw[okU] at o1;rw[okU] at o2;rw[eqW];exact e6 pl1 pl2 l1 l2 hu (cF I r1 r2 hl1 hl2 hi1 hi2 o1 o2 rc0 (by omega))
  |tup hq2 hl2 hi2=>cases q2;obtain ⟨its2,r2,pl2,l2⟩:=IsU.tup I hq2 hl2;exact SeqAt.RcNeAt.list_tuple pl1 pl2 hu1
  |lst hq2 hl2 hi2=>cases q2;obtain ⟨its2,r2,pl2,l2⟩:=IsU.list I (SqL.of hq2) hl2;rw[okU] at o1;rw[okU] at o2;rw[eqW];exact e6 pl1 pl2 l1 l2 hu (cF I r1 r2 hl1 hl2 hi1 hi2 o1 o2 rc0 (by omega))
 |tup hq1 hl1 hi1=>
  cases q1;obtain ⟨its1,r1,pl1,l1⟩:=IsU.tup I hq1 hl1
  cases R2 with
  |ty=>simp[okU] at o2
  |dic=>simp[okU] at o2
  |xc=>simp[okU] at o2
  |non=>cases (show q=AY from q2);exact SeqAt.RcNeAt.tuple_none pl1 hu1
  |bl c2=>cases (show q=Bd c2 from q2);exact SeqAt.RcNeAt.tuple_bool c2 pl1 hu1
  |int c2=>obtain ⟨t2,rfl⟩:=(show ∃t,q=Bc c2 t from q2);exact SeqAt.RcNeAt.tuple_int c2 t2 pl1 hu1
  |str c2=>obtain ⟨t2,rfl⟩:=(show ∃t,q=Bt c2 t from q2);exact SeqAt.RcNeAt.tuple_str c2 t2 pl1 hu1
  |scr hq2 hl2 hi2=>cases q2;obtain ⟨its2,r2,pl2,l2⟩:=IsU.list I hq2 hl2;exact SeqAt.RcNeAt.tuple_list pl1 pl2 hu1
  |tup hq2 hl2 hi2=>cases q2;obtain ⟨its2,r2,pl2,l2⟩:=IsU.tup I hq2 hl2;rw[okU] at o1;rw[okU] at o2;rw[eqW];exact qy pl1 pl2 l1 l2 hu (cF I r1 r2 hl1 hl2 hi1 hi2 o1 o2 rc0 (by omega))
  |lst hq2 hl2 hi2=>cases q2;obtain ⟨its2,r2,pl2,l2⟩:=IsU.list I (SqL.of hq2) hl2;exact SeqAt.RcNeAt.tuple_list pl1 pl2 hu1
 |lst hq1 hl1 hi1=>
  cases q1;obtain ⟨its1,r1,pl1,l1⟩:=IsU.list I (SqL.of hq1) hl1
  cases R2 with
  |ty=>simp[okU] at o2
  |dic=>simp[okU] at o2
  |xc=>simp[okU] at o2
  |non=>cases (show q=AY from q2);exact SeqAt.RcNeAt.list_none pl1 hu1
  |bl c2=>cases (show q=Bd c2 from q2);exact SeqAt.RcNeAt.list_bool c2 pl1 hu1
  |int c2=>obtain ⟨t2,rfl⟩:=(show ∃t,q=Bc c2 t from q2);exact SeqAt.RcNeAt.list_int c2 t2 pl1 hu1
  |str c2=>obtain ⟨t2,rfl⟩:=(show ∃t,q=Bt c2 t from q2);exact SeqAt.RcNeAt.list_str c2 t2 pl1 hu1
  |scr hq2 hl2 hi2=>cases q2;obtain ⟨its2,r2,pl2,l2⟩:=IsU.list I hq2 hl2;rw[okU] at o1;rw[okU] at o2;rw[eqW];exact e6 pl1 pl2 l1 l2 hu (cF I r1 r2 hl1 hl2 hi1 hi2 o1 o2 rc0 (by omega))
  |tup hq2 hl2 hi2=>cases q2;obtain ⟨its2,r2,pl2,l2⟩:=IsU.tup I hq2 hl2;exact SeqAt.RcNeAt.list_tuple pl1 pl2 hu1
  |lst hq2 hl2 hi2=>cases q2;obtain ⟨its2,r2,pl2,l2⟩:=IsU.list I (SqL.of hq2) hl2;rw[okU] at o1;rw[okU] at o2;rw[eqW];exact e6 pl1 pl2 l1 l2 hu (cF I r1 r2 hl1 hl2 hi1 hi2 o1 o2 rc0 (by omega))
end
def OpS (X:Cx) (f:Value→Value→Sem Value) (x y:U) (z:V):Prop:=OpR X f fun v w H Q=>Rp X.K H v x∧Rp X.K H w y∧Q z H
section
variable {X:Cx}{H0:Hp}{O0:List Addr}{ps:PSt}{a b c e:Expr}{es rest:List Expr}{pos p:Pos}{u x y:U}{xs ys us:List U}{i j:Int}{k m:Bool}
theorem Rp.out {K:Ao}{H:Hp}{O:List Addr}{v:V}{u:U} (h:Rp K (hid H O) v u):Rp K H v u:=h.same aH
theorem sF {op:CmpOp} (ho:OpS X (BZ op) x y (.bl k)) (ha:Ev X H0 O0 ps a x) (hb:Ev X H0 O0 ps b y) (hm:CC op b=false:=by first |exact rX _ |with_unfolding_all rfl):Ev X H0 O0 ps (.Compare a [op] [b] pos) (.bl k):=
 PE.mono (vd ho ha hb hm) fun σ H Q ⟨O,R,q⟩=>two R (fun _ _ _ z=>z) (fun _ _ _ z=>z) fun v w H' s _ r1 r2=>⟨r1.out,r2.out,q _ H' s (.bl _)⟩
theorem bg {op:CmpOp} (ho:OpS X (BZ op) x y (.bl k)) (ha:Ev X H0 O0 ps a x) (hb:Ev X H0 O0 ps b y) (hm:CC op b=false:=by first |exact rX _ |with_unfolding_all rfl):Tt X H0 O0 ps (.Compare a [op] [b] pos) k:=
 PT.mono (uK ho ha hb hm) fun σ H Q ⟨O,R,q⟩=>two R (fun _ _ _ z=>z) (fun _ _ _ z=>z) fun v w H' s _ r1 r2=>⟨r1.out,r2.out,_,rfl,q H' s⟩
theorem rL {op:CmpOp}{g:Int→Int→Bool} (ho:OpR X (BZ op) (rI0 fun i j=>.bl (g i j))):OpS X (BZ op) (.int i) (.int j) (.bl (g i j)):=by
 intro pins s σ H v w p q Q I r1 r2 h
 obtain ⟨h1,h2,h3⟩:=h
 cases h1;cases h2
 exact ho pins s σ H _ _ _ _ Q I r1 r2 ⟨i,j,rfl,rfl,h3⟩
theorem pV:OpS X (BZ .Lt) (.int i) (.int j) (.bl (decide (i < j))):=rL y3
theorem zM:OpS X (BZ .LtE) (.int i) (.int j) (.bl (decide (i≤j))):=rL yT
theorem mU:OpS X (BZ .Gt) (.int i) (.int j) (.bl (decide (j < i))):=rL yR
theorem zF (hu:X.A.units+10 < cLine) (h1:okU 9 x=true) (h2:okU 9 y=true):OpS X (BZ .Eq) x y (.bl (eqW x y)):=by
 intro pins s σ H v w p q Q I r1 r2 h
 obtain ⟨k1,k2,k3⟩:=h
 exact yN I 9 X.A x y v w p q k1 k2 r1 r2 h1 h2 (by omega) X.prog X.w _ _ (bj I k3 rfl)
theorem yt (hu:X.A.units+10 < cLine) (h1:okU 9 x=true) (h2:okU 9 y=true):OpS X (BZ .NotEq) x y (.bl (!eqW x y)):=by
 intro pins s σ H v w p q Q I r1 r2 h
 obtain ⟨k1,k2,k3⟩:=h
 exact xL I 8 X.A x y v w p q k1 k2 r1 r2 h1 h2 (by omega) X.prog X.w _ _ (bj I k3 rfl)
theorem cT:OpS X (BZ .Eq) (.int i) (.int j) (.bl (decide (i=j))):=by
 intro pins s σ H v w p q Q I r1 r2 h
 obtain ⟨h1,h2,h3⟩:=h
 cases h1;cases h2
 exact ym pins s σ H _ _ _ _ Q I r1 r2 ⟨rfl,by rw[iS,←Es] at *;simpa [Es] using h3⟩
theorem gg:OpS X (BZ .NotEq) (.int i) (.int j) (.bl (!decide (i=j))):=by
 intro pins s σ H v w p q Q I r1 r2 h
 obtain ⟨h1,h2,h3⟩:=h
 cases h1;cases h2
 exact yG pins s σ H _ _ _ _ Q I r1 r2 ⟨rfl,by rw[iS];simpa [Es] using h3⟩
theorem yC {j pos'} (ha:Ev X H0 O0 ps a x) (h:∀(K:Ao) (H:Hp) (v:V),Rp K H v x→decide (v=V.non)=k):Ev X H0 O0 ps (.Compare a [.Is] [.Constant .none j pos'] pos) (.bl k):=
 PE.mono (xF (wT ha)) fun σ H Q ⟨O,R,q⟩=>⟨O,R,fun v H' s r=>by show Q (V.bl (decide (v=V.non))) H';rw[h _ _ v r];exact q _ H' s (.bl _)⟩
theorem oC {j pos'} (ha:Ev X H0 O0 ps a x) (h:∀(K:Ao) (H:Hp) (v:V),Rp K H v x→decide (v=V.non)=k):Tt X H0 O0 ps (.Compare a [.IsNot] [.Constant .none j pos'] pos) (!k):=
 PT.mono (x9 (vJ ha)) fun σ H Q ⟨O,R,q⟩=>⟨O,R,fun v H' s r=>⟨_,rfl,by rw[h _ _ v r];exact q H' s⟩⟩
def pi:U→Bool | .non=>true |_=>false
theorem kR (x:U):∀(K:Ao) (H:Hp) (v:V),Rp K H v x→decide (v=V.non)=pi x:=fun K H v r=>by
 cases r <;>simp[pi]
theorem hX (h:Ev X H0 O0 ps e (.bl k)) (he:∀whole,isTrue e X.env whole=(do let v ←whole;standAt e.pos;holding [v] (truthy v)):=by intro _;rfl):Tt X H0 O0 ps e k:=
 PT.mono (w8 h he) fun σ H Q ⟨O,R,q⟩=>⟨O,R,fun v H' s r=>by cases r;exact ⟨_,rfl,q H' s⟩⟩
theorem ki (h:Tt X H0 O0 ps a k):Tt X H0 O0 ps (.UnaryOp .Not a pos) (!k):=PT.mono (wU h) fun σ H Q ⟨O,R,q⟩=>⟨O,R,q⟩
theorem Tw.t (h:Tw X H0 O0 ps e k):Tt X H0 O0 ps e k:=h.pt
theorem kB (h:Tt X H0 O0 ps a k):Tw X H0 O0 ps (.BoolOp .And [a] pos) k:=uI h
theorem wD (h:Tt X H0 O0 ps a k):Tw X H0 O0 ps (.BoolOp .Or [a] pos) k:=xA h
theorem mV (ha:Tt X H0 O0 ps a k) (hb:k=true→Tw X H0 O0 ps (.BoolOp .And (b::rest) pos) m):Tw X H0 O0 ps (.BoolOp .And (a::b::rest) pos) (k && m):=by
 cases k with
 |true=>exact PW.mono (tT ha (hb rfl)) fun σ H Q ⟨O,R,q⟩=>⟨O,R,fun H' s=>by exact qw (⟨O,R.go s,fun H2 s2=>q H2 (s.trans s2)⟩)⟩
 |false=>exact PW.mono (tT ha (fun _ _ _ _ _ _ _ h=>h.elim) (tB':=fun _ _ _=>False)) fun σ H Q ⟨O,R,q⟩=>⟨O,R,fun H' s=>by exact qI (q H' s)⟩
theorem wG (ha:Tt X H0 O0 ps a k) (hb:k=false→Tw X H0 O0 ps (.BoolOp .Or (b::rest) pos) m):Tw X H0 O0 ps (.BoolOp .Or (a::b::rest) pos) (k ||m):=by
 cases k with
 |false=>exact PW.mono (wm ha (hb rfl)) fun σ H Q ⟨O,R,q⟩=>⟨O,R,fun H' s=>by exact qI (⟨O,R.go s,fun H2 s2=>q H2 (s.trans s2)⟩)⟩
 |true=>exact PW.mono (wm ha (fun _ _ _ _ _ _ _ h=>h.elim) (tB':=fun _ _ _=>False)) fun σ H Q ⟨O,R,q⟩=>⟨O,R,fun H' s=>by exact qw (q H' s)⟩
theorem tX {op} (h:Ev X H0 O0 ps a u):Ev X H0 O0 ps (.BoolOp op [a] pos) u:=w4 h
theorem t7 (ha:Ev X H0 O0 ps a (.bl k)) (hb:k=true→Ev X H0 O0 ps (.BoolOp .And (b::rest) pos) (.bl m)):Ev X H0 O0 ps (.BoolOp .And (a::b::rest) pos) (.bl (k && m)):=by
 cases k with
 |true=>exact PE.mono (tZ ha (hb rfl)) fun σ H Q ⟨O,R,q⟩=>⟨O,R,fun v H' s r=>by cases r;exact ⟨_,rfl,by exact qw (⟨O,R.go s,fun v H2 s2 r2=>q v H2 (s.trans s2) r2⟩)⟩⟩
 |false=>exact PE.mono (tZ ha (fun _ _ _ _ _ _ h=>h.elim) (tb:=fun _ _ _=>False)) fun σ H Q ⟨O,R,q⟩=>⟨O,R,fun v H' s r=>by cases r;exact ⟨_,rfl,by exact qI (q _ H' s (.bl _))⟩⟩
theorem v4 (ha:Ev X H0 O0 ps a (.bl k)):Ev X H0 O0 ps (.UnaryOp .Not a pos) (.bl (!k)):=PE.mono (xY ha) fun σ H Q ⟨O,R,q⟩=>⟨O,R,fun v H' s r=>by cases r;exact ⟨_,rfl,q _ H' s (.bl _)⟩⟩
theorem ao:EvA X H0 O0 ps [] []:=PA.mono eW fun σ H Q ⟨O,R,q⟩=>q [] H (.refl H) .nil
theorem ac (ha:Ev X H0 O0 ps e u) (hr:EvA X H0 O0 ps es us) (hs:AK (e::es) X.env=(false,eval e X.env)::AK es X.env:=by rfl):EvA X H0 O0 ps (e::es) (u::us):=
 PA.mono (cS ha hr hs) fun σ H Q ⟨O,R,q⟩=>⟨O,R,fun v H1 s1 r1=>⟨O,R.go s1,fun vs H2 s2 r2=>q _ H2 (s1.trans s2) (.cons (r1.same (aT s2)) r2)⟩⟩
theorem Rs.hidnew {K:Ao}{σ:St}{H:Hp}{O:List Addr} (R:Rs K H0 O0 ps σ H O) {p:Addr}{o:HO} (n:H p=none):hid (upd H p o) O p=some o:=dC aW fun z=>R.dom p z n
theorem yO {x1} (h:EvA X H0 O0 ps es us) (hz:us.length≤sizeLine:=by first |decide | (simp only[A9,D6];decide)):Ev X H0 O0 ps (.Tuple es x1 pos) (.tup us):=
 PE.mono (xx h) fun σ H Q ⟨O,R,q⟩=>⟨O,R,fun vs H1 s1 r1=>⟨by rw[r1.len];exact hz,fun p hp=>by
  have s2:=aU hp (.tup vs)
  have r2:=r1.same (aT (O:=O) s2)
  exact q _ _ (s1.trans s2) (.tup (SqT.of ((R.go s1).hidnew hp)) r2.len r2.at_)⟩⟩
theorem yD (h:EvA X H0 O0 ps es us) (hz:us.length≤sizeLine:=by first |decide | (simp only[A9,D6];decide)):EvN X H0 O0 ps (.List es pos) us:=
 PE.mono (xu h) fun σ H Q ⟨O,R,q⟩=>⟨O,R,fun vs H1 s1 r1=>⟨by rw[r1.len];exact hz,fun p hp=>by
  exact q p vs _ (s1.trans (aU hp _)) (s1.free hp) aW (r1.same (bI (aU hp _) hp))⟩⟩
theorem au (ha:Ev X H0 O0 ps a x) (hb:Ev X H0 O0 ps b (.int i)) (hx:x.items=some xs) (hi:atI xs i=some u) (hs:iX b:=by intro _ _;rfl):Ev X H0 O0 ps (.Subscript a b pos) u:=
 PE.mono (ww (pL.or xw) ha hb hs) fun σ H Q ⟨O,R,q⟩=>two (y:=.int i) R (fun _ _ _ z=>z) (fun _ _ _ z=>z) fun v w H' s _ r1 r2=>by
  cases r2
  cases r1 with
  |scr h hl hh=>cases hx;obtain ⟨z,h1,h2⟩:=Rps.atI ⟨hl,hh⟩ hi;exact .inl ⟨_,_,i,z,rfl,rfl,aH.seq h,h1,q z H' s h2⟩
  |lst h hl hh=>cases hx;obtain ⟨z,h1,h2⟩:=Rps.atI ⟨hl,hh⟩ hi;exact .inl ⟨_,_,i,z,rfl,rfl,aH.seq (SqL.of h),h1,q z H' s h2⟩
  |tup h hl hh=>cases hx;obtain ⟨z,h1,h2⟩:=Rps.atI ⟨hl,hh⟩ hi;exact .inr ⟨_,_,i,z,rfl,rfl,aH.tup h,h1,q z H' s h2⟩
  |_=>cases hx
theorem pB (n:Nat) {x:Str} (h:ps[n]?=some (some (.own xs))) (hb:Ev X H0 O0 ps b (.int i)) (hi:atI xs i=some u) (hN:X.N[n]?=some x:=by rfl) (hv:Vis X.env.scope x:=by first |exact Or.inl rfl |exact Or.inr (Or.inl rfl) |exact Or.inr (Or.inr rfl)) (hd:(x==("__debug__":Str))=false:=by decide)
  (hcd:(x==("__classdict__":Str))=false:=by decide) (hs:iX b:=by intro _ _;rfl):Ev X H0 O0 ps (.Subscript (.Name x p) b pos) u:=
 PE.mono (ww pL (ip hN hv hd hcd) hb hs) fun σ H Q ⟨O,R,q⟩=>by
  obtain ⟨v,h1,a,vs,rfl,h3,h4,h5,h6⟩:=R.at_ n _ h
  refine ⟨_,h1,O,R,fun w H' s r=>?_⟩
  cases r
  obtain ⟨z,k1,k2⟩:=h6.atI hi
  exact ⟨a,vs,i,z,rfl,rfl,SqL.of (s _ _ h5),k1,q z H' s (k2.same (aT s))⟩
def mS (X:Cx) (f:Value) (us:List U) (u:U):Prop:=eB X f fun vs H Q=>∃O,(∀a∈O,H a≠none)∧Rps X.K (hid H O) vs us∧∀v H',aF H H'→Rp X.K (hid H' O) v u→Q v H'
def wv (X:Cx) (f:Value) (us:List U) (xs:List U):Prop:=eB X f fun vs H Q=>∃O,(∀a∈O,H a≠none)∧Rps X.K (hid H O) vs us∧∀a vs H',aF H H'→H a=none→H' a=some (.lst vs)→Rps X.K (hid H' (a::O)) vs xs→Q (.ref a) H'
theorem aR {id:String}{f:Str} (hc:mS X (.builtin id) us u) (hg:Gl X f) (hm:X.mg f=none) (hv:Cg f=some (.builtin id)) (ha:EvA X H0 O0 ps (e::es) us) (hn:f≠"__name__":=by decide) (hdb:(f==("__debug__":Str))=false:=by decide)
  (he:AK (e::es) X.env=(false,eval e X.env)::AK es X.env:=by rfl) (hpl:(Eo pos (AK es X.env)).any (·.1)=false:=by rfl):Ev X H0 O0 ps (.Call (.Name f p) (e::es) [] pos) u:=
 PE.mono (lH hc hg hm hv ha hn hdb he hpl) fun σ H Q ⟨O,R,q⟩=>⟨O,R,fun vs H1 s1 r1=>⟨O,(R.go s1).dom,r1,fun v H2 s2 r2=>q v H2 (s1.trans s2) r2⟩⟩
theorem i4 {id:String}{f:Str} (hc:wv X (.type id) us xs) (hg:Gl X f) (hm:X.mg f=none) (hv:Cg f=some (.type id)) (ha:EvA X H0 O0 ps (e::es) us) (hn:f≠"__name__":=by decide) (hdb:(f==("__debug__":Str))=false:=by decide)
  (he:AK (e::es) X.env=(false,eval e X.env)::AK es X.env:=by rfl) (hpl:(Eo pos (AK es X.env)).any (·.1)=false:=by rfl):EvN X H0 O0 ps (.Call (.Name f p) (e::es) [] pos) xs:=
 PE.mono (qT hc hg hm hv ha hn hdb he hpl) fun σ H Q ⟨O,R,q⟩=>⟨O,R,fun vs H1 s1 r1=>⟨O,(R.go s1).dom,r1,fun a vs H2 s2 n h r2=>q a vs H2 (s1.trans s2) (s1.free n) h r2⟩⟩
theorem fK {K:Ao}{H:Hp}{vs:List V} (h:Rps K H vs [x]):∃v,vs=[v]∧Rp K H v x:=by
 obtain ⟨v,ws,rfl,h1,h2⟩:=h.cons_inv
 rw[h2.nil_inv]
 exact ⟨v,rfl,h1⟩
theorem oV {K:Ao}{H:Hp}{vs:List V} (h:Rps K H vs [x,y]):∃v w,vs=[v,w]∧Rp K H v x∧Rp K H w y:=by
 obtain ⟨v,ws,rfl,h1,h2⟩:=h.cons_inv
 obtain ⟨w,rfl,h3⟩:=fK h2
 exact ⟨v,w,rfl,h1,h3⟩
theorem eB.mono {f:Value}{r r':List V→Hp→VK→Prop} (h:eB X f r) (m:∀vs H Q,r' vs H Q→r vs H Q):eB X f r':=fun pins s σ H vs us Q I v q=>h pins s σ H vs us Q I v (m vs H Q q)
theorem kZ {K:Ao}{H:Hp}{v:V} (h:Rp K H v x) (hx:x.items=some xs):∃a vs,v=.ref a∧(SqL K H a vs∨SqT K H a vs)∧Rps K H vs xs:=by
 cases h with
 |scr h hl hh=>cases hx;exact ⟨_,_,rfl,.inl h,hl,hh⟩
 |lst h hl hh=>cases hx;exact ⟨_,_,rfl,.inl (SqL.of h),hl,hh⟩
 |tup h hl hh=>cases hx;exact ⟨_,_,rfl,.inr h,hl,hh⟩
 |_=>cases hx
theorem o_ {K:Ao}{H:Hp}{O:List Addr}{a:Addr}{vs:List V} (h:SqL K (hid H O) a vs∨SqT K (hid H O) a vs):SqL K H a vs∨SqT K H a vs:=h.imp (fun z=>aH.seq z) fun z=>aH.tup z
theorem cP (hx:x.items=some xs):mS X (.builtin "len") [x] (.int xs.length):=eB.mono hW fun vs H Q ⟨O,d,r,q⟩=>by
 obtain ⟨v,rfl,h⟩:=fK r
 obtain ⟨a,ws,rfl,h1,h2⟩:=kZ h hx
 exact ⟨a,ws,rfl,o_ h1,by rw[h2.len];exact q _ H (.refl H) (.int _)⟩
theorem xN (n:Nat) {x:Str} (h:ps[n]?=some (some (.own xs))) (hg:Gl X "len") (hm:X.mg "len"=none) (hN:X.N[n]?=some x:=by rfl) (hv:Vis X.env.scope x:=by first |exact Or.inl rfl |exact Or.inr (Or.inl rfl) |exact Or.inr (Or.inr rfl)) (hd:(x==("__debug__":Str))=false:=by decide)
  (hcd:(x==("__classdict__":Str))=false:=by decide) {pc p':Pos} (hs:AK [.Name x p'] X.env=(false,eval (.Name x p') X.env)::AK [] X.env:=by rfl) (hpl:(Eo pos (AK [] X.env)).any (·.1)=false:=by rfl):Ev X H0 O0 ps (.Call (.Name "len" pc) [.Name x p'] [] pos) (.int xs.length):=
 PE.mono (lH hW hg hm Bf (cS (ip hN hv hd hcd) eW hs) (by decide) (by decide) hs hpl) fun σ H Q ⟨O,R,q⟩=>by
  obtain ⟨v,h1,a,vs,rfl,h3,h4,h5,h6⟩:=R.at_ n _ h
  exact ⟨_,h1,a,vs,rfl,.inl (SqL.of h5),by rw[h6.len];exact q _ H (.refl H) (.int _)⟩
theorem kj:mS X (.builtin "abs") [.int i] (.int (if i < 0 then -i else i)):=eB.mono rP fun vs H Q ⟨O,d,r,q⟩=>by
 obtain ⟨v,rfl,h⟩:=fK r
 cases h
 exact ⟨i,rfl,q _ H (.refl H) (.int _)⟩
theorem kE (hx:x.items=some xs):wv X (.type "list") [x] xs:=eB.mono ll fun vs H Q ⟨O,d,r,q⟩=>by
 obtain ⟨v,rfl,h⟩:=fK r
 obtain ⟨a,ws,rfl,h1,h2⟩:=kZ h hx
 exact ⟨a,ws,rfl,o_ h1,fun l hl=>q l ws _ (aU hl _) hl aW (h2.same (bI (aU hl _) hl))⟩
def tyU:U→Value
 | .non=>.type "NoneType" | .bl _=>.type "bool" | .int _=>.type "int" | .str _=>.type "str" | .ty _=>.type "type" | .dic=>.type "dict" | .scr _=>.type "list" | .tup _=>.type "tuple" | .lst _=>.type "list"
theorem eO {n:String} (hn:∀m,x≠.ty m) (h:E9 X.K (tyU x) (.type n)=some k):mS X (.builtin "isinstance") [x,.ty (.nm n)] (.bl k):=by
 intro pins s σ H vs us Q I r hq
 obtain ⟨O,d,rs,q⟩:=hq
 obtain ⟨v,w,rfl,h1,h2⟩:=oV rs
 cases h2
 obtain ⟨p1,p2,rfl,r1,r2⟩:=pj r
 cases (show p2=BU n from r2)
 have fin:∀tk,EP X pins σ Q (.bool k) {s with toks:=tk }:=fun tk=>⟨.bl k,H,I.tok _,rfl,q _ H (.refl H) (.bl _)⟩
 cases h1 with
 |non=>exact dr I r1 .non h fin
 |bl b=>exact dr I r1 (.bl b) h fin
 |int b=>exact dr I r1 (.int b) h fin
 |str b=>exact dr I r1 (.str b) h fin
 |ty m=>exact absurd rfl (hn _)
 |dic e=>exact dr I r1 (.dK (aH _ _ e)) h fin
 |xc e kk=>exact absurd rfl (hn _)
 |scr e hl hh=>
  cases r1
  obtain ⟨its,_,pl,_⟩:=I.list (aH.seq e)
  obtain ⟨o,nn,e1,e2,_⟩:=pl
  exact BF Fj I.kIn ⟨o,e1,e2⟩ h (fun z=>nomatch z) fin
 |lst e hl hh=>exact dr I r1 (.lst (aH _ _ e)) h fin
 |tup e hl hh=>
  cases r1
  obtain ⟨its,_,pl,_⟩:=I.tuple (aH.tup e)
  obtain ⟨o,e1,e2,_⟩:=pl
  exact BF GS I.kIn ⟨o,e1,e2⟩ h (fun z=>nomatch z) fin
end
inductive Out where
 |val (u:U) |new (xs:List U) |exc (C:Addr)
def mW (K:Ao) (H0:Hp) (O0:List Addr) (Q:VK) (E:XK):Out→Prop
 | .val u=>∀v H',aF H0 H'→Rp K (hid H' O0) v u→Q v H'
 | .new xs=>∀a vs H',aF H0 H'→H0 a=none→H' a=some (.lst vs)→Rps K (hid H' (a::O0)) vs xs→Q (.ref a) H'
 | .exc C=>∀H',aF H0 H'→E (.ref C) none H'
theorem mW.later {K:Ao}{H0 H1:Hp}{O0:List Addr}{Q:VK}{E:XK}{o:Out} (e:aF H0 H1) (h:mW K H0 O0 Q E o):mW K H1 O0 Q E o:=by
 cases o with
 |val u=>exact fun v H' s r=>h v H' (e.trans s) r
 |new xs=>exact fun a vs H' s n q r=>h a vs H' (e.trans s) (e.free n) q r
 |exc C=>exact fun H' s=>h H' (e.trans s)
structure PD where
 nx:PSt→Prop
 rt:Out→Prop
 bk:PSt→Prop:=fun _=>False
 ct:PSt→Prop:=fun _=>False
structure Lf (K:Ao) (H0:Hp) (O0:List Addr) (E:XK) (D:PD) (D':k_):Prop where
 nx:∀ps σ H O,Rs K H0 O0 ps σ H O→D.nx ps→D'.nx σ H
 bk:∀ps σ H O,Rs K H0 O0 ps σ H O→D.bk ps→D'.bk σ H
 ct:∀ps σ H O,Rs K H0 O0 ps σ H O→D.ct ps→D'.ct σ H
 rt:∀o,D.rt o→mW K H0 O0 D'.rt E o
def Ws (X:Cx) (H0:Hp) (O0:List Addr) (E:XK) (ss:List Stmt) (D:PD) (ps:PSt):Prop:=PSs X ss fun D' σ H=>Lf X.K H0 O0 E D D'∧∃O,Rs X.K H0 O0 ps σ H O
def W1 (X:Cx) (H0:Hp) (O0:List Addr) (E:XK) (s:Stmt) (D:PD) (ps:PSt):Prop:=PS X s fun D' σ H=>Lf X.K H0 O0 E D D'∧∃O,Rs X.K H0 O0 ps σ H O
section
variable {X:Cx}{H0:Hp}{O0:List Addr}{E:XK}{ps ps':PSt}{D:PD}{s:Stmt}{ss body:List Stmt}{a b c e:Expr}{es:List Expr}{pos p:Pos}{u x y:U}{xs ys us:List U}{k:Bool}
theorem bi (h:D.nx ps):Ws X H0 O0 E [] D ps:=PSs.mono vN fun D' σ H ⟨L,O,R⟩=>L.nx ps σ H O R h
theorem ae (h:W1 X H0 O0 E s {D with nx:=fun p=>Ws X H0 O0 E ss D p } ps):Ws X H0 O0 E (s::ss) D ps:=by
 have h2:PSs X ss fun D' σ H=>∃p,Ws X H0 O0 E ss D p∧Lf X.K H0 O0 E D D'∧∃O,Rs X.K H0 O0 p σ H O:=fun pins s σ H D' I ⟨p,w,l,r⟩=>w pins s σ H D' I ⟨l,r⟩
 exact PSs.mono (sL h h2) fun D' σ H ⟨L,O,R⟩=>⟨⟨fun p σ H O R q=>⟨p,q,L,O,R⟩,L.bk,L.ct,L.rt⟩,O,R⟩
theorem eT (h:Ws X H0 O0 E ss D ps') (hs:SubP ps' ps):Ws X H0 O0 E ss D ps:=PSs.mono h fun D' σ H ⟨L,O,R⟩=>⟨L,O,R.sub hs⟩
theorem aA {i:Nat}{x:Str}{pos':Pos} (hN:X.N.Nodup) (hi:X.N[i]?=some x) (hx:Loc X.env.scope x) (he:Ev X H0 O0 ps e u) (h:D.nx (ps.set i (some (.val u)))) (hs:Fh e (some (.Name x pos')) pos.line X.env=pure false:=by rfl) (hf:X.fn x=true∨X.env.scope.names.lookup x=some .local:=by first |exact .inl rfl |exact .inr rfl |assumption):
  W1 X H0 O0 E (.Assign [.Name x pos'] e pos) D ps:=PS.mono (sX hN hi hx he hs hf) fun D' σ H ⟨L,O,R⟩=>⟨O,R,fun v H' s r=>L.nx _ _ _ O ((R.go s).set r) h⟩
theorem ml {i:Nat}{x:Str}{pos':Pos} (hN:X.N.Nodup) (hi:X.N[i]?=some x) (hx:Loc X.env.scope x) (he:EvN X H0 O0 ps e xs) (h:D.nx (ps.set i (some (.own xs)))) (hs:Fh e (some (.Name x pos')) pos.line X.env=pure false:=by rfl) (hf:X.fn x=true∨X.env.scope.names.lookup x=some .local:=by first |exact .inl rfl |exact .inr rfl |assumption):
  W1 X H0 O0 E (.Assign [.Name x pos'] e pos) D ps:=PS.mono (sX hN hi hx he hs hf) fun D' σ H ⟨L,O,R⟩=>⟨O,R,fun a vs H' s n q r=>L.nx _ _ _ _ (R.own s n q r) h⟩
theorem nw {tb fb:List Stmt} (hc:Tt X H0 O0 ps c k) (h1:k=true→Ws X H0 O0 E tb D ps) (h2:k=false→Ws X H0 O0 E fb D ps):W1 X H0 O0 E (.If c tb fb pos) D ps:=by
 cases k with
 |true=>exact PS.mono (wg hc (h1 rfl) (fun _ _ _ _ _ _ h=>h.elim) (u:=fun _ _ _=>False)) fun D' σ H ⟨L,O,R⟩=>⟨O,R,fun H' s=>qw ⟨L,O,R.go s⟩⟩
 |false=>exact PS.mono (wg hc (fun _ _ _ _ _ _ h=>h.elim) (h2 rfl) (t:=fun _ _ _=>False)) fun D' σ H ⟨L,O,R⟩=>⟨O,R,fun H' s=>qI ⟨L,O,R.go s⟩⟩
theorem Rs.ret {K:Ao}{σ:St}{H:Hp}{O:List Addr}{v:V} (R:Rs K H0 O0 ps σ H O) (r:Rp K (hid H O) v u):Rp K (hid H O0) v u:=r.same (eo R.old)
theorem a_ (he:Ev X H0 O0 ps e u) (h:D.rt (.val u)):W1 X H0 O0 E (.Return (some e) pos) D ps:=
 PS.mono (oB he) fun D' σ H ⟨L,O,R⟩=>⟨O,R,fun v H' s r=>L.rt _ h v H' (R.same.trans s) ((R.go s).ret r)⟩
theorem nF (he:EvN X H0 O0 ps e xs) (h:D.rt (.new xs)):W1 X H0 O0 E (.Return (some e) pos) D ps:=
 PS.mono (oB he) fun D' σ H ⟨L,O,R⟩=>⟨O,R,fun a vs H' s n q r=>L.rt _ h a vs H' (R.same.trans s) (R.same.free n) q (r.same (eo fun b hb=>by
  rcases Ay.mp hb with y |y
  ·subst y;exact AE
  ·exact Au _ (R.old b y)))⟩
theorem tq (i:Nat) {x:Str} (hp:ps[i]?=some (some (.own xs))) (h:D.rt (.new xs)) (hN:X.N[i]?=some x:=by rfl) (hv:Vis X.env.scope x:=by first |exact Or.inl rfl |exact Or.inr (Or.inl rfl) |exact Or.inr (Or.inr rfl)) (hd:(x==("__debug__":Str))=false:=by decide)
  (hcd:(x==("__classdict__":Str))=false:=by decide):W1 X H0 O0 E (.Return (some (.Name x p)) pos) D ps:=
 PS.mono (oB (ip hN hv hd hcd)) fun D' σ H ⟨L,O,R⟩=>by
  obtain ⟨v,h1,a,vs,rfl,h3,h4,h5,h6⟩:=R.at_ i _ hp
  refine ⟨_,h1,L.rt _ h a vs H R.same ((R.new a h3).resolve_left h4) h5 (h6.same (eo fun b hb=>?_))⟩
  rcases Ay.mp hb with y |y
  ·subst y;exact h3
  ·exact R.old b y
theorem kM (he:Ev X H0 O0 ps e u) (h:D.nx ps) (hs:Fh e none pos.line X.env=pure false:=by rfl):W1 X H0 O0 E (.Expr e pos) D ps:=
 PS.mono (kF he hs) fun D' σ H ⟨L,O,R⟩=>⟨O,R,fun v H' s r=>L.nx _ _ _ O (R.go s) h⟩
theorem fG (i:Nat) {x:Str}{apos cpos xp:Pos} (hp:ps[i]?=some (some (.own xs))) (ha:Ev X H0 O0 ps e u) (hz:xs.length < sizeLine) (h:D.nx (ps.set i (some (.own (xs++[u])))))
  (hN:X.N[i]?=some x:=by rfl) (hv:Vis X.env.scope x:=by first |exact Or.inl rfl |exact Or.inr (Or.inl rfl) |exact Or.inr (Or.inr rfl)) (hd:(x==("__debug__":Str))=false:=by decide) (hcd:(x==("__classdict__":Str))=false:=by decide)
  (hbase:FA (.Name x xp) "append" X.env (eval (.Name x xp) X.env)=eval (.Name x xp) X.env:=by rfl)
  (hfew:((Eo cpos (AK [e] X.env)).all (fun x=>!x.1) && (backToKw cpos (keywordEach [] X.env)).all (fun x=>x.1.isSome) && decide ([e].length+([]:List HL).length+(if ([]:List HL).isEmpty then 0 else 1) < 30))=true:=by rfl)
  (hline:(apos.endLine==cpos.line)=true:=by rfl) (hse:AK [e] X.env=(false,eval e X.env)::AK [] X.env:=by rfl) (hplain:(Eo cpos (AK [] X.env)).any (·.1)=false:=by rfl)
  (hs:Fh (.Call (.Attribute (.Name x xp) "append" apos) [e] [] cpos) none pos.line X.env=pure false:=by rfl):W1 X H0 O0 E (.Expr (.Call (.Attribute (.Name x xp) "append" apos) [e] [] cpos) pos) D ps:=
 PS.mono (kF (yF FB PySem.F.slot_list_append PySem.F.type_list_append iu (ip hN hv hd hcd) (cS ha eW hse) hbase hfew hline hse hplain) hs) fun D' σ H ⟨L,O,R⟩=>by
  obtain ⟨v,h1,a,vs,rfl,h3,h4,h5,h6⟩:=R.at_ i _ hp
  refine ⟨_,h1,.inl ⟨rfl,_,SqL.of h5⟩,O,R,fun w H' s r=>⟨a,vs,w,rfl,rfl,s _ _ h5,by rw[h6.len];exact hz,?_⟩⟩
  exact L.nx _ _ _ O ((R.go s).write hp h1 ((h6.same (aT s)).snoc (.cons r .nil))) h
theorem vR (i:Nat) {x:Str}{apos cpos xp:Pos} (hp:ps[i]?=some (some (.own xs))) (hne:xs≠[]) (h:D.nx (ps.set i (some (.own xs.dropLast))))
  (hN:X.N[i]?=some x:=by rfl) (hv:Vis X.env.scope x:=by first |exact Or.inl rfl |exact Or.inr (Or.inl rfl) |exact Or.inr (Or.inr rfl)) (hd:(x==("__debug__":Str))=false:=by decide) (hcd:(x==("__classdict__":Str))=false:=by decide)
  (hbase:FA (.Name x xp) "pop" X.env (eval (.Name x xp) X.env)=eval (.Name x xp) X.env:=by rfl)
  (hline:(apos.endLine==cpos.line)=true:=by rfl)
  (hs:Fh (.Call (.Attribute (.Name x xp) "pop" apos) [] [] cpos) none pos.line X.env=pure false:=by rfl):W1 X H0 O0 E (.Expr (.Call (.Attribute (.Name x xp) "pop" apos) [] [] cpos) pos) D ps:=
 PS.mono (kF (xk FB PySem.F.slot_list_pop PySem.F.type_list_pop wS (ip hN hv hd hcd) hbase hline) hs) fun D' σ H ⟨L,O,R⟩=>by
  obtain ⟨v,h1,a,vs,rfl,h3,h4,h5,h6⟩:=R.at_ i _ hp
  have hpos:0 < vs.length:=by rw[h6.len];exact DQ.mpr hne
  have hlt:vs.length - 1 < vs.length:=by omega
  refine ⟨_,h1,.inl ⟨rfl,_,SqL.of h5⟩,a,vs,vs[vs.length - 1],rfl,rfl,h5,Am hlt,?_⟩
  refine L.nx _ _ _ O (R.write hp h1 ⟨by simp[h6.len],fun j v x e1 e2=>?_⟩) h
  rw[CP] at e1 e2
  split at e1
  ·split at e2
   ·exact h6.at_ j v x e1 e2
   ·cases e2
  ·cases e1
end
def kU:List Nat→TGs
 |[]=>yW
 |j::js=>v_ (oE j) (kU js)
def setAll:PSt→List Nat→List U→PSt
 |ps,j::js,u::us=>setAll (ps.set j (some (.val u))) js us
 |ps,_,_=>ps
def kO:St→List Nat→List V→St
 |σ,j::js,u::us=>kO (σ.set j (some u)) js us
 |σ,_,_=>σ
theorem Rs.setAll {K:Ao}{H0:Hp}{O0:List Addr}{H:Hp}{O:List Addr}:∀{js:List Nat}{ps:PSt}{σ:St}{vs:List V}{us:List U},Rs K H0 O0 ps σ H O→Rps K (hid H O) vs us→Rs K H0 O0 (L2.setAll ps js us) (kO σ js vs) H O
 |[],ps,σ,vs,us,R,r=>by cases us <;>cases vs <;>exact R
 |j::js,ps,σ,vs,[],R,r=>by rw[r.nil_inv];exact R
 |j::js,ps,σ,vs,u::us,R,r=>by
  obtain ⟨v,ws,rfl,h1,h2⟩:=r.cons_inv
  exact Rs.setAll (js:=js) (R.set h1) h2
theorem fO {Q:St→Hp→Prop}{H:Hp}:∀{js:List Nat}{σ:St}{vs:List V},vs.length=js.length→Q (kO σ js vs) H→kU js vs σ H Q
 |[],σ,[],_,q=>⟨rfl,q⟩
 |j::js,σ,v::vs,e,q=>⟨v,vs,rfl,fO (js:=js) (by simpa using e) q⟩
 |[],_,_::_,e,_=>by simp at e
 |_::_,_,[],e,_=>by simp at e
def TgS (X:Cx) (H0:Hp) (O0:List Addr) (tg:Expr) (ps:PSt) (u:U) (ps':PSt):Prop:=
 PG X tg fun v σ H Q=>∃O,Rs X.K H0 O0 ps σ H O∧Rp X.K (hid H O) v u∧∀σ' H',aF H H'→Rs X.K H0 O0 ps' σ' H' O→Q σ' H'
theorem PG.mono {X:Cx}{e:Expr}{t t':TG} (h:PG X e t) (m:∀v σ H Q,t' v σ H Q→t v σ H Q):PG X e t':=fun pins s σ H v u Q I r q=>h pins s σ H v u Q I r (m v σ H Q q)
theorem PI.mono {X:Cx}{tg e:Expr}{t t':TI} (h:PI X tg e t) (m:∀σ H Q,t' σ H Q→t σ H Q):PI X tg e t':=fun pins s σ H Q I q=>h pins s σ H Q I (m σ H Q q)
def Yl (K:Ao) (J:It) (G:Hp) (xs:List U):Prop:=
 ∀H2,aF G H2→(∀i,i < xs.length→J.go i H2∧∀x H3,J.yld i H2 x H3→H3=H2∧∃u,xs[i]?=some u∧Rp K G x u)∧J.stop xs.length H2
def EvI (X:Cx) (H0:Hp) (O0:List Addr) (ps:PSt) (tg iter:Expr) (xs:List U):Prop:=
 PI X tg iter fun σ H R=>∃O,Rs X.K H0 O0 ps σ H O∧∀J H',aF H H'→Yl X.K J (hid H' O) xs→R J H'
section
variable {X:Cx}{H0:Hp}{O0:List Addr}{E:XK}{ps ps':PSt}{D:PD}{s:Stmt}{ss body:List Stmt}{a b c e tg iter:Expr}{es:List Expr}{pos p:Pos}{u x y:U}{xs ys us:List U}{k:Bool}
theorem gN {i:Nat}{x:Str} (hN:X.N.Nodup) (hi:X.N[i]?=some x) (hx:Loc X.env.scope x) (hf:X.fn x=true∨X.env.scope.names.lookup x=some .local:=by first |exact .inl rfl |exact .inr rfl |assumption):TgS X H0 O0 (.Name x pos) ps u (ps.set i (some (.val u))):=
 PG.mono (bF hN hi hx hf) fun v σ H Q ⟨O,R,r,q⟩=>q _ H (.refl H) (R.set r)
theorem ud {k:Nat} (js:List Nat) (hc:X.calm=true) (h:PGs X es (kU js)) (hl:us.length=js.length) (hn:(CT es X.env).length=js.length:=by rfl) (hst:(CT es X.env).findIdx? (·.1)=none:=by rfl):TgS X H0 O0 (.Tuple es k pos) ps (.tup us) (setAll ps js us):=
 PG.mono (xy hc h hn hst) fun v σ H Q ⟨O,R,r,q⟩=>by
  cases r with
  |tup hq hl' hh=>exact ⟨_,_,rfl,aH.tup hq,hl'.trans hl,fO (hl'.trans hl) (q _ H (.refl H) (R.setAll ⟨hl',hh⟩))⟩
theorem yr {k:Nat} (js:List Nat) (hc:X.calm=true) (h:PGs X es (kU js)) (hx:x=.lst us∨x=.scr us) (hl:us.length=js.length) (hn:(CT es X.env).length=js.length:=by rfl) (hst:(CT es X.env).findIdx? (·.1)=none:=by rfl):TgS X H0 O0 (.Tuple es k pos) ps x (setAll ps js us):=
 PG.mono (ye hc h hn hst) fun v σ H Q ⟨O,R,r,q⟩=>by
  rcases hx with rfl |rfl
  ·cases r with
   |lst hq hl' hh=>exact ⟨_,_,rfl,aH.seq (SqL.of hq),hl'.trans hl,fO (hl'.trans hl) (q _ H (.refl H) (R.setAll ⟨hl',hh⟩))⟩
  ·cases r with
   |scr hq hl' hh=>exact ⟨_,_,rfl,aH.seq hq,hl'.trans hl,fO (hl'.trans hl) (q _ H (.refl H) (R.setAll ⟨hl',hh⟩))⟩
theorem sJ (he:Ev X H0 O0 ps e u) (hg:TgS X H0 O0 tg ps u ps') (h:D.nx ps') (hs:Fv [tg] e pos.line X.env=pure false:=by rfl) (hw:Fw [tg] e X.env=pure none:=by rfl)
  (h1:(CT [tg] X.env).map (·.2)=[assign tg X.env]:=by rfl):W1 X H0 O0 E (.Assign [tg] e pos) D ps:=
 PS.mono (wV he hg hs hw h1) fun D' σ H ⟨L,O,R⟩=>⟨O,R,fun v H1 s1 r1=>⟨O,R.go s1,r1,fun σ' H2 s2 R2=>L.nx _ _ _ O R2 h⟩⟩
theorem wA {i j:Nat}{x y:Str}{px py pt:Pos}{kt k2 pt2}{u w:U} (hc:X.calm=true) (hN:X.N.Nodup) (hi:X.N[i]?=some x) (hj:X.N[j]?=some y) (hij:i≠j)
  (hx:X.env.scope.names.lookup x=some .local) (hy:X.env.scope.names.lookup y=some .local) (ha:EvA X H0 O0 ps [a,b] [u,w])
  (hw:Fw [.Tuple [.Name x px,.Name y py] kt pt] (.Tuple [a,b] k2 pt2) X.env=pure (some [x,y])) (h:D.nx ((ps.set i (some (.val u))).set j (some (.val w))))
  (hs:Fv [.Tuple [.Name x px,.Name y py] kt pt] (.Tuple [a,b] k2 pt2) pos.line X.env=pure false:=by rfl):
  W1 X H0 O0 E (.Assign [.Tuple [.Name x px,.Name y py] kt pt] (.Tuple [a,b] k2 pt2) pos) D ps:=
 PS.mono (wR hc hN hi hj hij hx hy ha hw hs) fun D' σ H ⟨L,O,R⟩=>⟨O,R,fun vs H1 s1 r1=>by
  obtain ⟨v,z,rfl,h1,h2⟩:=oV r1
  exact ⟨v,z,rfl,L.nx _ _ _ O (((R.go s1).set h1).set h2) h⟩⟩
theorem dB (he:Ev X H0 O0 ps iter x) (hx:x=.lst xs∨x=.scr xs):EvI X H0 O0 ps tg iter xs:=
 PI.mono (vx he) fun σ H Q ⟨O,R,q⟩=>⟨O,R,fun v H' s r=>by
  have key:∃a vs,v=.ref a∧SqL X.K (hid H' O) a vs∧Rps X.K (hid H' O) vs xs:=by
   rcases hx with rfl |rfl
   ·cases r with
    |lst hq hl hh=>exact ⟨_,_,rfl,SqL.of hq,hl,hh⟩
   ·cases r with
    |scr hq hl hh=>exact ⟨_,_,rfl,hq,hl,hh⟩
  obtain ⟨a,vs,rfl,hq,rs⟩:=key
  refine ⟨a,rfl,⟨vs,aH.seq hq⟩,q _ H' s fun H2 s2=>⟨fun i hi=>?_,⟨vs,s2.seq hq,by rw[rs.len];exact Aw _⟩⟩⟩
  have hi':i < vs.length:=by rw[rs.len];exact hi
  refine ⟨⟨vs,vs[i],s2.seq hq,Am hi'⟩,fun z H3 y=>⟨y.1,xs[i],Am hi,rs.at_ i z _ (y.2 vs (s2.seq hq)) (Am hi)⟩⟩⟩
theorem vS (he:Ev X H0 O0 ps iter (.tup xs)):EvI X H0 O0 ps tg iter xs:=
 PI.mono (x6 he) fun σ H Q ⟨O,R,q⟩=>⟨O,R,fun v H' s r=>by
  cases r with
  | @tup a vs _ hq hl hh=>
   have rs:Rps X.K (hid H' O) vs xs:=⟨hl,hh⟩
   refine ⟨a,rfl,⟨vs,aH.tup hq⟩,q _ H' s fun H2 s2=>⟨fun i hi=>?_,⟨vs,s2.tup hq,by rw[rs.len];exact Aw _⟩⟩⟩
   have hi':i < vs.length:=by rw[rs.len];exact hi
   refine ⟨⟨vs,vs[i],s2.tup hq,Am hi'⟩,fun z H3 y=>⟨y.1,xs[i],Am hi,rs.at_ i z _ (y.2 vs (s2.tup hq)) (Am hi)⟩⟩⟩
def gu (lo:Int) (n:Nat):List U:=(Bj n).map fun (i:Nat)=>U.int (lo+(i:Int))
theorem gJ {lo:Int}{n:Nat}:(gu lo n).length=n:=by simp[gu]
theorem j_ {lo:Int}{n i:Nat} (h:i < n):(gu lo n)[i]?=some (.int (lo+(i:Int))):=by
 unfold gu
 rw[Av,DR h];rfl
theorem oz {lo:Int}{n i:Nat}{x:U} (h:(gu lo n)[i]?=some x):i < n∧x=.int (lo+(i:Int)):=by
 have hi:=aP h
 rw[gJ] at hi
 rw[j_ hi] at h
 exact ⟨hi,(Bo h).symm⟩
theorem rV {K:Ao}{G:Hp}{lo:Int}{n:Nat}:Yl K (Itr lo n) G (gu lo n):=fun H2 s2=>by
 rw[gJ]
 refine ⟨fun i hi=>⟨hi,fun z H3 y=>⟨y.1,_,j_ hi,?_⟩⟩,Aw _⟩
 rw[y.2];exact .int _
theorem t5 {j:Int} (hg:Gl X "range") (hm:X.mg "range"=none) (ha:EvA X H0 O0 ps [a] [.int j]) (h1:-(2 ^ 62)≤j) (h2:j < 2 ^ 62) (hs:AK [a] X.env=[(false,eval a X.env)]:=by rfl):EvI X H0 O0 ps tg (.Call (.Name "range" p) [a] [] pos) (gu 0 j.toNat):=
 PI.mono (qQ hg hm ha hs) fun σ H Q ⟨O,R,q⟩=>⟨O,R,fun vs H' s r=>by
  obtain ⟨v,rfl,h⟩:=fK r
  cases h
  exact ⟨j,rfl,h1,h2,q _ H' s rV⟩⟩
theorem Rs.rebase {K:Ao}{σ:St}{H:Hp}{O:List Addr} (R:Rs K H0 O0 ps σ H O):Rs K (hid H (O.filter fun a=>decide (a ∉ O0))) O0 ps σ H O:=
 ⟨aH,R.old,fun a ha=>by
  by_cases h:a∈O0
  ·exact .inl h
  ·right;unfold hid;rw[if_pos (CL.mpr ⟨ha,by simpa using h⟩)],R.dom,R.len,R.at_,R.inj⟩
theorem Rs.base {K:Ao}{σ:St}{H:Hp}{O:List Addr} (R:Rs K H0 O0 ps σ H O):aF H0 (hid H (O.filter fun a=>decide (a ∉ O0))):=fun b o h=>by
 refine dC (R.same b o h) fun z=>?_
 obtain ⟨z1,z2⟩:=CL.mp z
 rcases R.new b z1 with y |y
 ·simp[y] at z2
 ·rw[h] at y;cases y
theorem Rs.unbase {K:Ao}{H1:Hp}{σ:St}{H:Hp}{O:List Addr} (e:aF H0 H1) (R:Rs K H1 O0 ps σ H O):Rs K H0 O0 ps σ H O:=
 ⟨e.trans R.same,R.old,fun a ha=>(R.new a ha).imp id fun z=>e.free z,R.dom,R.len,R.at_,R.inj⟩
theorem Rs.seen {K:Ao}{ps2:PSt}{σ σ2:St}{H H2:Hp}{O O2:List Addr} (R:Rs K H0 O0 ps σ H O) (R2:Rs K (hid H (O.filter fun a=>decide (a ∉ O0))) O0 ps2 σ2 H2 O2):aF (hid H O) (hid H2 O2):=fun b o h=>by
 obtain ⟨h1,h2⟩:=gG h
 have h3:hid H (O.filter fun a=>decide (a ∉ O0)) b=some o:=dC h1 fun z=>h2 (CL.mp z).1
 refine dC (R2.same b o h3) fun z=>?_
 rcases R2.new b z with y |y
 ·exact h2 (R.old b y)
 ·rw[h3] at y;cases y
theorem yE (hc:X.calm=true) (hp:EK (model X.prog X.w) X.A X.env X.xe) (hi:EvI X H0 O0 ps tg iter xs) (Iv:Nat→PSt→Prop) (h0:Iv 0 ps)
  (hs:∀(H0:Hp) (i:Nat) (x:U) (ps:PSt),xs[i]?=some x→Iv i ps→∃ps',TgS X H0 O0 tg ps x ps'∧Ws X H0 O0 E body {D with nx:=Iv (i+1),ct:=Iv (i+1),bk:=D.nx } ps') (hd:∀ps,Iv xs.length ps→D.nx ps)
  (hf:∀x,BI iter X.env x=pure x:=by intro _;rfl):W1 X H0 O0 E (.For tg iter body [] pos) D ps:=by
 have hg:PG X tg fun v σ H Q=>∃H1 ps u ps',TgS X H1 O0 tg ps u ps'∧∃O,Rs X.K H1 O0 ps σ H O∧Rp X.K (hid H O) v u∧∀σ' H',aF H H'→Rs X.K H1 O0 ps' σ' H' O→Q σ' H':=
  fun pins s σ H v u Q I r ⟨H1,ps,w,ps',t,z⟩=>t pins s σ H v u Q I r z
 have hb:PSs X body fun D' σ H=>∃H1 D1 ps',Ws X H1 O0 E body D1 ps'∧Lf X.K H1 O0 E D1 D'∧∃O,Rs X.K H1 O0 ps' σ H O:=fun pins s σ H D' I ⟨H1,D1,ps',w,z⟩=>w pins s σ H D' I z
 refine PS.mono (tm hp hc hi hg hb hf) fun D' σ H ⟨L,O,R⟩=>⟨O,R,fun J H1 s1 Y=>?_⟩
 have R1:=R.go s1
 have base:=R1.base
 refine ⟨fun i m σ H=>m=xs.length - i∧i≤xs.length∧∃ps O',Iv i ps∧Rs X.K (hid H1 (O.filter fun a=>decide (a ∉ O0))) O0 ps σ H O',⟨_,rfl,Bh _,ps,O,h0,R1.rebase⟩,?_⟩
 rintro i m σ2 H2 ⟨rfl,hi2,ps2,O2,iv,R2⟩
 have seen:=R1.seen R2
 obtain ⟨y1,y2⟩:=Y H2 (seen.trans aH)
 by_cases hlt:i < xs.length
 ·obtain ⟨g1,g2⟩:=y1 i hlt
  refine .inr ⟨g1,fun σ' H'=>∃ps O',Iv (i+1) ps∧Rs X.K (hid H1 (O.filter fun a=>decide (a ∉ O0))) O0 ps σ' H' O',fun σ' H' z=>⟨xs.length - (i+1),by omega,rfl,hlt,z⟩,fun x H3 y=>?_⟩
  obtain ⟨rfl,u,hu,r⟩:=g2 x H3 y
  obtain ⟨ps',t,w⟩:=hs (hid H1 (O.filter fun a=>decide (a ∉ O0))) i u ps2 hu iv
  refine ⟨_,ps2,u,ps',t,O2,R2,r.same seen,fun σ' H' s' R'=>⟨_,_,ps',w,?_,O2,R'⟩⟩
  exact ⟨fun p σ H O R q=>⟨p,O,q,R⟩,fun p σ H O R q=>L.nx _ _ _ _ (R.unbase base) q,fun p σ H O R q=>⟨p,O,q,R⟩,fun o q=>(L.rt o q).later base⟩
 ·have e:i=xs.length:=by omega
  subst e
  exact .inl ⟨y2,L.nx _ _ _ _ (R2.unbase base) (hd ps2 iv)⟩
theorem vQ (hp:EK (model X.prog X.w) X.A X.env X.xe) (Iv:Nat→PSt→Prop) (m:Nat) (h0:Iv m ps)
  (hs:∀m ps,Iv m ps→∃b,Tt X H0 O0 ps c b∧(b=true→Ws X H0 O0 E body {D with nx:=fun p=>∃m',m' < m∧Iv m' p,ct:=fun p=>∃m',m' < m∧Iv m' p,bk:=D.nx } ps)∧(b=false→D.nx ps)):W1 X H0 O0 E (.While c body [] pos) D ps:=by
 have ht:PT X c fun σ H Q=>∃ps b,Tt X H0 O0 ps c b∧∃O,Rs X.K H0 O0 ps σ H O∧∀H',aF H H'→Q b H':=fun pins s σ H Q I ⟨ps,b,t,z⟩=>t pins s σ H Q I z
 have hb:PSs X body fun D' σ H=>∃D1 ps',Ws X H0 O0 E body D1 ps'∧Lf X.K H0 O0 E D1 D'∧∃O,Rs X.K H0 O0 ps' σ H O:=fun pins s σ H D' I ⟨D1,ps',w,z⟩=>w pins s σ H D' I z
 refine PS.mono (tK hp ht hb) fun D' σ H ⟨L,O,R⟩=>⟨fun m σ H=>∃ps O,Iv m ps∧Rs X.K H0 O0 ps σ H O,⟨m,ps,O,h0,R⟩,?_⟩
 rintro m σ2 H2 ⟨ps2,O2,iv,R2⟩
 obtain ⟨b,t,h1,h2⟩:=hs m ps2 iv
 refine ⟨ps2,b,t,O2,R2,fun H3 s3=>?_⟩
 cases b with
 |true=>
  refine qw ⟨fun σ H=>∃m',m' < m∧∃ps O,Iv m' ps∧Rs X.K H0 O0 ps σ H O,fun σ' H' z=>z,_,ps2,h1 rfl,?_,O2,R2.go s3⟩
  exact ⟨fun p σ H O R ⟨m',l,q⟩=>⟨m',l,p,O,q,R⟩,fun p σ H O R q=>L.nx _ _ _ _ R q,fun p σ H O R ⟨m',l,q⟩=>⟨m',l,p,O,q,R⟩,L.rt⟩
 |false=>exact qI (L.nx _ _ _ _ (R2.go s3) (h2 rfl))
def fF:List Nat→PSt→PSt
 |[],ps=>ps
 |i::is,ps=>fF is (ps.set i none)
theorem Rs.mask {K:Ao}{H:Hp}{O:List Addr}:∀{is:List Nat}{ps:PSt}{σ:St},Rs K H0 O0 ps σ H O→Rs K H0 O0 (fF is ps) (L2.mask is σ) H O
 |[],ps,σ,R=>R
 |i::is,ps,σ,R=>Rs.mask (is:=is) (R.drop (i:=i) (o:=none))
theorem Rs.hide {K:Ao}{σ:St}{H H':Hp}{O:List Addr}{l:Addr} (R:Rs K H0 O0 ps σ H O) (e:aF H H') (n:H l=none) (d:H' l≠none):Rs K H0 O0 ps σ H' (l::O):=by
 refine ⟨R.same.trans e,fun a ha=>Au _ (R.old a ha),fun a ha=>?_,fun a ha z=>?_,R.len,fun i s h=>?_,R.inj⟩
 ·rcases Ay.mp ha with y |y
  ·subst y;exact .inr (R.same.free n)
  ·exact R.new a y
 ·rcases Ay.mp ha with y |y
  ·subst y;exact d z
  ·exact R.dom a y (e.free z)
 ·obtain ⟨w,h1,h2⟩:=R.at_ i s h
  refine ⟨w,h1,?_⟩
  cases s with
  |val u=>exact Rp.same (bI e n) h2
  |own ys=>
   obtain ⟨b,ws,k1,k2,k3,k4,k5⟩:=h2
   exact ⟨b,ws,k1,Au _ k2,k3,e _ _ k4,k5.same (bI e n)⟩
  |pin z u=>exact ⟨h2.1,Rp.same (bI e n) h2.2⟩
def GOk (g:TG) (K:Ao) (is:List Nat) (f:PSt→U→PSt) (dom:U→Prop):Prop:=
 ∀(H0:Hp) (O0:List Addr) (ps:PSt) (σ:St) (H:Hp) (O:List Addr) (v:V) (u:U) (Q:St→Hp→Prop),dom u→Rs K H0 O0 ps σ H O→Rp K (hid H O) v u→
  (∀σ',Rs K H0 O0 (f ps u) σ' H O→(∀(n:Nat) (w:V),n ∉ is→σ[n]?=some (some w)→σ'[n]?=some (some w))→Q σ' H)→g v σ H Q
theorem dE {K:Ao}{is:List Nat}{i:Nat} (h:i∈is):GOk (oE i) K is (fun ps u=>ps.set i (some (.val u))) fun _=>True:=fun H0 O0 ps σ H O v u Q _ R r q=>
 q _ (R.set r) fun n w hn e=>by rw[Bb (fun z=>hn (by rw[←z];exact h))];exact e
theorem qa {is:List Nat}{g:TG}{f:PSt→U→PSt}{dom:U→Prop}{σ:St}{H1:Hp}{O:List Addr}{Q:VK}{J:It}{te:TE} (hg:GOk g X.K is f dom) (R1:Rs X.K H0 O0 ps σ H1 O) (Y:Yl X.K J (hid H1 O) xs) (hlen:ys.length=xs.length) (hz:xs.length≤sizeLine) (hdom:∀x∈xs,dom x)
  (hte:∀(i:Nat) (x y:U) (σ:St) (H:Hp) (O':List Addr) (Q:VK),xs[i]?=some x→ys[i]?=some y→Rs X.K H0 O0 (f (fF is ps) x) σ H O'→(∀v H',aF H H'→Rp X.K (hid H' O') v y→Q v H')→te σ H Q)
  (fin:∀a vs H',aF H1 H'→H1 a=none→H' a=some (.lst vs)→Rps X.K (hid H' (a::O)) vs ys→Q (.ref a) H'):wu is g te σ Q J H1:=by
 intro l hl
 refine ⟨fun i m H2=>m=xs.length - i∧i≤xs.length∧aF H1 H2∧∃vs,H2 l=some (.lst vs)∧vs.length=i∧Rps X.K (hid H2 (l::O)) vs (ys.take i),⟨_,rfl,Bh _,aU hl _,[],aW,rfl,by rw[GD];exact .nil⟩,?_⟩
 rintro i m H2 ⟨rfl,hi,s2,vs,h2,hv,rs⟩
 have seen:aF (hid H1 O) (hid H2 (l::O)):=bI s2 hl
 obtain ⟨y1,y2⟩:=Y H2 (seen.trans aH)
 by_cases hlt:i < xs.length
 ·obtain ⟨g1,g2⟩:=y1 i hlt
  refine .inr ⟨g1,fun x H3 y=>?_⟩
  obtain ⟨rfl,u,hu,r⟩:=g2 x H3 y
  have R2:=(R1.mask (is:=is)).hide s2 hl (by rw[h2];intro z;cases z)
  refine hg H0 O0 _ _ H3 (l::O) x u _ (hdom u (AW hu)) R2 (r.same seen) fun σ4 R4 keep=>?_
  have hy:ys[i]?=some (ys[i]'(by omega)):=Am _
  refine hte i u _ σ4 H3 (l::O) _ hu hy R4 fun v H5 s5 r5=>⟨fun j w e=>keep j w (ii is σ j w e).2 e,vs,s5 _ _ h2,?_,xs.length - (i+1),by omega,rfl,hlt,(s2.trans s5).put hl _,vs++[v],aW,by simp[hv],?_⟩
  ·rw[hv];omega
  ·rw[kQ AE,DI,hy]
   exact (rs.same (aT s5)).snoc (.cons r5 .nil)
 ·have e:i=xs.length:=by omega
  subst e
  rw[←hlen,Dk] at rs
  exact .inl ⟨y2,fin l vs H2 s2 hl h2 rs⟩
theorem iE {elt:Expr}{scope:Scope}{cl:List (Str×Addr)}{is:List Nat}{g:TG}{f:PSt→U→PSt}{dom:U→Prop} (hc:X.calm=true) (B:dU X scope cl is) (hi:EvI X H0 O0 ps tg iter xs) (hg:∀C s H fp,PG (aS X scope cl C s H fp) tg g) (gk:GOk g X.K is f dom)
  (hlen:ys.length=xs.length) (hz:xs.length≤sizeLine) (hdom:∀x∈xs,dom x) (he:∀C s H fp (i:Nat) (x y:U),xs[i]?=some x→ys[i]?=some y→Ev (aS X scope cl C s H fp) H0 O0 (f (fF is ps) x) elt y)
  (hs:∀x,BI iter X.env x=pure x:=by intro _;rfl):EvN X H0 O0 ps (.ListComp elt [⟨tg,iter,[],0⟩] scope pos) ys:=by
 have hte:∀C s H fp,PE (aS X scope cl C s H fp) elt fun σ H Q=>∃i x y,xs[i]?=some x∧ys[i]?=some y∧∃O',Rs X.K H0 O0 (f (fF is ps) x) σ H O'∧∀v H',aF H H'→Rp X.K (hid H' O') v y→Q v H':=
  fun C s H fp pins s' σ H' Q I ⟨i,x,y,h1,h2,z⟩=>he C s H fp i x y h1 h2 pins s' σ H' Q I z
 refine PE.mono (uZ hc B hi hg hte hs) fun σ H Q ⟨O,R,q⟩=>⟨O,R,fun J H1 s1 Y=>?_⟩
 exact qa gk (R.go s1) Y hlen hz hdom (fun i x y σ H O' Q h1 h2 R' z=>⟨i,x,y,h1,h2,O',R',z⟩) fun a vs H' s n h r=>q a vs H' (s1.trans s) (s1.free n) h r
end
def spU (K:Ao) (spec:List U→Out→Prop):Sp:=fun vs H Q E=>∃us O o,(∀a∈O,H a≠none)∧Rps K (hid H O) vs us∧spec us o∧mW K H O Q E o
section
variable {X:Cx}{H0:Hp}{O0:List Addr}{E:XK}{ps ps':PSt}{D:PD}{s:Stmt}{ss body:List Stmt}{a b c e:Expr}{es:List Expr}{pos p:Pos}{u x y:U}{xs ys us:List U}{k:Bool}
 {CX:CXT}{n:Nat}{f C:Addr}{fd:A6}{pn:List Str}{spec:List U→Out→Prop}{nm:Str}
theorem ar (F:bA X.prog X.w X.K X.mg X.base CX n f fd pn (spU X.K spec)) (hr:dF n X.A) (hg:Gl X nm) (hm:X.mg nm=some (.ref f)) (hk:AG X.K (.ref f)=true) (hb:bp X.K fd pn []) (hx:jx CX X E0)
  (ha:EvA X H0 O0 ps (e::es) us) (h:spec us (.val u)) (hdb:(nm==("__debug__":Str))=false:=by decide) (he:AK (e::es) X.env=(false,eval e X.env)::AK es X.env:=by rfl) (hpl:(Eo pos (AK es X.env)).any (·.1)=false:=by rfl):
  Ev X H0 O0 ps (.Call (.Name nm p) (e::es) [] pos) u:=
 PE.mono (pe F hr hg hm hk hb .nil hx ha hdb he hpl) fun σ H Q ⟨O,R,q⟩=>⟨O,R,fun vs H1 s1 r1=>by
  show spU X.K spec (vs++[]) H1 Q _
  rw[D3]
  exact ⟨us,O,.val u,(R.go s1).dom,r1,h,fun v H2 s2 r2=>q v H2 (s1.trans s2) r2⟩⟩
theorem eZ (F:bA X.prog X.w X.K X.mg X.base CX n f fd pn (spU X.K spec)) (hr:dF n X.A) (hg:Gl X nm) (hm:X.mg nm=some (.ref f)) (hk:AG X.K (.ref f)=true) (hb:bp X.K fd pn []) (hx:jx CX X E0)
  (ha:EvA X H0 O0 ps (e::es) us) (h:spec us (.new xs)) (hdb:(nm==("__debug__":Str))=false:=by decide) (he:AK (e::es) X.env=(false,eval e X.env)::AK es X.env:=by rfl) (hpl:(Eo pos (AK es X.env)).any (·.1)=false:=by rfl):
  EvN X H0 O0 ps (.Call (.Name nm p) (e::es) [] pos) xs:=
 PE.mono (pe F hr hg hm hk hb .nil hx ha hdb he hpl) fun σ H Q ⟨O,R,q⟩=>⟨O,R,fun vs H1 s1 r1=>by
  show spU X.K spec (vs++[]) H1 Q _
  rw[D3]
  exact ⟨us,O,.new xs,(R.go s1).dom,r1,h,fun a vs H2 s2 n2 h2 r2=>q a vs H2 (s1.trans s2) (s1.free n2) h2 r2⟩⟩
end
section
variable {P:AC}{w:World}{K:Ao}{mg:Str→Option Value}{base:Heap}{N pn:List Str}{qual nm:Str}{scope:Scope}{f:Addr}{cd:Value}{A:A4}{outer:List Env}{s:Ar}{H H0:Hp}{O0:List Addr}{E:XK}{D:PD}{ps:PSt}{u:U}
def fg (N:List Str) (us:List U):PSt:=us.map (fun u=>some (.val u))++IH (N.length - us.length) none
theorem bB {st:Stmt}{fd:A6}{k:Nat}{spec:List U→Out→Prop} (F:Fun K nm qual st f fd) (S:aD N pn (ai st)) (len:∀us o,spec us o→us.length=pn.length)
  (hbody:∀(cdv:Value) (A:A4) (outer:List Env) (s:Ar) (H:Hp) (E:XK) (O:List Addr) (us:List U) (o:Out),dF k (A.deeper (GB qual (ai st) s.heap.objs.size f cdv))→spec us o→
   Ws (mI (CXF P w) P w K mg base N qual (ai st) f cdv A outer s H E) H O E (aB st) ⟨fun _=>o=.val .non,fun o'=>o'=o,fun _=>False,fun _=>False⟩ (fg N us)):bA P w K mg base (CXF P w) (k+1) f fd pn (spU K spec):=by
 refine F.okF S (fun vs H Q E h=>?_) fun cdv A outer s H vs Q E hr h=>?_
 ·obtain ⟨us,O,o,_,r,hsp,_⟩:=h
  rw[r.len];exact len us o hsp
 ·obtain ⟨us,O,o,d,r,hsp,q⟩:=h
  refine ⟨_,hbody cdv A outer s H E O us o hr hsp,⟨fun ps σ H' O' R e=>?_,fun _ _ _ _ _ e=>e.elim,fun _ _ _ _ _ e=>e.elim,fun o' e=>by subst e;exact q⟩,O,?_⟩
  ·subst e;exact q .non H' R.same .non
  ·refine ⟨.refl H,fun a h=>h,fun a h=>.inl h,d,?_,fun i sl e=>?_,fun i j xs ys a e1 e2 _ _=>?_⟩
   ·unfold start fg
    rw[Bx,Bx,Aq,Aq,CV,CV,r.len]
   ·unfold fg at e
    by_cases hi:i < us.length
    ·rw[A7 (by simpa using hi),Av,Am hi] at e
     cases e
     obtain ⟨v,h1,h2⟩:=r.get (Am hi)
     refine ⟨v,?_,h2⟩
     unfold start
     rw[A7 (by simpa [r.len] using hi),Av,h1];rfl
    ·rw[A0 (by simpa using hi),CD] at e
     split at e <;>cases e
   ·exfalso
    unfold fg at e1
    by_cases hi:i < us.length
    ·rw[A7 (by simpa using hi),Av,Am hi] at e1
     cases e1
    ·rw[A0 (by simpa using hi),CD] at e1
     split at e1 <;>cases e1
end
section
variable {X:Cx}{H0:Hp}{O0:List Addr}{ps:PSt}{a b c e:Expr}{es rest:List Expr}{pos p p2:Pos}{u x y:U}{xs ys us:List U}{i j:Int}{k m:Bool}{lo hi:Option Expr}{l h:Option Int}
def EvO (X:Cx) (H0:Hp) (O0:List Addr) (ps:PSt) (e:Option Expr) (n:Option Int):Prop:=PO X e fun σ H Q=>∃O,Rs X.K H0 O0 ps σ H O∧∀H',aF H H'→Q n H'
theorem gv:EvO X H0 O0 ps none none:=fun pins s σ H Q I ⟨O,R,q⟩=>vP pins s σ H Q I (q H (.refl H))
theorem gL (he:Ev X H0 O0 ps e (.int i)):EvO X H0 O0 ps (some e) (some i):=fun pins s σ H Q I ⟨O,R,q⟩=>vC he pins s σ H Q I ⟨O,R,fun v H' s r=>by cases r;exact ⟨i,rfl,q H' s⟩⟩
def gD (xs:List U) (lo hi:Option Int):List U:=(xs.drop (HT.sIx xs.length 0 lo)).take (HT.sIx xs.length xs.length hi - HT.sIx xs.length 0 lo)
theorem Rps.drop {K:Ao}{H:Hp}{vs:List V}{xs:List U} (r:Rps K H vs xs) (n:Nat):Rps K H (vs.drop n) (xs.drop n):=⟨by simp[r.len],fun i v x h1 h2=>r.at_ _ v x (by rwa [Dt] at h1) (by rwa [Dt] at h2)⟩
theorem Rps.take {K:Ao}{H:Hp}{vs:List V}{xs:List U} (r:Rps K H vs xs) (n:Nat):Rps K H (vs.take n) (xs.take n):=⟨by simp[r.len],fun i v x h1 h2=>by
 by_cases hn:i < n
 ·rw[C_ hn] at h1 h2
  exact r.at_ i v x h1 h2
 ·rw[List.getElem?_take_eq_none (by omega)] at h1
  cases h1⟩
theorem Rps.cut {K:Ao}{H:Hp}{vs:List V}{xs:List U} (r:Rps K H vs xs):Rps K H (qF vs l h) (gD xs l h):=by
 unfold qF gD
 rw[r.len]
 exact (r.drop _).take _
theorem e7 (he:Ev X H0 O0 ps e x) (hl:EvO X H0 O0 ps lo l) (hh:EvO X H0 O0 ps hi h) (hx:x=.lst xs∨x=.scr xs):EvN X H0 O0 ps (.Subscript e (.Slice lo hi none p2) pos) (gD xs l h):=
 PE.mono (r_ vI he hl hh) fun σ H Q ⟨O,R,q⟩=>⟨O,R,fun v H1 s1 r1=>⟨O,R.go s1,fun H2 s2=>⟨O,R.go (s1.trans s2),fun H3 s3=>by
  have key:∃a vs,v=.ref a∧SqL X.K (hid H1 O) a vs∧Rps X.K (hid H1 O) vs xs:=by
   rcases hx with rfl |rfl
   ·cases r1 with
    |lst hq hl hh=>exact ⟨_,_,rfl,SqL.of hq,hl,hh⟩
   ·cases r1 with
    |scr hq hl hh=>exact ⟨_,_,rfl,hq,hl,hh⟩
  obtain ⟨a,vs,rfl,hq,rs⟩:=key
  have s13:=s2.trans s3
  refine ⟨a,vs,rfl,s13.seq (aH.seq hq),fun p hp=>q p _ _ ((s1.trans s13).trans (aU hp _)) ((s1.trans s13).free hp) aW ?_⟩
  exact (rs.cut.same (aT s13)).same (bI (aU hp _) hp)⟩⟩⟩
theorem mY (ha:Ev X H0 O0 ps a (.lst xs)) (hb:Ev X H0 O0 ps b (.lst ys)) (hz:xs.length+ys.length≤sizeLine):EvN X H0 O0 ps (.BinOp a .Add b pos) (xs++ys):=
 PE.mono (ui wE ha hb) fun σ H Q ⟨O,R,q⟩=>two R (fun _ _ _ z=>z) (fun _ _ _ z=>z) fun v w H' s _ r1 r2=>by
  cases r1 with
  |lst hq hl hh=>
   cases r2 with
   |lst hq' hl' hh'=>
    refine ⟨_,_,_,_,rfl,rfl,aH _ _ hq,aH _ _ hq',by rw[hl,hl'];exact hz,fun p hp=>q p _ _ (s.trans (aU hp _)) (s.free hp) aW ?_⟩
    exact (Rps.snoc ⟨hl,hh⟩ ⟨hl',hh'⟩).same (bI (aU hp _) hp)
def fl:U→V
 | .bl b=>.bl b | .int i=>.int i | .str x=>.str x |_=>.non
def sN:U→Bool
 | .bl _=>true | .int _=>true | .str _=>true | .non=>true |_=>false
theorem we {K:Ao}{H:Hp}{v:V}{u:U} (h:Rp K H v u) (f:sN u=true):v=fl u∧gl v=true:=by
 cases h <;>first |exact ⟨rfl,rfl⟩ |simp[sN] at f
theorem rZ {K:Ao}{H:Hp}:∀{vs:List V}{xs:List U},Rps K H vs xs→xs.all sN=true→vs=xs.map fl∧vs.all gl=true
 |vs,[],r,_=>by rw[r.nil_inv];exact ⟨rfl,rfl⟩
 |vs,x::xs,r,f=>by
  obtain ⟨v,ws,rfl,h1,h2⟩:=r.cons_inv
  simp only[EG,BR] at f
  obtain ⟨e1,e2⟩:=we h1 f.1
  obtain ⟨e3,e4⟩:=rZ h2 f.2
  refine ⟨by rw[BE,←e1,←e3],?_⟩
  simp only[EG,BR]
  exact ⟨e2,e4⟩
theorem Ac (hx:sN x=true) (hy:y.items=some ys) (hf:ys.all sN=true):OpS X (BZ .In) x y (.bl (inV (fl x) (ys.map fl))):=by
 intro pins s σ H v w p q Q I r1 r2 h
 obtain ⟨k1,k2,k3⟩:=h
 obtain ⟨a,vs,rfl,h1,h2⟩:=kZ k2 hy
 obtain ⟨e1,e2⟩:=we k1 hx
 obtain ⟨e3,e4⟩:=rZ h2 hf
 exact qO pins s σ H v _ p q Q I r1 r2 ⟨a,vs,rfl,h1,e2,e4,by rw[e1,e3];exact k3⟩
theorem yU {bs:List Bool} (hc:X.calm=true):mS X (.builtin "all") [.lst (bs.map U.bl)] (.bl (bs.all id)):=by
 intro pins s σ H vs us Q I r hq
 obtain ⟨O,d,rs,q⟩:=hq
 obtain ⟨v,rfl,h1⟩:=fK rs
 obtain ⟨p1,rfl,r1⟩:=ig r
 cases h1 with
 | @lst a ws _ hq hl hh=>
  cases r1
  obtain ⟨its,rv,pl,_⟩:=I.list (SqL.of (aH _ _ hq))
  have hlen:its.length=bs.length:=by rw[←rv.length,hl,Aq]
  have hat:∀(i:Nat) (z:Value),its.toArray[i]?=some z→z=.bool (bs.getD i false):=fun i z e=>by
   have hi:i < its.length:=by have:=aP (show its[i]?=some z by simpa using e);exact this
   have hb:i < bs.length:=by omega
   have hw:i < ws.length:=by rw[rv.length];exact hi
   obtain ⟨u,e1,e2⟩:=rv.get (Am hw)
   have e3:=hh i ws[i] (.bl bs[i]) (Am hw) (by rw[Av,Am hb];rfl)
   have e4:its[i]?=some z:=by simpa using e
   rw[e4] at e1
   cases e1
   generalize ws[i]=wi at *
   cases e3
   rw[Ax,Am hb]
   exact e2
  refine call_all_walk (Cj pl.isList ?_)
  have hne:a≠s.heap.objs.size:=by obtain ⟨o,e,_⟩:=pl.isList;exact AZ (AB e)
  refine ⟨s.heap.objs.size,_,_,_,_,_,fun i=>bs.getD i false,rfl,Walks.list (A:=X.A.in1) (I.ok.hd hc) s.heap.objs.size a hne its.toArray,⟨⟨_,AD _ rfl,rfl,rfl⟩,pl.isList.push _⟩,fun i z s' Q' E' hP hQ=>?_,fun h' tk hk=>?_⟩
  ·rw[hat i z hP];exact CJ hQ
  ·have e:(Bj its.toArray.size).all (fun i=>bs.getD i false)=bs.all id:=by
    rw[AN,hlen,CM,j8,FI]
    constructor
    ·intro h x hx
     obtain ⟨i,hi,rfl⟩:=List.getElem_of_mem hx
     have:=h i hi
     rwa [Ax,Am hi] at this
    ·intro h j hj
     rw[Ax,Am hj]
     exact h _ (FJ hj)
   rw[e]
   refine ⟨.bl _,H,I.kept (t':=tk) fun b o e=>hk b o ?_ (Ap _ e),rfl,q _ H (.refl H) (.bl _)⟩
   intro z
   have:b=s.heap.objs.size:=by simpa using z
   exact absurd (AB e) (by rw[this];exact Bv _)
end
def qJ (J:It) (is:List Nat) (g:TG) (tt:TT) (te:TE) (σ:St) (H1:Hp) (l:Addr) (Q:VK):Prop:=
 ∃W:Nat→Nat→Hp→Prop,(∃m,W 0 m (upd H1 l (.lst [])))∧∀i m H2,W i m H2→
  (J.stop i H2∧Q (.ref l) H2)∨(J.go i H2∧∀x H3,J.yld i H2 x H3→g x (mask is σ) H3 fun σ4 H4=>tt σ4 H4 fun b H5=>
   (∀(j:Nat) (v:V),(mask is σ)[j]?=some (some v)→σ4[j]?=some (some v))∧
   if b=true then te σ4 H5 fun y H6=>∃vs,H6 l=some (.lst vs)∧vs.length < sizeLine∧∃m',m' < m∧W (i+1) m' (upd H6 l (.lst (vs++[y]))) else ∃m',m' < m∧W (i+1) m' H5)
def sW (is:List Nat) (g:TG) (tt:TT) (te:TE) (σ:St) (Q:VK) (J:It) (H1:Hp):Prop:=∀l,H1 l=none→qJ J is g tt te σ H1 l Q
def rf (is:List Nat) (wi:TI) (g:TG) (tt:TT) (te:TE):TE:=fun σ H Q=>wi σ H (sW is g tt te σ Q)
section
variable {X:Cx}{pins:List (Addr×Obj)}{σ:St}{H:Hp}{s:Ar}
theorem p6 {elt iter tg:Expr}{scope:Scope}{cl:List (Str×Addr)}{pos pos0:Pos}{is:List Nat}{wi:TI}{g:TG}{tt:TT}{te:TE}{cond:Expr}{use:Option (Value→Sem Unit)}{Q0:VK}{Q:Value→Ar→Prop} (hc:X.calm=true) (B:dU X scope cl is)
  (hi:PI X tg iter wi) (hg:∀C s H fp,PG (aS X scope cl C s H fp) tg g) (ht:∀C s H fp,PT (aS X scope cl C s H fp) cond tt) (he:∀C s H fp,PE (aS X scope cl C s H fp) elt te) (hs:∀x,BI iter X.env x=pure x)
  (I:Inv X pins σ H s) (h:rf is wi g tt te σ H Q0)
  (fin:∀(l C:Addr) (H':Hp) (s':Ar) (m:Str→Option Value),Inv X pins σ H' s'→s'.heap.Ns C m→H' C=none→C≠X.env.locals→C ∉ X.fs→X.s₀.heap.objs.size≤C→(∀x c,X.env.cells.lookup x=some c→c≠C)→(∀p∈X.pn++pins,p.1≠C)→Q0 (.ref l) H'→
   Jn (model X.prog X.w) X.A X.xe use Q (.ref l) C (.ok .next) s'):
  wpAny (model X.prog X.w) X.A (comprehension (.ListComp elt [⟨tg,iter,[cond],0⟩] scope pos) scope X.env pos0 (newList []) false (eval iter X.env) use) Q X.xe s:=by
 refine Fn rfl hs B.clos B.kind B.names (thn (hi pins s σ H _ I h) fun xv s1 h1=>thn h1 fun itv s2 h2=>?_)
 obtain ⟨it,fp,tn,J,H2,e,I2,T,st2,f2,R⟩:=h2
 subst e
 refine C8 (EC B.cell (by intro y hy;simp at hy) (fun h₁ hns hsb=>?_) B.kind)
 have hl:H2 s2.heap.objs.size=none:=I2.hok.fresh (Aw _)
 obtain ⟨W,⟨m0,w0⟩,turn⟩:=R s2.heap.objs.size hl
 have I3:Inv X pins σ (upd H2 s2.heap.objs.size (.lst [])) {s2 with heap:=s2.heap.push {cls:=.type "list",dict:=none,data:=.seq ([]:List Value).toArray } }:=
  I2.laid (t':=s2.toks) (o:=.lst []) (fun b u e=>Ap _ e) (Aw _) ⟨Bh _,[],0,.nil,AD _ rfl⟩
 have hfl:∀b∈fp,b < s2.heap.objs.size:=fun b hb=>let ⟨o,e,_⟩:=T.obj 0 _ st2 b hb;AB e
 have f3:∀b∈fp,dW X pins (upd H2 s2.heap.objs.size (.lst [])) b:=fun b hb=>⟨by rw[aK (AZ (hfl b hb))];exact (f2 b hb).1,(f2 b hb).2⟩
 have kp:∀b o,(s2.heap.push {cls:=.type "list",dict:=none,data:=.seq ([]:List Value).toArray }).get? b=some o→h₁.get? b=some o:=fun b o e=>
  hsb.extBut b o (AZ (AB e)) (Ap _ e)
 have st4:tn 0 h₁:=T.keep 0 _ _ st2 fun b _ o e=>kp b o (Ap _ e)
 have hfl3:∀b∈fp,b < (s2.heap.push {cls:=.type "list",dict:=none,data:=.seq ([]:List Value).toArray }).objs.size:=fun b hb=>by
  rw[BC];exact Ck (hfl b hb)
 have I4:=iL (t':=s2.toks+([]:List (Str×Value)).length) I3 B f3 hfl3 hns kp
 have loop:EN (model X.prog X.w) X.A (.compLoop (.ListComp elt [⟨tg,iter,[cond],0⟩] scope pos) 0 (.ref it) (.ref s2.heap.objs.size) (Gs scope cl (s2.heap.push {cls:=.type "list",dict:=none,data:=.seq ([]:List Value).toArray }).objs.size X.env))
   (Jn (model X.prog X.w) X.A X.xe use Q (.ref s2.heap.objs.size) (s2.heap.push {cls:=.type "list",dict:=none,data:=.seq ([]:List Value).toArray }).objs.size)
   {s2 with heap:=h₁,toks:=s2.toks+([]:List (Str×Value)).length }:=by
  generalize hs3:({s2 with heap:=s2.heap.push {cls:=.type "list",dict:=none,data:=.seq ([]:List Value).toArray } }:Ar)=s3 at *
  have hC:(s2.heap.push {cls:=.type "list",dict:=none,data:=.seq ([]:List Value).toArray }).objs.size=s3.heap.objs.size:=by rw[←hs3]
  rw[hC]
  have hstat:∀{H':Hp},(∀b∈fp,H' b=none)→∀b∈fp,dW (aS X scope cl s3.heap.objs.size s3 (upd H2 s2.heap.objs.size (.lst [])) fp) [] H' b:=fun hn b hb=>
   ⟨hn b hb,(I4.ok.exf b hb).1,I4.ok.exfs b hb,.inl hb,fun x c e=>(I4.ok.exf b hb).2 x c e,fun p hp=>absurd (show p∈([]:List (Addr×Obj)) from hp) (by simp)⟩
  have back:∀{σ':St}{H':Hp}{pp:List (Addr×Obj)}{s':Ar},Inv (aS X scope cl s3.heap.objs.size s3 (upd H2 s2.heap.objs.size (.lst [])) fp) pp σ' H' s'→Inv X pins σ H' s':=fun I'=>
   I3.call' (ch:=fp) I'.os I'.base I'.hok I'.bare fun b hb=>⟨(f3 b hb).2.2.2.1,(f3 b hb).2.1,(f3 b hb).2.2.2.2.1,(f3 b hb).2.2.2.2.2⟩
  refine codeAny_loop rfl (fun n s'=>∃i H',Inv (aS X scope cl s3.heap.objs.size s3 (upd H2 s2.heap.objs.size (.lst [])) fp) [] (mask is σ) H' s'∧tn i s'.heap∧(∀b∈fp,H' b=none)∧W i n H') ?_ m0 ⟨0,_,(by subst hs3;exact I4),st4,fun b hb=>(f3 b hb).1,w0⟩
  rintro n s5 ⟨i,H5,I5,st5,fr5,w5⟩
  show wpAny _ _ ((compTurn (.ListComp elt [⟨tg,iter,[cond],0⟩] scope pos) 0 (.ref it) (.ref s2.heap.objs.size) (Gs scope cl s3.heap.objs.size X.env)).onRaise (fun x=>do noteFrame x (Gs scope cl s3.heap.objs.size X.env);HS x)) _ _ s5
  refine wpAny_noted ?_
  rw[compTurn_list]
  refine An (Fx (An ?_))
  rcases turn i n H5 w5 with ⟨stop,q⟩ |⟨go,step⟩
  ·refine thn (T.done (aS X scope cl s3.heap.objs.size s3 (upd H2 s2.heap.objs.size (.lst [])) fp) rfl rfl rfl hc i [] s5 _ H5 _ I5 (hstat fr5) st5 stop) fun r s6 ⟨hr,I6⟩=>?_
   subst hr
   refine As ?_
   obtain ⟨m6,hn6,_⟩:=I6.loc
   have hCn:∀b,b < s3.heap.objs.size→b≠s3.heap.objs.size:=fun b hb=>AZ hb
   refine fin _ s3.heap.objs.size H5 s6 m6 (back I6) hn6 I6.free (Cs I3.lt) (I3.nofs (Aw _)) I3.sz (fun x c e=>?_) (fun p hp=>?_) q
   ·obtain ⟨v,z⟩:=I3.cell x c e
    exact AZ z.lt
   ·exact AZ (AB (I3.pin p hp).1)
  ·refine thn (T.item (aS X scope cl s3.heap.objs.size s3 (upd H2 s2.heap.objs.size (.lst [])) fp) rfl rfl rfl hc i [] s5 _ H5 _ I5 (hstat fr5) st5 go) fun r s6 ⟨u,hr,h6⟩=>?_
   subst hr
   refine An (thn h6 fun _ s7 ⟨x,H7,I7,r7,y7,st7,fr7⟩=>?_)
   have I7':=I7.pinned (hstat fr7) (T.obj _ _ st7)
   refine An (Cv (hg _ _ _ _ _ s7 (mask is σ) H7 x u _ I7' r7 (step x H7 y7)) (fun _ s8 ⟨σ8,H8,I8,q8⟩=>?_) fun _ _ z=>z.elim)
   refine An (wpAny_tests_one (Cv (ht _ _ _ _ _ s8 σ8 H8 _ I8 q8) (fun bb s9 ⟨H9,I9,sub,q9⟩=>?_) fun _ _ z=>z.elim))
   have fpn:∀{H':Hp}{s':Ar}{σ':St},Inv (aS X scope cl s3.heap.objs.size s3 (upd H2 s2.heap.objs.size (.lst [])) fp) ([]++jj fp s7.heap) σ' H' s'→tn (i+1) s'.heap∧∀b∈fp,H' b=none:=fun {H' s' σ'} J=>⟨T.keep _ _ _ st7 fun b hb o e=>(J.pin (b,o) (AI _ (AI _ (bL hb e)))).1,fun b hb=>by
    obtain ⟨o,e,d⟩:=T.obj _ _ st7 b hb
    exact (J.pin (b,o) (AI _ (AI _ (bL hb e)))).2.1⟩
   cases bb with
   |true=>
    rw[if_pos rfl] at q9
    simp only[if_true]
    refine An (An (Cv (he _ _ _ _ _ s9 σ8 H9 _ I9 q9) (fun v s10 ⟨y,H10,I10,r10,vs,hl10,hz,m',hm,w'⟩=>?_) fun _ _ z=>z.elim))
    refine An (Cv (iu (X:=aS X scope cl s3.heap.objs.size s3 (upd H2 s2.heap.objs.size (.lst [])) fp) _ s10 σ8 H10 (.ref s2.heap.objs.size) [y] (.ref s2.heap.objs.size) [v] (fun _ H'=>H'=upd H10 s2.heap.objs.size (.lst (vs++[y]))) I10 rfl (.cons r10 .nil) ⟨_,vs,y,rfl,rfl,hl10,hz,rfl⟩) (fun z s11 ⟨zv,H11,I11,_,e11⟩=>?_) fun _ _ z=>z.elim)
    subst e11
    obtain ⟨k1,k2⟩:=fpn I11
    exact As (As ⟨rfl,m',hm,i+1,_,(I11.unpinned (pins:=[])).weak (by rw[I11.len,eS,I.len]) sub,k1,k2,w'⟩)
   |false=>
    rw[if_neg (by decide)] at q9
    simp only[AQ,if_false]
    obtain ⟨m',hm,w'⟩:=q9
    obtain ⟨k1,k2⟩:=fpn I9
    first
     |exact As ⟨rfl,m',hm,i+1,_,(I9.unpinned (pins:=[])).weak (by rw[I9.len,eS,I.len]) sub,k1,k2,w'⟩
     |exact An (As (As ⟨rfl,m',hm,i+1,_,(I9.unpinned (pins:=[])).weak (by rw[I9.len,eS,I.len]) sub,k1,k2,w'⟩))
 exact FS loop (T.self X.A 0 _ _ _ st4 loop)
theorem tP {elt iter tg:Expr}{scope:Scope}{cl:List (Str×Addr)}{pos:Pos}{is:List Nat}{wi:TI}{g:TG}{tt:TT}{te:TE}{cond:Expr} (hc:X.calm=true) (B:dU X scope cl is)
  (hi:PI X tg iter wi) (hg:∀C s H fp,PG (aS X scope cl C s H fp) tg g) (ht:∀C s H fp,PT (aS X scope cl C s H fp) cond tt) (he:∀C s H fp,PE (aS X scope cl C s H fp) elt te) (hs:∀x,BI iter X.env x=pure x:=by intro _;rfl):
  PE X (.ListComp elt [⟨tg,iter,[cond],0⟩] scope pos) (rf is wi g tt te):=by
 intro pins s σ H Q I h
 rw[eval_ListComp]
 refine p6 (use:=none) hc B hi hg ht he hs I h fun l C H' s' m I' hn h1 h2 h3 h4 h5 h6 q=>⟨m,hn,fun h' hsb=>?_⟩
 exact ⟨.ref l,H',I'.turned (t':=s'.toks) (fun b o hb e=>hsb.extBut b o hb e) h1 (Ne.symm h2.symm) (.inr h4) h5 h6,rfl,q⟩
end
section
variable {X:Cx}{H0:Hp}{O0:List Addr}{E:XK}{ps ps':PSt}{D:PD}{tg iter cond:Expr}{pos p:Pos}{xs:List U}{fs:List (Option U)}
theorem nj {is:List Nat}{g:TG}{f:PSt→U→PSt}{dom:U→Prop}{σ:St}{H1:Hp}{O:List Addr}{Q:VK}{J:It}{tt:TT}{te:TE} (hg:GOk g X.K is f dom) (R1:Rs X.K H0 O0 ps σ H1 O) (Y:Yl X.K J (hid H1 O) xs) (hlen:fs.length=xs.length) (hz:xs.length≤sizeLine) (hdom:∀x∈xs,dom x)
  (htt:∀(i:Nat) (x:U) (o:Option U) (σ:St) (H:Hp) (O':List Addr) (Q:Bool→Hp→Prop),xs[i]?=some x→fs[i]?=some o→Rs X.K H0 O0 (f (fF is ps) x) σ H O'→(∀H',aF H H'→Q o.isSome H')→tt σ H Q)
  (hte:∀(i:Nat) (x y:U) (σ:St) (H:Hp) (O':List Addr) (Q:VK),xs[i]?=some x→fs[i]?=some (some y)→Rs X.K H0 O0 (f (fF is ps) x) σ H O'→(∀v H',aF H H'→Rp X.K (hid H' O') v y→Q v H')→te σ H Q)
  (fin:∀a vs H',aF H1 H'→H1 a=none→H' a=some (.lst vs)→Rps X.K (hid H' (a::O)) vs (fs.filterMap id)→Q (.ref a) H'):sW is g tt te σ Q J H1:=by
 intro l hl
 refine ⟨fun i m H2=>m=xs.length - i∧i≤xs.length∧aF H1 H2∧∃vs,H2 l=some (.lst vs)∧vs.length≤i∧Rps X.K (hid H2 (l::O)) vs ((fs.take i).filterMap id),⟨_,rfl,Bh _,aU hl _,[],aW,Aw _,by rw[GD];exact .nil⟩,?_⟩
 rintro i m H2 ⟨rfl,hi,s2,vs,h2,hv,rs⟩
 have seen:aF (hid H1 O) (hid H2 (l::O)):=bI s2 hl
 obtain ⟨y1,y2⟩:=Y H2 (seen.trans aH)
 by_cases hlt:i < xs.length
 ·obtain ⟨g1,g2⟩:=y1 i hlt
  refine .inr ⟨g1,fun x H3 y=>?_⟩
  obtain ⟨rfl,u,hu,r⟩:=g2 x H3 y
  have R2:=(R1.mask (is:=is)).hide s2 hl (by rw[h2];intro z;cases z)
  refine hg H0 O0 _ _ H3 (l::O) x u _ (hdom u (AW hu)) R2 (r.same seen) fun σ4 R4 keep=>?_
  obtain ⟨o,ho⟩:∃o,fs[i]?=some o:=⟨_,Am (by omega)⟩
  refine htt i u o σ4 H3 (l::O) _ hu ho R4 fun H5 s5=>⟨fun j w e=>keep j w (ii is σ j w e).2 e,?_⟩
  cases o with
  |none=>
   refine qI ⟨xs.length - (i+1),by omega,rfl,hlt,s2.trans s5,vs,s5 _ _ h2,by omega,?_⟩
   rw[DI,ho,GX,Gc]
   simpa using rs.same (aT s5)
  |some yv=>
   refine qw (hte i u yv σ4 H5 (l::O) _ hu ho (R4.go s5) fun v H6 s6 r6=>⟨vs,s6 _ _ (s5 _ _ h2),?_,xs.length - (i+1),by omega,rfl,hlt,((s2.trans s5).trans s6).put hl _,vs++[v],aW,by simp;omega,?_⟩)
   ·omega
   ·rw[kQ AE,DI,ho,GX,Gc]
    exact ((rs.same (aT s5)).same (aT s6)).snoc (.cons r6 .nil)
 ·have e:i=xs.length:=by omega
  subst e
  rw[←hlen,Dk] at rs
  exact .inl ⟨y2,fin l vs H2 s2 hl h2 rs⟩
theorem vw {elt:Expr}{scope:Scope}{cl:List (Str×Addr)}{is:List Nat}{g:TG}{f:PSt→U→PSt}{dom:U→Prop} (fs:List (Option U)) (hc:X.calm=true) (B:dU X scope cl is) (hi:EvI X H0 O0 ps tg iter xs) (hg:∀C s H fp,PG (aS X scope cl C s H fp) tg g) (gk:GOk g X.K is f dom)
  (hlen:fs.length=xs.length) (hz:xs.length≤sizeLine) (hdom:∀x∈xs,dom x) (ht:∀C s H fp (i:Nat) (x:U) (o:Option U),xs[i]?=some x→fs[i]?=some o→Tt (aS X scope cl C s H fp) H0 O0 (f (fF is ps) x) cond o.isSome)
  (he:∀C s H fp (i:Nat) (x y:U),xs[i]?=some x→fs[i]?=some (some y)→Ev (aS X scope cl C s H fp) H0 O0 (f (fF is ps) x) elt y)
  (hs:∀x,BI iter X.env x=pure x:=by intro _;rfl):EvN X H0 O0 ps (.ListComp elt [⟨tg,iter,[cond],0⟩] scope pos) (fs.filterMap id):=by
 have hte:∀C s H fp,PE (aS X scope cl C s H fp) elt fun σ H Q=>∃i x y,xs[i]?=some x∧fs[i]?=some (some y)∧∃O',Rs X.K H0 O0 (f (fF is ps) x) σ H O'∧∀v H',aF H H'→Rp X.K (hid H' O') v y→Q v H':=
  fun C s H fp pins s' σ H' Q I ⟨i,x,y,h1,h2,z⟩=>he C s H fp i x y h1 h2 pins s' σ H' Q I z
 have htt:∀C s H fp,PT (aS X scope cl C s H fp) cond fun σ H Q=>∃(i:Nat) (x:U) (o:Option U),xs[i]?=some x∧fs[i]?=some o∧∃O',Rs X.K H0 O0 (f (fF is ps) x) σ H O'∧∀H',aF H H'→Q o.isSome H':=
  fun C s H fp pins s' σ H' Q I ⟨i,x,o,h1,h2,z⟩=>ht C s H fp i x o h1 h2 pins s' σ H' Q I z
 refine PE.mono (tP hc B hi hg htt hte hs) fun σ H Q ⟨O,R,q⟩=>⟨O,R,fun J H1 s1 Y=>?_⟩
 exact nj gk (R.go s1) Y hlen hz hdom (fun i x o σ H O' Q h1 h2 R' z=>⟨i,x,o,h1,h2,O',R',z⟩) (fun i x y σ H O' Q h1 h2 R' z=>⟨i,x,y,h1,h2,O',R',z⟩) fun a vs H' s n h r=>q a vs H' (s1.trans s) (s1.free n) h r
end
inductive wJ:List (Option Expr)→List Expr→Prop where
 |nil:wJ [] []
 |cons {k v:Int}{a b:Nat}{p q:Pos}{ks:List (Option Expr)}{vs:List Expr} (h:wJ ks vs):wJ (some (.Constant (.int k) a p)::ks) (.Constant (.int v) b q::vs)
section
variable {X:Cx}{H0:Hp}{O0:List Addr}{ps:PSt}{pos:Pos}{keys:List (Option Expr)}{values:List Expr}{k m:Bool}
end
theorem Ws.nox {X:Cx}{H0:Hp}{O0:List Addr}{E:XK}{ss:List Stmt}{D:PD}{ps:PSt} (h:Ws X.nox H0 O0 E ss D ps):Ws X H0 O0 E ss D ps:=PSs.nox h
theorem bA.calm {P:AC}{w:World}{K:Ao}{mg:Str→Option Value}{base:Heap}{k:Nat}{f:Addr}{fd:A6}{ps:List Str}{sp:Sp} (F:bA P w K mg base (CXF P w) k f fd ps sp) (h:∀vs H Q E,sp vs H Q E→sp vs H Q E0):bA P w K mg base CX0 k f fd ps sp:=by
 refine ⟨F.len,fun A outer s H args us vs Q E hr he hb hv hs=>Er (F.run A outer s H args us vs Q E0 hr he hb hv (h _ _ _ _ hs)) fun r s' q=>?_⟩
 cases r with
 |ok fl=>
  cases fl with
  |ret u=>exact q
  |next=>exact q
  |brk=>exact q
  |cont=>exact q
 |error e=>
  obtain ⟨_,_,_,_,_,_,_,_,_,_,_,_,_,_,_,hE⟩:=q
  exact hE.elim
def gW:List U→Out→Prop:=fun us o=>∃ns:List Int,us=[.scr (ns.map U.int)]∧ns.length≤63∧(∀m∈ns,Sz 1048576 m)∧o=.val (.bl true)
theorem sV {K:Ao} (vs:List V) (H:Hp) (Q:VK) (E:XK) (h:spU K gW vs H Q E):spU K gW vs H Q E0:=by
 obtain ⟨us,O,o,d,r,⟨ns,h1,h2,h3,rfl⟩,q⟩:=h
 exact ⟨us,O,_,d,r,⟨ns,h1,h2,h3,rfl⟩,q⟩
theorem qk {K:Ao}{H:Hp}{a:Addr}{ns:List Int}{E:XK} (h1:ns.length≤63) (h2:∀m∈ns,Sz 1048576 m) (h3:SqL K H a (ns.map V.int)):spU K gW [.ref a] H (fun v _=>v=.bl true) E:=by
 refine ⟨[.scr (ns.map U.int)],[],.val (.bl true),fun a ha=>(nomatch ha),.cons ?_ .nil,⟨ns,rfl,h1,h2,rfl⟩,fun v H' s r=>by cases r;rfl⟩
 have e:hid H []=H:=by funext b;unfold hid;rw[if_neg (by simp)]
 rw[e]
 refine .scr h3 (by simp) fun i v x e1 e2=>?_
 rw[Av] at e1 e2
 cases q:ns[i]? with
 |none=>rw[q] at e1;cases e1
 |some n=>rw[q] at e1 e2;cases e1;cases e2;exact .int n
theorem nY {k:Nat}{A:A4} (hr:dF k A):A.units+10 < cLine:=by have:=hr.un;omega
theorem mG {ns:List Int}{k:Int} (h0:0≤k) (h:k < (ns.length:Int)):atI (ns.map U.int) k=some (.int (ns.getD k.toNat 0)):=by
 have hk:k.toNat < ns.length:=by omega
 have q:atI (ns.map U.int) ((k.toNat:Nat):Int)=some (.int (ns.getD k.toNat 0)):=o6 (by rw[Av,Ax,Am hk] <;>rfl)
 rwa [show ((k.toNat:Nat):Int)=k by omega] at q
abbrev pt (x y:Int):U:=.tup [.int x,.int y]
theorem dTb {p:Prop} [Decidable p] (h:decide p=true):p:=of_decide_eq_true h
theorem dFb {p:Prop} [Decidable p] (h:decide p=false):¬ p:=of_decide_eq_false h
theorem nTb {p:Prop} [Decidable p] (h:(!decide p)=true):¬ p:=by simpa using h
theorem nFb {p:Prop} [Decidable p] (h:(!decide p)=false):p:=by simpa using h
theorem vB {a b:Bool} (h:a=b):Out.val (.bl a)=Out.val (.bl b):=by rw[h]
theorem vIO {a b:Int} (h:a=b):Out.val (.int a)=Out.val (.int b):=by rw[h]
mutual
theorem rM:∀(n:Nat) (u:U),okU n u=true→eqW u u=true
 |_,.non,_=>rfl
 |_,.bl b,_=>by simp[eqW]
 |_,.int b,_=>by simp[eqW]
 |_,.str b,_=>by simp[eqW]
 |_,.ty _,h=>by simp[okU] at h
 |_,.dic,h=>by simp[okU] at h
 |0,.tup _,h=>by simp[okU] at h
 |0,.lst _,h=>by simp[okU] at h
 |0,.scr _,h=>by simp[okU] at h
 |n+1,.tup xs,h=>by rw[eqW];rw[okU] at h;exact eqWs_refl n xs h
 |n+1,.lst xs,h=>by rw[eqW];rw[okU] at h;exact eqWs_refl n xs h
 |n+1,.scr xs,h=>by rw[eqW];rw[okU] at h;exact eqWs_refl n xs h
theorem eqWs_refl:∀(n:Nat) (xs:List U),okUs n xs=true→eqWs xs xs=true
 |_,[],_=>rfl
 |n,x::xs,h=>by
  simp only[okUs,BR] at h
  simp only[eqWs,BR]
  exact ⟨rM n x h.1,eqWs_refl n xs h.2⟩
end
theorem sk {α:Type}{n:Nat}{f:α→U}{l:List α} (h:∀a∈l,okU n (f a)=true):okUs n (l.map f)=true:=by
 induction l with
 |nil=>rfl
 |cons a l ih=>
  rw[BE,okUs,BR]
  exact ⟨h a AE,ih fun b hb=>h b (Au _ hb)⟩
theorem rG {α:Type}{n:Nat}{f:α→U}{l:List α} (h:∀a,okU n (f a)=true):okU (n+1) (.lst (l.map f))=true:=by rw[okU];exact sk fun a _=>h a
theorem lC {α:Type}{f:α→U}{p:α→α→Prop} [DecidableEq α] (hf:∀a b,eqW (f a) (f b)=decide (a=b)):∀(l m:List α),eqWs (l.map f) (m.map f)=decide (l=m)
 |[],[]=>rfl
 |[],_::_=>rfl
 |_::_,[]=>rfl
 |a::l,b::m=>by
  rw[BE,BE,eqWs,hf,lC (p:=p) hf l m,CM]
  simp
section
variable {X:Cx}{H0:Hp}{O0:List Addr}{E:XK}{ps:PSt}{D:PD}{a b c e:Expr}{rest:List Expr}{pos:Pos}{k:Bool}
theorem eA {tb fb:List Stmt} (hc:Tt X H0 O0 ps c k) (hk:k=true) (h:Ws X H0 O0 E tb D ps):W1 X H0 O0 E (.If c tb fb pos) D ps:=nw hc (fun _=>h) (fun e=>by rw[hk] at e;cases e)
theorem cC {tb fb:List Stmt} (hc:Tt X H0 O0 ps c k) (hk:k=false) (h:Ws X H0 O0 E fb D ps):W1 X H0 O0 E (.If c tb fb pos) D ps:=nw hc (fun e=>by rw[hk] at e;cases e) (fun _=>h)
theorem jg (ha:Tt X H0 O0 ps a k) (hk:k=false):Tw X H0 O0 ps (.BoolOp .And (a::b::rest) pos) false:=by
 subst hk
 exact mV (m:=true) ha fun h=>by cases h
end
section
variable {X:Cx}{H0:Hp}{O0:List Addr}{E:XK}{ps:PSt}{D:PD}{body:List Stmt}{tg iter c:Expr}{pos:Pos}{xs:List U}{α:Type}
theorem TgS.sub {p p':PSt}{u:U}{ps':PSt} (h:TgS X H0 O0 tg p u ps') (hs:SubP p p'):TgS X H0 O0 tg p' u ps':=PG.mono h fun v σ H Q ⟨O,R,r,q⟩=>⟨O,R.sub hs,r,q⟩
theorem Tt.sub {p p':PSt}{e:Expr}{k:Bool} (h:Tt X H0 O0 p e k) (hs:SubP p p'):Tt X H0 O0 p' e k:=PT.mono h fun σ H Q ⟨O,R,q⟩=>⟨O,R.sub hs,q⟩
theorem gF (st:α→PSt) (Q:Nat→α→Prop) (hc:X.calm=true) (hp:EK (model X.prog X.w) X.A X.env X.xe) (hi:EvI X H0 O0 ps tg iter xs) (h0:∃a,Q 0 a∧SubP (st a) ps)
  (hs:∀(H0:Hp) (i:Nat) (x:U) (a:α),xs[i]?=some x→Q i a→∃ps',TgS X H0 O0 tg (st a) x ps'∧Ws X H0 O0 E body {D with nx:=fun p=>∃b,Q (i+1) b∧SubP (st b) p,ct:=fun p=>∃b,Q (i+1) b∧SubP (st b) p,bk:=D.nx } ps')
  (hd:∀a ps,Q xs.length a→SubP (st a) ps→D.nx ps) (hf:∀x,BI iter X.env x=pure x:=by intro _;rfl):W1 X H0 O0 E (.For tg iter body [] pos) D ps:=
 yE hc hp hi (fun i ps=>∃a,Q i a∧SubP (st a) ps) h0 (fun H0 i x ps hx ⟨a,q,sb⟩=>by
  obtain ⟨ps',t,w⟩:=hs H0 i x a hx q
  exact ⟨ps',t.sub sb,w⟩) (fun ps ⟨a,q,sb⟩=>hd a ps q sb) hf
theorem hU (st:α→PSt) (Q:Nat→α→Prop) (hp:EK (model X.prog X.w) X.A X.env X.xe) (h0:∃m a,Q m a∧SubP (st a) ps)
  (hs:∀m a,Q m a→∃b,Tt X H0 O0 (st a) c b∧(b=true→Ws X H0 O0 E body {D with nx:=fun p=>∃m' a',m' < m∧Q m' a'∧SubP (st a') p,ct:=fun p=>∃m' a',m' < m∧Q m' a'∧SubP (st a') p,bk:=D.nx } (st a))∧(b=false→∀ps,SubP (st a) ps→D.nx ps)):W1 X H0 O0 E (.While c body [] pos) D ps:=by
 obtain ⟨m,a,q,sb⟩:=h0
 refine vQ hp (fun m ps=>∃a,Q m a∧SubP (st a) ps) m ⟨a,q,sb⟩ fun m ps ⟨a,q,sb⟩=>?_
 obtain ⟨b,t,h1,h2⟩:=hs m a q
 refine ⟨b,t.sub sb,fun e=>?_,fun e=>h2 e ps sb⟩
 refine eT (PSs.mono (h1 e) fun D' σ H ⟨L,O,R⟩=>⟨⟨fun p σ H O R ⟨m',a',l,q',sb'⟩=>L.nx p σ H O R ⟨m',l,a',q',sb'⟩,L.bk,fun p σ H O R ⟨m',a',l,q',sb'⟩=>L.ct p σ H O R ⟨m',l,a',q',sb'⟩,L.rt⟩,O,R⟩) sb
end
abbrev P2:=Int×Int
abbrev pu (p:P2):U:=.tup [.int p.1,.int p.2]
abbrev lp (l:List P2):U:=.lst (l.map pu)
theorem xJ (p q:P2):eqW (pu p) (pu q)=decide (p=q):=by
 obtain ⟨a,b⟩:=p
 obtain ⟨c,d⟩:=q
 simp only[pu,eqW,eqWs,GW]
 rw[CM];simp
theorem nt (l m:List P2):eqW (lp l) (lp m)=decide (l=m):=by rw[lp,lp,eqW];exact lC (p:=fun _ _=>True) xJ l m
theorem jR (l:List P2):okU 9 (lp l)=true:=rG fun _=>rfl
theorem v7 {l:List P2}{i:Nat}{x:U} (h:(l.map pu)[i]?=some x):∃p,l[i]?=some p∧p∈l∧x=pu p:=by
 rw[Av] at h
 cases q:l[i]? with
 |none=>rw[q] at h;cases h
 |some p=>rw[q] at h;cases h;exact ⟨p,rfl,AW q,rfl⟩
theorem iW {α:Type}{l:List α}{f:α→U}{g:α→U}{i:Nat}{x y:U} (hx:(l.map f)[i]?=some x) (hy:(l.map g)[i]?=some y):∃a,l[i]?=some a∧a∈l∧x=f a∧y=g a:=by
 rw[Av] at hx hy
 cases q:l[i]? with
 |none=>rw[q] at hx;cases hx
 |some p=>rw[q] at hx hy;cases hx;cases hy;exact ⟨p,rfl,AW q,rfl,rfl⟩
theorem W1.mono {X:Cx}{H0:Hp}{O0:List Addr}{E:XK}{s:Stmt}{D:PD}{J:PSt→Prop}{ps:PSt} (h:W1 X H0 O0 E s {D with nx:=J } ps) (m:∀ps,J ps→D.nx ps):W1 X H0 O0 E s D ps:=
 PS.mono h fun D' σ H ⟨L,O,R⟩=>⟨⟨fun p σ H O R q=>L.nx p σ H O R (m p q),L.bk,L.ct,L.rt⟩,O,R⟩
theorem kX {X:Cx}{H0:Hp}{O0:List Addr}{E:XK}{s:Stmt}{ss:List Stmt}{D:PD}{ps:PSt} (J:PSt→Prop) (h1:W1 X H0 O0 E s {D with nx:=J } ps) (h2:∀ps,J ps→Ws X H0 O0 E ss D ps):Ws X H0 O0 E (s::ss) D ps:=
 ae (W1.mono (J:=J) (D:={D with nx:=fun p=>Ws X H0 O0 E ss D p }) h1 h2)
end L2
namespace PySem.W
open PySem PySem.Spec PySem.Calls PyProof.Rows
end PySem.W
namespace L2
open PySem PySem.Spec PySem.W PyProof.Rows
section
variable {X:Cx}{pins:List (Addr×Obj)}{σ:St}{H:Hp}{s:Ar}
end
section
variable {X:Cx}
def k_.drop (D:k_) (i:Nat):k_:=⟨fun σ H=>D.nx (σ.set i none) H,D.rt,fun σ H=>D.bk (σ.set i none) H,fun σ H=>D.ct (σ.set i none) H⟩
end
section
variable {X:Cx}{H0:Hp}{O0:List Addr}{E:XK}{ps:PSt}{D:PD}{a e:Expr}{es:List Expr}{us:List U}{k:Bool}{n:Nat}{fd:A6}{pn:List Str}{spec:List U→Out→Prop}
def PD.drop (D:PD) (i:Nat):PD:=⟨fun p=>D.nx (p.set i none),D.rt,fun p=>D.bk (p.set i none),fun p=>D.ct (p.set i none)⟩
end
section
variable {X:Cx}{H0:Hp}{O0:List Addr}{ps:PSt}{pos:Pos}
end
end L2
namespace L2
open PySem
theorem ay {c:Const}{j:Nat}{pos:Pos}{es:List Expr}{env:Env}:AK (.Constant c j pos::es) env=(false,eval (.Constant c j pos) env)::AK es env:=by rw[AK];intro e p h;cases h
theorem bH {l:List Expr}{j:Nat}{pos:Pos}{es:List Expr}{env:Env}:AK (.Tuple l j pos::es) env=(false,eval (.Tuple l j pos) env)::AK es env:=by rw[AK];intro e p h;cases h
theorem nW {l:List Expr}{pos:Pos}{es:List Expr}{env:Env}:AK (.List l pos::es) env=(false,eval (.List l pos) env)::AK es env:=by rw[AK];intro e p h;cases h
theorem dZ {o:UnaryOp}{a:Expr}{pos:Pos}{es:List Expr}{env:Env}:AK (.UnaryOp o a pos::es) env=(false,eval (.UnaryOp o a pos) env)::AK es env:=by rw[AK];intro e p h;cases h
theorem be {a b:Expr}{o:Jj}{pos:Pos}{es:List Expr}{env:Env}:AK (.BinOp a o b pos::es) env=(false,eval (.BinOp a o b pos) env)::AK es env:=by rw[AK];intro e p h;cases h
theorem af {x:Str}{pos:Pos}{es:List Expr}{env:Env}:AK (.Name x pos::es) env=(false,eval (.Name x pos) env)::AK es env:=by rw[AK];intro e p h;cases h
theorem bu {a b:Expr}{pos:Pos}{es:List Expr}{env:Env}:AK (.Subscript a b pos::es) env=(false,eval (.Subscript a b pos) env)::AK es env:=by rw[AK];intro e p h;cases h
theorem cV {f:Expr}{a:List Expr}{k:List HL}{pos:Pos}{es:List Expr}{env:Env}:AK (.Call f a k pos::es) env=(false,eval (.Call f a k pos) env)::AK es env:=by rw[AK];intro e p h;cases h
theorem fU {e:Expr}{g:List Comprehension}{sc:Scope}{pos:Pos}{es:List Expr}{env:Env}:AK (.ListComp e g sc pos::es) env=(false,eval (.ListComp e g sc pos) env)::AK es env:=by rw[AK];intro e p h;cases h
structure EvS (X:Cx) (H0:Hp) (O0:List Addr) (ps:PSt) (es:List Expr) (us:List U):Prop where
 a:EvA X H0 O0 ps es us
section
variable {X:Cx}{H0:Hp}{O0:List Addr}{ps:PSt}{e:Expr}{es:List Expr}{u:U}{us:List U}{pos:Pos}
theorem aM:EvS X H0 O0 ps [] []:=⟨ao⟩
theorem ag (ha:Ev X H0 O0 ps e u) (hr:EvS X H0 O0 ps es us) (hs:AK (e::es) X.env=(false,eval e X.env)::AK es X.env):EvS X H0 O0 ps (e::es) (u::us):=⟨ac ha hr.a hs⟩
theorem aN {x1} (h:EvS X H0 O0 ps es us) (hz:us.length≤sizeLine:=by first |decide | (simp only[A9,D6];decide)):Ev X H0 O0 ps (.Tuple es x1 pos) (.tup us):=yO h.a hz
theorem dX (h:EvS X H0 O0 ps es us) (hz:us.length≤sizeLine:=by first |decide | (simp only[A9,D6];decide)):EvN X H0 O0 ps (.List es pos) us:=yD h.a hz
end
end L2
namespace ST
open PySem PySem.SetTable
def Ris (xs:Array Nat):Prop:=∀(i j x y:Nat),i < j→xs[i]?=some x→xs[j]?=some y→x < y
theorem Ris.inj {xs:Array Nat} (h:Ris xs) {i j x:Nat} (h1:xs[i]?=some x) (h2:xs[j]?=some x):i=j:=by
 rcases Cm i j with z |z |z
 ·exact absurd (h i j x x z h1 h2) (Bv _)
 ·exact z
 ·exact absurd (h j i x x z h2 h1) (Bv _)
theorem dM {xs:Array Nat}{i:Nat} (h:i < xs.size):xs[i]?=some xs[i]:=by simp[h]
theorem o7 {xs:Array Nat}{i x:Nat} (h:xs[i]?=some x):i < xs.size:=(CS.mp h).1
theorem kS {xs:Array Nat} (R:Ris xs) (j:Nat):∀(fuel lo hi:Nat),lo≤hi→hi≤xs.size→hi - lo≤fuel→(∀(i x:Nat),i < lo→xs[i]?=some x→x < j)→(∀(i x:Nat),hi≤i→xs[i]?=some x→j≤x)→
  (∀(i x:Nat),i < below.go xs j fuel lo hi→xs[i]?=some x→x < j)∧(∀(i x:Nat),below.go xs j fuel lo hi≤i→xs[i]?=some x→j≤x)∧below.go xs j fuel lo hi≤xs.size
 |0,lo,hi,h1,h2,h3,h4,h5=>by
  have e:lo=hi:=by omega
  subst e
  rw[below.go]
  exact ⟨h4,h5,h2⟩
 |fuel+1,lo,hi,h1,h2,h3,h4,h5=>by
  rw[below.go]
  by_cases hlt:lo < hi
  ·rw[if_pos hlt]
   have hm:(lo+hi) / 2 < xs.size:=by omega
   have e:xs.getD ((lo+hi) / 2) j=xs[(lo+hi) / 2]:=by simp[Co,hm]
   simp only[e]
   split
   ·rename_i hl
    refine kS R j fuel _ hi (by omega) h2 (by omega) (fun i x hi' hx=>?_) h5
    rcases A5 (show i≤(lo+hi) / 2 by omega) with z |z
    ·exact Gd (R i _ x _ z hx (dM hm)) hl
    ·subst z;rw[dM hm] at hx;cases hx;exact hl
   ·rename_i hl
    refine kS R j fuel lo _ (by omega) (by omega) (by omega) h4 (fun i x hi' hx=>?_)
    rcases A5 hi' with z |z
    ·exact B9 (DM hl) (BX (R _ i _ x z (dM hm) hx))
    ·subst z;rw[dM hm] at hx;cases hx;exact DM hl
  ·rw[if_neg hlt]
   have e:lo=hi:=by omega
   subst e
   exact ⟨h4,h5,h2⟩
theorem eV {xs:Array Nat} (R:Ris xs) (j:Nat):(∀(i x:Nat),i < below xs j→xs[i]?=some x→x < j)∧(∀(i x:Nat),below xs j≤i→xs[i]?=some x→j≤x)∧below xs j≤xs.size:=
 kS R j xs.size 0 xs.size (Bh _) (Aw _) (by omega) (fun i x h=>absurd h (HW _)) (fun i x h e=>absurd (o7 e) (by omega))
theorem q_ {xs:Array Nat} (R:Ris xs) {i j:Nat} (h:xs[i]?=some j):below xs j=i:=by
 obtain ⟨h1,h2,h3⟩:=eV R j
 rcases Cm (below xs j) i with z |z |z
 ·have hk:below xs j < xs.size:=Gd z (o7 h)
  have:=h2 _ _ (Aw _) (dM hk)
  have:=R _ _ _ _ z (dM hk) h
  omega
 ·exact z
 ·have:=h1 i j z h
  omega
theorem jZ {t:SetTable} (R:Ris t.place) {i j:Nat} (h:t.place[i]?=some j):t.slot j=.live i:=by
 unfold SetTable.slot
 simp only[q_ R h,h,beq_self_eq_true,if_true]
theorem qZ {t:SetTable} (hd:t.dummies=#[]) {j:Nat} (h:∀i:Nat,t.place[i]?≠some j):t.slot j=.empty:=by
 unfold SetTable.slot
 have e:(t.place[below t.place j]?==some j)=false:=by simpa using h _
 simp only[e,hd]
 simp[SetTable.has]
theorem nT {t:SetTable} (R:Ris t.place) (hd:t.dummies=#[]) (j:Nat):(t.slot j=.empty∧∀i:Nat,t.place[i]?≠some j)∨∃i:Nat,t.slot j=.live i∧t.place[i]?=some j:=by
 by_cases h:∃i:Nat,t.place[i]?=some j
 ·obtain ⟨i,hi⟩:=h
  exact .inr ⟨i,jZ R hi,hi⟩
 ·exact .inl ⟨qZ hd fun i e=>h ⟨i,e⟩,fun i e=>h ⟨i,e⟩⟩
theorem ql {xs:Array Nat} (R:Ris xs) {mask:Nat} (hn:xs.size≤mask):∃s,s≤mask∧∀i:Nat,xs[i]?≠some s:=by
 apply B0
 intro hno
 have all:∀s,s≤mask→∃i:Nat,xs[i]?=some s:=fun s hs=>by
  apply B0
  intro h
  exact hno ⟨s,hs,fun i e=>h ⟨i,e⟩⟩
 have key:∀s,s≤mask→∃i:Nat,xs[i]?=some s∧s≤i:=by
  intro s
  induction s with
  |zero=>intro h;obtain ⟨i,hi⟩:=all 0 h;exact ⟨i,hi,Bh _⟩
  |succ s ih=>
   intro h
   obtain ⟨i,hi,hle⟩:=ih (by omega)
   obtain ⟨k,hk⟩:=all (s+1) h
   refine ⟨k,hk,?_⟩
   rcases Cm i k with z |z |z
   ·omega
   ·subst z;rw[hi] at hk;cases hk
   ·have:=R k i _ _ z hk hi;omega
 obtain ⟨i,hi,hle⟩:=key mask (Aw _)
 have:=o7 hi
 omega
def adv (mask:Nat) (p:Probe):Probe:=
 if p.more >0 then {p with j:=p.j+1,more:=p.more - 1 } else
 {p with j:=(leap mask p.i p.perturb).1,more:=runEnd mask (leap mask p.i p.perturb).1 - (leap mask p.i p.perturb).1,i:=(leap mask p.i p.perturb).1,perturb:=(leap mask p.i p.perturb).2 }
theorem jw (t:SetTable) (p:Probe):t.advance p=adv t.mask p:=by
 unfold SetTable.advance adv
 split
 ·rfl
 ·rfl
def start (mask:Nat) (h:Int):Probe:={j:=bits h % (mask+1),more:=runEnd mask (bits h % (mask+1)) - bits h % (mask+1),i:=bits h % (mask+1),perturb:=bits h,dummy:=none }
def pth (mask:Nat) (h:Int):Nat→Probe
 |0=>start mask h
 |n+1=>adv mask (pth mask h n)
def aZ (mask:Nat) (h:Int):Nat→Nat×Nat
 |0=>(bits h % (mask+1),bits h)
 |r+1=>leap mask (aZ mask h r).1 (aZ mask h r).2
theorem i5 {mask:Nat}:∀(m:Nat) (p:Probe) (f:Nat→Probe),f 0=p→(∀n,f (n+1)=adv mask (f n))→m≤p.more→f m={p with j:=p.j+m,more:=p.more - m }
 |0,p,f,h0,_,_=>by rw[h0];rfl
 |m+1,p,f,h0,hs,hm=>by
  rw[hs m,i5 m p f h0 hs (by omega)]
  unfold adv
  rw[if_pos (by show p.more - m >0;omega)]
  simp only[Probe.mk.injEq]
  exact ⟨by omega,by omega,trivial,trivial,trivial⟩
theorem i_ (mask:Nat) (h:Int):∀n,(pth mask h n).dummy=none
 |0=>rfl
 |n+1=>by
  rw[pth];unfold adv
  split
  ·exact i_ mask h n
  ·exact i_ mask h n
theorem qg (mask i:Nat):runEnd mask i - i≤9:=by unfold runEnd;split <;>omega
theorem oY (mask:Nat) (h:Int):∀r,∃n,n≤10*r∧pth mask h n={j:=(aZ mask h r).1,more:=runEnd mask (aZ mask h r).1 - (aZ mask h r).1,i:=(aZ mask h r).1,perturb:=(aZ mask h r).2,dummy:=none }
 |0=>⟨0,Aw _,rfl⟩
 |r+1=>by
  obtain ⟨n,hn,e⟩:=oY mask h r
  have hL:=qg mask (aZ mask h r).1
  have step:=i5 (mask:=mask) (runEnd mask (aZ mask h r).1 - (aZ mask h r).1) (pth mask h n) (fun m=>pth mask h (n+m)) rfl (fun m=>rfl) (by rw[e];exact Aw _)
  refine ⟨n+(runEnd mask (aZ mask h r).1 - (aZ mask h r).1)+1,by omega,?_⟩
  rw[pth]
  have step':pth mask h (n+(runEnd mask (aZ mask h r).1 - (aZ mask h r).1))=_:=step
  rw[step',e]
  unfold adv
  rw[if_neg (by simp)]
  rfl
theorem vA (h:Int):bits h < 2 ^ 64:=by
 unfold bits
 have h1:=BH h (show (2 ^ 64:Int)≠0 by decide)
 have h2:=Bs h (show (0:Int) < 2 ^ 64 by decide)
 omega
theorem j7 (mask:Nat) (h:Int):∀r,(aZ mask h r).2=bits h / 32 ^ r
 |0=>by simp[aZ]
 |r+1=>by
  rw[aZ]
  show (aZ mask h r).2 / 32=_
  rw[j7 mask h r,FU,CH]
theorem pU (mask:Nat) (h:Int) (r:Nat) (hr:12≤r):(aZ mask h r).2 / 32=0:=by
 rw[j7]
 have h1:=vA h
 rw[FU]
 apply Nat.div_eq_of_lt
 have:32 ^ 12*32≤32 ^ r*32:=Gx _ (DE (by decide) hr)
 exact A3 (A3 h1 (by decide)) this
def cK:Nat→Nat
 |0=>1
 |k+1=>cK k*(4*cK k+2)
theorem sY:∀k,∃m,cK k=2 ^ k*(2*m+1)
 |0=>⟨0,by simp[cK]⟩
 |k+1=>by
  obtain ⟨m,e⟩:=sY k
  refine ⟨2*(cK k) *m+m+cK k,?_⟩
  rw[cK,CH]
  have:cK k*(4*cK k+2)=2 ^ k*(2*m+1) *(4*cK k+2):=by rw[←e]
  rw[this]
  generalize cK k=c
  generalize 2 ^ k=p
  grind
def fZ:Nat→Nat→Nat
 |0,x=>x
 |n+1,x=>5*fZ n x+1
theorem ja (m x:Nat):∀n,fZ (m+n) x=fZ n (fZ m x)
 |0=>rfl
 |n+1=>by rw[←Nat.add_assoc,fZ,ja m x n,fZ]
theorem jn:∀(k x:Nat),fZ (2 ^ k) x=(1+4*cK k) *x+cK k
 |0,x=>by simp[fZ,cK]
 |k+1,x=>by
  rw[CH,Nat.mul_two,ja,jn k,jn k,cK]
  generalize cK k=c
  grind
theorem nV (k x:Nat):fZ (2 ^ k) x % 2 ^ (k+1)=(x+2 ^ k) % 2 ^ (k+1):=by
 rw[jn]
 obtain ⟨m,e⟩:=sY k
 rw[e]
 have:(1+4*(2 ^ k*(2*m+1))) *x+2 ^ k*(2*m+1)=(x+2 ^ k)+2 ^ (k+1) *(2*(2*m+1) *x+m):=by
  rw[CH]
  generalize 2 ^ k=p
  grind
 rw[this,Nat.add_mul_mod_self_left]
theorem gs (x:Nat):∀(k y:Nat),∃n,n < 2 ^ k∧fZ n x % 2 ^ k=y % 2 ^ k
 |0,y=>⟨0,by simp,by simp[Nat.mod_one]⟩
 |k+1,y=>by
  obtain ⟨n,hn,e⟩:=gs x k y
  have hp:2 ^ (k+1)=2 ^ k+2 ^ k:=by rw[CH];omega
  have h2:0 < 2 ^ k:=Nat.pow_pos (by decide)
  by_cases h:fZ n x % 2 ^ (k+1)=y % 2 ^ (k+1)
  ·exact ⟨n,by omega,h⟩
  ·refine ⟨n+2 ^ k,by omega,?_⟩
   rw[ja,nV]
   generalize fZ n x=z at *
   have d1:z % 2 ^ (k+1) % 2 ^ k=z % 2 ^ k:=GY _ ⟨2,by rw[CH]⟩
   have d2:y % 2 ^ (k+1) % 2 ^ k=y % 2 ^ k:=GY _ ⟨2,by rw[CH]⟩
   have l1:=Cf z (show 0 < 2 ^ (k+1) by omega)
   have l2:=Cf y (show 0 < 2 ^ (k+1) by omega)
   rw[←Ge]
   rw[←d1,←d2] at e
   generalize z % 2 ^ (k+1)=a at *
   generalize y % 2 ^ (k+1)=b at *
   rw[hp] at *
   generalize 2 ^ k=p at *
   have ea:a % p=if a < p then a else a - p:=by
    split
    ·exact A_ (by assumption)
    ·rw[E4 (by omega),A_ (by omega)]
   have eb:b % p=if b < p then b else b - p:=by
    split
    ·exact A_ (by assumption)
    ·rw[E4 (by omega),A_ (by omega)]
   rw[ea,eb] at e
   by_cases ha:a < p
   ·rw[if_pos ha] at e
    rw[A_ (by omega)]
    split at e <;>omega
   ·rw[if_neg ha] at e
    rw[E4 (by omega),A_ (by omega)]
    split at e <;>omega
theorem jf {mask k:Nat} (hk:mask+1=2 ^ k) (h:Int):∀q,(aZ mask h (12+q)).1=fZ q (aZ mask h 12).1 % 2 ^ k
 |0=>by
  rw[fZ]
  have:(aZ mask h 12).1 < 2 ^ k:=by
   rw[←hk]
   show (leap mask (aZ mask h 11).1 (aZ mask h 11).2).1 < _
   exact Cf _ (by omega)
  exact (A_ this).symm
 |q+1=>by
  show (leap mask (aZ mask h (12+q)).1 (aZ mask h (12+q)).2).1=_
  unfold leap
  simp only[pU mask h (12+q) (by omega)]
  rw[jf hk h q,hk,fZ,Jy,Nat.mul_comm 5 _]
  generalize fZ q (aZ mask h 12).1=z
  generalize 2 ^ k=m
  rw[JH,Nat.mod_mul_mod,←JH]
theorem cover {mask k:Nat} (hk:mask+1=2 ^ k) (h:Int) (s:Nat) (hs:s≤mask):∃n,n < 10*turns mask∧(pth mask h n).j=s:=by
 obtain ⟨q,hq,e⟩:=gs (aZ mask h 12).1 k s
 obtain ⟨n,hn,en⟩:=oY mask h (12+q)
 refine ⟨n,?_,?_⟩
 ·unfold turns;omega
 ·rw[en]
  show (aZ mask h (12+q)).1=s
  rw[jf hk h q,e]
  exact A_ (by omega)
def Liv (t:SetTable) (j:Nat):Prop:=∃i:Nat,t.place[i]?=some j
structure TOk (t:SetTable) (hs:List Int):Prop where
 R:Ris t.place
 d:t.dummies=#[]
 k:∃k,3≤k∧t.mask+1=2 ^ k
 n:t.place.size=hs.length
 f:t.place.size≤t.mask
 le:∀(i x:Nat),t.place[i]?=some x→x≤t.mask
 reach:∀(i j:Nat) (h:Int),t.place[i]?=some j→hs[i]?=some h→∃m,(pth t.mask h m).j=j∧∀m',m' < m→Liv t (pth t.mask h m').j
theorem least {P:Nat→Prop}:∀n,P n→∃m,m≤n∧P m∧∀k,k < m→¬ P k:=by
 intro n
 induction n using Nat.strongRecOn with
 |_ n ih=>
  intro h
  by_cases hk:∃k,k < n∧P k
  ·obtain ⟨k,hk,hp⟩:=hk
   obtain ⟨m,h1,h2,h3⟩:=ih k hk hp
   exact ⟨m,by omega,h2,h3⟩
  ·exact ⟨n,Aw _,h,fun k hk' hp=>hk ⟨k,hk',hp⟩⟩
theorem nC {t:SetTable}{hs:List Int} (T:TOk t hs) (h:Int):∃N,N < 10*turns t.mask∧¬ Liv t (pth t.mask h N).j∧∀m,m < N→Liv t (pth t.mask h m).j:=by
 obtain ⟨s,hs1,hs2⟩:=ql T.R T.f
 obtain ⟨k,_,hk⟩:=T.k
 obtain ⟨n,hn,e⟩:=cover hk h s hs1
 obtain ⟨m,h1,h2,h3⟩:=least (P:=fun n=>¬ Liv t (pth t.mask h n).j) n (by show ¬ Liv t (pth t.mask h n).j;rw[e];rintro ⟨i,hi⟩;exact hs2 i hi)
 exact ⟨m,by omega,h2,fun k hk'=>B0 fun z=>h3 k hk' z⟩
theorem lO {t:SetTable}{hs:List Int} (T:TOk t hs) (hashAt:Nat→Int) (h:Int) {N:Nat} (h0:¬ Liv t (pth t.mask h N).j) (h1:∀m,m < N→Liv t (pth t.mask h m).j):∀(fuel n:Nat),n≤N→N - n < fuel→
  (probe.go t hashAt h fuel (pth t.mask h n)=some (.empty (pth t.mask h N).j none)∧∀(m i:Nat),n≤m→m < N→t.place[i]?=some (pth t.mask h m).j→hashAt i≠h)∨
  ∃m i:Nat,n≤m∧m < N∧t.place[i]?=some (pth t.mask h m).j∧hashAt i=h∧probe.go t hashAt h fuel (pth t.mask h n)=some (.candidate (pth t.mask h m).j i (pth t.mask h (m+1)))∧
   ∀(m' i':Nat),n≤m'→m' < m→t.place[i']?=some (pth t.mask h m').j→hashAt i'≠h
 |0,n,_,hf=>by omega
 |fuel+1,n,hn,hf=>by
  rw[probe.go]
  rcases nT T.R T.d (pth t.mask h n).j with ⟨e,hno⟩ |⟨i,e,hi⟩
  ·have hN:n=N:=by
    rcases A5 hn with z |z
    ·obtain ⟨i,hi⟩:=h1 n z;exact absurd hi (hno i)
    ·exact z
   subst hN
   refine .inl ⟨by simp only[e,i_],fun m i z1 z2=>by omega⟩
  ·have hN:n < N:=by
    rcases A5 hn with z |z
    ·exact z
    ·subst z;exact absurd ⟨i,hi⟩ h0
   simp only[e]
   by_cases hh:hashAt i=h
   ·refine .inr ⟨n,i,Aw _,hN,hi,hh,?_,fun m' i' z1 z2=>by omega⟩
    simp only[hh,beq_self_eq_true,if_true,jw]
    rfl
   ·have hb:(hashAt i==h)=false:=by simpa using hh
    simp only[hb,AQ,if_false,jw]
    have ih:=lO T hashAt h h0 h1 fuel (n+1) (by omega) (by omega)
    rcases ih with ⟨q1,q2⟩ |⟨m,i2,q1,q2,q3,q4,q5,q6⟩
    ·refine .inl ⟨q1,fun m i' z1 z2 z3=>?_⟩
     rcases A5 z1 with z |z
     ·exact q2 m i' z z2 z3
     ·subst z
      rw[T.R.inj z3 hi];exact hh
    ·refine .inr ⟨m,i2,by omega,q2,q3,q4,q5,fun m' i' z1 z2 z3=>?_⟩
     rcases A5 z1 with z |z
     ·exact q6 m' i' z z2 z3
     ·subst z
      rw[T.R.inj z3 hi];exact hh
theorem t4 {t:SetTable}{hs:List Int} (T:TOk t hs) {h:Int}{N i:Nat} (h0:¬ Liv t (pth t.mask h N).j) (hi:hs[i]?=some h):∃(m j:Nat),m < N∧t.place[i]?=some j∧(pth t.mask h m).j=j:=by
 have hlt:i < t.place.size:=by rw[T.n];exact (AF.mp hi).1
 obtain ⟨m,e,hm⟩:=T.reach i _ h (dM hlt) hi
 refine ⟨m,_,?_,dM hlt,e⟩
 rcases Cm m N with z |z |z
 ·exact z
 ·subst z;exact absurd ⟨i,by rw[e];exact dM hlt⟩ h0
 ·exact absurd (hm N z) h0
theorem dY {α:Type} (xs:Array α) (p:Nat) (x:α):(insertAt xs p x).toList=xs.toList.take p++x::xs.toList.drop p:=by
 unfold insertAt
 simp[Array.toList_extract]
 exact FT (by simp)
theorem cr {α:Type}{xs:Array α}{p:Nat}{x:α} (hp:p≤xs.size) (i:Nat):(insertAt xs p x)[i]?=if i < p then xs[i]? else if i=p then some x else xs[i - 1]?:=by
 rw[←Bg,dY]
 have hl:(xs.toList.take p).length=p:=by simp;omega
 by_cases h1:i < p
 ·rw[if_pos h1,A7 (by omega),C_ h1,Bg]
 ·rw[if_neg h1,A0 (by omega),hl]
  by_cases h2:i=p
  ·subst h2;simp
  ·rw[if_neg h2]
   obtain ⟨q,hq⟩:∃q,i - p=q+1:=⟨i - p - 1,by omega⟩
   rw[hq,Dh,Dt,Bg]
   congr 1;omega
theorem gf {α:Type} (xs:Array α) (p:Nat) (x:α) (hp:p≤xs.size):(insertAt xs p x).size=xs.size+1:=by
 rw[←AR,dY];simp;omega
def fY {α:Type} (xs:List α) (p:Nat) (x:α):List α:=xs.take p++x::xs.drop p
theorem rQ {α:Type}{xs:List α}{p:Nat}{x:α} (hp:p≤xs.length) (i:Nat):(fY xs p x)[i]?=if i < p then xs[i]? else if i=p then some x else xs[i - 1]?:=by
 unfold fY
 have hl:(xs.take p).length=p:=by simp;omega
 by_cases h1:i < p
 ·rw[if_pos h1,A7 (by omega),C_ h1]
 ·rw[if_neg h1,A0 (by omega),hl]
  by_cases h2:i=p
  ·subst h2;simp
  ·rw[if_neg h2]
   obtain ⟨q,hq⟩:∃q,i - p=q+1:=⟨i - p - 1,by omega⟩
   rw[hq,Dh,Dt]
   congr 1;omega
theorem u_ {xs:Array Nat} (R:Ris xs) {j:Nat} (hno:∀i:Nat,xs[i]?≠some j):Ris (insertAt xs (below xs j) j):=by
 obtain ⟨h1,h2,h3⟩:=eV R j
 have gt:∀(i x:Nat),below xs j≤i→xs[i]?=some x→j < x:=fun i x hi hx=>by
  rcases A5 (h2 i x hi hx) with z |z
  ·exact z
  ·subst z;exact absurd hx (hno i)
 intro a b x y hab hx hy
 rw[cr h3] at hx hy
 by_cases a1:a < below xs j
 ·rw[if_pos a1] at hx
  by_cases b1:b < below xs j
  ·rw[if_pos b1] at hy;exact R a b x y hab hx hy
  ·rw[if_neg b1] at hy
   by_cases b2:b=below xs j
   ·rw[if_pos b2] at hy;cases hy;exact h1 a x a1 hx
   ·rw[if_neg b2] at hy;exact R a (b - 1) x y (by omega) hx hy
 ·rw[if_neg a1] at hx
  have b1:¬ b < below xs j:=by omega
  rw[if_neg b1] at hy
  have b2:¬ b=below xs j:=by omega
  rw[if_neg b2] at hy
  by_cases a2:a=below xs j
  ·rw[if_pos a2] at hx;cases hx;exact gt (b - 1) y (by omega) hy
  ·rw[if_neg a2] at hx;exact R (a - 1) (b - 1) x y (by omega) hx hy
theorem oP {xs:Array Nat}{p j:Nat} (hp:p≤xs.size) (s:Nat):(∃i:Nat,(insertAt xs p j)[i]?=some s)↔s=j∨∃i:Nat,xs[i]?=some s:=by
 constructor
 ·rintro ⟨i,hi⟩
  rw[cr hp] at hi
  split at hi
  ·exact .inr ⟨i,hi⟩
  ·split at hi
   ·cases hi;exact .inl rfl
   ·exact .inr ⟨i - 1,hi⟩
 ·rintro (rfl |⟨i,hi⟩)
  ·exact ⟨p,by rw[cr hp,if_neg (Bv _),if_pos rfl]⟩
  ·by_cases h:i < p
   ·exact ⟨i,by rw[cr hp,if_pos h];exact hi⟩
   ·exact ⟨i+1,by rw[cr hp,if_neg (by omega),if_neg (by omega)];simpa using hi⟩
theorem TOk.put {t:SetTable}{hs:List Int} (T:TOk t hs) {h:Int}{N:Nat} (h0:¬ Liv t (pth t.mask h N).j) (h1:∀m,m < N→Liv t (pth t.mask h m).j) (hle:(pth t.mask h N).j≤t.mask) (hf:t.place.size+1≤t.mask):
  TOk (t.put (pth t.mask h N).j).1 (fY hs (t.put (pth t.mask h N).j).2 h):=by
 have hno:∀i:Nat,t.place[i]?≠some (pth t.mask h N).j:=fun i e=>h0 ⟨i,e⟩
 obtain ⟨_,_,hb⟩:=eV T.R (pth t.mask h N).j
 have hbl:below t.place (pth t.mask h N).j≤hs.length:=by rw[←T.n];exact hb
 have ed:(if SetTable.has t.dummies (pth t.mask h N).j then eraseAt t.dummies (below t.dummies (pth t.mask h N).j) else t.dummies)=#[]:=by
  rw[T.d];simp[SetTable.has]
 unfold SetTable.put
 simp only[ed]
 refine ⟨u_ T.R hno,rfl,T.k,?_,?_,fun i x e=>?_,fun i j hh e1 e2=>?_⟩
 ·show (insertAt _ _ _).size=(fY hs _ h).length
  rw[gf _ _ _ hb,T.n];unfold fY;simp;omega
 ·show (insertAt _ _ _).size≤t.mask
  rw[gf _ _ _ hb];exact hf
 ·rcases (oP hb x).mp ⟨i,e⟩ with z |⟨q,hq⟩
  ·rw[z];exact hle
  ·exact T.le q x hq
 ·have liv:∀s,Liv t s→Liv {t with place:=insertAt t.place (below t.place (pth t.mask h N).j) (pth t.mask h N).j,dummies:=#[] } s:=fun s z=>(oP hb s).mpr (.inr z)
  change (insertAt t.place _ _)[i]?=some j at e1
  rw[cr hb] at e1
  rw[rQ hbl] at e2
  split at e1
  ·rename_i z
   rw[if_pos z] at e2
   obtain ⟨m,q1,q2⟩:=T.reach i j hh e1 e2
   exact ⟨m,q1,fun m' hm=>liv _ (q2 m' hm)⟩
  ·rename_i z
   rw[if_neg z] at e2
   split at e1
   ·rename_i z2
    rw[if_pos z2] at e2
    cases e1;cases e2
    exact ⟨N,rfl,fun m' hm=>liv _ (h1 m' hm)⟩
   ·rename_i z2
    rw[if_neg z2] at e2
    obtain ⟨m,q1,q2⟩:=T.reach (i - 1) j hh e1 e2
    exact ⟨m,q1,fun m' hm=>liv _ (q2 m' hm)⟩
theorem rT {mask:Nat} (h:Int):∀n,(pth mask h n).j+(pth mask h n).more≤mask
 |0=>by
  show bits h % (mask+1)+(runEnd mask (bits h % (mask+1)) - bits h % (mask+1))≤mask
  have:=Cf (bits h) (show 0 < mask+1 by omega)
  unfold runEnd;split <;>omega
 |n+1=>by
  have ih:=rT (mask:=mask) h n
  rw[pth];unfold adv
  split
  ·simp only;omega
  ·show (leap mask _ _).1+(runEnd mask (leap mask _ _).1 - (leap mask _ _).1)≤mask
   have:(leap mask (pth mask h n).i (pth mask h n).perturb).1 < mask+1:=Cf _ (by omega)
   unfold runEnd;split <;>omega
def OL (owner:Array (Option Nat)) (j:Nat):Prop:=∃k:Nat,owner[j]?=some (some k)
def nr (mask:Nat) (h:Int):Nat→Nat
 |0=>0
 |r+1=>nr mask h r+(runEnd mask (aZ mask h r).1 - (aZ mask h r).1)+1
theorem vT (mask:Nat) (h:Int):∀r,pth mask h (nr mask h r)={j:=(aZ mask h r).1,more:=runEnd mask (aZ mask h r).1 - (aZ mask h r).1,i:=(aZ mask h r).1,perturb:=(aZ mask h r).2,dummy:=none }
 |0=>rfl
 |r+1=>by
  have e:=vT mask h r
  have step:=i5 (mask:=mask) (runEnd mask (aZ mask h r).1 - (aZ mask h r).1) (pth mask h (nr mask h r)) (fun m=>pth mask h (nr mask h r+m)) rfl (fun m=>rfl) (by rw[e];exact Aw _)
  have step':pth mask h (nr mask h r+(runEnd mask (aZ mask h r).1 - (aZ mask h r).1))=_:=step
  rw[nr,pth,step',e]
  unfold adv
  rw[if_neg (by simp)]
  rfl
theorem m7 (mask:Nat) (h:Int) (r k:Nat) (hk:k≤runEnd mask (aZ mask h r).1 - (aZ mask h r).1):(pth mask h (nr mask h r+k)).j=(aZ mask h r).1+k:=by
 have e:=vT mask h r
 have step:=i5 (mask:=mask) k (pth mask h (nr mask h r)) (fun m=>pth mask h (nr mask h r+m)) rfl (fun m=>rfl) (by rw[e];exact hk)
 have step':pth mask h (nr mask h r+k)=_:=step
 rw[step',e]
theorem p5 (mask i:Nat):i≤runEnd mask i:=by unfold runEnd;split <;>omega
theorem vh (mask:Nat) (h:Int):∀r,(aZ mask h r).1≤mask
 |0=>B_ (Cf _ (by omega))
 |r+1=>B_ (Cf _ (by omega))
theorem lR {mask i:Nat} (h:i≤mask):runEnd mask i≤mask:=by unfold runEnd;split <;>omega
theorem pN {mask:Nat}{owner:Array (Option Nat)} (hsz:owner.size=mask+1) (h:Int):∀(fuel r:Nat),(∃r',r≤r'∧r' < r+fuel∧owner[(aZ mask h r').1]?=some none)→(∀m,m < nr mask h r→OL owner (pth mask h m).j)→
  ∃N,layClean.free mask owner fuel (aZ mask h r).1 (aZ mask h r).2=some (pth mask h N).j∧owner[(pth mask h N).j]?=some none∧∀m,m < N→OL owner (pth mask h m).j
 |0,r,⟨r',h1,h2,_⟩,_=>by omega
 |fuel+1,r,hex,hl=>by
  rw[layClean.free]
  have hge:=p5 mask (aZ mask h r).1
  have hmk:=lR (vh mask h r)
  have hin:∀k,k < runEnd mask (aZ mask h r).1+1 - (aZ mask h r).1→(aZ mask h r).1+k < owner.size:=fun k hk=>by omega
  cases hf:(Bj (runEnd mask (aZ mask h r).1+1 - (aZ mask h r).1)).find? fun k=>(owner.getD ((aZ mask h r).1+k) (some 0)).isNone with
  |some k=>
   obtain ⟨p1,p2,p3⟩:=List.find?_range_eq_some.mp hf
   have hk:=AV.mp p2
   have hlt:=hin k hk
   have e1:owner[(aZ mask h r).1+k]?=some none:=by
    have:owner.getD ((aZ mask h r).1+k) (some 0)=owner[(aZ mask h r).1+k]:=by simp[Co,hlt]
    rw[this] at p1
    have:owner[(aZ mask h r).1+k]=none:=by simpa using p1
    simp[hlt,this]
   have ej:=m7 mask h r k (by omega)
   refine ⟨nr mask h r+k,by simp only[ej],by rw[ej];exact e1,fun m hm=>?_⟩
   by_cases hm1:m < nr mask h r
   ·exact hl m hm1
   ·obtain ⟨q,rfl⟩:∃q,m=nr mask h r+q:=⟨m - nr mask h r,by omega⟩
    have hq:=p3 q (by omega)
    have hlt2:=hin q (by omega)
    rw[m7 mask h r q (by omega)]
    have:owner.getD ((aZ mask h r).1+q) (some 0)=owner[(aZ mask h r).1+q]:=by simp[Co,hlt2]
    rw[this] at hq
    cases hv:owner[(aZ mask h r).1+q] with
    |none=>rw[hv] at hq;simp at hq
    |some v=>exact ⟨v,by simp[hlt2,hv]⟩
  |none=>
   have hall:∀q,q < runEnd mask (aZ mask h r).1+1 - (aZ mask h r).1→OL owner ((aZ mask h r).1+q):=fun q hq=>by
    have:=List.find?_eq_none.mp hf q (AV.mpr hq)
    have hlt2:=hin q hq
    have e:owner.getD ((aZ mask h r).1+q) (some 0)=owner[(aZ mask h r).1+q]:=by simp[Co,hlt2]
    rw[e] at this
    cases hv:owner[(aZ mask h r).1+q] with
    |none=>rw[hv] at this;simp at this
    |some v=>exact ⟨v,by simp[hlt2,hv]⟩
   have next:=pN hsz h fuel (r+1) (by
    obtain ⟨r',h1,h2,h3⟩:=hex
    refine ⟨r',?_,by omega,h3⟩
    rcases A5 h1 with z |z
    ·exact z
    ·subst z
     obtain ⟨v,hv⟩:=hall 0 (by omega)
     rw[Jy,h3] at hv
     cases hv) (fun m hm=>by
    by_cases hm1:m < nr mask h r
    ·exact hl m hm1
    ·obtain ⟨q,rfl⟩:∃q,m=nr mask h r+q:=⟨m - nr mask h r,by omega⟩
     have hm2:nr mask h r+q < nr mask h r+(runEnd mask (aZ mask h r).1 - (aZ mask h r).1)+1:=hm
     rw[m7 mask h r q (by omega)]
     exact hall q (by omega))
   exact next
structure OI (mask:Nat) (owner:Array (Option Nat)) (hs:List Int):Prop where
 sz:owner.size=mask+1
 lt:∀(j k:Nat),owner[j]?=some (some k)→k < hs.length
 inj:∀(i j k:Nat),owner[i]?=some (some k)→owner[j]?=some (some k)→i=j
 all:∀k:Nat,k < hs.length→∃j:Nat,owner[j]?=some (some k)
 reach:∀(j k:Nat) (h:Int),owner[j]?=some (some k)→hs[k]?=some h→∃m,(pth mask h m).j=j∧∀m',m' < m→OL owner (pth mask h m').j
theorem OI.free {mask:Nat}{owner:Array (Option Nat)}{hs:List Int} (O:OI mask owner hs) (hn:hs.length≤mask):∃s,s≤mask∧owner[s]?=some none:=by
 apply B0
 intro hno
 have hlive:∀s,s≤mask→OL owner s:=fun s hs'=>by
  have hlt:s < owner.size:=by rw[O.sz];omega
  cases e:owner[s] with
  |none=>exact absurd ⟨s,hs',by simp[hlt,e]⟩ hno
  |some k=>exact ⟨k,by simp[hlt,e]⟩
 have nd:((Bj (mask+1)).map fun s=>(owner.getD s none).getD 0).Nodup:=by
  rw[EY,BJ]
  refine Fo ?_ (FV (n:=mask+1))
  intro a b ha hb hab e
  obtain ⟨k1,h1⟩:=hlive a (by have:=AV.mp ha;omega)
  obtain ⟨k2,h2⟩:=hlive b (by have:=AV.mp hb;omega)
  have e1:(owner.getD a none).getD 0=k1:=by simp[Bu,h1]
  have e2:(owner.getD b none).getD 0=k2:=by simp[Bu,h2]
  rw[e1,e2] at e
  subst e
  have:=O.inj a b k1 h1 h2
  omega
 have sub:((Bj (mask+1)).map fun s=>(owner.getD s none).getD 0) ⊆ Bj hs.length:=by
  intro x hx
  obtain ⟨s,hs1,rfl⟩:=Az.mp hx
  obtain ⟨k1,h1⟩:=hlive s (by have:=AV.mp hs1;omega)
  have e1:(owner.getD s none).getD 0=k1:=by simp[Bu,h1]
  rw[e1]
  exact AV.mpr (O.lt s k1 h1)
 have:=Hm nd sub
 simp at this
 omega
theorem OI.step {mask k:Nat} (hk:mask+1=2 ^ k) {owner:Array (Option Nat)}{hs:List Int} (O:OI mask owner hs) (hn:hs.length≤mask) (h:Int):
  ∃j,layClean.free mask owner (turns mask) (bits h % (mask+1)) (bits h)=some j∧OI mask (owner.setIfInBounds j (some hs.length)) (hs++[h]):=by
 obtain ⟨s,hs1,hs2⟩:=O.free hn
 obtain ⟨q,hq,e⟩:=gs (aZ mask h 12).1 k s
 have er:(aZ mask h (12+q)).1=s:=by rw[jf hk h q,e];exact A_ (by omega)
 obtain ⟨N,f1,f2,f3⟩:=pN O.sz h (turns mask) 0 ⟨12+q,Bh _,by unfold turns;omega,by rw[er];exact hs2⟩ (fun m hm=>absurd hm (HW _))
 refine ⟨_,f1,?_⟩
 generalize hj:(pth mask h N).j=j at *
 have hjs:j < owner.size:=(CS.mp f2).1
 have get:∀i:Nat,(owner.setIfInBounds j (some hs.length))[i]?=if j=i then some (some hs.length) else owner[i]?:=fun i=>by
  rw[Array.getElem?_setIfInBounds]
  split
  ·rename_i z;subst z;simp[hjs]
  ·rfl
 have liv:∀i,OL owner i→OL (owner.setIfInBounds j (some hs.length)) i:=fun i ⟨v,hv⟩=>by
  refine ⟨v,?_⟩
  rw[get,if_neg (fun z=>by subst z;rw[f2] at hv;cases hv)]
  exact hv
 refine ⟨by simp[O.sz],fun i v e=>?_,fun a b v e1 e2=>?_,fun v hv=>?_,fun i v hh e1 e2=>?_⟩
 ·rw[get] at e
  split at e
  ·cases e;simp
  ·have:=O.lt i v e;simp;omega
 ·rw[get] at e1 e2
  split at e1 <;>split at e2
  ·omega
  ·cases e1;exact absurd (O.lt b _ e2) (Bv _)
  ·cases e2;exact absurd (O.lt a _ e1) (Bv _)
  ·exact O.inj a b v e1 e2
 ·simp at hv
  rcases A5 (B_ hv) with z |z
  ·obtain ⟨i,hi⟩:=O.all v z
   refine ⟨i,?_⟩
   rw[get,if_neg (fun y=>by subst y;rw[f2] at hi;cases hi)]
   exact hi
  ·subst z;exact ⟨j,by rw[get,if_pos rfl]⟩
 ·rw[get] at e1
  split at e1
  ·rename_i z
   cases e1
   rw[A0 (Aw _)] at e2
   simp at e2
   subst e2
   exact ⟨N,by rw[hj];exact z,fun m hm=>liv _ (f3 m hm)⟩
  ·have hv:=O.lt i v e1
   rw[A7 hv] at e2
   obtain ⟨m,q1,q2⟩:=O.reach i v hh e1 e2
   exact ⟨m,q1,fun m' hm=>liv _ (q2 m' hm)⟩
theorem pG {mask k:Nat} (hk:mask+1=2 ^ k):∀(more done:List Int) (owner:Array (Option Nat)),OI mask owner done→done.length+more.length≤mask+1→∃owner',more.foldl (fun acc h=>do
  let (owner,k) ←acc
  let j ←layClean.free mask owner (turns mask) (bits h % (mask+1)) (bits h)
  pure (owner.setIfInBounds j (some k),k+1)) (some (owner,done.length))=some (owner',done.length+more.length)∧OI mask owner' (done++more)
 |[],done,owner,O,_=>⟨owner,by simp,by simpa using O⟩
 |h::more,done,owner,O,hl=>by
  obtain ⟨j,e,O2⟩:=O.step hk (by simp at hl;omega) h
  obtain ⟨ow,e2,O3⟩:=pG hk more (done++[h]) _ O2 (by simp at hl ⊢;omega)
  refine ⟨ow,?_,by simpa using O3⟩
  rw[D7]
  have:(do
   let (owner,k) ←some (owner,done.length)
   let j ←layClean.free mask owner (turns mask) (bits h % (mask+1)) (bits h)
   pure (owner.setIfInBounds j (some k),k+1):Option (Array (Option Nat)×Nat))=some (owner.setIfInBounds j (some done.length),done.length+1):=by
   simp[e]
  rw[this]
  simp only[Bx,Gb] at e2
  rw[e2]
  simp;omega
theorem lQ {mask k:Nat} (hk:mask+1=2 ^ k) {hs:Array Int} (hl:hs.size≤mask+1):∃owner,layClean mask hs=some owner∧OI mask owner hs.toList:=by
 have O0:OI mask (Array.replicate (mask+1) none) []:=⟨by simp,fun j k e=>by simp[DW] at e,fun i j k e=>by simp[DW] at e,fun k h=>by simp at h,fun j k h e=>by simp[DW] at e⟩
 obtain ⟨ow,e,O⟩:=pG hk hs.toList [] _ O0 (by simpa using hl)
 refine ⟨ow,?_,by simpa using O⟩
 unfold layClean
 rw[←Array.foldl_toList]
 simp only[D6] at e
 rw[e]
 rfl
theorem mr (n:Nat):∀(fuel k:Nat),n < 2 ^ (k+fuel)→∃k',k≤k'∧sizeAbove.go n fuel (2 ^ k)=2 ^ k'∧n < 2 ^ k'∧(2 ^ k'≤2*n∨k'=k)
 |0,k,h=>⟨k,Aw _,rfl,by simpa using h,.inr rfl⟩
 |fuel+1,k,h=>by
  rw[sizeAbove.go]
  by_cases hle:2 ^ k≤n
  ·rw[if_pos hle,←CH]
   obtain ⟨k',h1,h2,h3,h4⟩:=mr n fuel (k+1) (by rw[show k+1+fuel=k+(fuel+1) by omega];exact h)
   refine ⟨k',by omega,h2,h3,.inl ?_⟩
   rcases h4 with z |z
   ·exact z
   ·subst z;rw[CH];omega
  ·rw[if_neg hle]
   exact ⟨k,Aw _,rfl,by omega,.inr rfl⟩
theorem above (n:Nat) (h:n < 2 ^ 60):∃k,3≤k∧sizeAbove n=2 ^ k∧n < 2 ^ k∧2 ^ k≤2*n+8:=by
 obtain ⟨k,h1,h2,h3,h4⟩:=mr n 64 3 (A3 h (DE (by decide) (by decide)))
 refine ⟨k,h1,h2,h3,?_⟩
 rcases h4 with z |z
 ·omega
 ·subst z;omega
def c_ (mask:Nat) (owner:Array (Option Nat)):List (Nat×Nat):=(Bj (mask+1)).filterMap fun j=>(owner.getD j none).map (j,·)
theorem l_ (owner:Array (Option Nat)):∀l:List Nat,(l.filterMap fun j=>(owner.getD j none).map (j,·)).map (·.1)=l.filter fun j=>(owner.getD j none).isSome
 |[]=>rfl
 |a::l=>by
  have ih:=l_ owner l
  rw[Be,FH]
  cases owner.getD a none with
  |none=>simpa using ih
  |some v=>simpa using ih
theorem dG {mask:Nat}{owner:Array (Option Nat)} (hsz:owner.size=mask+1) (j k:Nat):(j,k)∈c_ mask owner↔owner[j]?=some (some k):=by
 unfold c_
 rw[D0]
 constructor
 ·rintro ⟨a,ha,e⟩
  have hlt:a < owner.size:=by rw[hsz];exact AV.mp ha
  cases hv:owner.getD a none with
  |none=>rw[hv] at e;cases e
  |some v=>
   rw[hv] at e
   cases e
   have:owner.getD j none=owner[j]:=by simp[Co,hlt]
   rw[this] at hv
   simp[hlt,hv]
 ·intro e
  have hlt:=(CS.mp e).1
  refine ⟨j,AV.mpr (by omega),?_⟩
  rw[Bu,e];rfl
theorem qj (mask:Nat) (owner:Array (Option Nat)):(c_ mask owner).Pairwise fun a b=>a.1 < b.1:=by
 have:=(FV (n:=mask+1)).filter fun j=>(owner.getD j none).isSome
 rw[←l_ owner (Bj (mask+1)),BJ] at this
 exact this
theorem yc {l:List Nat} (h:l.Pairwise (· < ·)):Ris l.toArray:=by
 intro i j x y hij hx hy
 rw[Dw] at hx hy
 obtain ⟨h1,e1⟩:=AF.mp hx
 obtain ⟨h2,e2⟩:=AF.mp hy
 have:=A8.mp h i j h1 h2 hij
 rw[e1,e2] at this
 exact this
theorem uF {mask k:Nat} (h3:3≤k) (hk:mask+1=2 ^ k) {hs:Array Int} (hl:hs.size≤mask) (finger moves:Nat) (led plain:Bool):
  ∃t order,laid mask finger moves led plain hs=some (t,order)∧TOk t (order.toList.map fun i=>hs.getD i 0)∧order.toList.Perm (Bj hs.size)∧t.mask=mask∧t.led=led∧t.plain=plain∧t.moves=moves:=by
 obtain ⟨owner,e,O⟩:=lQ hk (hs:=hs) (by omega)
 have pr:=qj mask owner
 have nd:((c_ mask owner).map (·.2)).Nodup:=by
  rw[EY,BJ]
  refine Fo ?_ pr
  intro a b ha hb hab ee
  have h1:=(dG O.sz a.1 a.2).mp ha
  have h2:=(dG O.sz b.1 b.2).mp hb
  rw[ee] at h1
  have:=O.inj a.1 b.1 b.2 h1 h2
  omega
 have perm:((c_ mask owner).map (·.2)).Perm (Bj hs.size):=by
  refine (List.perm_ext_iff_of_nodup nd HB).mpr fun x=>?_
  rw[Az,AV]
  constructor
  ·rintro ⟨⟨j,v⟩,hm,rfl⟩
   have:=O.lt j v ((dG O.sz j v).mp hm)
   simpa using this
  ·intro hx
   obtain ⟨j,hj⟩:=O.all x (by simpa using hx)
   exact ⟨(j,x),(dG O.sz j x).mpr hj,rfl⟩
 have len:(c_ mask owner).length=hs.size:=by have:=perm.length_eq;simpa using this
 refine ⟨_,_,by unfold laid;rw[e];rfl,⟨?_,rfl,⟨k,h3,hk⟩,?_,?_,fun i x ee=>?_,fun i j h e1 e2=>?_⟩,?_,rfl,rfl,rfl,rfl⟩
 ·show Ris ((c_ mask owner).map (·.1)).toArray
  exact yc (by rw[BJ];exact pr)
 ·show ((c_ mask owner).map (·.1)).toArray.size=_
  simp[c_]
 ·show ((c_ mask owner).map (·.1)).toArray.size≤mask
  simp[len,hl]
 ·change ((c_ mask owner).map (·.1)).toArray[i]?=some x at ee
  rw[Dw,Av] at ee
  cases q:(c_ mask owner)[i]? with
  |none=>rw[q] at ee;cases ee
  |some p=>
   rw[q] at ee
   cases ee
   have:=(dG O.sz p.1 p.2).mp (AW q)
   have:=(CS.mp this).1
   show p.1≤mask
   have hz:=O.sz
   omega
 ·change ((c_ mask owner).map (·.1)).toArray[i]?=some j at e1
  change (((c_ mask owner).map (·.2)).toArray.toList.map fun i=>hs.getD i 0)[i]?=some h at e2
  rw[Dw,Av] at e1
  rw[Av,Av] at e2
  cases q:(c_ mask owner)[i]? with
  |none=>rw[q] at e1;cases e1
  |some p=>
   rw[q] at e1 e2
   cases e1
   have hp:=(dG O.sz p.1 p.2).mp (AW q)
   have hlt:=O.lt _ _ hp
   have e3:hs.toList[p.2]?=some h:=by
    have e4:hs.getD p.2 0=h:=by simpa using e2
    have:p.2 < hs.size:=by simpa using hlt
    rw[←e4]
    simp[Co,this]
   obtain ⟨m,q1,q2⟩:=O.reach _ _ h hp e3
   refine ⟨m,q1,fun m' hm=>?_⟩
   obtain ⟨v,hv⟩:=q2 m' hm
   obtain ⟨n,hn⟩:=BN.mp ((dG O.sz _ v).mpr hv)
   refine ⟨n,?_⟩
   show ((c_ mask owner).map (·.1)).toArray[n]?=_
   rw[Dw,Av,hn];rfl
 ·show ((c_ mask owner).map (·.2)).toArray.toList.Perm _
  simpa using perm
section
variable {prog:AC}{w:World}{A:A4}{E:Value→Ar→Prop}{s:Ar}
abbrev TK (prog:AC) (w:World) (h:Heap) (k:List Int) (b:Addr):Prop:=IsTupleKey (DD prog w) h k b
abbrev hsh (prog:AC) (w:World) (k:List Int):Int:=tupleKeyHash (DD prog w) k
theorem TK.ints {h:Heap}{k:List Int}{vs:List Value} (x:ItemsAre (DD prog w) k vs):∀v∈vs,∃n t,v=.int n t:=by
 induction x with
 |nil=>intro v hv;simp at hv
 |cons h1 _ ih=>
  intro v hv
  rcases Ay.mp hv with rfl |hv
  ·obtain ⟨t,rfl⟩:=CI h1;exact ⟨_,t,rfl⟩
  ·exact ih v hv
theorem jV {k:List Int}{a:Addr}{Q:Bool→Ar→Prop} (hk:TK prog w s.heap k a) (h:Q false s):wpAny (model prog w) A (Ed 8 (.ref a)) Q E s:=by
 have hT:=hk.typeIs
 obtain ⟨o,items,n,ho,_,hd,hi⟩:=hk
 unfold Ed
 refine An (Hn hT ?_)
 dsimp only
 rw[if_pos (by decide)]
 refine An (As ?_)
 simp only[CW,AQ,if_false]
 refine An (B3 ho hd ?_)
 dsimp only
 refine An ?_
 rw[←GZ]
 refine FK _ (fun rest r s'=>r.1=none∧s'=s∧∀v∈rest,∃n t,v=Bc n t) _ ?_ ?_ _ _ ⟨rfl,rfl,TK.ints (h:=s.heap) hi⟩
 ·rintro v rest r s' ⟨hr,rfl,hall⟩
  obtain ⟨n,t,rfl⟩:=hall v AE
  have e:Ed 7 (Bc n t)=pure false:=by unfold Ed;rfl
  rw[e]
  refine An (As ?_)
  simp only[AQ,if_false]
  exact As ⟨rfl,rfl,fun u hu'=>hall u (Au _ hu')⟩
 ·rintro ⟨r1,r2⟩ s' ⟨hr,rfl,_⟩
  simp only at hr
  subst hr
  exact As h
theorem yi {k:List Int}{a:Addr}{Q:Bool→Ar→Prop} (hk:TK prog w s.heap k a) (h:Q true s):wpAny (model prog w) A (GO 8 (.ref a)) Q E s:=by
 have hT:=hk.typeIs
 obtain ⟨o,items,n,ho,_,hd,hi⟩:=hk
 unfold GO
 refine An (D4 hT F.slot_tuple_hash.lookup ?_)
 show wpAny _ _ (HX (.ref a) >>=_) _ _ s
 refine An (B3 ho hd ?_)
 refine An ?_
 show wpAny _ _ (forIn items _ _) _ _ s
 rw[←GZ]
 refine FK _ (fun rest r s'=>r.1=none∧s'=s∧∀v∈rest,∃n t,v=Bc n t) _ ?_ ?_ _ _ ⟨rfl,rfl,TK.ints (h:=s.heap) hi⟩
 ·rintro v rest r s' ⟨hr,rfl,hall⟩
  obtain ⟨n,t,rfl⟩:=hall v AE
  have e:GO 7 (Bc n t)=pure true:=by unfold GO;rfl
  rw[e]
  refine An (As ?_)
  simp only[CW,AQ,if_false]
  exact As ⟨rfl,rfl,fun u hu'=>hall u (Au _ hu')⟩
 ·rintro ⟨r1,r2⟩ s' ⟨hr,rfl,_⟩
  simp only at hr
  subst hr
  exact As h
theorem nH {k:List Int}{a:Addr}{l:List Value}{Q:Bool→Ar→Prop} (hk:TK prog w s.heap k a) (hl:∀v∈l,∃k' b,v=.ref b∧TK prog w s.heap k' b) (h:Q false s):
  wpAny (model prog w) A (Hf (.ref a) l) Q E s:=by
 unfold Hf
 refine An ?_
 refine FK _ (fun rest r s'=>r.1=none∧s'=s∧∀v∈rest,∃k' b,v=.ref b∧TK prog w s.heap k' b) _ ?_ ?_ _ _ ⟨rfl,rfl,hl⟩
 ·rintro v rest r s' ⟨hr,rfl,hall⟩
  obtain ⟨k',b,rfl,hb⟩:=hall v AE
  dsimp only
  split
  ·exact As ⟨rfl,rfl,fun u hu'=>hall u (Au _ hu')⟩
  ·refine An (Gf hk ?_)
   simp only[CW,AQ,if_false]
   refine An (Gf hb ?_)
   simp only[CW,AQ,if_false]
   refine An (jV hk ?_)
   simp only[AQ,if_false]
   refine An (jV hb ?_)
   simp only[AQ,if_false]
   exact As ⟨rfl,rfl,fun u hu'=>hall u (Au _ hu')⟩
 ·rintro ⟨r1,r2⟩ s' ⟨hr,rfl,_⟩
  simp only at hr
  subst hr
  exact As h
def ents (prog:AC) (w:World) (kb:List (List Int×Addr)):List (Int×Value):=kb.map fun p=>(hsh prog w p.1,.ref p.2)
theorem pO {kb:List (List Int×Addr)}{i:Nat}:(ents prog w kb)[i]?=(kb[i]?).map fun p=>(hsh prog w p.1,.ref p.2):=by unfold ents;rw[Av]
theorem uG (kb:List (List Int×Addr)):(ents prog w kb).map (·.1)=kb.map fun p=>hsh prog w p.1:=by unfold ents;rw[Bp];rfl
theorem TOk.fits {t:SetTable}{hs:List Int} (T:TOk t hs) {n:Nat} (hn:hs.length=n):t.fits n=true:=by
 have h1:=T.n
 have h2:=T.f
 have h3:t.fill=t.place.size:=by unfold fill;rw[T.d];rfl
 unfold SetTable.fits
 rw[h3]
 simp[h1,hn]
 omega
theorem TOk.gave {t:SetTable}{hs:List Int} (T:TOk t hs):t.gaveWay=false:=by
 obtain ⟨k,h3,hk⟩:=T.k
 unfold SetTable.gaveWay
 obtain ⟨j,rfl⟩:∃j,k=j+1:=⟨k - 1,by omega⟩
 rw[CH] at hk
 have:t.mask % 2=1:=by omega
 simp[this]
theorem lF {S:Addr}{o:Obj}{es:Array (Int×Value)}{ep:Nat}{t:SetTable}{kb:List (List Int×Addr)}{k:List Int}{x:Addr} (hu:A.units < cLine)
  (ho:s.heap.get? S=some o) (hd:o.data=.set es ep t) (he:es.toList=ents prog w kb) (T:TOk t (kb.map fun p=>hsh prog w p.1)) (hkb:∀p∈kb,TK prog w s.heap p.1 p.2) (hx:TK prog w s.heap k x)
  {N:Nat} (hN:N < 10*turns t.mask) (h0:¬ Liv t (pth t.mask (hsh prog w k) N).j) (h1:∀m,m < N→Liv t (pth t.mask (hsh prog w k) m).j) {Q:SetFound→Ar→Prop}
  (qf:(∀p∈kb,p.1≠k)→Q (.free (pth t.mask (hsh prog w k) N).j false) s) (qt:(∃p∈kb,p.1=k)→Q (.there none) s):
  ∀(fuel n:Nat) (stand:Option Probe),n≤N→N - n < fuel→stand.getD (t.probeStart (hsh prog w k))=pth t.mask (hsh prog w k) n→
   (∀(m i:Nat) (p:List Int×Addr),m < n→t.place[i]?=some (pth t.mask (hsh prog w k) m).j→kb[i]?=some p→p.1≠k)→
   wpAny (model prog w) A (FC S (.ref x) (hsh prog w k) true fuel stand) Q E s:=by
 have hsz:es.size=kb.length:=by rw[←AR,he];simp[ents]
 have hfit:t.fits es.size=true:=T.fits (by rw[Aq,hsz])
 have eat:∀i:Nat,es[i]?=(kb[i]?).map fun (p:List Int×Addr)=>(hsh prog w p.1,Bi p.2):=fun i=>by rw[←Bg,he,pO]
 intro fuel
 induction fuel with
 |zero=>intro n stand _ h;omega
 |succ fuel ih=>
  intro n stand hn hf hst hpre
  unfold FC
  refine An (Cp ho hd hfit ?_)
  dsimp only
  rw[T.gave]
  simp only[AQ,if_false]
  rw[hst]
  have hash:∀(i:Nat) (p:List Int×Addr),kb[i]?=some p→((es[i]?.map (fun (e:Int×Value)=>e.1)).getD 0:Int)=hsh prog w p.1:=fun i p hp=>by rw[eat,hp];rfl
  have pg:=lO T (fun (i:Nat)=>(es[i]?.map (fun (e:Int×Value)=>e.1)).getD 0) (hsh prog w k) h0 h1 (10*turns t.mask) n hn (by omega)
  split
  ·rename_i met hmet
   rcases pg with ⟨e,hne⟩ |⟨m,i,hnm,hmN,hpl,hhi,e,hbef⟩
   ·have q:some met=some (.empty (pth t.mask (hsh prog w k) N).j none):=hmet.symm.trans e
    cases q
    dsimp only
    refine As (qf fun p hp hpk=>?_)
    obtain ⟨i,hi⟩:=BN.mp hp
    obtain ⟨m,j,hm,hpl,hj⟩:=t4 T (h:=hsh prog w k) h0 (i:=i) (by rw[Av,hi,←hpk];rfl)
    rcases Ca m n with hmn |hmn
    ·exact hpre m i p hmn (by rw[hj];exact hpl) hi hpk
    ·exact hne m i hmn hm (by rw[hj];exact hpl) (by rw[hash i p hi,hpk])
   ·have q:some met=some (.candidate (pth t.mask (hsh prog w k) m).j i (pth t.mask (hsh prog w k) (m+1))):=hmet.symm.trans e
    cases q
    dsimp only
    have hik:i < kb.length:=by rw[←hsz,←show t.place.size=es.size by rw[T.n,Aq,hsz]];exact o7 hpl
    obtain ⟨p,hp⟩:∃p,kb[i]?=some p:=⟨_,Am hik⟩
    have hpm:p∈kb:=AW hp
    have hei:es[i]?=some (hsh prog w p.1,Bi p.2):=by rw[eat,hp];rfl
    have rest:wpAny (model prog w) A (do
      let equal ←holding [Bi p.2] (eqBool (Bi p.2) (.ref x))
      let (es',_,t') ←setState S
      if true && equal then return .there none
      let some same:=t'.sameMemory t.moves t.mask |unsupported "set.changed-during-lookup:is-the-new-block-at-the-old-address"
      let still ←match (if same then t'.slot (pth t.mask (hsh prog w k) m).j else .empty) with
       | .live i'=>match es'[i']? with
        |some (_,y')=>do pure (if ←isSame y' (Bi p.2) then some i' else none)
        |none=>pure none
       |_=>pure none
      match still with
      |none=>rule "set.search.anew";FC S (.ref x) (hsh prog w k) true fuel none
      |some i'=>if equal then return .there (some i') else FC S (.ref x) (hsh prog w k) true fuel (some (pth t.mask (hsh prog w k) (m+1)))) Q E s:=by
     refine An (Bw (wpAny_eqBool_tuple hu (hkb p hpm) hx ?_))
     refine An (Cp ho hd hfit ?_)
     dsimp only
     by_cases hpk:p.1=k
     ·rw[decide_eq_true hpk]
      simp only[Bool.and_self,if_true]
      exact As (qt ⟨p,hpm,hpk⟩)
     ·rw[decide_eq_false hpk]
      simp only[GC,AQ,if_false]
      have hsm:t.sameMemory t.moves t.mask=some true:=by unfold SetTable.sameMemory;simp
      rw[hsm]
      dsimp only
      rw[if_pos rfl,jZ T.R hpl]
      dsimp only
      rw[hei]
      dsimp only
      refine An (wpAny_isSame_ref_self ?_)
      refine An (As ?_)
      simp only[if_true]
      refine ih (m+1) (some (pth t.mask (hsh prog w k) (m+1))) (by omega) (by omega) rfl fun m' i' p' hm' hpl' hp'=>?_
      rcases Ca m' n with z |z
      ·exact hpre m' i' p' z hpl' hp'
      ·rcases A5 (B_ hm') with y |y
       ·have:=hbef m' i' z y hpl'
        intro e'
        exact this (by rw[hash i' p' hp',e'])
       ·subst y
        have ei:=T.R.inj hpl hpl'
        subst ei
        rw[hp] at hp'
        cases hp'
        exact hpk
    by_cases hled:t.led=true
    ·rw[hled]
     simp only[CW,AQ,if_false]
     rw[hei]
     exact rest
    ·rw[show t.led=false by simpa using hled]
     simp only[Fc,if_true]
     refine An (nH hx (fun v hv=>?_) ?_)
     ·obtain ⟨e',he',rfl⟩:=Az.mp hv
      have hm':e'∈es.toList:=by
       have:=EB.mp he'
       exact EB.mpr (Array.mem_filter.mp this).1
      rw[he] at hm'
      obtain ⟨p',hp',rfl⟩:=Az.mp hm'
      exact ⟨p'.1,p'.2,rfl,hkb p' hp'⟩
     ·simp only[AQ,if_false]
      rw[hei]
      exact rest
  ·rename_i hno
   rcases pg with ⟨e,hne⟩ |⟨m,i,hnm,hmN,hpl,hhi,e,hbef⟩
   ·exact absurd e (hno _)
   ·exact absurd e (hno _)
end
section
variable {prog:AC}{w:World}{A:A4}{E:Value→Ar→Prop}{s:Ar}
structure SP (prog:AC) (w:World) (h:Heap) (S:Addr) (kb:List (List Int×Addr)):Prop where
 ex:∃o es ep t,h.get? S=some o∧o.ExactSet∧o.data=.set es ep t∧es.toList=ents prog w kb∧TOk t (kb.map fun p=>hsh prog w p.1)∧t.led=(!w.params.followText "set-order")∧t.plain=true∧t.tooFull=false∧t.mask < 8*kb.length+8
 keys:∀p∈kb,TK prog w h p.1 p.2
 nd:(kb.map (·.1)).Nodup
theorem TK.keep {h h':Heap}{k:List Int}{b S:Addr}{o:Obj}{es ep t} (x:TK prog w h k b) (ho:h.get? S=some o) (hd:o.data=.set es ep t) (hs:Dv S h h'):TK prog w h' k b:=by
 obtain ⟨o',items,n,ho',hc,hd',hi⟩:=x
 have hne:b≠S:=by
  rintro rfl
  obtain rfl:o'=o:=Bo (ho'.symm.trans ho)
  rw[hd] at hd';exact nomatch hd'
 exact ⟨o',items,n,(hs.2 b hne).trans ho',hc,hd',hi⟩
theorem n8 (x:Addr) (es:Array (Int×Value)):byScan (.ref x) es=false:=by simp[byScan,Value.scannable]
theorem me {α β:Type} (f:α→β) (xs:List α) (p:Nat) (x:α):(fY xs p x).map f=fY (xs.map f) p (f x):=by
 unfold fY;rw[BO,BE,List.map_take,Jo]
theorem eE {α:Type} (xs:List α) (p:Nat) (x:α):(fY xs p x).Perm (xs++[x]):=by
 unfold fY
 refine HC.trans ?_
 rw[Gg]
 exact (List.perm_append_singleton x xs).symm
theorem lG {α β:Type}{kb:List α} (f:α→β) (d:β):∀(o:List Nat),(∀i∈o,i < kb.length)→o.map (fun i=>((kb.map f).toArray).getD i d)=(o.filterMap fun i=>kb[i]?).map f
 |[],_=>rfl
 |i::o,h=>by
  have hi:=h i AE
  rw[BE,Be,Am hi,lG f d o fun j hj=>h j (Au _ hj)]
  simp[Co,hi]
theorem qK {α:Type}{kb:List α}{o:List Nat} (h:o.Perm (Bj kb.length)):(o.filterMap fun i=>kb[i]?).Perm kb:=by
 refine (h.filterMap _).trans ?_
 suffices (Bj kb.length).filterMap (fun i=>kb[i]?)=kb by rw[this]
 have:∀(l pre:List α),(List.range' pre.length l.length).filterMap (fun i=>(pre++l)[i]?)=l:=by
  intro l
  induction l with
  |nil=>intro pre;rfl
  |cons x l ih=>
   intro pre
   rw[A9,List.range'_succ,Be]
   have e:(pre++x::l)[pre.length]?=some x:=by rw[A0 (Aw _)];simp
   rw[e]
   have:=ih (pre++[x])
   rw[Fp,Bx] at this
   simpa using this
 have q:=this kb []
 simpa [List.range_eq_range'] using q
theorem vH {t:SetTable}{hs:List Int} (T:TOk t hs) (h:t.tooFull=false):t.place.size+1≤t.mask:=by
 obtain ⟨k,h3,hk⟩:=T.k
 have hf:t.fill=t.place.size:=by unfold fill;rw[T.d];rfl
 have h8:2 ^ 3≤2 ^ k:=DE (by decide) h3
 unfold tooFull at h
 rw[hf] at h
 simp at h
 omega
theorem yu {S:Addr}{o:Obj}{es:Array (Int×Value)}{ep:Nat}{t:SetTable}{kb:List (List Int×Addr)}{Q:Unit→Ar→Prop} (ho:s.heap.get? S=some o) (hex:o.ExactSet) (hd:o.data=.set es ep t) (he:es.toList=ents prog w kb)
  (T:TOk t (kb.map fun p=>hsh prog w p.1)) (hl:t.led=(!w.params.followText "set-order")) (hp:t.plain=true) (hkb:∀p∈kb,TK prog w s.heap p.1 p.2) (hnd:(kb.map (·.1)).Nodup) (h1:0 < kb.length) (hn:kb.length≤1000)
  (h:∀h' kb',Dv S s.heap h'→SP prog w h' S kb'→kb'.Perm kb→Q () {s with heap:=h' }):wpAny (model prog w) A (setRelay S (grown kb.length)) Q E s:=by
 have hsz:es.size=kb.length:=by rw[←AR,he];simp[ents]
 have hfit:t.fits es.size=true:=T.fits (by rw[Aq,hsz])
 have eat:∀i:Nat,es[i]?=(kb[i]?).map fun (p:List Int×Addr)=>(hsh prog w p.1,Bi p.2):=fun i=>by rw[←Bg,he,pO]
 have hg:grown kb.length=kb.length*4:=by unfold grown;rw[if_neg (by omega)]
 rw[hg]
 obtain ⟨k,k3,ek,lk,uk⟩:=above (kb.length*4) (by omega)
 have hmask:(sizeAbove (kb.length*4) - 1)+1=2 ^ k:=by omega
 obtain ⟨t',order,e,T',hord,em,el,ep',_⟩:=uF k3 hmask (hs:=es.map (·.1)) (by rw[IJ,hsz];omega) t.finger (t.movedTo (sizeAbove (kb.length*4) - 1)) t.led t.plain
 have hrel:t.relaid (es.map (·.1)) (kb.length*4)=some (t',order):=e
 have hord':order.toList.Perm (Bj kb.length):=by rw[IJ,hsz] at hord;exact hord
 have hlt:∀i∈order.toList,i < kb.length:=fun i hi=>AV.mp (hord'.mem_iff.mp hi)
 have hpk:=qK hord'
 have hes:(order.filterMap (fun i=>es[i]?)).toList=ents prog w (order.toList.filterMap fun i=>kb[i]?):=by
  rw[Array.toList_filterMap]
  unfold ents
  rw[G0]
  congr 1
  funext i
  rw[eat]
 have hes2:(order.filterMap (fun i=>es[i]?)).size=es.size:=by
  rw[←AR,hes,hsz]
  unfold ents
  rw[Aq,hpk.length_eq]
 unfold setRelay
 refine An (Cp ho hd hfit ?_)
 dsimp only
 rw[if_neg (by rw[ek,BA];omega),hrel]
 have goal:wpAny (model prog w) A (do
   if (order.filterMap (fun i=>es[i]?)).size !=es.size then unsupported "internal:set-table-lost-an-element"
   pure (order.filterMap (fun i=>es[i]?),t'):Sem (Array (Int×Value)×SetTable)) (fun r s'=>wpAny (model prog w) A (storeSet S r.1 r.2) Q E s') E s:=by
  rw[hes2]
  simp only[bne_self_eq_false,AQ,if_false]
  refine As ?_
  refine Hg ho hd ?_ (by rw[hes2,hsz,BA];omega)
  have hg':(s.heap.update S (Ee (order.filterMap (fun i=>es[i]?)) t')).get? S=some {o with data:=.set (order.filterMap (fun i=>es[i]?)) (ep+1) t' }:=by
   have:=BP (Ee (order.filterMap (fun i=>es[i]?)) t') ho (by rw[HY _ t' hd];rfl)
   rw[HY _ t' hd] at this;exact this
  have hsb:=CN s.heap S (Ee (order.filterMap (fun i=>es[i]?)) t')
  refine h _ (order.toList.filterMap fun i=>kb[i]?) hsb ⟨⟨_,_,_,t',hg',hex,rfl,hes,?_,by rw[el];exact hl,by rw[ep'];exact hp,?_,?_⟩,fun p hp'=>?_,?_⟩ hpk
  ·have:=lG (kb:=kb) (fun p=>hsh prog w p.1) 0 order.toList hlt
   rw[←this]
   have e2:(es.map (·.1))=((kb.map fun p=>hsh prog w p.1)).toArray:=by
    apply FL.mp
    rw[FM,he,uG]
   rw[e2] at T'
   exact T'
  ·have hf:t'.fill=t'.place.size:=by unfold fill;rw[T'.d];rfl
   have hn':=T'.n
   rw[Aq,hord'.length_eq,Ef] at hn'
   unfold tooFull
   rw[hf,hn',em]
   simp
   omega
  ·rw[em,hpk.length_eq];omega
  ·exact (hkb p (hpk.mem_iff.mp hp')).keep ho hd hsb
  ·exact ((hpk.map (·.1)).nodup_iff).mpr hnd
 exact An goal
end
section
variable {prog:AC}{w:World}{A:A4}{E:Value→Ar→Prop}{s:Ar}
theorem ou {S x:Addr}{kb:List (List Int×Addr)}{k:List Int}{Q:Bool→Ar→Prop} (hu:A.units < cLine) (P:SP prog w s.heap S kb) (hx:TK prog w s.heap k x) (hn:kb.length < 1000)
  (h:∀b h' kb',Dv S s.heap h'→SP prog w h' S kb'→(if k∈kb.map (·.1) then kb'=kb else kb'.Perm (kb++[(k,x)]))→Q b {s with heap:=h' }):
  wpAny (model prog w) A (setAddHashed S (.ref x) (hsh prog w k)) Q E s:=by
 obtain ⟨⟨o,es,ep,t,ho,hex,hd,he,T,hl,hp,hfull,hmask⟩,hkb,hnd⟩:=P
 have P0:SP prog w s.heap S kb:=⟨⟨o,es,ep,t,ho,hex,hd,he,T,hl,hp,hfull,hmask⟩,hkb,hnd⟩
 have hsz:es.size=kb.length:=by rw[←AR,he];simp[ents]
 have hfit:t.fits es.size=true:=T.fits (by rw[Aq,hsz])
 obtain ⟨N,hN,h0,h1⟩:=nC T (hsh prog w k)
 have hN':N < 100000:=by unfold turns at hN;omega
 unfold setAddHashed setAddHashedIn
 refine Bw (An (Cp ho hd hfit ?_))
 dsimp only
 rw[n8]
 simp only[AQ,if_false]
 unfold setSearch
 refine An (lF hu ho hd he T hkb hx hN h0 h1 (fun hno=>?_) (fun hyes=>?_) 100000 0 none (Bh _) (by omega) rfl fun m i p hm=>by omega)
 ·dsimp only
  have hk:k ∉ kb.map (·.1):=fun z=>by obtain ⟨p,hp',e⟩:=Az.mp z;exact hno p hp' e
  refine An (Cp ho hd hfit ?_)
  dsimp only
  generalize hj:(pth t.mask (hsh prog w k) N).j=j at *
  have T1:=T.put (h:=hsh prog w k) (N:=N) (by rw[hj];exact h0) h1 (by have:=rT (mask:=t.mask) (hsh prog w k) N;omega) (vH T hfull)
  rw[hj] at T1
  have epl:(t.put j).1.plain=true:=hp
  have eled:(t.put j).1.led=(!w.params.followText "set-order"):=hl
  have emask:(t.put j).1.mask=t.mask:=rfl
  generalize (t.put j).1=t1 at *
  generalize (t.put j).2=q at *
  have hlen1:(fY kb q (k,x)).length=kb.length+1:=by rw[(eE kb q (k,x)).length_eq];simp
  have he1:(insertAt es q (hsh prog w k,Bi x)).toList=ents prog w (fY kb q (k,x)):=by
   rw[dY,he]
   unfold ents
   rw[me]
   rfl
  have hsz1:(insertAt es q (hsh prog w k,Bi x)).size=kb.length+1:=by
   rw[←AR,he1];unfold ents;rw[Aq,hlen1]
  have T2:TOk t1 ((fY kb q (k,x)).map fun p=>hsh prog w p.1):=by rw[me];exact T1
  rw[if_pos epl]
  refine An (yi hx ?_)
  rw[if_pos rfl]
  have hg1:(s.heap.update S (Ee (insertAt es q (hsh prog w k,Bi x)) t1)).get? S=some {o with data:=.set (insertAt es q (hsh prog w k,Bi x)) (ep+1) t1 }:=by
   have:=BP (Ee (insertAt es q (hsh prog w k,Bi x)) t1) ho (by rw[HY _ t1 hd];rfl)
   rw[HY _ t1 hd] at this;exact this
  have hsb:=CN s.heap S (Ee (insertAt es q (hsh prog w k,Bi x)) t1)
  have hkb1:∀p∈fY kb q (k,x),TK prog w (s.heap.update S (Ee (insertAt es q (hsh prog w k,Bi x)) t1)) p.1 p.2:=fun p hp'=>by
   have:=(eE kb q (k,x)).mem_iff.mp hp'
   rcases Cr.mp this with z |z
   ·exact (hkb p z).keep ho hd hsb
   ·rw[Br.mp z];exact hx.keep ho hd hsb
  have hnd1:((fY kb q (k,x)).map (·.1)).Nodup:=by
   rw[((eE kb q (k,x)).map (·.1)).nodup_iff,BO,Fq]
   refine ⟨hnd,by simp,fun a ha b hb=>?_⟩
   simp at hb
   subst hb
   rintro rfl
   exact hk ha
  refine An (Hg ho hd ?_ (by rw[hsz1,BA];omega))
  rw[Fc,EH]
  by_cases hft:t1.tooFull=true
  ·rw[if_pos hft,hsz,←hlen1]
   refine An (yu (s:={s with heap:=s.heap.update S (Ee (insertAt es q (hsh prog w k,Bi x)) t1) }) hg1 hex rfl he1 T2 eled epl hkb1 hnd1 (by omega) (by omega) fun h' kb' hsb' P' pm=>As ?_)
   exact h true h' kb' (hsb.trans hsb') P' (by rw[if_neg hk];exact pm.trans (eE kb q (k,x)))
  ·rw[if_neg hft]
   refine As (h true _ (fY kb q (k,x)) hsb ⟨⟨_,_,_,t1,hg1,hex,rfl,he1,T2,eled,epl,by simpa using hft,by rw[emask,hlen1];omega⟩,hkb1,hnd1⟩ (by rw[if_neg hk];exact eE kb q (k,x)))
 ·dsimp only
  refine As ?_
  have hk:k∈kb.map (·.1):=by obtain ⟨p,hp',e⟩:=hyes;exact Az.mpr ⟨p,hp',e⟩
  exact h false s.heap kb (He S s.heap) P0 (by rw[if_pos hk])
end
section
variable {prog:AC}{w:World}{A:A4}
theorem TK.moved {s s':Ar}{wr:List Addr}{G:Array DA→Array DA→Prop}{k:List Int}{b:Addr} (x:TK prog w s.heap k b) (hb:b ∉ wr) (m:Moved wr G s s'):TK prog w s'.heap k b:=by
 obtain ⟨o,its,n,ho,hc,hd,hi⟩:=x
 exact ⟨o,its,n,m.heap b o hb ho,hc,hd,hi⟩
theorem SP.moved {s s':Ar}{wr:List Addr}{G:Array DA→Array DA→Prop}{S:Addr}{kb:List (List Int×Addr)} (x:SP prog w s.heap S kb) (hS:S ∉ wr) (hb:∀p∈kb,p.2 ∉ wr) (m:Moved wr G s s'):SP prog w s'.heap S kb:=by
 obtain ⟨⟨o,es,ep,t,ho,r⟩,hk,hn⟩:=x
 exact ⟨⟨o,es,ep,t,m.heap S o hS ho,r⟩,fun p hp=>(hk p hp).moved (hb p hp) m,hn⟩
structure Got (kx:Nat→List Int×Addr) (i:Nat) (kb:List (List Int×Addr)):Prop where
 src:∀p∈kb,∃j,j < i∧p=kx j
 all:∀j,j < i→(kx j).1∈kb.map (·.1)
 len:kb.length≤i
variable {R:GT→Ar→Prop}{I:Addr}{fp wr:List Addr}{G:Array DA→Array DA→Prop}{n:Nat}{P:Nat→Value→Prop}{St:Nat→Ar→Prop}
theorem tI (W:WalksS prog w A.in1 I fp wr G n P St) (hu:A.in1.units < cLine) {S:Addr} (hSf:S ∉ fp) (kx:Nat→List Int×Addr) (hP:∀i v,P i v→v=.ref (kx i).2) (hwr:∀i,i < n→(kx i).2 ∉ wr) (hn:n≤1000):
  ∀(k i:Nat) (s:Ar) (kb:List (List Int×Addr)),n - i=k→i≤n→St i s→SP prog w s.heap S kb→Got kx i kb→(∀j,j < n→TK prog w s.heap (kx j).1 (kx j).2)→
   (∀s' kb',Moved (S::wr) G s s'→SP prog w s'.heap S kb'→Got kx n kb'→R (.ok (.ret .none)) s')→
   EN (model prog w) A (.builtin "set.update.loop" ⟨[.ref S,.ref I],[]⟩) R s:=by
 have hSw:S ∉ wr:=fun h=>hSf (W.sub _ h)
 have more:∀b∈wr,b∈S::wr:=fun b hb=>Au _ hb
 intro k
 induction k with
 |zero=>
  intro i s kb hk hi st hS g tk hR
  obtain rfl:i=n:=by omega
  refine Cu PyProof.Rows.F.entry_set_update_loop ?_
  rw[BV PyProof.Rows.F.plain_set_update_loop _]
  show wpAny _ A.in1 (EM (.ref I) >>=_) _ _ s
  refine An (W.done s _ _ st fun s' m=>?_)
  exact As (hR s' kb (m.mono more) (hS.moved hSw (fun p hp=>by obtain ⟨j,hj,rfl⟩:=g.src p hp;exact hwr j hj) m) g)
 |succ k ih=>
  intro i s kb hk hi st hS g tk hR
  have hlt:i < n:=by omega
  have hkb:∀p∈kb,p.2 ∉ wr:=fun p hp=>by obtain ⟨j,hj,rfl⟩:=g.src p hp;exact hwr j (by omega)
  refine Cu PyProof.Rows.F.entry_set_update_loop ?_
  rw[BV PyProof.Rows.F.plain_set_update_loop _]
  show wpAny _ A.in1 (EM (.ref I) >>=_) _ _ s
  refine An (W.item i s _ _ hlt st fun v s1 pv st1 m=>?_)
  obtain rfl:=hP i v pv
  have hS1:=hS.moved hSw hkb m
  have tk1:∀j,j < n→TK prog w s1.heap (kx j).1 (kx j).2:=fun j hj=>(tk j hj).moved (hwr j hj) m
  show wpAny _ A.in1 (holding [Bi (kx i).2] (setAdd S (.ref (kx i).2)) >>=_) _ _ s1
  refine An (Bw ?_)
  unfold setAdd
  refine Bw (An (wpAny_pyHash_tuple hu (tk1 i hlt) ?_))
  refine ou (s:={s1 with toks:=s1.toks+((kx i).1.length+1) }) hu hS1 (tk1 i hlt) (by have:=g.len;omega) fun b h' kb' sb hS2 hkk=>?_
  obtain ⟨⟨o,es,ep,t,ho,hex,hd,hrest⟩,hks,hnd⟩:=hS1
  have same:∀b o,b ∉ S::wr→s1.heap.get? b=some o→h'.get? b=some o:=fun b o hb e=>by rw[sb.2 b (fun z=>hb (by rw[z];exact AE))];exact e
  refine As ⟨CF PyProof.Rows.F.plain_set_update_loop _,ih (i+1) _ kb' (by omega) hlt (W.frame _ s1 _ _ st1 (by show s1.toks≤s1.toks+_;omega) fun b hb o e=>?_) hS2 ?_ (fun j hj=>(tk1 j hj).keep ho hd sb) fun s2 kb2 m2 hS3 g2=>?_⟩
  ·rw[sb.2 b (fun z=>hSf (by rw[←z];exact hb))];exact e
  ·by_cases hin:(kx i).1∈kb.map (·.1)
   ·rw[if_pos hin] at hkk
    subst hkk
    refine ⟨fun p hp=>?_,fun j hj=>?_,by have:=g.len;omega⟩
    ·obtain ⟨j,hj,e⟩:=g.src p hp;exact ⟨j,by omega,e⟩
    ·rcases A5 (B_ hj) with z |z
     ·exact g.all j z
     ·rw[z];exact hin
   ·rw[if_neg hin] at hkk
    refine ⟨fun p hp=>?_,fun j hj=>?_,by rw[hkk.length_eq];have:=g.len;simp;omega⟩
    ·rcases Cr.mp (hkk.mem_iff.mp hp) with z |z
     ·obtain ⟨j,hj,e⟩:=g.src p z;exact ⟨j,by omega,e⟩
     ·exact ⟨i,Dm i,by rw[Br.mp z]⟩
    ·rw[(hkk.map (·.1)).mem_iff,BO]
     rcases A5 (B_ hj) with z |z
     ·exact BK _ (g.all j z)
     ·rw[z];exact AI _ (by simp)
  ·exact hR s2 kb2 (Moved.trans W.gtrans ((m.mono more).then_heap (by show s1.toks≤s1.toks+_;omega) same) m2) hS3 g2
end
section
variable {prog:AC}{w:World}{A:A4}{E:Value→Ar→Prop}{s:Ar}
abbrev bZ (w:World):Obj:={cls:=.type "set",dict:=none,data:=.set #[] 0 (.fresh 0 0 (!w.params.followText "set-order")) }
theorem sT:TOk (.fresh 0 0 (!w.params.followText "set-order")) [] where
 R:=by intro i j x y _ h;simp[SetTable.fresh] at h
 d:=rfl
 k:=⟨3,by decide,rfl⟩
 n:=rfl
 f:=by show 0≤7;decide
 le:=by intro i x h;simp[SetTable.fresh] at h
 reach:=by intro i x h hi;simp[SetTable.fresh] at hi
theorem t6 {h:Heap}{S:Addr} (e:h.get? S=some (bZ w)):SP prog w h S []:=by
 refine ⟨⟨_,_,_,_,e,⟨rfl,rfl,rfl⟩,rfl,rfl,sT,rfl,rfl,by simp[SetTable.tooFull,SetTable.fresh,SetTable.fill],by show 7 < 8;decide⟩,fun p hp=>by simp at hp,by simp⟩
theorem vM (a:Value) {Q:Value→Ar→Prop} (h:Q (.ref s.heap.objs.size) {s with heap:=s.heap.push (bZ w) }):
  EN (model prog w) A (.call (.builtin "set.__new__") ⟨[.type "set",a],[]⟩) (wants Q E) s:=by
 refine HZ ?_
 show wpAny _ A.in1 (do HD "set.__new__" ⟨[.type "set",a],[]⟩;again (.builtin "set.__new__" ⟨[.type "set",a],[]⟩)) _ _ s
 refine An (H_ (PySem.F.newCall_set_1 a) (As ⟨CF Gh _,Cu PySem.F.entry_set_new ?_⟩))
 rw[BV Gh _]
 unfold Builtin.«set.__new__» Builtin.Frozenset.newClass
 have hsub:=sub_set_self
 obtain ⟨hp,g,d,tk,os⟩:=s
 dsimp only
 wp_walk
 refine DO (As ?_)
 dsimp only
 simp only[newObj]
 exact An (wpAny_alloc (As (As h)))
end
section
variable {prog:AC}{w:World}{A:A4}{E:Value→Ar→Prop}{s:Ar}
set_option maxRecDepth 100000 in
theorem call_set_pts {l:Addr}{items:Array Value}{Q:Value→Ar→Prop} (kx:Nat→List Int×Addr) (hh:A.handled=none) (hu:A.in1.in1.in1.units < cLine) (hl:s.heap.IsList l items)
  (hit:∀(i:Nat) (v:Value),items[i]?=some v→v=.ref (kx i).2) (htk:∀i,i < items.size→TK prog w s.heap (kx i).1 (kx i).2) (hn:items.size≤1000)
  (h:∀(h':Heap) (tk:Nat) (kb:List (List Int×Addr)),SP prog w h' s.heap.objs.size kb→Got kx items.size kb→(∀b o,s.heap.get? b=some o→h'.get? b=some o)→Q (.ref s.heap.objs.size) {s with heap:=h',toks:=tk }):
  wpAny (model prog w) A (call (.type "set") [.ref l]) Q E s:=by
 obtain ⟨cc,tl,hmro⟩:=Cc.mro
 have hmade:=Cc.made
 have hsub:=Cc.sub
 refine Je (HZ ?_)
 show wpAny _ _ (callAny (.type "set") _) _ _ _
 refine As ⟨Code.quiet_builtin _ (by decide+kernel),Cu PySem.F.entry_type_call ?_⟩
 rw[Around.under_plain (weight_type_call_type "set" [.ref l] []) rfl]
 have g1:=Cc.notType
 have g2:=Cc.canCreate
 have g3:=PySem.F.typeCall_set_1 (.ref l)
 repeat (any_goals (first |assumption |wp_step))
 refine Er (vM (w:=w) (.ref l) (E:=E) (Q:=fun obj s₁=>obj=.ref s.heap.objs.size∧s₁={s with heap:=s.heap.push (bZ w) }) ⟨rfl,rfl⟩) fun r s₁ hr=>?_
 cases r with
 |error e=>exact hr
 |ok fl=>
  cases fl with
  |ret obj=>
   obtain ⟨rfl,rfl⟩:=hr
   have hS:(s.heap.push (bZ w)).get? s.heap.objs.size=some (bZ w):=AD _ rfl
   have hT:Jp {s with heap:=s.heap.push (bZ w) } (.ref s.heap.objs.size) "set":=⟨_,hS,rfl⟩
   have hli:=Cc.init.lookup
   have hbi:=Cc.init.bind (.ref s.heap.objs.size)
   repeat (any_goals (first |assumption |wp_step))
   refine Er (codeAny_call_builtin (R:=wants (fun r s₂=>r=.none∧∃h' tk kb,s₂={s with heap:=h',toks:=tk }∧
     SP prog w h' s.heap.objs.size kb∧Got kx items.size kb∧(∀b o,s.heap.get? b=some o→h'.get? b=some o)) E) Cc.init.plain PySem.F.entry_set_init (check_set_init_1 hT ?_)) fun r₂ s₂ hr₂=>?_
   ·obtain ⟨ol,hol,hcl,nl,hdl⟩:=hl
    obtain ⟨ocls,odict,odata,oslots⟩:=ol
    simp only at hcl hdl
    subst hcl;subst hdl
    have hol':(s.heap.push (bZ w)).get? l=some {cls:=.type "list",dict:=odict,data:=.seq items nl,slots:=oslots }:=Ap _ hol
    have k1:=PySem.F.sub_list_set
    have k2:=PySem.F.sub_list_frozenset
    have k3:(BU "list"==BU "dict")=false:=by decide
    have hl1:(s.heap.push (bZ w)).IsList l items:=⟨_,hol',rfl,nl,rfl⟩
    unfold Builtin.«set.__init__» noKeywords Builtin.Frozenset.updateFrom
    generalize hPI:Jv=PI
    wp_walk
    subst hPI
    refine Cj hl1 (An (wpAny_runValue ?_))
    have hlS:l < s.heap.objs.size:=AB hol
    have h3:A.in1.in1.in1.handled=none:=by simp[hh]
    have szI:(s.heap.push (bZ w)).objs.size=s.heap.objs.size+1:=BC ..
    have hneI:l≠(s.heap.push (bZ w)).objs.size:=by rw[szI];exact AZ (Ck hlS)
    have hSf:s.heap.objs.size ∉ [(s.heap.push (bZ w)).objs.size,l]:=by
     rw[szI]
     intro z
     rcases Ay.mp z with z |z
     ·exact absurd z (AZ (Dm _))
     ·exact absurd (Br.mp z) (Cs hlS)
    refine tI ((Walks.list h3 _ l hneI items).toS) hu hSf kx hit (fun i hi=>?_) hn (items.size - 0) 0 _ [] (by omega) (Bh _)
     ⟨⟨_,AD _ rfl,rfl,rfl⟩,(hl1.push _)⟩ ?_ ⟨fun p hp=>by simp at hp,fun j hj=>by omega,by simp⟩ (fun j hj=>?_) fun s' kb m hS' g=>?_
    ·intro z
     have z':=Br.mp z
     obtain ⟨o,_,_,ho,_⟩:=htk i hi
     have:=AB ho
     rw[z',szI] at this
     exact Bv _ (Gd (Dm _) this)
    ·exact t6 (Ap _ hS)
    ·obtain ⟨o,its,k,ho,r⟩:=htk j hj
     exact ⟨o,its,k,Ap _ (Ap _ ho),r⟩
    ·obtain ⟨h',g',d',tk',os'⟩:=s'
     obtain rfl:g'=s.gens:=m.gens
     obtain rfl:d'=s.drawn:=m.drawn
     obtain rfl:os'=s.os:=m.os
     refine As ?_
     show wpAny _ _ (ret AY) _ _ _
     refine As ⟨rfl,h',tk',kb,rfl,hS',g,fun b o e=>?_⟩
     have hb:=AB e
     refine m.heap b o (fun z=>?_) (Ap _ (Ap _ e))
     rcases Ay.mp z with z |z
     ·exact absurd z (AZ hb)
     ·have z':=Br.mp z
      rw[z',szI] at hb
      exact Bv _ (Gd (Dm _) hb)
   ·cases r₂ with
    |error e=>exact hr₂
    |ok fl₂=>
     cases fl₂ with
     |ret r=>
      obtain ⟨rfl,h',tk,kb,rfl,hS',g,hk'⟩:=hr₂
      repeat (any_goals (first |assumption |wp_step))
      exact h _ _ kb hS' g hk'
     |_=>exact hr₂.elim
  |_=>exact hr.elim
end
theorem dy:Slot "set_iterator" "__next__" "set_iterator.__next__":=
 .of (owner:="set_iterator") (n:="__next__") (by rw[ER,Dx];kernel_rfl) (by decide+kernel) (by decide+kernel) (by decide+kernel) (by first |exact .inl (by decide+kernel) |exact .inr (by decide+kernel)) (by rw[DJ];kernel_rfl)
theorem jo:entryFor table "set_iterator.__next__"=some Builtin.«set_iterator.__next__»:=entryFor_of_tree (by kernel_rfl)
theorem j6 (a:Value):Jz "set_iterator.__next__" ⟨[a],[]⟩:=by unfold Jz;kernel_rfl
theorem nJ:entryFor table "set.__iter__"=some Builtin.«frozenset.__iter__»:=IK (id':="frozenset.__iter__") (by kernel_rfl) rfl (by decide+kernel) (by kernel_rfl)
theorem nB {α:Type}{l:List α}{i:Nat} (h:i < l.length):(l[i]::l.eraseIdx i).Perm l:=by
 rw[List.eraseIdx_eq_take_drop_succ]
 refine HC.symm.trans ?_
 rw[←Fb h,Gg]
theorem oU {α:Type} (next:Nat→Nat):∀(fuel k:Nat) (left:List α) (out:Array α),left.length=fuel→(pickOrder.go next fuel k left out).toList.Perm (out.toList++left)
 |0,k,left,out,h=>by
  obtain rfl:left=[]:=Cb.mp h
  rw[pickOrder.go,D3]
 |fuel+1,k,left,out,h=>by
  have hi:next k % left.length < left.length:=Cf _ (by omega)
  rw[pickOrder.go,Am hi]
  refine (oU next fuel (k+1) _ _ (by rw[List.length_eraseIdx_of_lt hi];omega)).trans ?_
  rw[Array.toList_push,Fp]
  refine List.Perm.append_left _ ?_
  rw[List.singleton_append]
  exact nB hi
theorem tH {α:Type} (next:Nat→Nat) (xs:Array α):(G3 next xs).toList.Perm xs.toList:=by
 unfold G3
 have:=oU next xs.size 0 xs.toList #[] (by simp)
 simpa using this
section
variable {prog:AC}{w:World}{A:A4}{E:Value→Ar→Prop}{s:Ar}
def cB (w:World) (S:Addr) (es:Array (Int×Value)) (ep:Nat):List Value:=(if w.params.followText "set-order"=true then G3 (w.params.setOrder S ep) es else es).toList.map (·.2)
theorem eU (w:World) (S:Addr) (es:Array (Int×Value)) (ep:Nat):(cB w S es ep).Perm (es.toList.map (·.2)):=by
 unfold cB
 refine List.Perm.map _ ?_
 split
 ·exact tH _ es
 ·exact GE _
def fz (t:SetTable):Nat→Nat
 |0=>0
 |j+1=>t.place.getD j 0+1
def ba (w:World) (t:SetTable) (i:Nat):Nat:=if w.params.followText "set-order"=true then 0 else fz t i
def nE (w:World) (h:Heap) (it S:Addr) (t:SetTable) (i n ep:Nat):Prop:=∃o,h.get? it=some o∧o.cls=.type "set_iterator"∧o.data=.fields #[Ds (ba w t i),Ds i,.ref S,Ds n,Ds ep]
theorem nE.ty {it S:Addr}{t:SetTable}{i n ep:Nat} (x:nE w s.heap it S t i n ep):s.TypeIs (.ref it) "set_iterator":=let ⟨o,ho,hc,_⟩:=x;⟨o,ho,hc⟩
structure SO (prog:AC) (w:World) (o:Obj) (es:Array (Int×Value)) (ep:Nat) (t:SetTable) (hs:List Int):Prop where
 ex:o.ExactSet
 d:o.data=.set es ep t
 T:TOk t hs
 n:hs.length=es.size
 led:t.led=(!w.params.followText "set-order")
 plain:t.plain=true
theorem tF {S:Addr}{o:Obj}{es ep t hs}{Q:Bool→Ar→Prop} (O:SO prog w o es ep t hs) (ho:s.heap.get? S=some o) (h:Q false s):wpAny (model prog w) A (setDrawn S) Q E s:=by
 unfold setDrawn Jg
 refine An (Cp ho O.d (O.T.fits O.n) (An (An (DO (As (As ?_))))))
 have q:Q (!w.params.followText "set-order" && (!t.plain && decide (es.size >1))) s:=by rw[O.plain];simpa using h
 exact q
theorem ro {S:Addr}{o:Obj}{es ep t hs}{Q:Value→Ar→Prop} (O:SO prog w o es ep t hs) (ho:s.heap.get? S=some o)
  (hQ:Q (.ref s.heap.objs.size) {s with heap:=s.heap.push {cls:=.type "set_iterator",data:=.fields #[Ds 0,Ds 0,.ref S,Ds es.size,Ds ep] } }):wpAny (model prog w) A (Jv (.ref S)) Q E s:=by
 have hT:s.TypeIs (.ref S) "set":=⟨o,ho,O.ex.1⟩
 refine Hh hT Gi (B6 Gi hT nJ ?_ (PySem.F.args_set_iter_1 _))
 unfold Builtin.«frozenset.__iter__»
 show wpAny _ _ (Builtin.Frozenset.sizeOf S >>=_) _ _ s
 unfold Builtin.Frozenset.sizeOf
 refine An (An (ES ho O.d (O.T.fits O.n) (As ?_)))
 refine An (tF O ho ?_)
 simp only[AQ,if_false]
 refine An (As ?_)
 refine An (wpAny_setEpoch_of ho O.d (O.T.fits O.n) ?_)
 refine An (C8 (As ⟨_,rfl,"set_iterator",_,⟨_,AD _ rfl,rfl⟩,dy.lookup,?_⟩))
 exact hQ
theorem nL {t:SetTable}{hs:List Int} (T:TOk t hs) {i:Nat} (hi:i≤t.place.size):below t.place (fz t i)=i:=by
 obtain ⟨h1,h2,h3⟩:=eV T.R (fz t i)
 cases i with
 |zero=>
  dsimp only[fz] at *
  rcases E5 (below t.place 0) with z |z
  ·exact z
  ·have:=h1 0 _ z (dM (by omega));omega
 |succ j=>
  dsimp only[fz] at *
  have hj:j < t.place.size:=by omega
  have ej:t.place.getD j 0=t.place[j]:=by simp[Co,hj]
  rw[ej] at h1 h2 h3 ⊢
  generalize hb:below t.place (t.place[j]+1)=b at *
  rcases Cm b (j+1) with z |z |z
  ·have:=h2 j t.place[j] (by omega) (dM hj);omega
  ·exact z
  ·have q:=h1 (j+1) _ z (dM (by omega))
   have:=T.R j (j+1) _ _ (by omega) (dM hj) (dM (show j+1 < t.place.size by omega))
   omega
theorem jp {S:Addr}{o:Obj}{es ep t hs}{i:Nat}{Q:Option (Value×Nat)→Ar→Prop} (O:SO prog w o es ep t hs) (ho:s.heap.get? S=some o) (hi:i≤es.size)
  (h:Q (((cB w S es ep)[i]?).map fun v=>(v,ba w t (i+1))) s):wpAny (model prog w) A (setNext S (ba w t i) i ep) Q E s:=by
 have hfit:=O.T.fits O.n
 have hpl:t.place.size=es.size:=by rw[O.T.n,O.n]
 unfold setNext Jg
 refine An (Cp ho O.d hfit (An (An (DO (As ?_)))))
 by_cases bt:w.params.followText "set-order"=true
 ·dsimp only
  rw[show (model prog w).w.params.followText "set-order"=true from bt,if_pos rfl,if_neg (by simp)]
  unfold setWalk Jg
  refine An (An (Cp ho O.d hfit (An (An (DO (As ?_))))))
  dsimp only
  rw[show (model prog w).w.params.followText "set-order"=true from bt,if_pos rfl]
  refine An (DO (As (As ?_)))
  have e:Hi (fun (e:Int×Value)=>(e.2,ba w t i)) (G3 (w.params.setOrder S ep) es)[i]?=((cB w S es ep)[i]?).map fun v=>(v,ba w t (i+1)):=by
   unfold cB ba
   rw[if_pos bt,if_pos bt,if_pos bt,Av,Bg,Option.map_map]
   rfl
  have q:Q (Hi (fun (e:Int×Value)=>(e.2,ba w t i)) (G3 (w.params.setOrder S ep) es)[i]?) s:=by rw[e];exact h
  exact q
 ·have bf:w.params.followText "set-order"=false:=by simpa using bt
  dsimp only
  rw[show (model prog w).w.params.followText "set-order"=false from bf,if_neg (by simp)]
  have e1:ba w t i=fz t i:=by unfold ba;rw[if_neg bt]
  have e2:below t.place (ba w t i)=i:=by rw[e1];exact nL O.T (by omega)
  have e3:(match es[below t.place (ba w t i)]?,t.place[below t.place (ba w t i)]? with
    |some (_,x),some j=>some (x,j+1)
    |_,_=>none)=((cB w S es ep)[i]?).map fun v=>(v,ba w t (i+1)):=by
   rw[e2]
   unfold cB ba
   rw[if_neg bt,if_neg bt,Av,Bg]
   rcases Ca i es.size with z |z
   ·have z':i < t.place.size:=by omega
    simp[z,z',Co,fz]
   ·have z':t.place.size≤i:=by omega
    simp[z,z']
  split
  ·rename_i hc
   exact absurd (show (!t.plain && decide (es.size >1))=true from hc) (by rw[O.plain];simp)
  ·refine An ?_
   show wpAny _ _ (if (!t.led && !es.isEmpty)=true then unsupported "set:maker-not-led" else pure ()) _ _ _
   rw[O.led,bf,if_neg (by simp)]
   refine As (As ?_)
   have q:Q (match es[below t.place (ba w t i)]?,t.place[below t.place (ba w t i)]? with
    |some (_,x),some j=>some (x,j+1)
    |_,_=>none) s:=by rw[e3];exact h
   exact q
theorem qu {S it:Addr}{o:Obj}{es ep t hs}{i:Nat}{v:Value}{Q:Option Value→Ar→Prop} (O:SO prog w o es ep t hs) (ho:s.heap.get? S=some o) (hit:nE w s.heap it S t i es.size ep) (hv:(cB w S es ep)[i]?=some v)
  (hQ:∀h',nE w h' it S t (i+1) es.size ep→Dv it s.heap h'→Q (some v) {s with heap:=h' }):wpAny (model prog w) A (EM (.ref it)) Q E s:=by
 obtain ⟨oi,hoi,hc,hd⟩:=id hit
 have hfit:=O.T.fits O.n
 unfold EM
 refine An (FD (Di (name:=Str.ofString "__next__") hit.ty dy (B6 dy hit.ty jo ?_ (j6 _))))
 unfold Builtin.«set_iterator.__next__»
 refine An (m:=slotArgs "__next__" 0 _) (As ?_)
 dsimp only
 refine An (IL hoi hd ?_)
 dsimp only[Ds]
 refine An (ES ho O.d hfit ?_)
 rw[if_neg (by simp)]
 have hlt:i < es.size:=by
  have q:=(AF.mp hv).1
  rw[(eU w S es ep).length_eq,Aq,AR] at q
  exact q
 rw[show ((ba w t i:Nat):Int).toNat=ba w t i from Da _,show ((i:Nat):Int).toNat=i from Da _,show ((ep:Nat):Int).toNat=ep from Da _]
 refine An (jp O ho (BX hlt) ?_)
 rw[hv]
 dsimp only[Hi]
 refine An (GF hoi hd (by simp) ?_)
 have g1:=BP (Obj.mapFields (·.setIfInBounds 0 (Bc ((ba w t (i+1):Nat):Int) 0))) hoi (Gj (CY hd _))
 refine An (GF g1 (CY hd _) (by simp) ?_)
 refine As ⟨_,rfl,As (hQ _ ?_ ((CN ..).trans (CN ..)))⟩
 refine ⟨_,BP _ g1 (Gj (CY (CY hd _) _)),(Hj ..).trans ((Hj ..).trans hc),?_⟩
 rw[CY (CY hd _)]
 simp[Ds]
theorem tU {S it:Addr}{o:Obj}{es ep t hs}{Q:Option Value→Ar→Prop} (hh:A.handled=none) (O:SO prog w o es ep t hs) (ho:s.heap.get? S=some o) (hit:nE w s.heap it S t es.size es.size ep)
  (hQ:∀h',JG it s.heap h'→Q none {s with heap:=h' }):wpAny (model prog w) A (EM (.ref it)) Q E s:=by
 obtain ⟨oi,hoi,hc,hd⟩:=id hit
 have hfit:=O.T.fits O.n
 unfold EM
 refine An (FD (Di (name:=Str.ofString "__next__") hit.ty dy (B6 dy hit.ty jo ?_ (j6 _))))
 unfold Builtin.«set_iterator.__next__»
 refine An (m:=slotArgs "__next__" 0 _) (As ?_)
 dsimp only
 refine An (IL hoi hd ?_)
 dsimp only[Ds]
 refine An (ES ho O.d hfit ?_)
 rw[if_neg (by simp)]
 rw[show ((ba w t es.size:Nat):Int).toNat=ba w t es.size from Da _,show ((es.size:Nat):Int).toNat=es.size from Da _,show ((ep:Nat):Int).toNat=ep from Da _]
 refine An (jp O ho (Aw _) ?_)
 rw[show (cB w S es ep)[es.size]?=none from AU (by rw[(eU w S es ep).length_eq,Aq,AR];exact Aw _)]
 dsimp only[Hi]
 refine An (GF hoi hd (by simp) ?_)
 refine An ?_
 simp only[newExc,newTuple]
 refine An (C8 ?_ (by size_fits))
 refine An (m:=IM _ _) (H_ (a:=AY) (by first |rfl | (simp only[IM];rfl)) ?_)
 refine C8 ?_ (by size_fits)
 simp only[raiseNew]
 refine An (wpAny_handled ?_)
 rw[show A.in1.handled=none from hh]
 refine An (As (wpAny_throw ?_))
 refine An (Do (T:="StopIteration") (b:=true) ⟨_,AD _ rfl,rfl⟩ IP ?_)
 exact As (hQ _ (((CN ..).extBut.push _).push _))
end
end ST
namespace ST
open PySem PySem.SetTable PySem.W
theorem jQ:Slot "set_iterator" "__iter__" "set_iterator.__iter__":=
 .of (owner:="set_iterator") (n:="__iter__") (by rw[ER,Dx];kernel_rfl) (by decide+kernel) (by decide+kernel) (by decide+kernel) (by first |exact .inl (by decide+kernel) |exact .inr (by decide+kernel)) (by rw[DJ];kernel_rfl)
theorem n9:entryFor table "set_iterator.__iter__"=some Builtin.«dict_keyiterator.__iter__»:=IK (id':="dict_keyiterator.__iter__") (by kernel_rfl) rfl (by decide+kernel) (by kernel_rfl)
theorem qN (a:Value):Jz "set_iterator.__iter__" ⟨[a],[]⟩:=by unfold Jz;kernel_rfl
section
variable {prog:AC}{w:World}{A:A4}{E:Value→Ar→Prop}{s:Ar}
theorem ve {it S:Addr}{t:SetTable}{i n ep:Nat}{Q:Value→Ar→Prop} (hit:nE w s.heap it S t i n ep) (h:Q (.ref it) s):wpAny (model prog w) A (Jv (.ref it)) Q E s:=by
 refine Hh hit.ty jQ (B6 jQ hit.ty n9 ?_ (qN _))
 exact As ⟨_,rfl,"set_iterator",_,hit.ty,dy.lookup,h⟩
theorem qz (hh:A.handled=none) {it S:Addr} (hne:S≠it) {o:Obj}{es ep t hs} (O:SO prog w o es ep t hs):
  Walks prog w A it [it,S] [it] es.size (fun i v=>(cB w S es ep)[i]?=some v) (fun i h=>nE w h it S t i es.size ep∧h.get? S=some o) where
 sub:=fun b hb=>by simp at hb;simp[hb]
 frame:=fun _ _ _ st hk=>⟨let ⟨x,hx,r⟩:=st.1;⟨x,hk it (by simp) x hx,r⟩,hk S (by simp) o st.2⟩
 item:=fun i s Q E hi st hQ=>by
  obtain ⟨v,hv⟩:∃v,(cB w S es ep)[i]?=some v:=⟨_,Am (by rw[(eU w S es ep).length_eq,Aq,AR];exact hi)⟩
  refine qu O st.2 st.1 hv fun h' hit' sb=>?_
  exact hQ v h' s.toks hv ⟨hit',(sb.2 S hne).trans st.2⟩ fun b x hb e=>sb.extBut b x (fun z=>hb (by simp[z])) e
 done:=fun s Q E st hQ=>tU hh O st.2 st.1 fun h' xb=>hQ h' s.toks fun b x hb e=>xb b x (fun z=>hb (by simp[z])) e
 self:=fun _ _ _ _ st hQ=>ve st.1 hQ
theorem rm {r:Addr}{Q:Bool→Ar→Prop} (hT:s.TypeIs (.ref r) "set") (h:Q false s):wpAny (model prog w) A (Builtin.List.listLengthHint (.ref r)) Q E s:=by
 unfold Builtin.List.listLengthHint
 refine An (D4 hT PySem.F.slot_set_len.lookup ?_)
 generalize hid:("set.__len__":String)=id0
 wp_delta
 rw[show splitId id0=some ("set","__len__") from by subst hid;decide+kernel]
 subst hid
 refine An (Do (T:="set") (b:=true) hT (by rw[DJ];kernel_rfl) ?_)
 refine Dc (fun z=>absurd z (by decide)) (fun _=>?_)
 refine Dc (fun _=>?_) (fun z=>absurd (by decide+kernel) z)
 exact An (Hn hT (As h))
theorem uN {S:Addr}{o:Obj}{es ep t hs} (O:SO prog w o es ep t hs):KdlSrc prog w "set" S S es.size (fun i v=>(cB w S es ep)[i]?=some v) (fun h=>h.get? S=some o) where
 type:=fun _ hm=>⟨o,hm,O.ex.1⟩
 there:=fun _ hm=>⟨AB hm,AB hm⟩
 keep:=fun _ _ hm hk=>hk S (.inl rfl) o hm
 notList:=by decide
 notTuple:=by decide
 hint:=fun _ _ _ _ hm hq=>rm ⟨o,hm,O.ex.1⟩ hq
 iter:=fun _ s hh hm=>⟨_,_,(fun _ _ hq=>ro O hm hq),qz hh (AZ (AB hm)) O,⟨⟨_,AD _ rfl,rfl,by simp[ba,fz]⟩,Ap _ hm⟩⟩
end
end ST
namespace ST
open PySem PySem.W PyProof.Rows
inductive fD (lt:Nat→Nat→Bool) (n:Nat) {α:Type}:KasT α→α→Prop
 |ret (a:α):fD lt n (.ret a) a
 |ask {i j:Nat}{k:Bool→KasT α}{a:α}:i < n→j < n→fD lt n (k (lt i j)) a→fD lt n (.ask i j k) a
variable {lt:Nat→Nat→Bool}{n:Nat}
theorem fD.bind {α β:Type}{t:KasT α}{a:α}{f:α→KasT β}{b:β} (h:fD lt n t a) (h':fD lt n (f a) b):fD lt n (t.bind f) b:=by
 induction h with
 |ret a=>exact h'
 |ask hi hj _ ih=>exact fD.ask hi hj (ih h')
theorem fD.wp {α:Type}{t:KasT α}{a:α} (h:fD lt n t a) {cmp:Nat→Nat→(Bool→Ar→Prop)→Ar→Prop}{s:Ar} (hc:∀i j C,i < n→j < n→C (lt i j) s→cmp i j C s) {Q:α→Ar→Prop} (q:Q a s):t.kasWp cmp Q s:=by
 induction h with
 |ret a=>exact q
 |ask hi hj _ ih=>exact hc _ _ _ hi hj (ih q)
structure LtO (n:Nat) (lt:Nat→Nat→Bool):Prop where
 tr:∀i j k,lt i j=true→lt j k=true→lt i k=true
 tot:∀i j,i < n→j < n→i≠j→lt i j=false→lt j i=true
 asy:∀i j,lt i j=true→lt j i=false
abbrev g (p:Array Nat) (k:Nat):Nat:=p.getD k 0
theorem u9 {p q:Array Nat}{k l:Nat} (h:p[k]?=q[l]?):g p k=g q l:=by
 unfold g
 rw[Bu,Bu,h]
structure PP (n:Nat) (p:Array Nat):Prop where
 perm:p.toList.Perm (Bj n)
theorem PP.size {p:Array Nat} (h:PP n p):p.size=n:=by rw[←AR,h.perm.length_eq,Ef]
theorem PP.mem {p:Array Nat} (h:PP n p) {k:Nat} (hk:k < n):g p k < n:=by
 have hk':k < p.size:=by rw[h.size];exact hk
 have e:g p k=p[k]:=by simp[g,Co,hk']
 rw[e]
 exact AV.mp (h.perm.mem_iff.mp (by simp))
theorem PP.inj {p:Array Nat} (h:PP n p) {k l:Nat} (hk:k < n) (hl:l < n) (e:g p k=g p l):k=l:=by
 have hk':k < p.toList.length:=by rw[AR,h.size];exact hk
 have hl':l < p.toList.length:=by rw[AR,h.size];exact hl
 have nd:p.toList.Nodup:=h.perm.nodup_iff.mpr HB
 have e1:g p k=p.toList[k]:=by simp[g,Co,h.size,hk]
 have e2:g p l=p.toList[l]:=by simp[g,Co,h.size,hl]
 exact (Ez nd).mp (by rw[←e1,←e2,e])
theorem PP.of {p q:Array Nat} (h:PP n p) (hq:q.Perm p):PP n q:=⟨(Array.perm_iff_toList_perm.mp hq).trans h.perm⟩
def Srt (lt:Nat→Nat→Bool) (p:Array Nat) (m:Nat):Prop:=∀i j,i < j→j < m→lt (g p i) (g p j)=true
def Dsc (lt:Nat→Nat→Bool) (p:Array Nat) (m:Nat):Prop:=∀i j,i < j→j < m→lt (g p j) (g p i)=true
theorem Srt.one (p:Array Nat):Srt lt p 1:=fun i j h1 h2=>by omega
theorem Srt.more (O:LtO n lt) {p:Array Nat}{m:Nat} (S:Srt lt p m) (h1:1≤m) (h:lt (g p (m - 1)) (g p m)=true):Srt lt p (m+1):=fun i j hij hj=>by
 rcases A5 (B_ hj) with z |z
 ·exact S i j hij z
 ·subst z
  rcases A5 (show i≤j - 1 by omega) with y |y
  ·exact O.tr _ _ _ (S i (j - 1) y (by omega)) h
  ·subst y;exact h
theorem Dsc.more (O:LtO n lt) {p:Array Nat}{m:Nat} (S:Dsc lt p m) (h1:1≤m) (h:lt (g p m) (g p (m - 1))=true):Dsc lt p (m+1):=fun i j hij hj=>by
 rcases A5 (B_ hj) with z |z
 ·exact S i j hij z
 ·subst z
  rcases A5 (show i≤j - 1 by omega) with y |y
  ·exact O.tr _ _ _ h (S i (j - 1) y (by omega))
  ·subst y;exact h
theorem kn (O:LtO n lt) {p:Array Nat} (P:PP n p):∀(f m:Nat),1≤m→m+f=n→Srt lt p m→∃m',fD lt n (kas_asc p f m) m'∧m≤m'∧m'≤n∧Srt lt p m'∧(m' < n→lt (g p m') (g p (m' - 1))=true)
 |0,m,h1,hf,S=>⟨m,.ret m,Aw _,by omega,S,fun h=>by omega⟩
 |f+1,m,h1,hf,S=>by
  by_cases hc:lt (g p m) (g p (m - 1))=true
  ·refine ⟨m,.ask (P.mem (by omega)) (P.mem (by omega)) ?_,Aw _,by omega,S,fun _=>hc⟩
   rw[if_pos hc];exact .ret m
  ·have hc':lt (g p m) (g p (m - 1))=false:=by simpa using hc
   have ht:=O.tot _ _ (P.mem (show m < n by omega)) (P.mem (show m - 1 < n by omega)) (fun e=>by have:=P.inj (by omega) (by omega) e;omega) hc'
   obtain ⟨m',r,a1,a2,a3,a4⟩:=kn O P f (m+1) (by omega) (by omega) (S.more O h1 ht)
   refine ⟨m',.ask (P.mem (by omega)) (P.mem (by omega)) ?_,by omega,a2,a3,a4⟩
   rw[if_neg hc];exact r
theorem mt (O:LtO n lt) {p:Array Nat} (P:PP n p):∀(f m:Nat),1≤m→m+f=n→Dsc lt p m→∃m',fD lt n (kas_desc f p m 0) (p,m',0)∧m≤m'∧m'≤n∧Dsc lt p m'
 |0,m,h1,hf,S=>⟨m,.ret _,Aw _,by omega,S⟩
 |f+1,m,h1,hf,S=>by
  by_cases hc:lt (g p m) (g p (m - 1))=true
  ·obtain ⟨m',r,a1,a2,a3⟩:=mt O P f (m+1) (by omega) (by omega) (S.more O h1 hc)
   refine ⟨m',.ask (P.mem (by omega)) (P.mem (by omega)) ?_,by omega,a2,a3⟩
   rw[if_pos hc,if_neg (by omega)];exact r
  ·have hc':lt (g p m) (g p (m - 1))=false:=by simpa using hc
   have ht:=O.tot _ _ (P.mem (show m < n by omega)) (P.mem (show m - 1 < n by omega)) (fun e=>by have:=P.inj (by omega) (by omega) e;omega) hc'
   refine ⟨m,.ask (P.mem (by omega)) (P.mem (by omega)) ?_,Aw _,by omega,S⟩
   rw[if_neg hc]
   refine .ask (P.mem (by omega)) (P.mem (by omega)) ?_
   rw[if_pos ht];exact .ret _
theorem uc {p:Array Nat} (P:PP n p) {m k:Nat} (hm:m≤n) (hk:k < m):g (kas_rev p 0 m) k=g p (m - 1 - k):=by
 refine u9 ?_
 unfold kas_rev
 rw[getElem?_mirror (by rw[P.size];exact hm) _ (by omega)]
 split
 ·congr 1;omega
 ·congr 1;omega
theorem sI {p:Array Nat} (P:PP n p) (i j:Nat):PP n (kas_rev p i j):=P.of (mirror_perm _ _ _ _)
theorem uM {p:Array Nat} (P:PP n p) {m:Nat} (hm:m≤n) (D:Dsc lt p m):Srt lt (kas_rev p 0 m) m:=fun i j hij hj=>by
 rw[uc P hm (by omega),uc P hm hj]
 exact D _ _ (by omega) (by omega)
theorem qB (O:LtO n lt) {p:Array Nat} (P:PP n p) (h2:2≤n):∃m p',fD lt n (kas_count n p) (m,p')∧PP n p'∧1≤m∧m≤n∧Srt lt p' m:=by
 obtain ⟨m,r,a1,a2,a3,a4⟩:=kn O P (n - 1) 1 (Aw _) (by omega) (Srt.one p)
 by_cases hm:m=n
 ·exact ⟨m,p,r.bind (by rw[if_pos (by simp[hm])];exact .ret _),P,a1,a2,a3⟩
 ·have hne:¬ ((m==n)=true):=by simpa using hm
  by_cases h1:m >1
  ·refine ⟨m,p,r.bind ?_,P,a1,a2,a3⟩
   rw[if_neg hne,if_pos h1]
   refine .ask (P.mem (by omega)) (P.mem (by omega)) ?_
   rw[if_pos (a3 0 (m - 1) (by omega) (by omega))]
   exact .ret _
  ·obtain rfl:m=1:=by omega
   have D2:Dsc lt p 2:=Dsc.more O (fun i j x y=>by omega) (Aw _) (a4 (by omega))
   obtain ⟨d,rd,b1,b2,b3⟩:=mt O P (n - 2) 2 (by omega) (by omega) D2
   obtain ⟨e,re,c1,c2,c3,c4⟩:=kn O (sI P 0 d) (n - d) d (by omega) (by omega) (uM P b2 b3)
   refine ⟨e,kas_rev p 0 d,r.bind ?_,sI P 0 d,by omega,c2,c3⟩
   rw[if_neg hne,if_neg h1]
   unfold kas_descPart
   refine fD.bind (a:=(p,d,0)) rd ?_
   rw[if_neg (by simp)]
   unfold kas_tail3
   exact re.bind (.ret _)
theorem iA (O:LtO n lt) {p:Array Nat} (P:PP n p) {k:Nat} (hk:k < n) (S:Srt lt p k):∀(f l r:Nat),l≤r→r≤k→r - l≤f→(∀i,i < l→lt (g p i) (g p k)=true)→(∀i,r≤i→i < k→lt (g p k) (g p i)=true)→
  ∃l',fD lt n (kas_place p k f l r) l'∧l'≤k∧(∀i,i < l'→lt (g p i) (g p k)=true)∧(∀i,l'≤i→i < k→lt (g p k) (g p i)=true)
 |0,l,r,h1,h2,h3,a,b=>⟨l,.ret l,by omega,a,fun i x y=>b i (by omega) y⟩
 |f+1,l,r,h1,h2,h3,a,b=>by
  unfold kas_place
  by_cases hlr:l ≥ r
  ·rw[if_pos hlr]
   exact ⟨l,.ret l,by omega,a,fun i x y=>b i (by omega) y⟩
  ·rw[if_neg hlr]
   have hm:(l+r) / 2 < k:=by omega
   by_cases hc:lt (g p k) (g p ((l+r) / 2))=true
   ·obtain ⟨l',r',x1,x2,x3⟩:=iA O P hk S f l ((l+r) / 2) (by omega) (by omega) (by omega) a fun i hi hik=>by
     rcases A5 hi with z |z
     ·exact O.tr _ _ _ hc (S _ _ z hik)
     ·rw[←z];exact hc
    refine ⟨l',.ask (P.mem hk) (P.mem (by omega)) ?_,x1,x2,x3⟩
    rw[if_pos hc];exact r'
   ·have hc':lt (g p k) (g p ((l+r) / 2))=false:=by simpa using hc
    have ht:=O.tot _ _ (P.mem hk) (P.mem (show (l+r) / 2 < n by omega)) (fun e=>by have:=P.inj hk (by omega) e;omega) hc'
    obtain ⟨l',r',x1,x2,x3⟩:=iA O P hk S f ((l+r) / 2+1) r (by omega) h2 (by omega) (fun i hi=>by
     rcases A5 (B_ hi) with z |z
     ·exact O.tr _ _ _ (S _ _ z hm) ht
     ·rw[z];exact ht) b
    refine ⟨l',.ask (P.mem hk) (P.mem (by omega)) ?_,x1,x2,x3⟩
    rw[if_neg hc];exact r'
theorem o9 (O:LtO n lt):∀(f k:Nat) (p:Array Nat),k+f=n→PP n p→Srt lt p k→∃p',fD lt n (kas_bin f p k) p'∧PP n p'∧Srt lt p' n
 |0,k,p,hf,P,S=>⟨p,.ret p,P,by rw[←hf];exact S⟩
 |f+1,k,p,hf,P,S=>by
  obtain ⟨l,rl,x1,x2,x3⟩:=iA O P (show k < n by omega) S k 0 k (Bh _) (Aw _) (by omega) (fun i h=>by omega) (fun i h h'=>by omega)
  have at_:∀j,g (bubble p k (k - l)) j=if j=l then g p k else if l < j∧j≤k then g p (j - 1) else g p j:=fun j=>by
   have e:=getElem?_bubble (xs:=p) (src:=k) (by rw[P.size];omega) (k - l) (by omega) j
   rw[show k - (k - l)=l by omega] at e
   split
   ·rename_i z;rw[if_pos z] at e;exact u9 e
   ·rename_i z
    rw[if_neg z] at e
    split
    ·rename_i y;rw[if_pos y] at e;exact u9 e
    ·rename_i y;rw[if_neg y] at e;exact u9 e
  have e1:g (bubble p k (k - l)) l=g p k:=by rw[at_,if_pos rfl]
  have e2:∀j,l < j→j≤k→g (bubble p k (k - l)) j=g p (j - 1):=fun j y z=>by rw[at_,if_neg (by omega),if_pos ⟨y,z⟩]
  have e3:∀j,j < l→g (bubble p k (k - l)) j=g p j:=fun j y=>by rw[at_,if_neg (by omega),if_neg (by omega)]
  have S':Srt lt (bubble p k (k - l)) (k+1):=fun i j hij hj=>by
   rcases Cm j l with y |y |y
   ·rw[e3 i (by omega),e3 j y];exact S _ _ hij (by omega)
   ·rw[y,e1,e3 i (by omega)];exact x2 i (by omega)
   ·rw[e2 j y (by omega)]
    rcases Cm i l with z |z |z
    ·rw[e3 i z];exact S _ _ (by omega) (by omega)
    ·rw[z,e1];exact x3 (j - 1) (by omega) (by omega)
    ·rw[e2 i z (by omega)];exact S _ _ (by omega) (by omega)
  obtain ⟨p',r',P',S''⟩:=o9 O f (k+1) (bubble p k (k - l)) (by omega) (P.of (bubble_perm _ _ _)) S'
  exact ⟨p',rl.bind r',P',S''⟩
theorem ma (O:LtO n lt) (h2:2≤n):∃p,fD lt n (kas_sort n) p∧PP n p∧Srt lt p n:=by
 obtain ⟨m,p,r,P,a1,a2,S⟩:=qB O (p:=Ho (Bj n)) ⟨by simp⟩ h2
 by_cases hm:m < n
 ·obtain ⟨p',r',P',S'⟩:=o9 O (n - max m 1) (max m 1) p (by omega) P (by rw[show max m 1=m by omega];exact S)
  exact ⟨p',r.bind (by rw[if_pos hm];exact r'),P',S'⟩
 ·obtain rfl:m=n:=by omega
  exact ⟨p,r.bind (by rw[if_neg hm];exact .ret _),P,S⟩
def ltP (a b:Int×Int):Bool:=decide (a.1 < b.1∨(a.1=b.1∧a.2 < b.2))
theorem ltP_tr {a b c:Int×Int} (h1:ltP a b=true) (h2:ltP b c=true):ltP a c=true:=by
 unfold ltP at *;simp at *;omega
theorem ltP_asy {a b:Int×Int} (h1:ltP a b=true):ltP b a=false:=by
 unfold ltP at *;simp at *;omega
theorem ltP_tot {a b:Int×Int} (h:a≠b) (h1:ltP a b=false):ltP b a=true:=by
 unfold ltP at *
 have:¬ (a.1=b.1∧a.2=b.2):=fun z=>h (CZ z.1 z.2)
 simp at *;omega
section
variable {prog:AC}{w:World}{A:A4}{E:Value→Ar→Prop}{s:Ar}
theorem TK.two {h:Heap}{x y:Int}{b:Addr} (k:TK prog w h [x,y] b):∃o its n t u,h.get? b=some o∧o.cls=.type "tuple"∧o.data=.seq its n∧its.toList=[.int x t,.int y u]:=by
 obtain ⟨o,its,n,ho,hc,hd,hi⟩:=k
 cases hi':its.toList with
 |nil=>rw[hi'] at hi;cases hi
 |cons v1 r=>
  rw[hi'] at hi
  cases hi with
  |cons h1 hr=>
   cases hr with
   |cons h2 hr2=>
    cases hr2
    obtain ⟨t,rfl⟩:=CI h1
    obtain ⟨u,rfl⟩:=CI h2
    exact ⟨o,its,n,t,u,ho,hc,hd,hi'⟩
theorem xr {x y:Addr}{a b:Int×Int}{Q:Bool→Ar→Prop} (hx:TK prog w s.heap [a.1,a.2] x) (hy:TK prog w s.heap [b.1,b.2] y) (h:Q (ltP a b) s):wpAny (model prog w) A (keyLt' (tuples' true) (.ref x) (.ref y)) Q E s:=by
 obtain ⟨o,its,n,t,u,ho,_,hd,hi⟩:=hx.two
 obtain ⟨o',its',n',t',u',ho',_,hd',hi'⟩:=hy.two
 refine kat_lt ho hd ho' hd' ?_
 rw[hi,hi']
 refine kat_cons ((DD prog w).eqBool (a:=a.1) (b:=b.1) (Cw _ _ _ _) (Cw _ _ _ _) ?_)
 by_cases e1:a.1=b.1
 ·rw[decide_eq_true e1]
  refine kat_yes (kat_cons ((DD prog w).eqBool (a:=a.2) (b:=b.2) (Cw _ _ _ _) (Cw _ _ _ _) ?_))
  by_cases e2:a.2=b.2
  ·rw[decide_eq_true e2]
   refine kat_yes (kat_nil ?_)
   have z:ltP a b=false:=by unfold ltP;simp;omega
   rw[z] at h
   have z2:decide (its.size < its'.size)=false:=by
    rw[←AR,←AR,hi,hi'];simp
   rw[z2];exact h
  ·rw[decide_eq_false e2]
   refine kat_no (kat_one _ _ (lt_int ?_))
   have z:ltP a b=decide (a.2 < b.2):=by unfold ltP;rw[e1];simp
   rw[z] at h
   exact h
 ·rw[decide_eq_false e1]
  refine kat_no (oneLt_int ?_)
  have z:ltP a b=decide (a.1 < b.1):=by unfold ltP;simp[e1]
  rw[z] at h
  exact h
abbrev PB:=List ((Int×Int)×Addr)
abbrev refs (pb:PB):List Value:=pb.map fun p=>Bi p.2
def dfl:(Int×Int)×Addr:=((0,0),0)
theorem nN (pb:PB):(Bj pb.length).map (fun i=>pb.getD i dfl)=pb:=by
 apply HE
 ·simp
 ·intro i h1 h2
  simp at h1
  simp[h1]
theorem ub {pb:PB}{Q:Em→Ar→Prop} (htk:∀p∈pb,TK prog w s.heap [p.1.1,p.1.2] p.2) (h0:0 < pb.length) (h:Q (tuples' true) s):wpAny (model prog w) A (keyKind' (refs pb).toArray) Q E s:=by
 obtain ⟨fs,hf,hl,hi⟩:∃fs,KatTups s.heap (refs pb) fs∧fs.length=pb.length∧∀v∈fs,∃n t,v=Bc n t:=by
  clear h h0
  induction pb with
  |nil=>exact ⟨[],.nil,rfl,fun v hv=>by simp at hv⟩
  |cons p r ih=>
   obtain ⟨fs,hf,hl,hi⟩:=ih fun q hq=>htk q (Au _ hq)
   obtain ⟨o,its,n,t,u,ho,hc,hd,hit⟩:=(htk p AE).two
   refine ⟨.int p.1.1 t::fs,.cons ho hc hd (by rw[←Bg,hit];rfl) hf,by simp[hl],fun v hv=>?_⟩
   rcases Ay.mp hv with z |z
   ·exact ⟨_,_,z⟩
   ·exact hi v z
 refine kat_kind (T:=.type "int") hf (by omega) (fun v hv=>?_) (by decide) h
 obtain ⟨n,t,rfl⟩:=hi v hv
 exact Looks.of_pure rfl
theorem my {a:Addr}{pb:PB}{n:Nat}{P:JA→Ar→Prop} (ho:s.heap.get? a=some (C7 "list" (refs pb).toArray n)) (htk:∀p∈pb,TK prog w s.heap [p.1.1,p.1.2] p.2) (hnd:(pb.map (·.1)).Nodup) (h64:pb.length < 64)
  (h:∀pb':PB,pb'.Perm pb→(pb'.map (·.1)).Pairwise (fun x y=>ltP x y=true)→P (.done (.ret .none)) {s with heap:=sortedHeap s.heap a (refs pb) (refs pb').toArray }):
  wpAny (model prog w) A (Builtin.«list.sort» ⟨[.ref a],[]⟩) P E s:=by
 have hvl:(refs pb).length=pb.length:=by simp
 have hva:(refs pb).toArray.size=pb.length:=by simp
 rw[Ib]
 have ha:a < s.heap.objs.size:=AB ho
 refine An (listItems_at ho rfl (An (D8 ho rfl ?_ (by rw[hva,BA];omega) (Bh _))))
 obtain ⟨e1,ho1⟩:∃e1,(s.heap.update a (BL fun _=>(#[]:Array Value))).get? a=some (C7 "list" #[] e1):=⟨_,Gk ho (fun _=>#[])⟩
 refine An (ET ho1 rfl (An (GG ?_ (by show (refs pb).length≤_;rw[hvl,BA];omega))))
 refine An (D9 ?_ (Bh _))
 refine Bw ?_
 generalize hh6:((s.heap.update a (BL fun _=>(#[]:Array Value))).push (C7 "tuple" (refs pb).toArray 0)).push (C7 "list" #[] 0)=h6
 have old6:∀b o,b≠a→s.heap.get? b=some o→h6.get? b=some o:=fun b o hb e=>by
  rw[←hh6]
  exact Ap _ (Ap _ ((Ba _ _ (Ne.symm hb)).trans e))
 have ho6:h6.get? a=some (C7 "list" #[] e1):=by rw[←hh6];exact Ap _ (Ap _ ho1)
 have tk6:∀p∈pb,TK prog w h6 [p.1.1,p.1.2] p.2:=fun p hp=>by
  obtain ⟨o,its,k,hop,hc,r⟩:=htk p hp
  refine ⟨o,its,k,old6 p.2 o (fun z=>?_) hop,hc,r⟩
  rw[z,ho] at hop
  cases hop
  exact absurd hc (by show ¬ (BU "list"=BU "tuple");decide)
 have fin:∀pb':PB,pb'.Perm pb→(pb'.map (·.1)).Pairwise (fun x y=>ltP x y=true)→P (.done (.ret .none)) {s with heap:=h6.update a (BL fun _=>(refs pb').toArray) }:=fun pb' p1 p2=>by
  rw[←hh6];exact h pb' p1 p2
 show wpAny (model prog w) A _ P E {s with heap:=h6 }
 dsimp only
 by_cases h2:(refs pb).toArray.size < 2
 ·rw[if_pos h2,if_pos h2]
  refine An (As ?_)
  rw[StateT.run_pure]
  refine An (As ?_)
  dsimp only
  have eout:(arrOf (SortSt.mk' general' ((refs pb).toArray.zip (refs pb).toArray) #[] 7 none)).map (·.2)=(refs pb).toArray:=by
   show (((refs pb).toArray.zip (refs pb).toArray)).map (·.2)=_
   apply FL.mp
   have zip2:∀l:List Value,(l.zip l).map (·.2)=l:=fun l=>by
    induction l with
    |nil=>rfl
    |cons x r ih=>rw[D_,BE,ih]
   rw[FM,HF]
   exact zip2 _
  rw[eout]
  refine An (ET ho6 rfl (An (D8 ho6 rfl ?_ (Bh _) (by rw[hva,BA];omega))))
  show wpAny _ _ (if (e1 !=e1)=true then _ else _) _ _ _
  rw[if_neg (by simp)]
  refine As (fin pb (GE _) ?_)
  match pb,hva,h2 with
  |[],_,_=>simp
  |[_],_,_=>simp
  |_::_::r,hva,h2=>rw[hva] at h2;exact absurd h2 (by simp)
 ·rw[if_neg h2,if_neg h2]
  rw[hva] at h2
  have h2':2≤(refs pb).length:=by rw[hvl];omega
  refine An (ub (s:={s with heap:=h6 }) tk6 (by omega) ?_)
  have inj:∀i j,i < pb.length→j < pb.length→i≠j→(pb.getD i dfl).1≠(pb.getD j dfl).1:=fun i j hi hj hij e=>by
   refine hij ((Ez (xs:=pb.map (·.1)) (h₀:=by simpa using hi) (h₁:=by simpa using hj) hnd).mp ?_)
   simpa [hi,hj] using e
  have O:LtO pb.length (fun i j=>ltP (pb.getD i dfl).1 (pb.getD j dfl).1):=⟨fun i j k=>ltP_tr,fun i j hi hj hij=>ltP_tot (inj i j hi hj hij),fun i j=>ltP_asy⟩
  obtain ⟨p,R,PP',S⟩:=ma O (by omega)
  have hcmp:∀i j C,i < pb.length→j < pb.length→C (ltP (pb.getD i dfl).1 (pb.getD j dfl).1) {s with heap:=h6 }→kas_ask prog w A (tuples' true) (refs pb) i j C {s with heap:=h6 }:=fun i j C hi hj c=>by
   unfold kas_ask
   have ei:(refs pb).getD i AY=.ref (pb.getD i dfl).2:=by simp[hi]
   have ej:(refs pb).getD j AY=.ref (pb.getD j dfl).2:=by simp[hj]
   rw[ei,ej]
   have mi:pb.getD i dfl∈pb:=by simp[hi]
   have mj:pb.getD j dfl∈pb:=by simp[hj]
   exact xr (s:={s with heap:=h6 }) (tk6 _ mi) (tk6 _ mj) c
  have tree:(kas_sort (refs pb).length).kasWp (kas_ask prog w A (tuples' true) (refs pb)) (fun p' s'=>p'=p∧s'={s with heap:=h6 }) {s with heap:=h6 }:=by
   rw[hvl]
   exact R.wp hcmp ⟨rfl,rfl⟩
  refine An (Cv (kat_run (Q:=fun st' s'=>s'={s with heap:=h6 }∧failedOf st'=none∧(arrOf st').map (·.2)=Ho (p.toList.map fun i=>(refs pb).getD i AY)) rfl h2' (by rw[hvl];exact h64) (fun p' st' s' _ a2 a3 a4=>?_) tree) ?_ fun _ _ e=>e)
  ·obtain ⟨rfl,rfl⟩:=a4
   exact ⟨rfl,a3,kat_snds rfl a2⟩
  ·rintro ⟨⟨⟩,st'⟩ s' ⟨rfl,hf,hout⟩
   dsimp only
   rw[hout]
   have hlt:∀i∈p.toList,i < pb.length:=fun i hi=>AV.mp (PP'.perm.mem_iff.mp hi)
   have er:(p.toList.map fun i=>(refs pb).getD i AY)=refs (p.toList.map fun i=>pb.getD i dfl):=by
    unfold refs
    rw[Bp]
    refine GP fun i hi=>?_
    have:=hlt i hi
    simp[this]
   rw[er]
   have hperm:(p.toList.map fun i=>pb.getD i dfl).Perm pb:=by
    refine (PP'.perm.map _).trans ?_
    rw[nN]
   have hs2:(refs (p.toList.map fun i=>pb.getD i dfl)).toArray.size=pb.length:=by simp[PP'.size]
   refine An (ET ho6 rfl (An (D8 ho6 rfl ?_ (Bh _) (by rw[hs2,BA];omega))))
   rw[hf]
   show wpAny _ _ (if (e1 !=e1)=true then _ else _) _ _ _
   rw[if_neg (by simp)]
   refine As (fin _ hperm ?_)
   rw[Bp,BJ,A8]
   intro i j hi hj hij
   have hj':j < pb.length:=by rw[AR,PP'.size] at hj;exact hj
   have q:=S i j hij hj'
   have ei:g p i=p.toList[i]:=by simp[g,Co,PP'.size,show i < pb.length by omega]
   have ej:g p j=p.toList[j]:=by simp[g,Co,PP'.size,hj']
   rw[ei,ej] at q
   exact q
end
end ST
namespace ST
open PySem PySem.W PyProof.Rows PySem.Calls
theorem rY {α β:Type} (f:α→β) {l m:List β} (h:l.Perm m):∀kb:List α,m=kb.map f→∃kb':List α,JR kb' kb∧l=List.map f kb':=by
 induction h with
 |nil=>intro kb e;exact ⟨kb,.refl _,e⟩
 | @cons x l m _ ih=>
  intro kb e
  match kb,e with
  |[],e=>simp at e
  |k::kb,e=>
   rw[BE,CO] at e
   obtain ⟨kb',p,e'⟩:=ih kb e.2
   exact ⟨k::kb',p.cons k,by rw[BE,←e',e.1]⟩
 |swap x y l=>
  intro kb e
  match kb,e with
  |[],e=>simp at e
  |[_],e=>simp at e
  |k::k'::kb,e=>
   simp only[BE,CO] at e
   exact ⟨k'::k::kb,.swap k k' kb,by rw[BE,BE,←e.2.2,e.1,e.2.1]⟩
 |trans _ _ ih1 ih2=>
  intro kb e
  obtain ⟨kb2,p2,e2⟩:=ih2 kb e
  obtain ⟨kb1,p1,e1⟩:=ih1 kb2 e2
  exact ⟨kb1,p1.trans p2,e1⟩
def ptsOf (kb:List (List Int×Addr)):PB:=kb.map fun p=>((p.1.getD 0 0,p.1.getD 1 0),p.2)
section
variable {prog:AC}{w:World}{A:A4}{E:Value→Ar→Prop}{s:Ar}
theorem call_sorted_set {S:Addr}{kb:List (List Int×Addr)}{Q:Value→Ar→Prop} (hh:A.handled=none) (P:SP prog w s.heap S kb) (h64:kb.length < 64) (h2:∀p∈kb,p.1.length=2)
  (h:∀(h1 h':Heap) (tk:Nat) (pb:PB) (e:Nat),JR pb (ptsOf kb)→(pb.map (·.1)).Pairwise (fun x y=>ltP x y=true)→(∀b o,s.heap.get? b=some o→h1.get? b=some o)→(∀b o,h1.get? b=some o→h'.get? b=some o)→h'.get? h1.objs.size=some (C7 "list" (refs pb).toArray e)→Q (.ref h1.objs.size) {s with heap:=h',toks:=tk }):
  wpAny (model prog w) A (call (.builtin "sorted") [.ref S]) Q E s:=by
 obtain ⟨⟨o,es,ep,t,ho,hex,hd,he,T,hl,hp,_,_⟩,hk,hnd⟩:=P
 have hsz:es.size=kb.length:=by rw[←AR,he];simp[ents]
 have O:SO prog w o es ep t (kb.map fun p=>hsh prog w p.1):=⟨hex,hd,T,by rw[Aq,hsz],hl,hp⟩
 have two:∀p∈kb,p.1=[p.1.getD 0 0,p.1.getD 1 0]:=fun p hp'=>by
  have:=h2 p hp'
  match hq:p.1,this with
  |[x,y],_=>rfl
 refine call_function_entry Ic Hq Hr (Hs _) ?_
 unfold Builtin.«sorted»
 refine An (m:=Jh "sorted" 1 1 _) (As ?_)
 refine An (kdu_collect (A:=A.in1) (uN O) hh ho (by rw[hsz,BA];omega) fun h' tk acc keep hacc=>?_)
 have hal:acc.toList=cB w S es ep:=by
  apply Cq
  intro i
  rcases Ca i acc.size with z |z
  ·rw[Bg,C5 z]
   exact (hacc.2 i _ (C5 z)).symm
  ·rw[AU (by simpa using z),AU]
   rw[(eU w S es ep).length_eq,Aq,AR,←hacc.1];exact z
 obtain ⟨kb1,pk,ek⟩:=rY (fun (p:List Int×Addr)=>Bi p.2) (eU w S es ep) kb (by rw[he];unfold ents;rw[Bp];rfl)
 have hl1:acc.toList=refs (ptsOf kb1):=by
  rw[hal,ek];unfold refs ptsOf;rw[Bp];rfl
 have hlen1:(ptsOf kb1).length=kb.length:=by unfold ptsOf;rw[Aq,pk.length_eq]
 have hlenA:acc.toList.length=kb.length:=by rw[hl1];simp[hlen1]
 refine An (D9 ?_ (by rw[hlenA,BA];omega))
 have hD:(h'.push {cls:=.type "list",data:=.seq acc.toList.toArray }).get? h'.objs.size=some (C7 "list" (refs (ptsOf kb1)).toArray 0):=by
  rw[←hl1];exact AD _ rfl
 have tk1:∀p∈ptsOf kb1,TK prog w (h'.push {cls:=.type "list",data:=.seq acc.toList.toArray }) [p.1.1,p.1.2] p.2:=fun p hp'=>by
  obtain ⟨q,hq,rfl⟩:=Az.mp hp'
  have hq':=pk.mem_iff.mp hq
  obtain ⟨oq,its,k,hoq,r⟩:=hk q hq'
  have e2:=two q hq'
  refine ⟨oq,its,k,Ap _ (keep _ _ hoq),?_⟩
  rw[←e2];exact r
 have nd1:((ptsOf kb1).map (·.1)).Nodup:=by
  have n1:(kb1.map (·.1)).Nodup:=((pk.map (·.1)).nodup_iff).mpr hnd
  unfold ptsOf
  rw[Bp]
  refine BJ.mpr ((BJ.mp n1).imp_of_mem fun {a b} ha hb hab=>?_)
  intro z
  have ea:=two a (pk.mem_iff.mp ha)
  have eb:=two b (pk.mem_iff.mp hb)
  have z':(a.1.getD 0 0,a.1.getD 1 0)=(b.1.getD 0 0,b.1.getD 1 0):=z
  rw[Prod.mk.injEq] at z'
  rw[z'.1,z'.2] at ea
  exact hab (ea.trans eb.symm)
 refine An (Bw (B6 GH ⟨_,hD,rfl⟩ Gm ?_ (GI _)))
 refine my (s:={s with heap:=h'.push {cls:=.type "list",data:=.seq acc.toList.toArray },toks:=tk }) hD tk1 nd1 (by omega) fun pb' pp so=>⟨_,rfl,As ⟨_,rfl,?_⟩⟩
 obtain ⟨e,eD⟩:=G4 (out:=(refs pb').toArray) hD
 refine h h' _ tk pb' e (pp.trans ?_) so keep (fun b x hb'=>?_) eD
 ·unfold ptsOf;exact pk.map _
 ·have hlt:=AB hb'
  rw[GJ (AZ hlt) (by rw[BC];exact Ck hlt)]
  exact Ap _ hb'
end
end ST
namespace ST
open PySem
def ins (x:Int×Int):List (Int×Int)→List (Int×Int)
 |[]=>[x]
 |y::r=>if x=y then y::r else if ltP x y=true then x::y::r else y::ins x r
def srt (pts:List (Int×Int)):List (Int×Int):=pts.foldr ins []
theorem kY (x z:Int×Int):∀l,z∈ins x l↔z=x∨z∈l
 |[]=>by simp[ins]
 |y::r=>by
  unfold ins
  split
  ·rename_i h;subst h;simp
  ·split
   ·simp
   ·rw[Ay,kY x z r,Ay]
    constructor
    ·rintro (h |h |h)
     ·exact .inr (.inl h)
     ·exact .inl h
     ·exact .inr (.inr h)
    ·rintro (h |h |h)
     ·exact .inr (.inl h)
     ·exact .inl h
     ·exact .inr (.inr h)
abbrev Asc (l:List (Int×Int)):Prop:=l.Pairwise (fun x y=>ltP x y=true)
theorem o0 (x:Int×Int):∀l,Asc l→Asc (ins x l)
 |[],_=>by simp[ins]
 |y::r,h=>by
  unfold ins
  split
  ·exact h
  ·rename_i hne
   obtain ⟨h1,h2⟩:=Bk.mp h
   split
   ·rename_i hlt
    refine Bk.mpr ⟨fun z hz=>?_,h⟩
    rcases Ay.mp hz with e |e
    ·rw[e];exact hlt
    ·exact ltP_tr hlt (h1 z e)
   ·rename_i hlt
    refine Bk.mpr ⟨fun z hz=>?_,o0 x r h2⟩
    rcases (kY x z r).mp hz with e |e
    ·rw[e];exact ltP_tot hne (by simpa using hlt)
    ·exact h1 z e
theorem srt_mem (z:Int×Int):∀l,z∈srt l↔z∈l
 |[]=>by simp[srt]
 |y::r=>by
  show z∈ins y (srt r)↔_
  rw[kY,srt_mem z r,Ay]
theorem srt_asc:∀l,Asc (srt l)
 |[]=>DB
 |y::r=>o0 y (srt r) (srt_asc r)
theorem pF {x:Int×Int}:ltP x x=false:=by unfold ltP;simp
theorem asc_one:∀{l m:List (Int×Int)},Asc l→Asc m→(∀z,z∈l↔z∈m)→l=m
 |[],[],_,_,_=>rfl
 |[],y::r,_,_,h=>by have:=(h y).mpr AE;simp at this
 |x::l,[],_,_,h=>by have:=(h x).mp AE;simp at this
 |x::l,y::m,hl,hm,h=>by
  obtain ⟨a1,a2⟩:=Bk.mp hl
  obtain ⟨b1,b2⟩:=Bk.mp hm
  have e:x=y:=by
   rcases Ay.mp ((h x).mp AE) with z |z
   ·exact z
   ·rcases Ay.mp ((h y).mpr AE) with z' |z'
    ·exact z'.symm
    ·have:=ltP_asy (b1 x z)
     rw[a1 y z'] at this;cases this
  subst e
  congr 1
  refine asc_one a2 b2 fun z=>⟨fun hz=>?_,fun hz=>?_⟩
  ·rcases Ay.mp ((h z).mp (Au _ hz)) with e |e
   ·have:=a1 z hz;rw[e,pF] at this;cases this
   ·exact e
  ·rcases Ay.mp ((h z).mpr (Au _ hz)) with e |e
   ·have:=b1 z hz;rw[e,pF] at this;cases this
   ·exact e
theorem asc_srt {l:List (Int×Int)} (h:Asc l):srt l=l:=asc_one (srt_asc l) h fun z=>srt_mem z l
theorem pQ (x:Int×Int):∀l,(ins x l).length≤l.length+1
 |[]=>by simp[ins]
 |y::r=>by
  have:=pQ x r
  unfold ins
  split
  ·simp
  ·split
   ·simp
   ·simp only[A9];omega
theorem srt_len:∀l,(srt l).length≤l.length
 |[]=>Aw _
 |y::r=>by
  have h1:=pQ y (srt r)
  have h2:=srt_len r
  show (ins y (srt r)).length≤_
  simp only[A9];omega
end ST
namespace L2
open PySem PySem.Spec PyProof.Rows
theorem Af {p:Nat→Addr→Prop}{n:Nat} (h:∀i,i < n→∃b,p i b):∃f:Nat→Addr,∀i,i < n→p i (f i):=by
 refine ⟨fun i=>if k:i < n then Classical.choose (h i k) else 0,fun i hi=>?_⟩
 dsimp only
 rw[dif_pos hi]
 exact Classical.choose_spec (h i hi)
theorem tM:Cg "set"=some (.type "set"):=by decide+kernel
section
variable {X:Cx}{H0:Hp}{O0:List Addr}{ps:PSt}{e:Expr}{pts:List P2}{pos pos' p p':Pos}
theorem iD (hc:X.calm=true) (hu:X.A.units+10 < cLine) (hg:Gl X "sorted") (hm:X.mg "sorted"=none) (hgs:Gl X "set") (hms:X.mg "set"=none) (ha:Ev X H0 O0 ps e (lp pts)) (hl:pts.length < 64)
  (he:AK [e] X.env=(false,eval e X.env)::AK [] X.env:=by rfl):EvN X H0 O0 ps (.Call (.Name "sorted" p) [.Call (.Name "set" p') [e] [] pos'] [] pos) ((ST.srt pts).map pu):=by
 rintro pins s σ H Q I ⟨O,R,q⟩
 have hh:X.A.handled=none:=I.ok.hd hc
 refine BB (dk I hg hm Ie ?_)
 refine callWith_builtin1 (e:=.Call (.Name "set" p') [e] [] pos') (rest:=[]) ?_ rfl rfl
 show wpAny _ _ (spliced ((false,eval (.Call (.Name "set" p') [e] [] pos') X.env)::Eo pos (AK [] X.env))) _ _ s
 refine E1 ?_
 refine BB (dk I hgs hms tM ?_)
 refine callWith_type1 (thn (cS ha eW he pos' pins s σ H (fun vs H1=>∃v,vs=[v]∧aF H H1∧Rp X.K (hid H1 O) v (lp pts)) I ⟨O,R,fun v H1 s1 r1=>⟨v,rfl,s1,r1⟩⟩) fun us s1 hx=>?_) he rfl
 obtain ⟨vs,H1,I1,rv,v,rfl,sm,rp⟩:=hx
 obtain ⟨u,rfl,ru⟩:=ig rv
 cases rp with
 | @lst a ws _ hq hwl hwi=>
  cases ru
  obtain ⟨its,rw',pl,hz⟩:=I1.list (SqL.of (aH _ _ hq))
  have hlp:ws.length=pts.length:=by rw[hwl,Aq]
  have hil:its.length=pts.length:=by rw[←rw'.length,hlp]
  have item:∀i,i < pts.length→∃b,its[i]?=some (.ref b)∧Rp X.K (hid H1 O) (.ref b) (pu (pts.getD i (0,0)))∧ST.TK X.prog X.w s1.heap [(pts.getD i (0,0)).1,(pts.getD i (0,0)).2] b:=fun i hi=>by
   have hw:ws[i]?=some ws[i]:=Am (by omega)
   have hp:(pts.map pu)[i]?=some (pu (pts.getD i (0,0))):=by rw[Av,Am hi];simp[hi]
   have r:=hwi i _ _ hw hp
   obtain ⟨u',e1,e2⟩:=rw'.get hw
   generalize ws[i]=z at *
   cases r with
   | @tup b zs _ hs hsl hsi=>
    cases e2
    refine ⟨b,e1,Rp.tup hs hsl hsi,?_⟩
    obtain ⟨jts,rj,ht,_⟩:=I1.tuple (by exact aH.tup hs)
    have z0:zs.length=2:=hsl
    match zs,z0,hsi,rj with
    |[z1,z2],_,hsi,rj=>
     have q1:=hsi 0 z1 _ rfl rfl
     have q2:=hsi 1 z2 _ rfl rfl
     cases q1
     cases q2
     obtain ⟨u1,u2,rfl,r1,r2⟩:=pj rj
     obtain ⟨t1,rfl⟩:=r1
     obtain ⟨t2,rfl⟩:=r2
     obtain ⟨o,ho,hoc,n,hod⟩:=ht
     exact ⟨o,_,n,ho,hoc,hod,.cons (Cw _ _ _ _) (.cons (Cw _ _ _ _) .nil)⟩
  obtain ⟨ad',adE⟩:=Af item
  have hsz:its.toArray.size=pts.length:=by simp[hil]
  refine ST.call_set_pts (fun i=>([(pts.getD i (0,0)).1,(pts.getD i (0,0)).2],ad' i)) hh (by show X.A.units+1+1+1 < cLine;omega) pl.isList (fun i z ez=>?_) (fun i hi=>?_) (by rw[hsz];omega) fun h2 tk kb sp got keep=>?_
  ·have hi:i < pts.length:=by have:=aP (show its[i]?=some z by simpa using ez);omega
   have:=(adE i hi).1
   rw[show its.toArray[i]?=its[i]? by simp,this] at ez
   cases ez;rfl
  ·exact (adE i (by rw[hsz] at hi;exact hi)).2.2
  ·rw[hsz] at got
   have I2:Inv X pins σ H1 {s1 with heap:=h2,toks:=tk }:=I1.kept (t':=tk) keep
   refine Fk ?_
   have hkl:kb.length < 64:=by have:=got.len;omega
   refine ST.call_sorted_set (s:={s1 with heap:=h2,toks:=tk }) hh sp hkl (fun z hz=>by obtain ⟨j,_,rfl⟩:=got.src z hz;rfl) fun h3 h4 tk2 pb ep pm so k1 k2 hD=>?_
   have I3:Inv X pins σ H1 {s1 with heap:=h3,toks:=tk2 }:=I2.kept (t':=tk2) k1
   have src:∀z∈pb,∃j,j < pts.length∧z=(pts.getD j (0,0),ad' j):=fun z hz=>by
    obtain ⟨y,hy,rfl⟩:=Az.mp (pm.mem_iff.mp hz)
    obtain ⟨j,hj,rfl⟩:=got.src y hy
    exact ⟨j,hj,rfl⟩
   have epts:pb.map (·.1)=ST.srt pts:=by
    refine ST.asc_one so (ST.srt_asc pts) fun z=>?_
    rw[ST.srt_mem]
    constructor
    ·intro hz
     obtain ⟨y,hy,rfl⟩:=Az.mp hz
     obtain ⟨j,hj,rfl⟩:=src y hy
     simp[hj]
    ·intro hz
     obtain ⟨j,hj⟩:=BN.mp hz
     have hjl:=aP hj
     have hk:=got.all j hjl
     obtain ⟨y,hy,ey⟩:=Az.mp hk
     have hin:((y.1.getD 0 0,y.1.getD 1 0),y.2)∈ST.ptsOf kb:=Az.mpr ⟨y,hy,rfl⟩
     have hin':=pm.mem_iff.mpr hin
     refine Az.mpr ⟨_,hin',?_⟩
     rw[ey]
     have:pts.getD j (0,0)=z:=by rw[Ax,hj];rfl
     show ((pts.getD j (0,0)).1,(pts.getD j (0,0)).2)=z
     rw[this]
   have fr:H1 h3.objs.size=none:=I3.hok.fresh (Aw _)
   refine ⟨.ref h3.objs.size,upd H1 h3.objs.size (.lst (pb.map fun z=>V.ref z.2)),?_,rfl,?_⟩
   ·refine I3.laid (t':=tk2) k2 (Aw _) ⟨?_,(ST.refs pb),ep,?_,hD⟩
    ·rw[Aq,←Aq (f:=(·.1)),epts,BA]
     have:=ST.srt_len pts
     omega
    ·have all:∀l:ST.PB,aV (l.map fun z=>V.ref z.2) (ST.refs l):=fun l=>by
      induction l with
      |nil=>exact .nil
      |cons z r ih=>exact .cons rfl ih
     exact all pb
   ·refine q _ _ _ (sm.trans (aU fr _)) (sm.free fr) aW ⟨?_,fun i z x e1 e2=>?_⟩
    ·rw[Aq,←epts,Aq,Aq]
    ·rw[←epts,Bp,Av] at e2
     rw[Av] at e1
     cases hpi:pb[i]? with
     |none=>rw[hpi] at e1;cases e1
     |some y=>
      rw[hpi] at e1 e2
      cases e1
      cases e2
      obtain ⟨j,hj,rfl⟩:=src y (AW hpi)
      exact (adE j hj).2.1.same (bI (aU fr _) fr)
end
end L2
namespace ST
open PySem
section
variable {prog:AC}{w:World}{A:A4}{s:Ar}{R:GT→Ar→Prop}{I:Addr}{fp wr:List Addr}{G:Array DA→Array DA→Prop}{n:Nat}{P:Nat→Value→Prop}{St:Nat→Ar→Prop}{T:String}
def u5 (prog:AC) (w:World) (T:String):Prop:=∀(A:A4) (E:Value→Ar→Prop) (s:Ar) (r:Addr) (Q:Bool→Ar→Prop),s.TypeIs (.ref r) T→(∀b,Q b s)→wpAny (model prog w) A (Builtin.List.listLengthHint (.ref r)) Q E s
theorem qG (W:WalksS prog w A.in1 I fp wr G n P St) (hT:∀i s,St i s→s.TypeIs (.ref I) T) (hl:(BU T==BU "list")=false) (ht:(BU T==BU "tuple")=false) (hint:u5 prog w T) (S:Addr) (res:Value) (c₀:Nat) (hst:St 0 s) (hSf:S ∉ fp) (hI:I∈fp)
  (hS:s.heap.get? S=some {cls:=.type "list",data:=.seq #[] c₀ })
  (hR:∀s' acc' c',Moved (S::wr) G s s'→s'.heap.get? S=some {cls:=.type "list",dict:=none,data:=.seq acc' c',slots:=#[] }→ItemsOf P acc' n→R (.ok (.ret res)) s') (hn:n≤sizeLine):
  wpAny (model prog w) A.in1 (Builtin.List.listExtendWith (.ref S) (.ref I) res)
   (fun fin s'=>match fin with | .done f=>R (.ok f) s' | .again c'=>c'.quiet=true∧EN (model prog w) A c' R s') (fun e s'=>R (.error e) s') s:=by
 have hSI:S≠I:=fun e=>hSf (e ▸ hI)
 unfold Builtin.List.listExtendWith
 refine An (Hn (hT 0 _ hst) ?_)
 have k1:Builtin.List.listSameRef (.ref S) (.ref I)=false:=by simp[Builtin.List.listSameRef,hSI]
 simp only[k1,hl,ht,Bool.or_false,AQ,if_false]
 refine An (W.self 0 _ _ _ hst (An (Bw (hint _ _ _ _ _ (hT 0 _ hst) fun b=>?_))))
 refine Dc (fun _=>?_) (fun _=>?_)
 ·refine An (Fi (An ?_))
  show wpAny _ A.in1 (Gn S (·.push .none) >>=fun _=>Gn S (·.pop)) _ _ _
  refine An (Dd hS rfl ?_)
  have g2:=BP (BL (·.push AY)) hS rfl
  refine Dd (hz:=by seq_fits) g2 rfl ?_
  have g3:=BP (BL (·.pop)) g2 rfl
  have oth:∀b o,b≠S→s.heap.get? b=some o→((s.heap.update S (BL (·.push AY))).update S (BL (·.pop))).get? b=some o:=fun b o hb e=>(Ba _ _ (Ne.symm hb)).trans ((Ba _ _ (Ne.symm hb)).trans e)
  refine As ⟨CF Fd _,Gy W hn _ hSf _ n 0 _ _ _ rfl (Bh _) (W.frame 0 s _ s.toks hst (Aw _) fun b hb o e=>oth b o (fun z=>hSf (z ▸ hb)) e) g3 (ItemsOf.nil P) fun s' acc' c' m g' it=>?_⟩
  exact hR s' acc' c' (Moved.trans W.gtrans ((Moved.refl W.grefl).then_heap (Aw _) fun b o hb e=>oth b o (fun z=>hb (z ▸ AE)) e) m) g' it
 ·exact As ⟨CF Fd _,Gy W hn _ hSf _ n 0 _ _ _ rfl (Bh _) hst hS (ItemsOf.nil P) fun s' acc' c' m g' it=>hR s' acc' c' m g' it⟩
theorem vf (W:WalksS prog w A.in1 I fp wr G n P St) (hT:∀i s,St i s→s.TypeIs (.ref I) T) (hl:(BU T==BU "list")=false) (ht:(BU T==BU "tuple")=false) (hint:u5 prog w T) (S:Addr) (hst:St 0 s) (hSf:S ∉ fp) (hI:I∈fp)
  (hS:s.heap.get? S=some {cls:=.type "list",data:=.seq #[] })
  (hR:∀s' acc' c',Moved (S::wr) G s s'→s'.heap.get? S=some {cls:=.type "list",dict:=none,data:=.seq acc' c',slots:=#[] }→ItemsOf P acc' n→R (.ok (.ret .none)) s') (hn:n≤sizeLine):
  wpAny (model prog w) A.in1 (Builtin.«list.__init__» ⟨[.ref S,.ref I],[]⟩)
   (fun fin s'=>match fin with | .done f=>R (.ok f) s' | .again c'=>c'.quiet=true∧EN (model prog w) A c' R s') (fun e s'=>R (.error e) s') s:=by
 show wpAny _ A.in1 (Builtin.List.listItems (.ref S) >>=fun old=>Builtin.List.listUpdate (.ref S) (fun _=>#[]) >>=fun _=>letGo old.toList.reverse >>=fun _=>Builtin.List.listExtendWith (.ref S) (.ref I) .none) _ _ s
 refine An ?_
 unfold Builtin.List.listItems
 refine An (B3 hS rfl (As ?_))
 show wpAny _ A.in1 (Gn S (fun _=>#[]) >>=fun _=>letGo (#[]:Array Value).toList.reverse >>=fun _=>Builtin.List.listExtendWith (.ref S) (.ref I) .none) _ _ s
 refine An (Dd hS rfl ?_)
 have g2:=BP (BL (fun _=>(#[]:Array Value))) hS rfl
 have oth:∀b o,b≠S→s.heap.get? b=some o→(s.heap.update S (BL (fun _=>(#[]:Array Value)))).get? b=some o:=fun b o hb e=>(Ba _ _ (Ne.symm hb)).trans e
 refine An (DS ?_)
 refine qG W hT hl ht hint S .none _ (W.frame 0 s _ s.toks hst (Aw _) fun b hb o e=>oth b o (fun z=>hSf (z ▸ hb)) e) hSf hI g2 (fun s' acc' c' m g' it=>?_) hn
 exact hR s' acc' c' (Moved.trans W.gtrans ((Moved.refl W.grefl).then_heap (Aw _) fun b o hb e=>oth b o (fun z=>hb (z ▸ AE)) e) m) g' it
end
section
variable {prog:AC}{w:World}{A:A4}{E:Value→Ar→Prop}{s:Ar}{I:Addr}{fp wr:List Addr}{G:Array DA→Array DA→Prop}{n:Nat}{P:Nat→Value→Prop}{St:Nat→Ar→Prop}{T:String}
theorem call_list_it {Q:Value→Ar→Prop} (W:WalksS prog w A.in1.in1 I fp wr G n P St) (hT:∀i s,St i s→s.TypeIs (.ref I) T) (hl:(BU T==BU "list")=false) (ht:(BU T==BU "tuple")=false) (hint:u5 prog w T) (hst:St 0 s) (hfp:∀b∈fp,b < s.heap.objs.size) (hI:I∈fp)
  (hQ:∀s' acc' c',Moved (s.heap.objs.size::wr) G {s with heap:=s.heap.push {cls:=.type "list",data:=.seq #[] } } s'→
   s'.heap.get? s.heap.objs.size=some {cls:=.type "list",dict:=none,data:=.seq acc' c',slots:=#[] }→ItemsOf P acc' n→Q (.ref s.heap.objs.size) s') (hn:n≤sizeLine):
  wpAny (model prog w) A (call (.type "list") [.ref I]) Q E s:=by
 have hSf:s.heap.objs.size ∉ fp:=fun hm=>Bv _ (hfp _ hm)
 refine callType_codes (Q₁:=fun obj s₁=>obj=.ref s.heap.objs.size∧s₁={s with heap:=s.heap.push {cls:=.type "list",data:=.seq #[] } }) PySem.F.called_list (PySem.F.typeCall_list_1 _) PySem.F.entry_list_init (code_list_new _ ⟨rfl,rfl⟩) fun obj s₁ h₁=>?_
 obtain ⟨rfl,rfl⟩:=h₁
 have hS:(s.heap.push {cls:=.type "list",data:=.seq #[] }).get? s.heap.objs.size=some {cls:=.type "list",data:=.seq #[] }:=AD _ rfl
 refine ⟨⟨_,hS,rfl⟩,PySem.F.args_list_init_2 _ _,vf W hT hl ht hint _ (W.frame 0 s _ s.toks hst (Aw _) fun b _ o e=>Ap _ e) hSf hI hS (fun s' acc' c' m g' it=>?_) hn⟩
 exact ⟨rfl,hQ s' acc' c' m g' it⟩
end
theorem vj:typeLookup (.type "list_reverseiterator") "__len__"=pure none:=by rw[ER,Dx];kernel_rfl
theorem jM:Slot "list_reverseiterator" "__length_hint__" "list_reverseiterator.__length_hint__":=
 .of (owner:="list_reverseiterator") (n:="__length_hint__") (by rw[ER,Dx];kernel_rfl) (by decide+kernel) (by decide+kernel) (by decide+kernel) (by first |exact .inl (by decide+kernel) |exact .inr (by decide+kernel)) (by rw[DJ];kernel_rfl)
theorem hint_rev (prog:AC) (w:World):u5 prog w "list_reverseiterator":=fun A E s r Q hT h=>by
 unfold Builtin.List.listLengthHint
 refine An (D4 hT vj ?_)
 show wpAny _ A (specialOf (Bi r) (Str.ofString "__length_hint__") >>=_) _ _ _
 refine An (D4 hT jM.lookup ?_)
 generalize hid:("list_reverseiterator.__length_hint__":String)=id0
 wp_delta
 rw[show splitId id0=some ("list_reverseiterator","__length_hint__") from by subst hid;decide+kernel]
 subst hid
 refine An (Do (T:="list_reverseiterator") (b:=true) hT (by rw[DJ];kernel_rfl) ?_)
 refine Dc (fun z=>absurd z (by decide)) (fun _=>?_)
 refine Dc (fun _=>?_) (fun z=>absurd (by decide+kernel) z)
 refine Dc (fun z=>absurd z (by decide+kernel)) (fun _=>As (h _))
end ST
namespace L2
open PySem PySem.Spec PyProof.Rows
theorem jL:Cg "reversed"=some (.type "reversed"):=by decide+kernel
theorem aV.rev:∀{xs:List V}{us:List Value},aV xs us→aV xs.reverse us.reverse:=fun {xs us} r=>by
 induction r with
 |nil=>exact .nil
 | @cons x u xs us r1 r2 ih=>
  rw[Hk,Hk]
  have app:∀{a:List V}{b:List Value},aV a b→aV (a++[x]) (b++[u]):=fun {a b} q=>by
   induction q with
   |nil=>exact .cons r1 .nil
   |cons q1 _ ih'=>exact .cons q1 ih'
  exact app ih
theorem Rps.rev {K:Ao}{H:Hp}{vs:List V}{xs:List U} (r:Rps K H vs xs):Rps K H vs.reverse xs.reverse:=⟨by simp[r.len],fun i v x h1 h2=>by
 have hi:i < vs.length:=by have:=aP h1;simpa using this
 have hx:i < xs.length:=by rw[←r.len];exact hi
 rw[BQ hi] at h1
 rw[BQ hx,←r.len] at h2
 exact r.at_ _ v x h1 h2⟩
section
variable {X:Cx}{H0:Hp}{O0:List Addr}{ps:PSt}{e k:Expr}{x:U}{xs:List U}{pos pos' p p' p2:Pos}
theorem pY {K:Ao}{H:Hp}{v:V} (rp:Rp K H v x) (hx:x=.lst xs∨x=.scr xs):∃a vs,v=.ref a∧SqL K H a vs∧Rps K H vs xs:=by
 rcases hx with rfl |rfl
 ·cases rp with
  |lst hq hl hh=>exact ⟨_,_,rfl,SqL.of hq,hl,hh⟩
 ·cases rp with
  |scr hq hl hh=>exact ⟨_,_,rfl,hq,hl,hh⟩
theorem y9 (he:Ev X H0 O0 ps e x) (hk:Ev X H0 O0 ps k (.int (-1))) (hx:x=.lst xs∨x=.scr xs):EvN X H0 O0 ps (.Subscript e (.Slice none none (some k) p2) pos) xs.reverse:=by
 rintro pins s σ H Q I ⟨O,R,q⟩
 refine Hc (thn (he pins s σ H (fun v H1=>aF H H1∧Rp X.K (hid H1 O) v x) I ⟨O,R,fun v H1 s1 r1=>⟨s1,r1⟩⟩) fun u s1 ⟨v,H1,I1,r1,sm,rp⟩=>?_)
 obtain ⟨a,vs,rfl,hq,rs⟩:=pY rp hx
 cases r1
 refine HN ?_
 rw[GV]
 refine As (As ?_)
 rw[EF]
 refine thn (hk pins s1 σ H1 (fun v H2=>aF H1 H2∧v=.int (-1)) I1 ⟨O,R.go sm,fun v H2 s2 r2=>⟨s2,by cases r2;rfl⟩⟩) fun uk s2 hy=>?_
 obtain ⟨vk,H2,I2,rk,s12,rfl⟩:=hy
 obtain ⟨t,rfl⟩:=rk
 have I3:Inv X pins σ H2 {s2 with heap:=s2.heap.push {cls:=.type "slice",data:=.fields #[.none,.none,.int (-1) t] } }:=I2.kept (t':=s2.toks) fun b ob z=>Ap _ z
 obtain ⟨its,rv,pl,hz⟩:=I3.list (s12.seq (aH.seq hq))
 have hlen:=rv.length
 show wpAny (model X.prog X.w) X.A (Fz e (.Slice none none (some k) p2) (.ref a) (.ref s2.heap.objs.size)) (EP X pins σ Q) X.xe {s2 with heap:=s2.heap.push {cls:=.type "slice",data:=.fields #[.none,.none,.int (-1) t] } }
 refine tail_any (ops:=[.ref a,.ref s2.heap.objs.size]) pl.isList.typeIs slot_list_getitem.lookup ?_ (by with_unfolding_all rfl)
 refine DV pl.isList (E2 ..) .none .none (IsPart.int _ _) (by simp) ?_ (by rw[AN];omega)
 rw[PySem.W.krv_pick]
 generalize hn:(s2.heap.push {cls:=.type "slice",data:=.fields #[.none,.none,.int (-1) t] }).objs.size=D
 have fr:H2 D=none:=I3.hok.fresh (by rw[←hn];exact Aw _)
 refine ⟨.ref D,upd H2 D (.lst vs.reverse),I3.laid (t':=s2.toks) (o:=.lst vs.reverse) (fun b ob z=>Ap _ z) (by rw[←hn];exact Aw _) ⟨by rw[Bm];exact hz,its.reverse,0,rv.rev,?_⟩,rfl,?_⟩
 ·rw[←hn];exact AD _ rfl
 ·refine q D _ _ ((sm.trans s12).trans (aU fr _)) ((sm.trans s12).free fr) aW ?_
  exact (rs.rev.same (aT s12)).same (bI (aU fr _) fr)
theorem qC (hc:X.calm=true) (hg:Gl X "list") (hm:X.mg "list"=none) (hgr:Gl X "reversed") (hmr:X.mg "reversed"=none) (ha:Ev X H0 O0 ps e (.lst xs))
  (he:AK [e] X.env=(false,eval e X.env)::AK [] X.env:=by rfl):EvN X H0 O0 ps (.Call (.Name "list" p) [.Call (.Name "reversed" p') [e] [] pos'] [] pos) xs.reverse:=by
 rintro pins s σ H Q I ⟨O,R,q⟩
 have hh:X.A.handled=none:=I.ok.hd hc
 refine BB (dk I hg hm G5 ?_)
 refine callWith_type1 (e:=.Call (.Name "reversed" p') [e] [] pos') (rest:=[]) ?_ cV rfl
 rw[cV]
 show wpAny _ _ (spliced ((false,eval (.Call (.Name "reversed" p') [e] [] pos') X.env)::Eo pos (AK [] X.env))) _ _ s
 refine E1 ?_
 refine BB (dk I hgr hmr jL ?_)
 refine callWith_type1 (thn (cS ha eW he pos' pins s σ H (fun vs H1=>∃v,vs=[v]∧aF H H1∧Rp X.K (hid H1 O) v (.lst xs)) I ⟨O,R,fun v H1 s1 r1=>⟨v,rfl,s1,r1⟩⟩) fun us s1 hx=>?_) he rfl
 obtain ⟨vs,H1,I1,rv,v,rfl,sm,rp⟩:=hx
 obtain ⟨u,rfl,ru⟩:=ig rv
 obtain ⟨a,ws,rfl,hq,rs⟩:=pY rp (.inl rfl)
 cases ru
 obtain ⟨its,rw',pl,hz⟩:=I1.list (aH.seq hq)
 have hlen:=rw'.length
 have hsz:its.toArray.size=its.length:=by simp
 refine call_reversed_list pl.isList ?_
 have I2:Inv X pins σ H1 {s1 with heap:=s1.heap.push (JM a ((its.toArray.size:Int) - 1)) }:=I1.kept (t':=s1.toks) fun b ob z=>Ap _ z
 refine Fk ?_
 have hal:a < s1.heap.objs.size:=by obtain ⟨o,ho,_⟩:=pl.isList;exact AB ho
 have W:=(Walks.listRev (prog:=X.prog) (w:=X.w) (A:=X.A.in1.in1) hh s1.heap.objs.size a (AZ hal) its.toArray).toS
 refine ST.call_list_it (T:="list_reverseiterator") (s:={s1 with heap:=s1.heap.push (JM a ((its.toArray.size:Int) - 1)) }) W (fun i s' st=>st.2.1.typeIs) (by decide) (by decide) (ST.hint_rev _ _) ⟨Bh _,⟨_,AD _ rfl,rfl,by simp[JM]⟩,pl.isList.push _⟩ (fun b hb=>?_) (by simp) (fun s3 acc c m hD hit=>?_) (by rw[hsz];omega)
 ·show b < (s1.heap.push _).objs.size
  rw[BC]
  simp at hb
  rcases hb with z |z
  ·rw[z];exact Dm _
  ·rw[z];exact Ck hal
 ·obtain ⟨h3,g3,d3,tk3,os3⟩:=s3
  obtain rfl:g3=s1.gens:=m.gens
  obtain rfl:d3=s1.drawn:=m.drawn
  obtain rfl:os3=s1.os:=m.os
  have szI:(s1.heap.push (JM a ((its.toArray.size:Int) - 1))).objs.size=s1.heap.objs.size+1:=BC ..
  have keep:∀b ob,s1.heap.get? b=some ob→h3.get? b=some ob:=fun b ob z=>by
   have hb:=AB z
   refine m.heap b ob (fun y=>?_) (Ap _ (Ap _ z))
   rcases Ay.mp y with y |y
   ·rw[y] at hb
    have hb':s1.heap.objs.size+1 < s1.heap.objs.size:=by rw[←szI];exact hb
    exact absurd hb' (by omega)
   ·rw[Br.mp y] at hb;exact Bv _ hb
  have hacc:acc.toList=its.reverse:=by
   apply Cq
   intro i
   rcases Ca i acc.size with z |z
   ·have y:=hit.2 i _ (C5 z)
    have hi:i < its.length:=by rw[hit.1,hsz] at z;exact z
    rw[Bg,C5 z,BQ hi,←y,hsz]
    simp
   ·have hi:its.length≤i:=by rw[hit.1,hsz] at z;exact z
    rw[AU (by simpa using z),AU (by simpa using hi)]
  generalize hn:(s1.heap.push (JM a ((its.toArray.size:Int) - 1))).objs.size=D at *
  have fr:H1 D=none:=I2.hok.fresh (by rw[←hn];exact Aw _)
  have I3:Inv X pins σ (upd H1 D (.lst ws.reverse)) {s1 with heap:=h3,toks:=tk3 }:=I1.laid (t':=tk3) (o:=.lst ws.reverse) keep (by rw[szI];exact JI _) ⟨by rw[Bm];exact hz,its.reverse,c,rw'.rev,by rw[←hacc,Array.toArray_toList];exact hD⟩
  refine ⟨.ref D,_,I3,rfl,q D _ _ (sm.trans (aU fr _)) (sm.free fr) aW ?_⟩
  exact rs.rev.same (bI (aU fr _) fr)
end
theorem SubP.trans:∀{p q r:PSt},SubP p q→SubP q r→SubP p r
 |[],[],[],_,_=>trivial
 |none::p,none::q,_::r,h1,h2=>SubP.trans (p:=p) (q:=q) h1 h2
 |none::p,some _::q,_::r,h1,h2=>SubP.trans (p:=p) (q:=q) h1 h2.2
 |some _::p,some _::q,_::r,h1,h2=>⟨h2.1.trans h1.1,SubP.trans (p:=p) (q:=q) h1.2 h2.2⟩
 |some _::p,none::q,_::r,h1,h2=>by cases h1.1
 |[],_::_,_,h1,_=>h1.elim
 |none::_,[],_,h1,_=>h1.elim
 |some _::_,[],_,h1,_=>h1.elim
 |[],[],_::_,_,h2=>h2.elim
 |_::_,none::_,[],_,h2=>h2.elim
 |_::_,some _::_,[],_,h2=>h2.elim
section
variable {X:Cx}{H0:Hp}{O0:List Addr}{ps:PSt}{xs:List U}{us:List U}{es:List Expr}{x:Str}{pc p' pos:Pos}
theorem gM (n:Nat) (h:ps[n]?=some (some (.own xs))) (hg:Gl X "len") (hm:X.mg "len"=none) (hN:X.N[n]?=some x:=by rfl) (hv:Vis X.env.scope x:=by first |exact Or.inl rfl |exact Or.inr (Or.inl rfl) |exact Or.inr (Or.inr rfl)) (hd:(x==("__debug__":Str))=false:=by decide)
  (hcd:(x==("__classdict__":Str))=false:=by decide) (hpl:(Eo pos (AK [] X.env)).any (·.1)=false:=by rfl):Ev X H0 O0 ps (.Call (.Name "len" pc) [.Name x p'] [] pos) (.int xs.length):=xN n h hg hm hN hv hd hcd af hpl
end
end L2
namespace ST
open PySem
abbrev Ab (h:Heap) (z TI TO T:Addr) (b:Bool):Prop:=h.get? z=some {cls:=.type "zip",dict:=none,data:=.fields #[Ds T,.bool b,.bool false,.ref TI,.ref TO],slots:=#[] }
section
variable {prog:AC}{w:World}{A:A4}{E:Value→Ar→Prop}{s:Ar}
end
structure ZL (xs ys:Array Value) (z TI TO i1 i2 l1 l2 S:Addr) (h:Heap) (i:Nat) (ad:List Addr) (c:Nat):Prop where
 ti:IsPair h TI (.ref i1) (.ref i2)
 a1:h.IsListIter i1 l1 i
 a2:h.IsListIter i2 l2 i
 b1:h.IsList l1 xs
 b2:h.IsList l2 ys
 acc:h.get? S=some {cls:=.type "list",dict:=none,data:=.seq (ad.map Bi).toArray c,slots:=#[] }
 len:ad.length=i
 tup:∀(j:Nat) (a:Addr),ad[j]?=some a→∃x y,xs[j]?=some x∧ys[j]?=some y∧IsPair h a x y
 far:∀a∈ad,a≠z∧a≠TO∧a≠i1∧a≠i2∧a≠S
 to:∃o,h.get? TO=some o
 nd:ad.Nodup
 zz:(i=0∧IsZip h z TI TO .none∧∃a b,IsPair h TO a b)∨(∃b T,ad[0]?=some T∧Ab h z TI TO T b)
section
variable {prog:AC}{w:World}{A:A4}{R:GT→Ar→Prop}
end
section
variable {prog:AC}{w:World}{A:A4}{R:GT→Ar→Prop}
structure ZF (xs ys:Array Value) (S:Addr) (h:Heap) (ad:List Addr) (c:Nat):Prop where
 acc:h.get? S=some {cls:=.type "list",dict:=none,data:=.seq (ad.map Bi).toArray c,slots:=#[] }
 len:ad.length=ys.size
 tup:∀(j:Nat) (a:Addr),ad[j]?=some a→∃x y,xs[j]?=some x∧ys[j]?=some y∧IsPair h a x y
 ne:∀a∈ad,a≠S
 nd:ad.Nodup
end
section
variable {prog:AC}{w:World}{A:A4}{E:Value→Ar→Prop}{s:Ar}
end
section
variable {prog:AC}{w:World}{A:A4}{R:GT→Ar→Prop}{s:Ar}
end
section
variable {prog:AC}{w:World}{A:A4}{E:Value→Ar→Prop}{s:Ar}
end
end ST
namespace L2
open PySem PySem.Spec PyProof.Rows
theorem zG {a b:Nat} (h:a < b∨b < a):@Ne Addr a b:=fun e=>by
 have e':a=b:=e
 omega
theorem tN:Cg "zip"=some (.type "zip"):=by decide+kernel
section
variable {P:AC}{w:World}{H:Hp}{h:Heap}{a:Addr}{o:HO}
end
section
variable {X:Cx}{H0:Hp}{O0:List Addr}{ps:PSt}{e f:Expr}{x y:U}{xs ys:List U}{pos pos' p p':Pos}
end
section
variable {X:Cx}{ns:List Int}{M:Int}
end
end L2
namespace ST
open PySem PyProof.Rows
section
variable {prog:AC}{w:World}{A:A4}{E:Value→Ar→Prop}{s:Ar}
end
end ST
namespace L2
open PySem PySem.Spec PyProof.Rows
section
variable {X:Cx}{H0:Hp}{O0:List Addr}{ps:PSt}{a b c:Expr}{pos:Pos}{x y z:U}{p q:P2}{k m:Bool}
theorem zg {pins:List (Addr×Obj)}{σ:List (Option V)}{H:Hp}{s:Ar} (I:Inv X pins σ H s) {v:V}{u:Value} (r:Rp X.K H v (pu p)) (e:aY v u):∃b,u=.ref b∧ST.TK X.prog X.w s.heap [p.1,p.2] b:=by
 cases r with
 | @tup b zs _ hs hsl hsi=>
  cases e
  refine ⟨b,rfl,?_⟩
  obtain ⟨jts,rj,ht,_⟩:=I.tuple hs
  have z0:zs.length=2:=hsl
  match zs,z0,hsi,rj with
  |[z1,z2],_,hsi,rj=>
   have q1:=hsi 0 z1 _ rfl rfl
   have q2:=hsi 1 z2 _ rfl rfl
   cases q1
   cases q2
   obtain ⟨u1,u2,rfl,r1,r2⟩:=pj rj
   obtain ⟨t1,rfl⟩:=r1
   obtain ⟨t2,rfl⟩:=r2
   obtain ⟨o,ho,hoc,n,hod⟩:=ht
   exact ⟨o,_,n,ho,hoc,hod,.cons (Cw _ _ _ _) (.cons (Cw _ _ _ _) .nil)⟩
end
section
variable {X:Cx}{p q:P2}{l:List P2}
theorem xi {pins:List (Addr×Obj)}{σ:List (Option V)}{H:Hp}{s:Ar} (I:Inv X pins σ H s) {v:V}{u:Value} (r:Rp X.K H v (pu p)) (e:aY v u):∃b,u=.ref b∧∀prog w,ST.TK prog w s.heap [p.1,p.2] b:=by
 cases r with
 | @tup b zs _ hs hsl hsi=>
  cases e
  refine ⟨b,rfl,fun prog w=>?_⟩
  obtain ⟨jts,rj,ht,_⟩:=I.tuple hs
  have z0:zs.length=2:=hsl
  match zs,z0,hsi,rj with
  |[z1,z2],_,hsi,rj=>
   have q1:=hsi 0 z1 _ rfl rfl
   have q2:=hsi 1 z2 _ rfl rfl
   cases q1
   cases q2
   obtain ⟨u1,u2,rfl,r1,r2⟩:=pj rj
   obtain ⟨t1,rfl⟩:=r1
   obtain ⟨t2,rfl⟩:=r2
   obtain ⟨o,ho,hoc,n,hod⟩:=ht
   exact ⟨o,_,n,ho,hoc,hod,.cons (Cw _ _ _ _) (.cons (Cw _ _ _ _) .nil)⟩
end
section
variable {X:Cx}{H0:Hp}{O0:List Addr}{ps:PSt}{e:Expr}{pts:List P2}{pos pos' p p':Pos}
end
end L2
namespace ST
open PySem
section
variable {prog:AC}{w:World}{A:A4}{R:GT→Ar→Prop}{I S:Addr}{fp wr:List Addr}{n:Nat}{P:Nat→Value→Prop}{St:Nat→Heap→Prop}{G:Heap→Prop}{bt:Nat→Nat→Bool}
end
section
variable {prog:AC}{w:World}{A:A4}{E:Value→Ar→Prop}{s:Ar}
end
section
variable {prog:AC}{w:World}{A:A4}{R:GT→Ar→Prop}{I S:Addr}{fp wr:List Addr}{n:Nat}{P:Nat→Value→Prop}{St:Nat→Heap→Prop}{G:Heap→Prop}{bt:Nat→Nat→Bool}
end
section
variable {prog:AC}{w:World}{A:A4}{E:Value→Ar→Prop}{s:Ar}
end
end ST
namespace ST
open PySem PyProof.Rows
section
variable {prog:AC}{w:World}{A:A4}{E:Value→Ar→Prop}{s:Ar}
theorem oR {x y:Int}{t u:Tok}{Q:Value→Ar→Prop} (h:Q (.bool (decide (x < y))) s):wpAny (model prog w) A (FE .Lt (.int x t) (.int y u)) Q E s:=
 richCompare_gives (op:=.Lt) (Jf s _ t) (Jf s _ u) PySem.F.slot_int_lt PySem.F.entry_int_lt (PySem.F.args_int_lt_2 _ _) (gives_int_lt _ _ t u) (fun x=>nomatch x) h
theorem ul {x y:Addr}{a b:Int×Int}{P:Fin→Ar→Prop} (hx:TK prog w s.heap [a.1,a.2] x) (hy:TK prog w s.heap [b.1,b.2] y) (h:P (.done (.ret (.bool (ltP a b)))) s):
  wpAny (model prog w) A (Builtin.«tuple.__lt__» ⟨[.ref x,.ref y],[]⟩) P E s:=by
 have hTb:=hy.typeIs
 obtain ⟨o,its,n,t,u,ho,_,hd,hi⟩:=hx.two
 obtain ⟨o',its',n',t',u',ho',_,hd',hi'⟩:=hy.two
 show wpAny _ _ (isInstance (.ref y) (.type "tuple") >>=_) _ _ s
 refine An (Do hTb isSubtype_tuple_tuple ?_)
 simp only[CW,AQ,if_false]
 refine An (G6 ho hd ?_)
 refine An (G6 ho' hd' ?_)
 have sz:its.size=its'.size:=by rw[←AR,←AR,hi,hi'];rfl
 rw[hi,hi']
 refine An ?_
 simp only[D_,List.zip_nil_left,EO,GK]
 refine An (An ((DD prog w).eqBool (a:=a.1) (b:=b.1) (Cw _ _ _ _) (Cw _ _ _ _) ?_))
 by_cases e1:a.1=b.1
 ·rw[decide_eq_true e1]
  simp only[CW,AQ,if_false]
  refine As ?_
  refine An (An ((DD prog w).eqBool (a:=a.2) (b:=b.2) (Cw _ _ _ _) (Cw _ _ _ _) ?_))
  by_cases e2:a.2=b.2
  ·rw[decide_eq_true e2]
   simp only[CW,AQ,if_false]
   refine As (As ?_)
   have z:ltP a b=false:=by unfold ltP;simp;omega
   rw[z] at h
   refine As ?_
   show P (.done (.ret (.bool (decide (its.size < its'.size))))) s
   rw[sz,decide_eq_false (Bv _)]
   exact h
  ·rw[decide_eq_false e2]
   simp only[Fc,if_true]
   have z:ltP a b=decide (a.2 < b.2):=by unfold ltP;rw[e1];simp
   rw[z] at h
   exact An (Fi (An (oR (An (As (As (As (As h))))))))
 ·rw[decide_eq_false e1]
  simp only[Fc,if_true]
  have z:ltP a b=decide (a.1 < b.1):=by unfold ltP;simp[e1]
  rw[z] at h
  exact An (Fi (An (oR (An (As (As (As (As h))))))))
theorem vt {x y:Addr}{a b:Int×Int}{Q:Value→Ar→Prop} (hu:A.units < cLine) (hx:TK prog w s.heap [a.1,a.2] x) (hy:TK prog w s.heap [b.1,b.2] y) (h:Q (.bool (ltP a b)) s):
  wpAny (model prog w) A (BZ .Lt (.ref x) (.ref y)) Q E s:=
 wpAny_richCompare_same_room (op:=.Lt) hx.typeIs hy.typeIs Gp
  (B6 Gp hx.typeIs PySem.F.entry_tuple_lt (ul hx hy ⟨_,rfl,(fun e=>nomatch e),h⟩) (PySem.F.args_tuple_lt_2 _ _)) hu
end
end ST
namespace L2
open PySem PySem.Spec PyProof.Rows
section
variable {X:Cx}{pts:List P2}{M:P2}
end
section
variable {X:Cx}{H0:Hp}{O0:List Addr}{ps:PSt}{xs:List U}{x:Str}{pos pc p':Pos}
end
section
variable {X:Cx}{H0:Hp}{O0:List Addr}{ps:PSt}{x:Str}{pos:Pos}{a b:Expr}{i j:Int}
end
section
variable {X:Cx}{H0:Hp}{O0:List Addr}{ps:PSt}{e tg:Expr}{p pos:Pos}{xs:List U}{x:U}
end
section
variable {X:Cx}{H0:Hp}{O0:List Addr}{ps:PSt}{a b:Expr}{pos:Pos}{xs:List U}{u:U}{k:Int}
end
end L2
namespace L2
open PySem PySem.Spec PySem.W PyProof.Rows
section
variable {X:Cx}
end
end L2
namespace L2
open PySem PySem.Spec PyProof.Rows
section
variable {X:Cx}{H0:Hp}{O0:List Addr}{E:XK}{ps ps':PSt}{D:PD}{s:Stmt}{ss body:List Stmt}{a b c e:Expr}{es:List Expr}{pos p:Pos}{u x y:U}{xs ys us:List U}{k:Bool}
 {CX:CXT}{n:Nat}{f C:Addr}{fd:A6}{pn:List Str}{spec:List U→Out→Prop}{nm:Str}
end
theorem Rs.free {K:Ao}{H0 H:Hp}{O0 O:List Addr}{ps:PSt}{σ:St}{xs:List U} (n:Nat) (h:ps[n]?=some (some (.own xs))) (R:Rs K H0 O0 ps σ H O):∃O',(∀b∈O',b∈O)∧Rs K H0 O0 (ps.set n (some (.val (.lst xs)))) σ H O':=by
 obtain ⟨v,hv,a,vs,rfl,ha,ha0,hH,rs⟩:=R.at_ n _ h
 have less:∀b∈O.filter (fun b=>decide (b≠a)),b∈O:=fun b hb=>(CL.mp hb).1
 have keep:∀b∈O,b≠a→b∈O.filter (fun b=>decide (b≠a)):=fun b hb ne=>CL.mpr ⟨hb,by simpa using ne⟩
 have sm:aF (hid H O) (hid H (O.filter (fun b=>decide (b≠a)))):=eo less
 have na:a ∉ O.filter (fun b=>decide (b≠a)):=fun z=>by have:=(CL.mp z).2;simp at this
 refine ⟨O.filter (fun b=>decide (b≠a)),less,R.same,fun b hb=>keep b (R.old b hb) fun e=>ha0 (e ▸ hb),fun b hb=>R.new b (less b hb),fun b hb=>R.dom b (less b hb),by rw[R.len,D5],fun i s hs=>?_,fun i j ys zs b h1 h2 h3 h4=>?_⟩
 ·rcases dj hs with ⟨rfl,e⟩ |⟨ne,hs⟩
  ·cases e
   exact ⟨.ref a,hv,.lst (dC hH na) (rs.same sm).len (rs.same sm).at_⟩
  ·obtain ⟨w,hw,ok⟩:=R.at_ i s hs
   refine ⟨w,hw,?_⟩
   cases s with
   |val u=>exact Rp.same sm ok
   |own ys=>
    obtain ⟨b,ws,rfl,hb,hb0,hHb,rsb⟩:=ok
    refine ⟨b,ws,rfl,keep b hb fun e=>?_,hb0,hHb,rsb.same sm⟩
    subst e
    exact ne (R.inj n i _ _ b h hs hv hw)
   |pin z u=>exact ⟨ok.1,Rp.same sm ok.2⟩
 ·rcases dj h1 with ⟨_,e⟩ |⟨_,h1⟩
  ·cases e
  ·rcases dj h2 with ⟨_,e⟩ |⟨_,h2⟩
   ·cases e
   ·exact R.inj i j _ _ b h1 h2 h3 h4
section
variable {X:Cx}{H0:Hp}{O0:List Addr}{E:XK}{ps:PSt}{D:PD}{ss:List Stmt}{e:Expr}{xs:List U}{b:Bool}
theorem nX (n:Nat) (h:ps[n]?=some (some (.own xs))) (w:Ws X H0 O0 E ss D (ps.set n (some (.val (.lst xs))))):Ws X H0 O0 E ss D ps:=
 PSs.mono w fun D' σ H ⟨L,O,R⟩=>by
  obtain ⟨O',_,R'⟩:=R.free n h
  exact ⟨L,O',R'⟩
end
section
variable {X:Cx}{ns:List Int}{M:Int}
end
section
variable {X:Cx}{H0:Hp}{O0:List Addr}{E:XK}{ps:PSt}{D:PD}{e:Expr}{pos:Pos}{xs ys:List U}
end
end L2
namespace L2
open PySem PySem.Spec PySem.W PyProof.Rows
section
variable {X:Cx}
end
section
variable {X:Cx}{H0:Hp}{O0:List Addr}{E:XK}{ps:PSt}{D:PD}{a e:Expr}{es:List Expr}{us:List U}{k:Bool}{n:Nat}{fd:A6}{pn:List Str}{spec:List U→Out→Prop}
end
end L2
namespace L2
open PySem PySem.Spec PyProof.Rows
section
variable {X:Cx}{H0:Hp}{O0:List Addr}{ps:PSt}{a b:Expr}{p:P2}{l:List P2}
end
end L2
namespace ST
open PySem PySem.W PySem.Calls PyProof.Rows
section
variable {prog:AC}{w:World}{A:A4}{E:Value→Ar→Prop}{s:Ar}
end
end ST
namespace L2
open PySem PySem.Spec PyProof.Rows
section
variable {X:Cx}{H0:Hp}{O0:List Addr}{ps:PSt}{e:Expr}{p pos:Pos}{a b:P2}
end
end L2
namespace ST
open PySem PySem.W PySem.Calls PyProof.Rows
section
variable {prog:AC}{w:World}{A:A4}{E:Value→Ar→Prop}{s:Ar}
theorem call_sortedL {l:Addr}{pb:PB}{Q:Value→Ar→Prop} (hl:s.heap.IsList l (refs pb).toArray) (htk:∀p∈pb,TK prog w s.heap [p.1.1,p.1.2] p.2) (hnd:(pb.map (·.1)).Nodup) (h64:pb.length < 64)
  (h:∀(h1 h':Heap) (tk:Nat) (pb':PB) (e:Nat),pb'.Perm pb→(pb'.map (·.1)).Pairwise (fun x y=>ltP x y=true)→(∀c o,s.heap.get? c=some o→h1.get? c=some o)→(∀c o,h1.get? c=some o→h'.get? c=some o)→h'.get? h1.objs.size=some (C7 "list" (refs pb').toArray e)→Q (.ref h1.objs.size) {s with heap:=h',toks:=tk }):
  wpAny (model prog w) A (call (.builtin "sorted") [.ref l]) Q E s:=by
 have hrl:(refs pb).length=pb.length:=by simp
 refine Fe Ic Hq Hr (Hs _) ?_
 unfold Builtin.«sorted»
 refine An (m:=Jh "sorted" 1 1 _) (As ?_)
 refine An (collect_list hl ?_ (by rw[hrl,BA];omega))
 refine An (D9 ?_ (by rw[hrl,BA];omega))
 generalize hg:(s.heap.push (C7 "list" #[] 0)).update s.heap.objs.size (BL (·++(refs pb).toArray))=h1
 have keep:∀c o,s.heap.get? c=some o→h1.get? c=some o:=fun c o e=>by
  rw[←hg,Ba _ _ (Cs (AB e))]
  exact Ap _ e
 have hD:(h1.push {cls:=.type "list",data:=.seq (refs pb).toArray }).get? h1.objs.size=some (C7 "list" (refs pb).toArray 0):=AD _ rfl
 have up:∀p∈pb,TK prog w (h1.push {cls:=.type "list",data:=.seq (refs pb).toArray }) [p.1.1,p.1.2] p.2:=fun p hp=>by
  obtain ⟨o,its,n,ho,r⟩:=htk p hp
  exact ⟨o,its,n,Ap _ (keep _ _ ho),r⟩
 refine An (Bw (B6 GH ⟨_,hD,rfl⟩ Gm ?_ (GI _)))
 refine my (s:={s with heap:=h1.push {cls:=.type "list",data:=.seq (refs pb).toArray } }) hD up hnd h64 fun pb' pp so=>⟨_,rfl,As ⟨_,rfl,?_⟩⟩
 obtain ⟨e,eD⟩:=G4 (out:=(refs pb').toArray) hD
 refine h h1 _ s.toks pb' e pp so keep (fun c o hb=>?_) eD
 have hlt:=AB hb
 rw[GJ (AZ hlt) (by rw[BC];exact Ck hlt)]
 exact Ap _ hb
end
end ST
namespace L2
open PySem PySem.Spec PyProof.Rows
section
variable {X:Cx}{H0:Hp}{O0:List Addr}{ps:PSt}{e:Expr}{pts:List P2}{pos p:Pos}
theorem oD (hg:Gl X "sorted") (hm:X.mg "sorted"=none) (ha:Ev X H0 O0 ps e (lp pts)) (hl:pts.length < 64∧pts.Nodup)
  (he:AK [e] X.env=(false,eval e X.env)::AK [] X.env:=by rfl):EvN X H0 O0 ps (.Call (.Name "sorted" p) [e] [] pos) ((ST.srt pts).map pu):=by
 obtain ⟨hl,hn⟩:=hl
 rintro pins s σ H Q I ⟨O,R,q⟩
 refine BB (dk I hg hm Ie ?_)
 refine callWith_builtin1 (e:=e) (rest:=[]) (thn (cS ha eW he pos pins s σ H (fun vs H1=>∃v,vs=[v]∧aF H H1∧Rp X.K (hid H1 O) v (lp pts)) I ⟨O,R,fun v H1 s1 r1=>⟨v,rfl,s1,r1⟩⟩) fun us s1 hx=>?_) he rfl
 obtain ⟨vs,H1,I1,rv,v,rfl,sm,rp⟩:=hx
 obtain ⟨u,rfl,ru⟩:=ig rv
 cases rp with
 | @lst a ws _ hq hwl hwi=>
  cases ru
  obtain ⟨its,rw',pl,hz⟩:=I1.list (SqL.of (aH _ _ hq))
  have hlp:ws.length=pts.length:=by rw[hwl,Aq]
  have hil:its.length=pts.length:=by rw[←rw'.length,hlp]
  have item:∀i,i < pts.length→∃b,its[i]?=some (.ref b)∧Rp X.K (hid H1 O) (.ref b) (pu (pts.getD i (0,0)))∧ST.TK X.prog X.w s1.heap [(pts.getD i (0,0)).1,(pts.getD i (0,0)).2] b:=fun i hi=>by
   have hw:ws[i]?=some ws[i]:=Am (by omega)
   have hp:(pts.map pu)[i]?=some (pu (pts.getD i (0,0))):=by rw[Av,Am hi];simp[hi]
   have r:=hwi i _ _ hw hp
   obtain ⟨u',e1,e2⟩:=rw'.get hw
   obtain ⟨b,rfl,tb⟩:=xi I1 (r.same aH) e2
   have ez:ws[i]=.ref b:=by
    generalize ws[i]=z at r e2
    cases r;cases e2;rfl
   rw[ez] at r
   exact ⟨b,e1,r,tb _ _⟩
  let ad:Nat→Addr:=fun i=>match its[i]? with |some (.ref b)=>b |_=>0
  have adE:∀i,i < pts.length→its[i]?=some (.ref (ad i))∧Rp X.K (hid H1 O) (.ref (ad i)) (pu (pts.getD i (0,0)))∧ST.TK X.prog X.w s1.heap [(pts.getD i (0,0)).1,(pts.getD i (0,0)).2] (ad i):=fun i hi=>by
   obtain ⟨b,e1,e2,e3⟩:=item i hi
   have:ad i=b:=by show (match its[i]? with |some (.ref b)=>b |_=>0)=b;rw[e1]
   rw[this];exact ⟨e1,e2,e3⟩
  generalize ad=ad' at adE
  clear ad
  generalize hpb:((Bj pts.length).map fun i=>((pts.getD i (0,0),ad' i):(Int×Int)×Addr))=pb
  have hits:its=ST.refs pb:=by
   apply Cq
   intro i
   rw[←hpb]
   unfold ST.refs
   rcases Ca i pts.length with z |z
   ·rw[(adE i z).1];simp[z]
   ·rw[AU (by omega),AU (by simpa using z)]
  have h1p:pb.map (·.1)=pts:=by
   rw[←hpb,Bp]
   apply Cq
   intro i
   rcases Ca i pts.length with z |z
   ·simp[z]
   ·rw[AU (by simpa using z),AU z]
  have srcb:∀z∈pb,∃j,j < pts.length∧z=(pts.getD j (0,0),ad' j):=fun z hz=>by
   rw[←hpb] at hz
   obtain ⟨j,hj,rfl⟩:=Az.mp hz
   exact ⟨j,AV.mp hj,rfl⟩
  have hbl:pb.length=pts.length:=by rw[←h1p,Aq]
  rw[hits] at pl
  refine ST.call_sortedL (pb:=pb) pl.isList (fun z hz=>?_) (by rw[h1p];exact hn) (by omega) fun h3 h4 tk2 pb' ep pm so k1 k2 hD=>?_
  ·obtain ⟨j,hj,rfl⟩:=srcb z hz
   exact (adE j hj).2.2
  ·have I3:Inv X pins σ H1 {s1 with heap:=h3,toks:=tk2 }:=I1.kept (t':=tk2) k1
   have src:∀z∈pb',∃j,j < pts.length∧z=(pts.getD j (0,0),ad' j):=fun z hz=>srcb z (pm.mem_iff.mp hz)
   have epts:pb'.map (·.1)=ST.srt pts:=by
    refine ST.asc_one so (ST.srt_asc pts) fun z=>?_
    rw[ST.srt_mem,(pm.map (·.1)).mem_iff,h1p]
   have fr:H1 h3.objs.size=none:=I3.hok.fresh (Aw _)
   refine ⟨.ref h3.objs.size,upd H1 h3.objs.size (.lst (pb'.map fun z=>V.ref z.2)),?_,rfl,?_⟩
   ·refine I3.laid (t':=tk2) k2 (Aw _) ⟨?_,(ST.refs pb'),ep,?_,hD⟩
    ·rw[Aq,pm.length_eq,hbl,BA]
     omega
    ·have all:∀l:ST.PB,aV (l.map fun z=>V.ref z.2) (ST.refs l):=fun l=>by
      induction l with
      |nil=>exact .nil
      |cons z r ih=>exact .cons rfl ih
     exact all pb'
   ·refine q _ _ _ (sm.trans (aU fr _)) (sm.free fr) aW ⟨?_,fun i z x e1 e2=>?_⟩
    ·rw[Aq,←epts,Aq,Aq]
    ·rw[←epts,Bp,Av] at e2
     rw[Av] at e1
     cases hpi:pb'[i]? with
     |none=>rw[hpi] at e1;cases e1
     |some y=>
      rw[hpi] at e1 e2
      cases e1
      cases e2
      obtain ⟨j,hj,rfl⟩:=src y (AW hpi)
      exact (adE j hj).2.1.same (bI (aU fr _) fr)
end
end L2
namespace L2
open PySem PySem.Spec PySem.W PyProof.Rows
section
variable {X:Cx}
end
section
variable {X:Cx}{H0:Hp}{O0:List Addr}{E:XK}{ps:PSt}{D:PD}{a e:Expr}{es:List Expr}{us:List U}{k:Bool}{n:Nat}{fd:A6}{pn:List Str}{spec:List U→Out→Prop}
end
structure Ak (K:Ao) (x qual:Str) (st:Stmt) (f:Addr) (fd:A6) (D:Addr):Prop where
 ex:∃(oc:Value) (od:Option Addr) (kV doc pm:Value) (an:Option Addr) (cdv ct:Value) (osl:Array (Option Value)),
  fd=AS x qual (aE st) (aB st) (ai st) (.ref D) kV doc pm an cdv ct∧K.lookup f=some ⟨oc,od,.func fd,osl⟩∧AH K cdv qual=true
 kp:AG K (.ref f)=true
section
variable {P:AC}{w:World}{K:Ao}{mg:Str→Option Value}{base:Heap}{N pn:List Str}{qual nm:Str}{f D:Addr}
end
section
variable {X:Cx}{H0:Hp}{O0:List Addr}{ps:PSt}{e:Expr}{es:List Expr}{pos p:Pos}{u:U}{us:List U}{xs:List U}{CX:CXT}{n:Nat}{f:Addr}{fd:A6}{pn:List Str}{spec:List U→Out→Prop}{nm:Str}{j:Int}
end
end L2
namespace L2
open PySem PySem.Spec PyProof.Rows
section
variable {X:Cx}{H0:Hp}{O0:List Addr}{ps:PSt}{a b:Expr}{k:Int}{ns:List Int}
end
section
variable {X:Cx}{tg:Expr}
variable {H0:Hp}{O0:List Addr}{ps:PSt}{a b:Expr}{p pos:Pos}
end
section
variable {X:Cx}{H0:Hp}{O0:List Addr}{E:XK}{ps ps':PSt}{D:PD}{tg iter cond:Expr}{pos p:Pos}{xs:List U}
end
section
variable {X:Cx}{H0:Hp}{O0:List Addr}{ps:PSt}{e:Expr}{ns:List Int}{pos p:Pos}
end
section
variable {X:Cx}{H0:Hp}{O0:List Addr}{E:XK}{ps:PSt}{D:PD}{c:Expr}{pos:Pos}{xs:List U}
end
end L2
namespace TS
open PySem PyProof.Rows
abbrev SM:=StateT SortSt Sem
section
variable {prog:AC}{w:World}{A:A4}{E:Value→Ar→Prop}{s:Ar}
def gt (a:Array Keyed) (i:Nat):Keyed:=a.getD i (AY,AY)
end
section
variable {prog:AC}{w:World}{A:A4}{E:Value→Ar→Prop}{s:Ar}
end
section
variable {α:Type}{R:α→α→Bool}{A B out:List α}{ia ib:Nat}
structure MI (R:α→α→Bool) (A B out:List α) (ia ib:Nat):Prop where
 perm:out.Perm (A.take ia++B.take ib)
 srt:out.Pairwise fun x y=>R x y=true
 lA:∀x∈out,∀y∈A.drop ia,R x y=true
 lB:∀x∈out,∀y∈B.drop ib,R x y=true
structure MO (R:α→α→Bool) (A B:List α):Prop where
 tr:∀x y z,R x y=true→R y z=true→R x z=true
 sA:A.Pairwise fun x y=>R x y=true
 sB:B.Pairwise fun x y=>R x y=true
 tot:∀x∈A,∀y∈B,R y x=false→R x y=true
end
section
variable {M:Model}{A:A4}{E:Value→Ar→Prop}{s:Ar}{σ:Type}
end
section
variable {prog:AC}{w:World}{A:A4}{E:Value→Ar→Prop}{s:Ar}
def nG (prog:AC) (w:World) (A:A4) (E:Value→Ar→Prop) (s:Ar) (κ:Em) (P:Keyed→Prop) (R:Keyed→Keyed→Bool):Prop:=
 ∀x y st (Q:Option Bool→SortSt→Prop),P x→P y→kindOf st=κ→Q (some (R x y)) st→wpS (model prog w) A E s (lt' x y) Q st
variable {κ:Em}{P:Keyed→Prop}{R:Keyed→Keyed→Bool} (K:nG prog w A E s κ P R)
include K
end
section
variable {α:Type}{R:α→α→Bool}{A B:List α}
end
section
variable {prog:AC}{w:World}{A:A4}{E:Value→Ar→Prop}{s:Ar}{κ:Em}{P:Keyed→Prop}{R:Keyed→Keyed→Bool} (K:nG prog w A E s κ P R)
include K
end
section
end
section
variable {prog:AC}{w:World}{A:A4}{E:Value→Ar→Prop}{s:Ar}{κ:Em}{P:Keyed→Prop}{R:Keyed→Keyed→Bool} (K:nG prog w A E s κ P R)
include K
end
section
variable {prog:AC}{w:World}{A:A4}{E:Value→Ar→Prop}{s:Ar}{κ:Em}{P:Keyed→Prop}{R:Keyed→Keyed→Bool}
structure Ord (P:Keyed→Prop) (R:Keyed→Keyed→Bool) (l:List Keyed):Prop where
 tr:∀x y z,R x y=true→R y z=true→R x z=true
 tot:∀x∈l,∀y∈l,x≠y→R x y=false→R y x=true
 nd:l.Nodup
 hp:∀x∈l,P x
structure Stt (κ:Em) (l:List Keyed) (pd:Array (Nat×Nat×Nat)) (st:SortSt):Prop where
 kind:kindOf st=κ
 failed:failedOf st=none
 perm:(arrOf st).toList.Perm l
 pend:pendingOf st=pd
variable {l:List Keyed}{pd:Array (Nat×Nat×Nat)}
def Kept (a b:Array Keyed) (lo:Nat):Prop:=∀j,j < lo→gt b j=gt a j
variable (K:nG prog w A E s κ P R)
include K
end
section
variable {prog:AC}{w:World}{A:A4}{E:Value→Ar→Prop}{s:Ar}{κ:Em}{P:Keyed→Prop}{R:Keyed→Keyed→Bool}{l:List Keyed}{pd:Array (Nat×Nat×Nat)}
variable (K:nG prog w A E s κ P R)
include K
end
section
variable {prog:AC}{w:World}{A:A4}{E:Value→Ar→Prop}{s:Ar}{κ:Em}{P:Keyed→Prop}{R:Keyed→Keyed→Bool}{l:List Keyed}
variable (K:nG prog w A E s κ P R)
include K
end
section
variable {prog:AC}{w:World}{A:A4}{E:Value→Ar→Prop}{s:Ar}{κ:Em}{P:Keyed→Prop}{R:Keyed→Keyed→Bool}{l:List Keyed}
variable (K:nG prog w A E s κ P R)
include K
end
end TS
namespace ST
open PySem PySem.W PyProof.Rows
abbrev ky (p:(Int×Int)×Addr):Keyed:=(Bi p.2,Bi p.2)
open Classical in
noncomputable def RP (pb:PB) (x y:Keyed):Bool:=decide (∃p∈pb,∃q∈pb,x=ky p∧y=ky q∧ltP p.1 q.1=true)
section
variable {prog:AC}{w:World}{A:A4}{E:Value→Ar→Prop}{s:Ar}
end
end ST
namespace ST
open PySem PySem.W PyProof.Rows PySem.Calls
section
variable {prog:AC}{w:World}{A:A4}{E:Value→Ar→Prop}{s:Ar}
end
end ST
namespace L2
open PySem PySem.Spec PyProof.Rows
section
variable {X:Cx}{H0:Hp}{O0:List Addr}{ps:PSt}{e:Expr}{pts:List P2}{pos pos' p p':Pos}
end
section
variable {X:Cx}{tg:Expr}
variable {H0:Hp}{O0:List Addr}{ps:PSt}{a:Expr}{p pos:Pos}
end
end L2
namespace ST
open PySem PySem.W PySem.Calls PyProof.Rows
section
variable {prog:AC}{w:World}{A:A4}{E:Value→Ar→Prop}{s:Ar}
end
end ST
namespace L2
open PySem PySem.Spec PyProof.Rows
section
variable {X:Cx}{H0:Hp}{O0:List Addr}{ps:PSt}{e:Expr}{pts:List P2}{pos p:Pos}
end
section
variable {X:Cx}{H0:Hp}{O0:List Addr}{E:XK}{ps ps':PSt}{D:PD}{a b c e:Expr}{es:List Expr}{u:U}{xs ys us:List U}
 {n:Nat}{C:Addr}{fd:A6}{pn:List Str}{spec:List U→Out→Prop}
end
end L2
namespace L2
open PySem PySem.Spec PySem.W PyProof.Rows
section
variable {X:Cx}{H0:Hp}{O0:List Addr}{E:XK}{ps:PSt}{D:PD}{s:Stmt}{pos:Pos}{u:U}{xs:List U}
end
section
variable {P:AC}{w:World}{K:Ao}{mg:Str→Option Value}{base:Heap}{N pn:List Str}{qual nm:Str}{f:Addr}
end
section
variable {X:Cx}{H0:Hp}{O0:List Addr}{ps:PSt}{e:Expr}{xs:List U}{us:List U}{x nm:Str}{pc p' pos:Pos}{u:U}
end
section
variable {X:Cx}
def TB (X:Cx) (body:List Stmt) (t:(St→Hp→Prop)→(St→XK)→St→Hp→Prop):Prop:=
 ∀(pins:List (Addr×Obj)) (s:Ar) (σ:St) (H:Hp) (N:St→Hp→Prop) (EX:St→XK) (Q:Flow→Ar→Prop) (E':Value→Ar→Prop),Inv X pins σ H s→t N EX σ H→(∀σ' H' s',Inv X pins σ' H' s'→N σ' H'→Q .next s')→
  (∀σ1 s1 H1 ev s',Inv X pins σ1 H1 s1→CXF X.prog X.w X.stack H1 s1 (EX σ1) ev s'→E' ev s')→wpAny (model X.prog X.w) X.A (execs body X.env) Q E' s
end
section
variable {X:Cx}{H0:Hp}{O0:List Addr}{E:XK}{ps:PSt}{D:PD}{e c:Expr}{es:List Expr}{us:List U}{n:Nat}{fd:A6}{pn:List Str}{spec:List U→Out→Prop}{AA rest:List Stmt}{nx:PSt→Prop}{ex:PSt→Addr→Prop}
end
abbrev T' (l:List Nat):Str:=⟨l.toArray⟩
section
variable {X:Cx}{tg:Expr}
end
abbrev sg (c:Nat):U:=.str ⟨#[c]⟩
section
variable {X:Cx}{H0:Hp}{O0:List Addr}{ps:PSt}{a b e tg:Expr}{es:List Expr}{pos p p2:Pos}{x y:Str}{i:Int}{lo hi:Option Expr}{l h:Option Int}
variable {apos cpos:Pos}
end
inductive Cst:Expr→U→Prop
 |str (x:Str) (j) (p:Pos):Cst (.Constant (.str x) j p) (.str x)
 |int (i:Int) (j) (p:Pos):Cst (.Constant (.int i) j p) (.int i)
 |bl (b:Bool) (j) (p:Pos):Cst (.Constant (.bool b) j p) (.bl b)
 |non (j) (p:Pos):Cst (.Constant .none j p) .non
inductive w6:List Expr→List U→Prop
 |nil:w6 [] []
 |cons {e:Expr}{u:U}{es:List Expr}{us:List U}:Cst e u→w6 es us→w6 (e::es) (u::us)
structure EvD (X:Cx) (H0:Hp) (O0:List Addr) (ps:PSt) (e:Expr) (u:U):Prop where
 ev:Ev X H0 O0 ps e u
theorem dsp {X:Cx}{H0:Hp}{O0:List Addr}{ps:PSt}{es:List Expr}{us:List U}{pos:Pos} (h:EvS X H0 O0 ps es us) (hz:us.length≤sizeLine):EvD X H0 O0 ps (.List es pos) (.lst us):=⟨EvN.ev (dX h hz)⟩
section
variable {X:Cx}{H0:Hp}{O0:List Addr}{ps:PSt}{a b e:Expr}{x y:Str}
variable {apos cpos:Pos}
end
section
variable {X:Cx}{H0:Hp}{O0:List Addr}{E:XK}{ps:PSt}{a b e:Expr}{es:List Expr}{y:Str}{l:List Nat}{c:Nat}{apos cpos pos:Pos}{u:U}{C:Addr}
end
section
variable {M:Model}{A:A4}{E:Value→Ar→Prop}{s:Ar}
end
section
variable {P:AC}{w:World}{K:Frag}{mg:Str→Option Value}{base:Heap}{N:List Str}{qual:Str}{scope:Scope}{f:Addr}{cd:Value}{A:A4}{outer:List Env}{s:Ar}{H:Hp}{E:XK}
end
section
variable {X:Cx}{pins:List (Addr×Obj)}{σ:St}{H:Hp}{s:Ar}{E:XK}
end
section
variable {X:Cx}{H0:Hp}{O0:List Addr}{E:XK}{ps:PSt}{iter tg elt e:Expr}{es:List Expr}{pos p:Pos}{xs ys us:List U}{C0:Addr}
end
structure EvM (X:Cx) (H0:Hp) (O0:List Addr) (ps:PSt) (e:Expr) (us:List U):Prop where
 ev:EvN X H0 O0 ps e us
theorem zo {X:Cx}{H0:Hp}{O0:List Addr}{ps:PSt}{es:List Expr}{us:List U}{pos:Pos} (h:EvS X H0 O0 ps es us) (hz:us.length≤sizeLine):EvM X H0 O0 ps (.List es pos) us:=⟨dX h hz⟩
end L2
namespace L2
open PySem PySem.Spec PyProof.Rows
section
variable {X:Cx}{H0:Hp}{O0:List Addr}{E:XK}{ps:PSt}{D:PD}{e1 e2:Expr}{xs1 xs2:List U}{pos lpos:Pos}{body:List Stmt}
end
structure Dl (K:Ao) (ps:PSt) (j:Nat) (xss:Nat→List U) (H0:Hp) (O0:List Addr) (σ:St) (H:Hp) (O:List Addr) (d:Addr) (as:Nat→Addr):Prop where
 rs:Rs K H0 O0 ps σ H O
 vals:∀(i:Nat) (s:Sl),ps[i]?=some (some s)→∃u,s=.val u
 non:ps[j]?=some none
 at_:σ[j]?=some (some (.ref d))
 dO:d∈O
 dO0:d ∉ O0
 aO:∀r,r < 3→as r∈O∧as r ∉ O0
 da:∀r,r < 3→as r≠d
 inj:∀r t,r < 3→t < 3→as r=as t→r=t
 dh:H d=some (.lst [.ref (as 0),.ref (as 1),.ref (as 2)])
 ah:∀r,r < 3→∃vs,H (as r)=some (.lst vs)∧Rps K (hid H O) vs (xss r)
section
variable {K:Ao}{H0 H H':Hp}{O0 O:List Addr}{ps:PSt}{σ:St}{j:Nat}{xss:Nat→List U}{d:Addr}{as:Nat→Addr}
end
section
variable {X:Cx}{H0:Hp}{O0:List Addr}{E:XK}{ps:PSt}{D:PD}{iter e1 e2:Expr}{items:List U}{ss:List Stmt}
end
end L2
namespace ST2
open PySem PySem.SetTable ST
section
variable {prog:AC}{w:World}{A:A4}{E:Value→Ar→Prop}{s:Ar}
abbrev K4:=(Int×Int)×(Int×Int)
abbrev l1 (k:K4):List Int:=[k.1.1,k.1.2]
abbrev l2 (k:K4):List Int:=[k.2.1,k.2.2]
def TQ (prog:AC) (w:World) (h:Heap) (k:K4) (b:Addr):Prop:=∃o items n a1 a2,h.get? b=some o∧o.cls=.type "tuple"∧o.data=.seq items n∧items.toList=[.ref a1,.ref a2]∧TK prog w h (l1 k) a1∧TK prog w h (l2 k) a2
end
section
variable {prog:AC}{w:World}{A:A4}{E:Value→Ar→Prop}{s:Ar}{hZ:K4→Int}
def ents (hZ:K4→Int) (kb:List (K4×Addr)):List (Int×Value):=kb.map fun p=>(hZ p.1,.ref p.2)
structure SP (prog:AC) (w:World) (hZ:K4→Int) (h:Heap) (S:Addr) (kb:List (K4×Addr)):Prop where
 ex:∃o es ep t,h.get? S=some o∧o.ExactSet∧o.data=.set es ep t∧es.toList=ents hZ kb∧TOk t (kb.map fun p=>hZ p.1)∧t.led=(!w.params.followText "set-order")∧t.plain=true∧t.tooFull=false∧t.mask < 8*kb.length+8
 keys:∀p∈kb,TQ prog w h p.1 p.2
 nd:(kb.map (·.1)).Nodup
end
section
variable {prog:AC}{w:World}{A:A4}
structure Got (kx:Nat→K4×Addr) (i:Nat) (kb:List (K4×Addr)):Prop where
 src:∀p∈kb,∃j,j < i∧p=kx j
 all:∀j,j < i→(kx j).1∈kb.map (·.1)
 len:kb.length≤i
variable {R:GT→Ar→Prop}{I:Addr}{fp wr:List Addr}{G:Array DA→Array DA→Prop}{n:Nat}{P:Nat→Value→Prop}{St:Nat→Ar→Prop}
end
section
variable {prog:AC}{w:World}{A:A4}{E:Value→Ar→Prop}{s:Ar}
end
end ST2
namespace ST
open PySem PySem.W PySem.Calls PyProof.Rows
section
variable {prog:AC}{w:World}{A:A4}{E:Value→Ar→Prop}{s:Ar}
end
end ST
namespace L2
open PySem PySem.Spec PyProof.Rows
section
variable {X:Cx}{H0:Hp}{O0:List Addr}{ps:PSt}{e:Expr}{p pos:Pos}{a b:P2}
end
section
variable {X:Cx}{H0:Hp}{O0:List Addr}{ps:PSt}{e:Expr}{pts:List P2}{prs dd:List (P2×P2)}{pos pos' p p':Pos}
end
end L2
namespace HT
open PySem PySem.W PySem.Spec PyProof.Rows L2
section
variable {prog:AC}{w:World}{A:A4}{E:Value→Ar→Prop}{s:Ar}
end
end HT
namespace L2
open PySem PySem.Spec PyProof.Rows
section
variable {X:Cx}{H0:Hp}{O0:List Addr}{E:XK}{ps:PSt}{D:PD}{e:Expr}{lo hi:Option Expr}{l h:Option Int}{pos p2:Pos}{xs ys:List U}
end
end L2
namespace L2
open PySem PySem.Spec PySem.W PyProof.Rows
open PySem.Builtin.Str in
def Al (x y z:Str):Str:=if ((occurrences x y 0 x.length 1).isEmpty || (y.length==0 && z.length==0))=true then x else glued z (partsBetween x (occurrences x y 0 x.length 1) y.length)
section
variable {prog:AC}{w:World}{A:A4}{E:Value→Ar→Prop}{s:Ar}{x y z:Str}{t u v k:Tok}{Q:Value→Ar→Prop}
end
section
variable {X:Cx}{H0:Hp}{O0:List Addr}{E:XK}{ps:PSt}{D:PD}
end
end L2
namespace ST3
open PySem PySem.W PySem.Calls PyProof.Rows ST
abbrev TR:=(Int×Int)×(Int×Int)×(Int×Int)
def ltT (a b:TR):Bool:=if a.1=b.1 then (if a.2.1=b.2.1 then ltP a.2.2 b.2.2 else ltP a.2.1 b.2.1) else ltP a.1 b.1
section
variable {prog:AC}{w:World}{A:A4}{E:Value→Ar→Prop}{s:Ar}
abbrev lq (p:Int×Int):List Int:=[p.1,p.2]
def TT (prog:AC) (w:World) (h:Heap) (t:TR) (b:Addr):Prop:=∃o items n a1 a2 a3,h.get? b=some o∧o.cls=.type "tuple"∧o.data=.seq items n∧items.toList=[.ref a1,.ref a2,.ref a3]∧TK prog w h (lq t.1) a1∧TK prog w h (lq t.2.1) a2∧TK prog w h (lq t.2.2) a3
abbrev PT3:=List (TR×Addr)
end
section
variable {prog:AC}{w:World}{A:A4}{E:Value→Ar→Prop}{s:Ar}
abbrev ky3 (p:TR×Addr):Keyed:=(Bi p.2,Bi p.2)
open Classical in
noncomputable def RP3 (pb:PT3) (x y:Keyed):Bool:=decide (∃p∈pb,∃q∈pb,x=ky3 p∧y=ky3 q∧ltT p.1 q.1=true)
end
section
variable {prog:AC}{w:World}{A:A4}{E:Value→Ar→Prop}{s:Ar}
end
end ST3
namespace L2
open PySem PySem.Spec PyProof.Rows
def t0:ST3.TR:=((0,0),(0,0),(0,0))
section
variable {X:Cx}{H0:Hp}{O0:List Addr}{ps:PSt}{e:Expr}{trs:List ST3.TR}{pos p:Pos}
theorem yk {a b c:V}{us:List Value} (h:aV [a,b,c] us):∃u v w,us=[u,v,w]∧aY a u∧aY b v∧aY c w:=by
 cases h with
 |cons h1 r=>
  cases r with
  |cons h2 r=>
   cases r with
   |cons h3 r=>cases r;exact ⟨_,_,_,rfl,h1,h2,h3⟩
end
end L2
namespace ST6
open PySem PySem.W PySem.Calls PyProof.Rows ST
def ltL:List Int→List Int→Bool
 |a::r,b::t=>if a=b then ltL r t else decide (a < b)
 |[],_::_=>true
 |_,[]=>false
theorem pw:∀x:List Int,ltL x x=false
 |[]=>rfl
 |a::r=>by rw[ltL,if_pos rfl];exact pw r
theorem kL:∀{a b:List Int},ltL a b=true→ltL b a=false
 |[],[],_=>rfl
 |[],_::_,_=>rfl
 |_::_,[],h=>by cases h
 |a::r,b::t,h=>by
  rw[ltL] at h ⊢
  by_cases e:a=b
  ·rw[if_pos e] at h
   rw[if_pos e.symm];exact kL h
  ·rw[if_neg e] at h
   rw[if_neg (Ne.symm e)]
   have:=of_decide_eq_true h
   exact decide_eq_false (by omega)
theorem kD:∀{a b:List Int},a≠b→ltL a b=false→ltL b a=true
 |[],[],h,_=>absurd rfl h
 |[],_::_,_,h=>by cases h
 |_::_,[],_,_=>rfl
 |a::r,b::t,h,k=>by
  rw[ltL] at k ⊢
  by_cases e:a=b
  ·rw[if_pos e] at k
   rw[if_pos e.symm]
   exact kD (fun z=>h (by rw[e,z])) k
  ·rw[if_neg e] at k
   rw[if_neg (Ne.symm e)]
   have:=of_decide_eq_false k
   exact decide_eq_true (by omega)
theorem nZ:∀{a b c:List Int},ltL a b=true→ltL b c=true→ltL a c=true
 |[],[],_,h,_=>by cases h
 |[],_::_,[],_,k=>by cases k
 |[],_::_,_::_,_,_=>rfl
 |_::_,[],_,h,_=>by cases h
 |_::_,_::_,[],_,k=>by cases k
 |a::r,b::t,c::u,h,k=>by
  rw[ltL] at h k ⊢
  by_cases e:a=b
  ·rw[if_pos e] at h
   by_cases f:b=c
   ·rw[if_pos f] at k
    rw[if_pos (e.trans f)];exact nZ h k
   ·rw[if_neg f] at k
    rw[if_neg (by rw[e];exact f),e];exact k
  ·rw[if_neg e] at h
   have h1:=of_decide_eq_true h
   by_cases f:b=c
   ·rw[if_neg (by rw[←f];exact e),←f];exact h
   ·rw[if_neg f] at k
    have h2:=of_decide_eq_true k
    rw[if_neg (by omega)]
    exact decide_eq_true (by omega)
def gR (x:(List Int)):List (List Int)→List (List Int)
 |[]=>[x]
 |y::r=>if x=y then y::r else if ltL x y=true then x::y::r else y::gR x r
def srtL (pts:List (List Int)):List (List Int):=pts.foldr gR []
theorem ik (x z:(List Int)):∀l,z∈gR x l↔z=x∨z∈l
 |[]=>by simp[gR]
 |y::r=>by
  unfold gR
  split
  ·rename_i h;subst h;simp
  ·split
   ·simp
   ·rw[Ay,ik x z r,Ay]
    constructor
    ·rintro (h |h |h)
     ·exact .inr (.inl h)
     ·exact .inl h
     ·exact .inr (.inr h)
    ·rintro (h |h |h)
     ·exact .inr (.inl h)
     ·exact .inl h
     ·exact .inr (.inr h)
abbrev ug (l:List (List Int)):Prop:=l.Pairwise (fun x y=>ltL x y=true)
theorem jm (x:(List Int)):∀l,ug l→ug (gR x l)
 |[],_=>by simp[gR]
 |y::r,h=>by
  unfold gR
  split
  ·exact h
  ·rename_i hne
   obtain ⟨h1,h2⟩:=Bk.mp h
   split
   ·rename_i hlt
    refine Bk.mpr ⟨fun z hz=>?_,h⟩
    rcases Ay.mp hz with e |e
    ·rw[e];exact hlt
    ·exact nZ hlt (h1 z e)
   ·rename_i hlt
    refine Bk.mpr ⟨fun z hz=>?_,jm x r h2⟩
    rcases (ik x z r).mp hz with e |e
    ·rw[e];exact kD hne (by simpa using hlt)
    ·exact h1 z e
theorem srtL_mem (z:(List Int)):∀l,z∈srtL l↔z∈l
 |[]=>by simp[srtL]
 |y::r=>by
  show z∈gR y (srtL r)↔_
  rw[ik,srtL_mem z r,Ay]
theorem srtL_ascL:∀l,ug (srtL l)
 |[]=>DB
 |y::r=>jm y (srtL r) (srtL_ascL r)
theorem ascL_irr {x:(List Int)}:ltL x x=false:=pw x
theorem ascL_one:∀{l m:List (List Int)},ug l→ug m→(∀z,z∈l↔z∈m)→l=m
 |[],[],_,_,_=>rfl
 |[],y::r,_,_,h=>by have:=(h y).mpr AE;simp at this
 |x::l,[],_,_,h=>by have:=(h x).mp AE;simp at this
 |x::l,y::m,hl,hm,h=>by
  obtain ⟨a1,a2⟩:=Bk.mp hl
  obtain ⟨b1,b2⟩:=Bk.mp hm
  have e:x=y:=by
   rcases Ay.mp ((h x).mp AE) with z |z
   ·exact z
   ·rcases Ay.mp ((h y).mpr AE) with z' |z'
    ·exact z'.symm
    ·have:=kL (b1 x z)
     rw[a1 y z'] at this;cases this
  subst e
  congr 1
  refine ascL_one a2 b2 fun z=>⟨fun hz=>?_,fun hz=>?_⟩
  ·rcases Ay.mp ((h z).mp (Au _ hz)) with e |e
   ·have:=a1 z hz;rw[e,ascL_irr] at this;cases this
   ·exact e
  ·rcases Ay.mp ((h z).mpr (Au _ hz)) with e |e
   ·have:=b1 z hz;rw[e,ascL_irr] at this;cases this
   ·exact e
section
variable {prog:AC}{w:World}{A:A4}{E:Value→Ar→Prop}{s:Ar}
theorem TK6.grow {h h':Heap}{k:List Int}{b:Addr} (x:TK prog w h k b) (e:∀b o,o.cls=.type "tuple"→h.get? b=some o→h'.get? b=some o):TK prog w h' k b:=by
 obtain ⟨o,it,n,g1,gc,g2⟩:=x
 exact ⟨o,it,n,e _ _ gc g1,gc,g2⟩
theorem mQ {Q:Bool→Ar→Prop}:∀(ks ls:List Int) (xs ys:List Value) (i:Nat),ItemsAre (DD prog w) ks xs→ItemsAre (DD prog w) ls ys→ks.length=ls.length→Q (ltL ks ls) s→KatLex prog w A true false Q (xs.zip ys) i s
 |[],[],xs,ys,i,hx,hy,_,h=>by cases hx;cases hy;exact kat_nil h
 |a::ks,b::ls,xs,ys,i,hx,hy,hl,h=>by
  cases hx with
  | @cons _ v _ xs h1 hx=>
   cases hy with
   | @cons _ u _ ys h2 hy=>
    rw[D_]
    refine kat_cons ((DD prog w).eqBool (a:=a) (b:=b) h1 h2 ?_)
    rw[ltL] at h
    by_cases e:a=b
    ·rw[decide_eq_true e]
     rw[if_pos e] at h
     exact kat_yes (mQ ks ls xs ys (i+1) hx hy (by simpa using hl) h)
    ·rw[decide_eq_false e]
     rw[if_neg e] at h
     obtain ⟨t1,rfl⟩:=CI h1
     obtain ⟨t2,rfl⟩:=CI h2
     cases i with
     |zero=>exact kat_no (oneLt_int h)
     |succ i=>exact kat_no (kat_one _ _ (lt_int h))
 |[],_::_,_,_,_,_,_,hl,_=>by simp at hl
 |_::_,[],_,_,_,_,_,hl,_=>by simp at hl
theorem jY {k:List Int}{vs:List Value} (h:ItemsAre (DD prog w) k vs):vs.length=k.length:=by
 induction h with
 |nil=>rfl
 |cons _ _ ih=>rw[A9,A9,ih]
theorem w_ {x y:Addr}{a b:List Int}{Q:Bool→Ar→Prop} (la:a.length=6) (lb:b.length=6) (hx:TK prog w s.heap a x) (hy:TK prog w s.heap b y) (h:Q (ltL a b) s):wpAny (model prog w) A (keyLt' (tuples' true) (.ref x) (.ref y)) Q E s:=by
 obtain ⟨o,its,n,ho,_,hd,hi⟩:=hx
 obtain ⟨o',its',n',ho',_,hd',hi'⟩:=hy
 refine kat_lt ho hd ho' hd' ?_
 have z2:decide (its.size < its'.size)=false:=by
  have h1:=jY hi
  have h2:=jY hi'
  rw[←AR,←AR,h1,h2,la,lb];rfl
 rw[z2]
 exact mQ a b _ _ 0 hi hi' (by omega) h
abbrev PT6:=List (List Int×Addr)
abbrev refs6 (pb:PT6):List Value:=pb.map fun p=>Bi p.2
theorem tW {pb:PT6}{Q:Em→Ar→Prop} (hlen:∀p∈pb,p.1.length=6) (htk:∀p∈pb,TK prog w s.heap p.1 p.2) (h0:0 < pb.length) (h:Q (tuples' true) s):wpAny (model prog w) A (keyKind' (refs6 pb).toArray) Q E s:=by
 obtain ⟨fs,hf,hl,hi⟩:∃fs,KatTups s.heap (refs6 pb) fs∧fs.length=pb.length∧∀v∈fs,∃n t,v=Bc n t:=by
  clear h h0
  induction pb with
  |nil=>exact ⟨[],.nil,rfl,fun v hv=>by simp at hv⟩
  |cons p r ih=>
   obtain ⟨fs,hf,hl,hi⟩:=ih (fun q hq=>hlen q (Au _ hq)) fun q hq=>htk q (Au _ hq)
   obtain ⟨o,its,n,ho,hc,hd,hit⟩:=htk p AE
   have l6:=hlen p AE
   cases hk:p.1 with
   |nil=>rw[hk] at l6;simp at l6
   |cons a ks=>
    rw[hk] at hit
    generalize hts:its.toList=ts at hit
    cases hit with
    | @cons _ v _ vs h1 hr=>
     obtain ⟨t,rfl⟩:=CI h1
     refine ⟨.int a t::fs,.cons ho hc hd (by rw[←Bg,hts];rfl) hf,by simp[hl],fun v hv=>?_⟩
     rcases Ay.mp hv with z |z
     ·exact ⟨_,_,z⟩
     ·exact hi v z
 refine kat_kind (T:=.type "int") hf (by omega) (fun v hv=>?_) (by decide) h
 obtain ⟨n,t,rfl⟩:=hi v hv
 exact Looks.of_pure rfl
end
section
variable {prog:AC}{w:World}{A:A4}{E:Value→Ar→Prop}{s:Ar}
abbrev ky6 (p:List Int×Addr):Keyed:=(Bi p.2,Bi p.2)
open Classical in
noncomputable def RP6 (pb:PT6) (x y:Keyed):Bool:=decide (∃p∈pb,∃q∈pb,x=ky6 p∧y=ky6 q∧ltL p.1 q.1=true)
end
section
variable {prog:AC}{w:World}{A:A4}{E:Value→Ar→Prop}{s:Ar}
end
end ST6
namespace L2
open PySem PySem.Spec PyProof.Rows
abbrev sxU (k:List Int):U:=.tup (k.map U.int)
section
variable {X:Cx}{H0:Hp}{O0:List Addr}{ps:PSt}{e:Expr}{trs:List (List Int)}{pos p:Pos}
end
end L2
namespace ST
open PySem
theorem ue (a b c:Value):checkTypeCall "zip" ⟨[a,b,c],[]⟩=pure ():=by kernel_rfl
theorem sO (a b c:Value):HD "zip.__new__" ⟨[.type "zip",a,b,c],[]⟩=pure ():=by kernel_rfl
theorem r8 (a b c d:Value):Jz "object.__init__" ⟨[a,b,c,d],[]⟩:=by
 unfold Jz
 rw[signature?_of (n:=['_','_','t','i','n','i','_','_']) (o:=['t','c','e','j','b','o']) (id:="object.__init__") (by kernel_rfl) PySem.F.owner_object]
 kernel_rfl
abbrev IsTri (h:Heap) (T:Addr) (a b c:Value):Prop:=h.get? T=some {cls:=.type "tuple",data:=.seq #[a,b,c] }
structure Z3A (z TI TO i1 i2 i3 l1 l2 l3:Addr):Prop where
 TIz:TI≠z
 TOz:TO≠z
 i1z:i1≠z
 i2z:i2≠z
 i3z:i3≠z
 TITO:TI≠TO
 TIi1:TI≠i1
 TIi2:TI≠i2
 TIi3:TI≠i3
 TOi1:TO≠i1
 TOi2:TO≠i2
 TOi3:TO≠i3
 i12:i1≠i2
 i13:i1≠i3
 i23:i2≠i3
 l1z:l1≠z
 l1TO:l1≠TO
 l1i1:l1≠i1
 l1i2:l1≠i2
 l1i3:l1≠i3
 l2z:l2≠z
 l2TO:l2≠TO
 l2i1:l2≠i1
 l2i2:l2≠i2
 l2i3:l2≠i3
 l3z:l3≠z
 l3TO:l3≠TO
 l3i1:l3≠i1
 l3i2:l3≠i2
 l3i3:l3≠i3
section
variable {prog:AC}{w:World}{A:A4}{E:Value→Ar→Prop}{s:Ar}
theorem kJ {T:Addr}{a b c x:Value}{k:Nat}{Q:Unit→Ar→Prop} (hT:IsTri s.heap T a b c)
  (h:∀h',h'.get? T=some {cls:=.type "tuple",data:=.seq ((#[a,b,c]:Array Value).setIfInBounds k x) }→Dv T s.heap h'→Q () {s with heap:=h' }):
  wpAny (model prog w) A (Gn T (·.setIfInBounds k x)) Q E s:=by
 refine Dd hT rfl (h _ ?_ (CN ..))
 rw[BP _ hT rfl];simp[BL]
theorem u6 {z TI TO i1 i2 i3 l1 l2 l3:Addr}{k1 k2 k3:Nat}{xs ys zs:Array Value}{x y v a b c:Value}{Q:Value→Ar→Prop} (D:Z3A z TI TO i1 i2 i3 l1 l2 l3)
  (gz:IsZip s.heap z TI TO .none) (gI:IsTri s.heap TI (.ref i1) (.ref i2) (.ref i3)) (gO:IsTri s.heap TO a b c)
  (h1:s.heap.IsListIter i1 l1 k1) (h2:s.heap.IsListIter i2 l2 k2) (h3:s.heap.IsListIter i3 l3 k3) (hl1:s.heap.IsList l1 xs) (hl2:s.heap.IsList l2 ys) (hl3:s.heap.IsList l3 zs)
  (hx:xs[k1]?=some x) (hy:ys[k2]?=some y) (hv:zs[k3]?=some v)
  (hQ:∀h',IsZip h' z TI TO (Ds s.heap.objs.size)→IsTri h' TO x y v→h'.IsListIter i1 l1 (k1+1)→h'.IsListIter i2 l2 (k2+1)→h'.IsListIter i3 l3 (k3+1)→IsTri h' s.heap.objs.size x y v→h'.objs.size=s.heap.objs.size+1→
   (∀d o,d≠z→d≠TO→d≠i1→d≠i2→d≠i3→s.heap.get? d=some o→h'.get? d=some o)→Q (.ref s.heap.objs.size) {s with heap:=h' }):
  wpAny (model prog w) A (Builtin.«zip.__next__» ⟨[.ref z],[]⟩) (fun fin s'=>∃v,fin=.done (.ret v)∧Q v s') E s:=by
 show wpAny _ _ (field (.ref z) 2 >>=_) _ _ _
 refine An (DT gz rfl (x:=.bool false) rfl ?_);show wpAny _ _ (field (.ref z) 3 >>=_) _ _ _
 refine An (DT gz rfl (x:=.ref TI) rfl ?_);refine An (B3 gI rfl ?_)
 show wpAny _ _ (Builtin.SmallTypes.ownedTupleIsFree (.ref z) >>=_) _ _ _
 refine An ?_;unfold Builtin.SmallTypes.ownedTupleIsFree
 refine An (DT gz rfl (x:=.none) rfl (As ?_));simp only[if_true]
 refine An (Fi ?_);refine An (DT gz rfl (x:=.ref TO) rfl ?_)
 refine An (Du gz (by simp) fun hp1 gz1 hs1=>?_);replace gz1:IsZip hp1 z TI TO .ellipsis:=gz1
 refine An ?_
 simp only[HG,Ig,EO,GK]
 refine An (An (FF ?_));show wpAny _ _ (Builtin.SmallTypes.nextOf (.ref i1) >>=_) _ _ _
 refine An (Eb (h1.extBut hs1.extBut D.i1z) (hl1.extBut hs1.extBut D.l1z) hx fun hp2 h12 hs2=>As ?_)
 have gO2:IsTri hp2 TO a b c:=hs2.extBut _ _ D.TOi1 (hs1.extBut _ _ D.TOz gO)
 refine An (B3 gO2 rfl ?_);refine An (kJ gO2 fun hp3 gO3 hs3=>?_)
 replace gO3:IsTri hp3 TO x b c:=gO3
 refine An (DS (As ?_))
 refine An (An (FF ?_));show wpAny _ _ (Builtin.SmallTypes.nextOf (.ref i2) >>=_) _ _ _
 refine An (Eb (((h2.extBut hs1.extBut D.i2z).extBut hs2.extBut D.i12.symm).extBut hs3.extBut D.TOi2.symm)
  (((hl2.extBut hs1.extBut D.l2z).extBut hs2.extBut D.l2i1).extBut hs3.extBut D.l2TO) hy fun hp4 h24 hs4=>As ?_)
 have gO4:IsTri hp4 TO x b c:=hs4.extBut _ _ D.TOi2 gO3
 refine An (B3 gO4 rfl ?_);refine An (kJ gO4 fun hp5 gO5 hs5=>?_)
 replace gO5:IsTri hp5 TO x y c:=gO5
 refine An (DS (As ?_))
 refine An (An (FF ?_));show wpAny _ _ (Builtin.SmallTypes.nextOf (.ref i3) >>=_) _ _ _
 refine An (Eb (((((h3.extBut hs1.extBut D.i3z).extBut hs2.extBut D.i13.symm).extBut hs3.extBut D.TOi3.symm).extBut hs4.extBut D.i23.symm).extBut hs5.extBut D.TOi3.symm)
  (((((hl3.extBut hs1.extBut D.l3z).extBut hs2.extBut D.l3i1).extBut hs3.extBut D.l3TO).extBut hs4.extBut D.l3i2).extBut hs5.extBut D.l3TO) hv fun hp6 h36 hs6=>As ?_)
 have gO6:IsTri hp6 TO x y c:=hs6.extBut _ _ D.TOi3 gO5
 refine An (B3 gO6 rfl ?_);refine An (kJ gO6 fun hp7 gO7 hs7=>?_)
 replace gO7:IsTri hp7 TO x y v:=gO7
 refine An (DS (As (As ?_)))
 refine An (B3 gO7 rfl ?_);refine An (GG ?_)
 have hsz:hp7.objs.size=s.heap.objs.size:=by rw[hs7.1,hs6.1,hs5.1,hs4.1,hs3.1,hs2.1,hs1.1]
 have all:∀d o,d≠z→d≠TO→d≠i1→d≠i2→d≠i3→s.heap.get? d=some o→hp7.get? d=some o:=fun d o c1 c2 c3 c4 c5 e=>
  hs7.extBut _ _ c2 (hs6.extBut _ _ c5 (hs5.extBut _ _ c2 (hs4.extBut _ _ c4 (hs3.extBut _ _ c2 (hs2.extBut _ _ c3 (hs1.extBut _ _ c1 e))))))
 have gz7:IsZip hp7 z TI TO .ellipsis:=hs7.extBut _ _ D.TOz.symm (hs6.extBut _ _ D.i3z.symm (hs5.extBut _ _ D.TOz.symm (hs4.extBut _ _ D.i2z.symm (hs3.extBut _ _ D.TOz.symm (hs2.extBut _ _ D.i1z.symm gz1)))))
 have h17:hp7.IsListIter i1 l1 (k1+1):=((((h12.extBut hs3.extBut D.TOi1.symm).extBut hs4.extBut D.i12).extBut hs5.extBut D.TOi1.symm).extBut hs6.extBut D.i13).extBut hs7.extBut D.TOi1.symm
 have h27:hp7.IsListIter i2 l2 (k2+1):=((h24.extBut hs5.extBut D.TOi2.symm).extBut hs6.extBut D.i23).extBut hs7.extBut D.TOi2.symm
 have h37:hp7.IsListIter i3 l3 (k3+1):=h36.extBut hs7.extBut D.TOi3.symm
 have zlt:z < hp7.objs.size:=AB gz7
 show wpAny _ _ (Builtin.SmallTypes.ownedTupleHandOut (.ref z) (.ref hp7.objs.size) >>=_) _ _ _
 refine An ?_;unfold Builtin.SmallTypes.ownedTupleHandOut
 have gz8:IsZip (hp7.push {cls:=.type "tuple",data:=.seq #[x,y,v] }) z TI TO .ellipsis:=Ap _ gz7
 refine An (Du gz8 (by simp) fun hp9 gz9 hs9=>?_);replace gz9:IsZip hp9 z TI TO (Ds hp7.objs.size):=gz9
 refine Du gz9 (by simp) fun hpA gzA hsA=>?_
 replace gzA:IsZip hpA z TI TO (Ds hp7.objs.size):=gzA
 have up:∀d o,d≠z→hp7.get? d=some o→hpA.get? d=some o:=fun d o c1 e=>hsA.extBut _ _ c1 (hs9.extBut _ _ c1 (Ap _ e))
 have gT:IsTri hpA hp7.objs.size x y v:=hsA.extBut _ _ (Cs zlt) (hs9.extBut _ _ (Cs zlt) (AD _ rfl))
 have szA:hpA.objs.size=hp7.objs.size+1:=by rw[hsA.1,hs9.1,BC]
 rw[hsz] at gzA gT szA
 refine As ⟨_,rfl,?_⟩;show Q (.ref hp7.objs.size) _;rw[hsz]
 exact hQ hpA gzA (up _ _ D.TOz gO7) (h17.at fun o e=>up _ o D.i1z e) (h27.at fun o e=>up _ o D.i2z e) (h37.at fun o e=>up _ o D.i3z e) gT szA fun d o c1 c2 c3 c4 c5 e=>up d o c1 (all d o c1 c2 c3 c4 c5 e)
theorem wK {z TI TO i1 i2 i3 l1:Addr}{k1:Nat}{xs:Array Value}{Q:JA→Ar→Prop} (hh:A.handled=none) (ne1:i1≠z) (ne2:l1≠z)
  (gz:IsZip s.heap z TI TO .none) (gI:IsTri s.heap TI (.ref i1) (.ref i2) (.ref i3)) (h1:s.heap.IsListIter i1 l1 k1) (hl1:s.heap.IsList l1 xs) (hx:xs[k1]?=none)
  (hE:∀h' e,(∀d o,d≠z→d≠i1→s.heap.get? d=some o→h'.get? d=some o)→(∃o,h'.get? e=some o∧o.cls=.type "StopIteration")→E (.ref e) {s with heap:=h' }):
  wpAny (model prog w) A (Builtin.«zip.__next__» ⟨[.ref z],[]⟩) Q E s:=by
 show wpAny _ _ (field (.ref z) 2 >>=_) _ _ _
 refine An (DT gz rfl (x:=.bool false) rfl ?_);show wpAny _ _ (field (.ref z) 3 >>=_) _ _ _
 refine An (DT gz rfl (x:=.ref TI) rfl ?_);refine An (B3 gI rfl ?_)
 show wpAny _ _ (Builtin.SmallTypes.ownedTupleIsFree (.ref z) >>=_) _ _ _
 refine An ?_;unfold Builtin.SmallTypes.ownedTupleIsFree
 refine An (DT gz rfl (x:=.none) rfl (As ?_));simp only[if_true]
 refine An (Fi ?_);refine An (DT gz rfl (x:=.ref TO) rfl ?_)
 refine An (Du gz (by simp) fun hp1 gz1 hs1=>?_);replace gz1:IsZip hp1 z TI TO .ellipsis:=gz1
 refine An ?_
 simp only[HG,Ig,EO,GK]
 refine An (An (FF ?_));show wpAny _ _ (Builtin.SmallTypes.nextOf (.ref i1) >>=_) _ _ _
 refine An (wpAny_nextOf_list_end hh (h1.extBut hs1.extBut ne1) (hl1.extBut hs1.extBut ne2) hx fun hp2 e hs2 he=>?_)
 obtain ⟨oe,hoe,hce⟩:=he
 have gz2:IsZip hp2 z TI TO .ellipsis:=hs2 _ _ ne1.symm gz1
 have ez:e≠z:=fun q=>by subst q;rw[gz2] at hoe;cases hoe;simp at hce
 refine Du gz2 (by simp) fun hp3 _ hs3=>hE hp3 e (fun d o c1 c3 q=>hs3.extBut _ _ c1 (hs2 _ _ c3 (hs1.extBut _ _ c1 q))) ⟨oe,hs3.extBut _ _ ez hoe,hce⟩
theorem next_z3_item {z TI TO i1 i2 i3 l1 l2 l3:Addr}{k1 k2 k3:Nat}{xs ys zs:Array Value}{x y v a b c:Value}{Q:Option Value→Ar→Prop} (D:Z3A z TI TO i1 i2 i3 l1 l2 l3)
  (gz:IsZip s.heap z TI TO .none) (gI:IsTri s.heap TI (.ref i1) (.ref i2) (.ref i3)) (gO:IsTri s.heap TO a b c)
  (h1:s.heap.IsListIter i1 l1 k1) (h2:s.heap.IsListIter i2 l2 k2) (h3:s.heap.IsListIter i3 l3 k3) (hl1:s.heap.IsList l1 xs) (hl2:s.heap.IsList l2 ys) (hl3:s.heap.IsList l3 zs)
  (hx:xs[k1]?=some x) (hy:ys[k2]?=some y) (hv:zs[k3]?=some v)
  (hQ:∀h',IsZip h' z TI TO (Ds s.heap.objs.size)→IsTri h' TO x y v→h'.IsListIter i1 l1 (k1+1)→h'.IsListIter i2 l2 (k2+1)→h'.IsListIter i3 l3 (k3+1)→IsTri h' s.heap.objs.size x y v→h'.objs.size=s.heap.objs.size+1→
   (∀d o,d≠z→d≠TO→d≠i1→d≠i2→d≠i3→s.heap.get? d=some o→h'.get? d=some o)→Q (some (.ref s.heap.objs.size)) {s with heap:=h' }):
  wpAny (model prog w) A (EM (.ref z)) Q E s:=by
 have hT:s.TypeIs (.ref z) "zip":=⟨_,gz,rfl⟩
 unfold EM
 exact An (FD (Di (name:=Str.ofString "__next__") hT Dy (B6 Dy hT FW
   (u6 D gz gI gO h1 h2 h3 hl1 hl2 hl3 hx hy hv fun h' a1 a2 a3 a4 a5 a6 a7 a8=>As (hQ h' a1 a2 a3 a4 a5 a6 a7 a8)) (FG _))))
theorem next_z3_end {z TI TO i1 i2 i3 l1:Addr}{k1:Nat}{xs:Array Value}{Q:Option Value→Ar→Prop} (hh:A.handled=none) (ne1:i1≠z) (ne2:l1≠z)
  (gz:IsZip s.heap z TI TO .none) (gI:IsTri s.heap TI (.ref i1) (.ref i2) (.ref i3)) (h1:s.heap.IsListIter i1 l1 k1) (hl1:s.heap.IsList l1 xs) (hx:xs[k1]?=none)
  (hQ:∀h',(∀d o,d≠z→d≠i1→s.heap.get? d=some o→h'.get? d=some o)→Q none {s with heap:=h' }):wpAny (model prog w) A (EM (.ref z)) Q E s:=by
 have hT:s.TypeIs (.ref z) "zip":=⟨_,gz,rfl⟩
 unfold EM
 refine An (FD (Di (name:=Str.ofString "__next__") hT Dy (B6 Dy hT FW
  (wK hh ne1 ne2 gz gI h1 hl1 hx fun h' e hk he=>?_) (FG _))))
 obtain ⟨o,ho,hc⟩:=he
 refine An (Do (b:=true) (T:="StopIteration") ⟨o,ho,hc⟩ IP ?_);exact As (hQ _ hk)
end
abbrev qX (h:Heap) (l1:Addr):Heap:=h.push {cls:=.type "list_iterator",data:=.fields #[.ref l1,.int 0 0] }
abbrev uH (h:Heap) (l1 l2:Addr):Heap:=qX (qX h l1) l2
abbrev uo (h:Heap) (l1 l2 l3:Addr):Heap:=qX (uH h l1 l2) l3
abbrev uu (h:Heap) (l1 l2 l3:Addr):Heap:=(uo h l1 l2 l3).push {cls:=.type "tuple",data:=.seq #[.ref h.objs.size,.ref (qX h l1).objs.size,.ref (uH h l1 l2).objs.size] }
abbrev vp (h:Heap) (l1 l2 l3:Addr):Heap:=(uu h l1 l2 l3).push {cls:=.type "tuple",data:=.seq #[.none,.none,.none] }
abbrev kI (h:Heap) (l1 l2 l3:Addr):Heap:=(vp h l1 l2 l3).push {cls:=.type "zip",data:=.fields #[.none,.bool false,.bool false,.ref (uo h l1 l2 l3).objs.size,.ref (uu h l1 l2 l3).objs.size] }
theorem tS (l1 l2 l3:Addr) (xs ys zs:Array Value):
  Meets (Builtin.«zip.__new__» ⟨[.type "zip",.ref l1,.ref l2,.ref l3],[]⟩) (fun _ R s=>s.heap.IsList l1 xs∧s.heap.IsList l2 ys∧s.heap.IsList l3 zs∧
   R (.ok (.ret (.ref (vp s.heap l1 l2 l3).objs.size))) {s with heap:=kI s.heap l1 l2 l3 }):=
 .of_wp fun prog w A R s h=>by
  obtain ⟨hp,g,d,tk,os⟩:=s;obtain ⟨hl1,hl2,hl3,h⟩:=h
  have hsub:=sub_zip
  have hL1:Ih (Ii ⟨hp,g,d,tk,os⟩) l1 xs:=hl1
  have hL2:Ih (Ii ⟨hp.push {cls:=.type "list_iterator",data:=.fields #[.ref l1,.int 0 0] },g,d,tk,os⟩) l2 ys:=FN hl2 _
  have hL3:Ih (Ii ⟨(hp.push {cls:=.type "list_iterator",data:=.fields #[.ref l1,.int 0 0] }).push {cls:=.type "list_iterator",data:=.fields #[.ref l2,.int 0 0] },g,d,tk,os⟩) l3 zs:=FN (FN hl3 _) _
  wp_walk using Cj hL1,Cj hL2,Cj hL3
  exact ⟨_,rfl,h⟩
section
variable {prog:AC}{w:World}{A:A4}{E:Value→Ar→Prop}{s:Ar}
theorem call_z3 {l1 l2 l3:Addr}{xs ys zs:Array Value}{Q:Value→Ar→Prop} (hl1:s.heap.IsList l1 xs) (hl2:s.heap.IsList l2 ys) (hl3:s.heap.IsList l3 zs)
  (h:∀h',IsZip h' (s.heap.objs.size+5) (s.heap.objs.size+3) (s.heap.objs.size+4) .none→IsTri h' (s.heap.objs.size+3) (.ref s.heap.objs.size) (.ref (s.heap.objs.size+1)) (.ref (s.heap.objs.size+2))→
   IsTri h' (s.heap.objs.size+4) .none .none .none→h'.IsListIter s.heap.objs.size l1 0→h'.IsListIter (s.heap.objs.size+1) l2 0→h'.IsListIter (s.heap.objs.size+2) l3 0→h'.objs.size=s.heap.objs.size+6→
   (∀c o,s.heap.get? c=some o→h'.get? c=some o)→Q (.ref (s.heap.objs.size+5)) {s with heap:=h' }):
  wpAny (model prog w) A (call (.type "zip") [.ref l1,.ref l2,.ref l3]) Q E s:=by
 refine callType_new PySem.F.called_zip (by decide) (ue _ _ _) (sO _ _ _) (fun obj=>r8 obj _ _ _) PySem.F.entry_zip_new (tS l1 l2 l3 xs ys zs) ⟨hl1,hl2,hl3,?_⟩
 have z1:(qX s.heap l1).objs.size=s.heap.objs.size+1:=BC ..
 have z2:(uH s.heap l1 l2).objs.size=s.heap.objs.size+2:=by rw[BC,z1]
 have z3:(uo s.heap l1 l2 l3).objs.size=s.heap.objs.size+3:=by rw[BC,z2]
 have z4:(uu s.heap l1 l2 l3).objs.size=s.heap.objs.size+4:=by rw[BC,z3]
 have z5:(vp s.heap l1 l2 l3).objs.size=s.heap.objs.size+5:=by rw[BC,z4]
 have z6:(kI s.heap l1 l2 l3).objs.size=s.heap.objs.size+6:=by rw[BC,z5]
 have up4:∀{c o},(uo s.heap l1 l2 l3).get? c=some o→(kI s.heap l1 l2 l3).get? c=some o:=fun e=>Ap _ (Ap _ (Ap _ e))
 have g6:(kI s.heap l1 l2 l3).get? (vp s.heap l1 l2 l3).objs.size=some _:=AD _ rfl
 have g5:(kI s.heap l1 l2 l3).get? (uu s.heap l1 l2 l3).objs.size=some _:=Ap _ (AD _ rfl)
 have g4:(kI s.heap l1 l2 l3).get? (uo s.heap l1 l2 l3).objs.size=some _:=Ap _ (Ap _ (AD _ rfl))
 have g3:(kI s.heap l1 l2 l3).get? (uH s.heap l1 l2).objs.size=some _:=up4 (AD _ rfl)
 have g2:(kI s.heap l1 l2 l3).get? (qX s.heap l1).objs.size=some _:=up4 (Ap _ (AD _ rfl))
 have g1:(kI s.heap l1 l2 l3).get? s.heap.objs.size=some _:=up4 (Ap _ (Ap _ (AD _ rfl)))
 show _∧_
 rw[z3,z4,z5] at g6;rw[z1,z2,z3] at g4;rw[z4] at g5;rw[z2] at g3;rw[z1] at g2;rw[z5]
 exact ⟨⟨_,g6,rfl⟩,h _ g6 g4 g5 ⟨_,g1,rfl,rfl⟩ ⟨_,g2,rfl,rfl⟩ ⟨_,g3,rfl,rfl⟩ z6 fun c o e=>up4 (Ap _ (Ap _ (Ap _ e)))⟩
end
end ST
namespace L2
open PySem PySem.Spec PyProof.Rows
theorem vD {X:Cx}{pins:List (Addr×Obj)}{σ:List (Option V)}{H:Hp}{s:Ar}{h':Heap}{t':Nat}{fp:List Addr}{p:Addr}{xs:List V} (I:Inv X pins σ H s) (hf:∀b∈fp,dW X pins H b)
  (k:∀b o,b ∉ fp→s.heap.get? b=some o→h'.get? b=some o) (hp:s.heap.objs.size≤p) (new:cE X.prog X.w (upd H p (.tup xs)) h' p (.tup xs)):
  Inv X pins σ (upd H p (.tup xs)) {s with heap:=h',toks:=t' }:=by
 have fresh:H p=none:=I.hok.fresh hp
 have np:∀b o,s.heap.get? b=some o→b≠p:=fun b o e z=>absurd (A3 (AB e) hp) (by rw[z];exact Bv _)
 have nh:∀b u,H b=some u→b≠p:=fun b u e z=>by rw[z,fresh] at e;cases e
 have nf:∀b u,H b=some u→b ∉ fp:=fun b u e z=>by rw[(hf b z).1] at e;cases e
 refine I.step (g':=s.gens) (d':=s.drawn) (ch:=fp) (fun b hb=>?_) (fun b o _ _ hc e _=>k b o hc e) (fun b o _ _ hc e _=>⟨o.slots,k b o hc e⟩) (fun b o _ e n=>by rw[aK (np b o e)];exact n)
  (fun b o hc e=>⟨o,k b o hc e⟩) (fun b xs e=>by rw[aK (nh b _ e)];exact e) (fun b o u e=>by rw[aK (nh b _ e)];exact e) (fun b ps e=>⟨#[],by rw[aK (nh b _ e),e];simp⟩) (fun m hm=>?_) (fun b u e=>?_) I.bare
 ·obtain ⟨f0,f1,f2,f3,f4,f5⟩:=hf b hb
  exact ⟨f3,f1,f4,f5⟩
 ·obtain ⟨o,es,ep,ho,r⟩:=hm
  exact ⟨o,es,ep,k _ o (fun z=>(hf _ z).2.1 rfl) ho,r⟩
 ·by_cases hb:b=p
  ·subst hb;rw[aW] at e;cases e;exact new
  ·rw[aK hb] at e
   refine (I.hok b u e).stay (fun c v hc q=>k c v ?_ q) (fun c q=>by rw[aK (nh c _ q)];exact q) (fun c o' u' q=>by rw[aK (nh c _ q)];exact q) fun c xs q=>by rw[aK (nh c _ q)];exact q
   rcases hc with z |z
   ·rw[z];exact nf b u e
   ·exact nf c _ z
theorem vK {X:Cx}{pins:List (Addr×Obj)}{σ:List (Option V)}{H:Hp}{s:Ar}{h':Heap}{t':Nat}{fp:List Addr} (I:Inv X pins σ H s) (hf:∀b∈fp,dW X pins H b)
  (k:∀b o,b ∉ fp→s.heap.get? b=some o→h'.get? b=some o):Inv X pins σ H {s with heap:=h',toks:=t' }:=by
 have nf:∀b u,H b=some u→b ∉ fp:=fun b u e z=>by rw[(hf b z).1] at e;cases e
 refine I.step (g':=s.gens) (d':=s.drawn) (ch:=fp) (fun b hb=>?_) (fun b o _ _ hc e _=>k b o hc e) (fun b o _ _ hc e _=>⟨o.slots,k b o hc e⟩) (fun _ _ _ _ n=>n)
  (fun b o hc e=>⟨o,k b o hc e⟩) (fun _ _ e=>e) (fun _ _ _ e=>e) (fun b ps e=>⟨#[],by rw[e];simp⟩) (fun m hm=>?_) (fun b u e=>?_) I.bare
 ·obtain ⟨f0,f1,f2,f3,f4,f5⟩:=hf b hb
  exact ⟨f3,f1,f4,f5⟩
 ·obtain ⟨o,es,ep,ho,r⟩:=hm
  exact ⟨o,es,ep,k _ o (fun z=>(hf _ z).2.1 rfl) ho,r⟩
 ·refine (I.hok b u e).stay (fun c v hc q=>k c v ?_ q) (fun _ q=>q) (fun _ _ _ q=>q) fun _ _ q=>q
  rcases hc with z |z
  ·rw[z];exact nf b u e
  ·exact nf c _ z
def Itz (K:Ao) (l1 l2 l3:Addr):It:=
 ⟨fun i H=>∃xs ys zs x y v,SqL K H l1 xs∧SqL K H l2 ys∧SqL K H l3 zs∧xs[i]?=some x∧ys[i]?=some y∧zs[i]?=some v,
  fun i H u H'=>∃p x y v,u=.ref p∧H p=none∧H'=upd H p (.tup [x,y,v])∧(∀xs,SqL K H l1 xs→xs[i]?=some x)∧(∀ys,SqL K H l2 ys→ys[i]?=some y)∧(∀zs,SqL K H l3 zs→zs[i]?=some v),
  fun i H=>∃xs,SqL K H l1 xs∧xs.length≤i⟩
theorem u7 {P:AC}{w:World}{K:Ao}{es:List Expr}{ctx pos} (z TI TO i1 i2 i3 l1 l2 l3:Addr) (D:ST.Z3A z TI TO i1 i2 i3 l1 l2 l3):
  sZ P w K (.Tuple es ctx pos) (Itz K l1 l2 l3) [z,TI,TO,i1,i2,i3] z (fun i h=>IsZip h z TI TO .none∧ST.IsTri h TI (.ref i1) (.ref i2) (.ref i3)∧(∃a b c,ST.IsTri h TO a b c)∧h.IsListIter i1 l1 i∧h.IsListIter i2 l2 i∧h.IsListIter i3 l3 i) where
 mem:=by simp
 obj:=fun i h st b hb=>by
  obtain ⟨gz,gI,⟨a,c,d,gO⟩,h1,h2,h3⟩:=st
  have li:∀{it l k},h.IsListIter it l k→∃o,h.get? it=some o∧∀v,o.data≠.cell v:=fun q=>by
   obtain ⟨o,e,_,d⟩:=q
   exact ⟨o,e,fun v z=>by rw[d] at z;cases z⟩
  simp only[Ay,Bn,or_false] at hb
  rcases hb with e |e |e |e |e |e <;>subst e
  ·exact ⟨_,gz,fun v z=>by cases z⟩
  ·exact ⟨_,gI,fun v z=>by cases z⟩
  ·exact ⟨_,gO,fun v z=>by cases z⟩
  ·exact li h1
  ·exact li h2
  ·exact li h3
 keep:=fun i h h' st k=>by
  obtain ⟨gz,gI,⟨a,c,d,gO⟩,h1,h2,h3⟩:=st
  exact ⟨k z (by simp) _ gz,k TI (by simp) _ gI,⟨a,c,d,k TO (by simp) _ gO⟩,h1.at fun o e=>k i1 (by simp) o e,h2.at fun o e=>k i2 (by simp) o e,h3.at fun o e=>k i3 (by simp) o e⟩
 item:=by
  intro X hP hw hK hc i pins s σ H E I hf st hg
  subst hP hw hK
  obtain ⟨gz,gI,⟨a,b,c,gO⟩,h1,h2,h3⟩:=st
  obtain ⟨xs,ys,zs,x,y,v,q1,q2,q3,e1,e2,e3⟩:=hg
  obtain ⟨n1,r1,p1,_⟩:=I.list q1
  obtain ⟨n2,r2,p2,_⟩:=I.list q2
  obtain ⟨n3,r3,p3,_⟩:=I.list q3
  obtain ⟨u1,k1,t1⟩:=r1.get e1
  obtain ⟨u2,k2,t2⟩:=r2.get e2
  obtain ⟨u3,k3,t3⟩:=r3.get e3
  refine ST.next_z3_item D gz gI gO h1 h2 h3 p1.isList p2.isList p3.isList (x:=u1) (y:=u2) (v:=u3) (by simpa using k1) (by simpa using k2) (by simpa using k3) fun h' a1 a2 a3 a4 a5 a6 a7 kp=>?_
  refine ⟨_,rfl,?_⟩
  refine wpAny_letOwnedTupleGo_zip (s:={s with heap:=h' }) a1 fun hN b1 sb=>?_
  have nz:s.heap.objs.size≠z:=Cs (AB gz)
  have tri:ST.IsTri hN s.heap.objs.size u1 u2 u3:=(sb.2 _ nz).trans a6
  have fresh:H s.heap.objs.size=none:=I.hok.fresh (Aw _)
  have nf:s.heap.objs.size ∉ [z,TI,TO,i1,i2,i3]:=fun hb=>by
   have key:∀{d o},s.heap.get? d=some o→s.heap.objs.size≠d:=fun e=>Cs (AB e)
   have li:∀{it l k},s.heap.IsListIter it l k→s.heap.objs.size≠it:=fun q=>by obtain ⟨o,e,_⟩:=q;exact key e
   simp only[Ay,Bn,or_false] at hb
   rcases hb with e |e |e |e |e |e
   ·exact key gz e
   ·exact key gI e
   ·exact key gO e
   ·exact li h1 e
   ·exact li h2 e
   ·exact li h3 e
  refine ⟨.ref s.heap.objs.size,upd H s.heap.objs.size (.tup [x,y,v]),vD (s:=s) (h':=hN) (t':=s.toks) I hf (fun d o hd e=>?_) (Aw _) ⟨by show 3≤sizeLine;decide,[u1,u2,u3],.cons t1 (.cons t2 (.cons t3 .nil)),⟨_,tri,rfl,_,rfl⟩⟩,rfl,
   ⟨_,x,y,v,rfl,fresh,rfl,fun zs q=>by rw[I.list_inj q q1];exact e1,fun zs q=>by rw[I.list_inj q q2];exact e2,fun zs q=>by rw[I.list_inj q q3];exact e3⟩,?_,fun d hd=>?_⟩
  ·simp only[Ay,Bn,or_false,not_or] at hd
   obtain ⟨d1,d2,d3,d4,d5,d6⟩:=hd
   exact (sb.2 d d1).trans (kp d o d1 d3 d4 d5 d6 e)
  ·have up:∀d o,d≠z→h'.get? d=some o→hN.get? d=some o:=fun d o n e=>(sb.2 d n).trans e
   exact ⟨b1,up _ _ D.TIz (kp _ _ D.TIz D.TITO D.TIi1 D.TIi2 D.TIi3 gI),⟨_,_,_,up _ _ D.TOz a2⟩,a3.at fun o e=>up _ o D.i1z e,a4.at fun o e=>up _ o D.i2z e,a5.at fun o e=>up _ o D.i3z e⟩
  ·rw[aK fun e=>nf (by rw[←e];exact hd)]
   exact (hf d hd).1
 done:=by
  intro X hP hw hK hc i pins s σ H E I hf st hg
  subst hP hw hK
  obtain ⟨gz,gI,_,h1,_⟩:=st
  obtain ⟨xs,q1,hl⟩:=hg
  obtain ⟨n1,r1,p1,_⟩:=I.list q1
  have e1:=r1.length
  refine ST.next_z3_end (I.ok.hd hc) D.i1z D.l1z gz gI h1 p1.isList (by simp;omega) fun h' kp=>⟨rfl,vK (t':=s.toks) I hf fun d o hd e=>?_⟩
  simp only[Ay,Bn,or_false,not_or] at hd
  exact kp d o hd.1 hd.2.2.2.1 e
 self:=fun _ _ _ _ _ st h=>HH st.1 h
def Yz (K:Ao) (J:It) (G:Hp) (xs:List U):Prop:=
 ∀H2,aF G H2→(∀i,i < xs.length→J.go i H2∧∀x H3,J.yld i H2 x H3→aF H2 H3∧∃u,xs[i]?=some u∧∀O2,(∀a∈O2,H2 a≠none)→aF G (hid H2 O2)→Rp K (hid H3 O2) x u)∧J.stop xs.length H2
def EvZ (X:Cx) (H0:Hp) (O0:List Addr) (ps:PSt) (tg iter:Expr) (xs:List U):Prop:=
 PI X tg iter fun σ H R=>∃O,Rs X.K H0 O0 ps σ H O∧∀J H',aF H H'→Yz X.K J (hid H' O) xs→R J H'
section
variable {X:Cx}{H0:Hp}{O0:List Addr}{E:XK}{ps:PSt}{D:PD}{body:List Stmt}{e f g tg iter:Expr}{es:List Expr}{p pos:Pos}{x y z:U}{xs ys zs us:List U}
def iG:List U→List U→List U→List U
 |x::xs,y::ys,z::zs=>.tup [x,y,z]::iG xs ys zs
 |_,_,_=>[]
theorem fW:∀{xs ys zs:List U},xs.length=ys.length→xs.length=zs.length→(iG xs ys zs).length=xs.length
 |[],_,_,_,_=>by simp[iG]
 |_::xs,_::ys,_::zs,h1,h2=>by simp only[iG,A9] at *;rw[fW (by omega) (by omega)]
theorem jv:∀{xs ys zs:List U}{i:Nat}{a b c:U},xs[i]?=some a→ys[i]?=some b→zs[i]?=some c→(iG xs ys zs)[i]?=some (.tup [a,b,c])
 |_::xs,_::ys,_::zs,0,a,b,c,h1,h2,h3=>by simp at h1 h2 h3;simp[iG,h1,h2,h3]
 |_::xs,_::ys,_::zs,i+1,a,b,c,h1,h2,h3=>by rw[Dh] at h1 h2 h3;rw[iG,Dh];exact jv h1 h2 h3
theorem x_ {ctx tpos} (hg:Gl X "zip") (hm:X.mg "zip"=none) (ha:Ev X H0 O0 ps e x) (hx:x=.lst xs∨x=.scr xs) (hb:Ev X H0 O0 ps f y) (hy:y=.lst ys∨y=.scr ys) (hc:Ev X H0 O0 ps g z) (hz:z=.lst zs∨z=.scr zs)
  (l12:xs.length=ys.length) (l13:xs.length=zs.length) (he:AK [e,f,g] X.env=(false,eval e X.env)::AK [f,g] X.env) (hf:AK [f,g] X.env=(false,eval f X.env)::AK [g] X.env) (hgs:AK [g] X.env=(false,eval g X.env)::AK [] X.env):
  EvZ X H0 O0 ps (.Tuple es ctx tpos) (.Call (.Name "zip" p) [e,f,g] [] pos) (iG xs ys zs):=by
 rintro pins s σ H Q I ⟨O,R,q⟩
 refine BB (dk I hg hm tN ?_)
 refine callWith_type1 (thn (cS ha (cS hb (cS hc eW hgs) hf) he pos pins s σ H (fun vs H1=>∃v u t,vs=[v,u,t]∧aF H H1∧Rp X.K (hid H1 O) v x∧Rp X.K (hid H1 O) u y∧Rp X.K (hid H1 O) t z) I
  ⟨O,R,fun v H1 s1 r1=>⟨O,R.go s1,fun u H2 s2 r2=>⟨O,(R.go s1).go s2,fun t H3 s3 r3=>⟨v,u,t,rfl,(s1.trans s2).trans s3,(r1.same (aT s2)).same (aT s3),r2.same (aT s3),r3⟩⟩⟩⟩) fun us s1 hx'=>?_) he (by rw[hf,hgs];rfl)
 obtain ⟨vs,H1,I1,rv,v,u,t,rfl,sm,rp1,rp2,rp3⟩:=hx'
 obtain ⟨w1,w2,w3,rfl,ru1,ru2,ru3⟩:=yk rv
 obtain ⟨a,va,rfl,hq1,rs1⟩:=pY rp1 hx
 obtain ⟨b,vb,rfl,hq2,rs2⟩:=pY rp2 hy
 obtain ⟨c,vc,rfl,hq3,rs3⟩:=pY rp3 hz
 cases ru1
 cases ru2
 cases ru3
 obtain ⟨ia,ra,pl1,hz1⟩:=I1.list (aH.seq hq1)
 obtain ⟨ib,rb,pl2,hz2⟩:=I1.list (aH.seq hq2)
 obtain ⟨ic,rc,pl3,hz3⟩:=I1.list (aH.seq hq3)
 have l1:=rs1.len
 have l2:=rs2.len
 have l3:=rs3.len
 have al:@LT.lt Nat instLTNat a s1.heap.objs.size:=by obtain ⟨o,ho,_⟩:=pl1.isList;exact AB ho
 have bl:@LT.lt Nat instLTNat b s1.heap.objs.size:=by obtain ⟨o,ho,_⟩:=pl2.isList;exact AB ho
 have cl:@LT.lt Nat instLTNat c s1.heap.objs.size:=by obtain ⟨o,ho,_⟩:=pl3.isList;exact AB ho
 refine ST.call_z3 pl1.isList pl2.isList pl3.isList fun h' g1 g2 g3 g4 g5 g6 g7 g8=>?_
 have D:ST.Z3A (s1.heap.objs.size+5) (s1.heap.objs.size+3) (s1.heap.objs.size+4) s1.heap.objs.size (s1.heap.objs.size+1) (s1.heap.objs.size+2) a b c:=by constructor <;>exact zG (by omega)
 refine HH (s:={s1 with heap:=h' }) g1 ?_
 have I2:Inv X pins σ H1 {s1 with heap:=h' }:=I1.kept (t':=s1.toks) g8
 refine ⟨s1.heap.objs.size+5,_,_,_,H1,rfl,I2,u7 _ _ _ _ _ _ a b c D,⟨g1,g2,⟨_,_,_,g3⟩,g4,g5,g6⟩,fun d hd=>?_,q _ H1 sm fun H2 s2=>?_⟩
 ·have ge:s1.heap.objs.size≤d:=by
   simp only[Ay,Bn,or_false] at hd
   rcases hd with e |e |e |e |e |e <;>rw[e]
   ·exact DP _ _
   ·exact DP _ _
   ·exact DP _ _
   ·exact Aw _
   ·exact DP _ _
   ·exact DP _ _
  exact I1.fpOk ge (I1.hok.fresh ge)
 ·rw[fW l12 l13]
  refine ⟨fun i hi=>?_,⟨va,s2.seq hq1,by omega⟩⟩
  have h1:i < va.length:=by omega
  have h2:i < vb.length:=by omega
  have h3:i < vc.length:=by omega
  refine ⟨⟨va,vb,vc,va[i],vb[i],vc[i],s2.seq hq1,s2.seq hq2,s2.seq hq3,Am h1,Am h2,Am h3⟩,?_⟩
  rintro _ H3 ⟨pp,x1,y1,v1,rfl,nn,rfl,e1,e2,e3⟩
  have sm2:aF H2 (upd H2 pp (.tup [x1,y1,v1])):=aU nn _
  have m1:xs[i]?=some (xs[i]'(by omega)):=Am (by omega)
  have m2:ys[i]?=some (ys[i]'(by omega)):=Am (by omega)
  have m3:zs[i]?=some (zs[i]'(by omega)):=Am (by omega)
  refine ⟨sm2,_,jv m1 m2 m3,fun O2 hO sG=>?_⟩
  have all:Rps X.K (hid (upd H2 pp (.tup [x1,y1,v1])) O2) [x1,y1,v1] [_,_,_]:=
   .cons ((rs1.at_ i _ _ (e1 _ (s2.seq hq1)) m1).same (sG.trans (aT sm2))) (.cons ((rs2.at_ i _ _ (e2 _ (s2.seq hq2)) m2).same (sG.trans (aT sm2))) (.cons ((rs3.at_ i _ _ (e3 _ (s2.seq hq3)) m3).same (sG.trans (aT sm2))) .nil))
  exact .tup (SqT.of (dC aW fun hp=>hO pp hp nn)) all.len all.at_
theorem xQ (hc:X.calm=true) (hp:EK (model X.prog X.w) X.A X.env X.xe) (hi:EvZ X H0 O0 ps tg iter xs) (Iv:Nat→PSt→Prop) (h0:Iv 0 ps)
  (hs:∀(H0:Hp) (i:Nat) (x:U) (ps:PSt),xs[i]?=some x→Iv i ps→∃ps',TgS X H0 O0 tg ps x ps'∧Ws X H0 O0 E body {D with nx:=Iv (i+1),ct:=Iv (i+1),bk:=D.nx } ps') (hd:∀ps,Iv xs.length ps→D.nx ps)
  (hf:∀x,BI iter X.env x=pure x:=by intro _;rfl):W1 X H0 O0 E (.For tg iter body [] pos) D ps:=by
 have hg:PG X tg fun v σ H Q=>∃H1 ps u ps',TgS X H1 O0 tg ps u ps'∧∃O,Rs X.K H1 O0 ps σ H O∧Rp X.K (hid H O) v u∧∀σ' H',aF H H'→Rs X.K H1 O0 ps' σ' H' O→Q σ' H':=
  fun pins s σ H v u Q I r ⟨H1,ps,w,ps',t,z⟩=>t pins s σ H v u Q I r z
 have hb:PSs X body fun D' σ H=>∃H1 D1 ps',Ws X H1 O0 E body D1 ps'∧Lf X.K H1 O0 E D1 D'∧∃O,Rs X.K H1 O0 ps' σ H O:=fun pins s σ H D' I ⟨H1,D1,ps',w,z⟩=>w pins s σ H D' I z
 refine PS.mono (tm hp hc hi hg hb hf) fun D' σ H ⟨L,O,R⟩=>⟨O,R,fun J H1 s1 Y=>?_⟩
 have R1:=R.go s1
 have base:=R1.base
 refine ⟨fun i m σ H=>m=xs.length - i∧i≤xs.length∧∃ps O',Iv i ps∧Rs X.K (hid H1 (O.filter fun a=>decide (a ∉ O0))) O0 ps σ H O',⟨_,rfl,Bh _,ps,O,h0,R1.rebase⟩,?_⟩
 rintro i m σ2 H2 ⟨rfl,hi2,ps2,O2,iv,R2⟩
 have seen:=R1.seen R2
 obtain ⟨y1,y2⟩:=Y H2 (seen.trans aH)
 by_cases hlt:i < xs.length
 ·obtain ⟨g1,g2⟩:=y1 i hlt
  refine .inr ⟨g1,fun σ' H'=>∃ps O',Iv (i+1) ps∧Rs X.K (hid H1 (O.filter fun a=>decide (a ∉ O0))) O0 ps σ' H' O',fun σ' H' z=>⟨xs.length - (i+1),by omega,rfl,hlt,z⟩,fun x H3 y=>?_⟩
  obtain ⟨s3,u,hu,r⟩:=g2 x H3 y
  obtain ⟨ps',t,w⟩:=hs (hid H1 (O.filter fun a=>decide (a ∉ O0))) i u ps2 hu iv
  refine ⟨_,ps2,u,ps',t,O2,R2.go s3,r O2 R2.dom seen,fun σ' H' s' R'=>⟨_,_,ps',w,?_,O2,R'⟩⟩
  exact ⟨fun p σ H O R q=>⟨p,O,q,R⟩,fun p σ H O R q=>L.nx _ _ _ _ (R.unbase base) q,fun p σ H O R q=>⟨p,O,q,R⟩,fun o q=>(L.rt o q).later base⟩
 ·have e:i=xs.length:=by omega
  subst e
  exact .inl ⟨y2,L.nx _ _ _ _ (R2.unbase base) (hd ps2 iv)⟩
theorem vz {α:Type} (st:α→PSt) (Q:Nat→α→Prop) (hc:X.calm=true) (hp:EK (model X.prog X.w) X.A X.env X.xe) (hi:EvZ X H0 O0 ps tg iter xs) (h0:∃a,Q 0 a∧SubP (st a) ps)
  (hs:∀(H0:Hp) (i:Nat) (x:U) (a:α),xs[i]?=some x→Q i a→∃ps',TgS X H0 O0 tg (st a) x ps'∧Ws X H0 O0 E body {D with nx:=fun p=>∃b,Q (i+1) b∧SubP (st b) p,ct:=fun p=>∃b,Q (i+1) b∧SubP (st b) p,bk:=D.nx } ps')
  (hd:∀a ps,Q xs.length a→SubP (st a) ps→D.nx ps) (hf:∀x,BI iter X.env x=pure x:=by intro _;rfl):W1 X H0 O0 E (.For tg iter body [] pos) D ps:=
 xQ hc hp hi (fun i ps=>∃a,Q i a∧SubP (st a) ps) h0 (fun H0 i x ps hx ⟨a,q,sb⟩=>by
  obtain ⟨ps',t,w⟩:=hs H0 i x a hx q
  exact ⟨ps',t.sub sb,w⟩) (fun ps ⟨a,q,sb⟩=>hd a ps q sb) hf
end
abbrev Ent:=List Int×Addr×Value
def Sd (P:AC) (w:World) (d:Addr) (xs:List Ent) (h:Heap):Prop:=
 (d==IR)=false∧xs.length≤sizeLine∧∃o es ep,h.get? d=some o∧o.ExactDict∧o.data=.dict es ep∧es.toList=xs.map (entryOfKey (Js (DD P w)))∧(xs.map (·.1)).Nodup
section
variable {X:Cx}{pins:List (Addr×Obj)}{σ:St}{H:Hp}{s:Ar}{a b:Addr}{k:List Int}{xs:List Ent}{A:A4}{E:Value→Ar→Prop}
end
section
variable {X:Cx}{o i e value:Expr}{pos pos' tpos:Pos}{td ty tv:TE}
end
structure Sn (P:AC) (w:World) (K:Ao) (ps:PSt) (j:Nat) (xs:List Ent) (H0:Hp) (O0:List Addr) (σ:St) (H:Hp) (O:List Addr) (d:Addr):Prop where
 rs:Rs K H0 O0 ps σ H O
 vals:∀(i:Nat) (s:Sl),ps[i]?=some (some s)→∃u,s=.val u
 non:ps[j]?=some none
 at_:σ[j]?=some (some (.ref d))
 dO:d∈O
 dO0:d ∉ O0
 dh:H d=some (.ext (Sd P w d xs))
 ky:∀x∈xs,SqT K (hid H O) x.2.1 (x.1.map V.int)
section
variable {P:AC}{w:World}{K:Ao}{H0 H H':Hp}{O0 O:List Addr}{ps:PSt}{σ:St}{j:Nat}{xs:List Ent}{d:Addr}
end
section
variable {X:Cx}{H0:Hp}{O0:List Addr}{E:XK}{ps:PSt}{D:PD}{iter e t1:Expr}{items:List U}{ss b1 b2:List Stmt}
end
end L2
namespace ST6
open PySem PyProof.Rows ST
section
variable {prog:AC}{w:World}{A:A4}{E:Value→Ar→Prop}{s:Ar}
end
end ST6
namespace L2
open PySem PySem.Spec PyProof.Rows
end L2
namespace ST
open PySem PyProof.Rows PySem.SeqAt
def jE (e r:Nat→Bool) (m n:Nat):Nat→Nat→Bool
 |0,_=>decide (m < n)
 |k+1,i=>if e i=true then jE e r m n k (i+1) else r i
def vF (A:A4) (s:Ar) (a b:Value) (r:Bool):Prop:=∀(prog:AC) (w:World) (E:Value→Ar→Prop) (Q:Value→Ar→Prop),Q (.bool r) s→wpAny (model prog w) A (FE .Lt a b) Q E s
theorem qD (l b:Addr) (items items2:Array Value) (n n2:Nat) (dd dd2:Option Addr) (sl sl2:Array (Option Value)) (e r:Nat→Bool) (k:Nat):
  ∀i:Nat,min items.size items2.size - i=k→Meets (Builtin.«list.__eq__.loop» ⟨[.ref l,.ref b,Ds i,Ds 0],[]⟩)
   (fun A R s=>s.heap.get? l=some {cls:=.type "list",dict:=dd,data:=.seq items n,slots:=sl }∧s.heap.get? b=some {cls:=.type "list",dict:=dd2,data:=.seq items2 n2,slots:=sl2 }∧
    (∀j (h1:j < items.size) (h2:j < items2.size),EqAt A.in1 s items[j] items2[j] (e j))∧(∀j (h1:j < items.size) (h2:j < items2.size),e j=false→vF A.in1 s items[j] items2[j] (r j))∧
    R (.ok (.ret (.bool (jE e r items.size items2.size k i)))) s):=by
 induction k with
 |zero=>
  intro i hk prog w A R s h
  obtain ⟨hp,g,d,tk,os⟩:=s;obtain ⟨hl,hb,he,hr,h⟩:=h
  wp_walk using Cd hl,Cd hb
  have hi:items[((i:Nat):Int).toNat]?=none∨items2[((i:Nat):Int).toNat]?=none:=by
   rcases Ca i items.size with z |z
   ·exact .inr (by simp;omega)
   ·exact .inl (by simpa using z)
  rcases hi with hi |hi
  ·rw[hi]
   wp_walk using Cd hl,Cd hb
   exact h
  ·cases hx:items[((i:Nat):Int).toNat]? <;>rw[hi] <;>wp_walk using Cd hl,Cd hb <;>exact h
 |succ k ih=>
  intro i hk prog w A R s h
  obtain ⟨hp,g,d,tk,os⟩:=s;obtain ⟨hl,hb,he,hr,h⟩:=h
  wp_walk using Cd hl,Cd hb
  have hlt:i < items.size:=by omega
  have hlt2:i < items2.size:=by omega
  have hi1:items[((i:Nat):Int).toNat]?=some items[i]:=by simp[hlt]
  have hi2:items2[((i:Nat):Int).toNat]?=some items2[i]:=by simp[hlt2]
  have hc:((i:Int)+1)=((i+1:Nat):Int):=by push_cast;rfl
  rw[jE] at h
  rw[hi1,hi2]
  refine An (he i hlt hlt2 prog w _ _ ?_)
  cases hb':e i with
  |true=>
   rw[hb',if_pos rfl] at h
   wp_walk
   rw[hc]
   exact ⟨CF Cz _,Cu EA (by
    rw[BV Cz _]
    exact ih (i+1) (by omega) prog w A R _ ⟨hl,hb,he,hr,h⟩)⟩
  |false=>
   rw[hb',if_neg AX] at h
   wp_walk using Cd hl,Cd hb
   rw[hi1,hi2]
   refine An (hr i hlt hlt2 hb' prog w _ _ ?_)
   wp_walk
   exact h
theorem qV (l b:Addr) (items items2:Array Value) (n n2:Nat) (dd dd2:Option Addr) (sl sl2:Array (Option Value)) (e r:Nat→Bool):
  Meets (Builtin.«list.__lt__» ⟨[.ref l,.ref b],[]⟩)
   (fun A R s=>s.heap.get? l=some {cls:=.type "list",dict:=dd,data:=.seq items n,slots:=sl }∧s.heap.get? b=some {cls:=.type "list",dict:=dd2,data:=.seq items2 n2,slots:=sl2 }∧
    (∀j (h1:j < items.size) (h2:j < items2.size),EqAt A.in1 s items[j] items2[j] (e j))∧(∀j (h1:j < items.size) (h2:j < items2.size),e j=false→vF A.in1 s items[j] items2[j] (r j))∧
    R (.ok (.ret (.bool (jE e r items.size items2.size (min items.size items2.size) 0)))) s):=by
 intro prog w A R s h
 obtain ⟨hp,g,d,tk,os⟩:=s;obtain ⟨hl,hb,he,hr,h⟩:=h
 have hT:Jp ⟨hp,g,d,tk,os⟩ (.ref b) "list":=⟨_,hb,rfl⟩
 show wpAny _ _ (isInstance (.ref b) (.type "list") >>=_) _ _ _
 refine An (Do (b:=true) hT (by rw[DJ];kernel_rfl) ?_)
 simp only[CW,AQ,if_false]
 refine Dc (fun z=>absurd z (by decide)) (fun _=>?_)
 refine As ⟨CF Cz _,Cu EA ?_⟩
 rw[BV Cz _]
 exact qD l b items items2 n n2 dd dd2 sl sl2 e r _ 0 rfl prog w A R _ ⟨hl,hb,he,hr,h⟩
section
variable {prog:AC}{w:World}{A:A4}{E:Value→Ar→Prop}{s:Ar}
theorem lt_lists {l b:Addr}{items items2:Array Value}{e r:Nat→Bool}{Q:Value→Ar→Prop} (hl:s.heap.IsList l items) (hb:s.heap.IsList b items2) (hu:A.units < cLine)
  (he:∀j (h1:j < items.size) (h2:j < items2.size),EqAt A.in1 s items[j] items2[j] (e j)) (hr:∀j (h1:j < items.size) (h2:j < items2.size),e j=false→vF A.in1 s items[j] items2[j] (r j))
  (h:Q (.bool (jE e r items.size items2.size (min items.size items2.size) 0)) s):wpAny (model prog w) A (FE .Lt (.ref l) (.ref b)) Q E s:=by
 obtain ⟨⟨cls,dd,data,sl⟩,ho,hc,n,hd⟩:=id hl
 obtain ⟨⟨cls2,dd2,data2,sl2⟩,ho2,hc2,n2,hd2⟩:=id hb
 simp only at hc hd hc2 hd2
 subst hc hd hc2 hd2
 exact richCompare_meets_room (op:=.Lt) ⟨_,ho,rfl⟩ ⟨_,ho2,rfl⟩ PySem.F.slot_list_lt PySem.F.entry_list_lt (PySem.F.args_list_lt_2 _ _) (qV l b items items2 n n2 dd dd2 sl sl2 e r)
  ⟨ho,ho2,he,hr,(fun x=>nomatch x),h⟩ hu
theorem j3 {prog':AC}{w':World}:∀{k:List Int}{vs:List Value},ItemsAre (DD prog w) k vs→ItemsAre (DD prog' w') k vs
 |_,_,.nil=>.nil
 |_,_,.cons h t=>.cons h (j3 t)
theorem TK.any {prog':AC}{w':World}{h:Heap}{k:List Int}{b:Addr} (x:TK prog w h k b):TK prog' w' h k b:=by
 obtain ⟨o,its,n,ho,hc,hd,hi⟩:=x
 exact ⟨o,its,n,ho,hc,hd,j3 hi⟩
theorem eqAt_pts {x y:Addr}{k m:List Int} (hu:A.units < cLine) (hx:TK prog w s.heap k x) (hy:TK prog w s.heap m y):EqAt A s (.ref x) (.ref y) (decide (k=m)):=fun prog' w' E Q h=>
 (Js (DD prog' w')).eqBool hu (TK.any hx) (TK.any hy) h
theorem ltAt_pts {x y:Addr}{a b:Int×Int} (hu:A.units < cLine) (hx:TK prog w s.heap [a.1,a.2] x) (hy:TK prog w s.heap [b.1,b.2] y):vF A s (.ref x) (.ref y) (ltP a b):=fun prog' w' E Q h=>vt hu (TK.any hx) (TK.any hy) h
end
def ltLs:List (Int×Int)→List (Int×Int)→Bool
 |a::r,b::t=>if a=b then ltLs r t else ltP a b
 |[],_::_=>true
 |_,[]=>false
theorem lexB_pts {e r:Nat→Bool}:∀(ps qs:List (Int×Int)) (i m n:Nat),(∀j (h1:j < ps.length) (h2:j < qs.length),e (i+j)=decide (ps[j]=qs[j])∧r (i+j)=ltP ps[j] qs[j])→m=i+ps.length→n=i+qs.length→jE e r m n (min ps.length qs.length) i=ltLs ps qs
 |[],[],i,m,n,_,hm,hn=>by rw[hm,hn];simp[jE,ltLs]
 |[],b::t,i,m,n,_,hm,hn=>by
  rw[hm,hn]
  simp[jE,ltLs]
 |a::r',[],i,m,n,_,hm,hn=>by
  rw[hm,hn]
  simp[jE,ltLs]
 |a::r',b::t,i,m,n,h,hm,hn=>by
  have h0:=h 0 (by simp) (by simp)
  have ih:=lexB_pts (e:=e) (r:=r) r' t (i+1) m n (fun j h1 h2=>by
   have:=h (j+1) (by simpa using h1) (by simpa using h2)
   rw[show i+1+j=i+(j+1) by omega]
   simpa using this) (by rw[hm,A9];omega) (by rw[hn,A9];omega)
  rw[show min (a::r').length (b::t).length=min r'.length t.length+1 by rw[A9,A9];omega,jE,ltLs,show i=i+0 from rfl,h0.1,h0.2]
  simp only[List.getElem_cons_zero]
  by_cases z:a=b
  ·rw[if_pos z,decide_eq_true z,if_pos rfl]
   exact ih
  ·rw[if_neg z,decide_eq_false z,if_neg AX]
end ST
namespace L2
open PySem PySem.Spec PyProof.Rows
theorem mT {X:Cx}{pins:List (Addr×Obj)}{σ:List (Option V)}{H:Hp}{s:Ar}{l:List P2} (I:Inv X pins σ H s) {v:V}{u:Value} (r:Rp X.K H v (lp l)) (e:aY v u):
  ∃a its,u=.ref a∧s.heap.IsList a its∧its.size=l.length∧∀(j:Nat) (h1:j < its.size) (h2:j < l.length),∃b,its[j]=.ref b∧ST.TK X.prog X.w s.heap [l[j].1,l[j].2] b:=by
 cases r with
 | @lst a ws _ hq hwl hwi=>
  cases e
  obtain ⟨its,rv,pl,_⟩:=I.list (SqL.of hq)
  have hl:=rv.length
  have e1:its.toArray.size=l.length:=by simp;rw[←hl,hwl,Aq]
  refine ⟨a,its.toArray,rfl,pl.isList,e1,fun j h1 h2=>?_⟩
  have hj:j < ws.length:=by simp at h1;omega
  obtain ⟨u,hu,ru⟩:=rv.get (Am hj)
  have q:=hwi j ws[j] (pu l[j]) (Am hj) (by rw[Av,Am h2];rfl)
  obtain ⟨b,rfl,t⟩:=zg I q ru
  refine ⟨b,?_,t⟩
  have:its[j]?=some (.ref b):=hu
  simp at h1
  rw[Am h1] at this
  simpa using this
theorem vn {X:Cx}{pins:List (Addr×Obj)}{σ:List (Option V)}{H:Hp}{s:Ar}{A:A4}{E:Value→Ar→Prop}{l m:List P2}{Q:Value→Ar→Prop} (hu:A.units+4 < cLine) (I:Inv X pins σ H s) {v w:V}{u z:Value} (r1:Rp X.K H v (lp l)) (r2:Rp X.K H w (lp m)) (e1:aY v u) (e2:aY w z)
  (h:Q (.bool (ST.ltLs l m)) s):wpAny (model X.prog X.w) A (FE .Lt u z) Q E s:=by
 obtain ⟨a,its,rfl,h1,n1,k1⟩:=mT I r1 e1
 obtain ⟨b,jts,rfl,h2,n2,k2⟩:=mT I r2 e2
 refine ST.lt_lists (e:=fun j=>decide (l.getD j (0,0)=m.getD j (0,0))) (r:=fun j=>ST.ltP (l.getD j (0,0)) (m.getD j (0,0))) h1 h2 (by omega) (fun j q1 q2=>?_) (fun j q1 q2 _=>?_) ?_
 ·obtain ⟨x,ex,tx⟩:=k1 j q1 (by omega)
  obtain ⟨y,ey,ty⟩:=k2 j q2 (by omega)
  rw[ex,ey]
  have g1:l.getD j (0,0)=l[j]'(by omega):=by rw[Ax,Am (by omega)];rfl
  have g2:m.getD j (0,0)=m[j]'(by omega):=by rw[Ax,Am (by omega)];rfl
  have:=ST.eqAt_pts (A:=A.in1) (show A.in1.units < cLine by simp[JO];omega) tx ty
  rw[g1,g2]
  have e:decide (l[j]'(by omega)=m[j]'(by omega))=decide ([(l[j]'(by omega)).1,(l[j]'(by omega)).2]=[(m[j]'(by omega)).1,(m[j]'(by omega)).2]):=by
   rw[CM];simp[Prod.ext_iff]
  rw[e];exact this
 ·obtain ⟨x,ex,tx⟩:=k1 j q1 (by omega)
  obtain ⟨y,ey,ty⟩:=k2 j q2 (by omega)
  rw[ex,ey]
  have g1:l.getD j (0,0)=l[j]'(by omega):=by rw[Ax,Am (by omega)];rfl
  have g2:m.getD j (0,0)=m[j]'(by omega):=by rw[Ax,Am (by omega)];rfl
  rw[g1,g2]
  exact ST.ltAt_pts (A:=A.in1) (show A.in1.units < cLine by simp[JO];omega) tx ty
 ·rw[n1,n2,ST.lexB_pts l m 0 _ _ (fun j q1 q2=>?_) (by omega) (by omega)]
  ·exact h
  ·have g1:l.getD j (0,0)=l[j]:=by rw[Ax,Am q1];rfl
   have g2:m.getD j (0,0)=m[j]:=by rw[Ax,Am q2];rfl
   rw[show 0+j=j by omega,g1,g2];exact ⟨rfl,rfl⟩
def abK (kf:Nat→List P2):Nat→Nat
 |0=>0
 |j+1=>if ST.ltLs (kf (j+1)) (kf (abK kf j))=true then j+1 else abK kf j
theorem t_ (kf:Nat→List P2):∀j,abK kf j≤j
 |0=>Aw _
 |j+1=>by
  have:=t_ kf j
  rw[abK]
  split <;>omega
theorem oH {h:Heap}{b:Addr}{vs:Array Value}{c:Nat} (e:h.get? b=some (C7 "list" vs c)) (f:Array Value→Array Value):∃c',(h.update b (BL f)).get? b=some (C7 "list" (f vs) c'):=⟨_,Gk e f⟩
section
variable {X:Cx}{pins:List (Addr×Obj)}{σ:St}{H:Hp}{l q S Ia:Addr}{ob:Obj}{O:List Addr}{vs:List V}{kf:Nat→List P2}{R:GT→Ar→Prop}
def Turns (X:Cx) (σ:St) (H:Hp) (q:Addr) (ob:Obj) (O:List Addr) (vs:List V) (kf:Nat→List P2):Prop:=
 ∀(pins':List (Addr×Obj)) (s':Ar) (H':Hp) (j:Nat) (v:V) (u:Value),(q,ob)∈pins'→Inv X pins' σ H' s'→aF H H'→vs[j]?=some v→aY v u→
  wpAny (model X.prog X.w) X.A.in1 (call (.ref q) [u]) (fun r s2=>∃kv H2,Inv X pins' σ H2 s2∧aF H' H2∧aY kv r∧Rp X.K (hid H2 O) kv (lp (kf j))) (fun _ _=>False) s'
structure Mkk (X:Cx) (pins:List (Addr×Obj)) (σ:St) (H:Hp) (l q S Ia:Addr) (ob:Obj) (O:List Addr) (vs:List V) (kf:Nat→List P2) (j:Nat) (s:Ar) (H':Hp) (vb kb:Value):Prop where
 inv:Inv X pins σ H' s
 same:aF H H'
 fp:∀b∈[q,Ia,S],dW X pins H' b
 oq:s.heap.get? q=some ob
 oS:∃c,s.heap.get? S=some (C7 "list" #[vb,kb] c)
 it:s.heap.IsListIter Ia l (j+1)
 best:∃v,vs[abK kf j]?=some v∧aY v vb
 key:∃kv,aY kv kb∧Rp X.K (hid H' O) kv (lp (kf (abK kf j)))
theorem ut (hc:X.calm=true) (hu:X.A.units+10 < cLine) (hl:SqL X.K H l vs) (hqS:q≠S) (hqI:q≠Ia) (hSI:S≠Ia) (nc:∀v,ob.data≠.cell v) (turn:Turns X σ H q ob O vs kf)
  (hR:∀(v:V) (u:Value) (s':Ar) (H':Hp),vs[abK kf (vs.length - 1)]?=some v→aY v u→Inv X pins σ H' s'→aF H H'→R (.ok (.ret u)) s'):
  ∀(r j:Nat) (s:Ar) (H':Hp) (vb kb:Value),vs.length - (j+1)=r→j+1≤vs.length→Mkk X pins σ H l q S Ia ob O vs kf j s H' vb kb→
   EN (model X.prog X.w) X.A (.builtin "min.loop" ⟨[.ref Ia,.ref q,.ref S],[]⟩) R s:=by
 have hname:(Jq "min"++Jq ".loop":String)="min.loop":=by decide
 intro r
 induction r with
 |zero=>
  intro j s H' vb kb hr hj M
  have hin:j+1=vs.length:=by omega
  obtain ⟨c,oS⟩:=M.oS
  obtain ⟨its,rv,pl,_⟩:=M.inv.list (M.same.seq hl)
  have lv:=rv.length
  refine Cu Ec ?_
  rw[BV BY _]
  show wpAny _ X.A.in1 (HX (.ref S) >>=_) _ _ _
  refine An (B3 oS rfl ?_)
  show wpAny _ X.A.in1 (G7 (EM (.ref Ia)) _ >>=_) _ _ _
  refine An (DK (Ep (M.inv.ok.hd hc) M.it pl.isList (by simp;omega) fun h' eb=>?_))
  obtain ⟨f0,f1,f2,f3,f4,f5⟩:=M.fp Ia (by simp)
  have I1:Inv X pins σ H' {s with heap:=h' }:=M.inv.turned (t':=s.toks) (fun b o hb e=>eb b o hb e) f0 f1 f3 f4 f5
  have hS':=eb S _ hSI oS
  show wpAny _ X.A.in1 (Gn S (fun _=>#[]) >>=_) _ _ _
  refine An ?_
  refine Dd (s:={s with heap:=h' }) hS' rfl (An (DS (As ?_)))
  obtain ⟨g0,g1,g2,g3,g4,g5⟩:=M.fp S (by simp)
  have I2:Inv X pins σ H' {s with heap:=h'.update S (BL fun _=>#[]) }:=I1.turned (s:={s with heap:=h' }) (t':=s.toks) (fun b o hb e=>(Ba _ _ (Ne.symm hb)).trans e) g0 g1 g3 g4 g5
  obtain ⟨v,e1,e2⟩:=M.best
  exact hR v vb _ H' (by rw[←hin];exact e1) e2 I2 M.same
 |succ r ih=>
  intro j s H' vb kb hr hj M
  have hlt:j+1 < vs.length:=by omega
  obtain ⟨c,oS⟩:=M.oS
  obtain ⟨its,rv,pl,_⟩:=M.inv.list (M.same.seq hl)
  obtain ⟨u,hux,ru⟩:=rv.get (Am hlt)
  refine Cu Ec ?_
  rw[BV BY _]
  show wpAny _ X.A.in1 (HX (.ref S) >>=_) _ _ _
  refine An (B3 oS rfl ?_)
  show wpAny _ X.A.in1 (G7 (EM (.ref Ia)) _ >>=_) _ _ _
  refine An (DK (Dp M.it pl.isList (x:=u) (by simpa using hux) fun h' st' sb=>?_))
  obtain ⟨f0,f1,f2,f3,f4,f5⟩:=M.fp Ia (by simp)
  have I1:Inv X pins σ H' {s with heap:=h' }:=M.inv.turned (t':=s.toks) (fun b o hb e=>(sb.2 b hb).trans e) f0 f1 f3 f4 f5
  obtain ⟨oI,gI,cI,dI⟩:=id st'
  have gS:h'.get? S=some (C7 "list" #[vb,kb] c):=(sb.2 S hSI).trans oS
  have gq:h'.get? q=some ob:=(sb.2 q hqI).trans M.oq
  have ho:∀b∈[q,Ia,S],∃o,h'.get? b=some o∧∀v,o.data≠.cell v:=fun b hb=>by
   simp only[Ay,Bn,or_false] at hb
   rcases hb with e |e |e <;>subst e
   ·exact ⟨_,gq,nc⟩
   ·exact ⟨_,gI,fun v z=>by rw[dI] at z;cases z⟩
   ·exact ⟨_,gS,fun v z=>by cases z⟩
  have I1p:=I1.pinned (s:={s with heap:=h' }) M.fp ho
  show wpAny _ X.A.in1 (G7 (holding [u] (call (.ref q) [u])) _ >>=_) _ _ _
  refine An (DK (Bw (Cv (turn _ _ H' (j+1) _ u (AI _ (bL (by simp) gq)) I1p M.same (Am hlt) ru) (fun kr s2 he=>?_) fun _ _ hF=>hF.elim)))
  obtain ⟨kv,H2,I2p,sm2,rk,rp⟩:=he
  have pin:∀{b o},b∈[q,Ia,S]→h'.get? b=some o→s2.heap.get? b=some o∧H2 b=none:=fun {b o} hb e=>by
   have:=I2p.pin (b,o) (AI _ (AI _ (bL hb e)))
   exact ⟨this.1,this.2.1⟩
  have I2:=I2p.unpinned
  obtain ⟨gS2,nS2⟩:=pin (b:=S) (by simp) gS
  obtain ⟨gI2,nI2⟩:=pin (b:=Ia) (by simp) gI
  obtain ⟨gq2,nq2⟩:=pin (b:=q) (by simp) gq
  have fp2:∀b∈[q,Ia,S],dW X pins H2 b:=fun b hb=>by
   have:=M.fp b hb
   refine ⟨?_,this.2⟩
   simp only[Ay,Bn,or_false] at hb
   rcases hb with e |e |e <;>subst e
   ·exact nq2
   ·exact nI2
   ·exact nS2
  obtain ⟨kw,rw',rb⟩:=M.key
  have sm:aF H H2:=M.same.trans sm2
  have it2:s2.heap.IsListIter Ia l (j+1+1):=⟨oI,gI2,cI,dI⟩
  show wpAny _ X.A.in1 (G7 (holding [u,kr] (FE .Lt kr kb >>=_)) _ >>=_) _ _ _
  refine An (DK (Bw (An (vn (A:=X.A.in1) (by show X.A.units+1+4 < cLine;omega) I2 rp.out (rb.same (aT sm2)).out rk rw' ?_))))
  refine An (Bw (CJ ?_))
  refine An (DS (As ?_))
  cases hb:ST.ltLs (kf (j+1)) (kf (abK kf j)) with
  |true=>
   have eb:abK kf (j+1)=j+1:=by rw[abK,if_pos hb]
   simp only[if_true]
   refine An ?_
   refine Dd gS2 rfl (An (DS ?_))
   rw[hname]
   obtain ⟨c2,hc2⟩:=oH gS2 fun _=>#[u,kr]
   obtain ⟨g0,g1,g2,g3,g4,g5⟩:=fp2 S (by simp)
   have I3:Inv X pins σ H2 {s2 with heap:=s2.heap.update S (BL fun _=>#[u,kr]) }:=I2.turned (t':=s2.toks) (fun b o hb e=>(Ba _ _ (Ne.symm hb)).trans e) g0 g1 g3 g4 g5
   refine As ⟨CF BY _,ih (j+1) _ H2 u kr (by omega) hlt ⟨I3,sm,fp2,(Ba _ _ hqS.symm).trans gq2,⟨c2,hc2⟩,⟨oI,(Ba _ _ hSI).trans gI2,cI,dI⟩,?_,?_⟩⟩
   ·exact ⟨_,by rw[eb];exact Am hlt,ru⟩
   ·exact ⟨kv,rk,by rw[eb];exact rp⟩
  |false=>
   have eb:abK kf (j+1)=abK kf j:=by rw[abK,if_neg (by rw[hb];decide)]
   simp only[AQ,if_false]
   refine An (DS ?_)
   rw[hname]
   obtain ⟨v,e1,e2⟩:=M.best
   refine As ⟨CF BY _,ih (j+1) _ H2 vb kb (by omega) hlt ⟨I2,sm,fp2,gq2,⟨c,gS2⟩,it2,?_,?_⟩⟩
   ·exact ⟨v,by rw[eb];exact e1,e2⟩
   ·exact ⟨kw,rw',by rw[eb];exact rb.same (aT sm2)⟩
theorem qR {s:Ar}{Q:Value→Ar→Prop}{E:Value→Ar→Prop} (hc:X.calm=true) (hu:X.A.units+10 < cLine) (I:Inv X pins σ H s) (hl:SqL X.K H l vs) (hne:0 < vs.length) (fq:dW X pins H q) (oq:s.heap.get? q=some ob) (nc:∀v,ob.data≠.cell v) (turn:Turns X σ H q ob O vs kf)
  (hQ:∀(v:V) (u:Value) (s':Ar) (H':Hp),vs[abK kf (vs.length - 1)]?=some v→aY v u→Inv X pins σ H' s'→aF H H'→Q u s'):
  wpAny (model X.prog X.w) X.A (call (.builtin "min") [.ref l] [(Str.ofString "key",.ref q)]) Q E s:=by
 have hname:(Jq "min"++Jq ".loop":String)="min.loop":=by decide
 obtain ⟨its,rv,pl,_⟩:=I.list hl
 obtain ⟨ol,hol,_⟩:=id pl.isList
 have hll:l < s.heap.objs.size:=AB hol
 have hql:q < s.heap.objs.size:=AB oq
 refine kmk_tree PySem.F.kind_min PySem.F.plain_min PySem.F.entry_min (kmk_min_key _ _) ?_
 show wpAny _ X.A.in1 (Builtin.Builtins.bindParams "min" ["key","default"] 0 ⟨[],[(Str.ofString "key",.ref q)]⟩ >>=_) _ _ s
 refine An (H_ (show Builtin.Builtins.bindParams "min" ["key","default"] 0 ⟨[],[(Str.ofString "key",.ref q)]⟩=pure [some (.ref q),none] from rfl) ?_)
 refine An (As ?_)
 refine An (Cj pl.isList ?_)
 refine An (D9 ?_ (Bh _))
 rw[hname]
 generalize hI0:({cls:=.type "list_iterator",data:=.fields #[.ref l,.int 0 0] }:Obj)=oI0
 have hS:(s.heap.push oI0).objs.size=s.heap.objs.size+1:=size_push' ..
 have I0:Inv X pins σ H {s with heap:=(s.heap.push oI0).push (C7 "list" #[] 0) }:=I.kept (t':=s.toks) fun b o e=>Ap _ (Ap _ e)
 have gI:((s.heap.push oI0).push (C7 "list" #[] 0)).get? s.heap.objs.size=some oI0:=Ap _ (AD _ (by rw[←hI0];rfl))
 have gS:((s.heap.push oI0).push (C7 "list" #[] 0)).get? (s.heap.push oI0).objs.size=some (C7 "list" #[] 0):=AD _ rfl
 have gq:((s.heap.push oI0).push (C7 "list" #[] 0)).get? q=some ob:=Ap _ (Ap _ oq)
 have hqI:q≠s.heap.objs.size:=AZ hql
 have hqS:q≠(s.heap.push oI0).objs.size:=by rw[hS];exact AZ (Ck hql)
 have hSI:(s.heap.push oI0).objs.size≠s.heap.objs.size:=by rw[hS];exact Cs (Dm _)
 have hlI:l≠s.heap.objs.size:=AZ hll
 have fI:dW X pins H s.heap.objs.size:=I.fpOk (Aw _) (I.hok.fresh (Aw _))
 have sS:s.heap.objs.size≤(s.heap.push oI0).objs.size:=by rw[hS];exact JI _
 have fS:dW X pins H (s.heap.push oI0).objs.size:=I.fpOk sS (I.hok.fresh sS)
 generalize (s.heap.push oI0).objs.size=S at *
 generalize (s.heap.push oI0).push (C7 "list" #[] 0)=h0 at *
 generalize s.heap.objs.size=Ia at *
 have it0:h0.IsListIter Ia l 0:=⟨_,gI,by rw[←hI0],by rw[←hI0];rfl⟩
 obtain ⟨its,rv,pl,_⟩:=I0.list hl
 obtain ⟨u,hux,ru⟩:=rv.get (Am hne)
 refine As ⟨CF BY _,?_⟩
 refine Cu Ec ?_
 rw[BV BY _]
 show wpAny _ X.A.in1 (HX (.ref _) >>=_) _ _ _
 refine An (B3 (s:={s with heap:=h0 }) gS rfl ?_)
 show wpAny _ X.A.in1 (G7 (EM (.ref Ia)) _ >>=_) _ _ _
 refine An (DK (Dp (s:={s with heap:=h0 }) it0 pl.isList (x:=u) (by simpa using hux) fun h' st' sb=>?_))
 obtain ⟨f0,f1,f2,f3,f4,f5⟩:=id fI
 have I1:Inv X pins σ H {s with heap:=h' }:=I0.turned (s:={s with heap:=h0 }) (t':=s.toks) (fun b o hb e=>(sb.2 b hb).trans e) f0 f1 f3 f4 f5
 obtain ⟨oI,gI1,cI,dI⟩:=id st'
 have gS1:h'.get? S=some (C7 "list" #[] 0):=(sb.2 S hSI).trans gS
 have gq1:h'.get? q=some ob:=(sb.2 q hqI).trans gq
 have fp:∀b∈[q,Ia,S],dW X pins H b:=fun b hb=>by
  simp only[Ay,Bn,or_false] at hb
  rcases hb with e |e |e <;>subst e
  ·exact fq
  ·exact fI
  ·exact fS
 have ho:∀b∈[q,Ia,S],∃o,h'.get? b=some o∧∀v,o.data≠.cell v:=fun b hb=>by
  simp only[Ay,Bn,or_false] at hb
  rcases hb with e |e |e <;>subst e
  ·exact ⟨_,gq1,nc⟩
  ·exact ⟨_,gI1,fun v z=>by rw[dI] at z;cases z⟩
  ·exact ⟨_,gS1,fun v z=>by cases z⟩
 have I1p:=I1.pinned (s:={s with heap:=h' }) fp ho
 show wpAny _ X.A.in1 (G7 (holding [u] (call (.ref q) [u])) _ >>=_) _ _ _
 refine An (DK (Bw (Cv (turn _ _ H 0 _ u (AI _ (bL (by simp) gq1)) I1p (.refl H) (Am hne) ru) (fun kr s2 he=>?_) fun _ _ hF=>hF.elim)))
 obtain ⟨kv,H2,I2p,sm2,rk,rp⟩:=he
 have pin:∀{b o},b∈[q,Ia,S]→h'.get? b=some o→s2.heap.get? b=some o∧H2 b=none:=fun {b o} hb e=>by
  have:=I2p.pin (b,o) (AI _ (AI _ (bL hb e)))
  exact ⟨this.1,this.2.1⟩
 have I2:=I2p.unpinned
 obtain ⟨gS2,nS2⟩:=pin (b:=S) (by simp) gS1
 obtain ⟨gI2,nI2⟩:=pin (b:=Ia) (by simp) gI1
 obtain ⟨gq2,nq2⟩:=pin (b:=q) (by simp) gq1
 have fp2:∀b∈[q,Ia,S],dW X pins H2 b:=fun b hb=>by
  have:=fp b hb
  refine ⟨?_,this.2⟩
  simp only[Ay,Bn,or_false] at hb
  rcases hb with e |e |e <;>subst e
  ·exact nq2
  ·exact nI2
  ·exact nS2
 show wpAny _ X.A.in1 (Gn S (fun _=>#[u,kr]) >>=_) _ _ _
 refine An ?_
 refine Dd gS2 rfl ?_
 rw[hname]
 obtain ⟨c2,hc2⟩:=oH gS2 fun _=>#[u,kr]
 obtain ⟨g0,g1,g2,g3,g4,g5⟩:=fp2 S (by simp)
 have I3:Inv X pins σ H2 {s2 with heap:=s2.heap.update S (BL fun _=>#[u,kr]) }:=I2.turned (t':=s2.toks) (fun b o hb e=>(Ba _ _ (Ne.symm hb)).trans e) g0 g1 g3 g4 g5
 refine As ⟨CF BY _,ut hc hu hl hqS hqI hSI nc turn (fun v u s' H' e1 e2 e3 e4=>hQ v u s' H' e1 e2 e3 e4) _ 0 _ H2 u kr rfl hne ⟨I3,sm2,fp2,(Ba _ _ hqS.symm).trans gq2,⟨c2,hc2⟩,⟨oI,(Ba _ _ hSI).trans gI2,cI,dI⟩,⟨_,Am hne,ru⟩,⟨kv,rk,rp⟩⟩⟩
end
theorem gw:∀ts,TriplesOk (e_ ts)
 |[]=>trivial
 |_::ts=>gw ts
theorem jC (l c:Nat) (a:Addr):∀ts,e_ (ts++[(l,c,a)])=e_ ts++[Ds l,Ds c,.ref a]
 |[]=>rfl
 |t::ts=>by
  show Ds t.1::Ds t.2.1::.ref t.2.2::e_ (ts++[(l,c,a)])=_
  rw[jC l c a ts];rfl
theorem iI (pos:Pos):∀ts,Ij pos (e_ ts)=none∨∃t∈ts,Ij pos (e_ ts)=some (.ref t.2.2)
 |[]=>.inl rfl
 |t::ts=>by
  have e:Ij pos (e_ (t::ts))=if ((t.1:Int)==pos.line && (t.2.1:Int)==pos.col)=true then some (.ref t.2.2) else Ij pos (e_ ts):=rfl
  rw[e]
  split
  ·exact .inr ⟨t,by simp,rfl⟩
  ·rcases iI pos ts with h |⟨t',h1,h2⟩
   ·exact .inl h
   ·exact .inr ⟨t',by simp[h1],h2⟩
structure TbF (K:Ao) (mg:Str→Option Value) (f c P b:Addr):Prop where
 m:mg "to_form"=some (.ref f)
 lf:∃o fd,K.lookup f=some o∧o.data=.func fd∧fd.code=.ref c
 hd:BG K c P=true
 bm:mg "__builtins__"=some (.ref b)
 bn:b≠EJ
 lb:∃o,K.lookup b=some o∧o.cls=.type "module"∧o.dict=some EJ∧o.data=.plain
def qW (H:Hp) (c':Addr):Prop:=∃oc u vs t,H c'=some (.frz oc u)∧oc.data=.fields vs∧vs[1]?=some (.str im t)
theorem qW.rec {X:Cx}{pins:List (Addr×Obj)}{σ:St}{H:Hp}{s:Ar}{c':Addr} (h:qW H c') (I:Inv X pins σ H s):s.heap.CodeRec (.ref c') im:=by
 obtain ⟨oc,u,vs,t,e,d,v⟩:=h
 obtain ⟨g,_⟩:=(show cE X.prog X.w H s.heap c' (.frz oc u) from I.hok c' _ e)
 exact ⟨c',oc,vs,t,rfl,g,d,v⟩
theorem qW.same {H H':Hp}{c':Addr} (h:qW H c') (e:aF H H'):qW H' c':=let ⟨oc,u,vs,t,e1,r⟩:=h;⟨oc,u,vs,t,e _ _ e1,r⟩
section
variable {X:Cx}{pins:List (Addr×Obj)}{σ:St}{H:Hp}{s:Ar}
theorem rn {params:GU}{body:Expr}{scope:Scope}{lpos:Pos}{clos:List (Str×Addr)}{f c P b:Addr}{Q:Value→Ar→Prop}{E:Value→Ar→Prop} (I:Inv X pins σ H s) (T:TbF X.K X.mg f c P b)
  (hcode:X.env.code=.ref c) (hq:X.env.qual++"<lambda>"=im) (hcl:Gu scope X.env=pure clos) (hdef:defaultsOf params X.env=([],[]))
  (h:∀(q c':Addr) (pm ctv:Value) (s':Ar) (H':Hp),Inv X pins σ H' s'→aF H H'→s'.heap.get? q=some (Gq "<lambda>" im params body scope clos pm c' ctv)→qW H' c'→dW X pins H' q→Q (.ref q) s'):
  wpAny (model X.prog X.w) X.A (eval (.Lambda params body scope lpos) X.env) Q E s:=by
 refine PySem.W.kla_eval hdef ?_
 rw[hq]
 obtain ⟨o1,fd1,l1,l2,l3⟩:=T.lf
 obtain ⟨o2,vs2,m1,_,m3,m4⟩:=ix T.hd
 have KX:=I.kIn
 have kb:X.K.In X.base:=I.mod.kin
 obtain ⟨ps,hP⟩:=I.amb f o1 fd1 c o2 vs2 P T.m (kb _ _ l1) l2 l3 (kb _ _ m1) m3 (by rw[Bu,m4];rfl)
 obtain ⟨ts,e0,hts⟩:=(show uW H s.heap P from I.hok P _ hP)
 have C:PySem.W.CodeHd s.heap c P:=PySem.W.codeHd_of_K KX T.hd
 have hg:s.heap.Ns AJ X.mg:=I.mod.glob.keeps I.bk
 have hgP:AJ≠P:=fun z=>by
  obtain ⟨o,es,ep,e,d,_⟩:=hg
  rw[z,e0] at e;cases e;cases d
 obtain ⟨ob,lb1,lb2,lb3,lb4⟩:=T.lb
 have gb:=KX _ _ lb1
 have hB:s.heap.BuiltinsAt X.mg P:=⟨b,ob,T.bm,T.bn,(fun z=>by
   obtain ⟨o,es,ep,e,d,_⟩:=hg
   rw[←z,gb] at e;cases e;rw[lb4] at d;cases d),(fun z=>by
   rw[z,e0] at gb;cases gb;cases lb2),gb,lb2,lb3,lb4⟩
 have nP:∀b,H b=none→b≠P:=fun b n z=>by rw[z,hP] at n;cases n
 rcases iI lpos ts with hnf |⟨t,ht,hhit⟩
 ·refine PySem.W.kla_makeFunction (mg:=X.mg) hcl I.ok.glob hg hcode C e0 (gw ts) hnf hgP hB fun c' ctv h' tk hx hge hlt hrec htb=>?_
  obtain ⟨c2,oc,vs',t',e2,hoc,hdv,hv⟩:=hrec
  cases e2
  have fr:H c'=none:=I.hok.fresh hge
  have nc:∀b u,H b=some u→b≠c':=fun b u e z=>by rw[z,fr] at e;cases e
  have lt':∀b o,s.heap.get? b=some o→b≠c':=fun b o e z=>absurd (A3 (AB e) hge) (by rw[z];exact Bv _)
  generalize hob:(Gq "<lambda>" im params body scope clos ((X.mg "__name__").getD .none) c' ctv:Obj)=fo
  have up:∀b o,b≠P→s.heap.get? b=some o→(h'.push fo).get? b=some o:=fun b o n e=>Ap _ (hx b o n e)
  have tbl:(h'.push fo).get? P=some {cls:=.none,data:=.fields (e_ (ts++[(lpos.line,lpos.col,c')])).toArray }:=by
   rw[jC]
   have:=Ap fo htb
   rw[this]
   simp[PySem.W.tabObj]
  have I2:Inv X pins σ (upd H c' (.frz oc (.own P))) {s with heap:=h'.push fo,toks:=tk }:=by
   refine I.step (g':=s.gens) (d':=s.drawn) (ch:=[]) (fun _ z=>nomatch z) (fun b o _ _ _ e n=>up b o (nP b n) e) (fun b o _ _ _ e n=>⟨o.slots,up b o (nP b n) e⟩) (fun b o _ e n=>by rw[aK (lt' b o e)];exact n)
    (fun b o _ e=>?_) (fun b xs e=>by rw[aK (nc b _ e)];exact e) (fun b o u e=>by rw[aK (nc b _ e)];exact e) (fun b ps e=>⟨#[],by rw[aK (nc b _ e),e];simp⟩) (fun m hm=>?_) (fun b u e=>?_) I.bare
   ·by_cases z:b=P
    ·rw[z];exact ⟨_,tbl⟩
    ·exact ⟨o,up b o z e⟩
   ·obtain ⟨o,es,ep,ho,r⟩:=hm
    exact ⟨o,es,ep,up _ o (nP _ I.free) ho,r⟩
   ·by_cases z:b=c'
    ·subst z
     rw[aW] at e
     cases e
     exact ⟨Ap _ hoc,⟨oc,Ap _ hoc⟩⟩
    ·rw[aK z] at e
     by_cases zP:b=P
     ·subst zP
      rw[hP] at e
      cases e
      refine ⟨_,tbl,fun t ht=>?_⟩
      rcases Cr.mp ht with q |q
      ·obtain ⟨oc1,u1,v1,t1,g1,g2⟩:=hts t q
       exact ⟨oc1,u1,v1,t1,by rw[aK (nc _ _ g1)];exact g1,g2⟩
      ·rw[Br.mp q]
       exact ⟨oc,.own b,vs',t',aW,hdv,hv⟩
     ·refine (I.hok b u e).stay (fun d v hc q=>up d v ?_ q) (fun d q=>by rw[aK (nc d _ q)];exact q) (fun d o' u' q=>by rw[aK (nc d _ q)];exact q) fun d xs q=>by rw[aK (nc d _ q)];exact q
      rcases hc with y |y
      ·rw[y];exact zP
      ·intro y'
       rw[y',hP] at y;cases y
  have ge':s.heap.objs.size≤h'.objs.size:=B9 hge (BX hlt)
  refine h h'.objs.size c' _ ctv _ _ I2 (aU fr _) (by rw[hob];exact AD _ (by rw[←hob];rfl)) ⟨oc,_,vs',t',aW,hdv,hv⟩ ?_
  refine I.fpOk ge' ?_
  rw[aK (Cs hlt)]
  exact I.hok.fresh ge'
 ·refine PySem.W.kla_makeFunctionHit (mg:=X.mg) hcl I.ok.glob hg hcode C e0 (gw ts) hhit hB fun ctv h' tk hk hsz=>?_
  obtain ⟨oc1,u1,v1,t1,g1,g2⟩:=hts t ht
  refine h h'.objs.size t.2.2 _ ctv _ H (I.kept (t':=tk) fun d o e=>Ap _ (hk d o e)) (.refl H) (AD _ rfl) ⟨oc1,u1,v1,t1,g1,g2⟩ (I.fpOk hsz (I.hok.fresh hsz))
end
abbrev ku (scope:Scope) (q c' L:Addr) (cl:List (Str×Addr)):Env:=PySem.W.envX im scope L q (.ref c') cl
def um (X:Cx) (A:A4) (s:Ar) (H:Hp) (scope:Scope) (N:List Str) (q c':Addr) (cl:List (Str×Addr)):Cx where
 prog:=X.prog
 w:=X.w
 K:=X.K
 mg:=X.mg
 base:=X.base
 A:=A.deeper (ku scope q c' s.heap.objs.size cl)
 N:=N
 s₀:=s
 H₀:=H
 env:=ku scope q c' s.heap.objs.size cl
 outer:=X.stack
 stack:=ku scope q c' s.heap.objs.size cl::X.stack
 ex:=[]
 fn:=fun _=>false
 calm:=true
 pn:=[]
 xe:=fun _ _=>False
structure vV (scope:Scope) (y z:Str):Prop where
 kind:scope.kind=.function
 co:scope.isCoroutine=false
 gen:scope.isGenerator=false
 nc:∀x∈scope.names,x.2≠.cell
 lz:scope.names.lookup z=some .local
 ly:scope.names.lookup y=some .free
 only:∀x∈scope.names,x.2=.free→x.1=y
section
variable {X:Cx}{pins:List (Addr×Obj)}{σ:St}{H:Hp}{s:Ar}{O:List Addr}
theorem sq {q c' cy:Addr}{y z:Str}{params:GU}{body:Expr}{scope:Scope}{pm ctv:Value}{iy:Nat}{landU itemU:U}{vy v:V}{u:Value}{ks:List U}
  (hc:X.calm=true) (hdp:X.A.depth < E_) (I:Inv X pins σ H s) (hq:s.heap.get? q=some (Gq "<lambda>" im params body scope [(y,cy)] pm c' ctv)) (hrec:s.heap.CodeRec (.ref c') im)
  (hy:X.env.cells.lookup y=some cy) (hi:X.N[iy]?=some y) (hσ:σ[iy]?=some (some vy)) (ky:X.env.scope.names.lookup y=some .cell) (S:vV scope y z) (hyz:y≠z)
  (hb:Bq (IQ "<lambda>" im params body scope [(y,cy)] pm (.ref c') ctv) ⟨[u],[]⟩=pure [(z,u)])
  (dO:∀a∈O,H a≠none) (ry:Rp X.K (hid H O) vy landU) (rv:aY v u) (rz:Rp X.K (hid H O) v itemU)
  (he:EvN (um X X.A.in1 s H scope [y,z] q c' [(y,cy)]) H O [some (.val landU),some (.val itemU)] body ks):
  wpAny (model X.prog X.w) X.A.in1 (call (.ref q) [u]) (fun r s2=>∃kv H2,Inv X pins σ H2 s2∧aF H H2∧aY kv r∧Rp X.K (hid H2 O) kv (.lst ks)) (fun _ _=>False) s:=by
 refine Je (PySem.W.kla_callFunE hdp hq rfl S.co S.gen rfl hrec ?_)
 rw[hb]
 refine As (EC S.nc (fun x hx=>by rw[Br.mp hx];exact S.lz) (fun h1 hns hsb=>⟨I.nolimit.fresh _ hsb,?_⟩) S.kind)
 show EN _ _ (.expr body (ku scope q c' s.heap.objs.size [(y,cy)])) _ _
 have kp:∀b o,s.heap.get? b=some o→h1.get? b=some o:=fun b o e=>hsb.extBut b o (AZ (AB e)) (Ap _ e)
 have look1:∀{x c},([(y,cy)]:List (Str×Addr)).lookup x=some c→x=y∧c=cy:=fun {x c} e=>by
  rw[BS] at e
  by_cases z:x=y
  ·rw[z,beq_self_eq_true] at e;cases e;exact ⟨z,rfl⟩
  ·rw[beq_eq_false_iff_ne.mpr z] at e;cases e
 have lookY:([(y,cy)]:List (Str×Addr)).lookup y=some cy:=by rw[BS,beq_self_eq_true]
 have e0:=I.env0.in1
 have J:Inv (um X X.A.in1 s H scope [y,z] q c' [(y,cy)]) [] [some vy,some v] H {s with heap:=h1,toks:=s.toks+[(z,u)].length }:=by
  refine ⟨⟨I.ok.mod,S.kind,rfl,rfl,Aw _,fun a b d p1 p2=>(look1 p1).1.trans (look1 p2).1.symm,fun a p=>?_,fun a d p1 _=>(by cases p1),fun _=>I.ok.hd hc,Gv e0.frames,.inr ⟨rfl,rfl⟩,fun a p=>(by cases p),I.bs,B9 I.ok.bsz I.sz,fun a b _ p=>(by cases p),fun a p=>(by cases p),I.stack,⟨I.stkFree,I.amb⟩⟩,
   rfl,I.bare,Un.kept kp,⟨_,hns,fun j x v' p1 p2 p3=>?_⟩,fun a d p=>?_,I.hok.fresh (Aw _),fun a d p=>?_,fun p hp=>(by cases hp),I.hok.kept kp,rfl⟩
  ·have p':scope.names.lookup a=some .cell∨scope.names.lookup a=some .free:=p
   rcases p' with p' |p'
   ·exact absurd rfl (S.nc _ (BD p'))
   ·have:=S.only _ (BD p') rfl
    dsimp only at this
    rw[this];exact ⟨cy,lookY⟩
  ·obtain ⟨m,hn,hl⟩:=I.loc
   match j,p1,p2 with
   |0,p1,p2=>
    cases p1
    cases p2
    obtain ⟨uy,r1,lk⟩:=hl iy y vy hi hσ (.inr (.inl ky))
    refine ⟨uy,r1,.inr ⟨.inr S.ly,cy,lookY,?_⟩⟩
    rcases lk with ⟨k1,_⟩ |⟨_,d,e1,o,ho,hd⟩
    ·have:X.env.scope.names.lookup y=some .local:=k1
     rw[ky] at this;cases this
    ·rw[hy] at e1
     cases e1
     exact ⟨o,kp _ _ ho,hd⟩
   |1,p1,p2=>
    cases p1
    cases p2
    exact ⟨u,rv,.inl ⟨S.lz,by simp⟩⟩
   |j+2,p1,p2=>cases p1
  ·rw[(look1 p).2]
   obtain ⟨v0,o,ho,hd⟩:=I.cell y cy hy
   exact ⟨v0,o,kp _ _ ho,hd⟩
  ·rw[(look1 p).2];exact I.freeC y cy hy
 have Rl:Rs X.K H O [some (.val landU),some (.val itemU)] [some vy,some v] H O:=by
  refine ⟨.refl H,fun a ha=>ha,fun a ha=>.inl ha,dO,rfl,fun j sl p=>?_,fun j k xs ys a p1=>?_⟩
  ·match j,p with
   |0,p=>cases p;exact ⟨vy,rfl,ry⟩
   |1,p=>cases p;exact ⟨v,rfl,rz⟩
   |j+2,p=>cases p
  ·match j,p1 with
   |0,p1=>cases p1
   |1,p1=>cases p1
   |j+2,p1=>cases p1
 refine PySem.W.kla_codeExpr (Cv (he [] _ _ H (fun w H'=>∃a ws,w=.ref a∧aF H H'∧H a=none∧H' a=some (.lst ws)∧Rps X.K (hid H' (a::O)) ws ks) J ⟨O,Rl,fun a ws H' p1 p2 p3 p4=>⟨a,ws,rfl,p1,p2,p3,p4⟩⟩) (fun r s' hr=>?_) fun _ _ hF=>hF.elim)
 obtain ⟨w,H',J',rw',a,ws,rfl,sm,na,ha,rp⟩:=hr
 have nO:a ∉ O:=fun z=>dO a z na
 have less:aF (hid H' (a::O)) (hid H' O):=eo fun b hb=>Au _ hb
 refine ⟨.ref a,H',I.call' (ch:=[]) J'.os J'.base J'.hok J'.bare (fun b z=>(by cases z)),sm,rw',?_⟩
 exact .lst (dC ha nO) (rp.same less).len (rp.same less).at_
end
section
variable {X:Cx}{H0:Hp}{O0:List Addr}{ps:PSt}
theorem sU {e:Expr}{items:List U}{kf:Nat→List P2}{params:GU}{body:Expr}{scope:Scope}{lpos kpos pos p:Pos}{f c P b cy:Addr}{y z:Str}{iy:Nat}{landU:U}
  (hc:X.calm=true) (hu:X.A.units+10 < cLine) (hdp:X.A.depth < E_) (hg:Gl X "min") (hm:X.mg "min"=none) (T:TbF X.K X.mg f c P b)
  (ha:Ev X H0 O0 ps e (.lst items)) (hne:0 < items.length) (hi:X.N[iy]?=some y) (hps:ps[iy]?=some (some (.val landU))) (hy:X.env.cells.lookup y=some cy) (ky:X.env.scope.names.lookup y=some .cell)
  (hcode:X.env.code=.ref c) (hq:X.env.qual++"<lambda>"=im) (hcl:Gu scope X.env=pure [(y,cy)]) (hdef:defaultsOf params X.env=([],[]))
  (S:vV scope y z) (hyz:y≠z) (hb:∀(u pm ctv:Value) (c':Addr),Bq (IQ "<lambda>" im params body scope [(y,cy)] pm (.ref c') ctv) ⟨[u],[]⟩=pure [(z,u)])
  (he:∀(s:Ar) (H:Hp) (q c':Addr) (O:List Addr) (j:Nat) (x:U),items[j]?=some x→EvN (um X X.A.in1 s H scope [y,z] q c' [(y,cy)]) H O [some (.val landU),some (.val x)] body ((kf j).map pu))
  (hs:AK [e] X.env=(false,eval e X.env)::AK [] X.env:=by rfl):
  Ev X H0 O0 ps (.Call (.Name "min" p) [e] [⟨some "key",.Lambda params body scope lpos,kpos⟩] pos) (items.getD (abK kf (items.length - 1)) .non):=by
 rintro pins s σ H Q I ⟨O,R,q⟩
 refine BB (dk I hg hm boot_min ?_)
 refine callWith_kw (thn (cS ha eW hs pos pins s σ H (fun vs H1=>∃v,vs=[v]∧aF H H1∧Rp X.K (hid H1 O) v (.lst items)) I ⟨O,R,fun v H1 s1 r1=>⟨v,rfl,s1,r1⟩⟩) fun us s1 hx=>?_) (by rw[hs];rfl) (by rw[hs];rfl)
 obtain ⟨vs,H1,I1,rv,v,rfl,sm,rp⟩:=hx
 obtain ⟨u,rfl,ru⟩:=ig rv
 cases rp with
 | @lst a ws _ hq1 hwl hwi=>
  cases ru
  obtain ⟨vy,hσ,ry⟩:=R.at_ iy _ hps
  refine kws_cons (rn I1 T hcode hq hcl hdef fun lq c' pm ctv s2 H2 I2 sm2 gq lr fq=>kws_nil ?_)
  show wpAny _ _ (call (.builtin "min") [.ref a] [(Str.ofString "key",.ref lq)]) _ _ _
  have hl2:SqL X.K H2 a ws:=sm2.seq (aH.seq (SqL.of hq1))
  have wl:0 < ws.length:=by rw[hwl];exact hne
  refine qR (O:=O) (kf:=kf) hc hu I2 hl2 wl fq gq (fun v z=>by cases z) (fun pins' s' H' j v u hpin I' sm' hj ru=>?_) (fun v u s' H' e1 e2 I' sm'=>?_)
  ·have hj':j < ws.length:=aP hj
   have hx:items[j]?=some (items[j]'(by omega)):=Am (by omega)
   have sH:aF H H':=(sm.trans sm2).trans sm'
   have gq':=(I'.pin _ (AI _ hpin)).1
   refine sq hc hdp I' gq' ((lr.same sm').rec I') hy hi hσ ky S hyz (hb u _ _ _) (fun a' ha' z'=>R.dom a' ha' (sH.free z')) (Rp.same (aT sH) ry) ru ((hwi j v _ hj hx).same (aT (sm2.trans sm'))) (he s' H' lq c' O j _ hx)
  ·have hk:abK kf (ws.length - 1) < ws.length:=aP e1
   rw[hwl] at e1 hk
   have hx:items[abK kf (items.length - 1)]?=some (items[abK kf (items.length - 1)]'hk):=Am hk
   refine ⟨v,H',I',e2,q v H' ((sm.trans sm2).trans sm') ?_⟩
   rw[Ax,hx]
   exact (hwi _ v _ e1 hx).same (aT (sm2.trans sm'))
end
theorem xh {P:AC}{w:World}{K:Ao}{mg:Str→Option Value}{base:Heap}{nm qual:Str}{f:Addr}{N pn:List Str}{st:Stmt}{fd:A6}{k:Nat}{spec:List U→Out→Prop} (F:Fun K nm qual st f fd) (S:aD N pn (ai st)) (len:∀us o,spec us o→us.length=pn.length)
  (hbody:∀(A:A4) (outer:List Env) (s:Ar) (H:Hp) (E:XK) (O:List Addr) (us:List U) (o:Out),dF k (A.deeper (GB qual (ai st) s.heap.objs.size f fd.code))→spec us o→
   Ws (mI (CXF P w) P w K mg base N qual (ai st) f fd.code A outer s H E) H O E (aB st) ⟨fun _=>o=.val .non,fun o'=>o'=o,fun _=>False,fun _=>False⟩ (fg N us)):bA P w K mg base (CXF P w) (k+1) f fd pn (spU K spec):=by
 obtain ⟨oc,od,kV,doc,pm,an,cdv,ct,osl,rfl,lk,hcd⟩:=F.ex
 refine v5 lk hcd S (fun vs H Q E h=>?_) fun A outer s H vs Q E hr h=>?_
 ·obtain ⟨us,O,o,_,r,hsp,_⟩:=h
  rw[r.len];exact len us o hsp
 ·obtain ⟨us,O,o,d,r,hsp,q⟩:=h
  refine ⟨_,hbody A outer s H E O us o hr hsp,⟨fun ps σ H' O' R e=>?_,fun _ _ _ _ _ e=>e.elim,fun _ _ _ _ _ e=>e.elim,fun o' e=>by subst e;exact q⟩,O,?_⟩
  ·subst e;exact q .non H' R.same .non
  ·refine ⟨.refl H,fun a h=>h,fun a h=>.inl h,d,?_,fun i sl e=>?_,fun i j xs ys a e1 e2 _ _=>?_⟩
   ·unfold start fg
    rw[Bx,Bx,Aq,Aq,CV,CV,r.len]
   ·unfold fg at e
    by_cases hi:i < us.length
    ·rw[A7 (by simpa using hi),Av,Am hi] at e
     cases e
     obtain ⟨v,h1,h2⟩:=r.get (Am hi)
     refine ⟨v,?_,h2⟩
     unfold start
     rw[A7 (by simpa [r.len] using hi),Av,h1];rfl
    ·rw[A0 (by simpa using hi),CD] at e
     split at e <;>cases e
   ·exfalso
    unfold fg at e1
    by_cases hi:i < us.length
    ·rw[A7 (by simpa using hi),Av,Am hi] at e1
     cases e1
    ·rw[A0 (by simpa using hi),CD] at e1
     split at e1 <;>cases e1
section
variable {K:Ao}{tb:Addr}
theorem ph (ht:K.lookup tb=some jI) {b:Addr}{o:Obj} (h:K.lookup b=some o) (d:∀vs,o.data≠.fields vs):b≠tb:=fun z=>by
 rw[z,ht] at h
 cases h
 exact d _ rfl
theorem av (ht:K.lookup tb=some jI) {f:Addr}{oc:Value}{od:Option Addr}{fd:A6}{sl:Array (Option Value)} (h:K.lookup f=some ⟨oc,od,.func fd,sl⟩):(bQ tb K).lookup f=some ⟨oc,od,.func fd,sl⟩:=gP (ph ht h fun vs z=>by cases z) h
theorem aw (ht:K.lookup tb=some jI) {cd:Value}{q:Str} (h:AH K cd q=true):AH (bQ tb K) cd q=true:=by
 unfold AH at *
 cases cd with
 |ref c=>
  dsimp only at *
  by_cases z:c=tb
  ·rw[z,ht] at h
   cases h
  ·rw[dH,if_neg z];exact h
 |_=>exact h
theorem aJ {f:Addr}{oc:Value}{od:Option Addr}{fd:A6}{sl:Array (Option Value)} (h:(bQ tb K).lookup f=some ⟨oc,od,.func fd,sl⟩):AG (bQ tb K) (.ref f)=true:=by
 unfold AG
 dsimp only
 rw[h]
theorem uE {c:Addr} (h:BG K c tb=true):BG (bQ tb K) c tb=true:=by
 have n:c≠tb:=by
  unfold BG at h
  split at h
  ·simp only[BR] at h
   intro z
   rw[z] at h
   simp at h
  ·cases h
 unfold BG at *
 rw[dH,if_neg n];exact h
end
section
variable {X:Cx}{H0:Hp}{O0:List Addr}{ps:PSt}{e1 e2 e3:Expr}{xs ys:List U}{pos lp:Pos}{k:Int}
end
theorem hd_one {K:Ao}{c tb:Addr}{o:Obj} (h:K.lookup c=some o) (k:BG [(c,o)] c tb=true):BG K c tb=true:=by
 have e:([(c,o)]:Ao).lookup c=some o:=by simp[HU]
 unfold BG at *
 rw[h]
 rw[e] at k
 exact k
end L2
namespace L2
open PySem PySem.W PySem.Calls PySem.Spec PyProof.Rows
theorem Ad {K:Ao}{h:Heap}{tb b:Addr}{ob:Obj} (X:K.In h) (hP:h.get? tb=some jI) (hb:h.get? b=some ob):∃K2:Ao,K2.In h∧(∀a o,K.lookup a=some o→K2.lookup a=some o)∧K2.lookup tb=some jI∧K2.lookup b=some ob:=by
 have one:∀(K:Ao) (a:Addr) (o:Obj),K.In h→h.get? a=some o→JS ((a,o)::K) h∧(∀a' o',K.lookup a'=some o'→((a,o)::K).lookup a'=some o')∧((a,o)::K).lookup a=some o:=fun K a o X e=>by
  refine ⟨fun a' o' q=>?_,fun a' o' q=>?_,by simp[HU]⟩
  ·rw[BS] at q
   by_cases z:a'=a
   ·rw[z] at q ⊢
    simp at q
    rw[←q];exact e
   ·rw[beq_eq_false_iff_ne.mpr z] at q
    exact X _ _ q
  ·rw[BS]
   by_cases z:a'=a
   ·have:=X _ _ q
    rw[z,e] at this
    rw[z];simpa using this
   ·rw[beq_eq_false_iff_ne.mpr z];exact q
 obtain ⟨a1,a2,a3⟩:=one K tb jI X hP
 obtain ⟨b1,b2,b3⟩:=one _ b ob a1 hb
 exact ⟨_,b1,fun a o q=>b2 _ _ (a2 _ _ q),b2 _ _ a3,b3⟩
theorem aC {K K2:Ao} (EL:∀a o,K.lookup a=some o→K2.lookup a=some o) {cd:Value}{q:Str} (h:AH K cd q=true):AH K2 cd q=true:=by
 unfold AH at *
 cases cd with
 |ref c=>
  dsimp only at *
  cases hk:K.lookup c with
  |none=>rw[hk] at h;cases h
  |some o=>rw[EL _ _ hk];rw[hk] at h;exact h
 |_=>exact h
def vW (mg:Str→Option Value) (h:Heap):Prop:=∃bm ob,mg "__builtins__"=some (.ref bm)∧bm≠EJ∧h.get? bm=some ob∧ob.cls=.type "module"∧ob.dict=some EJ∧ob.data=.plain
theorem walk_ofT2 {l:HR}{n k:Nat}{q:AC}{loose:List Str}{XP:(Str→Option Value)→Heap→Prop}{YP:World→Heap→Prop}{d:DefRec}{K:Params→Ao}{ts:List Addr}{CX:CXT}{sp:Ao→Sp}{x:Str}
  (hn:l.most=some n) (hn2:n≤sizeLine) (hdf:d.params.defaults=[]) (hr:dF k Hd)
  (hY:∀(w:World) (h:Heap),YP w h→(K w.params).In h∧∀P∈ts,h.get? P=some (tabObj #[]))
  (F:∀(w:World) (mg:Str→Option Value) (fa:Addr) (h:Heap),(K w.params).In h→(∀P∈ts,h.get? P=some jI)→vW mg h→h.Ns AJ mg→mg d.name=some (.ref fa)→
   ∃(K2:Ao) (f c tb:Addr) (fd:A6),K2.In h∧mE K2 mg f c tb∧(∀(s:Ar) (u:Value),GM s fd ⟨[u],[]⟩ [(x,u)])∧
    ∀base:Heap,(bQ tb K2).In base→base.Ns AJ mg→bA l.prog w (bQ tb K2) mg base CX k fa fd [x] (sp (bQ tb K2)))
  (hsp:∀(K:Ao) (H:Hp) (a:Addr) (ns:List Int),ns.length≤n→(∀m∈ns,Sz 1048576 m)→SqL K H a (ns.map V.int)→sp K [.ref a] H (fun v _=>v=.bl true) fun _ _ _=>False)
  (hCX:∀(H:Hp) (s:Ar) (e:Value) (s':Ar),CX [] H s (fun _ _ _=>False) e s'→False):
  Jm q loose XP YP l.row.toRowW d [] (fun f vs=>JN f vs):=by
 refine kA hn hdf fun w s₀ s₁ mg mb fa o pm cd doc a vs ns G Y ho hd hcd hmg hobj hints hlen hbits hg=>?_
 obtain ⟨KX,TS⟩:=hY w _ Y
 obtain ⟨K2,f,c,tb,fd,X2,TB,hb,hF⟩:=F w mg fa _ KX TS G.T.bmain G.T.g hmg
 exact qm X2 TB G.T.g G.T.b G.T.builtins G.T.nolimit hg hobj hints (B9 hlen hn2) hr hF hb (fun H hS=>hsp _ H a ns hlen hbits hS) fun H e s'=>hCX H s₁ e s'
end L2
namespace L2
open PySem PySem.Spec PyProof.Rows
theorem yj {X:Cx}{H0:Hp}{O0:List Addr}{ps:PSt}{a b:Expr}{pos:Pos}{us:List U}{u:U}{i:Int} (ha:EvD X H0 O0 ps a (.lst us)) (hb:Ev X H0 O0 ps b (.int i)) (hi:atI us i=some u) (hs:iX b:=by intro _ _;rfl):EvD X H0 O0 ps (.Subscript a b pos) u:=⟨au ha.ev hb rfl hi hs⟩
section
variable {X:Cx}{pins:List (Addr×Obj)}{σ:St}{H:Hp}{s:Ar}
end
section
variable {X:Cx}{x:U}{xs:List U}
end
section
variable {X:Cx}{H0:Hp}{O0:List Addr}{ps:PSt}{e:Expr}{pts:List P2}{pos pos' p p':Pos}
end
end L2
namespace ST6
open PySem PySem.W PySem.Calls PyProof.Rows ST
section
variable {prog:AC}{w:World}{A:A4}{E:Value→Ar→Prop}{s:Ar}
def gQ:List Int×Addr:=([],0)
theorem mf (pb:PT6):(Bj pb.length).map (fun i=>pb.getD i gQ)=pb:=by
 apply HE
 ·simp
 ·intro i h1 h2
  simp at h1
  simp[h1]
theorem qx {a:Addr}{pb:PT6}{n:Nat}{P:JA→Ar→Prop} (ho:s.heap.get? a=some (C7 "list" (refs6 pb).toArray n)) (htk:∀p∈pb,TK prog w s.heap p.1 p.2) (hlen:∀p∈pb,p.1.length=6) (hnd:(pb.map (·.1)).Nodup) (h64:pb.length < 64)
  (h:∀pb':PT6,pb'.Perm pb→(pb'.map (·.1)).Pairwise (fun x y=>ltL x y=true)→P (.done (.ret .none)) {s with heap:=sortedHeap s.heap a (refs6 pb) (refs6 pb').toArray }):
  wpAny (model prog w) A (Builtin.«list.sort» ⟨[.ref a],[]⟩) P E s:=by
 have hvl:(refs6 pb).length=pb.length:=by simp
 have hva:(refs6 pb).toArray.size=pb.length:=by simp
 rw[Ib]
 have ha:a < s.heap.objs.size:=AB ho
 refine An (listItems_at ho rfl (An (D8 ho rfl ?_ (by rw[hva,BA];omega) (Bh _))))
 obtain ⟨e1,ho1⟩:∃e1,(s.heap.update a (BL fun _=>(#[]:Array Value))).get? a=some (C7 "list" #[] e1):=⟨_,Gk ho (fun _=>#[])⟩
 refine An (ET ho1 rfl (An (GG ?_ (by show (refs6 pb).length≤_;rw[hvl,BA];omega))))
 refine An (D9 ?_ (Bh _))
 refine Bw ?_
 generalize hh6:((s.heap.update a (BL fun _=>(#[]:Array Value))).push (C7 "tuple" (refs6 pb).toArray 0)).push (C7 "list" #[] 0)=h6
 have old6:∀b o,b≠a→s.heap.get? b=some o→h6.get? b=some o:=fun b o hb e=>by
  rw[←hh6]
  exact Ap _ (Ap _ ((Ba _ _ (Ne.symm hb)).trans e))
 have ho6:h6.get? a=some (C7 "list" #[] e1):=by rw[←hh6];exact Ap _ (Ap _ ho1)
 have tk6:∀p∈pb,TK prog w h6 p.1 p.2:=fun p hp=>by
  refine TK6.grow (htk p hp) fun b o hc e=>old6 b o (fun z=>?_) e
  rw[z,ho] at e
  cases e
  exact absurd hc (by show ¬ (BU "list"=BU "tuple");decide)
 have fin:∀pb':PT6,pb'.Perm pb→(pb'.map (·.1)).Pairwise (fun x y=>ltL x y=true)→P (.done (.ret .none)) {s with heap:=h6.update a (BL fun _=>(refs6 pb').toArray) }:=fun pb' p1 p2=>by
  rw[←hh6];exact h pb' p1 p2
 show wpAny (model prog w) A _ P E {s with heap:=h6 }
 dsimp only
 by_cases h2:(refs6 pb).toArray.size < 2
 ·rw[if_pos h2,if_pos h2]
  refine An (As ?_)
  rw[StateT.run_pure]
  refine An (As ?_)
  dsimp only
  have eout:(arrOf (SortSt.mk' general' ((refs6 pb).toArray.zip (refs6 pb).toArray) #[] 7 none)).map (·.2)=(refs6 pb).toArray:=by
   show (((refs6 pb).toArray.zip (refs6 pb).toArray)).map (·.2)=_
   apply FL.mp
   have zip2:∀l:List Value,(l.zip l).map (·.2)=l:=fun l=>by
    induction l with
    |nil=>rfl
    |cons x r ih=>rw[D_,BE,ih]
   rw[FM,HF]
   exact zip2 _
  rw[eout]
  refine An (ET ho6 rfl (An (D8 ho6 rfl ?_ (Bh _) (by rw[hva,BA];omega))))
  show wpAny _ _ (if (e1 !=e1)=true then _ else _) _ _ _
  rw[if_neg (by simp)]
  refine As (fin pb (GE _) ?_)
  match pb,hva,h2 with
  |[],_,_=>simp
  |[_],_,_=>simp
  |_::_::r,hva,h2=>rw[hva] at h2;exact absurd h2 (by simp)
 ·rw[if_neg h2,if_neg h2]
  rw[hva] at h2
  have h2':2≤(refs6 pb).length:=by rw[hvl];omega
  refine An (tW (s:={s with heap:=h6 }) hlen tk6 (by omega) ?_)
  have inj:∀i j,i < pb.length→j < pb.length→i≠j→(pb.getD i gQ).1≠(pb.getD j gQ).1:=fun i j hi hj hij e=>by
   refine hij ((Ez (xs:=pb.map (·.1)) (h₀:=by simpa using hi) (h₁:=by simpa using hj) hnd).mp ?_)
   simpa [hi,hj] using e
  have O:LtO pb.length (fun i j=>ltL (pb.getD i gQ).1 (pb.getD j gQ).1):=⟨fun i j k=>nZ,fun i j hi hj hij=>kD (inj i j hi hj hij),fun i j=>kL⟩
  obtain ⟨p,R,PP',S⟩:=ma O (by omega)
  have hcmp:∀i j C,i < pb.length→j < pb.length→C (ltL (pb.getD i gQ).1 (pb.getD j gQ).1) {s with heap:=h6 }→kas_ask prog w A (tuples' true) (refs6 pb) i j C {s with heap:=h6 }:=fun i j C hi hj c=>by
   unfold kas_ask
   have ei:(refs6 pb).getD i AY=.ref (pb.getD i gQ).2:=by simp[hi]
   have ej:(refs6 pb).getD j AY=.ref (pb.getD j gQ).2:=by simp[hj]
   rw[ei,ej]
   have mi:pb.getD i gQ∈pb:=by simp[hi]
   have mj:pb.getD j gQ∈pb:=by simp[hj]
   exact w_ (s:={s with heap:=h6 }) (hlen _ mi) (hlen _ mj) (tk6 _ mi) (tk6 _ mj) c
  have tree:(kas_sort (refs6 pb).length).kasWp (kas_ask prog w A (tuples' true) (refs6 pb)) (fun p' s'=>p'=p∧s'={s with heap:=h6 }) {s with heap:=h6 }:=by
   rw[hvl]
   exact R.wp hcmp ⟨rfl,rfl⟩
  refine An (Cv (kat_run (Q:=fun st' s'=>s'={s with heap:=h6 }∧failedOf st'=none∧(arrOf st').map (·.2)=Ho (p.toList.map fun i=>(refs6 pb).getD i AY)) rfl h2' (by rw[hvl];exact h64) (fun p' st' s' _ a2 a3 a4=>?_) tree) ?_ fun _ _ e=>e)
  ·obtain ⟨rfl,rfl⟩:=a4
   exact ⟨rfl,a3,kat_snds rfl a2⟩
  ·rintro ⟨⟨⟩,st'⟩ s' ⟨rfl,hf,hout⟩
   dsimp only
   rw[hout]
   have hlt:∀i∈p.toList,i < pb.length:=fun i hi=>AV.mp (PP'.perm.mem_iff.mp hi)
   have er:(p.toList.map fun i=>(refs6 pb).getD i AY)=refs6 (p.toList.map fun i=>pb.getD i gQ):=by
    unfold refs6
    rw[Bp]
    refine GP fun i hi=>?_
    have:=hlt i hi
    simp[this]
   rw[er]
   have hperm:(p.toList.map fun i=>pb.getD i gQ).Perm pb:=by
    refine (PP'.perm.map _).trans ?_
    rw[mf]
   have hs2:(refs6 (p.toList.map fun i=>pb.getD i gQ)).toArray.size=pb.length:=by simp[PP'.size]
   refine An (ET ho6 rfl (An (D8 ho6 rfl ?_ (Bh _) (by rw[hs2,BA];omega))))
   rw[hf]
   show wpAny _ _ (if (e1 !=e1)=true then _ else _) _ _ _
   rw[if_neg (by simp)]
   refine As (fin _ hperm ?_)
   rw[Bp,BJ,A8]
   intro i j hi hj hij
   have hj':j < pb.length:=by rw[AR,PP'.size] at hj;exact hj
   have q:=S i j hij hj'
   have ei:g p i=p.toList[i]:=by simp[g,Co,PP'.size,show i < pb.length by omega]
   have ej:g p j=p.toList[j]:=by simp[g,Co,PP'.size,hj']
   rw[ei,ej] at q
   exact q
theorem call_sorted6S {l:Addr}{pb:PT6}{Q:Value→Ar→Prop} (hl:s.heap.IsList l (refs6 pb).toArray) (htk:∀p∈pb,TK prog w s.heap p.1 p.2) (hlen:∀p∈pb,p.1.length=6) (hnd:(pb.map (·.1)).Nodup) (h64:pb.length < 64)
  (h:∀(h1 h':Heap) (tk:Nat) (pb':PT6) (e:Nat),pb'.Perm pb→(pb'.map (·.1)).Pairwise (fun x y=>ltL x y=true)→(∀c o,s.heap.get? c=some o→h1.get? c=some o)→(∀c o,h1.get? c=some o→h'.get? c=some o)→h'.get? h1.objs.size=some (C7 "list" (refs6 pb').toArray e)→Q (.ref h1.objs.size) {s with heap:=h',toks:=tk }):
  wpAny (model prog w) A (call (.builtin "sorted") [.ref l]) Q E s:=by
 have hrl:(refs6 pb).length=pb.length:=by simp
 refine Fe Ic Hq Hr (Hs _) ?_
 unfold Builtin.«sorted»
 refine An (m:=Jh "sorted" 1 1 _) (As ?_)
 refine An (collect_list hl ?_ (by rw[hrl,BA];omega))
 refine An (D9 ?_ (by rw[hrl,BA];omega))
 generalize hg:(s.heap.push (C7 "list" #[] 0)).update s.heap.objs.size (BL (·++(refs6 pb).toArray))=h1
 have keep:∀c o,s.heap.get? c=some o→h1.get? c=some o:=fun c o e=>by
  rw[←hg,Ba _ _ (Cs (AB e))]
  exact Ap _ e
 have hD:(h1.push {cls:=.type "list",data:=.seq (refs6 pb).toArray }).get? h1.objs.size=some (C7 "list" (refs6 pb).toArray 0):=AD _ rfl
 have up:∀p∈pb,TK prog w (h1.push {cls:=.type "list",data:=.seq (refs6 pb).toArray }) p.1 p.2:=fun p hp=>by
  exact TK6.grow (htk p hp) fun b o _ e=>Ap _ (keep _ _ e)
 refine An (Bw (B6 GH ⟨_,hD,rfl⟩ Gm ?_ (GI _)))
 refine qx (s:={s with heap:=h1.push {cls:=.type "list",data:=.seq (refs6 pb).toArray } }) hD up hlen hnd h64 fun pb' pp so=>⟨_,rfl,As ⟨_,rfl,?_⟩⟩
 obtain ⟨e,eD⟩:=G4 (out:=(refs6 pb').toArray) hD
 refine h h1 _ s.toks pb' e pp so keep (fun c o hb=>?_) eD
 have hlt:=AB hb
 rw[GJ (AZ hlt) (by rw[BC];exact Ck hlt)]
 exact Ap _ hb
end
end ST6
namespace L2
open PySem PySem.Spec PyProof.Rows
section
variable {X:Cx}{H0:Hp}{O0:List Addr}{ps:PSt}{e:Expr}{trs:List (List Int)}{pos p:Pos}
theorem rD (hg:Gl X "sorted") (hm:X.mg "sorted"=none) (ha:Ev X H0 O0 ps e (.lst (trs.map sxU))) (hl:trs.length < 64∧trs.Nodup∧∀k∈trs,k.length=6)
  (he:AK [e] X.env=(false,eval e X.env)::AK [] X.env:=by rfl):EvN X H0 O0 ps (.Call (.Name "sorted" p) [e] [] pos) ((ST6.srtL trs).map sxU):=by
 obtain ⟨hl,hn,h6⟩:=hl
 rintro pins s σ H Q I ⟨O,R,q⟩
 refine BB (dk I hg hm Ie ?_)
 refine callWith_builtin1 (e:=e) (rest:=[]) (thn (cS ha eW he pos pins s σ H (fun vs H1=>∃v,vs=[v]∧aF H H1∧Rp X.K (hid H1 O) v (.lst (trs.map sxU))) I ⟨O,R,fun v H1 s1 r1=>⟨v,rfl,s1,r1⟩⟩) fun us s1 hx=>?_) he rfl
 obtain ⟨vs,H1,I1,rv,v,rfl,sm,rp⟩:=hx
 obtain ⟨u,rfl,ru⟩:=ig rv
 cases rp with
 | @lst a ws _ hq hwl hwi=>
  cases ru
  obtain ⟨its,rw',pl,hz⟩:=I1.list (SqL.of (aH _ _ hq))
  have hlp:ws.length=trs.length:=by rw[hwl,Aq]
  have hil:its.length=trs.length:=by rw[←rw'.length,hlp]
  have item:∀i,i < trs.length→∃b,its[i]?=some (.ref b)∧Rp X.K (hid H1 O) (.ref b) (sxU (trs.getD i ([]:List Int)))∧ST.TK X.prog X.w s1.heap (trs.getD i ([]:List Int)) b:=fun i hi=>by
   have hw:ws[i]?=some ws[i]:=Am (by omega)
   have hp:(trs.map sxU)[i]?=some (sxU (trs.getD i ([]:List Int))):=by rw[Av,Am hi];simp[hi]
   have r:=hwi i _ _ hw hp
   obtain ⟨u',e1,e2⟩:=rw'.get hw
   generalize ws[i]=z at *
   generalize trs.getD i ([]:List Int)=g at *
   cases r with
   | @tup b zs _ hs hsl hsi=>
    cases e2
    refine ⟨b,e1,Rp.tup hs hsl hsi,?_⟩
    obtain ⟨jts,rj,ht,_⟩:=I1.tuple (by exact aH.tup hs)
    obtain ⟨o,ho,hoc,n,hod⟩:=ht
    refine ⟨o,_,n,ho,hoc,hod,?_⟩
    have key:∀(g:List Int) (zs:List V) (jts:List Value),zs.length=g.length→(∀(i:Nat) (v:V) (x:U),zs[i]?=some v→(g.map U.int)[i]?=some x→Rp X.K (hid H1 O) v x)→aV zs jts→ItemsAre (DD X.prog X.w) g jts:=fun g=>by
     induction g with
     |nil=>intro zs jts hl _ rj;cases zs with |nil=>cases rj;exact .nil |cons a r=>simp at hl
     |cons a g ih=>
      intro zs jts hl hi rj
      cases zs with
      |nil=>simp at hl
      |cons z zs=>
       cases rj with
       |cons r1 rj=>
        have q:=hi 0 z _ rfl rfl
        cases q
        obtain ⟨t,rfl⟩:=r1
        exact .cons (Cw _ _ _ _) (ih zs _ (by simpa using hl) (fun i v x e1 e2=>hi (i+1) v x e1 e2) rj)
    have hh:=key g zs jts (by simpa using hsl) hsi rj
    simpa using hh
  let ad:Nat→Addr:=fun i=>match its[i]? with |some (.ref b)=>b |_=>0
  have adE:∀i,i < trs.length→its[i]?=some (.ref (ad i))∧Rp X.K (hid H1 O) (.ref (ad i)) (sxU (trs.getD i ([]:List Int)))∧ST.TK X.prog X.w s1.heap (trs.getD i ([]:List Int)) (ad i):=fun i hi=>by
   obtain ⟨b,e1,e2,e3⟩:=item i hi
   have:ad i=b:=by show (match its[i]? with |some (.ref b)=>b |_=>0)=b;rw[e1]
   rw[this];exact ⟨e1,e2,e3⟩
  generalize ad=ad' at adE
  clear ad
  generalize hpb:((Bj trs.length).map fun i=>((trs.getD i ([]:List Int),ad' i):List Int×Addr))=pb
  have hits:its=ST6.refs6 pb:=by
   apply Cq
   intro i
   rw[←hpb]
   unfold ST6.refs6
   rcases Ca i trs.length with z |z
   ·rw[(adE i z).1];simp[z]
   ·rw[AU (by omega),AU (by simpa using z)]
  have h1p:pb.map (·.1)=trs:=by
   rw[←hpb,Bp]
   apply Cq
   intro i
   rcases Ca i trs.length with z |z
   ·simp[z]
   ·rw[AU (by simpa using z),AU z]
  have srcb:∀z∈pb,∃j,j < trs.length∧z=(trs.getD j ([]:List Int),ad' j):=fun z hz=>by
   rw[←hpb] at hz
   obtain ⟨j,hj,rfl⟩:=Az.mp hz
   exact ⟨j,AV.mp hj,rfl⟩
  have hbl:pb.length=trs.length:=by rw[←h1p,Aq]
  rw[hits] at pl
  refine ST6.call_sorted6S (pb:=pb) pl.isList (fun z hz=>?_) (fun z hz=>?_) (by rw[h1p];exact hn) (by omega) fun h3 h4 tk2 pb' ep pm so k1 k2 hD=>?_
  ·obtain ⟨j,hj,rfl⟩:=srcb z hz
   exact (adE j hj).2.2
  ·obtain ⟨j,hj,rfl⟩:=srcb z hz
   refine h6 _ ?_
   show trs.getD j ([]:List Int)∈trs
   rw[Ax,Am hj]
   exact FJ hj
  ·have I3:Inv X pins σ H1 {s1 with heap:=h3,toks:=tk2 }:=I1.kept (t':=tk2) k1
   have src:∀z∈pb',∃j,j < trs.length∧z=(trs.getD j ([]:List Int),ad' j):=fun z hz=>srcb z (pm.mem_iff.mp hz)
   have etrs:pb'.map (·.1)=ST6.srtL trs:=by
    refine ST6.ascL_one so (ST6.srtL_ascL trs) fun z=>?_
    rw[ST6.srtL_mem,(pm.map (·.1)).mem_iff,h1p]
   have fr:H1 h3.objs.size=none:=I3.hok.fresh (Aw _)
   refine ⟨.ref h3.objs.size,upd H1 h3.objs.size (.lst (pb'.map fun z=>V.ref z.2)),?_,rfl,?_⟩
   ·refine I3.laid (t':=tk2) k2 (Aw _) ⟨?_,(ST6.refs6 pb'),ep,?_,hD⟩
    ·rw[Aq,pm.length_eq,hbl,BA]
     omega
    ·have all:∀l:ST6.PT6,aV (l.map fun z=>V.ref z.2) (ST6.refs6 l):=fun l=>by
      induction l with
      |nil=>exact .nil
      |cons z r ih=>exact .cons rfl ih
     exact all pb'
   ·refine q _ _ _ (sm.trans (aU fr _)) (sm.free fr) aW ⟨?_,fun i z x e1 e2=>?_⟩
    ·rw[Aq,←etrs,Aq,Aq]
    ·rw[←etrs,Bp,Av] at e2
     rw[Av] at e1
     cases hpi:pb'[i]? with
     |none=>rw[hpi] at e1;cases e1
     |some y=>
      rw[hpi] at e1 e2
      cases e1
      cases e2
      obtain ⟨j,hj,rfl⟩:=src y (AW hpi)
      exact (adE j hj).2.1.same (bI (aU fr _) fr)
end
def pkI (n:Nat) (a b c:Int):List Nat:=sliceRange (C4 (some a) (some b) (some c) n).1 (C4 (some a) (some b) (some c) n).2.1 (C4 (some a) (some b) (some c) n).2.2
def pkL {α:Type} (xs:List α) (a b c:Int):List α:=(pkI xs.length a b c).filterMap (xs[·]?)
theorem vO {α:Type}{xs:List α}{a b c:Int}{x:α} (h:x∈pkL xs a b c):x∈xs:=by
 obtain ⟨i,_,e⟩:=D0.mp h
 exact AW e
theorem vi {α β:Type} (f:α→β) (xs:List α) (a b c:Int):pkL (xs.map f) a b c=(pkL xs a b c).map f:=by
 unfold pkL
 rw[Aq,G0]
 congr 1
 funext i
 rw[Av]
theorem aV.pick {vs:List V}{us:List Value} (r:aV vs us):∀is:List Nat,aV (is.filterMap (vs[·]?)) (is.filterMap (us[·]?))
 |[]=>.nil
 |i::is=>by
  have ih:=aV.pick r is
  have hl:=r.length
  by_cases h:i < vs.length
  ·obtain ⟨u,e1,e2⟩:=r.get (Am h)
   rw[Be,Be,Am h,e1]
   exact .cons e2 ih
  ·rw[Be,Be,AU (by omega),AU (by omega)]
   exact ih
theorem Rps.pick {K:Ao}{H:Hp}{vs:List V}{xs:List U} (r:Rps K H vs xs):∀is:List Nat,Rps K H (is.filterMap (vs[·]?)) (is.filterMap (xs[·]?))
 |[]=>⟨rfl,fun i v x h=>by simp at h⟩
 |i::is=>by
  have ih:=Rps.pick r is
  have hl:=r.len
  by_cases h:i < vs.length
  ·have h':i < xs.length:=by omega
   rw[Be,Be,Am h,Am h']
   refine ⟨by simp[ih.len],fun j v x h1 h2=>?_⟩
   cases j with
   |zero=>
    cases h1;cases h2
    exact r.at_ i _ _ (Am h) (Am h')
   |succ j=>exact ih.at_ j v x h1 h2
  ·rw[Be,Be,AU (by omega),AU (by omega)]
   exact ih
theorem yH {X:Cx}{H0:Hp}{O0:List Addr}{ps:PSt}{es:List Expr}{us:List U}{pos:Pos}{x1} (h:EvS X H0 O0 ps es us) (hz:us.length≤sizeLine):EvD X H0 O0 ps (.Tuple es x1 pos) (.tup us):=⟨aN h hz⟩
theorem uL (n:Nat) {a:Int} (h:0≤a):(pkI n a 60 2).length≤30:=by
 unfold pkI C4 sliceRange
 simp only[DN,Aq,Ef]
 have e1:max 0 (min (if (60:Int) < 0 then 60+(n:Int) else 60) (n:Int))≤60:=by split <;>omega
 have e2:0≤max 0 (min (if a < 0 then a+(n:Int) else a) (n:Int)):=by omega
 simp only[show ((2:Int) >0)=True from by simp,if_true]
 generalize max 0 (min (if (60:Int) < 0 then 60+(n:Int) else 60) (n:Int))=q at *
 generalize max 0 (min (if a < 0 then a+(n:Int) else a) (n:Int))=r at *
 split <;>omega
theorem o3 {α:Type} (xs:List α) {a:Int} (h:0≤a):(pkL xs a 60 2).length≤30:=B9 (List.length_filterMap_le _ _) (uL _ h)
section
variable {X:Cx}{H0:Hp}{O0:List Addr}{ps:PSt}{e k1 k2 k3:Expr}{x:U}{xs:List U}{pos pos' p p' p2:Pos}{a b c:Int}
theorem tO (he:Ev X H0 O0 ps e x) (h1:Ev X H0 O0 ps k1 (.int a)) (h2:Ev X H0 O0 ps k2 (.int b)) (h3:Ev X H0 O0 ps k3 (.int c)) (hc:c≠0) (hx:x=.lst xs∨x=.scr xs) (hz:(pkL xs a b c).length≤sizeLine):EvN X H0 O0 ps (.Subscript e (.Slice (some k1) (some k2) (some k3) p2) pos) (pkL xs a b c):=by
 rintro pins s σ H Q I ⟨O,R,q⟩
 refine Hc (thn (he pins s σ H (fun v H1=>aF H H1∧Rp X.K (hid H1 O) v x) I ⟨O,R,fun v H1 s1 r1=>⟨s1,r1⟩⟩) fun u s1 ⟨v,H1,I1,r1,sm,rp⟩=>?_)
 obtain ⟨ad,vs,rfl,hq,rs⟩:=pY rp hx
 cases r1
 refine HN ?_
 rw[EF]
 refine thn (h1 pins s1 σ H1 (fun v H2=>aF H1 H2∧v=.int a) I1 ⟨O,R.go sm,fun v H2 s2 r2=>⟨s2,by cases r2;rfl⟩⟩) fun uk s2 hy=>?_
 obtain ⟨vk,H2,I2,rk,s12,rfl⟩:=hy
 obtain ⟨t,rfl⟩:=rk
 rw[EF]
 refine thn (h2 pins s2 σ H2 (fun v H3=>aF H2 H3∧v=.int b) I2 ⟨O,R.go (sm.trans s12),fun v H3 s3 r3=>⟨s3,by cases r3;rfl⟩⟩) fun uk s3 hy=>?_
 obtain ⟨vk,H3,I3,rk,s23,rfl⟩:=hy
 obtain ⟨t2,rfl⟩:=rk
 rw[EF]
 refine thn (h3 pins s3 σ H3 (fun v H4=>aF H3 H4∧v=.int c) I3 ⟨O,R.go ((sm.trans s12).trans s23),fun v H4 s4 r4=>⟨s4,by cases r4;rfl⟩⟩) fun uk s4 hy=>?_
 obtain ⟨vk,H4,I4,rk,s34,rfl⟩:=hy
 obtain ⟨t3,rfl⟩:=rk
 have s14:aF H1 H4:=(s12.trans s23).trans s34
 have I5:Inv X pins σ H4 {s4 with heap:=s4.heap.push {cls:=.type "slice",data:=.fields #[.int a t,.int b t2,.int c t3] } }:=I4.kept (t':=s4.toks) fun b ob z=>Ap _ z
 obtain ⟨its,rv,pl,hz'⟩:=I5.list (s14.seq (aH.seq hq))
 have hlen:=rv.length
 show wpAny (model X.prog X.w) X.A (Fz e (.Slice (some k1) (some k2) (some k3) p2) (.ref ad) (.ref s4.heap.objs.size)) (EP X pins σ Q) X.xe {s4 with heap:=s4.heap.push {cls:=.type "slice",data:=.fields #[.int a t,.int b t2,.int c t3] } }
 refine tail_any (ops:=[.ref ad,.ref s4.heap.objs.size]) pl.isList.typeIs slot_list_getitem.lookup ?_ (by with_unfolding_all rfl)
 refine DV pl.isList (E2 ..) (IsPart.int _ _) (IsPart.int _ _) (IsPart.int _ _) (by simpa using hc) ?_ (by rw[AN];omega)
 have epk:HP its.toArray (some a) (some b) (some c)=((pkI vs.length a b c).filterMap (its[·]?)).toArray:=by
  unfold HP pkI
  rw[AN,←hlen]
  simp
 rw[epk]
 generalize hn:(s4.heap.push {cls:=.type "slice",data:=.fields #[.int a t,.int b t2,.int c t3] }).objs.size=D
 have fr:H4 D=none:=I5.hok.fresh (by rw[←hn];exact Aw _)
 have rl:vs.length=xs.length:=rs.len
 have rp:=rs.pick (pkI vs.length a b c)
 have el:pkL xs a b c=(pkI vs.length a b c).filterMap (xs[·]?):=by unfold pkL;rw[rl]
 refine ⟨.ref D,upd H4 D (.lst ((pkI vs.length a b c).filterMap (vs[·]?))),I5.laid (t':=s4.toks) (o:=.lst ((pkI vs.length a b c).filterMap (vs[·]?))) (fun b ob z=>Ap _ z) (by rw[←hn];exact Aw _) ⟨by rw[rp.len,←el];exact hz,(pkI vs.length a b c).filterMap (its[·]?),0,rv.pick _,?_⟩,rfl,?_⟩
 ·rw[←hn];exact AD _ rfl
 ·refine q D _ _ ((sm.trans s14).trans (aU fr _)) ((sm.trans s14).free fr) aW ?_
  rw[el]
  exact (rp.same (aT s14)).same (bI (aU fr _) fr)
end
end L2
local macro_rules | `(tactic|walk_at "sz")=>`(tactic|first |with_reducible assumption | ((with_reducible apply L2.Sz.sub') <;>walk_at "sz") | ((with_reducible apply L2.Sz.add') <;>walk_at "sz") | ((with_reducible apply L2.Sz.mul) <;>walk_at "sz") | ((with_reducible apply L2.Sz.neg) <;>walk_at "sz") | ((with_reducible apply L2.Sz.ediv) <;>walk_at "sz") | ((with_reducible apply L2.Sz.abs) <;>walk_at "sz") |exact L2.Sz.lit (m:=8) (by decide) |exact L2.Sz.emod (m:=250) (by decide) (by decide) |exact L2.Sz.lit (m:=250) (by decide))
local macro_rules | `(tactic|walk_at "mul")=>`(tactic|exact L2.Sz.ok (by walk_at "sz") (by walk_at "sz") (by decide))
local macro_rules | `(tactic|walk_at "div")=>`(tactic|first |exact ⟨by decide,L2.Sz.mono (m:=250) (by decide) (by decide)⟩ |exact ⟨by omega,L2.Sz.mono (by walk_at "sz") (by decide)⟩)
local macro_rules | `(tactic|walk_at "mod")=>`(tactic|first |decide |omega)
local macro_rules | `(tactic|walk_at "szb")=>`(tactic|exact L2.Sz.mono (by walk_at "sz") (by decide))
local macro_rules | `(tactic|walk_at "kit")=>`(tactic|first |exact L2.kit_int_int _ |exact L2.kit_int_bool _ |exact L2.kit_tuple_tuple _ |exact L2.kit_list_list _ |exact L2.kit_bool_int _ |exact L2.kit_list_tuple _ |rfl)
local macro_rules | `(tactic|walk_at "ok")=>`(tactic|first |rfl |decide)
local macro_rules | `(tactic|walk_at "sub")=>`(tactic|first |exact trivial | (refine ⟨rfl,?_⟩;walk_at "sub") | (with_reducible apply L2.SubP.skip;walk_at "sub"))
local macro_rules | `(tactic|walk_at "len")=>`(tactic|first |decide | (simp only[List.length_append,List.length_cons,List.length_nil,List.length_map];decide))
namespace My
open PySem PySem.Spec PyProof.Rows L2
def top (i:Nat):Stmt:=PySem.Challenge.pw_stakefield_k56_alike_by_trying.main.body.getD i (.Pass ⟨0,0,0,0⟩)
abbrev cY:Stmt:=top 6
abbrev iq:Stmt:=top 7
abbrev eu:Stmt:=top 8
abbrev iB:Stmt:=top 10
abbrev cZ:Stmt:=top 11
abbrev cN:Stmt:=top 12
abbrev eJ:Stmt:=top 13
abbrev fL:Stmt:=top 14
abbrev eL:Stmt:=top 15
abbrev cW:Stmt:=top 16
abbrev fV:Stmt:=top 17
abbrev fP:Stmt:=top 18
abbrev ir:Stmt:=top 20
abbrev cw:Stmt:=top 21
abbrev fJ:Stmt:=top 22
abbrev bK:Stmt:=top 23
abbrev fT:Stmt:=top 25
abbrev eN:Stmt:=top 26
abbrev dA:Stmt:=top 27
abbrev fN:Stmt:=top 28
abbrev bP:Stmt:=top 30
abbrev cq:Stmt:=top 31
abbrev cx:Stmt:=top 32
abbrev bN:Stmt:=top 33
abbrev bX:Stmt:=top 34
abbrev br:Stmt:=top 35
abbrev cH:Stmt:=top 36
abbrev cG:Stmt:=top 37
abbrev cM:Stmt:=top 38
abbrev cL:Stmt:=top 39
abbrev bR:Stmt:=top 40
abbrev dq:Stmt:=top 41
abbrev bT:Stmt:=top 42
abbrev cX:Stmt:=top 43
abbrev iH:Stmt:=top 44
theorem lJ:aD ["thing"] ["thing"] (ai cY):=⟨rfl,rfl,rfl,by decide+kernel,rfl,by decide+kernel,by decide+kernel⟩
theorem uC:aD ["number"] ["number"] (ai iq):=⟨rfl,rfl,rfl,by decide+kernel,rfl,by decide+kernel,by decide+kernel⟩
theorem bG:aD ["a","b","high","high_times","low","low_times","fits","rest","rest_times","s"] ["a","b"] (ai eu):=⟨rfl,rfl,rfl,by decide+kernel,rfl,by decide+kernel,by decide+kernel⟩
theorem uw:aD ["move"] ["move"] (ai iB):=⟨rfl,rfl,rfl,by decide+kernel,rfl,by decide+kernel,by decide+kernel⟩
theorem jA:aD ["thing","number"] ["thing"] (ai cZ):=⟨rfl,rfl,rfl,by decide+kernel,rfl,by decide+kernel,by decide+kernel⟩
theorem kN:aD ["thing"] ["thing"] (ai cN):=⟨rfl,rfl,rfl,by decide+kernel,rfl,by decide+kernel,by decide+kernel⟩
theorem qP:aD ["P","move"] ["P","move"] (ai eJ):=⟨rfl,rfl,rfl,by decide+kernel,rfl,by decide+kernel,by decide+kernel⟩
theorem md:aD ["P","move","place"] ["P","move"] (ai fL):=⟨rfl,rfl,rfl,by decide+kernel,rfl,by decide+kernel,by decide+kernel⟩
theorem fR:aD ["first","second","right","up","origin"] ["first","second"] (ai eL):=⟨rfl,rfl,rfl,by decide+kernel,rfl,by decide+kernel,by decide+kernel⟩
theorem cJ:aD ["move","side","a","b","c","d"] ["move"] (ai cW):=⟨rfl,rfl,rfl,by decide+kernel,rfl,by decide+kernel,by decide+kernel⟩
theorem s_:aD ["P","Q"] ["P","Q"] (ai fV):=⟨rfl,rfl,rfl,by decide+kernel,rfl,by decide+kernel,by decide+kernel⟩
theorem dD:aD ["P","Q","far","u","v","parts","s","t"] ["P","Q"] (ai fP):=⟨rfl,rfl,rfl,by decide+kernel,rfl,by decide+kernel,by decide+kernel⟩
theorem uD:aD ["P","Q","R"] ["P","Q","R"] (ai ir):=⟨rfl,rfl,rfl,by decide+kernel,rfl,by decide+kernel,by decide+kernel⟩
theorem d7:aD ["row","kept","P"] ["row"] (ai cw):=⟨rfl,rfl,rfl,by decide+kernel,rfl,by decide+kernel,by decide+kernel⟩
theorem fu:aD ["points","row","there","back"] ["points"] (ai fJ):=⟨rfl,rfl,rfl,by decide+kernel,rfl,by decide+kernel,by decide+kernel⟩
theorem fC:aD ["land","move","P"] ["land","move"] (ai bK):=⟨rfl,rfl,rfl,by decide+kernel,rfl,by decide+kernel,by decide+kernel⟩
theorem ft:aD ["corner","along","aside","move","place"] ["corner","along","aside"] (ai fT):=⟨rfl,rfl,rfl,by decide+kernel,rfl,by decide+kernel,by decide+kernel⟩
theorem d_:aD ["land","found","before","corner","after"] ["land"] (ai eN):=⟨rfl,rfl,rfl,by decide+kernel,rfl,by decide+kernel,by decide+kernel⟩
theorem oj:aD ["land"] ["land"] (ai dA):=⟨rfl,rfl,rfl,by decide+kernel,rfl,by decide+kernel,by decide+kernel⟩
theorem jh:aD ["one","other","move","other_move"] ["one","other"] (ai fN):=⟨rfl,rfl,rfl,by decide+kernel,rfl,by decide+kernel,by decide+kernel⟩
theorem iO:aD ["script","k"] ["script","k"] (ai bP):=⟨rfl,rfl,rfl,by decide+kernel,rfl,by decide+kernel,by decide+kernel⟩
theorem jK:aD ["found"] ["found"] (ai cq):=⟨rfl,rfl,rfl,by decide+kernel,rfl,by decide+kernel,by decide+kernel⟩
theorem gd:aD ["one","two","three","made"] ["one","two","three"] (ai cx):=⟨rfl,rfl,rfl,by decide+kernel,rfl,by decide+kernel,by decide+kernel⟩
theorem bE:aD ["points","row","found","way","half","spot"] ["points"] (ai bN):=⟨rfl,rfl,rfl,by decide+kernel,rfl,by decide+kernel,by decide+kernel⟩
theorem bO:aD ["script","start","shape","wide","high","some","cell"] ["script","start"] (ai bX):=⟨rfl,rfl,rfl,by decide+kernel,rfl,by decide+kernel,by decide+kernel⟩
theorem aL:aD ["a","n","high","low","s","after","times"] ["a","n"] (ai br):=⟨rfl,rfl,rfl,by decide+kernel,rfl,by decide+kernel,by decide+kernel⟩
theorem cA:aD ["script","n","a","way","b"] ["script"] (ai cH):=⟨rfl,rfl,rfl,by decide+kernel,rfl,by decide+kernel,by decide+kernel⟩
theorem b_:aD ["script","kind","some","x","y","spot"] ["script"] (ai cG):=⟨rfl,rfl,rfl,by decide+kernel,rfl,by decide+kernel,by decide+kernel⟩
theorem cR:aD ["spot","script","x","y"] ["spot","script"] (ai cM):=⟨rfl,rfl,rfl,by decide+kernel,rfl,by decide+kernel,by decide+kernel⟩
theorem ln:aD ["start","spot"] ["start","spot"] (ai cL):=⟨rfl,rfl,rfl,by decide+kernel,rfl,by decide+kernel,by decide+kernel⟩
theorem aI:aD ["one","other","at","way","p","q","r","s","wide","tops","top","a","b","c","d","x","y"] ["one","other","at","way"] (ai bR):=⟨rfl,rfl,rfl,by decide+kernel,rfl,by decide+kernel,by decide+kernel⟩
theorem jd:aD ["move","spot","x"] ["move","spot"] (ai dq):=⟨rfl,rfl,rfl,by decide+kernel,rfl,by decide+kernel,by decide+kernel⟩
theorem gj:aD ["move","one","other","spot"] ["move","one","other"] (ai bT):=⟨rfl,rfl,rfl,by decide+kernel,rfl,by decide+kernel,by decide+kernel⟩
theorem dg:aD ["one","other","at","way","move"] ["one","other"] (ai cX):=⟨rfl,rfl,rfl,by decide+kernel,rfl,by decide+kernel,by decide+kernel⟩
theorem eX:aD ["script","one","other","spot","found","x"] ["script"] (ai iH):=⟨rfl,rfl,rfl,by decide+kernel,rfl,by decide+kernel,by decide+kernel⟩
set_option genInjectivity false in
set_option genSizeOf false in
set_option genSizeOfSpec false in
structure Txt (K:Ao) (mg:Str→Option Value) where
 a_is_whole:Addr
 d_is_whole:A6
 F_is_whole:Fun K "is_whole" "is_whole" cY a_is_whole d_is_whole
 b_is_whole:bp K d_is_whole ["thing"] []
 m_is_whole:mg "is_whole"=some (.ref a_is_whole)
 a_sign:Addr
 d_sign:A6
 F_sign:Fun K "sign" "sign" iq a_sign d_sign
 b_sign:bp K d_sign ["number"] []
 m_sign:mg "sign"=some (.ref a_sign)
 a_shares:Addr
 d_shares:A6
 F_shares:Fun K "shares" "shares" eu a_shares d_shares
 b_shares:bp K d_shares ["a","b"] []
 m_shares:mg "shares"=some (.ref a_shares)
 a_hand:Addr
 d_hand:A6
 F_hand:Fun K "hand" "hand" iB a_hand d_hand
 b_hand:bp K d_hand ["move"] []
 m_hand:mg "hand"=some (.ref a_hand)
 a_is_move:Addr
 d_is_move:A6
 F_is_move:Fun K "is_move" "is_move" cZ a_is_move d_is_move
 b_is_move:bp K d_is_move ["thing"] []
 m_is_move:mg "is_move"=some (.ref a_is_move)
 a_need_move:Addr
 d_need_move:A6
 F_need_move:Fun K "need_move" "need_move" cN a_need_move d_need_move
 b_need_move:bp K d_need_move ["thing"] []
 m_need_move:mg "need_move"=some (.ref a_need_move)
 a_turned:Addr
 d_turned:A6
 F_turned:Fun K "turned" "turned" eJ a_turned d_turned
 b_turned:bp K d_turned ["P","move"] []
 m_turned:mg "turned"=some (.ref a_turned)
 a_moved:Addr
 d_moved:A6
 F_moved:Fun K "moved" "moved" fL a_moved d_moved
 b_moved:bp K d_moved ["P","move"] []
 m_moved:mg "moved"=some (.ref a_moved)
 a_behind:Addr
 d_behind:A6
 F_behind:Fun K "behind" "behind" eL a_behind d_behind
 b_behind:bp K d_behind ["first","second"] []
 m_behind:mg "behind"=some (.ref a_behind)
 a_way_back:Addr
 d_way_back:A6
 F_way_back:Fun K "way_back" "way_back" cW a_way_back d_way_back
 b_way_back:bp K d_way_back ["move"] []
 m_way_back:mg "way_back"=some (.ref a_way_back)
 a_steps:Addr
 d_steps:A6
 F_steps:Fun K "steps" "steps" fV a_steps d_steps
 b_steps:bp K d_steps ["P","Q"] []
 m_steps:mg "steps"=some (.ref a_steps)
 a_level:Addr
 d_level:A6
 F_level:Fun K "level" "level" fP a_level d_level
 b_level:bp K d_level ["P","Q"] []
 m_level:mg "level"=some (.ref a_level)
 a_turn:Addr
 d_turn:A6
 F_turn:Fun K "turn" "turn" ir a_turn d_turn
 b_turn:bp K d_turn ["P","Q","R"] []
 m_turn:mg "turn"=some (.ref a_turn)
 a_left_bends:Addr
 d_left_bends:A6
 F_left_bends:Fun K "left_bends" "left_bends" cw a_left_bends d_left_bends
 b_left_bends:bp K d_left_bends ["row"] []
 m_left_bends:mg "left_bends"=some (.ref a_left_bends)
 a_field:Addr
 d_field:A6
 F_field:Fun K "field" "field" fJ a_field d_field
 b_field:bp K d_field ["points"] []
 m_field:mg "field"=some (.ref a_field)
 a_field_moved:Addr
 d_field_moved:A6
 F_field_moved:Fun K "field_moved" "field_moved" bK a_field_moved d_field_moved
 b_field_moved:bp K d_field_moved ["land","move"] []
 m_field_moved:mg "field_moved"=some (.ref a_field_moved)
 a_stand:Addr
 d_stand:A6
 F_stand:Fun K "stand" "stand" fT a_stand d_stand
 b_stand:bp K d_stand ["corner","along","aside"] []
 m_stand:mg "stand"=some (.ref a_stand)
 a_stands:Addr
 d_stands:A6
 F_stands:Fun K "stands" "stands" eN a_stands d_stands
 b_stands:bp K d_stands ["land"] []
 m_stands:mg "stands"=some (.ref a_stands)
 a_to_form:Addr
 d_to_form:A6
 F_to_form:Fun K "to_form" "to_form" dA a_to_form d_to_form
 b_to_form:bp K d_to_form ["land"] []
 m_to_form:mg "to_form"=some (.ref a_to_form)
 a_alike:Addr
 d_alike:A6
 F_alike:Fun K "alike" "alike" fN a_alike d_alike
 b_alike:bp K d_alike ["one","other"] []
 m_alike:mg "alike"=some (.ref a_alike)
 a__law_cell_at:Addr
 d__law_cell_at:A6
 F__law_cell_at:Fun K "_law_cell_at" "_law_cell_at" bP a__law_cell_at d__law_cell_at
 b__law_cell_at:bp K d__law_cell_at ["script","k"] []
 m__law_cell_at:mg "_law_cell_at"=some (.ref a__law_cell_at)
 a__law_whole:Addr
 d__law_whole:A6
 F__law_whole:Fun K "_law_whole" "_law_whole" cq a__law_whole d__law_whole
 b__law_whole:bp K d__law_whole ["found"] []
 m__law_whole:mg "_law_whole"=some (.ref a__law_whole)
 a__law_cross:Addr
 d__law_cross:A6
 F__law_cross:Fun K "_law_cross" "_law_cross" cx a__law_cross d__law_cross
 b__law_cross:bp K d__law_cross ["one","two","three"] []
 m__law_cross:mg "_law_cross"=some (.ref a__law_cross)
 a__law_corners:Addr
 d__law_corners:A6
 F__law_corners:Fun K "_law_corners" "_law_corners" bN a__law_corners d__law_corners
 b__law_corners:bp K d__law_corners ["points"] []
 m__law_corners:mg "_law_corners"=some (.ref a__law_corners)
 a__law_window:Addr
 d__law_window:A6
 F__law_window:Fun K "_law_window" "_law_window" bX a__law_window d__law_window
 b__law_window:bp K d__law_window ["script","start"] []
 m__law_window:mg "_law_window"=some (.ref a__law_window)
 a__law_turned_number:Addr
 d__law_turned_number:A6
 F__law_turned_number:Fun K "_law_turned_number" "_law_turned_number" br a__law_turned_number d__law_turned_number
 b__law_turned_number:bp K d__law_turned_number ["a","n"] []
 m__law_turned_number:mg "_law_turned_number"=some (.ref a__law_turned_number)
 a__law_slim:Addr
 d__law_slim:A6
 F__law_slim:Fun K "_law_slim" "_law_slim" cH a__law_slim d__law_slim
 b__law_slim:bp K d__law_slim ["script"] []
 m__law_slim:mg "_law_slim"=some (.ref a__law_slim)
 a__law_two:Addr
 d__law_two:A6
 F__law_two:Fun K "_law_two" "_law_two" cG a__law_two d__law_two
 b__law_two:bp K d__law_two ["script"] []
 m__law_two:mg "_law_two"=some (.ref a__law_two)
 a__law_lean:Addr
 d__law_lean:A6
 F__law_lean:Fun K "_law_lean" "_law_lean" cM a__law_lean d__law_lean
 b__law_lean:bp K d__law_lean ["spot","script"] []
 m__law_lean:mg "_law_lean"=some (.ref a__law_lean)
 a__law_from:Addr
 d__law_from:A6
 F__law_from:Fun K "_law_from" "_law_from" cL a__law_from d__law_from
 b__law_from:bp K d__law_from ["start","spot"] []
 m__law_from:mg "_law_from"=some (.ref a__law_from)
 a__law_tried:Addr
 d__law_tried:A6
 F__law_tried:Fun K "_law_tried" "_law_tried" bR a__law_tried d__law_tried
 b__law_tried:bp K d__law_tried ["one","other","at","way"] []
 m__law_tried:mg "_law_tried"=some (.ref a__law_tried)
 a__law_by:Addr
 d__law_by:A6
 F__law_by:Fun K "_law_by" "_law_by" dq a__law_by d__law_by
 b__law_by:bp K d__law_by ["move","spot"] []
 m__law_by:mg "_law_by"=some (.ref a__law_by)
 a__law_takes:Addr
 d__law_takes:A6
 F__law_takes:Fun K "_law_takes" "_law_takes" bT a__law_takes d__law_takes
 b__law_takes:bp K d__law_takes ["move","one","other"] []
 m__law_takes:mg "_law_takes"=some (.ref a__law_takes)
 a__law_any:Addr
 d__law_any:A6
 F__law_any:Fun K "_law_any" "_law_any" cX a__law_any d__law_any
 b__law_any:bp K d__law_any ["one","other"] []
 m__law_any:mg "_law_any"=some (.ref a__law_any)
 a_law:Addr
 d_law:A6
 F_law:Fun K "law" "law" iH a_law d_law
 b_law:bp K d_law ["script"] []
 m_law:mg "law"=some (.ref a_law)
 z_abs:mg "abs"=none
 z_all:mg "all"=none
 z_bool:mg "bool"=none
 z_int:mg "int"=none
 z_isinstance:mg "isinstance"=none
 z_len:mg "len"=none
 z_list:mg "list"=none
 z_min:mg "min"=none
 z_range:mg "range"=none
 z_reversed:mg "reversed"=none
 z_set:mg "set"=none
 z_sorted:mg "sorted"=none
 z_tuple:mg "tuple"=none
 z_zip:mg "zip"=none
 tf_c:Addr
 tf_P:Addr
 tf_b:Addr
 tf:TbF K mg a_to_form tf_c tf_P tf_b
 tf_cd:d_to_form.code=.ref tf_c
section
variable {P:AC}{w:World}{K:Ao}{mg:Str→Option Value}{base:Heap}
def sgn (n:Int):Int:=if 0 < n then 1 else if n < 0 then -1 else 0
def bV (b:Int):Int:=if b < 0 then -b else b
theorem df (b:Int):bV b=(b.natAbs:Int):=by unfold bV;split <;>omega
theorem gY {b:Int} (h:b≠0):0 < bV b:=by unfold bV;split <;>omega
theorem dc (d b:Int):d ∣ bV b↔d ∣ b:=by
 unfold bV;split
 ·exact Ik
 ·exact Iff.rfl
theorem rC (d b:Int):bV b ∣ d↔b ∣ d:=by
 unfold bV;split
 ·exact Int.neg_dvd
 ·exact Iff.rfl
structure iM (a b high ht low lt:Int):Prop where
 hp:0 < high
 lo0:0≤low
 lolt:low < high
 dv:∀d,(d ∣ high∧d ∣ low)↔(d ∣ a∧d ∣ b)
 ch:b ∣ ht*a - high
 cl:b ∣ lt*a - low
 bd:ht.natAbs*low.natAbs+lt.natAbs*high.natAbs≤b.natAbs
 hi:high.natAbs≤b.natAbs
theorem lE {a b:Int} (hb:b≠0):iM a b (bV b) 0 (a % bV b) 1:=by
 have h0:=gY hb
 refine ⟨h0,BH _ (by omega),Bs _ h0,fun d=>?_,?_,?_,?_,by rw[df];simp⟩
 ·rw[dc]
  constructor
  ·rintro ⟨h1,h2⟩
   refine ⟨?_,h1⟩
   have e:=C3 a (bV b)
   rw[←e]
   exact EU h2 (B7 ((dc d b).mpr h1) (CK _ _))
  ·rintro ⟨h1,h2⟩
   refine ⟨h2,?_⟩
   have e:a % bV b=a - bV b*(a / bV b):=by have:=C3 a (bV b);omega
   rw[e]
   exact Il h1 (B7 ((dc d b).mpr h2) (CK _ _))
 ·rw[Et,Int.zero_sub,Ik]
  exact (dc b b).mpr (E6 b)
 ·have e:1*a - a % bV b=bV b*(a / bV b):=by have:=C3 a (bV b);omega
  rw[e]
  exact B7 ((dc b b).mpr (E6 b)) (CK _ _)
 ·rw[df];simp
theorem pR {a b high ht low lt:Int} (I:iM a b high ht low lt) (h:low≠0):iM a b low lt (high - high / low*low) (ht - high / low*lt)∧high - high / low*low < low:=by
 obtain ⟨hp,lo0,lolt,dv,ch,cl,bd,hi⟩:=I
 have hl:0 < low:=by omega
 have e:=C3 high low
 have r0:=BH high h
 have r1:=Bs high hl
 have hf:0≤high / low:=Im (by omega) (by omega)
 have er:high - high / low*low=high % low:=by rw[De];omega
 rw[er]
 refine ⟨⟨hl,r0,r1,fun d=>?_,cl,?_,?_,by omega⟩,r1⟩
 ·rw[←dv d]
  constructor
  ·rintro ⟨h1,h2⟩
   refine ⟨?_,h1⟩
   rw[←e]
   exact EU h2 (B7 h1 (CK _ _))
  ·rintro ⟨h1,h2⟩
   refine ⟨h2,?_⟩
   rw[show high % low=high - low*(high / low) by omega]
   exact Il h1 (B7 h2 (CK _ _))
 ·have e2:(ht - high / low*lt) *a - high % low=(ht*a - high) - (high / low) *(lt*a - low):=by grind
  rw[e2]
  exact Il ch (B7 cl (CU _ _))
 ·have n1:(ht - high / low*lt).natAbs≤ht.natAbs+(high / low).natAbs*lt.natAbs:=by
   have:=Int.natAbs_sub_le ht (high / low*lt)
   rw[El] at this
   exact this
  have n2:high.natAbs=(high % low).natAbs+low.natAbs*(high / low).natAbs:=by
   have:(high.natAbs:Int)=((high % low).natAbs+low.natAbs*(high / low).natAbs:Nat):=by
    push_cast
    rw[DF r0,DF hf,DF (by omega:0≤high),DF lo0]
    omega
   omega
  have n3:(ht - high / low*lt).natAbs*low.natAbs≤(ht.natAbs+(high / low).natAbs*lt.natAbs) *low.natAbs:=Gx _ n1
  rw[n2] at bd
  refine B9 ?_ bd
  generalize (ht - high / low*lt).natAbs=A at *
  generalize ht.natAbs=B at *
  generalize lt.natAbs=C at *
  generalize low.natAbs=D at *
  generalize (high / low).natAbs=E at *
  generalize (high % low).natAbs=F at *
  grind
structure fB (a b g s t:Int):Prop where
 g0:0≤g
 eq:s*a+t*b=g
 da:g ∣ a
 db:g ∣ b
 z:b=0→t=0∧s=sgn a∧g=bV a
 nz:b≠0→0 < g∧0≤s∧s < bV b / g
theorem jN (a:Int):fB a 0 (bV a) (sgn a) 0:=by
 refine ⟨by unfold bV;split <;>omega,?_,(rC a a).mpr (E6 a),JB _,fun _=>⟨rfl,rfl,rfl⟩,fun h=>absurd rfl h⟩
 unfold sgn bV
 split
 ·split <;>omega
 ·split
  ·omega
  ·omega
theorem sR {a b high ht lt:Int} (hb:b≠0) (I:iM a b high ht 0 lt):fB a b high (ht % (bV b / high)) ((high - ht % (bV b / high) *a).fdiv b):=by
 obtain ⟨hp,lo0,lolt,dv,ch,cl,bd,hi⟩:=I
 obtain ⟨ga,gb⟩:=(dv high).mp ⟨E6 _,JB _⟩
 obtain ⟨a',rfl⟩:=ga
 have gb2:high ∣ bV b:=(dc _ _).mpr gb
 obtain ⟨b',hb'⟩:=gb2
 have hb0:=gY hb
 have hq:bV b / high=b':=by rw[hb',Cy _ (by omega)]
 have hb1:0 < b':=by
  have:0 < high*b':=by omega
  exact DX this (by omega)
 rw[hq]
 have es:=C3 ht b'
 have key:b ∣ high - ht % b'*(high*a'):=by
  have e:high - ht % b'*(high*a')=-(ht*(high*a') - high)+bV b*(a'*(ht / b')):=by
   rw[hb',show ht % b'=ht - b'*(ht / b') by omega];grind
  rw[e]
  refine EU (Ik.mpr ch) (B7 ((dc b b).mpr (E6 b)) (CK _ _))
 refine ⟨by omega,?_,CK _ _,gb,fun h=>absurd h hb,fun _=>⟨hp,BH _ (by omega),?_⟩⟩
 ·obtain ⟨c,hc⟩:=key
  rw[hc,Int.mul_fdiv_cancel_left _ hb,De c b];omega
 ·rw[hq];exact Bs _ hb1
theorem yq {a b high ht low lt:Int} (I:iM a b high ht low lt):lt.natAbs≤b.natAbs:=by
 have h1:1≤high.natAbs:=by have:=I.hp;omega
 have h2:lt.natAbs*1≤lt.natAbs*high.natAbs:=Nat.mul_le_mul_left _ h1
 have:=I.bd
 omega
theorem sr {a b g s t g' s' t':Int} (h:fB a b g s t) (h':fB a b g' s' t'):g=g'∧s=s'∧t=t':=by
 have d1:g ∣ g':=by rw[←h'.eq];exact EU (B7 h.da (CU _ _)) (B7 h.db (CU _ _))
 have d2:g' ∣ g:=by rw[←h.eq];exact EU (B7 h'.da (CU _ _)) (B7 h'.db (CU _ _))
 have eg:g=g':=HI h.g0 h'.g0 d1 d2
 subst eg
 by_cases hb:b=0
 ·obtain ⟨h1,h2,_⟩:=h.z hb
  obtain ⟨k1,k2,_⟩:=h'.z hb
  exact ⟨rfl,by omega,by omega⟩
 ·obtain ⟨p,s0,s1⟩:=h.nz hb
  obtain ⟨_,s0',s1'⟩:=h'.nz hb
  obtain ⟨a',ha⟩:=h.da
  obtain ⟨b',hb'⟩:=(dc g b).mpr h.db
  obtain ⟨b'',hb''⟩:=h.db
  have hq:bV b / g=b':=by rw[hb',Cy _ (by omega)]
  rw[hq] at s1 s1'
  have e1:=h.eq
  have e2:=h'.eq
  have bz:b''≠0:=by intro z;rw[z,Df] at hb'';exact hb hb''
  have k1:s*a'+t*b''=1:=by
   have:g*(s*a'+t*b'')=g*1:=by rw[ha,hb''] at e1;grind
   exact B4 (by omega) this
  have k2:s'*a'+t'*b''=1:=by
   have:g*(s'*a'+t'*b'')=g*1:=by rw[ha,hb''] at e2;grind
   exact B4 (by omega) this
  have k3:b'' ∣ s - s':=by
   refine ⟨s*(t' - t)+t*(s - s'),?_⟩
   grind
  have k4:b' ∣ s - s':=by
   have:b'.natAbs=b''.natAbs:=by
    have q1:(bV b).natAbs=b.natAbs:=by rw[df];simp
    rw[hb',hb''] at q1
    rw[El,El] at q1
    exact Nat.eq_of_mul_eq_mul_left (by omega) q1
   exact Eu.mp (by rw[this];exact Eu.mpr k3)
  have k5:s=s':=by
   have:s - s'=0:=Int.eq_zero_of_dvd_of_natAbs_lt_natAbs k4 (by omega)
   omega
  subst k5
  refine ⟨rfl,rfl,?_⟩
  have:b*t=b*t':=by grind
  exact B4 hb this
theorem v8 {a b:Int} (hb:b≠0):∀(n:Nat) (high ht low lt:Int),low.toNat≤n→iM a b high ht low lt→∃high' ht' lt',iM a b high' ht' 0 lt'
 |0,high,ht,low,lt,hn,I=>by
  have:low=0:=by have:=I.lo0;omega
  subst this
  exact ⟨_,_,_,I⟩
 |n+1,high,ht,low,lt,hn,I=>by
  by_cases h:low=0
  ·subst h;exact ⟨_,_,_,I⟩
  ·obtain ⟨I2,less⟩:=pR I h
   have:=I2.lo0
   exact v8 hb n _ _ _ _ (by have:=I.lo0;omega) I2
theorem oG (a b:Int):∃g s t,fB a b g s t:=by
 by_cases hb:b=0
 ·subst hb;exact ⟨_,_,_,jN a⟩
 ·obtain ⟨h,ht,lt,I⟩:=v8 hb _ _ _ _ _ (Aw _) (lE (a:=a) hb)
  exact ⟨_,_,_,sR hb I⟩
theorem i6 {m:Nat}{a b g s t:Int} (G:fB a b g s t) (sa:Sz m a) (sb:Sz m b):Sz (m+8) g∧Sz (m+8) s∧Sz (2*m+8) t:=by
 by_cases hb:b=0
 ·subst hb
  obtain ⟨h1,h2,h3⟩:=G.z rfl
  rw[h1,h2,h3]
  have s1:Sz 8 (sgn a):=by unfold Sz sgn;split;decide;split <;>decide
  exact ⟨(Sz.abs sa).mono (by omega),s1.mono (by omega),Sz.mono (m:=8) (by decide) (by omega)⟩
 ·obtain ⟨g0,s0,s1⟩:=G.nz hb
  have h1:bV b / g≤bV b:=HJ _ (by have:=gY hb;omega)
  have h2:=df b
  have sg:Sz m g:=by
   refine sb.natle ?_
   exact Nat.le_of_dvd (by omega) (Eu.mpr G.db)
  have ss:Sz m s:=sb.natle (by omega)
  refine ⟨sg.mono (by omega),ss.mono (by omega),?_⟩
  have e:t*b=g - s*a:=by have:=G.eq;omega
  have q:Sz (2*m+1) (t*b):=by
   rw[e]
   have:Sz (m+m) (s*a):=ss.mul sa
   have h3:=(sg.mono (show m≤m+m by omega)).sub this
   exact h3.mono (by omega)
  refine (Sz.mono (m:=2*m+1) ?_ (by omega))
  unfold Sz at *
  rw[El] at q
  have:1≤b.natAbs:=by omega
  exact E3 (Nat.le_mul_of_pos_right _ this) q
def pS:List U→Out→Prop:=fun us o=>∃n:Int,us=[.int n]∧o=.val (.int (sgn n))
theorem pA (T:Txt K mg):bA P w K mg base (CXF P w) 1 T.a_sign T.d_sign ["number"] (spU K (pS)):=by
 refine bB T.F_sign uC (fun us o h=>?_) (fun cdv A outer s H E O us o hr h=>?_)
 ·obtain ⟨n,rfl,rfl⟩:=h
  rfl
 obtain ⟨n,rfl,rfl⟩:=h
 refine Ws.nox ?_
 refine ae (nw (bg mU (aa 0 rfl) ab) (fun hT=>?_) (fun hF=>(bi ?_)))
 ·refine ae (a_ ab ?_)
  exact vIO (by unfold sgn;rw[if_pos (dTb hT)])
 ·refine ae (nw (bg pV (aa 0 rfl) ab) (fun hT=>?_) (fun hF=>(bi ?_)))
  ·refine ae (a_ (bU ab) ?_)
   exact vIO (by unfold sgn;rw[if_neg (dFb hF),if_pos (dTb hT)])
  ·rename_i hF2
   refine ae (a_ ab ?_)
   exact vIO (by unfold sgn;rw[if_neg (dFb hF),if_neg (dFb hF2)])
def mw:List U→Out→Prop:=fun us o=>∃a b g s t:Int,us=[.int a,.int b]∧Sz 4000 a∧Sz 4000 b∧fB a b g s t∧o=.val (.tup [.int g,.int s,.int t])
theorem lU {a b g s t g' s' t':Int} (G:fB a b g s t) (G':fB a b g' s' t'):Out.val (.tup [.int g,.int s,.int t])=Out.val (.tup [.int g',.int s',.int t']):=by
 obtain ⟨rfl,rfl,rfl⟩:=sr G G'
 rfl
theorem jU (T:Txt K mg):bA P w K mg base (CXF P w) 2 T.a_shares T.d_shares ["a","b"] (spU K (mw)):=by
 refine bB T.F_shares bG (fun us o h=>?_) (fun cdv A outer s H E O us o hr h=>?_)
 ·obtain ⟨a,b,g,s,t,rfl,sa,sb,G,rfl⟩:=h
  rfl
 obtain ⟨a,b,g,s,t,rfl,sa,sb,G,rfl⟩:=h
 refine Ws.nox ?_
 refine ae (nw (bg cT (aa 1 rfl) ab) (fun hT=>?_) (fun hF=>(bi ?_)))
 ·have hb:b=0:=dTb hT
  subst hb
  refine ae (a_ (aN (ag (aR kj rfl T.z_abs PyProof.Rows.boot_abs (ac (aa 0 rfl) ao af)) (ag (ar ((pA T).mono (by decide)) hr rfl T.m_sign T.F_sign.kp T.b_sign ax (ac (aa 0 rfl) ao af) ⟨_,rfl,rfl⟩) (ag ab aM ay) cV) cV)) ?_)
  exact lU (jN a) G
 ·have hb:b≠0:=dFb hF
  have hp0:=gY hb
  have sab:Sz 4000 (bV b):=Sz.abs sb
  refine ae (aA (i:=2) bG.nd rfl (Or.inl rfl) (aR kj rfl T.z_abs PyProof.Rows.boot_abs (ac (aa 1 rfl) ao af)) ?_)
  refine ae (aA (i:=3) bG.nd rfl (Or.inl rfl) ab ?_)
  refine ae (aA (i:=4) bG.nd rfl (Or.inl rfl) (bW (aa 0 rfl) (aa 2 rfl) hp0) ?_)
  refine ae (aA (i:=5) bG.nd rfl (Or.inl rfl) ab ?_)
  refine ae (hU (fun m:Int×Int×Int×Int=>[some (.val (.int a)),some (.val (.int b)),some (.val (.int m.1)),some (.val (.int m.2.1)),some (.val (.int m.2.2.1)),some (.val (.int m.2.2.2)),none,none,none,none]) (fun n m=>n=m.2.2.1.toNat∧iM a b m.1 m.2.1 m.2.2.1 m.2.2.2) PassesOwn.never ?h0 ?hs)
  case h0=>exact ⟨_,(_,_,_,_),⟨rfl,lE hb⟩,rfl,rfl,rfl,rfl,rfl,rfl,trivial⟩
  case hs=>
   rintro m ⟨high,ht,low,lt⟩ ⟨rfl,I⟩
   dsimp only at I ⊢
   have hl0:=I.lo0
   have hl1:=I.lolt
   have sh:Sz 4000 high:=sb.natle I.hi
   have sl:Sz 4000 low:=sh.natle (by omega)
   have slt:Sz 4000 lt:=sb.natle (yq I)
   refine ⟨_,(bg gg (aa 4 rfl) ab),fun h=>?_,fun h ps hps=>?_⟩
   ·have hl:low≠0:=nTb h
    obtain ⟨I2,less⟩:=pR I hl
    have hlt:(high - high / low*low).toNat < low.toNat:=by clear h;omega
    refine ae (aA (i:=6) bG.nd rfl (Or.inl rfl) (eI (aa 2 rfl) (aa 4 rfl) (by walk_at "div")) ?_)
    have sf:Sz 4000 (high / low):=sh.ediv
    refine ae (aA (i:=7) bG.nd rfl (Or.inl rfl) (bo (aa 2 rfl) (aQ (aa 6 rfl) (aa 4 rfl) (by walk_at "mul"))) ?_)
    refine ae (aA (i:=8) bG.nd rfl (Or.inl rfl) (bo (aa 3 rfl) (aQ (aa 6 rfl) (aa 5 rfl) (by walk_at "mul"))) ?_)
    refine ae (aA (i:=2) bG.nd rfl (Or.inl rfl) (aa 4 rfl) ?_)
    refine ae (aA (i:=3) bG.nd rfl (Or.inl rfl) (aa 5 rfl) ?_)
    refine ae (aA (i:=4) bG.nd rfl (Or.inl rfl) (aa 7 rfl) ?_)
    refine ae (aA (i:=5) bG.nd rfl (Or.inl rfl) (aa 8 rfl) (bi ?_))
    exact ⟨_,(_,_,_,_),hlt,⟨rfl,I2⟩,rfl,rfl,rfl,rfl,rfl,rfl,trivial⟩
   ·have hl:low=0:=nFb h
    subst hl
    refine eT ?_ hps
    have G2:=sR hb I
    obtain ⟨g0,s0,s1⟩:=G2.nz hb
    have hm:0 < bV b / high:=by omega
    have hg:0 < high:=I.hp
    have ss:Sz 4000 (ht % (bV b / high)):=by
     refine sb.natle ?_
     have h1:bV b / high≤bV b:=HJ _ (by omega)
     have h2:=df b
     omega
    refine ae (aA (i:=9) bG.nd rfl (Or.inl rfl) (bW (aa 3 rfl) (eI (aR kj rfl T.z_abs PyProof.Rows.boot_abs (ac (aa 1 rfl) ao af)) (aa 2 rfl) ⟨hg,sh.mono (by decide)⟩) hm) ?_)
    refine ae (a_ (aN (ag (aa 2 rfl) (ag (aa 9 rfl) (ag (xt (bo (aa 2 rfl) (aQ (aa 9 rfl) (aa 0 rfl) (Sz.ok ss sa (by decide)))) (aa 1 rfl) ⟨hb,sb.mono (by decide)⟩) aM be) af) af)) ?_)
    exact lU G2 G
abbrev mv (a b c d e f:Int):U:=.tup [.int a,.int b,.int c,.int d,.int e,.int f]
structure Mv (a b c d e f:Int):Prop where
 u:a*d - b*c=1∨a*d - b*c=-1
 a:Sz 30000 a
 b:Sz 30000 b
 c:Sz 30000 c
 d:Sz 30000 d
 e:Sz 30000 e
 f:Sz 30000 f
def nU:List U→Out→Prop:=fun us o=>∃n:Int,us=[.int n]∧o=.val (.bl true)
theorem lW (T:Txt K mg):bA P w K mg base (CXF P w) 1 T.a_is_whole T.d_is_whole ["thing"] (spU K (nU)):=by
 refine bB T.F_is_whole lJ (fun us o h=>?_) (fun cdv A outer s H E O us o hr h=>?_)
 ·obtain ⟨n,rfl,rfl⟩:=h
  rfl
 obtain ⟨n,rfl,rfl⟩:=h
 refine Ws.nox ?_
 refine ae (a_ (t7 (aR (eO (by intro _ h;cases h) (by walk_at "kit")) rfl T.z_isinstance Dz (ac (aa 0 rfl) (ac (qA rfl T.z_int boot_int) ao af) af)) (fun hz=>(tX (v4 (aR (eO (by intro _ h;cases h) (by walk_at "kit")) rfl T.z_isinstance Dz (ac (aa 0 rfl) (ac (qA rfl T.z_bool boot_bool) ao af) af)))))) ?_);exact rfl
def p9:List U→Out→Prop:=fun us o=>∃a b c d e f,us=[mv a b c d e f]∧Sz 30000 a∧Sz 30000 b∧Sz 30000 c∧Sz 30000 d∧o=.val (.int (a*d - b*c))
theorem oJ (T:Txt K mg):bA P w K mg base (CXF P w) 1 T.a_hand T.d_hand ["move"] (spU K (p9)):=by
 refine bB T.F_hand uw (fun us o h=>?_) (fun cdv A outer s H E O us o hr h=>?_)
 ·obtain ⟨a,b,c,d,e,f,rfl,sa,sb,sc,sd,rfl⟩:=h
  rfl
 obtain ⟨a,b,c,d,e,f,rfl,sa,sb,sc,sd,rfl⟩:=h
 refine Ws.nox ?_
 refine ae (a_ (bo (aQ (au (aa 0 rfl) ab rfl rfl) (au (aa 0 rfl) ab rfl rfl) (by walk_at "mul")) (aQ (au (aa 0 rfl) ab rfl rfl) (au (aa 0 rfl) ab rfl rfl) (by walk_at "mul"))) ?_);exact rfl
def kG:List U→Out→Prop:=fun us o=>∃a b c d e f,us=[mv a b c d e f]∧Mv a b c d e f∧o=.val (.bl true)
theorem nA (T:Txt K mg):bA P w K mg base (CXF P w) 2 T.a_is_move T.d_is_move ["thing"] (spU K (kG)):=by
 refine bB T.F_is_move jA (fun us o h=>?_) (fun cdv A outer s H E O us o hr h=>?_)
 ·obtain ⟨a,b,c,d,e,f,rfl,M,rfl⟩:=h
  rfl
 obtain ⟨a,b,c,d,e,f,rfl,M,rfl⟩:=h
 refine Ws.nox ?_
 refine ae (cC (Tw.t (wG (ki (hX (aR (eO (by intro _ h;cases h) rfl) rfl T.z_isinstance Dz (ac (aa 0 rfl) (ac (qA rfl T.z_tuple boot_tuple) ao af) af)))) (fun hz=>(wD (bg gg (aR (cP rfl) rfl T.z_len Bf (ac (aa 0 rfl) ao af)) ab))))) rfl (bi ?_))
 refine ae (cC (ki (hX (aR (yU rfl (bs:=[true,true,true,true,true,true])) rfl T.z_all boot_all (ac (EvN.ev (iE  rfl (blk (ai cZ) ["thing","number"] [1] rfl rfl rfl rfl (by decide+kernel)) (vS (aa 0 rfl)) (fun _ _ _ _=>bF (i:=1) jA.nd rfl (Or.inl rfl)) (dE (by decide)) ?clen ?csz (fun _ _=>trivial) ?celt)) ao fU)))) rfl (bi ?_))
 case clen=>rfl
 case csz=>show 6≤sizeLine;decide
 case celt=>
  intro C s' H' fp i x y hx hy
  have k:∃n:Int,x=.int n∧y=.bl true:=by
   match i,hx,hy with
   |0,hx,hy=>cases hx;cases hy;exact ⟨a,rfl,rfl⟩
   |1,hx,hy=>cases hx;cases hy;exact ⟨b,rfl,rfl⟩
   |2,hx,hy=>cases hx;cases hy;exact ⟨c,rfl,rfl⟩
   |3,hx,hy=>cases hx;cases hy;exact ⟨d,rfl,rfl⟩
   |4,hx,hy=>cases hx;cases hy;exact ⟨e,rfl,rfl⟩
   |5,hx,hy=>cases hx;cases hy;exact ⟨f,rfl,rfl⟩
   |i+6,hx,hy=>cases hx
  obtain ⟨n,rfl,rfl⟩:=k
  exact (ar ((lW T).mono (by decide)) hr rfl T.m_is_whole T.F_is_whole.kp T.b_is_whole ax (ac (aa 1 rfl) ao af) ⟨n,rfl,rfl⟩)
 refine ae (a_ (sF (Ac rfl rfl rfl) (ar ((oJ T).mono (by decide)) hr rfl T.m_hand T.F_hand.kp T.b_hand ax (ac (aa 0 rfl) ao af) ⟨a,b,c,d,e,f,rfl,M.a,M.b,M.c,M.d,rfl⟩) (aN (ag ab (ag (bU ab) aM dZ) ay))) ?_)
 refine vB ?_
 show inV (fl (.int (a*d - b*c))) ([U.int 1,.int (-1)].map fl)=_
 rcases M.u with h |h <;>rw[h] <;>rfl
def qh:List U→Out→Prop:=fun us o=>∃a b c d e f,us=[mv a b c d e f]∧Mv a b c d e f∧o=.val .non
theorem dl (T:Txt K mg):bA P w K mg base (CXF P w) 3 T.a_need_move T.d_need_move ["thing"] (spU K (qh)):=by
 refine bB T.F_need_move kN (fun us o h=>?_) (fun cdv A outer s H E O us o hr h=>?_)
 ·obtain ⟨a,b,c,d,e,f,rfl,M,rfl⟩:=h
  rfl
 obtain ⟨a,b,c,d,e,f,rfl,M,rfl⟩:=h
 refine Ws.nox ?_
 refine ae (cC (ki (hX (ar ((nA T).mono (by decide)) hr rfl T.m_is_move T.F_is_move.kp T.b_is_move ax (ac (aa 0 rfl) ao af) ⟨a,b,c,d,e,f,rfl,M,rfl⟩))) rfl (bi (bi ?_)))
 exact rfl
def lX:List U→Out→Prop:=fun us o=>∃x y a b c d e f,us=[pt x y,mv a b c d e f]∧(Sz 30000 x∧Sz 30000 y∧Sz 30000 a∧Sz 30000 b∧Sz 30000 c∧Sz 30000 d)∧o=.val (pt (a*x+b*y) (c*x+d*y))
theorem il (T:Txt K mg):bA P w K mg base (CXF P w) 1 T.a_turned T.d_turned ["P","move"] (spU K (lX)):=by
 refine bB T.F_turned qP (fun us o h=>?_) (fun cdv A outer s H E O us o hr h=>?_)
 ·obtain ⟨x,y,a,b,c,d,e,f,rfl,⟨sx,sy,sa,sb,sc,sd⟩,rfl⟩:=h
  rfl
 obtain ⟨x,y,a,b,c,d,e,f,rfl,⟨sx,sy,sa,sb,sc,sd⟩,rfl⟩:=h
 refine Ws.nox ?_
 refine ae (a_ (aN (ag (ce (aQ (au (aa 1 rfl) ab rfl rfl) (au (aa 0 rfl) ab rfl rfl) (by walk_at "mul")) (aQ (au (aa 1 rfl) ab rfl rfl) (au (aa 0 rfl) ab rfl rfl) (by walk_at "mul"))) (ag (ce (aQ (au (aa 1 rfl) ab rfl rfl) (au (aa 0 rfl) ab rfl rfl) (by walk_at "mul")) (aQ (au (aa 1 rfl) ab rfl rfl) (au (aa 0 rfl) ab rfl rfl) (by walk_at "mul"))) aM be) be)) ?_);exact rfl
def n4:List U→Out→Prop:=fun us o=>∃x y a b c d e f,us=[pt x y,mv a b c d e f]∧Mv a b c d e f∧Sz 30000 x∧Sz 30000 y∧o=.val (pt (a*x+b*y+e) (c*x+d*y+f))
theorem eK (T:Txt K mg):bA P w K mg base (CXF P w) 4 T.a_moved T.d_moved ["P","move"] (spU K (n4)):=by
 refine bB T.F_moved md (fun us o h=>?_) (fun cdv A outer s H E O us o hr h=>?_)
 ·obtain ⟨x,y,a,b,c,d,e,f,rfl,M,sx,sy,rfl⟩:=h
  rfl
 obtain ⟨x,y,a,b,c,d,e,f,rfl,M,sx,sy,rfl⟩:=h
 refine Ws.nox ?_
 refine ae (kM (ar ((dl T).mono (by decide)) hr rfl T.m_need_move T.F_need_move.kp T.b_need_move ax (ac (aa 1 rfl) ao af) ⟨a,b,c,d,e,f,rfl,M,rfl⟩) ?_)
 refine ae (aA (i:=2) md.nd rfl (Or.inl rfl) (ar ((il T).mono (by decide)) hr rfl T.m_turned T.F_turned.kp T.b_turned ax (ac (aa 0 rfl) (ac (aa 1 rfl) ao af) af) ⟨x,y,a,b,c,d,e,f,rfl,⟨sx,sy,M.a,M.b,M.c,M.d⟩,rfl⟩) ?_)
 refine ae (a_ (aN (ag (ce (au (aa 2 rfl) ab rfl rfl) (au (aa 1 rfl) ab rfl rfl)) (ag (ce (au (aa 2 rfl) ab rfl rfl) (au (aa 1 rfl) ab rfl rfl)) aM be) be)) ?_)
 exact rfl
def beh (a b c d e f a' b' c' d' e' f':Int):U:=mv (a'*a+b'*c) (a'*b+b'*d) (c'*a+d'*c) (c'*b+d'*d) (a'*e+b'*f+e') (c'*e+d'*f+f')
def lY:List U→Out→Prop:=fun us o=>∃a b c d e f a' b' c' d' e' f',us=[mv a b c d e f,mv a' b' c' d' e' f']∧Mv a b c d e f∧Mv a' b' c' d' e' f'∧o=.val (beh a b c d e f a' b' c' d' e' f')
theorem fX (T:Txt K mg):bA P w K mg base (CXF P w) 5 T.a_behind T.d_behind ["first","second"] (spU K (lY)):=by
 refine bB T.F_behind fR (fun us o h=>?_) (fun cdv A outer s H E O us o hr h=>?_)
 ·obtain ⟨a,b,c,d,e,f,a',b',c',d',e',f',rfl,M,M',rfl⟩:=h
  rfl
 obtain ⟨a,b,c,d,e,f,a',b',c',d',e',f',rfl,M,M',rfl⟩:=h
 refine Ws.nox ?_
 refine ae (kM (ar ((dl T).mono (by decide)) hr rfl T.m_need_move T.F_need_move.kp T.b_need_move ax (ac (aa 0 rfl) ao af) ⟨a,b,c,d,e,f,rfl,M,rfl⟩) ?_)
 refine ae (kM (ar ((dl T).mono (by decide)) hr rfl T.m_need_move T.F_need_move.kp T.b_need_move ax (ac (aa 1 rfl) ao af) ⟨a',b',c',d',e',f',rfl,M',rfl⟩) ?_)
 refine ae (aA (i:=2) fR.nd rfl (Or.inl rfl) (ar ((il T).mono (by decide)) hr rfl T.m_turned T.F_turned.kp T.b_turned ax (ac (aN (ag (au (aa 0 rfl) ab rfl rfl) (ag (au (aa 0 rfl) ab rfl rfl) aM bu) bu)) (ac (aa 1 rfl) ao af) bH) ⟨_,_,_,_,_,_,_,_,rfl,⟨M.a,M.c,M'.a,M'.b,M'.c,M'.d⟩,rfl⟩) ?_)
 refine ae (aA (i:=3) fR.nd rfl (Or.inl rfl) (ar ((il T).mono (by decide)) hr rfl T.m_turned T.F_turned.kp T.b_turned ax (ac (aN (ag (au (aa 0 rfl) ab rfl rfl) (ag (au (aa 0 rfl) ab rfl rfl) aM bu) bu)) (ac (aa 1 rfl) ao af) bH) ⟨_,_,_,_,_,_,_,_,rfl,⟨M.b,M.d,M'.a,M'.b,M'.c,M'.d⟩,rfl⟩) ?_)
 refine ae (aA (i:=4) fR.nd rfl (Or.inl rfl) (ar ((eK T).mono (by decide)) hr rfl T.m_moved T.F_moved.kp T.b_moved ax (ac (aN (ag (au (aa 0 rfl) ab rfl rfl) (ag (au (aa 0 rfl) ab rfl rfl) aM bu) bu)) (ac (aa 1 rfl) ao af) bH) ⟨_,_,_,_,_,_,_,_,rfl,M',M.e,M.f,rfl⟩) ?_)
 refine ae (a_ (aN (ag (au (aa 2 rfl) ab rfl rfl) (ag (au (aa 3 rfl) ab rfl rfl) (ag (au (aa 2 rfl) ab rfl rfl) (ag (au (aa 3 rfl) ab rfl rfl) (ag (au (aa 4 rfl) ab rfl rfl) (ag (au (aa 4 rfl) ab rfl rfl) aM bu) bu) bu) bu) bu) bu)) ?_)
 exact rfl
end
section
variable {P:AC}{w:World}{K:Ao}{mg:Str→Option Value}{base:Heap}
def zO (a b c d e f:Int):U:=
 mv ((a*d - b*c) *d) (-(a*d - b*c) *b) (-(a*d - b*c) *c) ((a*d - b*c) *a) (-((a*d - b*c) *d*e+-(a*d - b*c) *b*f)) (-(-(a*d - b*c) *c*e+(a*d - b*c) *a*f))
def qE:List U→Out→Prop:=fun us o=>∃a b c d e f,us=[mv a b c d e f]∧Mv a b c d e f∧o=.val (zO a b c d e f)
theorem mR (T:Txt K mg):bA P w K mg base (CXF P w) 4 T.a_way_back T.d_way_back ["move"] (spU K (qE)):=by
 refine bB T.F_way_back cJ (fun us o h=>?_) (fun cdv A outer s H E O us o hr h=>?_)
 ·obtain ⟨a,b,c,d,e,f,rfl,M,rfl⟩:=h
  rfl
 obtain ⟨a,b,c,d,e,f,rfl,M,rfl⟩:=h
 refine Ws.nox ?_
 obtain ⟨hd,sa,sb,sc,sd,se,sf⟩:=M
 have M:Mv a b c d e f:=⟨hd,sa,sb,sc,sd,se,sf⟩
 have sh:Sz 8 (a*d - b*c):=by rcases hd with h |h <;>rw[h] <;>decide
 refine ae (kM (ar ((dl T).mono (by decide)) hr rfl T.m_need_move T.F_need_move.kp T.b_need_move ax (ac (aa 0 rfl) ao af) ⟨a,b,c,d,e,f,rfl,M,rfl⟩) ?_)
 refine ae (aA (i:=1) cJ.nd rfl (Or.inl rfl) (ar ((oJ T).mono (by decide)) hr rfl T.m_hand T.F_hand.kp T.b_hand ax (ac (aa 0 rfl) ao af) ⟨a,b,c,d,e,f,rfl,sa,sb,sc,sd,rfl⟩) ?_)
 refine ae (aA (i:=2) cJ.nd rfl (Or.inl rfl) (aQ (aa 1 rfl) (au (aa 0 rfl) ab rfl rfl) (by walk_at "mul")) ?_)
 refine ae (aA (i:=3) cJ.nd rfl (Or.inl rfl) (aQ (bU (aa 1 rfl)) (au (aa 0 rfl) ab rfl rfl) (by walk_at "mul")) ?_)
 refine ae (aA (i:=4) cJ.nd rfl (Or.inl rfl) (aQ (bU (aa 1 rfl)) (au (aa 0 rfl) ab rfl rfl) (by walk_at "mul")) ?_)
 refine ae (aA (i:=5) cJ.nd rfl (Or.inl rfl) (aQ (aa 1 rfl) (au (aa 0 rfl) ab rfl rfl) (by walk_at "mul")) ?_)
 refine ae (a_ (aN (ag (aa 2 rfl) (ag (aa 3 rfl) (ag (aa 4 rfl) (ag (aa 5 rfl) (ag (bU (ce (aQ (aa 2 rfl) (au (aa 0 rfl) ab rfl rfl) (by walk_at "mul")) (aQ (aa 3 rfl) (au (aa 0 rfl) ab rfl rfl) (by walk_at "mul")))) (ag (bU (ce (aQ (aa 4 rfl) (au (aa 0 rfl) ab rfl rfl) (by walk_at "mul")) (aQ (aa 5 rfl) (au (aa 0 rfl) ab rfl rfl) (by walk_at "mul")))) aM dZ) dZ) af) af) af) af)) ?_)
 exact rfl
theorem pW {a b g s t g' s' t':Int} (G:fB a b g s t) (gp:0 < g) (G':fB (a / g) (b / g) g' s' t'):g'=1:=by
 obtain ⟨a',ha⟩:=G.da
 obtain ⟨b',hb⟩:=G.db
 have ea:a / g=a':=by rw[ha,Cy _ (by omega)]
 have eb:b / g=b':=by rw[hb,Cy _ (by omega)]
 rw[ea,eb] at G'
 have e:=G.eq
 have k1:s*a'+t*b'=1:=by
  have:g*(s*a'+t*b')=g*1:=by rw[ha,hb] at e;grind
  exact B4 (by omega) this
 have d:g' ∣ 1:=by rw[←k1];exact EU (B7 G'.da (CU _ _)) (B7 G'.db (CU _ _))
 have:=Jr (by decide) d
 have h0:=G'.g0
 rcases E7 h0 with h |h
 ·omega
 ·rw[←h] at d;exact absurd (Ht.mp d) (by decide)
theorem qq {x0 y0 x1 y1 g s t:Int} (G:fB (x1 - x0) (y1 - y0) g s t) (h:g=0):x0=x1∧y0=y1:=by
 subst h
 have h1:=Ht.mp G.da
 have h2:=Ht.mp G.db
 omega
structure uS (x0 y0 x1 y1:Int):Prop where
 s0:Sz 3000 x0
 t0:Sz 3000 y0
 s1:Sz 3000 x1
 t1:Sz 3000 y1
def og:List U→Out→Prop:=fun us o=>∃x0 y0 x1 y1 g s t:Int,us=[pt x0 y0,pt x1 y1]∧uS x0 y0 x1 y1∧fB (x1 - x0) (y1 - y0) g s t∧o=.val (.int g)
theorem rB (T:Txt K mg):bA P w K mg base (CXF P w) 3 T.a_steps T.d_steps ["P","Q"] (spU K (og)):=by
 refine bB T.F_steps s_ (fun us o h=>?_) (fun cdv A outer s H E O us o hr h=>?_)
 ·obtain ⟨x0,y0,x1,y1,g,s,t,rfl,⟨s0,t0,s1,t1⟩,G,rfl⟩:=h
  rfl
 obtain ⟨x0,y0,x1,y1,g,s,t,rfl,⟨s0,t0,s1,t1⟩,G,rfl⟩:=h
 refine Ws.nox ?_
 refine ae (a_ (au (ar ((jU T).mono (by decide)) hr rfl T.m_shares T.F_shares.kp T.b_shares ax (ac (bo (au (aa 1 rfl) ab rfl rfl) (au (aa 0 rfl) ab rfl rfl)) (ac (bo (au (aa 1 rfl) ab rfl rfl) (au (aa 0 rfl) ab rfl rfl)) ao be) be) ⟨_,_,g,s,t,rfl,by walk_at "szb",by walk_at "szb",G,rfl⟩) ab rfl rfl) ?_)
 exact rfl
def n_:List U→Out→Prop:=fun us o=>∃x0 y0 x1 y1 g a b s t:Int,us=[pt x0 y0,pt x1 y1]∧uS x0 y0 x1 y1∧fB (x1 - x0) (y1 - y0) g a b∧g≠0∧fB ((x1 - x0) / g) ((y1 - y0) / g) 1 s t∧
  o=.val (mv s t (-((y1 - y0) / g)) ((x1 - x0) / g) (-s*x0 - t*y0) ((y1 - y0) / g*x0 - (x1 - x0) / g*y0))
theorem mX (T:Txt K mg):bA P w K mg base (CXF P w) 4 T.a_level T.d_level ["P","Q"] (spU K (n_)):=by
 refine bB T.F_level dD (fun us o h=>?_) (fun cdv A outer s H E O us o hr h=>?_)
 ·obtain ⟨x0,y0,x1,y1,g,a,b,s,t,rfl,two,G,gn,G1,rfl⟩:=h
  rfl
 obtain ⟨x0,y0,x1,y1,g,a,b,s,t,rfl,two,G,gn,G1,rfl⟩:=h
 refine Ws.nox ?_
 have gp:0 < g:=by have:=G.g0;omega
 obtain ⟨s0,t0,s1,t1⟩:=two
 have two:uS x0 y0 x1 y1:=⟨s0,t0,s1,t1⟩
 have sx:Sz 3001 (x1 - x0):=by walk_at "szb"
 have sy:Sz 3001 (y1 - y0):=by walk_at "szb"
 obtain ⟨sg,_,_⟩:=i6 G sx sy
 have su:Sz 3001 ((x1 - x0) / g):=sx.ediv
 have sv:Sz 3001 ((y1 - y0) / g):=sy.ediv
 obtain ⟨_,ss,st⟩:=i6 G1 su sv
 refine ae (aA (i:=2) dD.nd rfl (Or.inl rfl) (ar ((rB T).mono (by decide)) hr rfl T.m_steps T.F_steps.kp T.b_steps ax (ac (aa 0 rfl) (ac (aa 1 rfl) ao af) af) ⟨x0,y0,x1,y1,g,a,b,rfl,two,G,rfl⟩) ?_)
 refine ae (cC (bg cT (aa 2 rfl) ab) (decide_eq_false gn) (bi ?_))
 refine ae (aA (i:=3) dD.nd rfl (Or.inl rfl) (eI (bo (au (aa 1 rfl) ab rfl rfl) (au (aa 0 rfl) ab rfl rfl)) (aa 2 rfl) ⟨gp,sg.mono (by decide)⟩) ?_)
 refine ae (aA (i:=4) dD.nd rfl (Or.inl rfl) (eI (bo (au (aa 1 rfl) ab rfl rfl) (au (aa 0 rfl) ab rfl rfl)) (aa 2 rfl) ⟨gp,sg.mono (by decide)⟩) ?_)
 refine ae (aA (i:=5) dD.nd rfl (Or.inl rfl) (ar ((jU T).mono (by decide)) hr rfl T.m_shares T.F_shares.kp T.b_shares ax (ac (aa 3 rfl) (ac (aa 4 rfl) ao af) af) ⟨_,_,1,s,t,rfl,su.mono (by decide),sv.mono (by decide),G1,rfl⟩) ?_)
 refine ae (aA (i:=6) dD.nd rfl (Or.inl rfl) (au (aa 5 rfl) ab rfl rfl) ?_)
 refine ae (aA (i:=7) dD.nd rfl (Or.inl rfl) (au (aa 5 rfl) ab rfl rfl) ?_)
 refine ae (a_ (aN (ag (aa 6 rfl) (ag (aa 7 rfl) (ag (bU (aa 4 rfl)) (ag (aa 3 rfl) (ag (bo (aQ (bU (aa 6 rfl)) (au (aa 0 rfl) ab rfl rfl) (by walk_at "mul")) (aQ (aa 7 rfl) (au (aa 0 rfl) ab rfl rfl) (by walk_at "mul"))) (ag (bo (aQ (aa 4 rfl) (au (aa 0 rfl) ab rfl rfl) (by walk_at "mul")) (aQ (aa 3 rfl) (au (aa 0 rfl) ab rfl rfl) (by walk_at "mul"))) aM be) be) af) dZ) af) af)) ?_)
 exact rfl
structure LvG (a b:P2) (g u v s t s1 t1:Int):Prop where
 G:fB (b.1 - a.1) (b.2 - a.2) g s1 t1
 gn:g≠0
 hu:u=(b.1 - a.1) / g
 hv:v=(b.2 - a.2) / g
 G1:fB u v 1 s t
theorem sj {a b:P2} (h:a≠b):∃g u v s t s1 t1,LvG a b g u v s t s1 t1:=by
 obtain ⟨g,s1,t1,G⟩:=oG (b.1 - a.1) (b.2 - a.2)
 have gn:g≠0:=fun e=>h (by
  obtain ⟨h1,h2⟩:=qq G e
  exact CZ h1 h2)
 have gp:0 < g:=by have:=G.g0;omega
 obtain ⟨g',s,t,G'⟩:=oG ((b.1 - a.1) / g) ((b.2 - a.2) / g)
 have:=pW G gp G'
 subst this
 exact ⟨g,_,_,s,t,s1,t1,G,gn,rfl,rfl,G'⟩
end
section
variable {P:AC}{w:World}{K:Ao}{mg:Str→Option Value}{base:Heap}
abbrev Pt:=Int×Int
def plt (p q:Pt):Prop:=p.1 < q.1∨(p.1=q.1∧p.2 < q.2)
def aq (a b p:Pt):Int:=(b.1 - a.1) *(p.2 - a.2) - (b.2 - a.2) *(p.1 - a.1)
theorem ck {a b c:Pt} (h1:plt a b) (h2:plt b c):plt a c:=by unfold plt at *;omega
theorem bD (a:Pt):¬ plt a a:=by unfold plt;omega
theorem kz (a b:Pt):plt a b∨a=b∨plt b a:=by
 unfold plt
 by_cases h1:a.1=b.1
 ·by_cases h2:a.2=b.2
  ·exact .inr (.inl (CZ h1 h2))
  ·omega
 ·omega
def lpos (x y:Int):Prop:=0 < x∨(x=0∧0 < y)
theorem bv {a b:Pt} (h:plt a b):lpos (b.1 - a.1) (b.2 - a.2):=by unfold plt lpos at *;omega
theorem fH {u1 u2 v1 v2 w1 w2:Int} (hu:lpos u1 u2) (hv:lpos v1 v2) (hw:lpos w1 w2) (h1:0≤u1*v2 - u2*v1) (h2:0≤v1*w2 - v2*w1):0≤u1*w2 - u2*w1:=by
 unfold lpos at *
 by_cases hv1:v1=0
 ·subst hv1
  have hv2:0 < v2:=by omega
  have hw1:w1=0:=by
   have:v2*w1≤0:=by rw[Et] at h2;omega
   by_cases hz:0 < w1
   ·have:=B8 hv2 hz;omega
   ·omega
  subst hw1
  have hw2:0 < w2:=by omega
  have:=By (show 0≤u1 by omega) (show 0≤w2 by omega)
  simp;omega
 ·have hv':0 < v1:=by omega
  have e:v1*(u1*w2 - u2*w1)=u1*(v1*w2 - v2*w1)+w1*(u1*v2 - u2*v1):=by grind
  have p1:=By (show 0≤u1 by omega) h2
  have p2:=By (show 0≤w1 by omega) h1
  have:0≤v1*(u1*w2 - u2*w1):=by omega
  exact Int.nonneg_of_mul_nonneg_right this hv'
theorem jz {u1 u2 v1 v2 w1 w2:Int} (hu:lpos u1 u2) (hv:lpos v1 v2) (hw:lpos w1 w2) (h1:0 < u1*v2 - u2*v1) (h2:0≤v1*w2 - v2*w1):0 < u1*w2 - u2*w1:=by
 unfold lpos at *
 by_cases hv1:v1=0
 ·subst hv1
  have hv2:0 < v2:=by omega
  have hw1:w1=0:=by
   have:v2*w1≤0:=by rw[Et] at h2;omega
   by_cases hz:0 < w1
   ·have:=B8 hv2 hz;omega
   ·omega
  subst hw1
  have hw2:0 < w2:=by omega
  have hu1:0 < u1:=by
   rcases hu with h |⟨h,_⟩
   ·exact h
   ·subst h;simp at h1
  have:=B8 hu1 hw2
  simp;omega
 ·have hv':0 < v1:=by omega
  have e:v1*(u1*w2 - u2*w1)=u1*(v1*w2 - v2*w1)+w1*(u1*v2 - u2*v1):=by grind
  have p1:=By (show 0≤u1 by omega) h2
  by_cases hw1:w1=0
  ·subst hw1
   have hw2:0 < w2:=by omega
   have hu1:0 < u1:=by
    rcases hu with h |⟨h,h'⟩
    ·exact h
    ·subst h
     have:=B8 h' hv'
     simp at h1;omega
   have:=B8 hu1 hw2
   simp;omega
  ·have p2:=B8 (show 0 < w1 by omega) h1
   have:0 < v1*(u1*w2 - u2*w1):=by omega
   exact DX this (by omega)
def kW:List Pt→Prop
 |b::a::r=>plt a b∧kW (a::r)
 |_=>True
def Turns:List Pt→Prop
 |c::b::a::r=>0 < aq a b c∧Turns (b::a::r)
 |_=>True
def gi (done:List Pt):List Pt→Prop
 |b::a::r=>(∀q∈done,0≤aq a b q)∧gi done (a::r)
 |_=>True
theorem Turns.tail:∀{b:Pt}{st:List Pt},Turns (b::st)→Turns st
 |_,[],_=>trivial
 |_,[_],_=>trivial
 |_,_::_::_,h=>h.2
theorem kW.tail:∀{b:Pt}{st:List Pt},kW (b::st)→kW st
 |_,[],_=>trivial
 |_,_::_,h=>h.2
theorem gi.tail {done:List Pt}:∀{b:Pt}{st:List Pt},gi done (b::st)→gi done st
 |_,[],_=>trivial
 |_,_::_,h=>h.2
def bq (P:Pt):List Pt→List Pt
 |b::a::r=>if aq a b P≤0 then bq P (a::r) else b::a::r
 |st=>st
def ak (row:List Pt):List Pt:=row.foldl (fun st P=>P::bq P st) []
structure Kept (done st:List Pt):Prop where
 ne:st≠[]
 desc:kW st
 turns:Turns st
 cover:gi done st
 sub:∀p∈st,p∈done
structure qe (done st:List Pt) (P:Pt):Prop extends Kept done st where
 pend:∀h r,st=h::r→∀q∈done,plt h q→0≤aq h P q
theorem qd {done:List Pt}{P b a:Pt}{r:List Pt} (hP:∀q∈done,plt q P) (D:qe done (b::a::r) P) (h:aq a b P≤0):qe done (a::r) P:=by
 refine ⟨⟨by simp,D.desc.tail,D.turns.tail,D.cover.tail,fun p hp=>D.sub p (Au _ hp)⟩,?_⟩
 intro h' r' e q hq hlt
 cases e
 have hab:=D.desc.1
 have hq':=D.cover.1 q hq
 have hbP:=hP b (D.sub b AE)
 have hqP:=hP q hq
 rcases kz q b with z |z |z
 ·have l1:=bv hlt
  have l2:=bv hab
  have l3:=bv (ck hab hbP)
  have:=fH (u1:=P.1 - a.1) (u2:=P.2 - a.2) (v1:=b.1 - a.1) (v2:=b.2 - a.2) (w1:=q.1 - a.1) (w2:=q.2 - a.2) l3 l2 l1 (by unfold aq at h;grind) (by unfold aq at hq';grind)
  unfold aq;grind
 ·subst z;unfold aq at *;grind
 ·have p:=D.pend b _ rfl q hq z
  unfold aq at *
  grind
theorem mN {done:List Pt}{P:Pt} (hP:∀q∈done,plt q P):∀st:List Pt,qe done st P→qe done (bq P st) P∧(∀b a r,bq P st=b::a::r→0 < aq a b P)∧(st.getLast?=(bq P st).getLast?)
 |[],D=>absurd rfl D.ne
 |[b],D=>⟨D,fun _ _ _ e=>by simp[bq] at e,rfl⟩
 |b::a::r,D=>by
  by_cases h:aq a b P≤0
  ·rw[bq,if_pos h]
   obtain ⟨h1,h2,h3⟩:=mN hP (a::r) (qd hP D h)
   exact ⟨h1,h2,by rw[←h3];simp⟩
  ·rw[bq,if_neg h]
   refine ⟨D,fun b' a' r' e=>?_,rfl⟩
   cases e;omega
theorem qH {done st:List Pt}{P:Pt} (hP:∀q∈done,plt q P) (D:qe done st P) (ht:∀b a r,st=b::a::r→0 < aq a b P) (hmin:∀x,st=[x]→∀q∈done,q=x∨plt x q):Kept (done++[P]) (P::st):=by
 have up:∀(b:Pt) (r:List Pt),kW (b::r)→Turns (b::r)→gi done (b::r)→plt b P→(∀a r',r=a::r'→0≤aq a b P)→gi (done++[P]) (b::r):=by
  intro b r
  induction r generalizing b with
  |nil=>intro _ _ _ _ _;trivial
  |cons a r ih=>
   intro hd htn hc hbP hl
   refine ⟨fun q hq=>?_,?_⟩
   ·rcases Cr.mp hq with z |z
    ·exact hc.1 q z
    ·rw[Br.mp z];exact hl a r rfl
   ·refine ih a hd.tail htn.tail hc.tail (ck hd.1 hbP) (fun c r' e=>?_)
    subst e
    have t:=htn.1
    have g:=hl a _ rfl
    have l1:=bv hd.2.1
    have l2:=bv hd.1
    have l3:=bv (ck hd.1 hbP)
    have:=fH (u1:=a.1 - c.1) (u2:=a.2 - c.2) (v1:=b.1 - a.1) (v2:=b.2 - a.2) (w1:=P.1 - a.1) (w2:=P.2 - a.2) l1 l2 l3 (by unfold aq at t;grind) (by unfold aq at g;grind)
    unfold aq;grind
 obtain ⟨h,r,e⟩:∃h r,st=h::r:=by
  cases hst:st with
  |nil=>exact absurd hst D.ne
  |cons h r=>exact ⟨h,r,rfl⟩
 subst e
 have hhP:=hP h (D.sub h AE)
 refine ⟨by simp,⟨hhP,D.desc⟩,?_,⟨fun q hq=>?_,?_⟩,fun p hp=>?_⟩
 ·cases r with
  |nil=>trivial
  |cons a r'=>exact ⟨ht h a r' rfl,D.turns⟩
 ·rcases Cr.mp hq with z |z
  ·rcases kz q h with y |y |y
   ·cases r with
    |nil=>
     rcases hmin h rfl q z with w |w
     ·subst w;exact absurd y (bD _)
     ·exact absurd (ck y w) (bD _)
    |cons a r'=>
     have t:=ht h a r' rfl
     have c:=D.cover.1 q z
     have l1:=bv D.desc.1
     have l2:=bv y
     have l3:=bv hhP
     have:=fH (u1:=h.1 - q.1) (u2:=h.2 - q.2) (v1:=h.1 - a.1) (v2:=h.2 - a.2) (w1:=P.1 - h.1) (w2:=P.2 - h.2) l2 l1 l3 (by unfold aq at c;grind) (by unfold aq at t;grind)
     unfold aq;grind
   ·subst y;unfold aq;grind
   ·exact D.pend h r rfl q z y
  ·rw[Br.mp z];unfold aq;grind
 ·exact up h r D.desc D.turns D.cover hhP (fun a r' e=>Int.le_of_lt (ht h a r' (by rw[e])))
 ·rcases Ay.mp hp with z |z
  ·subst z;exact AI _ AE
  ·exact BK _ (D.sub p z)
theorem jB (row:List Pt) (P:Pt):ak (row++[P])=P::bq P (ak row):=by
 unfold ak;rw[List.foldl_append];rfl
theorem ju {row:List Pt} (hs:row.Pairwise plt):∀n,0 < n→n≤row.length→Kept (row.take n) (ak (row.take n))∧(ak (row.take n)).getLast?=row.head?∧(ak (row.take n)).head?=row[n - 1]?
 |0,h,_=>absurd h (by decide)
 |1,_,h=>by
  cases row with
  |nil=>simp at h
  |cons a r=>
   simp only[GN,GD]
   exact ⟨⟨by simp[ak],trivial,trivial,trivial,fun p hp=>by simpa [ak,bq] using hp⟩,rfl,rfl⟩
 |n+2,_,h=>by
  obtain ⟨K,hl,hh⟩:=ju hs (n+1) (by omega) (by omega)
  have hn:n+1 < row.length:=by omega
  have et:row.take (n+2)=row.take (n+1)++[row[n+1]]:=by rw[List.take_succ_eq_append_getElem hn]
  have hP:∀q∈row.take (n+1),plt q row[n+1]:=fun q hq=>by
   obtain ⟨i,hi,e⟩:=DL.mp hq
   subst e
   exact A8.mp hs i (n+1) (by omega) hn (by omega)
  have D:qe (row.take (n+1)) (ak (row.take (n+1))) row[n+1]:=⟨K,fun h' r e q hq hlt=>by
   exfalso
   rw[e] at hh
   simp only[Io,G8] at hh
   have hn':n < row.length:=by omega
   rw[Am hn'] at hh
   have hh':=Bo hh
   obtain ⟨i,hi,e2⟩:=DL.mp hq
   subst e2
   rw[hh'] at hlt
   rcases Ca i n with z |z
   ·exact bD _ (ck hlt (A8.mp hs i n (by omega) hn' z))
   ·have:i=n:=by omega
    subst this
    exact bD _ hlt⟩
  obtain ⟨D2,ht,hlast⟩:=mN hP _ D
  rw[et,jB]
  refine ⟨qH hP D2 ht (fun x e q hq=>?_),?_,?_⟩
  ·rw[e,hl] at hlast
   simp at hlast
   obtain ⟨i,hi,e2⟩:=DL.mp hq
   have h0:0 < row.length:=by omega
   have e3:row[0]=x:=by
    rw[Dq,Am h0] at hlast
    exact Bo hlast
   subst e2
   rcases E5 i with z |z
   ·subst z;exact .inl e3
   ·right;rw[←e3];exact A8.mp hs 0 i h0 (by omega) z
  ·rw[List.getLast?_cons,←hlast,hl]
   cases row with
   |nil=>simp at hn
   |cons a r=>rfl
  ·simp only[Io,G8]
   rw[show n+2 - 1=n+1 by omega,Am hn]
theorem cu {row:List Pt} (hs:row.Pairwise plt) (h:row≠[]):Kept row (ak row)∧(ak row).getLast?=row.head?∧(ak row).head?=row.getLast?:=by
 have h0:0 < row.length:=DQ.mpr h
 obtain ⟨h1,h2,h3⟩:=ju hs row.length h0 (Aw _)
 rw[Dk] at h1 h2 h3
 exact ⟨h1,h2,by rw[h3,B5]⟩
theorem iP {u1 u2 v1 v2 w1 w2:Int} (hu:lpos u1 u2) (hv:lpos v1 v2) (hw:lpos w1 w2) (h1:0≤u1*v2 - u2*v1) (h2:0 < v1*w2 - v2*w1):0 < u1*w2 - u2*w1:=by
 unfold lpos at *
 by_cases hv1:v1=0
 ·subst hv1
  have hv2:0 < v2:=by omega
  have:=By (show 0≤v2 by omega) (show 0≤w1 by omega)
  simp at h2;omega
 ·have hv':0 < v1:=by omega
  have hu1:0 < u1:=by
   rcases hu with h |⟨h,h'⟩
   ·exact h
   ·subst h
    have:=B8 h' hv'
    simp at h1;omega
  have e:v1*(u1*w2 - u2*w1)=u1*(v1*w2 - v2*w1)+w1*(u1*v2 - u2*v1):=by grind
  have p1:=B8 hu1 h2
  have p2:=By (show 0≤w1 by omega) h1
  have q:0 < v1*(u1*w2 - u2*w1):=by omega
  exact DX q hv'
def low (row:List Pt) (p:Pt):Prop:=∀a∈row,∀b∈row,plt a p→plt p b→0 < aq a p b
theorem wf {row:List Pt}{p:Pt}:∀(st:List Pt) (n:Pt),kW (n::st)→Turns (n::st)→gi row (n::st)→p∈st→(∀l,(n::st).getLast?=some l→plt l p)→
  ∃n' q,0 < aq q p n'∧plt q p∧plt p n'∧(∀x∈row,0≤aq p n' x)∧(∀x∈row,0≤aq q p x)
 |[],n,_,_,_,hp,_=>by simp at hp
 |h::r,n,D,T,C,hp,hl=>by
  by_cases e:h=p
  ·subst e
   cases r with
   |nil=>exact absurd (hl h (by simp)) (bD h)
   |cons q r'=>exact ⟨n,q,T.1,D.2.1,D.1,C.1,C.2.1⟩
  ·have hp':p∈r:=by
    rcases Ay.mp hp with z |z
    ·exact absurd z.symm e
    ·exact z
   exact wf r h D.tail T.tail C.tail hp' (fun l hl'=>hl l (by rw[Dj];exact hl'))
theorem lc {row:List Pt} (hs:row.Pairwise plt) {p:Pt} (hp:p∈ak row):low row p:=by
 intro a ha b hb hap hpb
 have hne:row≠[]:=fun z=>by rw[z] at ha;simp at ha
 obtain ⟨K,hlast,hhead⟩:=cu hs hne
 have mn:∀x∈row,∀m,row.head?=some m→x=m∨plt m x:=fun x hx m hm=>by
  cases row with
  |nil=>simp at hx
  |cons y r=>
   cases hm
   rcases Ay.mp hx with z |z
   ·exact .inl z
   ·exact .inr ((Bk.mp hs).1 x z)
 have mx:∀x∈row,∀m,row.getLast?=some m→x=m∨plt x m:=fun x hx m hm=>by
  obtain ⟨i,hi⟩:=BN.mp hx
  have hil:=(AF.mp hi).1
  rw[B5] at hm
  have hml:=(AF.mp hm).1
  rcases A5 (show i≤row.length - 1 by omega) with z |z
  ·right
   have h1:=A8.mp hs i (row.length - 1) hil hml z
   rw[(AF.mp hi).2,(AF.mp hm).2] at h1
   exact h1
  ·left;rw[z,hm] at hi;exact (Bo hi).symm
 cases hst:ak row with
 |nil=>exact absurd hst K.ne
 |cons n st=>
  rw[hst] at K hlast hhead hp
  have hn:row.getLast?=some n:=by rw[←hhead];rfl
  have hpn:p∈st:=by
   rcases Ay.mp hp with z |z
   ·rcases mx b hb n hn with y |y
    ·rw[y,←z] at hpb;exact absurd hpb (bD p)
    ·rw[z] at hpb;exact absurd (ck hpb y) (bD n)
   ·exact z
  obtain ⟨n',q,t,qp,pn,c1,c2⟩:=wf st n K.desc K.turns K.cover hpn (fun l hl=>by
   rw[hlast] at hl
   rcases mn a ha l hl with y |y
   ·rw[←y];exact hap
   ·exact ck y hap)
  have g1:=c2 a ha
  have g2:=c1 b hb
  unfold aq at *
  have k1:0≤(p.1 - a.1) *(p.2 - q.2) - (p.2 - a.2) *(p.1 - q.1):=by grind
  have k2:0 < (p.1 - q.1) *(n'.2 - p.2) - (p.2 - q.2) *(n'.1 - p.1):=by grind
  have k3:0≤(n'.1 - p.1) *(b.2 - p.2) - (n'.2 - p.2) *(b.1 - p.1):=by grind
  have k4:=jz (bv qp) (bv pn) (bv hpb) k2 k3
  have k5:=iP (bv hap) (bv qp) (bv hpb) k1 k4
  grind
theorem sC {row:List Pt}{p:Pt}:∀(st:List Pt) (h:Pt),kW (h::st)→gi row (h::st)→p∈row→p ∉ h::st→plt p h→(∀l,(h::st).getLast?=some l→plt l p)→∃a∈h::st,∃b∈h::st,plt a p∧plt p b∧0≤aq a b p
 |[],h,_,_,_,_,hp,hl=>absurd (ck hp (hl h (by simp))) (bD p)
 |a::r,h,D,C,hr,hno,hp,hl=>by
  rcases kz p a with z |z |z
  ·obtain ⟨x,hx,y,hy,k⟩:=sC r a D.tail C.tail hr (fun w=>hno (Au _ w)) z (fun l hl'=>hl l (by rw[Dj];exact hl'))
   exact ⟨x,Au _ hx,y,Au _ hy,k⟩
  ·exact absurd (by rw[z];simp) hno
  ·exact ⟨a,by simp,h,by simp,z,hp,C.1 p hr⟩
theorem gap {row:List Pt} (hs:row.Pairwise plt) {p:Pt} (hp:p∈row) (hno:p ∉ ak row):∃a∈ak row,∃b∈ak row,plt a p∧plt p b∧aq a p b≤0:=by
 have hne:row≠[]:=fun z=>by rw[z] at hp;simp at hp
 obtain ⟨K,hlast,hhead⟩:=cu hs hne
 cases hst:ak row with
 |nil=>exact absurd hst K.ne
 |cons n st=>
  rw[hst] at K hlast hhead hno
  have hn:row.getLast?=some n:=by rw[←hhead];rfl
  have pn:plt p n:=by
   obtain ⟨i,hi⟩:=BN.mp hp
   have hil:=(AF.mp hi).1
   rw[B5] at hn
   have hml:=(AF.mp hn).1
   rcases A5 (show i≤row.length - 1 by omega) with z |z
   ·have h1:=A8.mp hs i (row.length - 1) hil hml z
    rw[(AF.mp hi).2,(AF.mp hn).2] at h1
    exact h1
   ·rw[z,hn] at hi;exact absurd (by rw[←Bo hi];simp) hno
  obtain ⟨a,ha,b,hb,k1,k2,k3⟩:=sC st n K.desc K.cover hp hno pn (fun l hl=>by
   have hl':=hl
   rw[hlast] at hl
   cases row with
   |nil=>simp at hp
   |cons y r=>
    cases hl
    rcases Ay.mp hp with z |z
    ·exact absurd (by rw[z];exact DG hl') hno
    ·exact (Bk.mp hs).1 p z)
  refine ⟨a,ha,b,hb,k1,k2,?_⟩
  unfold aq at *
  grind
theorem qS {row row':List Pt} (hs:row.Pairwise plt) (hs':row'.Pairwise plt) (h1:∀p∈row',p∈row) (h2:∀p∈ak row,p∈row') (sub:∀(r:List Pt) (q:Pt),q∈ak r→q∈r) (p:Pt):p∈ak row'↔p∈ak row:=by
 constructor
 ·intro hp
  refine B0 fun hno=>?_
  obtain ⟨a,ha,b,hb,k1,k2,k3⟩:=gap hs (h1 p (sub _ _ hp)) hno
  have:=lc hs' hp a (h2 a ha) b (h2 b hb) k1 k2
  omega
 ·intro hp
  refine B0 fun hno=>?_
  obtain ⟨a,ha,b,hb,k1,k2,k3⟩:=gap hs' (h2 p hp) hno
  have:=lc hs hp a (h1 a (sub _ _ ha)) b (h1 b (sub _ _ hb)) k1 k2
  omega
abbrev Szp (m:Nat) (p:P2):Prop:=Sz m p.1∧Sz m p.2
theorem vY (b:P2) (r:List P2):atI ((b::r).reverse.map pu) (-1)=some (pu b):=by
 have h:ixN ((b::r).reverse.map pu).length (-1)=some r.length:=by
  unfold ixN
  simp
  omega
 unfold atI
 rw[h]
 simp
theorem wo (b a:P2) (r:List P2):atI ((b::a::r).reverse.map pu) (-2)=some (pu a):=by
 have h:ixN ((b::a::r).reverse.map pu).length (-2)=some r.length:=by
  unfold ixN
  simp
  omega
 unfold atI
 rw[h]
 simp
theorem iZ (P:P2):∀st:List P2,(bq P st).length≤st.length
 |[]=>Aw _
 |[_]=>Aw _
 |b::a::r=>by
  unfold bq
  split
  ·have:=iZ P (a::r);simp only[A9] at *;omega
  ·exact Aw _
theorem oO (P:P2):∀(st:List P2) (q:P2),q∈bq P st→q∈st
 |[],_,h=>h
 |[_],_,h=>h
 |b::a::r,q,h=>by
  unfold bq at h
  split at h
  ·exact Au _ (oO P (a::r) q h)
  ·exact h
theorem e8 {row:List P2}{i:Nat}{P:P2} (h:row[i]?=some P):ak (row.take (i+1))=P::bq P (ak (row.take i)):=by
 rw[DI,h];exact jB _ _
theorem fQ (row:List P2):∀i,(ak (row.take i)).length≤i
 |0=>by simp[ak]
 |i+1=>by
  have ih:=fQ row i
  cases h:row[i]? with
  |none=>rw[DI,h];simp;omega
  |some P=>
   rw[e8 h]
   have:=iZ P (ak (row.take i))
   simp only[A9];omega
theorem eH (row:List P2):∀i q,q∈ak (row.take i)→q∈row
 |0,q,h=>by simp[ak] at h
 |i+1,q,h=>by
  cases hi:row[i]? with
  |none=>rw[DI,hi] at h;exact eH row i q (by simpa using h)
  |some P=>
   rw[e8 hi] at h
   rcases Ay.mp h with e |e
   ·rw[e];exact AW hi
   ·exact eH row i q (oO P _ q e)
theorem sM (n:Int):decide (sgn n < 1)=decide (n≤0):=by
 have h:sgn n < 1↔n≤0:=by
  unfold sgn
  split
  ·omega
  ·split <;>omega
 exact decide_eq_decide.mpr h
theorem gH (l:List P2):gD (l.map pu) none (some (-1))=l.dropLast.map pu:=by
 unfold gD HT.sIx
 rw[Fs,List.dropLast_eq_take]
 simp
 try omega
def aj (pts:List P2):List P2:=if (ST.srt pts).length=1 then ST.srt pts else (ak (ST.srt pts)).reverse.dropLast++(ak (ST.srt pts).reverse).reverse.dropLast
theorem kH (a b:Pt):plt a b↔ST.ltP a b=true:=by unfold plt ST.ltP;simp
theorem h9 {l:List Pt}:ST.Asc l↔l.Pairwise plt:=⟨fun h=>h.imp fun {a b} k=>(kH a b).mpr k,fun h=>h.imp fun {a b} k=>(kH a b).mp k⟩
theorem kh:∀{st:List Pt},kW st→st.Pairwise (fun x y=>plt y x)
 |[],_=>DB
 |[_],_=>by simp
 |b::a::r,h=>by
  have ih:=kh h.2
  refine Bk.mpr ⟨fun x hx=>?_,ih⟩
  rcases Ay.mp hx with z |z
  ·rw[z];exact h.1
  ·exact ck ((Bk.mp ih).1 x z) h.1
theorem cg (row:List Pt) (q:Pt) (h:q∈ak row):q∈row:=by
 have:=eH row row.length q
 rw[Dk] at this
 exact this h
theorem du {row:List Pt} (hs:row.Pairwise plt):ST.Asc (ak row).reverse:=by
 by_cases hne:row=[]
 ·subst hne;exact DB
 ·exact h9.mpr (Ew.mpr (kh (cu hs hne).1.desc))
theorem lx {row row':List Pt} (hs:row.Pairwise plt) (hs':row'.Pairwise plt) (h1:∀p∈row',p∈row) (h2:∀p∈ak row,p∈row'):ak row'=ak row:=by
 have e:=ST.asc_one (du hs') (du hs) fun z=>by
  rw[AM,AM]
  exact qS hs hs' h1 h2 cg z
 exact List.reverse_inj.mp e
def ng (p:Pt):Pt:=(-p.1,-p.2)
theorem f_ (p:Pt):ng (ng p)=p:=by unfold ng;simp
theorem xI (l:List Pt):(l.map ng).map ng=l:=by
 rw[Bp,show ng ∘ ng=id from funext f_,List.map_id]
theorem i9 (a b c:Pt):aq (ng a) (ng b) (ng c)=aq a b c:=by unfold aq ng;grind
theorem jr {a b:Pt} (h:plt a b):plt (ng b) (ng a):=by unfold plt ng at *;simp;omega
theorem rW (P:Pt):∀st:List Pt,bq (ng P) (st.map ng)=(bq P st).map ng
 |[]=>rfl
 |[_]=>rfl
 |b::a::r=>by
  show bq (ng P) (ng b::ng a::r.map ng)=_
  unfold bq
  rw[i9]
  split
  ·exact rW P (a::r)
  ·rfl
theorem fh:∀row:List Pt,ak (row.map ng)=(ak row).map ng:=fun row=>by
 have key:∀(l:List Pt) (st:List Pt),(l.map ng).foldl (fun st P=>P::bq P st) (st.map ng)=(l.foldl (fun st P=>P::bq P st) st).map ng:=by
  intro l
  induction l with
  |nil=>intro st;rfl
  |cons p r ih=>
   intro st
   rw[BE,D7,D7,rW]
   exact ih (p::bq p st)
 exact key row []
theorem cO {row:List Pt} (hs:row.Pairwise plt):(row.reverse.map ng).Pairwise plt:=by
 rw[BJ,Ew]
 exact hs.imp fun {a b} h=>jr h
theorem bM (row:List Pt):ak row.reverse=(ak (row.reverse.map ng)).map ng:=by rw[fh,xI]
theorem lu {row row':List Pt} (hs:row.Pairwise plt) (hs':row'.Pairwise plt) (h1:∀p∈row',p∈row) (h2:∀p∈ak row.reverse,p∈row'):ak row'.reverse=ak row.reverse:=by
 rw[bM row,bM row']
 congr 1
 refine lx (cO hs) (cO hs') (fun p hp=>?_) (fun p hp=>?_)
 ·obtain ⟨q,hq,rfl⟩:=Az.mp hp
  exact Az.mpr ⟨q,AM.mpr (h1 q (AM.mp hq)),rfl⟩
 ·rw[fh] at hp
  obtain ⟨q,hq,rfl⟩:=Az.mp hp
  exact Az.mpr ⟨q,AM.mpr (h2 q hq),rfl⟩
theorem tJ {row:List Pt} (hs:row.Pairwise plt) (h2:2≤row.length):∃mn mx t1 t2,ak row=mx::t1∧ak row.reverse=mn::t2∧mn∈t1∧mx∈t2∧(∀p∈row,p=mn∨plt mn p)∧(∀p∈row,p=mx∨plt p mx)∧mn∈row∧mx∈row:=by
 have hne:row≠[]:=fun z=>by rw[z] at h2;simp at h2
 obtain ⟨K,hl,hh⟩:=cu hs hne
 have hneR:row.reverse.map ng≠[]:=by simpa using hne
 obtain ⟨KR,hlR,hhR⟩:=cu (cO hs) hneR
 have e1:row.head?=some row[0]:=by rw[Dq];exact Am (by omega)
 have e2:row.getLast?=some row[row.length - 1]:=by rw[B5];exact Am (by omega)
 have l01:plt row[0] row[row.length - 1]:=A8.mp hs 0 (row.length - 1) (by omega) (by omega) (by omega)
 have mnA:∀p∈row,p=row[0]∨plt row[0] p:=fun p hp=>by
  obtain ⟨i,hi,rfl⟩:=DH.mp hp
  rcases E5 i with z |z
  ·left;subst z;rfl
  ·right;exact A8.mp hs 0 i (by omega) hi z
 have mxA:∀p∈row,p=row[row.length - 1]∨plt p row[row.length - 1]:=fun p hp=>by
  obtain ⟨i,hi,rfl⟩:=DH.mp hp
  rcases A5 (show i≤row.length - 1 by omega) with z |z
  ·right;exact A8.mp hs i (row.length - 1) hi (by omega) z
  ·left;subst z;rfl
 have ne:row[0]≠row[row.length - 1]:=fun z=>by rw[z] at l01;exact bD _ l01
 generalize row[0]=mn at *
 generalize row[row.length - 1]=mx at *
 have mmn:mn∈row:=List.mem_of_head? e1
 have mmx:mx∈row:=DG e2
 rw[e1] at hl
 rw[e2] at hh
 have hlR':(ak row.reverse).getLast?=some mx:=by
  rw[bM,Eg,hlR,Ff,G9,e2];simp[f_]
 have hhR':(ak row.reverse).head?=some mn:=by
  rw[bM,Ff,hhR,Eg,Ex,e1];simp[f_]
 cases hb:ak row with
 |nil=>rw[hb] at hh;cases hh
 |cons x t1=>
  rw[hb] at hh hl
  cases hh
  cases hbR:ak row.reverse with
  |nil=>rw[hbR] at hhR';cases hhR'
  |cons y t2=>
   rw[hbR] at hhR' hlR'
   cases hhR'
   refine ⟨_,_,t1,t2,rfl,rfl,?_,?_,mnA,mxA,mmn,mmx⟩
   ·cases t1 with
    |nil=>simp at hl;exact absurd hl.symm ne
    |cons z r=>rw[Dj] at hl;exact DG hl
   ·cases t2 with
    |nil=>simp at hlR';exact absurd hlR' ne
    |cons z r=>rw[Dj] at hlR';exact DG hlR'
theorem uj (st:List Pt):st.reverse.dropLast=st.tail.reverse:=by
 cases st with
 |nil=>rfl
 |cons h t=>simp
theorem fM {l:List Pt}:l.reverse.Nodup↔l.Nodup:=by
 unfold List.Nodup
 rw[Ew]
 exact ⟨fun h=>h.imp fun k=>Ne.symm k,fun h=>h.imp fun k=>Ne.symm k⟩
theorem iF:∀{l m:List Pt},l.Nodup→(∀x∈l,x∈m)→l.length≤m.length
 |[],_,_,_=>Bh _
 |x::l,m,h,hs=>by
  obtain ⟨h1,h2⟩:=Ct.mp h
  have hx:x∈m:=hs x AE
  have ih:=iF (m:=m.erase x) h2 fun y hy=>(ED (fun e=>h1 (by rw[←e];exact hy))).mpr (hs y (Au _ hy))
  rw[DY hx] at ih
  have:=CQ hx
  simp only[A9];omega
theorem dL (pts:List Pt):(ST.srt pts).Pairwise plt:=h9.mp (ST.srt_asc pts)
theorem fe {pts:List Pt} (h:2≤(ST.srt pts).length):aj pts=(ak (ST.srt pts)).tail.reverse++(ak (ST.srt pts).reverse).tail.reverse:=by
 unfold aj;rw[if_neg (by omega),uj,uj]
theorem pz {pts:List Pt} (h:pts≠[]):aj pts≠[]:=by
 have hs:ST.srt pts≠[]:=fun z=>by
  obtain ⟨p,r,rfl⟩:=List.exists_cons_of_ne_nil h
  have:=(ST.srt_mem p (p::r)).mpr AE
  rw[z] at this;simp at this
 by_cases h1:(ST.srt pts).length=1
 ·unfold aj;rw[if_pos h1];exact hs
 ·have h2:2≤(ST.srt pts).length:=by have:=DQ.mpr hs;omega
  obtain ⟨mn,mx,t1,t2,e1,e2,m1,m2,_⟩:=tJ (dL pts) h2
  rw[fe h2,e1,e2]
  intro z
  have:t1.reverse=[]:=(List.append_eq_nil_iff.mp z).1
  rw[List.reverse_eq_nil_iff.mp this] at m1
  simp at m1
theorem bS (pts:List Pt):(aj pts).Nodup:=by
 have nd:∀{l:List Pt},l.Pairwise plt→l.Nodup:=fun h=>h.imp fun {a b} k e=>by rw[e] at k;exact bD b k
 by_cases h2:2≤(ST.srt pts).length
 ·have hs:=dL pts
  obtain ⟨mn,mx,t1,t2,e1,e2,m1,m2,hmn,hmx,i1,i2⟩:=tJ hs h2
  have n1:(mx::t1).Nodup:=by rw[←e1];exact fM.mp (nd (h9.mp (du hs)))
  have n2:(mn::t2).Nodup:=by
   rw[←e2,bM]
   have:=fM.mp (nd (h9.mp (du (cO hs))))
   refine BJ.mpr (this.imp fun {a b} hab e=>hab ?_)
   rw[←f_ a,e,f_]
  obtain ⟨x1,y1⟩:=Ct.mp n1
  obtain ⟨x2,y2⟩:=Ct.mp n2
  rw[fe h2,e1,e2,C6,C6,Fq]
  refine ⟨fM.mpr y1,fM.mpr y2,fun p hp q hq=>?_⟩
  rintro rfl
  have p1:p∈t1:=AM.mp hp
  have p2:p∈t2:=AM.mp hq
  have b1:p∈ak (ST.srt pts):=by rw[e1];exact Au _ p1
  have b2:p∈ak (ST.srt pts).reverse:=by rw[e2];exact Au _ p2
  have pr:=cg _ _ b1
  have l1:plt mn p:=(hmn p pr).resolve_left fun e=>x2 (by rw[←e];exact p2)
  have l2:plt p mx:=(hmx p pr).resolve_left fun e=>x1 (by rw[←e];exact p1)
  have d1:=lc hs b1 mn i1 mx i2 l1 l2
  have b3:ng p∈ak ((ST.srt pts).reverse.map ng):=by rw[fh];exact Az.mpr ⟨p,b2,rfl⟩
  have d2:=lc (cO hs) b3 (ng mx) (Az.mpr ⟨mx,AM.mpr i2,rfl⟩) (ng mn) (Az.mpr ⟨mn,AM.mpr i1,rfl⟩) (jr l2) (jr l1)
  rw[i9] at d2
  unfold aq at d1 d2
  grind
 ·unfold aj
  split
  ·exact nd (dL pts)
  ·have e:ST.srt pts=[]:=Cb.mp (by omega)
   rw[e];exact List.nodup_nil
theorem cf (pts:List Pt):∀p∈aj pts,p∈pts:=fun p hp=>by
 unfold aj at hp
 split at hp
 ·exact (ST.srt_mem p pts).mp hp
 ·rcases Cr.mp hp with h |h
  ·exact (ST.srt_mem p pts).mp (cg _ _ (AM.mp (Gz _ h)))
  ·exact (ST.srt_mem p pts).mp (AM.mp (cg _ _ (AM.mp (Gz _ h))))
theorem dw (pts:List Pt):aj (aj pts)=aj pts:=by
 by_cases h2:2≤(ST.srt pts).length
 ·have hs:=dL pts
  obtain ⟨mn,mx,t1,t2,e1,e2,m1,m2,hmn,hmx,i1,i2⟩:=tJ hs h2
  have ec:=fe h2
  have mem1:∀p∈ak (ST.srt pts),p∈aj pts:=fun p hp=>by
   rw[ec,e1,e2,C6,C6]
   rw[e1] at hp
   rcases Ay.mp hp with z |z
   ·rw[z];exact AI _ (AM.mpr m2)
   ·exact BK _ (AM.mpr z)
  have mem2:∀p∈ak (ST.srt pts).reverse,p∈aj pts:=fun p hp=>by
   rw[ec,e1,e2,C6,C6]
   rw[e2] at hp
   rcases Ay.mp hp with z |z
   ·rw[z];exact BK _ (AM.mpr m1)
   ·exact AI _ (AM.mpr z)
  have hs':=dL (aj pts)
  have sub:∀p∈ST.srt (aj pts),p∈ST.srt pts:=fun p hp=>(ST.srt_mem p pts).mpr (cf pts p ((ST.srt_mem p _).mp hp))
  have q1:=lx hs hs' sub fun p hp=>(ST.srt_mem p _).mpr (mem1 p hp)
  have q2:=lu hs hs' sub fun p hp=>(ST.srt_mem p _).mpr (mem2 p hp)
  have len:2≤(ST.srt (aj pts)).length:=by
   have a1:mn∈ST.srt (aj pts):=(ST.srt_mem _ _).mpr (mem1 mn (by rw[e1];exact Au _ m1))
   have a2:mx∈ST.srt (aj pts):=(ST.srt_mem _ _).mpr (mem1 mx (by rw[e1];exact AE))
   have ne:mn≠mx:=fun z=>by
    have nd:=bS pts
    rw[ec,e1,e2,C6,C6,Fq] at nd
    exact nd.2.2 mn (AM.mpr m1) mx (AM.mpr m2) z
   have:=iF (l:=[mn,mx]) (m:=ST.srt (aj pts)) (by simp[ne]) (fun x hx=>by
    rcases Ay.mp hx with z |z
    ·rw[z];exact a1
    ·rw[Br.mp z];exact a2)
   exact this
  rw[fe len,q1,q2,←ec]
 ·have e:aj pts=ST.srt pts:=by
   unfold aj
   split
   ·rfl
   ·have e:ST.srt pts=[]:=Cb.mp (by omega)
    rw[e];rfl
  rw[e]
  have e3:ST.srt (ST.srt pts)=ST.srt pts:=ST.asc_srt (ST.srt_asc pts)
  unfold aj
  rw[e3]
  split
  ·rfl
  ·have e:ST.srt pts=[]:=Cb.mp (by omega)
   rw[e];rfl
end
section
variable {P:AC}{w:World}{K:Ao}{mg:Str→Option Value}{base:Heap}
def p8:List U→Out→Prop:=fun us o=>∃P Q R:P2,us=[pu P,pu Q,pu R]∧Szp 5000 P∧Szp 5000 Q∧Szp 5000 R∧o=.val (.int (sgn (aq P Q R)))
theorem ux (T:Txt K mg):bA P w K mg base (CXF P w) 2 T.a_turn T.d_turn ["P","Q","R"] (spU K (p8)):=by
 refine bB T.F_turn uD (fun us o h=>?_) (fun cdv A outer s H E O us o hr h=>?_)
 ·obtain ⟨P,Q,R,rfl,⟨p1,p2⟩,⟨q1,q2⟩,⟨r1,r2⟩,rfl⟩:=h
  rfl
 obtain ⟨P,Q,R,rfl,⟨p1,p2⟩,⟨q1,q2⟩,⟨r1,r2⟩,rfl⟩:=h
 refine Ws.nox ?_
 refine ae (a_ (ar ((pA T).mono (by decide)) hr rfl T.m_sign T.F_sign.kp T.b_sign ax (ac (bo (aQ (bo (au (aa 1 rfl) ab rfl rfl) (au (aa 0 rfl) ab rfl rfl)) (bo (au (aa 2 rfl) ab rfl rfl) (au (aa 0 rfl) ab rfl rfl)) (by walk_at "mul")) (aQ (bo (au (aa 1 rfl) ab rfl rfl) (au (aa 0 rfl) ab rfl rfl)) (bo (au (aa 2 rfl) ab rfl rfl) (au (aa 0 rfl) ab rfl rfl)) (by walk_at "mul"))) ao be) ⟨_,rfl,rfl⟩) ?_)
 exact rfl
def oA:List U→Out→Prop:=fun us o=>∃row:List P2,us=[lp row]∧(∀p∈row,Szp 5000 p)∧row.length≤900∧o=.new ((ak row).reverse.map pu)
theorem gh (T:Txt K mg):bA P w K mg base (CXF P w) 3 T.a_left_bends T.d_left_bends ["row"] (spU K (oA)):=by
 refine bB T.F_left_bends d7 (fun us o h=>?_) (fun cdv A outer s H E O us o hr h=>?_)
 ·obtain ⟨row,rfl,sz,hl,rfl⟩:=h
  rfl
 obtain ⟨row,rfl,sz,hl,rfl⟩:=h
 refine Ws.nox ?_
 refine ae (ml (i:=1) d7.nd rfl (Or.inl rfl) (dX aM) ?_)
 refine ae (gF (fun st:List P2=>[some (.val (lp row)),some (.own (st.reverse.map pu)),none]) (fun i st=>st=ak (row.take i)) rfl PassesOwn.never (dB (aa 0 rfl) (.inl rfl)) ?h0 ?hs ?hd)
 case h0=>exact ⟨[],rfl,rfl,rfl,trivial⟩
 case hs=>
  rintro H0 i x _ hx rfl
  obtain ⟨P,hP,mP,rfl⟩:=v7 hx
  have hi:i < row.length:=aP hP
  have sP:=sz P mP
  refine ⟨_,(gN (i:=2) d7.nd rfl (Or.inl rfl)),?_⟩
  have len0:=fQ row i
  refine kX (fun ps=>SubP [some (.val (lp row)),some (.own ((bq P (ak (row.take i))).reverse.map pu)),some (.val (pu P))] ps) (hU (fun s2:List P2=>[some (.val (lp row)),some (.own (s2.reverse.map pu)),some (.val (pu P))]) (fun m s2=>m=s2.length∧bq P s2=bq P (ak (row.take i))∧(∀p∈s2,p∈row)∧s2.length≤i) PassesOwn.never ?h0 ?hs) ?hj
  case h0=>exact ⟨_,_,⟨rfl,rfl,fun q hq=>eH row i q hq,len0⟩,rfl,rfl,rfl,trivial⟩
  case hs=>
   rintro m s2 ⟨rfl,e2,sub,len2⟩
   match s2,e2,sub,len2 with
   |[],e2,sub,len2=>
    refine ⟨false,?_,fun h=>(nomatch h),fun h ps hps=>e2 ▸ hps⟩
    exact (Tw.t (jg (bg mU (gM 1 rfl rfl T.z_len) ab) rfl))
   |[b],e2,sub,len2=>
    refine ⟨false,?_,fun h=>(nomatch h),fun h ps hps=>e2 ▸ hps⟩
    exact (Tw.t (jg (bg mU (gM 1 rfl rfl T.z_len) ab) rfl))
   |b::a::r,e2,sub,len2=>
    have sa:=sz a (sub a (by simp))
    have sb:=sz b (sub b (by simp))
    have e1:decide ((1:Int) < ((((b::a::r).reverse.map pu).length:Nat):Int))=true:=decide_eq_true (by simp;omega)
    refine ⟨decide ((1:Int) < ((((b::a::r).reverse.map pu).length:Nat):Int)) && decide (sgn (aq a b P) < 1),?_,fun h=>?_,fun h ps hps=>?_⟩
    ·exact (Tw.t (mV (bg mU (gM 1 rfl rfl T.z_len) ab) (fun hz=>(kB (bg pV (ar ((ux T).mono (by decide)) hr rfl T.m_turn T.F_turn.kp T.b_turn ax (ac (pB 1 rfl (bU ab) (wo b a r)) (ac (pB 1 rfl (bU ab) (vY b (a::r))) (ac (aa 2 rfl) ao af) bu) bu) ⟨a,b,P,rfl,sa,sb,sP,rfl⟩) ab)))))
    ·rw[e1,EH,sM] at h
     have hd:=dTb h
     refine ae (vR 1 rfl (by simp) (bi ?_))
     refine ⟨_,a::r,?_,⟨rfl,?_,fun q hq=>sub q (Au _ hq),?_⟩,rfl,?_,rfl,trivial⟩
     ·simp
     ·rw[←e2];conv=>rhs;unfold bq
      rw[if_pos hd]
     ·simp only[A9] at *;omega
     ·exact congrArg (fun l=>some (Sl.own l)) (by simp)
    ·rw[e1,EH,sM] at h
     have hd:=dFb h
     have e3:bq P (b::a::r)=b::a::r:=by conv=>lhs;unfold bq
                                        rw[if_neg hd]
     rw[←e2,e3]
     exact hps
  case hj=>
   intro ps hps
   refine eT ?_ hps
   have e4:=e8 hP
   have len3:=iZ P (ak (row.take i))
   refine ae (fG 1 rfl (aa 2 rfl) (by rw[Aq,Bm];exact bC (by omega)) (bi ?_))
   refine ⟨_,rfl,rfl,?_,trivial⟩
   exact congrArg (fun l=>some (Sl.own l)) (by rw[e4];simp)
 case hd=>
  rintro st ps hst hps
  refine eT ?_ hps
  refine ae (tq 1 rfl ?_)
  rw[hst]
  simp
theorem nK {l m:List Pt} (h:ST.srt l=ST.srt m):aj l=aj m:=by unfold aj;rw[h]
theorem iC {l m:List Pt} (h:∀z,z∈l↔z∈m):ST.srt l=ST.srt m:=ST.asc_one (ST.srt_asc l) (ST.srt_asc m) fun z=>by rw[ST.srt_mem,ST.srt_mem];exact h z
theorem jt {pts:List Pt} (h:¬ 2≤(ST.srt pts).length):aj pts=ST.srt pts:=by
 unfold aj
 split
 ·rfl
 ·have e:ST.srt pts=[]:=Cb.mp (by omega)
  rw[e];rfl
section
variable {f:Pt→Pt}
theorem uO (hf:∀a b,plt a b→plt (f a) (f b)) (l:List Pt):ST.srt (l.map f)=(ST.srt l).map f:=by
 refine ST.asc_one (ST.srt_asc _) (h9.mpr (BJ.mpr ((dL l).imp fun {a b} h=>hf a b h))) fun z=>?_
 rw[ST.srt_mem,Az,Az]
 exact ⟨fun ⟨x,hx,e⟩=>⟨x,(ST.srt_mem x l).mpr hx,e⟩,fun ⟨x,hx,e⟩=>⟨x,(ST.srt_mem x l).mp hx,e⟩⟩
theorem o5 (hd:∀a b c,aq (f a) (f b) (f c)≤0↔aq a b c≤0) (P:Pt):∀st:List Pt,bq (f P) (st.map f)=(bq P st).map f
 |[]=>rfl
 |[_]=>rfl
 |b::a::r=>by
  show bq (f P) (f b::f a::r.map f)=_
  unfold bq
  by_cases h:aq a b P≤0
  ·rw[if_pos h,if_pos ((hd a b P).mpr h)];exact o5 hd P (a::r)
  ·rw[if_neg h,if_neg fun z=>h ((hd a b P).mp z)];rfl
theorem jW (hd:∀a b c,aq (f a) (f b) (f c)≤0↔aq a b c≤0) (row:List Pt):ak (row.map f)=(ak row).map f:=by
 have key:∀(l:List Pt) (st:List Pt),(l.map f).foldl (fun st P=>P::bq P st) (st.map f)=(l.foldl (fun st P=>P::bq P st) st).map f:=by
  intro l
  induction l with
  |nil=>intro st;rfl
  |cons p r ih=>
   intro st
   rw[BE,D7,D7,o5 hd]
   exact ih (p::bq p st)
 exact key row []
theorem uh (hf:∀a b,plt a b→plt (f a) (f b)) (hd:∀a b c,aq (f a) (f b) (f c)≤0↔aq a b c≤0) (l:List Pt):aj (l.map f)=(aj l).map f:=by
 unfold aj
 rw[uO hf,Aq,←Ci,jW hd,jW hd]
 split
 ·rfl
 ·rw[BO,Fs,Fs,Ci,Ci]
end
theorem mF {done:List Pt}:∀{st:List Pt},gi done st→∀(k:Nat) {a b:Pt},st[k]?=some b→st[k+1]?=some a→∀q∈done,0≤aq a b q
 |[],_,k,_,_,h,_=>by simp at h
 |[_],_,k,_,_,_,h=>by simp at h
 |x::y::r,C,0,a,b,h1,h2=>by
  simp at h1 h2
  subst h1;subst h2
  exact C.1
 |x::y::r,C,k+1,a,b,h1,h2=>mF C.2 k (by simpa using h1) (by simpa using h2)
theorem mJ:∀{st:List Pt},Turns st→∀(k:Nat) {a b c:Pt},st[k]?=some c→st[k+1]?=some b→st[k+2]?=some a→0 < aq a b c
 |[],_,k,_,_,_,h,_,_=>by simp at h
 |[_],_,k,_,_,_,_,h,_=>by simp at h
 |[_,_],_,k,_,_,_,_,_,h=>by simp at h
 |x::y::z::r,C,0,a,b,c,h1,h2,h3=>by
  simp at h1 h2 h3
  subst h1;subst h2;subst h3
  exact C.1
 |x::y::z::r,C,k+1,a,b,c,h1,h2,h3=>mJ C.2 k (by simpa using h1) (by simpa using h2) (by simpa using h3)
theorem ur {st:List Pt}{i:Nat}{a b:Pt} (h1:st.reverse[i]?=some a) (h2:st.reverse[i+1]?=some b):∃k,st[k]?=some b∧st[k+1]?=some a:=by
 have l2:i+1 < st.length:=by have:=(AF.mp h2).1;simpa using this
 rw[BQ (by omega)] at h1
 rw[BQ l2] at h2
 exact ⟨st.length - 1 - (i+1),h2,by rw[←h1];congr 1;omega⟩
theorem p7 {st:List Pt}{i:Nat}{a b c:Pt} (h1:st.reverse[i]?=some a) (h2:st.reverse[i+1]?=some b) (h3:st.reverse[i+2]?=some c):∃k,st[k]?=some c∧st[k+1]?=some b∧st[k+2]?=some a:=by
 have l3:i+2 < st.length:=by have:=(AF.mp h3).1;simpa using this
 rw[BQ (by omega)] at h1
 rw[BQ (by omega)] at h2
 rw[BQ l3] at h3
 exact ⟨st.length - 1 - (i+2),h3,by rw[←h2];congr 1;omega,by rw[←h1];congr 1;omega⟩
theorem fj {row:List Pt} (hs:row.Pairwise plt) (h:row≠[]) {i:Nat}{a b:Pt} (h1:(ak row).reverse[i]?=some a) (h2:(ak row).reverse[i+1]?=some b):∀q∈row,0≤aq a b q:=by
 obtain ⟨k,e1,e2⟩:=ur h1 h2
 exact mF (cu hs h).1.cover k e1 e2
theorem gC {row:List Pt} (hs:row.Pairwise plt) (h:row≠[]) {i:Nat}{a b c:Pt} (h1:(ak row).reverse[i]?=some a) (h2:(ak row).reverse[i+1]?=some b) (h3:(ak row).reverse[i+2]?=some c):0 < aq a b c:=by
 obtain ⟨k,e1,e2,e3⟩:=p7 h1 h2 h3
 exact mJ (cu hs h).1.turns k e1 e2 e3
theorem eY {row:List Pt}{i:Nat}{a:Pt} (h1:(ak row.reverse).reverse[i]?=some a):(ak (row.reverse.map ng)).reverse[i]?=some (ng a):=by
 rw[bM,←Ci,Av] at h1
 cases e:(ak (row.reverse.map ng)).reverse[i]? with
 |none=>rw[e] at h1;cases h1
 |some z=>rw[e] at h1;cases h1;rw[f_]
theorem ji {row:List Pt} (hs:row.Pairwise plt) (h:row≠[]) {i:Nat}{a b:Pt} (h1:(ak row.reverse).reverse[i]?=some a) (h2:(ak row.reverse).reverse[i+1]?=some b):∀q∈row,0≤aq a b q:=fun q hq=>by
 have:=fj (cO hs) (by simpa using h) (eY h1) (eY h2) (ng q) (EV (AM.mpr hq))
 rwa [i9] at this
theorem kg {row:List Pt} (hs:row.Pairwise plt) (h:row≠[]) {i:Nat}{a b c:Pt} (h1:(ak row.reverse).reverse[i]?=some a) (h2:(ak row.reverse).reverse[i+1]?=some b) (h3:(ak row.reverse).reverse[i+2]?=some c):0 < aq a b c:=by
 have:=gC (cO hs) (by simpa using h) (eY h1) (eY h2) (eY h3)
 rwa [i9] at this
theorem tG {u1 u2 v1 v2 w1 w2:Int} (hu:lpos u1 u2) (hv:lpos v1 v2) (h0:u1*v2 - u2*v1=0) (h1:u1*w2 - u2*w1≤0) (h2:0≤v1*w2 - v2*w1):u1*w2 - u2*w1=0∧v1*w2 - v2*w1=0:=by
 have e1:v1*(u1*w2 - u2*w1)=u1*(v1*w2 - v2*w1):=by grind
 have e2:v2*(u1*w2 - u2*w1)=u2*(v1*w2 - v2*w1):=by grind
 have fin:∀{s t A B:Int},0 < s→0 < t→s*A=t*B→A≤0→0≤B→A=0∧B=0:=fun {s t A B} hs ht e ha hb=>by
  have k1:s*A≤0:=Int.mul_nonpos_of_nonneg_of_nonpos (by omega) ha
  have k2:0≤t*B:=By (by omega) hb
  have z1:s*A=0:=by omega
  have z2:t*B=0:=by omega
  refine ⟨(Ce.mp z1).resolve_left (by omega),(Ce.mp z2).resolve_left (by omega)⟩
 rcases hu with hu |⟨hu,hu2⟩
 ·rcases hv with hv |⟨hv,hv2⟩
  ·exact fin hv hu e1 h1 h2
  ·rw[hv] at h0
   have:=B8 hu hv2
   omega
 ·rcases hv with hv |⟨hv,hv2⟩
  ·rw[hu] at h0
   have:=B8 hu2 hv
   omega
  ·exact fin hv2 hu2 e2 h1 h2
theorem qr {a m c:Pt} (ha:plt a m) (hc:plt c m) (h:aq a m c=0) {q:Pt} (h1:0≤aq a m q) (h2:0≤aq m c q):aq a m q=0∧aq m c q=0:=by
 have k:=tG (w1:=m.1 - q.1) (w2:=m.2 - q.2) (bv ha) (bv hc) (by unfold aq at h;grind) (by unfold aq at h1;grind) (by unfold aq at h2;grind)
 unfold aq
 exact ⟨by grind,by grind⟩
theorem uv (a b c:Pt):aq a b c=aq b c a:=by unfold aq;grind
theorem zi {row:List Pt} (hs:row.Pairwise plt) (hne:row≠[]) {i:Nat}{a m c:Pt} (h1:(ak row).reverse[i]?=some a) (h2:(ak row).reverse[i+1]?=some m) (hl:(ak row).length=i+2)
  (h3:(ak row.reverse).reverse[0]?=some m) (h4:(ak row.reverse).reverse[1]?=some c) (ha:plt a m) (hc:plt c m) (big:2 < (ak row).length∨2 < (ak row.reverse).length):0 < aq a m c:=by
 have mem:∀{j:Nat}{p:Pt},(ak row).reverse[j]?=some p→p∈row:=fun h=>cg row _ (AM.mp (AW h))
 have memR:∀{j:Nat}{p:Pt},(ak row.reverse).reverse[j]?=some p→p∈row:=fun h=>AM.mp (cg _ _ (AM.mp (AW h)))
 have cv:=fj hs hne h1 h2
 have cb:=ji hs hne h3 h4
 have h0:=cv c (memR h4)
 rcases E7 h0 with z |z
 ·exact z
 ·exfalso
  have flat:∀q∈row,aq a m q=0∧aq m c q=0:=fun q hq=>qr ha hc z.symm (cv q hq) (cb q hq)
  rcases big with b |b
  ·have hi:0 < i:=by omega
   have hx:i - 1 < (ak row).reverse.length:=by simp;omega
   have e:=Am hx
   have t:=gC hs hne e (by rw[Nat.sub_add_cancel hi];exact h1) (by rw[show i - 1+2=i+1 by omega];exact h2)
   rw[uv,(flat _ (mem e)).1] at t
   omega
  ·have hx:2 < (ak row.reverse).reverse.length:=by simpa using b
   have e:=Am hx
   have t:=kg hs hne h3 h4 e
   rw[(flat _ (memR e)).2] at t
   omega
structure yf (row T B:List Pt) (mn mx:Pt):Prop where
 t0:T[0]?=some mn
 t1:T[T.length - 1]?=some mx
 b0:B[0]?=some mx
 b1:B[B.length - 1]?=some mn
 lt:2≤T.length
 lb:2≤B.length
 least:∀p∈row,p=mn∨plt mn p
 most:∀p∈row,p=mx∨plt p mx
theorem v6 {l:List Pt}:l.reverse[0]?=l.getLast?:=by rw[List.getLast?_eq_head?_reverse,Dq]
theorem vU {l:List Pt}:l.reverse[l.reverse.length - 1]?=l.head?:=by rw[←B5,Ex]
theorem Ah {row:List Pt} (hs:row.Pairwise plt) (h2:2≤row.length):∃mn mx,yf row (ak row).reverse (ak row.reverse).reverse mn mx:=by
 have hne:row≠[]:=fun z=>by rw[z] at h2;simp at h2
 obtain ⟨mn,mx,t1,t2,e1,e2,m1,m2,least,most,_,_⟩:=tJ hs h2
 obtain ⟨K,hl,hh⟩:=cu hs hne
 obtain ⟨KR,hlR,hhR⟩:=cu (cO hs) (by simpa using hne)
 have l1:2≤(ak row).length:=by rw[e1];have:=CQ m1;simp;omega
 have l2:2≤(ak row.reverse).length:=by rw[e2];have:=CQ m2;simp;omega
 have hd:row.head?=some row[0]:=by rw[Dq];exact Am (by omega)
 have ld:row.getLast?=some row[row.length - 1]:=by rw[B5];exact Am (by omega)
 have q1:row[0]=mn:=by
  have hb:=hhR
  rw[Eg,Ex,hd] at hb
  have:(ak row.reverse).head?=some row[0]:=by rw[bM,Ff,hb];simp[f_]
  rw[e2] at this
  exact (Bo this).symm
 have q2:row[row.length - 1]=mx:=by
  rw[ld,e1] at hh
  exact (Bo hh).symm
 refine ⟨mn,mx,?_,?_,?_,?_,by simpa using l1,by simpa using l2,least,most⟩
 ·rw[v6,hl,hd,q1]
 ·rw[vU,hh,ld,q2]
 ·rw[v6,bM,Eg,hlR,Ff,G9,ld,q2];simp[f_]
 ·rw[vU,e2];rfl
section
variable {row T B:List Pt}{mn mx:Pt}
theorem fE (W:yf row T B mn mx) {k:Nat} (hk:k≤T.length - 1):(T.dropLast++B.dropLast)[k % (T.dropLast++B.dropLast).length]?=T[k]?:=by
 have h1:=W.lt
 have h2:=W.lb
 have hn:(T.dropLast++B.dropLast).length=T.length - 1+(B.length - 1):=by simp
 rw[hn,A_ (by omega)]
 by_cases h:k < T.length - 1
 ·rw[A7 (by simpa using h),CP,if_pos h]
 ·obtain rfl:k=T.length - 1:=by omega
  rw[A0 (by simp),CA,Nat.sub_self,CP,if_pos (by omega),W.b0,W.t1]
theorem iV (W:yf row T B mn mx) {k:Nat} (h0:T.length - 1≤k) (hk:k≤T.length - 1+(B.length - 1)):(T.dropLast++B.dropLast)[k % (T.dropLast++B.dropLast).length]?=B[k - (T.length - 1)]?:=by
 have h1:=W.lt
 have h2:=W.lb
 have hn:(T.dropLast++B.dropLast).length=T.length - 1+(B.length - 1):=by simp
 by_cases h:k < T.length - 1+(B.length - 1)
 ·rw[hn,A_ h,A0 (by simpa using h0),CA,CP,if_pos (by omega)]
 ·obtain rfl:k=T.length - 1+(B.length - 1):=by omega
  have:=fE W (k:=0) (by omega)
  rw[Nat.zero_mod] at this
  rw[hn,DZ,this,W.t0,show T.length - 1+(B.length - 1) - (T.length - 1)=B.length - 1 by omega,W.b1]
end
theorem dN {l:List Pt}{i:Nat} (h:i < l.length):∃a,l[i]?=some a:=⟨_,Am h⟩
theorem gK {pts:List Pt} (h2:2≤(ST.srt pts).length) {i:Nat} (hi:i < (aj pts).length):∃a b,(aj pts)[i]?=some a∧(aj pts)[(i+1) % (aj pts).length]?=some b∧(∀p∈pts,0≤aq a b p)∧(2 < (aj pts).length→∃c,(aj pts)[(i+2) % (aj pts).length]?=some c∧0 < aq a b c):=by
 have hs:=dL pts
 have hne:ST.srt pts≠[]:=fun z=>by rw[z] at h2;simp at h2
 obtain ⟨mn,mx,W⟩:=Ah hs h2
 have hmem:∀p∈pts,p∈ST.srt pts:=fun p hp=>(ST.srt_mem p pts).mpr hp
 have hc:aj pts=(ak (ST.srt pts)).reverse.dropLast++(ak (ST.srt pts).reverse).reverse.dropLast:=by
  unfold aj;rw[if_neg (by omega)]
 have tc:∀{j:Nat}{a b:Pt},(ak (ST.srt pts)).reverse[j]?=some a→(ak (ST.srt pts)).reverse[j+1]?=some b→∀q∈ST.srt pts,0≤aq a b q:=fun h h'=>fj hs hne h h'
 have tt:∀{j:Nat}{a b c:Pt},(ak (ST.srt pts)).reverse[j]?=some a→(ak (ST.srt pts)).reverse[j+1]?=some b→(ak (ST.srt pts)).reverse[j+2]?=some c→0 < aq a b c:=fun h h' h''=>gC hs hne h h' h''
 have bc:∀{j:Nat}{a b:Pt},(ak (ST.srt pts).reverse).reverse[j]?=some a→(ak (ST.srt pts).reverse).reverse[j+1]?=some b→∀q∈ST.srt pts,0≤aq a b q:=fun h h'=>ji hs hne h h'
 have bt:∀{j:Nat}{a b c:Pt},(ak (ST.srt pts).reverse).reverse[j]?=some a→(ak (ST.srt pts).reverse).reverse[j+1]?=some b→(ak (ST.srt pts).reverse).reverse[j+2]?=some c→0 < aq a b c:=fun h h' h''=>kg hs hne h h' h''
 have memT:∀{j:Nat}{p:Pt},(ak (ST.srt pts)).reverse[j]?=some p→p∈ST.srt pts:=fun h=>cg _ _ (AM.mp (AW h))
 have memB:∀{j:Nat}{p:Pt},(ak (ST.srt pts).reverse).reverse[j]?=some p→p∈ST.srt pts:=fun h=>AM.mp (cg _ _ (AM.mp (AW h)))
 have ndT:(ak (ST.srt pts)).reverse.Nodup:=(du hs).imp fun {a b} h e=>by subst e;exact bD _ ((kH _ _).mpr h)
 have ndB:(ak (ST.srt pts).reverse).reverse.Nodup:=by
  rw[bM,←Ci]
  have ndR:(ak ((ST.srt pts).reverse.map ng)).reverse.Nodup:=(du (cO hs)).imp fun {a b} h e=>by subst e;exact bD _ ((kH _ _).mpr h)
  exact DC _ (fun a b (h:a≠b) e=>h (by have:=congrArg ng e;rwa [f_,f_] at this)) ndR
 have m1:∀{j:Nat}{a m c:Pt},(ak (ST.srt pts)).reverse[j]?=some a→(ak (ST.srt pts)).reverse[j+1]?=some m→(ak (ST.srt pts)).length=j+2→(ak (ST.srt pts).reverse).reverse[0]?=some m→(ak (ST.srt pts).reverse).reverse[1]?=some c→plt a m→plt c m→2 < (ak (ST.srt pts)).length∨2 < (ak (ST.srt pts).reverse).length→0 < aq a m c:=fun a1 a2 a3 a4 a5 a6 a7 a8=>zi hs hne a1 a2 a3 a4 a5 a6 a7 a8
 have m2:∀{j:Nat}{a m c:Pt},(ak (ST.srt pts).reverse).reverse[j]?=some a→(ak (ST.srt pts).reverse).reverse[j+1]?=some m→(ak (ST.srt pts).reverse).length=j+2→(ak (ST.srt pts)).reverse[0]?=some m→(ak (ST.srt pts)).reverse[1]?=some c→plt m a→plt m c→2 < (ak (ST.srt pts)).length∨2 < (ak (ST.srt pts).reverse).length→0 < aq a m c:=fun {j a m c} a1 a2 a3 a4 a5 a6 a7 a8=>by
  have er:((ST.srt pts).reverse.map ng).reverse=(ST.srt pts).map ng:=by rw[←Ci,List.reverse_reverse]
  have fw:∀{k:Nat}{p:Pt},(ak (ST.srt pts)).reverse[k]?=some p→(ak ((ST.srt pts).reverse.map ng).reverse).reverse[k]?=some (ng p):=fun {k p} h=>by
   rw[er,fh,←Ci,Av,h];rfl
  have lb:(ak ((ST.srt pts).reverse.map ng)).length=(ak (ST.srt pts).reverse).length:=by rw[bM,Aq]
  have lt:(ak ((ST.srt pts).reverse.map ng).reverse).length=(ak (ST.srt pts)).length:=by rw[er,fh,Aq]
  have:=zi (cO hs) (by simpa using hne) (eY a1) (eY a2) (by rw[lb];exact a3) (fw a4) (fw a5) (jr a6) (jr a7) (by rw[lb,lt];exact a8.symm)
  rwa [i9] at this
 rw[hc] at hi ⊢
 have lT:(ak (ST.srt pts)).reverse.length=(ak (ST.srt pts)).length:=Bm
 have lB:(ak (ST.srt pts).reverse).reverse.length=(ak (ST.srt pts).reverse).length:=Bm
 generalize (ak (ST.srt pts)).reverse=T at *
 generalize (ak (ST.srt pts).reverse).reverse=B at *
 have h1:=W.lt
 have h3:=W.lb
 have hn:(T.dropLast++B.dropLast).length=T.length - 1+(B.length - 1):=by simp
 have own:∀k,k < (T.dropLast++B.dropLast).length→(T.dropLast++B.dropLast)[k]?=(T.dropLast++B.dropLast)[k % (T.dropLast++B.dropLast).length]?:=fun k hk=>by rw[A_ hk]
 have tne:∀{j k:Nat}{p q:Pt},T[j]?=some p→T[k]?=some q→j≠k→p≠q:=fun {j k p q} a1 a2 a3 e=>a3 ((Eh (aP a1) ndT).mp (by rw[a1,a2,e]))
 have bne:∀{j k:Nat}{p q:Pt},B[j]?=some p→B[k]?=some q→j≠k→p≠q:=fun {j k p q} a1 a2 a3 e=>a3 ((Eh (aP a1) ndB).mp (by rw[a1,a2,e]))
 by_cases c1:i < T.length - 1
 ·obtain ⟨a,ea⟩:=dN (l:=T) (i:=i) (by omega)
  obtain ⟨b,eb⟩:=dN (l:=T) (i:=i+1) (by omega)
  refine ⟨a,b,by rw[own i hi,fE W (by omega)];exact ea,by rw[fE W (by omega)];exact eb,fun p hp=>tc ea eb p (hmem p hp),fun big=>?_⟩
  by_cases c2:i+2≤T.length - 1
  ·obtain ⟨c,ec⟩:=dN (l:=T) (i:=i+2) (by omega)
   exact ⟨c,by rw[fE W c2];exact ec,tt ea eb ec⟩
  ·have e:i+1=T.length - 1:=by omega
   obtain ⟨c,ec⟩:=dN (l:=B) (i:=1) (by omega)
   have emx:b=mx:=by have:=W.t1;rw[←e,eb] at this;exact Bo this
   subst emx
   refine ⟨c,by rw[iV W (by omega) (by omega),show i+2 - (T.length - 1)=1 by omega];exact ec,m1 ea eb (by omega) W.b0 ec ?_ ?_ (by omega)⟩
   ·exact (W.most a (memT ea)).resolve_left (tne ea eb (by omega))
   ·exact (W.most c (memB ec)).resolve_left (bne ec W.b0 (by omega))
 ·obtain ⟨a,ea⟩:=dN (l:=B) (i:=i - (T.length - 1)) (by omega)
  obtain ⟨b,eb⟩:=dN (l:=B) (i:=i - (T.length - 1)+1) (by omega)
  refine ⟨a,b,by rw[own i hi,iV W (by omega) (by omega)];exact ea,by rw[iV W (by omega) (by omega),show i+1 - (T.length - 1)=i - (T.length - 1)+1 by omega];exact eb,fun p hp=>bc ea eb p (hmem p hp),fun big=>?_⟩
  by_cases c2:i+2≤T.length - 1+(B.length - 1)
  ·obtain ⟨c,ec⟩:=dN (l:=B) (i:=i - (T.length - 1)+2) (by omega)
   exact ⟨c,by rw[iV W (by omega) c2,show i+2 - (T.length - 1)=i - (T.length - 1)+2 by omega];exact ec,bt ea eb ec⟩
  ·have e:i - (T.length - 1)+1=B.length - 1:=by omega
   obtain ⟨c,ec⟩:=dN (l:=T) (i:=1) (by omega)
   have emn:b=mn:=by have:=W.b1;rw[←e,eb] at this;exact Bo this
   subst emn
   refine ⟨c,?_,m2 ea eb (by omega) W.t0 ec ?_ ?_ (by omega)⟩
   ·have:=fE W (k:=1) (by omega)
    rw[show (i+2) % (T.dropLast++B.dropLast).length=1 % (T.dropLast++B.dropLast).length by rw[hn,show i+2=1+(T.length - 1+(B.length - 1)) by omega,Ei],this]
    exact ec
   ·exact (W.least a (memB ea)).resolve_left (bne ea eb (by omega))
   ·exact (W.least c (memT ec)).resolve_left (tne ec W.t0 (by omega))
abbrev gp (l:List P2) (i:Nat):P2:=l.getD i (0,0)
theorem fv {l:List P2}{i:Nat} (h:i < l.length):l[i]?=some (gp l i):=by simp[gp,h]
theorem bY {l:List P2}{i:Nat} (h:i < l.length):gp l i∈l:=AW (fv h)
theorem yB (l:List U):gD l (some 1) none=l.drop 1:=by
 unfold gD HT.sIx
 cases l with
 |nil=>simp
 |cons a l=>simp
theorem yo (l:List U):gD l none (some 1)=l.take 1:=by
 unfold gD HT.sIx
 cases l with
 |nil=>simp
 |cons a l=>simp
def nxt (l:List P2) (i:Nat):P2:=gp l ((i+1) % l.length)
def sdl (l:List P2):List (P2×P2):=(Bj l.length).map fun i=>(gp l i,nxt l i)
theorem iT {l:List P2}{s:P2×P2} (h:s∈sdl l):s.1∈l∧s.2∈l:=by
 obtain ⟨i,hi,rfl⟩:=Az.mp h
 have hi':=AV.mp hi
 exact ⟨bY hi',bY (Cf _ (by omega))⟩
def wth (a b:Int) (p:Pt):Int:=a*p.1+b*p.2
theorem wL {a b:Int}{u p v:Pt} (hb:b≤0) (h1:plt u p) (h2:plt p v) (h:aq u p v≤0):wth a b p≤wth a b u∨wth a b p≤wth a b v:=by
 rcases E8 (wth a b u) (wth a b p) with c1 |c1
 ·rcases E8 (wth a b v) (wth a b p) with c2 |c2
  ·exfalso
   have e:(v.1 - p.1) *(wth a b p - wth a b u)+(p.1 - u.1) *(wth a b p - wth a b v)=-((-b) *(-(aq u p v))):=by unfold wth aq;grind
   have n1:0≤(-b) *(-(aq u p v)):=By (by omega) (by omega)
   have d1:0≤p.1 - u.1:=by unfold plt at h1;omega
   have d2:0≤v.1 - p.1:=by unfold plt at h2;omega
   have m1:0≤(v.1 - p.1) *(wth a b p - wth a b u):=By d2 (by omega)
   have m2:0≤(p.1 - u.1) *(wth a b p - wth a b v):=By d1 (by omega)
   rcases E8 0 (p.1 - u.1) with d |d
   ·have:=B8 d (show 0 < wth a b p - wth a b v by omega)
    omega
   ·have ex:u.1=p.1:=by omega
    have ey:u.2 < p.2:=by unfold plt at h1;omega
    have:0≤(-b) *(p.2 - u.2):=By (by omega) (by omega)
    have e2:wth a b p - wth a b u=-((-b) *(p.2 - u.2)):=by unfold wth;rw[ex];grind
    omega
  ·exact .inr c2
 ·exact .inl c1
theorem pq {row:List Pt} (hs:row.Pairwise plt) {a b:Int} (hb:b≤0) {p:Pt} (hp:p∈row):∃c∈ak row,wth a b p≤wth a b c:=by
 by_cases h:p∈ak row
 ·exact ⟨p,h,Ip _⟩
 ·obtain ⟨u,hu,v,hv,k1,k2,k3⟩:=gap hs hp h
  rcases wL (a:=a) hb k1 k2 k3 with e |e
  ·exact ⟨u,hu,e⟩
  ·exact ⟨v,hv,e⟩
theorem xn (a b:Int) (p:Pt):wth (-a) (-b) (ng p)=wth a b p:=by unfold wth ng;grind
theorem uX (a b:Int) (p:Pt):wth a b (ng p)=wth (-a) (-b) p:=by unfold wth ng;grind
theorem sE {row:List Pt} (hs:row.Pairwise plt) {a b:Int} (hb:0≤b) {p:Pt} (hp:p∈row):∃c∈ak row.reverse,wth a b p≤wth a b c:=by
 obtain ⟨c,hc,k⟩:=pq (cO hs) (a:=-a) (b:=-b) (by omega) (p:=ng p) (Az.mpr ⟨p,AM.mpr hp,rfl⟩)
 refine ⟨ng c,by rw[bM];exact Az.mpr ⟨c,hc,rfl⟩,?_⟩
 rw[xn] at k
 rw[uX]
 exact k
theorem jl {pts:List Pt} (a b:Int) {p:Pt} (hp:p∈pts):∃c∈aj pts,wth a b p≤wth a b c:=by
 have hp':p∈ST.srt pts:=(ST.srt_mem p pts).mpr hp
 by_cases h2:2≤(ST.srt pts).length
 ·have hs:=dL pts
  obtain ⟨mn,mx,t1,t2,e1,e2,m1,m2,_⟩:=tJ hs h2
  have big:=fe h2
  rw[e1,e2] at big
  rcases Int.le_total b 0 with hb |hb
  ·obtain ⟨c,hc,k⟩:=pq hs (a:=a) hb hp'
   refine ⟨c,?_,k⟩
   rw[big]
   rw[e1] at hc
   rcases Ay.mp hc with rfl |hc
   ·exact AI _ (AM.mpr m2)
   ·exact BK _ (AM.mpr hc)
  ·obtain ⟨c,hc,k⟩:=sE hs (a:=a) hb hp'
   refine ⟨c,?_,k⟩
   rw[big]
   rw[e2] at hc
   rcases Ay.mp hc with rfl |hc
   ·exact BK _ (AM.mpr m1)
   ·exact AI _ (AM.mpr hc)
 ·exact ⟨p,by rw[jt h2];exact hp',Ip _⟩
theorem yd {l:List P2} (hn:l.Nodup) (h2:2≤l.length):∀s∈sdl l,s.1≠s.2:=fun s hs e=>by
 obtain ⟨i,hi,rfl⟩:=Az.mp hs
 have hi':=AV.mp hi
 have hj:(i+1) % l.length < l.length:=Cf _ (by omega)
 have e':gp l i=gp l ((i+1) % l.length):=e
 have:l[i]?=l[(i+1) % l.length]?:=by rw[fv hi',fv hj,e']
 have:=(Eh hi' hn).mp this
 by_cases hk:i+1 < l.length
 ·rw[A_ hk] at this;omega
 ·have e:i+1=l.length:=by omega
  rw[e,DZ] at this;omega
theorem dz {l:List P2} (h3:3≤(aj l).length):2≤(ST.srt l).length:=by
 rcases Ca (ST.srt l).length 2 with h |h
 ·rw[jt (by omega)] at h3;omega
 ·exact h
theorem lV {l:List P2}{i:Nat} (h:i < l.length):(gp l i,gp l ((i+1) % l.length))∈sdl l:=Az.mpr ⟨i,AV.mpr h,rfl⟩
theorem iN {l:List P2}{i:Nat}{a:P2} (h:l[i]?=some a):gp l i=a:=by simp[gp,h]
theorem tQ {n i:Nat}:((i+1) % n+1) % n=(i+2) % n:=by rw[Ge]
theorem d9 {l:List P2} (h3:3≤(aj l).length) {s:P2×P2} (hs:s∈sdl (aj l)):∀q∈l,0≤aq s.1 s.2 q:=by
 obtain ⟨i,hi,rfl⟩:=Az.mp hs
 obtain ⟨a,b,e1,e2,cov,_⟩:=gK (dz h3) (AV.mp hi)
 show ∀q∈l,0≤aq (gp (aj l) i) (gp (aj l) ((i+1) % (aj l).length)) q
 rw[iN e1,iN e2];exact cov
theorem iY {l:List P2} (h3:3≤(aj l).length) {A B:P2} (hs:(A,B)∈sdl (aj l)):∃C,(B,C)∈sdl (aj l)∧0 < aq A B C:=by
 obtain ⟨i,hi,e⟩:=Az.mp hs
 have hi':=AV.mp hi
 obtain ⟨a,b,e1,e2,_,tu⟩:=gK (dz h3) hi'
 obtain ⟨c,e3,pos⟩:=tu (by omega)
 have ea:A=a:=by rw[←iN e1];exact (congrArg En e).symm
 have eb:B=b:=by rw[←iN e2];exact (congrArg EI e).symm
 refine ⟨c,?_,by rw[ea,eb];exact pos⟩
 have:=lV (l:=aj l) (i:=(i+1) % (aj l).length) (Cf _ (by omega))
 rw[tQ,iN e2,iN e3] at this
 rw[eb];exact this
theorem yM {l:List P2}{A:P2} (h:A∈l):∃B,(A,B)∈sdl l:=by
 obtain ⟨i,hi⟩:=BN.mp h
 have hi':=(AF.mp hi).1
 have:=lV hi'
 rw[iN hi] at this
 exact ⟨_,this⟩
theorem wj {l:List P2}{A:P2} (h:A∈l):∃Z,(Z,A)∈sdl l:=by
 obtain ⟨i,hi⟩:=BN.mp h
 have hi':=(AF.mp hi).1
 have hj:(i+l.length - 1) % l.length < l.length:=Cf _ (by omega)
 have:=lV hj
 have e:((i+l.length - 1) % l.length+1) % l.length=i:=by
  rw[Ge,show i+l.length - 1+1=i+l.length by omega,Ei,A_ hi']
 rw[e,iN hi] at this
 exact ⟨_,this⟩
theorem uq {l:List P2} (hn:l.Nodup) {A B C:P2} (h1:(A,B)∈sdl l) (h2:(A,C)∈sdl l):B=C:=by
 obtain ⟨i,hi,e⟩:=Az.mp h1
 obtain ⟨j,hj,e'⟩:=Az.mp h2
 have hi':=AV.mp hi
 have hj':=AV.mp hj
 have ea:gp l i=gp l j:=(congrArg En e).trans (congrArg En e').symm
 have:i=j:=(Eh hi' hn).mp (by rw[fv hi',fv hj',ea])
 subst this
 exact (congrArg EI e).symm.trans (congrArg EI e')
theorem xR {u1 u2 v1 v2 w1 w2:Int} (hd:0 < u1*v2 - u2*v1) (h1:u1*w2 - u2*w1=0) (h2:v1*w2 - v2*w1=0):w1=0∧w2=0:=by
 have e1:(u1*v2 - u2*v1) *w1=0:=by
  have:(u1*v2 - u2*v1) *w1=v1*(u1*w2 - u2*w1) - u1*(v1*w2 - v2*w1):=by grind
  rw[this,h1,h2];simp
 have e2:(u1*v2 - u2*v1) *w2=0:=by
  have:(u1*v2 - u2*v1) *w2=v2*(u1*w2 - u2*w1) - u2*(v1*w2 - v2*w1):=by grind
  rw[this,h1,h2];simp
 refine ⟨?_,?_⟩
 ·rcases Ce.mp e1 with h |h
  ·omega
  ·exact h
 ·rcases Ce.mp e2 with h |h
  ·omega
  ·exact h
def pZ (l:List P2) (p:P2):Prop:=p∈l∧∃a b:Int,∀q∈l,q≠p→wth a b q < wth a b p
theorem ff {l:List P2}{p:P2} (h:pZ l p):p∈aj l:=by
 obtain ⟨hp,a,b,k⟩:=h
 obtain ⟨c,hc,e⟩:=jl a b hp
 by_cases hcp:c=p
 ·rw[←hcp];exact hc
 ·have:=k c (cf _ c hc) hcp
  omega
theorem dS {l:List P2} (h3:3≤(aj l).length) {p:P2} (hp:p∈aj l):pZ l p:=by
 obtain ⟨Z,hZ⟩:=wj hp
 obtain ⟨B,hB,pos⟩:=iY h3 hZ
 refine ⟨cf _ p hp,B.2 - Z.2,Z.1 - B.1,fun q hq hne=>?_⟩
 have c1:=d9 h3 hZ q hq
 have c2:=d9 h3 hB q hq
 dsimp only at c1 c2
 have e:wth (B.2 - Z.2) (Z.1 - B.1) q - wth (B.2 - Z.2) (Z.1 - B.1) p=-(aq Z p q+aq p B q):=by unfold wth aq;grind
 rcases E7 (GL c1 c2) with h |h
 ·omega
 ·exfalso
  have z1:aq Z p q=0:=by omega
  have z2:aq p B q=0:=by omega
  have:=xR (u1:=p.1 - Z.1) (u2:=p.2 - Z.2) (v1:=B.1 - p.1) (v2:=B.2 - p.2) (w1:=q.1 - p.1) (w2:=q.2 - p.2) (by rw[←(show aq Z p B=(p.1 - Z.1) *(B.2 - p.2) - (p.2 - Z.2) *(B.1 - p.1) by unfold aq;grind)];exact pos) (by rw[←z1];unfold aq;grind) (by rw[←z2];unfold aq;grind)
  exact hne (CZ (by omega) (by omega))
theorem w9 {u1 u2 v1 v2 w1 w2:Int} (h:u1*w2 - u2*w1=0):(u1*v2 - u2*v1) *w1=(w1*v2 - w2*v1) *u1∧(u1*v2 - u2*v1) *w2=(w1*v2 - w2*v1) *u2:=by
 constructor
 ·have:(u1*v2 - u2*v1) *w1 - (w1*v2 - w2*v1) *u1=v1*(u1*w2 - u2*w1):=by grind
  rw[h] at this;simp at this;omega
 ·have:(u1*v2 - u2*v1) *w2 - (w1*v2 - w2*v1) *u2=v2*(u1*w2 - u2*w1):=by grind
  rw[h] at this;simp at this;omega
theorem iw {l:List P2} (h3:3≤(aj l).length) {A B:P2}:(A,B)∈sdl (aj l)↔A∈aj l∧B∈aj l∧A≠B∧∀q∈aj l,0≤aq A B q:=by
 constructor
 ·intro h
  exact ⟨(iT h).1,(iT h).2,yd (bS l) (by omega) _ h,fun q hq=>d9 h3 h q (cf _ q hq)⟩
 ·rintro ⟨hA,hB,hne,cov⟩
  obtain ⟨C,hC⟩:=yM hA
  obtain ⟨Z,hZ⟩:=wj hA
  by_cases hBC:B=C
  ·rw[hBC];exact hC
  ·exfalso
   obtain ⟨D,hD,pD⟩:=iY h3 hC
   obtain ⟨C',hC',pC⟩:=iY h3 hZ
   have:C'=C:=uq (bS l) hC' hC
   subst this
   have mC:=(iT hC).2
   have mD:=(iT hD).2
   have lB:=cf _ B hB
   have k1:=d9 h3 hC B lB
   have k2:=cov C' mC
   have k3:=d9 h3 hZ B lB
   have k4:=d9 h3 hD B lB
   dsimp only at k1 k3 k4 mC mD
   have z:(C'.1 - A.1) *(B.2 - A.2) - (C'.2 - A.2) *(B.1 - A.1)=0:=by
    have e1:aq A C' B=(C'.1 - A.1) *(B.2 - A.2) - (C'.2 - A.2) *(B.1 - A.1):=rfl
    have e2:aq A B C'=-((C'.1 - A.1) *(B.2 - A.2) - (C'.2 - A.2) *(B.1 - A.1)):=by unfold aq;grind
    omega
   obtain ⟨p1,p2⟩:=w9 (v1:=Z.1 - A.1) (v2:=Z.2 - A.2) z
   have dpos:0 < (C'.1 - A.1) *(Z.2 - A.2) - (C'.2 - A.2) *(Z.1 - A.1):=by
    rw[←(show aq Z A C'=(C'.1 - A.1) *(Z.2 - A.2) - (C'.2 - A.2) *(Z.1 - A.1) by unfold aq;grind)];exact pC
   have spos:0≤(B.1 - A.1) *(Z.2 - A.2) - (B.2 - A.2) *(Z.1 - A.1):=by
    rw[←(show aq Z A B=(B.1 - A.1) *(Z.2 - A.2) - (B.2 - A.2) *(Z.1 - A.1) by unfold aq;grind)];exact k3
   generalize (C'.1 - A.1) *(Z.2 - A.2) - (C'.2 - A.2) *(Z.1 - A.1)=d at *
   generalize (B.1 - A.1) *(Z.2 - A.2) - (B.2 - A.2) *(Z.1 - A.1)=s at *
   have s0:s≠0:=fun e=>by
    rw[e,Et] at p1 p2
    have q1:=(Ce.mp p1).resolve_left (by omega)
    have q2:=(Ce.mp p2).resolve_left (by omega)
    exact hne (CZ (by omega) (by omega))
   have s1:s≠d:=fun e=>by
    rw[e] at p1 p2
    have q1:=B4 (by omega) p1
    have q2:=B4 (by omega) p2
    exact hBC (CZ (by omega) (by omega))
   have s2:s≤d:=by
    have e:d*aq C' D B=(d - s) *aq A C' D:=by
     have e1:d*aq C' D B=(D.1 - C'.1) *(d*(B.2 - A.2) - d*(C'.2 - A.2)) - (D.2 - C'.2) *(d*(B.1 - A.1) - d*(C'.1 - A.1)):=by unfold aq;grind
     rw[e1,p1,p2];unfold aq;grind
    have:0≤d*aq C' D B:=By (by omega) k4
    rcases E8 d s with h |h
    ·have:0 < (s - d) *aq A C' D:=B8 (by omega) pD
     have e3:(d - s) *aq A C' D=-((s - d) *aq A C' D):=by grind
     omega
    ·exact h
   obtain ⟨_,a,b,top⟩:=dS h3 hB
   have t1:=top A (cf _ A hA) hne
   have t2:=top C' (cf _ C' mC) (fun e=>hBC e.symm)
   have w1:d*(wth a b B - wth a b A)=s*(wth a b C' - wth a b A):=by
    have e1:d*(wth a b B - wth a b A)=a*(d*(B.1 - A.1))+b*(d*(B.2 - A.2)):=by unfold wth;grind
    rw[e1,p1,p2];unfold wth;grind
   have g1:0 < d*(wth a b B - wth a b A):=B8 (by omega) (by omega)
   have g2:0 < wth a b C' - wth a b A:=by
    rcases E8 0 (wth a b C' - wth a b A) with h |h
    ·exact h
    ·have:0≤s* -(wth a b C' - wth a b A):=By (by omega) (by omega)
     have e3:s*(wth a b C' - wth a b A)=-(s* -(wth a b C' - wth a b A)):=by grind
     omega
   have g3:0 < (d - s) *(wth a b C' - wth a b A):=B8 (by omega) g2
   have w2:d*(wth a b B - wth a b C')=-((d - s) *(wth a b C' - wth a b A)):=by
    have:d*(wth a b B - wth a b C')=d*(wth a b B - wth a b A) - d*(wth a b C' - wth a b A):=by grind
    rw[this,w1];grind
   have g4:0 < d*(wth a b B - wth a b C'):=B8 (by omega) (by omega)
   omega
structure Lin (f:P2→P2) (d:Int):Prop where
 one:d=1∨d=-1
 ex:∃a b c e:Int,a*e - b*c=d∧∀p,f p=(a*p.1+b*p.2,c*p.1+e*p.2)
theorem Lin.det {f:P2→P2}{d:Int} (L:Lin f d) (A B q:P2):aq (f A) (f B) (f q)=d*aq A B q:=by
 obtain ⟨a,b,c,e,h,k⟩:=L.ex
 rw[k,k,k,←h];unfold aq;grind
theorem kC {f:P2→P2}{d:Int} (L:Lin f d) (x y:Int):∃x' y':Int,∀p,wth x' y' (f p)=wth x y p:=by
 obtain ⟨a,b,c,e,h,k⟩:=L.ex
 refine ⟨d*(x*e - y*c),d*(y*a - x*b),fun p=>?_⟩
 rw[k]
 have dd:d*d=1:=by rcases L.one with z |z <;>rw[z] <;>rfl
 have:wth (d*(x*e - y*c)) (d*(y*a - x*b)) (a*p.1+b*p.2,c*p.1+e*p.2)=d*(a*e - b*c) *wth x y p:=by unfold wth;grind
 rw[this,h,dd,BW]
theorem Lin.inj {f:P2→P2}{d:Int} (L:Lin f d) {p q:P2} (e:f p=f q):p=q:=by
 obtain ⟨x,y,h⟩:=kC L 1 0
 obtain ⟨x',y',h'⟩:=kC L 0 1
 have h1:wth 1 0 p=wth 1 0 q:=by rw[←h,←h,e]
 have h2:wth 0 1 p=wth 0 1 q:=by rw[←h',←h',e]
 unfold wth at h1 h2
 exact CZ (by omega) (by omega)
theorem pK {f:P2→P2}{d:Int} (L:Lin f d) {l:List P2}{p:P2} (h:pZ l p):pZ (l.map f) (f p):=by
 obtain ⟨hp,a,b,k⟩:=h
 obtain ⟨x,y,e⟩:=kC L a b
 refine ⟨EV hp,x,y,fun q hq hne=>?_⟩
 obtain ⟨r,hr,rfl⟩:=Az.mp hq
 rw[e,e]
 exact k r hr fun z=>hne (by rw[z])
theorem tR {f:P2→P2}{d:Int} (L:Lin f d) {l:List P2}{p:P2} (hp:p∈l) (h:pZ (l.map f) (f p)):pZ l p:=by
 obtain ⟨_,a,b,k⟩:=h
 obtain ⟨u,v,w,z,_,kf⟩:=L.ex
 refine ⟨hp,a*u+b*w,a*v+b*z,fun q hq hne=>?_⟩
 have e:∀r:P2,wth (a*u+b*w) (a*v+b*z) r=wth a b (f r):=fun r=>by rw[kf];unfold wth;grind
 rw[e,e]
 exact k (f q) (EV hq) fun z=>hne (L.inj z)
theorem io {f:P2→P2}{d:Int} (L:Lin f d) {l:List P2} (h3:3≤(aj l).length):3≤(aj (l.map f)).length:=by
 have nd:((aj l).map f).Nodup:=DC _ (fun a b (h:a≠b) e=>h (L.inj e)) (bS l)
 have:=iF nd (m:=aj (l.map f)) fun x hx=>by
  obtain ⟨p,hp,rfl⟩:=Az.mp hx
  exact ff (pK L (dS h3 hp))
 rw[Aq] at this
 omega
theorem cD {f:P2→P2}{d:Int} (L:Lin f d) {l:List P2} (h3:3≤(aj l).length) (x:P2):x∈aj (l.map f)↔∃p∈aj l,f p=x:=by
 constructor
 ·intro h
  obtain ⟨p,hp,rfl⟩:=Az.mp (cf _ x h)
  exact ⟨p,ff (tR L hp (dS (io L h3) h)),rfl⟩
 ·rintro ⟨p,hp,rfl⟩
  exact ff (pK L (dS h3 hp))
def sdf (f:P2→P2) (d:Int) (s:P2×P2):P2×P2:=if d=1 then (f s.1,f s.2) else (f s.2,f s.1)
theorem wO {f:P2→P2}{d:Int} (L:Lin f d) {l:List P2} (h3:3≤(aj l).length) (t:P2×P2):t∈sdl (aj (l.map f))↔∃s∈sdl (aj l),sdf f d s=t:=by
 have h3':=io L h3
 have sw:∀A B q:P2,aq B A q=-aq A B q:=fun A B q=>by unfold aq;grind
 constructor
 ·intro h
  obtain ⟨x,y⟩:=t
  obtain ⟨hx,hy,ne,cov⟩:=(iw h3').mp h
  obtain ⟨A,hA,rfl⟩:=(cD L h3 x).mp hx
  obtain ⟨B,hB,rfl⟩:=(cD L h3 y).mp hy
  have cv:∀q∈aj l,0≤d*aq A B q:=fun q hq=>by
   have:=cov (f q) ((cD L h3 _).mpr ⟨q,hq,rfl⟩)
   rwa [L.det] at this
  rcases L.one with z |z
  ·refine ⟨(A,B),(iw h3).mpr ⟨hA,hB,fun e=>ne (by rw[e]),fun q hq=>?_⟩,by unfold sdf;rw[if_pos z]⟩
   have:=cv q hq
   rw[z] at this;omega
  ·refine ⟨(B,A),(iw h3).mpr ⟨hB,hA,fun e=>ne (by rw[e]),fun q hq=>?_⟩,by unfold sdf;rw[if_neg (by omega)]⟩
   have:=cv q hq
   rw[sw]
   rw[z] at this;omega
 ·rintro ⟨⟨A,B⟩,hs,rfl⟩
  obtain ⟨hA,hB,ne,cov⟩:=(iw h3).mp hs
  have cv:∀q∈aj (l.map f),0≤d*aq (f A) (f B) q:=fun q hq=>by
   obtain ⟨p,hp,rfl⟩:=(cD L h3 q).mp hq
   have:=cov p hp
   rw[L.det,←CG,show d*d=1 by rcases L.one with z |z <;>rw[z] <;>rfl]
   omega
  unfold sdf
  rcases L.one with z |z
  ·rw[if_pos z]
   refine (iw h3').mpr ⟨(cD L h3 _).mpr ⟨A,hA,rfl⟩,(cD L h3 _).mpr ⟨B,hB,rfl⟩,fun e=>ne (L.inj e),fun q hq=>?_⟩
   have:=cv q hq
   dsimp only
   rw[z] at this;omega
  ·rw[if_neg (by omega)]
   refine (iw h3').mpr ⟨(cD L h3 _).mpr ⟨B,hB,rfl⟩,(cD L h3 _).mpr ⟨A,hA,rfl⟩,fun e=>ne (L.inj e.symm),fun q hq=>?_⟩
   have:=cv q hq
   dsimp only
   rw[sw]
   rw[z] at this;omega
end
section
variable {P:AC}{w:World}{K:Ao}{mg:Str→Option Value}{base:Heap}
def ap (a b c d e f:Int) (p:P2):P2:=(a*p.1+b*p.2+e,c*p.1+d*p.2+f)
structure Stn (C A B:P2) (a b c d e f:Int):Prop where
 dt:a*d - b*c=1∨a*d - b*c=-1
 at0:ap a b c d e f C=(0,0)
 nx:0 < (ap a b c d e f A).1
 ny:(ap a b c d e f A).2=0
 f0:0≤(ap a b c d e f B).1
 f1:(ap a b c d e f B).1 < (ap a b c d e f B).2
theorem xW {C A B:P2}{g u v s t k q x y:Int} (g0:0 < g) (e1:A.1 - C.1=g*u) (e2:A.2 - C.2=g*v) (h:s*u+t*v=1)
  (hx:x=s*B.1+t*B.2+(-s*C.1 - t*C.2)) (hy:y=-v*B.1+u*B.2+(v*C.1 - u*C.2)) (hk:k=1∨k=-1) (ky:0 < k*y) (hq:q=x / (k*y)):
  Stn C A B (s - q*(k* -v)) (t - q*(k*u)) (k* -v) (k*u) ((-s*C.1 - t*C.2) - q*(k*(v*C.1 - u*C.2))) (k*(v*C.1 - u*C.2)):=by
 have a1:A.1=C.1+g*u:=by omega
 have a2:A.2=C.2+g*v:=by omega
 have dv:=Ey x (k*y)
 have m0:=BH x (show k*y≠0 by omega)
 have m1:=Bs x ky
 rw[←hq] at dv
 have bx:(ap (s - q*(k* -v)) (t - q*(k*u)) (k* -v) (k*u) ((-s*C.1 - t*C.2) - q*(k*(v*C.1 - u*C.2))) (k*(v*C.1 - u*C.2)) B).1=x - q*(k*y):=by
  unfold ap;dsimp only;rw[hx,hy];grind
 have b2:(ap (s - q*(k* -v)) (t - q*(k*u)) (k* -v) (k*u) ((-s*C.1 - t*C.2) - q*(k*(v*C.1 - u*C.2))) (k*(v*C.1 - u*C.2)) B).2=k*y:=by
  unfold ap;dsimp only;rw[hy];grind
 have c1:k*y*q=q*(k*y):=De _ _
 refine ⟨?_,?_,?_,?_,by rw[bx];omega,by rw[bx,b2];omega⟩
 ·have:(s - q*(k* -v)) *(k*u) - (t - q*(k*u)) *(k* -v)=k*(s*u+t*v):=by grind
  rw[this,h,Fy];exact hk
 ·unfold ap;exact CZ (by dsimp only;grind) (by dsimp only;grind)
 ·have:(ap (s - q*(k* -v)) (t - q*(k*u)) (k* -v) (k*u) ((-s*C.1 - t*C.2) - q*(k*(v*C.1 - u*C.2))) (k*(v*C.1 - u*C.2)) A).1=g*(s*u+t*v):=by
   unfold ap;dsimp only;rw[a1,a2];grind
  rw[this,h];omega
 ·unfold ap;dsimp only;rw[a1,a2];grind
theorem t9 {a b c d e f:Int} (h:a*d - b*c=1∨a*d - b*c=-1) {p q:P2} (k:ap a b c d e f p=ap a b c d e f q):p=q:=by
 unfold ap at k
 have k1:=congrArg En k
 have k2:=congrArg EI k
 dsimp only at k1 k2
 have e1:(a*d - b*c) *(p.1 - q.1)=0:=by grind
 have e2:(a*d - b*c) *(p.2 - q.2)=0:=by grind
 rcases h with h |h <;>rw[h] at e1 e2 <;>exact CZ (by omega) (by omega)
def pI (n k:Nat):Nat:=(k+n - 1) % n
def nI (n k:Nat):Nat:=(k+1) % n
theorem ie {n k:Nat} (h:k < n):pI n k=if k=0 then n - 1 else k - 1:=by
 unfold pI
 split
 ·rename_i z;rw[z,JC];exact A_ (by omega)
 ·rw[show k+n - 1=(k - 1)+n by omega,Ei];exact A_ (by omega)
theorem kl {n k:Nat} (h:k < n):nI n k=if k+1=n then 0 else k+1:=by
 unfold nI
 split
 ·rename_i z;rw[z,DZ]
 ·exact A_ (by omega)
theorem j4 {n k:Nat} (h:k < n):pI n k < n:=Cf _ (by omega)
theorem oK {n k:Nat} (h:k < n):nI n k < n:=Cf _ (by omega)
theorem yI {n k:Nat} (h3:3≤n) (h:k < n):pI n k≠nI n k:=by
 rw[ie h,kl h]
 split <;>split <;>omega
structure Pr (l:List P2) (a b c d e f:Int) (i j:Nat):Prop where
 hi:i < l.length
 nd:l.Nodup
 n3:3≤l.length
 st:(j=pI l.length i∧Stn (gp l i) (gp l (pI l.length i)) (gp l (nI l.length i)) a b c d e f)∨(j=nI l.length i∧Stn (gp l i) (gp l (nI l.length i)) (gp l (pI l.length i)) a b c d e f)
section
variable {l:List P2}{a b c d e f:Int}{i j i' j':Nat}
theorem Pr.dt (P:Pr l a b c d e f i j):a*d - b*c=1∨a*d - b*c=-1:=by
 rcases P.st with ⟨_,S⟩ |⟨_,S⟩ <;>exact S.dt
theorem Pr.at0 (P:Pr l a b c d e f i j):ap a b c d e f (gp l i)=(0,0):=by
 rcases P.st with ⟨_,S⟩ |⟨_,S⟩ <;>exact S.at0
theorem wd (nd:l.Nodup) (hi:i < l.length) (hj:j < l.length) (h:gp l i=gp l j):i=j:=by
 have e1:gp l i=l[i]:=by simp[gp,hi]
 have e2:gp l j=l[j]:=by simp[gp,hj]
 rw[e1,e2] at h
 rcases Cm i j with z |z |z
 ·exact absurd h (A8.mp nd i j hi hj z)
 ·exact z
 ·exact absurd h.symm (A8.mp nd j i hj hi z)
theorem Pr.only (P:Pr l a b c d e f i j) {k:Nat} (hk:k < l.length) (h:ap a b c d e f (gp l k)=(0,0)):k=i:=wd P.nd hk P.hi (t9 P.dt (h.trans P.at0.symm))
theorem Pr.one (P:Pr l a b c d e f i j) (P':Pr l a b c d e f i' j'):i=i'∧j=j':=by
 have e:=P'.only P.hi P.at0
 subst e
 refine ⟨rfl,?_⟩
 rcases P.st with ⟨h1,S⟩ |⟨h1,S⟩ <;>rcases P'.st with ⟨h2,S'⟩ |⟨h2,S'⟩
 ·rw[h1,h2]
 ·have:=S.ny;have:=S'.f0;have:=S'.f1;omega
 ·have:=S.ny;have:=S'.f0;have:=S'.f1;omega
 ·rw[h1,h2]
end
def PrL (l:List P2) (m:List Int) (p:Nat×Nat):Prop:=∃a b c d e f,m=[a,b,c,d,e,f]∧Pr l a b c d e f p.1 p.2
theorem PrL.one {l:List P2}{m:List Int}{p p':Nat×Nat} (h:PrL l m p) (h':PrL l m p'):p=p':=by
 obtain ⟨a,b,c,d,e,f,rfl,P⟩:=h
 obtain ⟨a',b',c',d',e',f',q,P'⟩:=h'
 cases q
 obtain ⟨h1,h2⟩:=P.one P'
 exact CZ h1 h2
def prs (n x:Nat):Nat×Nat:=(x / 2,if x % 2=0 then pI n (x / 2) else nI n (x / 2))
theorem vG {n x y:Nat} (h3:3≤n) (hx:x < 2*n) (hy:y < 2*n) (h:prs n x=prs n y):x=y:=by
 unfold prs at h
 have h1:x / 2=y / 2:=congrArg En h
 have h2:=congrArg EI h
 dsimp only at h2
 have ne:=yI h3 (show x / 2 < n by omega)
 rw[←h1] at h2
 split at h2 <;>split at h2
 ·omega
 ·exact absurd h2 ne
 ·exact absurd h2.symm ne
 ·omega
structure All (l:List P2) (ms:List (List Int)):Prop where
 n3:3≤l.length
 len:ms.length=2*l.length
 at_:∀x,(h:x < ms.length)→PrL l ms[x] (prs l.length x)
theorem All.six {l:List P2}{ms:List (List Int)} (A:All l ms):∀m∈ms,m.length=6:=fun m hm=>by
 obtain ⟨x,hx,rfl⟩:=DH.mp hm
 obtain ⟨a,b,c,d,e,f,h,_⟩:=A.at_ x hx
 rw[h];rfl
theorem All.inj {l:List P2}{ms:List (List Int)} (A:All l ms) {x y:Nat} (hx:x < ms.length) (hy:y < ms.length) (h:prs l.length x=prs l.length y):x=y:=vG A.n3 (by rw[←A.len];exact hx) (by rw[←A.len];exact hy) h
theorem All.nodup {l:List P2}{ms:List (List Int)} (A:All l ms):ms.Nodup:=by
 refine A8.mpr fun x y hx hy hlt e=>?_
 have h1:=A.at_ x hx
 rw[e] at h1
 have:=A.inj hx hy (h1.one (A.at_ y hy))
 omega
open Classical in
noncomputable def pf (l:List P2) (m:List Int):Nat×Nat:=if h:∃p,PrL l m p then h.choose else (0,0)
theorem xM {l:List P2} (nd:l.Nodup) (h3:3≤l.length) (F G:Nat→List Int)
  (hF:∀i,i < l.length→∃a b c d e f,F i=[a,b,c,d,e,f]∧Stn (gp l i) (gp l (pI l.length i)) (gp l (nI l.length i)) a b c d e f)
  (hG:∀i,i < l.length→∃a b c d e f,G i=[a,b,c,d,e,f]∧Stn (gp l i) (gp l (nI l.length i)) (gp l (pI l.length i)) a b c d e f):
  All l ((Bj (2*l.length)).map fun x=>if x % 2=0 then F (x / 2) else G (x / 2)):=by
 refine ⟨h3,by simp,fun x hx=>?_⟩
 have hx':x < 2*l.length:=by simpa using hx
 have hi:x / 2 < l.length:=by omega
 rw[List.getElem_map,List.getElem_range]
 unfold prs
 split
 ·obtain ⟨a,b,c,d,e,f,h,S⟩:=hF _ hi
  exact ⟨a,b,c,d,e,f,h,hi,nd,h3,.inl ⟨rfl,S⟩⟩
 ·obtain ⟨a,b,c,d,e,f,h,S⟩:=hG _ hi
  exact ⟨a,b,c,d,e,f,h,hi,nd,h3,.inr ⟨rfl,S⟩⟩
theorem jT {pts:List P2} (h3:3≤(aj pts).length) (h2:2≤(ST.srt pts).length) {i:Nat} (hi:i < (aj pts).length):0 < aq (gp (aj pts) (pI (aj pts).length i)) (gp (aj pts) i) (gp (aj pts) (nI (aj pts).length i)):=by
 obtain ⟨a,b,e1,e2,_,h⟩:=gK h2 (j4 hi)
 obtain ⟨c,e3,h⟩:=h (by omega)
 have k1:(pI (aj pts).length i+1) % (aj pts).length=i:=by
  rw[ie hi]
  split
  ·rename_i z;rw[show (aj pts).length - 1+1=(aj pts).length by omega,DZ,z]
  ·rw[show i - 1+1=i by omega];exact A_ hi
 have k2:(pI (aj pts).length i+2) % (aj pts).length=nI (aj pts).length i:=by
  rw[ie hi,kl hi]
  split
  ·rename_i z;rw[show (aj pts).length - 1+2=1+(aj pts).length by omega,Ei,z,A_ (by omega),if_neg (by omega)]
  ·rw[show i - 1+2=i+1 by omega]
   split
   ·rename_i z;rw[z,DZ]
   ·exact A_ (by omega)
 rw[k1] at e2
 rw[k2] at e3
 have g:∀{j:Nat}{p:P2},(aj pts)[j]?=some p→gp (aj pts) j=p:=fun h=>by simp[gp,h]
 rw[g e1,g e2,g e3];exact h
def trn (e f:Int) (p:P2):P2:=(p.1+e,p.2+f)
def lnr (a b c d:Int) (p:P2):P2:=(a*p.1+b*p.2,c*p.1+d*p.2)
theorem m9 (a b c d e f:Int) (l:List P2):l.map (ap a b c d e f)=(l.map (lnr a b c d)).map (trn e f):=by
 rw[Bp];rfl
theorem jk (e f:Int) (l:List P2):aj (l.map (trn e f))=(aj l).map (trn e f):=
 uh (fun a b h=>by unfold plt trn at *;dsimp only;omega) (fun a b c=>by
  have:aq (trn e f a) (trn e f b) (trn e f c)=aq a b c:=by unfold aq trn;dsimp only;grind
  rw[this]) l
theorem kK {a b c d:Int} (h:a*d - b*c=1∨a*d - b*c=-1):Lin (lnr a b c d) (a*d - b*c):=⟨h,a,b,c,d,rfl,fun _=>rfl⟩
section
variable {a b c d e f:Int}{l:List P2}
theorem gU (h:a*d - b*c=1∨a*d - b*c=-1) (h3:3≤(aj l).length) (x:P2):x∈aj (l.map (ap a b c d e f))↔∃p∈aj l,ap a b c d e f p=x:=by
 rw[m9,jk,Az]
 constructor
 ·rintro ⟨y,hy,rfl⟩
  obtain ⟨p,hp,rfl⟩:=(cD (kK h) h3 y).mp hy
  exact ⟨p,hp,rfl⟩
 ·rintro ⟨p,hp,rfl⟩
  exact ⟨lnr a b c d p,(cD (kK h) h3 _).mpr ⟨p,hp,rfl⟩,rfl⟩
theorem lK (h:a*d - b*c=1∨a*d - b*c=-1) (h3:3≤(aj l).length):3≤(aj (l.map (ap a b c d e f))).length:=by
 rw[m9,jk,Aq];exact io (kK h) h3
theorem rR (g:P2→P2) (l:List P2) {A B:P2}:(A,B)∈sdl l→(g A,g B)∈sdl (l.map g):=by
 intro h
 obtain ⟨i,hi,e⟩:=Az.mp h
 have hi':=AV.mp hi
 have gm:∀j,j < l.length→gp (l.map g) j=g (gp l j):=fun j hj=>by simp[gp,hj]
 have e1:=congrArg En e
 have e2:=congrArg EI e
 dsimp only at e1 e2
 refine Az.mpr ⟨i,AV.mpr (by simpa using hi'),?_⟩
 unfold nxt at *
 rw[gm i hi',Aq,gm _ (Cf _ (by omega)),e1,e2]
theorem wn (h:a*d - b*c=1∨a*d - b*c=-1) (h3:3≤(aj l).length) {A B:P2} (hs:(A,B)∈sdl (aj l)):if a*d - b*c=1 then (ap a b c d e f A,ap a b c d e f B)∈sdl (aj (l.map (ap a b c d e f))) else (ap a b c d e f B,ap a b c d e f A)∈sdl (aj (l.map (ap a b c d e f))):=by
 have key:=(wO (kK h) h3 (sdf (lnr a b c d) (a*d - b*c) (A,B))).mpr ⟨(A,B),hs,rfl⟩
 rw[m9,jk]
 unfold sdf at key
 by_cases z:a*d - b*c=1
 ·rw[if_pos z] at key ⊢
  exact rR (trn e f) _ key
 ·rw[if_neg z] at key ⊢
  exact rR (trn e f) _ key
end
def Cn (l:List P2) (C A B:P2):Prop:=(A,C)∈sdl l∧(C,B)∈sdl l
def Nb (l:List P2) (C A B:P2):Prop:=Cn l C A B∨Cn l C B A
theorem tj {l:List P2}{i:Nat} (hi:i < l.length):Cn l (gp l i) (gp l (pI l.length i)) (gp l (nI l.length i)):=by
 refine ⟨?_,lV hi⟩
 have:=lV (j4 hi)
 have e:(pI l.length i+1) % l.length=i:=by
  rw[ie hi]
  split
  ·rename_i z;rw[show l.length - 1+1=l.length by omega,DZ,z]
  ·rw[show i - 1+1=i by omega];exact A_ hi
 rwa [e] at this
theorem oF {l:List P2} (nd:l.Nodup) {C A B:P2} (h:Cn l C A B):∃i,i < l.length∧C=gp l i∧A=gp l (pI l.length i)∧B=gp l (nI l.length i):=by
 obtain ⟨h1,h2⟩:=h
 obtain ⟨i,hi,e⟩:=Az.mp h2
 have hi':=AV.mp hi
 have e1:=congrArg En e
 have e2:=congrArg EI e
 dsimp only at e1 e2
 obtain ⟨j,hj,k⟩:=Az.mp h1
 have hj':=AV.mp hj
 have k1:=congrArg En k
 have k2:=congrArg EI k
 dsimp only at k1 k2
 unfold nxt at k2 e2
 have q:=wd nd (Cf _ (by omega)) hi' (k2.trans e1.symm)
 refine ⟨i,hi',e1.symm,?_,e2.symm⟩
 rw[←k1]
 congr 1
 rw[←q]
 have lt:(j+1) % l.length < l.length:=Cf _ (by omega)
 rw[ie lt]
 by_cases z:j+1=l.length
 ·rw[z,DZ,if_pos rfl];omega
 ·rw[A_ (by omega),if_neg (by omega)];omega
section
variable {a b c d e f:Int}{l:List P2}
theorem vX (h:a*d - b*c=1∨a*d - b*c=-1) (h3:3≤(aj l).length) {C A B:P2} (hn:Nb (aj l) C A B):Nb (aj (l.map (ap a b c d e f))) (ap a b c d e f C) (ap a b c d e f A) (ap a b c d e f B):=by
 have one:∀{A B:P2},Cn (aj l) C A B→Nb (aj (l.map (ap a b c d e f))) (ap a b c d e f C) (ap a b c d e f A) (ap a b c d e f B):=fun {A B} q=>by
  have k1:=wn (e:=e) (f:=f) h h3 q.1
  have k2:=wn (e:=e) (f:=f) h h3 q.2
  by_cases z:a*d - b*c=1
  ·rw[if_pos z] at k1 k2;exact .inl ⟨k1,k2⟩
  ·rw[if_neg z] at k1 k2;exact .inr ⟨k2,k1⟩
 rcases hn with q |q
 ·exact one q
 ·rcases one q with z |z
  ·exact .inr z
  ·exact .inl z
end
theorem lm (a b c d e f a' b' c' d' e' f':Int) (p:P2):ap a' b' c' d' e' f' (ap a b c d e f p)=ap (a'*a+b'*c) (a'*b+b'*d) (c'*a+d'*c) (c'*b+d'*d) (a'*e+b'*f+e') (c'*e+d'*f+f') p:=by
 unfold ap;exact CZ (by dsimp only;grind) (by dsimp only;grind)
theorem mL {x y:Int} (h:x*y=1∨x*y=-1) (hx:0 < x):x=1:=by
 have:x ∣ 1:=by
  rcases h with h |h
  ·exact ⟨y,h.symm⟩
  ·exact ⟨-y,by rw[JJ,h];rfl⟩
 have:=Jr (by decide) this
 omega
theorem uT {C A B:P2}{a b c d e f a' b' c' d' e' f':Int} (hd:aq C A B≠0) (S:Stn C A B a b c d e f) (S':Stn C A B a' b' c' d' e' f'):a'=a∧b'=b∧c'=c∧d'=d∧e'=e∧f'=f:=by
 obtain ⟨dt,z0,nx,ny,f0,f1⟩:=S
 obtain ⟨dt',z0',nx',ny',f0',f1'⟩:=S'
 unfold ap at *
 have z1:=congrArg En z0
 have z2:=congrArg EI z0
 have y1:=congrArg En z0'
 have y2:=congrArg EI z0'
 dsimp only at *
 obtain ⟨C1,C2⟩:=C
 obtain ⟨A1,A2⟩:=A
 obtain ⟨B1,B2⟩:=B
 unfold aq at hd
 dsimp only at *
 have ee:e=-(a*C1+b*C2):=by omega
 have ef:f=-(c*C1+d*C2):=by omega
 have ee':e'=-(a'*C1+b'*C2):=by omega
 have ef':f'=-(c'*C1+d'*C2):=by omega
 generalize hp1:A1 - C1=p1 at *
 generalize hp2:A2 - C2=p2 at *
 generalize hq1:B1 - C1=q1 at *
 generalize hq2:B2 - C2=q2 at *
 have gA:a*A1+b*A2+e=a*p1+b*p2:=by rw[ee,←hp1,←hp2];grind
 have gA2:c*A1+d*A2+f=c*p1+d*p2:=by rw[ef,←hp1,←hp2];grind
 have gB:a*B1+b*B2+e=a*q1+b*q2:=by rw[ee,←hq1,←hq2];grind
 have gB2:c*B1+d*B2+f=c*q1+d*q2:=by rw[ef,←hq1,←hq2];grind
 have gA':a'*A1+b'*A2+e'=a'*p1+b'*p2:=by rw[ee',←hp1,←hp2];grind
 have gA2':c'*A1+d'*A2+f'=c'*p1+d'*p2:=by rw[ef',←hp1,←hp2];grind
 have gB':a'*B1+b'*B2+e'=a'*q1+b'*q2:=by rw[ee',←hq1,←hq2];grind
 have gB2':c'*B1+d'*B2+f'=c'*q1+d'*q2:=by rw[ef',←hq1,←hq2];grind
 rw[gA] at nx
 rw[gA2] at ny
 rw[gB] at f0 f1
 rw[gB2] at f1
 rw[gA'] at nx'
 rw[gA2'] at ny'
 rw[gB'] at f0' f1'
 rw[gB2'] at f1'
 clear gA gA2 gB gB2 gA' gA2' gB' gB2' z0 z0' z1 z2 y1 y2
 have dd:(a*d - b*c) *(a*d - b*c)=1:=by rcases dt with h |h <;>rw[h] <;>rfl
 generalize hD:a*d - b*c=D at *
 generalize hD':a'*d' - b'*c'=D' at *
 generalize hP:a'*d - b'*c=P at *
 generalize hR:d'*a - c'*b=R at *
 generalize hQ:b'*a - a'*b=Q at *
 have n21:(c'*d - d'*c) *p1=0∧(c'*d - d'*c) *p2=0:=by
  constructor
  ·have:(c'*d - d'*c) *p1=d*(c'*p1+d'*p2) - d'*(c*p1+d*p2):=by grind
   rw[this,ny,ny'];simp
  ·have:(c'*d - d'*c) *p2=c'*(c*p1+d*p2) - c*(c'*p1+d'*p2):=by grind
   rw[this,ny,ny'];simp
 have pn:p1≠0∨p2≠0:=by
  by_cases z:p1=0
  ·right;intro w
   rw[z,w] at nx;simp at nx
  ·exact .inl z
 have e21:c'*d - d'*c=0:=by
  rcases pn with z |z
  ·exact (Ce.mp n21.1).resolve_right z
  ·exact (Ce.mp n21.2).resolve_right z
 have pr:P*R=D'*D:=by
  have:P*R - Q*(c'*d - d'*c)=D'*D:=by rw[←hP,←hR,←hQ,←hD,←hD'];grind
  rw[e21,Df,Int.sub_zero] at this;exact this
 have un:(D*P) *(D*R)=1∨(D*P) *(D*R)=-1:=by
  have:(D*P) *(D*R)=(D*D) *(P*R):=by grind
  rw[this,dd,BW,pr]
  rcases dt with h |h <;>rcases dt' with h' |h' <;>rw[h,h'] <;>decide
 have gx:(a'*p1+b'*p2)=D*P*(a*p1+b*p2):=by
  have:P*(a*p1+b*p2)+Q*(c*p1+d*p2)=(a'*p1+b'*p2) *D:=by rw[←hP,←hQ,←hD];grind
  rw[ny,Df,Hu] at this
  have k:D*P*(a*p1+b*p2)=D*(P*(a*p1+b*p2)):=CG _ _ _
  rw[k,this,De (a'*p1+b'*p2) D,←CG,dd,BW]
 have pos_of:∀{x y z:Int},0 < y→0 < z→z=x*y→0 < x:=fun {x y z} hy hz e=>by
  rcases Hl 0 x with w |w |w
  ·exact w
  ·rw[←w,Et] at e;omega
  ·have:=Int.mul_neg_of_neg_of_pos w hy
   omega
 have dP:D*P=1:=mL un (pos_of nx nx' gx)
 have gy:(c'*q1+d'*q2)=D*R*(c*q1+d*q2):=by
  have:(c'*d - d'*c) *(a*q1+b*q2)+R*(c*q1+d*q2)=(c'*q1+d'*q2) *D:=by rw[←hR,←hD];grind
  rw[e21,Et,Hv] at this
  have k:D*R*(c*q1+d*q2)=D*(R*(c*q1+d*q2)):=CG _ _ _
  rw[k,this,De (c'*q1+d'*q2) D,←CG,dd,BW]
 have dR:D*R=1:=mL (by rw[De];exact un) (pos_of (by omega) (by omega) gy)
 rw[dR,BW] at gy
 have gz:a'*q1+b'*q2=(a*q1+b*q2)+D*Q*(c*q1+d*q2):=by
  have:P*(a*q1+b*q2)+Q*(c*q1+d*q2)=(a'*q1+b'*q2) *D:=by rw[←hP,←hQ,←hD];grind
  have k:D*(P*(a*q1+b*q2)+Q*(c*q1+d*q2))=D*P*(a*q1+b*q2)+D*Q*(c*q1+d*q2):=by grind
  rw[dP,BW] at k
  rw[←k,this,De (a'*q1+b'*q2) D,←CG,dd,BW]
 have dQ:D*Q=0:=by
  generalize D*Q=w at *
  generalize a*q1+b*q2=x at *
  generalize c*q1+d*q2=y at *
  rw[gz] at f0' f1'
  rw[gy] at f1'
  have yp:0 < y:=by omega
  rcases Hl 0 w with z |z |z
  ·have:1*y≤w*y:=Dg (by omega) (by omega)
   omega
  ·exact z.symm
  ·have:w*y≤-1*y:=Dg (by omega) (by omega)
   omega
 have un1:∀{x:Int},D*x=1→x=D:=fun {x} h=>by
  have:D*(D*x)=D*1:=by rw[h]
  rw[←CG,dd,BW,Fy] at this;exact this
 have eP:=un1 dP
 have eR:=un1 dR
 have eQ:Q=0:=by
  have:D*(D*Q)=D*0:=by rw[dQ]
  rw[←CG,dd,BW,Df] at this;exact this
 have can:∀{x y:Int},x*D=y*D→x=y:=fun {x y} h=>by
  have:x*D*D=y*D*D:=by rw[h]
  rw[CG,CG,dd,Fy,Fy] at this;exact this
 have ra:a'=a:=can (by
  have:a*P+c*Q=a'*D:=by rw[←hP,←hQ,←hD];grind
  rw[←this,eP,eQ,Df,Hu])
 have rb:b'=b:=can (by
  have:b*P+d*Q=b'*D:=by rw[←hP,←hQ,←hD];grind
  rw[←this,eP,eQ,Df,Hu])
 have rc:c'=c:=can (by
  have:a*(c'*d - d'*c)+c*R=c'*D:=by rw[←hR,←hD];grind
  rw[←this,eR,e21,Df,Hv])
 have rd:d'=d:=can (by
  have:b*(c'*d - d'*c)+d*R=d'*D:=by rw[←hR,←hD];grind
  rw[←this,eR,e21,Df,Hv])
 exact ⟨ra,rb,rc,rd,by rw[ee,ee',ra,rb],by rw[ef,ef',rc,rd]⟩
theorem h_ {A B:List P2} (h:∀z,z∈A↔z∈B):aj A=aj B:=nK (iC h)
def apL (m:List Int) (p:P2):P2:=ap (m.getD 0 0) (m.getD 1 0) (m.getD 2 0) (m.getD 3 0) (m.getD 4 0) (m.getD 5 0) p
structure nR (l:List P2) (ms:List (List Int)):Prop where
 mem:∀m∈ms,∃C A B a b c d e f,Nb l C A B∧m=[a,b,c,d,e,f]∧Stn C A B a b c d e f
 all:∀C A B,Nb l C A B→∃a b c d e f,[a,b,c,d,e,f]∈ms∧Stn C A B a b c d e f
theorem wQ {l:List P2} (h3:3≤(aj l).length) {C A B:P2} (h:Nb (aj l) C A B):aq C A B≠0:=by
 have one:∀{A B:P2},Cn (aj l) C A B→0 < aq A C B:=fun {A B} q=>by
  obtain ⟨D,h1,h2⟩:=iY h3 q.1
  rw[uq (bS l) q.2 h1];exact h2
 rcases h with q |q
 ·have:=one q
  intro z
  unfold aq at *;grind
 ·have:=one q
  intro z
  unfold aq at *;grind
section
variable {a b c d e f:Int}
def fi (a b c d e f:Int) (p:P2):P2:=ap ((a*d - b*c) *d) (-((a*d - b*c) *b)) (-((a*d - b*c) *c)) ((a*d - b*c) *a) (-((a*d - b*c) *d*e - (a*d - b*c) *b*f)) (-(-((a*d - b*c) *c) *e+(a*d - b*c) *a*f)) p
theorem nS (h:a*d - b*c=1∨a*d - b*c=-1):((a*d - b*c) *d) *((a*d - b*c) *a) - (-((a*d - b*c) *b)) *(-((a*d - b*c) *c))=1∨((a*d - b*c) *d) *((a*d - b*c) *a) - (-((a*d - b*c) *b)) *(-((a*d - b*c) *c))=-1:=by
 have:((a*d - b*c) *d) *((a*d - b*c) *a) - (-((a*d - b*c) *b)) *(-((a*d - b*c) *c))=(a*d - b*c) *(a*d - b*c) *(a*d - b*c):=by grind
 rw[this]
 rcases h with h |h <;>rw[h] <;>decide
theorem pM (h:a*d - b*c=1∨a*d - b*c=-1) (p:P2):fi a b c d e f (ap a b c d e f p)=p:=by
 have dd:(a*d - b*c) *(a*d - b*c)=1:=by rcases h with h |h <;>rw[h] <;>rfl
 unfold fi ap
 refine CZ ?_ ?_
 ·have:(a*d - b*c) *d*(a*p.1+b*p.2+e)+-((a*d - b*c) *b) *(c*p.1+d*p.2+f)+-((a*d - b*c) *d*e - (a*d - b*c) *b*f)=(a*d - b*c) *(a*d - b*c) *p.1:=by grind
  dsimp only
  rw[this,dd,BW]
 ·have:-((a*d - b*c) *c) *(a*p.1+b*p.2+e)+(a*d - b*c) *a*(c*p.1+d*p.2+f)+-(-((a*d - b*c) *c) *e+(a*d - b*c) *a*f)=(a*d - b*c) *(a*d - b*c) *p.2:=by grind
  dsimp only
  rw[this,dd,BW]
theorem uU (h:a*d - b*c=1∨a*d - b*c=-1) (p:P2):ap a b c d e f (fi a b c d e f p)=p:=by
 have dd:(a*d - b*c) *(a*d - b*c)=1:=by rcases h with h |h <;>rw[h] <;>rfl
 unfold fi ap
 refine CZ ?_ ?_
 ·dsimp only
  have:a*((a*d - b*c) *d*p.1+-((a*d - b*c) *b) *p.2+-((a*d - b*c) *d*e - (a*d - b*c) *b*f))+b*(-((a*d - b*c) *c) *p.1+(a*d - b*c) *a*p.2+-(-((a*d - b*c) *c) *e+(a*d - b*c) *a*f))+e=(a*d - b*c) *(a*d - b*c) *p.1+(1 - (a*d - b*c) *(a*d - b*c)) *e:=by grind
  rw[this,dd];omega
 ·dsimp only
  have:c*((a*d - b*c) *d*p.1+-((a*d - b*c) *b) *p.2+-((a*d - b*c) *d*e - (a*d - b*c) *b*f))+d*(-((a*d - b*c) *c) *p.1+(a*d - b*c) *a*p.2+-(-((a*d - b*c) *c) *e+(a*d - b*c) *a*f))+f=(a*d - b*c) *(a*d - b*c) *p.2+(1 - (a*d - b*c) *(a*d - b*c)) *f:=by grind
  rw[this,dd];omega
variable {l:List P2}
theorem jS (h:a*d - b*c=1∨a*d - b*c=-1) (hl:aj l=l) (h3:3≤l.length):aj ((aj (l.map (ap a b c d e f))).map (fi a b c d e f))=l:=by
 have h3':3≤(aj l).length:=by rw[hl];exact h3
 conv=>rhs;rw[←hl]
 refine h_ fun z=>?_
 rw[Az]
 constructor
 ·rintro ⟨x,hx,rfl⟩
  obtain ⟨p,hp,rfl⟩:=(gU h h3' x).mp hx
  rw[pM h,←hl];exact hp
 ·intro hz
  exact ⟨ap a b c d e f z,(gU h h3' _).mpr ⟨z,by rw[hl];exact hz,rfl⟩,pM h z⟩
theorem vm (h:a*d - b*c=1∨a*d - b*c=-1) (hl:aj l=l) (h3:3≤l.length) {C A B:P2} (hn:Nb (aj (l.map (ap a b c d e f))) C A B):Nb l (fi a b c d e f C) (fi a b c d e f A) (fi a b c d e f B):=by
 have h3':3≤(aj l).length:=by rw[hl];exact h3
 have k3:3≤(aj (aj (l.map (ap a b c d e f)))).length:=by rw[dw];exact lK h h3'
 rw[←dw] at hn
 have:=vX (e:=-((a*d - b*c) *d*e - (a*d - b*c) *b*f)) (f:=-(-((a*d - b*c) *c) *e+(a*d - b*c) *a*f)) (nS h) k3 hn
 have bk:=jS (e:=e) (f:=f) h hl h3
 unfold fi at bk ⊢
 rw[bk] at this
 exact this
theorem shp {ms ms':List (List Int)} (h:a*d - b*c=1∨a*d - b*c=-1) (hl:aj l=l) (h3:3≤l.length) (W:nR l ms) (W':nR (aj (l.map (ap a b c d e f))) ms'):∀m'∈ms',∃m∈ms,∀p,apL m p=apL m' (ap a b c d e f p):=by
 intro m' hm'
 obtain ⟨C',A',B',a',b',c',d',e',f',nb,rfl,S⟩:=W'.mem m' hm'
 have nbl:=vm h hl h3 nb
 obtain ⟨a2,b2,c2,d2,e2,f2,mem,S2⟩:=W.all _ _ _ nbl
 have h3':3≤(aj l).length:=by rw[hl];exact h3
 have dn:aq (fi a b c d e f C') (fi a b c d e f A') (fi a b c d e f B')≠0:=wQ h3' (by rw[hl];exact nbl)
 have S3:Stn (fi a b c d e f C') (fi a b c d e f A') (fi a b c d e f B') (a'*a+b'*c) (a'*b+b'*d) (c'*a+d'*c) (c'*b+d'*d) (a'*e+b'*f+e') (c'*e+d'*f+f'):=by
  have cm:∀p,ap (a'*a+b'*c) (a'*b+b'*d) (c'*a+d'*c) (c'*b+d'*d) (a'*e+b'*f+e') (c'*e+d'*f+f') (fi a b c d e f p)=ap a' b' c' d' e' f' p:=fun p=>by rw[←lm,uU h]
  refine ⟨?_,by rw[cm];exact S.at0,by rw[cm];exact S.nx,by rw[cm];exact S.ny,by rw[cm];exact S.f0,by rw[cm];exact S.f1⟩
  have:(a'*a+b'*c) *(c'*b+d'*d) - (a'*b+b'*d) *(c'*a+d'*c)=(a'*d' - b'*c') *(a*d - b*c):=by grind
  rw[this]
  rcases S.dt with q |q <;>rcases h with z |z <;>rw[q,z] <;>decide
 obtain ⟨r1,r2,r3,r4,r5,r6⟩:=uT dn S2 S3
 refine ⟨_,mem,fun p=>?_⟩
 show ap a2 b2 c2 d2 e2 f2 p=ap a' b' c' d' e' f' (ap a b c d e f p)
 rw[lm,r1,r2,r3,r4,r5,r6]
theorem lS (h:a*d - b*c=1∨a*d - b*c=-1) (hl:aj l=l) (h3:3≤l.length) {m m':List Int} (k:∀p,apL m p=apL m' (ap a b c d e f p)):aj ((aj (l.map (ap a b c d e f))).map (apL m'))=aj (l.map (apL m)):=by
 have h3':3≤(aj l).length:=by rw[hl];exact h3
 refine h_ fun z=>?_
 rw[Az,Az]
 constructor
 ·rintro ⟨x,hx,rfl⟩
  obtain ⟨p,hp,rfl⟩:=(gU h h3' x).mp hx
  exact ⟨p,by rw[←hl];exact hp,k p⟩
 ·rintro ⟨p,hp,rfl⟩
  exact ⟨_,(gU h h3' _).mpr ⟨p,by rw[hl];exact hp,rfl⟩,(k p).symm⟩
end
theorem jb:∀l,ST.ltLs l l=false
 |[]=>rfl
 |a::l=>by rw[ST.ltLs,if_pos rfl];exact jb l
theorem oN:∀{x y z:List P2},ST.ltLs x y=true→ST.ltLs y z=true→ST.ltLs x z=true
 |[],[],_,h,_=>by cases h
 |[],_::_,[],_,k=>by cases k
 |[],_::_,_::_,_,_=>rfl
 |_::_,[],_,h,_=>by cases h
 |_::_,_::_,[],_,k=>by cases k
 |a::r,b::t,c::u,h,k=>by
  rw[ST.ltLs] at h k ⊢
  by_cases e:a=b
  ·rw[if_pos e] at h
   by_cases g:b=c
   ·rw[if_pos g] at k
    rw[if_pos (e.trans g)];exact oN h k
   ·rw[if_neg g] at k
    rw[if_neg (by rw[e];exact g),e];exact k
  ·rw[if_neg e] at h
   by_cases g:b=c
   ·rw[if_neg (by rw[←g];exact e),←g];exact h
   ·rw[if_neg g] at k
    have q:=ST.ltP_tr h k
    rw[if_neg (fun z=>by rw[z] at q;have:=ST.ltP_asy q;rw[q] at this;cases this)];exact q
theorem lN:∀{x y:List P2},ST.ltLs x y=false→ST.ltLs y x=false→x=y
 |[],[],_,_=>rfl
 |[],_::_,h,_=>by cases h
 |_::_,[],_,k=>by cases k
 |a::r,b::t,h,k=>by
  rw[ST.ltLs] at h k
  by_cases e:a=b
  ·rw[if_pos e] at h
   rw[if_pos e.symm] at k
   rw[e,lN h k]
  ·rw[if_neg e] at h
   rw[if_neg (Ne.symm e)] at k
   have:=ST.ltP_tot e h
   rw[k] at this;cases this
theorem lj (kf:Nat→List P2):∀n j,j≤n→ST.ltLs (kf j) (kf (L2.abK kf n))=false
 |0,j,h=>by
  obtain rfl:j=0:=by omega
  exact jb _
 |n+1,j,h=>by
  rw[L2.abK]
  by_cases e:ST.ltLs (kf (n+1)) (kf (L2.abK kf n))=true
  ·rw[if_pos e]
   rcases Ca j (n+1) with z |z
   ·have ih:=lj kf n j (by omega)
    cases q:ST.ltLs (kf j) (kf (n+1)) with
    |false=>rfl
    |true=>rw[oN q e] at ih;cases ih
   ·obtain rfl:j=n+1:=by omega
    exact jb _
  ·rw[if_neg e]
   rcases Ca j (n+1) with z |z
   ·exact lj kf n j (by omega)
   ·obtain rfl:j=n+1:=by omega
    simpa using e
structure Fm (l:List P2) (ms:List (List Int)) (x:List P2):Prop where
 mem:∃m∈ms,x=aj (l.map (apL m))
 low:∀m∈ms,ST.ltLs (aj (l.map (apL m))) x=false
theorem x8 {l:List P2}{a b c d e f:Int}{ms ms':List (List Int)}{x x':List P2} (h:a*d - b*c=1∨a*d - b*c=-1) (hl:aj l=l) (h3:3≤l.length) (W:nR l ms) (W':nR (aj (l.map (ap a b c d e f))) ms') (X:Fm l ms x) (X':Fm (aj (l.map (ap a b c d e f))) ms' x'):x'=x:=by
 have h3':3≤(aj l).length:=by rw[hl];exact h3
 have bk:=jS (e:=e) (f:=f) h hl h3
 refine lN ?_ ?_
 ·-- x is a shape of the moved field
  obtain ⟨m,hm,rfl⟩:=X.mem
  obtain ⟨m',hm',rfl⟩:=X'.mem
  obtain ⟨m2,hm2,k2⟩:=shp h hl h3 W W' m' hm'
  rw[lS h hl h3 k2]
  exact X.low m2 hm2
 ·obtain ⟨m,hm,rfl⟩:=X.mem
  have cc:aj (aj (l.map (ap a b c d e f)))=aj (l.map (ap a b c d e f)):=dw _
  have c3:3≤(aj (l.map (ap a b c d e f))).length:=lK h h3'
  unfold fi at bk
  have W2:nR (aj ((aj (l.map (ap a b c d e f))).map (ap ((a*d - b*c) *d) (-((a*d - b*c) *b)) (-((a*d - b*c) *c)) ((a*d - b*c) *a) (-((a*d - b*c) *d*e - (a*d - b*c) *b*f)) (-(-((a*d - b*c) *c) *e+(a*d - b*c) *a*f))))) ms:=by
   rw[show (fun p=>ap ((a*d - b*c) *d) (-((a*d - b*c) *b)) (-((a*d - b*c) *c)) ((a*d - b*c) *a) (-((a*d - b*c) *d*e - (a*d - b*c) *b*f)) (-(-((a*d - b*c) *c) *e+(a*d - b*c) *a*f)) p)=ap ((a*d - b*c) *d) (-((a*d - b*c) *b)) (-((a*d - b*c) *c)) ((a*d - b*c) *a) (-((a*d - b*c) *d*e - (a*d - b*c) *b*f)) (-(-((a*d - b*c) *c) *e+(a*d - b*c) *a*f)) from rfl] at bk
   rw[bk];exact W
  obtain ⟨m',hm',k⟩:=shp (nS h) cc c3 W' W2 m hm
  have:=X'.low m' hm'
  have q:=lS (nS h) cc c3 k
  rw[show (fun p=>ap ((a*d - b*c) *d) (-((a*d - b*c) *b)) (-((a*d - b*c) *c)) ((a*d - b*c) *a) (-((a*d - b*c) *d*e - (a*d - b*c) *b*f)) (-(-((a*d - b*c) *c) *e+(a*d - b*c) *a*f)) p)=ap ((a*d - b*c) *d) (-((a*d - b*c) *b)) (-((a*d - b*c) *c)) ((a*d - b*c) *a) (-((a*d - b*c) *d*e - (a*d - b*c) *b*f)) (-(-((a*d - b*c) *c) *e+(a*d - b*c) *a*f)) from rfl] at bk
  rw[bk] at q
  rw[q]
  exact this
theorem uf {pts:List P2}{A B C:P2} (hA:A∈pts) (hB:B∈pts) (hC:C∈pts) (hd:aq A B C≠0):3≤(aj pts).length:=by
 have key:∀c1 c2:P2,(∀c∈aj pts,c=c1∨c=c2)→∀a b:Int,wth a b c1=wth a b c2→∀p∈pts,wth a b p=wth a b c1:=fun c1 c2 hc a b e p hp=>by
  obtain ⟨x,hx,l1⟩:=jl a b hp
  obtain ⟨y,hy,l2⟩:=jl (-a) (-b) hp
  have n:∀q:P2,wth (-a) (-b) q=-wth a b q:=fun q=>by unfold wth;grind
  rw[n,n] at l2
  have wx:wth a b x=wth a b c1:=by rcases hc x hx with z |z <;>rw[z];exact e.symm
  have wy:wth a b y=wth a b c1:=by rcases hc y hy with z |z <;>rw[z];exact e.symm
  omega
 have flat:∀c1 c2:P2,(∀c∈aj pts,c=c1∨c=c2)→aq A B C=0:=fun c1 c2 hc=>by
  by_cases z:c1=c2
  ·subst z
   have e:∀p∈pts,p=c1:=fun p hp=>by
    have h1:=key c1 c1 hc 1 0 rfl p hp
    have h2:=key c1 c1 hc 0 1 rfl p hp
    unfold wth at h1 h2
    exact CZ (by omega) (by omega)
   rw[e A hA,e B hB]
   unfold aq;grind
  ·have h:=key c1 c2 hc (c1.2 - c2.2) (c2.1 - c1.1) (by unfold wth;grind)
   have hA':=h A hA
   have hB':=h B hB
   have hC':=h C hC
   unfold wth at hA' hB' hC'
   unfold aq
   have u:c1.2 - c2.2≠0∨c2.1 - c1.1≠0:=by
    by_cases w:c1.2 - c2.2=0
    ·right;intro w'
     exact z (CZ (by omega) (by omega))
    ·exact .inl w
   generalize c1.2 - c2.2=s at *
   generalize c2.1 - c1.1=t at *
   have k1:s*(B.1 - A.1)+t*(B.2 - A.2)=0:=by grind
   have k2:s*(C.1 - A.1)+t*(C.2 - A.2)=0:=by grind
   generalize B.1 - A.1=b1 at *
   generalize B.2 - A.2=b2 at *
   generalize C.1 - A.1=c1' at *
   generalize C.2 - A.2=c2' at *
   rcases u with u |u
   ·have:s*(b1*c2' - b2*c1')=0:=by grind
    exact (Ce.mp this).resolve_left u
   ·have:t*(b1*c2' - b2*c1')=0:=by grind
    exact (Ce.mp this).resolve_left u
 refine DM fun z=>hd ?_
 match h:aj pts,z with
 |[],_=>exact absurd h (pz (fun w=>by rw[w] at hA;cases hA))
 |[c1],_=>exact flat c1 c1 (fun c hc=>by rw[h] at hc;simp at hc;exact .inl hc)
 |[c1,c2],_=>exact flat c1 c2 (fun c hc=>by rw[h] at hc;simpa using hc)
 |_::_::_::_,z=>simp at z;omega
structure M6 where
 a:Int
 b:Int
 c:Int
 d:Int
 e:Int
 f:Int
abbrev M6.go (m:M6):P2→P2:=ap m.a m.b m.c m.d m.e m.f
abbrev M6.D (m:M6):Int:=m.a*m.d - m.b*m.c
abbrev M6.U (m:M6):Prop:=m.a*m.d - m.b*m.c=1∨m.a*m.d - m.b*m.c=-1
def M6.bk (m:M6):M6:=⟨(m.a*m.d - m.b*m.c) *m.d,-(m.a*m.d - m.b*m.c) *m.b,-(m.a*m.d - m.b*m.c) *m.c,(m.a*m.d - m.b*m.c) *m.a,-((m.a*m.d - m.b*m.c) *m.d*m.e+-(m.a*m.d - m.b*m.c) *m.b*m.f),-(-(m.a*m.d - m.b*m.c) *m.c*m.e+(m.a*m.d - m.b*m.c) *m.a*m.f)⟩
def M6.bh (m n:M6):M6:=⟨n.a*m.a+n.b*m.c,n.a*m.b+n.b*m.d,n.c*m.a+n.d*m.c,n.c*m.b+n.d*m.d,n.a*m.e+n.b*m.f+n.e,n.c*m.e+n.d*m.f+n.f⟩
def M6.one:M6:=⟨1,0,0,1,0,0⟩
theorem M6.bh_go (m n:M6) (p:P2):(m.bh n).go p=n.go (m.go p):=(lm _ _ _ _ _ _ _ _ _ _ _ _ p).symm
theorem M6.bh_U {m n:M6} (h:m.U) (k:n.U):(m.bh n).U:=by
 have:(m.bh n).a*(m.bh n).d - (m.bh n).b*(m.bh n).c=(m.a*m.d - m.b*m.c) *(n.a*n.d - n.b*n.c):=by unfold M6.bh;dsimp only;grind
 unfold M6.U
 rw[this]
 rcases h with h |h <;>rcases k with k |k <;>rw[h,k] <;>decide
theorem M6.bk_go {m:M6} (h:m.U) (p:P2):m.bk.go (m.go p)=p:=by
 have dd:(m.a*m.d - m.b*m.c) *(m.a*m.d - m.b*m.c)=1:=by rcases h with h |h <;>rw[h] <;>rfl
 unfold M6.bk M6.go ap
 generalize hD:m.a*m.d - m.b*m.c=D at *
 refine CZ ?_ ?_ <;>dsimp only
 ·have:D*m.d*(m.a*p.1+m.b*p.2+m.e)+-D*m.b*(m.c*p.1+m.d*p.2+m.f)+-(D*m.d*m.e+-D*m.b*m.f)=D*(m.a*m.d - m.b*m.c) *p.1:=by grind
  rw[this,hD,dd,BW]
 ·have:-D*m.c*(m.a*p.1+m.b*p.2+m.e)+D*m.a*(m.c*p.1+m.d*p.2+m.f)+-(-D*m.c*m.e+D*m.a*m.f)=D*(m.a*m.d - m.b*m.c) *p.2:=by grind
  rw[this,hD,dd,BW]
theorem M6.bk_U {m:M6} (h:m.U):m.bk.U:=by
 have:m.bk.a*m.bk.d - m.bk.b*m.bk.c=(m.a*m.d - m.b*m.c) *(m.a*m.d - m.b*m.c) *(m.a*m.d - m.b*m.c):=by unfold M6.bk;dsimp only;grind
 unfold M6.U
 rw[this]
 rcases h with h |h <;>rw[h] <;>decide
theorem M6.inj {m:M6} (h:m.U) {p q:P2} (k:m.go p=m.go q):p=q:=t9 h k
theorem g9 {α:Type} [DecidableEq α]:∀{l m:List α},l.Nodup→(∀x∈l,x∈m)→l.length≤m.length
 |[],m,_,_=>Bh _
 |a::l,m,h,s=>by
  obtain ⟨h1,h2⟩:=Ct.mp h
  have hm:=s a (by simp)
  have e:=g9 (l:=l) (m:=m.erase a) h2 fun x hx=>(ED (a:=x) (b:=a) (fun z=>h1 (by rw[←z];exact hx))).mpr (s x (Au _ hx))
  rw[DY hm] at e
  have:=CQ hm
  rw[A9];omega
theorem yZ {a b:P2} (h:ST.ltP a b=true):ST.srt [a,b]=[a,b]:=by
 refine ST.asc_srt ?_
 unfold ST.Asc
 simp[h]
theorem ij {a b:P2} (h:ST.ltP a b=true):aj [a,b]=[a,b]:=by
 unfold aj
 rw[yZ h]
 rfl
theorem qU {a b:P2} (h:a≠b):aj [a,b]=if ST.ltP a b=true then [a,b] else [b,a]:=by
 split
 ·rename_i k;exact ij k
 ·rename_i k
  have k':=ST.ltP_tot h (by simpa using k)
  rw[h_ (A:=[a,b]) (B:=[b,a]) (fun z=>by simp;exact Or.comm)]
  exact ij k'
theorem dJ {l:List P2} (h:aj l=l):l.Nodup:=by rw[←h];exact bS l
theorem lw {l:List P2}{m:M6} (u:m.U) (hl:aj l=l) (ne:l≠[]) (y:P2):y∈aj (l.map m.go)↔∃p∈l,m.go p=y:=by
 match l,hl,ne with
 |[p],_,_=>
  show y∈aj [m.go p]↔_
  rw[show aj [m.go p]=[m.go p] from rfl]
  simp[eq_comm]
 |[p,q],hl,_=>
  have nd:=dJ hl
  have hn:p≠q:=fun z=>by rw[z] at nd;simp at nd
  show y∈aj [m.go p,m.go q]↔_
  rw[qU (fun z=>hn (M6.inj u z))]
  split <;>simp[eq_comm,or_comm]
 |p::q::r::t,hl,_=>
  have h3:3≤(aj (p::q::r::t)).length:=by rw[hl];simp
  have:=gU (e:=m.e) (f:=m.f) u h3 y
  rw[hl] at this
  exact this
theorem tY {l:List P2}{m:M6} (u:m.U) (hl:aj l=l) (ne:l≠[]):(aj (l.map m.go)).length=l.length:=by
 have nd:=dJ hl
 have nm:(l.map m.go).Nodup:=DC _ (fun p q (h:p≠q) k=>h (M6.inj u k)) nd
 refine Gr ?_ ?_
 ·have:=g9 (bS (l.map m.go)) (m:=l.map m.go) fun x hx=>cf _ x hx
  rwa [Aq] at this
 ·have:=g9 nm (m:=aj (l.map m.go)) fun x hx=>by
   obtain ⟨p,hp,rfl⟩:=Az.mp hx
   exact (lw u hl ne _).mpr ⟨p,hp,rfl⟩
  rwa [Aq] at this
structure FP (l x:List P2) (m:M6):Prop where
 hl:aj l=l
 ne:l≠[]
 u:m.U
 ex:x=aj (l.map m.go)
 k:(l.length=1∧x=[(0,0)])∨(l.length=2∧∃g:Int,0 < g∧x=[(0,0),(g,0)])∨(3≤l.length∧∃ms,nR l ms∧Fm l ms x)
section
variable {l l' x x':List P2}{m m' N:M6}
theorem FP.mem (h:FP l x m) (y:P2):y∈x↔∃p∈l,m.go p=y:=by rw[h.ex];exact lw h.u h.hl h.ne y
theorem vE {g g':Int}{K:M6} (k0:K.go (0,0)=(0,0)∨K.go (0,0)=(g',0)) (k1:K.go (g,0)=(0,0)∨K.go (g,0)=(g',0)) (ne:K.go (0,0)≠K.go (g,0)):g ∣ g':=by
 have d:(K.go (g,0)).1 - (K.go (0,0)).1=g*K.a:=by unfold M6.go ap;dsimp only;grind
 rcases k0 with a |a <;>rcases k1 with b |b
 ·exact absurd (a.trans b.symm) ne
 ·rw[a,b] at d;exact ⟨K.a,by dsimp only at d;omega⟩
 ·rw[a,b] at d;exact ⟨-K.a,by dsimp only at d;rw[JJ];omega⟩
 ·exact absurd (a.trans b.symm) ne
theorem FP.same (h:FP l x m) (h':FP l' x' m') (u:N.U) (e:l'=aj (l.map N.go)):x'=x:=by
 have len:l'.length=l.length:=by rw[e];exact tY u h.hl h.ne
 have key:∀{l l' x x':List P2}{m m' N:M6}{g g':Int},FP l x m→FP l' x' m'→N.U→(∀q,q∈l'↔∃p∈l,N.go p=q)→0 < g→x=[(0,0),(g,0)]→x'=[(0,0),(g',0)]→g ∣ g':=fun {l l' x x' m m' N g g'} h h' u e gp ex ex'=>by
  have u2:((m.bk.bh N).bh m').U:=M6.bh_U (M6.bh_U (M6.bk_U h.u) u) h'.u
  have to:∀y∈x,((m.bk.bh N).bh m').go y∈x':=fun y hy=>by
   obtain ⟨p,hp,rfl⟩:=(h.mem y).mp hy
   rw[M6.bh_go,M6.bh_go,M6.bk_go h.u]
   exact (h'.mem _).mpr ⟨_,(e _).mpr ⟨p,hp,rfl⟩,rfl⟩
  refine vE (K:=(m.bk.bh N).bh m') (by simpa [ex'] using to (0,0) (by simp[ex])) (by simpa [ex'] using to (g,0) (by simp[ex])) fun z=>?_
  have:=congrArg En (M6.inj u2 z)
  dsimp only at this;omega
 have mm:∀q,q∈l'↔∃p∈l,N.go p=q:=fun q=>by rw[e];exact lw u h.hl h.ne q
 rcases h.k with ⟨n,ex⟩ |⟨n,g,gp,ex⟩ |⟨n,ms,G,F⟩ <;>rcases h'.k with ⟨n',ex'⟩ |⟨n',g',gp',ex'⟩ |⟨n',ms',G',F'⟩ <;>try omega
 ·rw[ex,ex']
 ·have d1:=key h h' u mm gp ex ex'
  have d2:=key h' h (M6.bk_U u) (fun q=>by
   constructor
   ·intro hq
    exact ⟨N.go q,(mm _).mpr ⟨q,hq,rfl⟩,M6.bk_go u q⟩
   ·rintro ⟨p,hp,rfl⟩
    obtain ⟨p',hp',rfl⟩:=(mm p).mp hp
    rw[M6.bk_go u];exact hp') gp' ex' ex
  have:g=g':=HI (by omega) (by omega) d1 d2
  rw[ex,ex',this]
 ·subst e
  exact x8 u h.hl n G G' F F'
theorem FP.conv (h:FP l x m) (h':FP l' x m') (q:P2):q∈l'↔∃p∈l,(m.bh m'.bk).go p=q:=by
 constructor
 ·intro hq
  have:=(h'.mem (m'.go q)).mpr ⟨q,hq,rfl⟩
  obtain ⟨p,hp,e⟩:=(h.mem _).mp this
  exact ⟨p,hp,by rw[M6.bh_go,e,M6.bk_go h'.u]⟩
 ·rintro ⟨p,hp,rfl⟩
  rw[M6.bh_go]
  obtain ⟨q,hq,e⟩:=(h'.mem _).mp ((h.mem (m.go p)).mpr ⟨p,hp,rfl⟩)
  rw[←e,M6.bk_go h'.u];exact hq
theorem FP.srt (h:FP l x m) (h':FP l' x m'):ST.srt (l.map (m.bh m'.bk).go)=ST.srt l':=iC fun z=>by
 rw[Az,h.conv h']
end
theorem wZ (m:M6) (A B C:P2):aq (m.go A) (m.go B) (m.go C)=(m.a*m.d - m.b*m.c) *aq A B C:=by
 unfold M6.go ap aq;dsimp only;grind
def M6.l (m:M6):List Int:=[m.a,m.b,m.c,m.d,m.e,m.f]
structure Sym (l l':List P2) (m:M6):Prop where
 u:m.U
 mem:∀q,q∈l'↔∃p∈l,m.go p=q
section
variable {l l' l'':List P2}{m n:M6}
theorem Sym.crn (hl':aj l'=l') (h:Sym l l' m):l'=aj (l.map m.go):=by
 rw[←hl']
 exact h_ fun z=>by rw[h.mem,Az]
theorem Sym.bk (h:Sym l l' m):Sym l' l m.bk:=⟨M6.bk_U h.u,fun q=>⟨fun hq=>⟨m.go q,(h.mem _).mpr ⟨q,hq,rfl⟩,M6.bk_go h.u q⟩,fun ⟨p,hp,e⟩=>by
 obtain ⟨p',hp',e'⟩:=(h.mem p).mp hp
 rw[←e,←e',M6.bk_go h.u];exact hp'⟩⟩
theorem Sym.to (h:Sym l l' m) {p:P2} (hp:p∈l):m.go p∈l':=(h.mem _).mpr ⟨p,hp,rfl⟩
theorem Sym.len (h:Sym l l' m) (n1:l.Nodup) (n2:l'.Nodup):l'.length=l.length:=by
 have one:∀{l l':List P2}{m:M6},Sym l l' m→l.Nodup→l.length≤l'.length:=fun {l l' m} h n1=>by
  have nm:(l.map m.go).Nodup:=DC _ (fun p q (z:p≠q) k=>z (M6.inj h.u k)) n1
  have:=g9 nm (m:=l') fun x hx=>by
   obtain ⟨p,hp,rfl⟩:=Az.mp hx
   exact h.to hp
  rwa [Aq] at this
 exact Gr (one h.bk n2) (one h n1)
theorem Sym.srt (h:Sym l l' m):ST.srt (l.map m.go)=ST.srt l':=iC fun z=>by rw[Az,h.mem]
theorem Sym.of_srt (u:m.U) (h:ST.srt (l.map m.go)=ST.srt l'):Sym l l' m:=⟨u,fun q=>by
 rw[←ST.srt_mem,←h,ST.srt_mem,Az]⟩
end
section
variable {l:List P2}{st ms:List (List Int)}{t:M6}
end
def frm (a b:P2):P2:=(b.1 - a.1,b.2 - a.2)
def trW (C A B:P2):Int:=(frm C A).1*(frm C B).2 - (frm C A).2*(frm C B).1
def trT (C A B C' A' B':P2):List Int:=[(frm C' A').1*(frm C B).2 - (frm C' B').1*(frm C A).2,(frm C' B').1*(frm C A).1 - (frm C' A').1*(frm C B).1,(frm C' A').2*(frm C B).2 - (frm C' B').2*(frm C A).2,(frm C' B').2*(frm C A).1 - (frm C' A').2*(frm C B).1]
def trM (C A B C' A' B':P2):M6:=⟨(trT C A B C' A' B').getD 0 0 / trW C A B,(trT C A B C' A' B').getD 1 0 / trW C A B,(trT C A B C' A' B').getD 2 0 / trW C A B,(trT C A B C' A' B').getD 3 0 / trW C A B,
 C'.1 - (trT C A B C' A' B').getD 0 0 / trW C A B*C.1 - (trT C A B C' A' B').getD 1 0 / trW C A B*C.2,C'.2 - (trT C A B C' A' B').getD 2 0 / trW C A B*C.1 - (trT C A B C' A' B').getD 3 0 / trW C A B*C.2⟩
def xT (C A B C' A' B':P2):Prop:=(∀x∈trT C A B C' A' B',x % trW C A B=0)∧(trM C A B C' A' B').U
theorem wt {C A B C' A' B':P2}{m:M6} (u:m.U) (w:trW C A B≠0) (e0:m.go C=C') (e1:m.go A=A') (e2:m.go B=B'):xT C A B C' A' B'∧trM C A B C' A' B'=m:=by
 subst e0 e1 e2
 have f:∀X:P2,frm (m.go C) (m.go X)=(m.a*(frm C X).1+m.b*(frm C X).2,m.c*(frm C X).1+m.d*(frm C X).2):=fun X=>by
  unfold frm M6.go ap;exact CZ (by dsimp only;grind) (by dsimp only;grind)
 have t:trT C A B (m.go C) (m.go A) (m.go B)=[trW C A B*m.a,trW C A B*m.b,trW C A B*m.c,trW C A B*m.d]:=by
  unfold trT
  rw[f A,f B]
  unfold trW
  generalize frm C A=p
  generalize frm C B=q
  dsimp only
  rw[CO,CO,CO,CO]
  exact ⟨by grind,by grind,by grind,by grind,rfl⟩
 have q:∀x:Int,trW C A B*x / trW C A B=x:=fun x=>Cy _ w
 have em:trM C A B (m.go C) (m.go A) (m.go B)=m:=by
  unfold trM
  rw[t]
  simp only[List.getD_cons_zero,List.getD_cons_succ]
  rw[q,q,q,q]
  obtain ⟨a,b,c,d,e,f⟩:=m
  unfold M6.go ap
  rw[M6.mk.injEq]
  dsimp only
  exact ⟨rfl,rfl,rfl,rfl,by omega,by omega⟩
 refine ⟨⟨fun x hx=>?_,by rw[em];exact u⟩,em⟩
 rw[t] at hx
 simp only[Ay,Bn,or_false] at hx
 rcases hx with e |e |e |e <;>rw[e] <;>exact Int.mul_emod_right _ _
def nbr (l:List P2) (i:Nat) (w:Bool):P2:=if w then gp l (nI l.length i) else gp l (pI l.length i)
def trO (l l':List P2) (i:Nat) (w:Bool):Prop:=xT (gp l 0) (gp l 1) (gp l (l.length - 1)) (gp l' i) (nbr l' i w) (nbr l' i (!w))
def trm (l l':List P2) (i:Nat) (w:Bool):M6:=trM (gp l 0) (gp l 1) (gp l (l.length - 1)) (gp l' i) (nbr l' i w) (nbr l' i (!w))
theorem o4 {l:List P2} (hl:aj l=l) (h3:3≤l.length):0 < trW (gp l 0) (gp l 1) (gp l (l.length - 1)):=by
 have h3':3≤(aj l).length:=by rw[hl];exact h3
 have:=jT h3' (dz h3') (i:=0) (by omega)
 rw[hl,ie (by omega),kl (by omega),if_pos rfl,if_neg (by omega)] at this
 unfold trW frm
 unfold aq at this
 dsimp only[JC] at *
 grind
theorem Sym.tried {l l':List P2}{m:M6} (hl:aj l=l) (h3:3≤l.length) (hl':aj l'=l') (S:Sym l l' m):∃i w,i < l'.length∧trO l l' i w∧trm l l' i w=m:=by
 have wp:=o4 hl h3
 have h3':3≤(aj l).length:=by rw[hl];exact h3
 have e:=S.crn hl'
 have n1:=tj (l:=l) (i:=0) (by omega)
 rw[ie (by omega),kl (by omega),if_pos rfl,if_neg (by omega)] at n1
 have nb:=vX (e:=m.e) (f:=m.f) S.u h3' (C:=gp l 0) (A:=gp l (l.length - 1)) (B:=gp l 1) (by rw[hl];exact .inl n1)
 have nb':Nb l' (m.go (gp l 0)) (m.go (gp l (l.length - 1))) (m.go (gp l 1)):=by rw[e];exact nb
 have nd:l'.Nodup:=dJ hl'
 rcases nb' with q |q
 ·obtain ⟨i,hi,e0,e1,e2⟩:=oF nd q
  refine ⟨i,true,hi,?_⟩
  unfold trO trm nbr
  exact wt S.u (by omega) e0 e2 e1
 ·obtain ⟨i,hi,e0,e1,e2⟩:=oF nd q
  refine ⟨i,false,hi,?_⟩
  unfold trO trm nbr
  exact wt S.u (by omega) e0 e1 e2
end
section
variable {P:AC}{w:World}{K:Ao}{mg:Str→Option Value}{base:Heap}
theorem rJ {m:Nat}{pts:List P2} (h:∀p∈pts,Szp m p):∀p∈ST.srt pts,Szp m p:=fun p hp=>h p ((ST.srt_mem p pts).mp hp)
theorem fA (row:List P2):(ak row).length≤row.length:=by
 have:=fQ row row.length
 rwa [Dk] at this
def nv:List U→Out→Prop:=fun us o=>∃pts:List P2,us=[lp pts]∧(∀p∈pts,Szp 5000 p)∧pts.length < 64∧pts≠[]∧o=.new ((aj pts).map pu)
theorem tV (T:Txt K mg):bA P w K mg base (CXF P w) 4 T.a_field T.d_field ["points"] (spU K (nv)):=by
 refine bB T.F_field fu (fun us o h=>?_) (fun cdv A outer s H E O us o hr h=>?_)
 ·obtain ⟨pts,rfl,sz,hl,hne,rfl⟩:=h
  rfl
 obtain ⟨pts,rfl,sz,hl,hne,rfl⟩:=h
 refine Ws.nox ?_
 have hml:((pts.map pu).length:Int)=(pts.length:Int):=by rw[Aq]
 have hpos:0 < pts.length:=DQ.mpr hne
 refine ae (cC (bg cT (aR (cP rfl) rfl T.z_len Bf (ac (aa 0 rfl) ao af)) ab) (by rw[hml];exact decide_eq_false (by omega)) (bi ?_))
 have sl:=ST.srt_len pts
 have hms:(((ST.srt pts).map pu).length:Int)=((ST.srt pts).length:Int):=by rw[Aq]
 have szs:=rJ sz
 by_cases h1:(ST.srt pts).length=1
 ·refine ae (ml (i:=1) fu.nd rfl (Or.inl rfl) (iD rfl (nY hr) rfl T.z_sorted rfl T.z_set (aa 0 rfl) hl af) ?_)
  refine ae (eA (bg cT (gM 1 rfl rfl T.z_len) ab) (by rw[hms];exact decide_eq_true (by omega)) ?_)
  refine ae (tq 1 rfl ?_)
  show Out.new _=Out.new _
  unfold aj
  rw[if_pos h1]
 ·refine ae (aA (i:=1) fu.nd rfl (Or.inl rfl) (EvN.ev (iD rfl (nY hr) rfl T.z_sorted rfl T.z_set (aa 0 rfl) hl af)) ?_)
  refine ae (cC (bg cT (aR (cP rfl) rfl T.z_len Bf (ac (aa 1 rfl) ao af)) ab) (by rw[hms];exact decide_eq_false (by omega)) (bi ?_))
  have b1:=fA (ST.srt pts)
  have b2:=fA (ST.srt pts).reverse
  rw[Bm] at b2
  refine ae (aA (i:=2) fu.nd rfl (Or.inl rfl) (EvN.ev (eZ ((gh T).mono (by decide)) hr rfl T.m_left_bends T.F_left_bends.kp T.b_left_bends ax (ac (aa 1 rfl) ao af) ⟨ST.srt pts,rfl,szs,by omega,rfl⟩)) ?_)
  refine ae (aA (i:=3) fu.nd rfl (Or.inl rfl) (EvN.ev (eZ ((gh T).mono (by decide)) hr rfl T.m_left_bends T.F_left_bends.kp T.b_left_bends ax (ac (EvN.ev (y9 (aa 1 rfl) (bU ab) (.inl rfl))) ao bu) ⟨(ST.srt pts).reverse,by rw[lp,Ci],fun p hp=>szs p (AM.mp hp),by rw[Bm];omega,rfl⟩)) ?_)
  refine ae (nF (mY (EvN.ev (e7 (aa 2 rfl) gv (gL (bU ab)) (.inl rfl))) (EvN.ev (e7 (aa 3 rfl) gv (gL (bU ab)) (.inl rfl))) (by rw[gH,gH,Aq,Aq,CA,CA,Bm,Bm];exact BX (bC (by omega)))) ?_)
  show Out.new _=Out.new _
  unfold aj
  rw[if_neg h1,gH,gH,←BO]
def kq:List U→Out→Prop:=fun us o=>∃(pts:List P2) (a b c d e f:Int),us=[lp pts,mv a b c d e f]∧Mv a b c d e f∧(∀p∈pts,Szp 3000 p)∧(∀p∈pts,Szp 5000 (ap a b c d e f p))∧pts≠[]∧pts.length < 64∧o=.new ((aj (pts.map (ap a b c d e f))).map pu)
theorem cj (T:Txt K mg):bA P w K mg base (CXF P w) 5 T.a_field_moved T.d_field_moved ["land","move"] (spU K (kq)):=by
 refine bB T.F_field_moved fC (fun us o h=>?_) (fun cdv A outer s H E O us o hr h=>?_)
 ·obtain ⟨pts,a,b,c,d,e,f,rfl,M,sz,sy,hne,hl,rfl⟩:=h
  rfl
 obtain ⟨pts,a,b,c,d,e,f,rfl,M,sz,sy,hne,hl,rfl⟩:=h
 refine Ws.nox ?_
 refine ae (nF (eZ ((tV T).mono (by decide)) hr rfl T.m_field T.F_field.kp T.b_field ax (ac (EvN.ev (iE (ys:=(pts.map fun p=>pu (ap a b c d e f p))) rfl (blk (ai bK) ["land","move","P"] [2] rfl rfl rfl rfl (by decide+kernel)) (dB (aa 0 rfl) (.inl rfl)) (fun _ _ _ _=>bF (i:=2) fC.nd rfl (Or.inl rfl)) (dE (by decide)) ?clen ?csz (fun _ _=>trivial) ?celt)) ao fU) ⟨pts.map (ap a b c d e f),by rw[lp,Bp];rfl,fun p hp=>by obtain ⟨q,hq,rfl⟩:=Az.mp hp;exact sy q hq,by rw[Aq];exact hl,by simpa using hne,rfl⟩) ?_)
 case clen=>simp
 case csz=>rw[Aq];exact BX (bC (by omega))
 case celt=>
  intro C s' H' fp j x y hx hy
  obtain ⟨p,hp,mp,rfl,rfl⟩:=iW hx hy
  exact (ar ((eK T).mono (by decide)) hr rfl T.m_moved T.F_moved.kp T.b_moved ax (ac (aa 2 rfl) (ac (aa 1 rfl) ao af) af) ⟨p.1,p.2,a,b,c,d,e,f,rfl,M,(sz p mp).1.mono (by decide),(sz p mp).2.mono (by decide),rfl⟩)
 exact rfl
end
section
variable {P:AC}{w:World}{K:Ao}{mg:Str→Option Value}{base:Heap}
structure SM (C A B:P2) (a b c d e f:Int) (g u v s t s1 t1 k q x y:Int):Prop where
 L:LvG C A g u v s t s1 t1
 hx:x=s*B.1+t*B.2+(-s*C.1 - t*C.2)
 hy:y=-v*B.1+u*B.2+(v*C.1 - u*C.2)
 hk:(k=1∧0 < y)∨(k=-1∧y < 0)
 hq:q=x / (k*y)
 ea:a=s - q*(k* -v)
 eb:b=t - q*(k*u)
 ec:c=k* -v
 ed:d=k*u
 ee:e=(-s*C.1 - t*C.2) - q*(k*(v*C.1 - u*C.2))
 ef:f=k*(v*C.1 - u*C.2)
def SMx (C A B:P2) (a b c d e f:Int):Prop:=∃g u v s t s1 t1 k q x y,SM C A B a b c d e f g u v s t s1 t1 k q x y
theorem v3 {C A B:P2} (h:C≠A) (hd:aq C A B≠0):∃a b c d e f,SMx C A B a b c d e f:=by
 obtain ⟨g,u,v,s,t,s1,t1,L⟩:=sj h
 have gp:0 < g:=by have:=L.G.g0;have:=L.gn;omega
 have e1:A.1 - C.1=g*u:=by rw[L.hu];exact (CB L.G.da).symm
 have e2:A.2 - C.2=g*v:=by rw[L.hv];exact (CB L.G.db).symm
 have yn:-v*B.1+u*B.2+(v*C.1 - u*C.2)≠0:=fun z=>hd (by
  unfold aq
  rw[e1,e2]
  have:g*u*(B.2 - C.2) - g*v*(B.1 - C.1)=g*(-v*B.1+u*B.2+(v*C.1 - u*C.2)):=by grind
  rw[this,z,Df])
 by_cases yp:0 < -v*B.1+u*B.2+(v*C.1 - u*C.2)
 ·exact ⟨_,_,_,_,_,_,g,u,v,s,t,s1,t1,1,_,_,_,L,rfl,rfl,.inl ⟨rfl,yp⟩,rfl,rfl,rfl,rfl,rfl,rfl,rfl⟩
 ·exact ⟨_,_,_,_,_,_,g,u,v,s,t,s1,t1,-1,_,_,_,L,rfl,rfl,.inr ⟨rfl,by omega⟩,rfl,rfl,rfl,rfl,rfl,rfl,rfl⟩
section
variable {C A B:P2}{a b c d e f g u v s t s1 t1 k q x y:Int}
theorem SM.stn (h:SM C A B a b c d e f g u v s t s1 t1 k q x y):Stn C A B a b c d e f:=by
 have gp:0 < g:=by have:=h.L.G.g0;have:=h.L.gn;omega
 have e1:A.1 - C.1=g*u:=by rw[h.L.hu];exact (CB h.L.G.da).symm
 have e2:A.2 - C.2=g*v:=by rw[h.L.hv];exact (CB h.L.G.db).symm
 rw[h.ea,h.eb,h.ec,h.ed,h.ee,h.ef]
 refine xW gp e1 e2 h.L.G1.eq h.hx h.hy ?_ ?_ h.hq
 ·rcases h.hk with ⟨z,_⟩ |⟨z,_⟩
  ·exact .inl z
  ·exact .inr z
 ·rcases h.hk with ⟨z,w⟩ |⟨z,w⟩ <;>rw[z] <;>omega
structure SMz (m:Nat) (u v s t x y e0 f0 q:Int):Prop where
 u:Sz (m+1) u
 v:Sz (m+1) v
 s:Sz (m+9) s
 t:Sz (2*m+10) t
 e0:Sz (3*m+11) e0
 f0:Sz (2*m+2) f0
 x:Sz (3*m+13) x
 y:Sz (2*m+4) y
 q:Sz (3*m+13) q
theorem SM.sz {m:Nat} (h:SM C A B a b c d e f g u v s t s1 t1 k q x y) (zC:Szp m C) (zA:Szp m A) (zB:Szp m B):SMz m u v s t x y (-s*C.1 - t*C.2) (v*C.1 - u*C.2) q:=by
 have zu:Sz (m+1) u:=by rw[h.L.hu];exact ((L2.Sz.sub' zA.1 zC.1).mono (by omega):Sz (m+1) _).ediv
 have zv:Sz (m+1) v:=by rw[h.L.hv];exact ((L2.Sz.sub' zA.2 zC.2).mono (by omega):Sz (m+1) _).ediv
 obtain ⟨_,zs,zt⟩:=i6 h.L.G1 zu zv
 have ze:Sz (3*m+11) (-s*C.1 - t*C.2):=(L2.Sz.sub' (L2.Sz.mul (L2.Sz.neg zs) zC.1) (L2.Sz.mul zt zC.2)).mono (by omega)
 have zf:Sz (2*m+2) (v*C.1 - u*C.2):=(L2.Sz.sub' (L2.Sz.mul zv zC.1) (L2.Sz.mul zu zC.2)).mono (by omega)
 have zx:Sz (3*m+13) x:=by rw[h.hx];exact (L2.Sz.add' (L2.Sz.add' (L2.Sz.mul zs zB.1) (L2.Sz.mul zt zB.2)) ze).mono (by omega)
 have zy:Sz (2*m+4) y:=by rw[h.hy];exact (L2.Sz.add' (L2.Sz.add' (L2.Sz.mul (L2.Sz.neg zv) zB.1) (L2.Sz.mul zu zB.2)) zf).mono (by omega)
 exact ⟨zu,zv,zs.mono (by omega),zt.mono (by omega),ze,zf,zx,zy,by rw[h.hq];exact zx.ediv⟩
theorem SM.k1 (h:SM C A B a b c d e f g u v s t s1 t1 k q x y):Sz 1 k:=by
 rcases h.hk with ⟨z,_⟩ |⟨z,_⟩ <;>rw[z] <;>decide
structure Mz (m:Nat) (a b c d e f:Int):Prop where
 u:a*d - b*c=1∨a*d - b*c=-1
 a:Sz (4*m+16) a
 b:Sz (4*m+16) b
 c:Sz (m+2) c
 d:Sz (m+2) d
 e:Sz (5*m+17) e
 f:Sz (2*m+3) f
theorem SM.mz {m:Nat} (h:SM C A B a b c d e f g u v s t s1 t1 k q x y) (zC:Szp m C) (zA:Szp m A) (zB:Szp m B):Mz m a b c d e f:=by
 have Z:=h.sz zC zA zB
 have zk:=h.k1
 refine ⟨h.stn.dt,?_,?_,?_,?_,?_,?_⟩
 ·rw[h.ea];exact (L2.Sz.sub' Z.s (L2.Sz.mul Z.q (L2.Sz.mul zk (L2.Sz.neg Z.v)))).mono (by omega)
 ·rw[h.eb];exact (L2.Sz.sub' Z.t (L2.Sz.mul Z.q (L2.Sz.mul zk Z.u))).mono (by omega)
 ·rw[h.ec];exact (L2.Sz.mul zk (L2.Sz.neg Z.v)).mono (by omega)
 ·rw[h.ed];exact (L2.Sz.mul zk Z.u).mono (by omega)
 ·rw[h.ee];exact (L2.Sz.sub' Z.e0 (L2.Sz.mul Z.q (L2.Sz.mul zk Z.f0))).mono (by omega)
 ·rw[h.ef];exact (L2.Sz.mul zk Z.f0).mono (by omega)
theorem Mz.mv {m:Nat} (h:Mz m a b c d e f) (hm:m≤1000):Mv a b c d e f:=
 ⟨h.u,h.a.mono (by omega),h.b.mono (by omega),h.c.mono (by omega),h.d.mono (by omega),h.e.mono (by omega),h.f.mono (by omega)⟩
theorem Mz.ap {m:Nat} (h:Mz m a b c d e f) {p:P2} (z:Szp m p):Szp (5*m+30) (ap a b c d e f p):=
 ⟨(L2.Sz.add' (L2.Sz.add' (L2.Sz.mul h.a z.1) (L2.Sz.mul h.b z.2)) h.e).mono (by omega),(L2.Sz.add' (L2.Sz.add' (L2.Sz.mul h.c z.1) (L2.Sz.mul h.d z.2)) h.f).mono (by omega)⟩
end
theorem xX (a b c d e f:Int):beh a b c d e f 1 0 0 (-1) 0 0=mv a b (-c) (-d) e (-f):=by
 unfold beh
 rw[show (1*a+0*c:Int)=a by omega,show (1*b+0*d:Int)=b by omega,show (0*a+-1*c:Int)=-c by omega,show (0*b+-1*d:Int)=-d by omega,show (1*e+0*f+0:Int)=e by omega,show (0*e+-1*f+0:Int)=-f by omega]
theorem rg (a b c d e f q:Int):beh a b c d e f 1 (-q) 0 1 0 0=mv (a - q*c) (b - q*d) c d (e - q*f) f:=by
 unfold beh
 rw[show (1*a+-q*c:Int)=a - q*c by grind,show (1*b+-q*d:Int)=b - q*d by grind,show (0*a+1*c:Int)=c by omega,show (0*b+1*d:Int)=d by omega,show (1*e+-q*f+0:Int)=e - q*f by grind,show (0*e+1*f+0:Int)=f by omega]
theorem xP:Mv 1 0 0 (-1) 0 0:=by
 have k:∀{x:Int},Sz 8 x→Sz 30000 x:=fun h=>h.mono (by decide)
 exact ⟨.inr (by decide),k (by decide),k (by decide),k (by decide),k (by decide),k (by decide),k (by decide)⟩
theorem sQ {q:Int} (z:Sz 4000 q):Mv 1 (-q) 0 1 0 0:=by
 have k:∀{x:Int},Sz 8 x→Sz 30000 x:=fun h=>h.mono (by decide)
 exact ⟨.inl (by omega),k (by decide),(L2.Sz.neg z).mono (by decide),k (by decide),k (by decide),k (by decide),k (by decide)⟩
def oo:List U→Out→Prop:=fun us o=>∃(C A B:P2) (a b c d e f:Int),us=[pu C,pu A,pu B]∧Szp 400 C∧Szp 400 A∧Szp 400 B∧SMx C A B a b c d e f∧o=.val (mv a b c d e f)
theorem lD (T:Txt K mg):bA P w K mg base (CXF P w) 6 T.a_stand T.d_stand ["corner","along","aside"] (spU K (oo)):=by
 refine bB T.F_stand ft (fun us o h=>?_) (fun cdv A outer s H E O us o hr h=>?_)
 ·obtain ⟨C,A,B,a,b,c,d,e,f,rfl,zC,zA,zB,⟨g,u,v,s',t,s1,t1,k,q,x,y,S⟩,rfl⟩:=h
  rfl
 obtain ⟨C,A,B,a,b,c,d,e,f,rfl,zC,zA,zB,⟨g,u,v,s',t,s1,t1,k,q,x,y,S⟩,rfl⟩:=h
 refine Ws.nox ?_
 have Z:=S.sz zC zA zB
 have L:=S.L
 have e1:=L.G1
 rw[L.hu,L.hv] at e1
 have two:uS C.1 C.2 A.1 A.2:=⟨zC.1.mono (by decide),zC.2.mono (by decide),zA.1.mono (by decide),zA.2.mono (by decide)⟩
 have M0:Mv s' t (-v) u (-s'*C.1 - t*C.2) (v*C.1 - u*C.2):=⟨.inl (by have:=L.G1.eq;grind),Z.s.mono (by decide),Z.t.mono (by decide),(L2.Sz.neg Z.v).mono (by decide),Z.u.mono (by decide),Z.e0.mono (by decide),Z.f0.mono (by decide)⟩
 have b1:Sz 30000 B.1:=zB.1.mono (by decide)
 have b2:Sz 30000 B.2:=zB.2.mono (by decide)
 have hx:=S.hx
 have hy:=S.hy
 have hq:=S.hq
 have zy:=Z.y
 have zq:=Z.q
 have key:=S
 refine ae (aA (i:=3) ft.nd rfl (Or.inl rfl) (ar ((mX T).mono (by decide)) hr rfl T.m_level T.F_level.kp T.b_level ax (ac (aa 0 rfl) (ac (aa 1 rfl) ao af) af) ⟨C.1,C.2,A.1,A.2,g,s1,t1,s',t,rfl,two,L.G,L.gn,e1,rfl⟩) ?_)
 rw[←L.hu,←L.hv]
 rcases S.hk with ⟨hk,yp⟩ |⟨hk,yn⟩
 ·subst hk
  refine ae (cC (bg pV (au (ar ((eK T).mono (by decide)) hr rfl T.m_moved T.F_moved.kp T.b_moved ax (ac (aa 2 rfl) (ac (aa 3 rfl) ao af) af) ⟨B.1,B.2,s',t,-v,u,_,_,rfl,M0,b1,b2,rfl⟩) ab rfl rfl) ab) (decide_eq_false (show ¬ (-v*B.1+u*B.2+(v*C.1 - u*C.2) < 0) by rw[←hy];omega)) (bi ?_))
  refine ae (aA (i:=4) ft.nd rfl (Or.inl rfl) (ar ((eK T).mono (by decide)) hr rfl T.m_moved T.F_moved.kp T.b_moved ax (ac (aa 2 rfl) (ac (aa 3 rfl) ao af) af) ⟨B.1,B.2,s',t,-v,u,_,_,rfl,M0,b1,b2,rfl⟩) ?_)
  rw[←hx,←hy]
  rw[BW] at hq
  refine ae (a_ (ar ((fX T).mono (by decide)) hr rfl T.m_behind T.F_behind.kp T.b_behind ax (ac (aa 3 rfl) (ac (aN (ag ab (ag (bU (eI (au (aa 4 rfl) ab rfl rfl) (au (aa 4 rfl) ab rfl rfl) ⟨yp,zy.mono (by decide)⟩)) (ag ab (ag ab (ag ab (ag ab aM ay) ay) ay) ay) dZ) ay)) ao bH) af) ⟨s',t,-v,u,_,_,1,-(x / y),0,1,0,0,rfl,M0,sQ (by rw[←hq];exact zq.mono (by decide)),rfl⟩) ?_)
  rw[←hq]
  refine congrArg Out.val ((rg _ _ _ _ _ _ _).trans ?_)
  rw[S.ea,S.eb,S.ec,S.ed,S.ee,S.ef,BW,BW,BW]
 ·subst hk
  have yy:-1*y=-y:=by omega
  rw[yy] at hq
  have M1:Mv s' t (- -v) (-u) (-s'*C.1 - t*C.2) (-(v*C.1 - u*C.2)):=⟨.inr (by have:=L.G1.eq;grind),M0.a,M0.b,L2.Sz.neg M0.c,L2.Sz.neg M0.d,M0.e,L2.Sz.neg M0.f⟩
  refine ae (eA (bg pV (au (ar ((eK T).mono (by decide)) hr rfl T.m_moved T.F_moved.kp T.b_moved ax (ac (aa 2 rfl) (ac (aa 3 rfl) ao af) af) ⟨B.1,B.2,s',t,-v,u,_,_,rfl,M0,b1,b2,rfl⟩) ab rfl rfl) ab) (decide_eq_true (show -v*B.1+u*B.2+(v*C.1 - u*C.2) < 0 by rw[←hy];exact yn)) ?_)
  refine ae (aA (i:=3) ft.nd rfl (Or.inl rfl) (ar ((fX T).mono (by decide)) hr rfl T.m_behind T.F_behind.kp T.b_behind ax (ac (aa 3 rfl) (ac (aN (ag ab (ag ab (ag ab (ag (bU ab) (ag ab (ag ab aM ay) ay) dZ) ay) ay) ay)) ao bH) af) ⟨s',t,-v,u,_,_,1,0,0,-1,0,0,rfl,M0,xP,(congrArg Out.val (xX _ _ _ _ _ _)).symm⟩) (bi ?_))
  have hy2:- -v*B.1+-u*B.2+-(v*C.1 - u*C.2)=-y:=by rw[hy];grind
  refine ae (aA (i:=4) ft.nd rfl (Or.inl rfl) (ar ((eK T).mono (by decide)) hr rfl T.m_moved T.F_moved.kp T.b_moved ax (ac (aa 2 rfl) (ac (aa 3 rfl) ao af) af) ⟨B.1,B.2,s',t,- -v,-u,_,_,rfl,M1,b1,b2,rfl⟩) ?_)
  rw[←hx,hy2]
  refine ae (a_ (ar ((fX T).mono (by decide)) hr rfl T.m_behind T.F_behind.kp T.b_behind ax (ac (aa 3 rfl) (ac (aN (ag ab (ag (bU (eI (au (aa 4 rfl) ab rfl rfl) (au (aa 4 rfl) ab rfl rfl) ⟨(by omega),(L2.Sz.neg zy).mono (by decide)⟩)) (ag ab (ag ab (ag ab (ag ab aM ay) ay) ay) ay) dZ) ay)) ao bH) af) ⟨s',t,- -v,-u,_,_,1,-(x / -y),0,1,0,0,rfl,M1,sQ (by rw[←hq];exact zq.mono (by decide)),rfl⟩) ?_)
  rw[←hq]
  refine congrArg Out.val ((rg _ _ _ _ _ _ _).trans ?_)
  rw[S.ea,S.eb,S.ec,S.ed,S.ee,S.ef,show -1* -v=- -v by omega,show -1*u=-u by omega,show -1*(v*C.1 - u*C.2)=-(v*C.1 - u*C.2) by omega]
end
section
variable {P:AC}{w:World}{K:Ao}{mg:Str→Option Value}{base:Heap}
theorem tD {l:List P2} (h:0 < l.length):gD (l.map pu) (some (-1)) none++gD (l.map pu) none (some (-1))=((Bj l.length).map fun i=>gp l (pI l.length i)).map pu:=by
 rw[gH]
 have e:gD (l.map pu) (some (-1)) none=[pu (gp l (l.length - 1))]:=by
  unfold gD HT.sIx
  have e2:l=l.dropLast++[gp l (l.length - 1)]:=by
   have hne:l≠[]:=fun z=>by rw[z] at h;simp at h
   have:=(List.dropLast_concat_getLast hne).symm
   rw[List.getLast_eq_getElem] at this
   have g:gp l (l.length - 1)=l[l.length - 1]:=by
    show l.getD (l.length - 1) (0,0)=_
    rw[Ax,Am (by omega)];rfl
   rw[g];exact this
  have e3:((-1:Int)+((l.map pu).length:Int)).toNat=l.length - 1:=by rw[Aq];omega
  simp only[show ((-1:Int) < 0)=True by simp,if_true,e3]
  rw[Aq,←Jo]
  have e4:l.drop (l.length - 1)=[gp l (l.length - 1)]:=by
   have:=congrArg (JQ (l.length - 1)) e2
   rw[this,List.drop_append_of_le_length (by simp),List.drop_eq_nil_of_le (by simp)];rfl
  rw[e4]
  show JP (l.length - (l.length - 1)) [pu (gp l (l.length - 1))]=_
  rw[show l.length - (l.length - 1)=1 by omega];rfl
 rw[e]
 apply Cq
 intro i
 by_cases hi:i < l.length
 ·rw[Bp,Av,DR hi]
  show _=some (pu (gp l (pI l.length i)))
  rw[ie hi]
  match i,hi with
  |0,hi=>rfl
  |i+1,hi=>
   rw[if_neg (by omega)]
   show (List.map pu l.dropLast)[i]?=_
   rw[Av,CP,if_pos (by omega)]
   rw[show i+1 - 1=i by omega,fv (show i < l.length by omega)];rfl
 ·rw[AU (by simp;omega),AU (by simp;omega)]
theorem rE {l:List P2} (h:0 < l.length):gD (l.map pu) (some 1) none++gD (l.map pu) none (some 1)=((Bj l.length).map fun i=>gp l (nI l.length i)).map pu:=by
 rw[yB,yo]
 apply Cq
 intro i
 by_cases hi:i < l.length
 ·rw[Bp,Av,DR hi]
  show _=some (pu (gp l (nI l.length i)))
  rw[kl hi]
  by_cases k:i+1=l.length
  ·rw[if_pos k,A0 (by simp;omega),Hy,Aq,show i - (l.length - 1)=0 by omega,List.getElem?_take,if_pos (by decide),Av,fv h];rfl
  ·rw[if_neg k,A7 (by simp;omega),Dt,Av,show 1+i=i+1 by omega,fv (show i+1 < l.length by omega)];rfl
 ·rw[AU (by simp;omega),AU (by simp;omega)]
structure Gen (l:List P2) (F G:Nat→List Int):Prop where
 n3:3≤l.length
 n64:l.length≤31
 nd:l.Nodup
 sz:∀p∈l,Szp 400 p
 F:∀i,i < l.length→∃a b c d e f,F i=[a,b,c,d,e,f]∧SMx (gp l i) (gp l (pI l.length i)) (gp l (nI l.length i)) a b c d e f
 G:∀i,i < l.length→∃a b c d e f,G i=[a,b,c,d,e,f]∧SMx (gp l i) (gp l (nI l.length i)) (gp l (pI l.length i)) a b c d e f
def msU (n:Nat) (F G:Nat→List Int):List (List Int):=(Bj (2*n)).map fun x=>if x % 2=0 then F (x / 2) else G (x / 2)
theorem Gen.all {l:List P2}{F G:Nat→List Int} (h:Gen l F G):All l (msU l.length F G):=by
 refine xM h.nd h.n3 F G (fun i hi=>?_) (fun i hi=>?_)
 ·obtain ⟨a,b,c,d,e,f,e1,g,u,v,s,t,s1,t1,k,q,x,y,S⟩:=h.F i hi
  exact ⟨a,b,c,d,e,f,e1,S.stn⟩
 ·obtain ⟨a,b,c,d,e,f,e1,g,u,v,s,t,s1,t1,k,q,x,y,S⟩:=h.G i hi
  exact ⟨a,b,c,d,e,f,e1,S.stn⟩
theorem rq (n:Nat) (F G:Nat→List Int):msU (n+1) F G=msU n F G++[F n]++[G n]:=by
 unfold msU
 rw[show 2*(n+1)=2*n+1+1 by omega,Iq,Iq,BO,BO]
 congr 1
 ·congr 1
  show [if 2*n % 2=0 then F (2*n / 2) else G (2*n / 2)]=_
  rw[if_pos (by omega),show 2*n / 2=n by omega]
 ·show [if (2*n+1) % 2=0 then F ((2*n+1) / 2) else G ((2*n+1) / 2)]=_
  rw[if_neg (by omega),show (2*n+1) / 2=n by omega]
theorem i7 (n:Nat) (F G:Nat→List Int):(msU n F G).length=2*n:=by unfold msU;simp
def lI:List U→Out→Prop:=fun us o=>∃(l:List P2) (F G:Nat→List Int),us=[lp l]∧Gen l F G∧o=.new ((ST6.srtL (msU l.length F G)).map sxU)
theorem qo (T:Txt K mg):bA P w K mg base (CXF P w) 7 T.a_stands T.d_stands ["land"] (spU K (lI)):=by
 refine bB T.F_stands d_ (fun us o h=>?_) (fun cdv A outer s H E O us o hr h=>?_)
 ·obtain ⟨l,F,G,rfl,W,rfl⟩:=h
  rfl
 obtain ⟨l,F,G,rfl,W,rfl⟩:=h
 refine Ws.nox ?_
 have n3:=W.n3
 have n64:=W.n64
 have n0:0 < l.length:=by omega
 have q1:=tD n0
 have q2:=rE n0
 refine ae (cC (bg pV (aR (cP rfl) rfl T.z_len Bf (ac (aa 0 rfl) ao af)) ab) (by rw[Aq];exact decide_eq_false (by omega)) (bi ?_))
 refine ae (ml (i:=1) d_.nd rfl (Or.inl rfl) (dX aM) ?_)
 refine ae (vz (fun i:Nat=>[some (.val (lp l)),some (.own ((msU i F G).map sxU)),none,none,none]) (fun i j=>i=j) rfl PassesOwn.never (x_ rfl T.z_zip (EvN.ev (mY (EvN.ev (e7 (aa 0 rfl) (gL (bU ab)) gv (.inl rfl))) (EvN.ev (e7 (aa 0 rfl) gv (gL (bU ab)) (.inl rfl))) (by rw[←Bx,q1];simp;exact BX (bC (by omega))))) (.inl rfl) (aa 0 rfl) (.inl rfl) (EvN.ev (mY (EvN.ev (e7 (aa 0 rfl) (gL ab) gv (.inl rfl))) (EvN.ev (e7 (aa 0 rfl) gv (gL ab) (.inl rfl))) (by rw[←Bx,q2];simp;exact BX (bC (by omega))))) (.inl rfl) (by rw[q1];simp) (by rw[q1,q2];simp) be af be) ?h0 ?hs ?hd)
 case h0=>exact ⟨0,rfl,rfl,rfl,trivial⟩
 case hs=>
  rintro H0 i x _ hx rfl
  rw[q1,q2] at hx
  have hi:i < l.length:=by
   have:=aP hx
   rwa [fW (by simp) (by simp),Aq,Aq,Ef] at this
  have at1:∀(f:Nat→P2),(((Bj l.length).map f).map pu)[i]?=some (pu (f i)):=fun f=>by rw[Bp,Av,DR hi];rfl
  have at2:(l.map pu)[i]?=some (pu (gp l i)):=by rw[Av,fv hi];rfl
  rw[jv (at1 _) at2 (at1 _)] at hx
  cases hx
  have zc:=W.sz _ (bY hi)
  have zp:=W.sz _ (bY (j4 hi))
  have zn:=W.sz _ (bY (oK hi))
  obtain ⟨a,b,c,d,e,f,eF,SF⟩:=W.F i hi
  obtain ⟨a',b',c',d',e',f',eG,SG⟩:=W.G i hi
  refine ⟨_,(ud [2,3,4] rfl (ci (bF (i:=2) d_.nd rfl (Or.inl rfl)) (ci (bF (i:=3) d_.nd rfl (Or.inl rfl)) (ci (bF (i:=4) d_.nd rfl (Or.inl rfl)) iU))) rfl),?_⟩
  refine ae (fG 1 rfl (ar ((lD T).mono (by decide)) hr rfl T.m_stand T.F_stand.kp T.b_stand ax (ac (aa 3 rfl) (ac (aa 2 rfl) (ac (aa 4 rfl) ao af) af) af) ⟨_,_,_,a,b,c,d,e,f,rfl,zc,zp,zn,SF,rfl⟩) (by rw[Aq,i7];exact bC (by omega)) ?_)
  refine ae (fG 1 rfl (ar ((lD T).mono (by decide)) hr rfl T.m_stand T.F_stand.kp T.b_stand ax (ac (aa 3 rfl) (ac (aa 4 rfl) (ac (aa 2 rfl) ao af) af) af) ⟨_,_,_,a',b',c',d',e',f',rfl,zc,zn,zp,SG,rfl⟩) (by rw[Bx,Aq,i7];exact bC (by simp;omega)) (bi ?_))
  refine ⟨i+1,rfl,rfl,?_,trivial⟩
  refine congrArg (fun z=>some (Sl.own z)) ?_
  rw[rq,BO,BO,eF,eG];rfl
 case hd=>
  rintro q ps hq hps
  refine eT ?_ hps
  have:q=l.length:=by rw[←hq,q1,q2,fW (by simp) (by simp)];simp
  subst this
  have A:=W.all
  refine nX 1 rfl ?_
  refine ae (nF (rD rfl T.z_sorted (aa 1 rfl) ⟨by rw[i7];omega,A.nodup,A.six⟩ af) ?_)
  exact rfl
end
section
variable {P:AC}{w:World}{K:Ao}{mg:Str→Option Value}{base:Heap}
def stL (l:List P2) (F G:Nat→List Int):List (List Int):=ST6.srtL (msU l.length F G)
def shK (l:List P2) (F G:Nat→List Int) (j:Nat):List P2:=aj (l.map (apL ((stL l F G).getD j [])))
def iK (l:List P2) (F G:Nat→List Int):Nat:=abK (shK l F G) ((stL l F G).length - 1)
def pH (l:List P2) (F G:Nat→List Int):List Int:=(stL l F G).getD (iK l F G) []
theorem nq {α:Type} [DecidableEq α]:∀{l m:List α},l.Nodup→(∀x∈l,x∈m)→l.length≤m.length
 |[],m,_,_=>Bh _
 |a::l,m,h,s=>by
  obtain ⟨h1,h2⟩:=Ct.mp h
  have hm:=s a (by simp)
  have e:=nq (l:=l) (m:=m.erase a) h2 fun x hx=>(ED (a:=x) (b:=a) (fun z=>h1 (by rw[←z];exact hx))).mpr (s x (Au _ hx))
  rw[DY hm] at e
  have:=CQ hm
  rw[A9];omega
theorem sK {ms:List (List Int)} (nd:ms.Nodup):(ST6.srtL ms).length=ms.length:=by
 have n2:(ST6.srtL ms).Nodup:=(ST6.srtL_ascL ms).imp fun {a b} h e=>by subst e;rw[ST6.ascL_irr] at h;cases h
 exact Gr (nq n2 fun x hx=>(ST6.srtL_mem x ms).mp hx) (nq nd fun x hx=>(ST6.srtL_mem x ms).mpr hx)
theorem Gen.len {l:List P2}{F G:Nat→List Int} (W:Gen l F G):(stL l F G).length=2*l.length:=by
 unfold stL
 rw[sK W.all.nodup,i7]
theorem Gen.mz {m:Nat}{l:List P2}{F G:Nat→List Int} (W:Gen l F G) (sz:∀p∈l,Szp m p) {x:List Int} (h:x∈msU l.length F G):∃a b c d e f,x=[a,b,c,d,e,f]∧Mz m a b c d e f:=by
 unfold msU at h
 obtain ⟨x,hx,rfl⟩:=Az.mp h
 have hi:x / 2 < l.length:=by have:=AV.mp hx;omega
 have zc:=sz _ (bY hi)
 have zp:=sz _ (bY (j4 hi))
 have zn:=sz _ (bY (oK hi))
 split
 ·obtain ⟨a,b,c,d,e,f,e1,g,u,v,s,t,s1,t1,k,q,x,y,S⟩:=W.F _ hi
  exact ⟨a,b,c,d,e,f,e1,S.mz zc zp zn⟩
 ·obtain ⟨a,b,c,d,e,f,e1,g,u,v,s,t,s1,t1,k,q,x,y,S⟩:=W.G _ hi
  exact ⟨a,b,c,d,e,f,e1,S.mz zc zn zp⟩
theorem Gen.at_ {l:List P2}{F G:Nat→List Int} (W:Gen l F G) {j:Nat} (h:j < (stL l F G).length):(stL l F G).getD j []∈msU l.length F G:=by
 rw[Ax,Am h]
 exact (ST6.srtL_mem _ _).mp (FJ h)
theorem Gen.fm {l:List P2}{F G:Nat→List Int} (W:Gen l F G) {j:Nat} (h:j < (stL l F G).length):kq [lp l,sxU ((stL l F G).getD j [])] (.new ((shK l F G j).map pu)):=by
 obtain ⟨a,b,c,d,e,f,e1,M⟩:=W.mz W.sz (W.at_ h)
 unfold shK
 rw[e1]
 have n3:=W.n3
 have n60:=W.n64
 refine ⟨l,a,b,c,d,e,f,rfl,M.mv (by decide),fun p hp=>⟨(W.sz p hp).1.mono (by decide),(W.sz p hp).2.mono (by decide)⟩,fun p hp=>?_,fun z=>by rw[z] at n3;simp at n3,by omega,rfl⟩
 have:=M.ap (W.sz p hp)
 exact ⟨this.1.mono (by decide),this.2.mono (by decide)⟩
theorem Gen.best {l:List P2}{F G:Nat→List Int} (W:Gen l F G):iK l F G < (stL l F G).length:=by
 have:=t_ (shK l F G) ((stL l F G).length - 1)
 have n3:=W.n3
 have e:=W.len
 unfold iK
 omega
theorem Szp.mono {m n:Nat}{p:P2} (h:Szp m p) (le:m≤n):Szp n p:=⟨h.1.mono le,h.2.mono le⟩
theorem eC {l:List P2}{k:Int}{i:Nat} (e:k=(i:Int)) (h:i < l.length):atI (l.map pu) k=some (pu (gp l i)):=wF e (by rw[Av,fv h];rfl)
theorem wY {pts:List P2} (h3:3≤(aj pts).length) (cl:(aj pts).length≤31) (hz:∀p∈aj pts,Szp 400 p):∃F G,Gen (aj pts) F G:=by
 have h2:=dz h3
 have nd:=bS pts
 have key:∀i,i < (aj pts).length→∃m m',(∃a b c d e f,m=[a,b,c,d,e,f]∧SMx (gp (aj pts) i) (gp (aj pts) (pI (aj pts).length i)) (gp (aj pts) (nI (aj pts).length i)) a b c d e f)∧
   ∃a b c d e f,m'=[a,b,c,d,e,f]∧SMx (gp (aj pts) i) (gp (aj pts) (nI (aj pts).length i)) (gp (aj pts) (pI (aj pts).length i)) a b c d e f:=fun i hi=>by
  have bd:=jT h3 h2 hi
  have n1:gp (aj pts) i≠gp (aj pts) (pI (aj pts).length i):=fun z=>by
   rw[←z] at bd;unfold aq at bd;rw[JD,JD] at bd;simp at bd
  have n2:gp (aj pts) i≠gp (aj pts) (nI (aj pts).length i):=fun z=>by
   rw[←z] at bd;unfold aq at bd
   generalize gp (aj pts) i=p at *
   generalize gp (aj pts) (pI (aj pts).length i)=q at *
   have:(p.1 - q.1) *(p.2 - q.2) - (p.2 - q.2) *(p.1 - q.1)=0:=by grind
   omega
  obtain ⟨a,b,c,d,e,f,S⟩:=v3 (B:=gp (aj pts) (nI (aj pts).length i)) n1 (fun z=>by
   unfold aq at bd z;grind)
  obtain ⟨a',b',c',d',e',f',S'⟩:=v3 (B:=gp (aj pts) (pI (aj pts).length i)) n2 (fun z=>by
   unfold aq at bd z;grind)
  exact ⟨_,_,⟨a,b,c,d,e,f,rfl,S⟩,a',b',c',d',e',f',rfl,S'⟩
 refine ⟨fun i=>if h:i < (aj pts).length then (key i h).choose else [],fun i=>if h:i < (aj pts).length then (key i h).choose_spec.choose else [],h3,cl,nd,hz,fun i hi=>?_,fun i hi=>?_⟩
 ·rw[dif_pos hi];exact (key i hi).choose_spec.choose_spec.1
 ·rw[dif_pos hi];exact (key i hi).choose_spec.choose_spec.2
theorem Gen.p {l:List P2}{F G:Nat→List Int} (W:Gen l F G):nR l (msU l.length F G):=by
 refine ⟨fun m hm=>?_,fun C A B nb=>?_⟩
 ·unfold msU at hm
  obtain ⟨x,hx,rfl⟩:=Az.mp hm
  have hi:x / 2 < l.length:=by have:=AV.mp hx;omega
  split
  ·obtain ⟨a,b,c,d,e,f,e1,g,u,v,s,t,s1,t1,k,q,x,y,S⟩:=W.F _ hi
   exact ⟨_,_,_,a,b,c,d,e,f,.inl (tj hi),e1,S.stn⟩
  ·obtain ⟨a,b,c,d,e,f,e1,g,u,v,s,t,s1,t1,k,q,x,y,S⟩:=W.G _ hi
   exact ⟨_,_,_,a,b,c,d,e,f,.inr (tj hi),e1,S.stn⟩
 ·rcases nb with q |q
  ·obtain ⟨i,hi,rfl,rfl,rfl⟩:=oF W.nd q
   obtain ⟨a,b,c,d,e,f,e1,g,u,v,s,t,s1,t1,k,q,x,y,S⟩:=W.F _ hi
   refine ⟨a,b,c,d,e,f,?_,S.stn⟩
   unfold msU
   refine Az.mpr ⟨2*i,AV.mpr (by omega),?_⟩
   rw[if_pos (by omega),show 2*i / 2=i by omega,e1]
  ·obtain ⟨i,hi,rfl,rfl,rfl⟩:=oF W.nd q
   obtain ⟨a,b,c,d,e,f,e1,g,u,v,s,t,s1,t1,k,q,x,y,S⟩:=W.G _ hi
   refine ⟨a,b,c,d,e,f,?_,S.stn⟩
   unfold msU
   refine Az.mpr ⟨2*i+1,AV.mpr (by omega),?_⟩
   rw[if_neg (by omega),show (2*i+1) / 2=i by omega,e1]
theorem Gen.f {l:List P2}{F G:Nat→List Int} (W:Gen l F G):Fm l (msU l.length F G) (shK l F G (iK l F G)):=by
 refine ⟨⟨_,W.at_ W.best,rfl⟩,fun m hm=>?_⟩
 have hm':m∈stL l F G:=(ST6.srtL_mem m _).mpr hm
 obtain ⟨j,hj,rfl⟩:=DH.mp hm'
 have:=lj (shK l F G) ((stL l F G).length - 1) j (by omega)
 unfold iK
 have e:shK l F G j=aj (l.map (apL (stL l F G)[j])):=by
  unfold shK
  rw[Ax,Am hj];rfl
 rw[←e];exact this
abbrev mvM (m:M6):U:=mv m.a m.b m.c m.d m.e m.f
abbrev MvM (m:M6):Prop:=Mv m.a m.b m.c m.d m.e m.f
inductive TF:List P2→M6→List P2→Prop
 |one (p:P2):Szp 400 p→TF [p] ⟨1,0,0,1,-p.1,-p.2⟩ [(0,0)]
 |two (p q:P2) (g u v s t s1 t1:Int):Szp 400 p→Szp 400 q→LvG p q g u v s t s1 t1→TF [p,q] ⟨s,t,-v,u,-s*p.1 - t*p.2,v*p.1 - u*p.2⟩ [(0,0),(g,0)]
 |more (l:List P2) (F G:Nat→List Int) (m:M6):Gen l F G→pH l F G=[m.a,m.b,m.c,m.d,m.e,m.f]→TF l m (shK l F G (iK l F G))
structure Sz6 (n:Nat) (m:M6):Prop where
 a:Sz n m.a
 b:Sz n m.b
 c:Sz n m.c
 d:Sz n m.d
 e:Sz n m.e
 f:Sz n m.f
theorem Sz6.mv {n:Nat}{m:M6} (h:Sz6 n m) (u:m.U) (le:n≤30000):MvM m:=⟨u,h.a.mono le,h.b.mono le,h.c.mono le,h.d.mono le,h.e.mono le,h.f.mono le⟩
theorem Sz6.bh {n k:Nat}{m m':M6} (h:Sz6 n m) (h':Sz6 k m'):Sz6 (n+k+2) (m.bh m'):=
 ⟨(L2.Sz.add' (L2.Sz.mul h'.a h.a) (L2.Sz.mul h'.b h.c)).mono (by omega),(L2.Sz.add' (L2.Sz.mul h'.a h.b) (L2.Sz.mul h'.b h.d)).mono (by omega),(L2.Sz.add' (L2.Sz.mul h'.c h.a) (L2.Sz.mul h'.d h.c)).mono (by omega),(L2.Sz.add' (L2.Sz.mul h'.c h.b) (L2.Sz.mul h'.d h.d)).mono (by omega),
  (L2.Sz.add' (L2.Sz.add' (L2.Sz.mul h'.a h.e) (L2.Sz.mul h'.b h.f)) (h'.e.mono (n:=k+n+1) (by omega))).mono (by omega),(L2.Sz.add' (L2.Sz.add' (L2.Sz.mul h'.c h.e) (L2.Sz.mul h'.d h.f)) (h'.f.mono (n:=k+n+1) (by omega))).mono (by omega)⟩
theorem Sz6.bk {n:Nat}{m:M6} (h:Sz6 n m) (u:m.U):Sz6 (2*n+4) m.bk:=by
 have z:Sz 1 (m.a*m.d - m.b*m.c):=by rcases u with q |q <;>rw[q] <;>decide
 unfold M6.bk
 exact ⟨(L2.Sz.mul z h.d).mono (by omega),(L2.Sz.mul (L2.Sz.neg z) h.b).mono (by omega),(L2.Sz.mul (L2.Sz.neg z) h.c).mono (by omega),(L2.Sz.mul z h.a).mono (by omega),
  (L2.Sz.neg (L2.Sz.add' (L2.Sz.mul (L2.Sz.mul z h.d) h.e) (L2.Sz.mul (L2.Sz.mul (L2.Sz.neg z) h.b) h.f))).mono (by omega),(L2.Sz.neg (L2.Sz.add' (L2.Sz.mul (L2.Sz.mul (L2.Sz.neg z) h.c) h.e) (L2.Sz.mul (L2.Sz.mul z h.a) h.f))).mono (by omega)⟩
section
variable {l x:List P2}{m:M6}
theorem TF.u (h:TF l m x):m.U:=by
 cases h with
 |one p hp=>exact .inl (show (1:Int) *1 - 0*0=1 by decide)
 |two p q g u v s t s1 t1 hp hq L=>exact .inl (by have:=L.G1.eq;dsimp only;grind)
 |more _ F G _ W em=>
  obtain ⟨a,b,c,d,e,f,e1,M⟩:=W.mz W.sz (W.at_ W.best)
  have:[m.a,m.b,m.c,m.d,m.e,m.f]=[a,b,c,d,e,f]:=em.symm.trans e1
  simp only[CO,and_true] at this
  obtain ⟨h1,h2,h3,h4,h5,h6⟩:=this
  unfold M6.U
  rw[h1,h2,h3,h4];exact M.u
theorem TF.sz (h:TF l m x):Sz6 2100 m:=by
 have k8:∀{x:Int},Sz 8 x→Sz 2100 x:=fun h=>h.mono (by decide)
 cases h with
 |one p hp=>exact ⟨k8 (show Sz 8 (1:Int) by decide),k8 (show Sz 8 (0:Int) by decide),k8 (show Sz 8 (0:Int) by decide),k8 (show Sz 8 (1:Int) by decide),(L2.Sz.neg hp.1).mono (by decide),(L2.Sz.neg hp.2).mono (by decide)⟩
 |two p q g u v s t s1 t1 hp hq L=>
  have zu:Sz 401 u:=by rw[L.hu];exact ((L2.Sz.sub' hq.1 hp.1).mono (by decide):Sz 401 _).ediv
  have zv:Sz 401 v:=by rw[L.hv];exact ((L2.Sz.sub' hq.2 hp.2).mono (by decide):Sz 401 _).ediv
  obtain ⟨_,zs,zt⟩:=i6 L.G1 zu zv
  refine ⟨zs.mono (by decide),zt.mono (by decide),(L2.Sz.neg zv).mono (by decide),zu.mono (by decide),?_,?_⟩
  ·exact (L2.Sz.sub' (L2.Sz.mul (L2.Sz.neg zs) hp.1) (L2.Sz.mul zt hp.2)).mono (by decide)
  ·exact (L2.Sz.sub' (L2.Sz.mul zv hp.1) (L2.Sz.mul zu hp.2)).mono (by decide)
 |more _ F G _ W em=>
  obtain ⟨a,b,c,d,e,f,e1,M⟩:=W.mz W.sz (W.at_ W.best)
  have:[m.a,m.b,m.c,m.d,m.e,m.f]=[a,b,c,d,e,f]:=em.symm.trans e1
  simp only[CO,and_true] at this
  obtain ⟨h1,h2,h3,h4,h5,h6⟩:=this
  exact ⟨by rw[h1];exact M.a.mono (by decide),by rw[h2];exact M.b.mono (by decide),by rw[h3];exact M.c.mono (by decide),by rw[h4];exact M.d.mono (by decide),by rw[h5];exact M.e.mono (by decide),by rw[h6];exact M.f.mono (by decide)⟩
theorem TF.mv (h:TF l m x):MvM m:=h.sz.mv h.u (by decide)
theorem oX {p q:P2}{g u v s t s1 t1:Int} (L:LvG p q g u v s t s1 t1):[p,q].map (ap s t (-v) u (-s*p.1 - t*p.2) (v*p.1 - u*p.2))=[(0,0),(g,0)]∧0 < g:=by
 have gp:0 < g:=by have:=L.G.g0;have:=L.gn;omega
 have h1:=L.G1.eq
 have e1:q.1 - p.1=g*u:=by rw[L.hu];exact (CB L.G.da).symm
 have e2:q.2 - p.2=g*v:=by rw[L.hv];exact (CB L.G.db).symm
 have q1:q.1=p.1+g*u:=by omega
 have q2:q.2=p.2+g*v:=by omega
 refine ⟨?_,gp⟩
 show [(s*p.1+t*p.2+(-s*p.1 - t*p.2),-v*p.1+u*p.2+(v*p.1 - u*p.2)),(s*q.1+t*q.2+(-s*p.1 - t*p.2),-v*q.1+u*q.2+(v*p.1 - u*p.2))]=[(0,0),(g,0)]
 rw[show s*p.1+t*p.2+(-s*p.1 - t*p.2)=0 by grind,show -v*p.1+u*p.2+(v*p.1 - u*p.2)=0 by grind,show s*q.1+t*q.2+(-s*p.1 - t*p.2)=g by rw[q1,q2];grind,show -v*q.1+u*q.2+(v*p.1 - u*p.2)=0 by rw[q1,q2];grind]
theorem vv (p:P2):[p].map (ap 1 0 0 1 (-p.1) (-p.2))=[(0,0)]:=by
 show [(1*p.1+0*p.2+-p.1,0*p.1+1*p.2+-p.2)]=[(0,0)]
 rw[show (1*p.1+0*p.2+-p.1:Int)=0 by omega,show (0*p.1+1*p.2+-p.2:Int)=0 by omega]
theorem zK {g:Int} (h:0 < g):ST.ltP (0,0) (g,0)=true:=by unfold ST.ltP;exact decide_eq_true (.inl h)
theorem TF.ex (h:TF l m x):x=aj (l.map m.go):=by
 cases h with
 |one p hp=>
  show _=aj ([p].map (ap 1 0 0 1 (-p.1) (-p.2)))
  rw[vv];rfl
 |two p q g u v s t s1 t1 hp hq L=>
  obtain ⟨e,gp⟩:=oX L
  show _=aj ([p,q].map (ap s t (-v) u (-s*p.1 - t*p.2) (v*p.1 - u*p.2)))
  rw[e,ij (zK gp)]
 |more _ F G _ W em=>show aj _=_;unfold pH at em;rw[em];rfl
theorem TF.pts (h:TF l m x):(∀p∈l,Szp 400 p)∧l≠[]∧l.length≤31:=by
 cases h with
 |one p hp=>exact ⟨fun q hq=>by rw[Br.mp hq];exact hp,by simp,by simp⟩
 |two p q g u v s t s1 t1 hp hq L=>
  refine ⟨fun z hz=>?_,by simp,by simp⟩
  simp only[Ay,Bn,or_false] at hz
  rcases hz with e |e <;>rw[e] <;>assumption
 |more _ F G _ W em=>
  have:=W.n3
  exact ⟨W.sz,fun z=>by rw[z] at this;simp at this,W.n64⟩
theorem TF.fm (h:TF l m x):kq [lp l,mvM m] (.new (x.map pu)):=by
 obtain ⟨z,ne,n60⟩:=h.pts
 have s:=h.sz
 refine ⟨l,m.a,m.b,m.c,m.d,m.e,m.f,rfl,h.mv,fun p hp=>⟨(z p hp).1.mono (by decide),(z p hp).2.mono (by decide)⟩,fun p hp=>?_,ne,by omega,by rw[h.ex]⟩
 exact ⟨(L2.Sz.add' (L2.Sz.add' (L2.Sz.mul s.a (z p hp).1) (L2.Sz.mul s.b (z p hp).2)) (s.e.mono (n:=2501) (by decide))).mono (by decide),(L2.Sz.add' (L2.Sz.add' (L2.Sz.mul s.c (z p hp).1) (L2.Sz.mul s.d (z p hp).2)) (s.f.mono (n:=2501) (by decide))).mono (by decide)⟩
theorem TF.fp (hl:aj l=l) (h:TF l m x):FP l x m:=by
 refine ⟨hl,h.pts.2.1,h.u,h.ex,?_⟩
 cases h with
 |one p hp=>exact .inl ⟨rfl,rfl⟩
 |two p q g u v s t s1 t1 hp hq L=>exact .inr (.inl ⟨rfl,g,(oX L).2,rfl⟩)
 |more _ F G _ W em=>exact .inr (.inr ⟨W.n3,_,W.p,W.f⟩)
theorem TF.exists {pts:List P2} (ne:pts≠[]) (cl:(aj pts).length≤31) (hz:∀p∈aj pts,Szp 400 p):∃m x,TF (aj pts) m x:=by
 have cn:=pz ne
 have cc:=dw pts
 generalize hc:aj pts=l at *
 match l,cn,cc,hz,cl,hc with
 |[p],_,_,hz,_,_=>exact ⟨_,_,TF.one p (hz p (by simp))⟩
 |[p,q],_,cc,hz,_,_=>
  have nd:=dJ cc
  obtain ⟨g,u,v,s,t,s1,t1,L⟩:=sj (a:=p) (b:=q) (fun z=>by rw[z] at nd;simp at nd)
  exact ⟨_,_,TF.two p q g u v s t s1 t1 (hz p (by simp)) (hz q (by simp)) L⟩
 |p::q::r::t,_,cc,hz,cl,hc=>
  have h3:3≤(aj pts).length:=by rw[hc];simp
  obtain ⟨F,G,W⟩:=wY h3 (by rw[hc];exact cl) (by rw[hc];exact hz)
  rw[hc] at W
  obtain ⟨a,b,c,d,e,f,e1,M⟩:=W.mz W.sz (W.at_ W.best)
  exact ⟨⟨a,b,c,d,e,f⟩,_,TF.more _ F G _ W e1⟩
end
end
section
variable {P:AC}{w:World}{K:Ao}{mg:Str→Option Value}{base:Heap}
def mh:List U→Out→Prop:=fun us o=>∃(l x:List P2) (m:M6),us=[lp l]∧TF l m x∧o=.val (mvM m)
theorem jc (T:Txt K mg):bA P w K mg base (CXF P w) 8 T.a_to_form T.d_to_form ["land"] (spU K (mh)):=by
 refine xh T.F_to_form oj (fun us o h=>?_) (fun A outer s H E O us o hr h=>?_)
 ·obtain ⟨l,x,m,rfl,h,rfl⟩:=h
  rfl
 obtain ⟨l,x,m,rfl,h,rfl⟩:=h
 refine Ws.nox ?_
 cases h with
 |one p hp=>
  refine ae (eA (bg cT (aR (cP rfl) rfl T.z_len Bf (ac (aa 0 rfl) ao af)) ab) rfl ?_)
  refine ae (a_ (aN (ag ab (ag ab (ag ab (ag ab (ag (bU (au (au (aa 0 rfl) ab rfl rfl) ab rfl rfl)) (ag (bU (au (au (aa 0 rfl) ab rfl rfl) ab rfl rfl)) aM dZ) dZ) ay) ay) ay) ay)) ?_)
  exact rfl
 |two p q g u v s' t s1 t1 hp hq L=>
  have e1:=L.G1
  rw[L.hu,L.hv] at e1
  refine ae (cC (bg cT (aR (cP rfl) rfl T.z_len Bf (ac (aa 0 rfl) ao af)) ab) rfl (bi ?_))
  refine ae (eA (bg cT (aR (cP rfl) rfl T.z_len Bf (ac (aa 0 rfl) ao af)) ab) rfl ?_)
  refine ae (a_ (ar ((mX T).mono (by decide)) hr rfl T.m_level T.F_level.kp T.b_level ax (ac (au (aa 0 rfl) ab rfl rfl) (ac (au (aa 0 rfl) ab rfl rfl) ao bu) bu) ⟨p.1,p.2,q.1,q.2,g,s1,t1,s',t,rfl,⟨hp.1.mono (by decide),hp.2.mono (by decide),hq.1.mono (by decide),hq.2.mono (by decide)⟩,L.G,L.gn,e1,rfl⟩) ?_)
  rw[L.hu,L.hv]
 |more _ F G _ W em=>
  have ee:mvM m=sxU (pH l F G):=by rw[em];rfl
  rw[ee]
  have n3:=W.n3
  have hm:((l.map pu).length:Int)=(l.length:Int):=by rw[Aq]
  have hlen:=W.len
  refine ae (cC (bg cT (aR (cP rfl) rfl T.z_len Bf (ac (aa 0 rfl) ao af)) ab) (by rw[hm];exact decide_eq_false (by omega)) (bi ?_))
  refine ae (cC (bg cT (aR (cP rfl) rfl T.z_len Bf (ac (aa 0 rfl) ao af)) ab) (by rw[hm];exact decide_eq_false (by omega)) (bi ?_))
  refine ae (a_ (sU (items:=(stL l F G).map sxU) (kf:=shK l F G) (y:="land") (z:="move") (iy:=0) (landU:=lp l) rfl (nY hr) hr.depth rfl T.z_min T.tf (EvN.ev (eZ ((qo T).mono (by decide)) hr rfl T.m_stands T.F_stands.kp T.b_stands ax (ac (aa 0 rfl) ao af) ⟨l,F,G,rfl,W,rfl⟩)) (by rw[Aq];omega) rfl rfl rfl rfl T.tf_cd (show (("to_form":Str)++".<locals>.")++"<lambda>"=im by decide+kernel) rfl rfl ⟨rfl,rfl,rfl,by decide,rfl,rfl,by decide⟩ (by decide) (fun _ _ _ _=>rfl) (fun s' H' q c' O' j x hx=>?he)) ?_)
  case he=>
   rw[Av] at hx
   obtain ⟨m,hm',rfl⟩:=Dr.mp hx
   have hj:j < (stL l F G).length:=aP hm'
   have e:(stL l F G).getD j []=m:=by rw[Ax,hm'];rfl
   rw[←e]
   exact eZ ((cj T).mono (by decide)) (hr.in1.deeper _) rfl T.m_field_moved T.F_field_moved.kp T.b_field_moved ax (ac (aa 0 rfl) (ac (aa 1 rfl) ao af) af) (W.fm hj)
  show Out.val _=Out.val _
  unfold pH iK
  rw[Aq]
  have hb:=W.best
  unfold iK at hb
  rw[Ax,Av,Am hb,Ax,Am hb]
  rfl
end
section
variable {P:AC}{w:World}{K:Ao}{mg:Str→Option Value}{base:Heap}
open Classical in
def gE:List U→Out→Prop:=fun us o=>∃(l l' x x':List P2) (m m':M6),us=[lp l,lp l']∧TF l m x∧TF l' m' x'∧o=.val (if x=x' then mvM (m.bh m'.bk) else .non)
theorem lL (T:Txt K mg):bA P w K mg base (CXF P w) 9 T.a_alike T.d_alike ["one","other"] (spU K (gE)):=by
 refine bB T.F_alike jh (fun us o h=>?_) (fun cdv A outer s H E O us o hr h=>?_)
 ·obtain ⟨l,l',x,x',m,m',rfl,h,h',rfl⟩:=h
  rfl
 obtain ⟨l,l',x,x',m,m',rfl,h,h',rfl⟩:=h
 refine Ws.nox ?_
 refine ae (aA (i:=2) jh.nd rfl (Or.inl rfl) (ar ((jc T).mono (by decide)) hr rfl T.m_to_form T.F_to_form.kp T.b_to_form ax (ac (aa 0 rfl) ao af) ⟨l,x,m,rfl,h,rfl⟩) ?_)
 refine ae (aA (i:=3) jh.nd rfl (Or.inl rfl) (ar ((jc T).mono (by decide)) hr rfl T.m_to_form T.F_to_form.kp T.b_to_form ax (ac (aa 1 rfl) ao af) ⟨l',x',m',rfl,h',rfl⟩) ?_)
 by_cases k:x=x'
 ·rw[if_pos k]
  subst k
  refine ae (cC (bg (yt (nY hr) (jR _) (jR _)) (EvN.ev (eZ ((cj T).mono (by decide)) hr rfl T.m_field_moved T.F_field_moved.kp T.b_field_moved ax (ac (aa 0 rfl) (ac (aa 2 rfl) ao af) af) h.fm)) (EvN.ev (eZ ((cj T).mono (by decide)) hr rfl T.m_field_moved T.F_field_moved.kp T.b_field_moved ax (ac (aa 1 rfl) (ac (aa 3 rfl) ao af) af) h'.fm))) (by rw[show eqW (U.lst (x.map pu)) (U.lst (x.map pu))=decide (x=x) from nt _ _];simp) (bi ?_))
  refine ae (a_ (ar ((fX T).mono (by decide)) hr rfl T.m_behind T.F_behind.kp T.b_behind ax (ac (aa 2 rfl) (ac (ar ((mR T).mono (by decide)) hr rfl T.m_way_back T.F_way_back.kp T.b_way_back ax (ac (aa 3 rfl) ao af) ⟨m'.a,m'.b,m'.c,m'.d,m'.e,m'.f,rfl,h'.mv,rfl⟩) ao cV) af) ⟨m.a,m.b,m.c,m.d,m.e,m.f,m'.bk.a,m'.bk.b,m'.bk.c,m'.bk.d,m'.bk.e,m'.bk.f,rfl,h.mv,(h'.sz.bk h'.u).mv (M6.bk_U h'.u) (by decide),rfl⟩) ?_)
  exact rfl
 ·rw[if_neg k]
  refine ae (eA (bg (yt (nY hr) (jR _) (jR _)) (EvN.ev (eZ ((cj T).mono (by decide)) hr rfl T.m_field_moved T.F_field_moved.kp T.b_field_moved ax (ac (aa 0 rfl) (ac (aa 2 rfl) ao af) af) h.fm)) (EvN.ev (eZ ((cj T).mono (by decide)) hr rfl T.m_field_moved T.F_field_moved.kp T.b_field_moved ax (ac (aa 1 rfl) (ac (aa 3 rfl) ao af) af) h'.fm))) (by rw[show eqW (U.lst (x.map pu)) (U.lst (x'.map pu))=decide (x=x') from nt _ _];simp;exact k) ?_)
  refine ae (a_ rh ?_)
  exact rfl
end
section
variable {P:AC}{w:World}{K:Ao}{mg:Str→Option Value}{base:Heap}
def cel (ns:List Int) (k:Int):Int:=if k < (ns.length:Int) then ns.getD k.toNat 0 else 0
def pT:List U→Out→Prop:=fun us o=>∃(ns:List Int) (k:Int),us=[.scr (ns.map U.int),.int k]∧0≤k∧o=.val (.int (cel ns k))
theorem aG (T:Txt K mg):bA P w K mg base (CXF P w) 1 T.a__law_cell_at T.d__law_cell_at ["script","k"] (spU K (pT)):=by
 refine bB T.F__law_cell_at iO (fun us o h=>?_) (fun cdv A outer s H E O us o hr h=>?_)
 ·obtain ⟨ns,k,rfl,h0,rfl⟩:=h
  rfl
 obtain ⟨ns,k,rfl,h0,rfl⟩:=h
 refine Ws.nox ?_
 have hm:((ns.map U.int).length:Int)=(ns.length:Int):=by rw[Aq]
 refine ae (nw (bg pV (aa 1 rfl) (aR (cP rfl) rfl T.z_len Bf (ac (aa 0 rfl) ao af))) (fun hT=>?_) (fun hF=>(bi ?_)))
 ·rw[hm] at hT
  have hk:=dTb hT
  refine ae (a_ (au (aa 0 rfl) (aa 1 rfl) rfl (mG h0 hk)) ?_)
  exact vIO (by unfold cel;rw[if_pos hk])
 ·rw[hm] at hF
  have hk:=dFb hF
  refine ae (a_ ab ?_)
  exact vIO (by unfold cel;rw[if_neg hk])
def uP:List U→Out→Prop:=fun us o=>∃n:Int,us=[.int n]∧o=.val (.bl true)
theorem jG (T:Txt K mg):bA P w K mg base (CXF P w) 1 T.a__law_whole T.d__law_whole ["found"] (spU K (uP)):=by
 refine bB T.F__law_whole jK (fun us o h=>?_) (fun cdv A outer s H E O us o hr h=>?_)
 ·obtain ⟨n,rfl,rfl⟩:=h
  rfl
 obtain ⟨n,rfl,rfl⟩:=h
 refine Ws.nox ?_
 refine ae (a_ (t7 (aR (eO (by intro _ h;cases h) (by walk_at "kit")) rfl T.z_isinstance Dz (ac (aa 0 rfl) (ac (qA rfl T.z_int boot_int) ao af) af)) (fun hz=>(tX (v4 (aR (eO (by intro _ h;cases h) (by walk_at "kit")) rfl T.z_isinstance Dz (ac (aa 0 rfl) (ac (qA rfl T.z_bool boot_bool) ao af) af)))))) ?_)
 exact rfl
def nQ:List U→Out→Prop:=fun us o=>∃P Q R:P2,us=[pu P,pu Q,pu R]∧Szp 5000 P∧Szp 5000 Q∧Szp 5000 R∧o=.val (.int (aq P Q R))
theorem jJ (T:Txt K mg):bA P w K mg base (CXF P w) 1 T.a__law_cross T.d__law_cross ["one","two","three"] (spU K (nQ)):=by
 refine bB T.F__law_cross gd (fun us o h=>?_) (fun cdv A outer s H E O us o hr h=>?_)
 ·obtain ⟨P,Q,R,rfl,⟨p1,p2⟩,⟨q1,q2⟩,⟨r1,r2⟩,rfl⟩:=h
  rfl
 obtain ⟨P,Q,R,rfl,⟨p1,p2⟩,⟨q1,q2⟩,⟨r1,r2⟩,rfl⟩:=h
 refine Ws.nox ?_
 refine ae (aA (i:=3) gd.nd rfl (Or.inl rfl) (aQ (bo (au (aa 1 rfl) ab rfl rfl) (au (aa 0 rfl) ab rfl rfl)) (bo (au (aa 2 rfl) ab rfl rfl) (au (aa 0 rfl) ab rfl rfl)) (by walk_at "mul")) ?_)
 refine ae (a_ (bo (aa 3 rfl) (aQ (bo (au (aa 1 rfl) ab rfl rfl) (au (aa 0 rfl) ab rfl rfl)) (bo (au (aa 2 rfl) ab rfl rfl) (au (aa 0 rfl) ab rfl rfl)) (by walk_at "mul"))) ?_)
 exact rfl
def hJ (row:List P2) (j:Nat):List P2:=if j=0 then [] else if j=1 then (ak row).reverse.dropLast else (ak row).reverse.dropLast++(ak row.reverse).reverse.dropLast
def jH:List U→Out→Prop:=fun us o=>∃pts:List P2,us=[lp pts]∧(∀p∈pts,Szp 5000 p)∧pts.length < 64∧2≤(ST.srt pts).length∧o=.val (lp (aj pts))
theorem e9 (T:Txt K mg):bA P w K mg base (CXF P w) 2 T.a__law_corners T.d__law_corners ["points"] (spU K (jH)):=by
 refine bB T.F__law_corners bE (fun us o h=>?_) (fun cdv A outer s H E O us o hr h=>?_)
 ·obtain ⟨pts,rfl,sz,hl,h2,rfl⟩:=h
  rfl
 obtain ⟨pts,rfl,sz,hl,h2,rfl⟩:=h
 refine Ws.nox ?_
 have sl:=ST.srt_len pts
 have szs:=rJ sz
 have b1:=fA (ST.srt pts)
 have b2:=fA (ST.srt pts).reverse
 rw[Bm] at b2
 refine ae (aA (i:=1) bE.nd rfl (Or.inl rfl) (EvN.ev (iD rfl (nY hr) rfl T.z_sorted rfl T.z_set (aa 0 rfl) hl af)) ?_)
 have ec:aj pts=hJ (ST.srt pts) 2:=by unfold aj hJ;rw[if_neg (by omega)];rfl
 rw[ec]
 generalize ST.srt pts=row at *
 refine ae (aA (i:=2) bE.nd rfl (Or.inl rfl) (EvN.ev (dX aM)) ?_)
 refine ae (gF (fun j:Nat=>[some (.val (lp pts)),some (.val (lp row)),some (.val (lp (hJ row j))),none,none,none]) (fun i j=>i=j) rfl PassesOwn.never (dB (EvN.ev (dX (ag (aa 1 rfl) (ag (EvN.ev (qC rfl rfl T.z_list rfl T.z_reversed (aa 1 rfl) af)) aM cV) af))) (.inl rfl)) ?h0 ?hs ?hd)
 case h0=>exact ⟨0,rfl,rfl,rfl,rfl,trivial⟩
 case hs=>
  rintro H0 j x _ hx rfl
  have hz:∃w:List P2,x=lp w∧(∀p∈w,Szp 5000 p)∧w.length≤63∧hJ row (j+1)=hJ row j++(ak w).reverse.dropLast∧(hJ row j).length≤63:=by
   match j,hx with
   |0,hx=>
    cases hx
    exact ⟨row,rfl,szs,by omega,by simp[hJ],by simp[hJ]⟩
   |1,hx=>
    have e:x=U.lst ((row.map pu).reverse):=by cases hx;rfl
    subst e
    exact ⟨row.reverse,by rw[lp,Ci],fun p hp=>szs p (AM.mp hp),by rw[Bm];omega,by simp[hJ],by simp[hJ];omega⟩
   |j+2,hx=>simp at hx
  obtain ⟨w,rfl,wz,wl,hacc,hal⟩:=hz
  refine ⟨_,(gN (i:=3) bE.nd rfl (Or.inl rfl)),?_⟩
  have bw:=fA w
  refine ae (ml (i:=4) bE.nd rfl (Or.inl rfl) (dX aM) ?_)
  refine kX (fun ps=>SubP [some (.val (lp pts)),some (.val (lp row)),some (.val (lp (hJ row j))),some (.val (lp w)),some (.own ((ak w).reverse.map pu)),none] ps) (gF (fun st:List P2=>[some (.val (lp pts)),some (.val (lp row)),some (.val (lp (hJ row j))),some (.val (lp w)),some (.own (st.reverse.map pu)),none]) (fun i st=>st=ak (w.take i)) rfl PassesOwn.never (dB (aa 3 rfl) (.inl rfl)) ?h02 ?hs2 ?hd2) ?hj
  case h02=>exact ⟨[],rfl,rfl,rfl,rfl,rfl,rfl,trivial⟩
  case hs2=>
   rintro H0 i x _ hx rfl
   obtain ⟨P,hP,mP,rfl⟩:=v7 hx
   have hi:i < w.length:=aP hP
   have sP:=wz P mP
   refine ⟨_,(gN (i:=5) bE.nd rfl (Or.inl rfl)),?_⟩
   have len0:=fQ w i
   refine kX (fun ps=>SubP [some (.val (lp pts)),some (.val (lp row)),some (.val (lp (hJ row j))),some (.val (lp w)),some (.own ((bq P (ak (w.take i))).reverse.map pu)),some (.val (pu P))] ps) (hU (fun s2:List P2=>[some (.val (lp pts)),some (.val (lp row)),some (.val (lp (hJ row j))),some (.val (lp w)),some (.own (s2.reverse.map pu)),some (.val (pu P))]) (fun m s2=>m=s2.length∧bq P s2=bq P (ak (w.take i))∧(∀p∈s2,p∈w)∧s2.length≤i) PassesOwn.never ?h03 ?hs3) ?hj3
   case h03=>exact ⟨_,_,⟨rfl,rfl,fun q hq=>eH w i q hq,len0⟩,rfl,rfl,rfl,rfl,rfl,rfl,trivial⟩
   case hs3=>
    rintro m s2 ⟨rfl,e2,sub,len2⟩
    match s2,e2,sub,len2 with
    |[],e2,sub,len2=>
     refine ⟨false,?_,fun h=>(nomatch h),fun h ps hps=>e2 ▸ hps⟩
     exact (Tw.t (jg (bg mU (gM 4 rfl rfl T.z_len) ab) rfl))
    |[b],e2,sub,len2=>
     refine ⟨false,?_,fun h=>(nomatch h),fun h ps hps=>e2 ▸ hps⟩
     exact (Tw.t (jg (bg mU (gM 4 rfl rfl T.z_len) ab) rfl))
    |b::a::r,e2,sub,len2=>
     have sa:=wz a (sub a (by simp))
     have sb:=wz b (sub b (by simp))
     have e1:decide ((1:Int) < ((((b::a::r).reverse.map pu).length:Nat):Int))=true:=decide_eq_true (by simp;omega)
     refine ⟨decide ((1:Int) < ((((b::a::r).reverse.map pu).length:Nat):Int)) && decide (aq a b P≤0),?_,fun h=>?_,fun h ps hps=>?_⟩
     ·exact (Tw.t (mV (bg mU (gM 4 rfl rfl T.z_len) ab) (fun hz=>(kB (bg zM (ar ((jJ T).mono (by decide)) hr rfl T.m__law_cross T.F__law_cross.kp T.b__law_cross ax (ac (pB 4 rfl (bU ab) (wo b a r)) (ac (pB 4 rfl (bU ab) (vY b (a::r))) (ac (aa 5 rfl) ao af) bu) bu) ⟨a,b,P,rfl,sa,sb,sP,rfl⟩) ab)))))
     ·rw[e1,EH] at h
      have hd:=dTb h
      refine ae (vR 4 rfl (by simp) (bi ?_))
      refine ⟨_,a::r,?_,⟨rfl,?_,fun q hq=>sub q (Au _ hq),?_⟩,rfl,rfl,rfl,rfl,?_,rfl,trivial⟩
      ·simp
      ·rw[←e2];conv=>rhs;unfold bq
       rw[if_pos hd]
      ·simp only[A9] at *;omega
      ·exact congrArg (fun l=>some (Sl.own l)) (by simp)
     ·rw[e1,EH] at h
      have hd:=dFb h
      have e3:bq P (b::a::r)=b::a::r:=by conv=>lhs;unfold bq
                                         rw[if_neg hd]
      rw[←e2,e3]
      exact hps
   case hj3=>
    intro ps hps
    refine eT ?_ hps
    have e4:=e8 hP
    have len3:=iZ P (ak (w.take i))
    refine ae (fG 4 rfl (aa 5 rfl) (by rw[Aq,Bm];exact bC (by omega)) (bi ?_))
    refine ⟨_,rfl,rfl,rfl,rfl,rfl,?_,trivial⟩
    exact congrArg (fun l=>some (Sl.own l)) (by rw[e4];simp)
  case hd2=>
   rintro st ps hst hps
   rw[hst] at hps
   rw[Aq,Dk] at hps
   exact hps
  case hj=>
   intro ps hps
   refine eT ?_ hps
   refine nX 4 rfl ?_
   refine ae (aA (i:=2) bE.nd rfl (Or.inl rfl) (EvN.ev (mY (aa 2 rfl) (EvN.ev (e7 (aa 4 rfl) gv (gL (bU ab)) (.inl rfl))) (by rw[gH,Aq,Aq,CA,Bm];exact BX (bC (by omega))))) (bi ?_))
   rw[gH,←BO,←hacc]
   exact ⟨j+1,rfl,rfl,rfl,rfl,trivial⟩
 case hd=>
  rintro q ps hq hps
  refine eT ?_ hps
  have:q=2:=by rw[←hq];rfl
  subst this
  refine ae (a_ (aa 2 rfl) ?_)
  exact rfl
end
section
variable {P:AC}{w:World}{K:Ao}{mg:Str→Option Value}{base:Heap}
def uB:List U→Out→Prop:=fun us o=>∃(a b c d e f:Int) (p:P2),us=[mv a b c d e f,pu p]∧Mv a b c d e f∧Szp 30000 p∧o=.val (pu (ap a b c d e f p))
theorem m_ (T:Txt K mg):bA P w K mg base (CXF P w) 1 T.a__law_by T.d__law_by ["move","spot"] (spU K (uB)):=by
 refine bB T.F__law_by jd (fun us o h=>?_) (fun cdv A outer s H E O us o hr h=>?_)
 ·obtain ⟨a,b,c,d,e,f,p,rfl,M,⟨s1,s2⟩,rfl⟩:=h
  rfl
 obtain ⟨a,b,c,d,e,f,p,rfl,M,⟨s1,s2⟩,rfl⟩:=h
 refine Ws.nox ?_
 obtain ⟨hd,sa,sb,sc,sd,se,sf⟩:=M
 refine ae (aA (i:=2) jd.nd rfl (Or.inl rfl) (ce (ce (aQ (au (aa 0 rfl) ab rfl rfl) (au (aa 1 rfl) ab rfl rfl) (by walk_at "mul")) (aQ (au (aa 0 rfl) ab rfl rfl) (au (aa 1 rfl) ab rfl rfl) (by walk_at "mul"))) (au (aa 0 rfl) ab rfl rfl)) ?_)
 refine ae (a_ (aN (ag (aa 2 rfl) (ag (ce (ce (aQ (au (aa 0 rfl) ab rfl rfl) (au (aa 1 rfl) ab rfl rfl) (by walk_at "mul")) (aQ (au (aa 0 rfl) ab rfl rfl) (au (aa 1 rfl) ab rfl rfl) (by walk_at "mul"))) (au (aa 0 rfl) ab rfl rfl)) aM be) af)) ?_)
 exact rfl
end
section
variable {P:AC}{w:World}{K:Ao}{mg:Str→Option Value}{base:Heap}
def wI (w:Bool):Int:=if w then 1 else -1
theorem rN {l:List P2}{i:Nat} (h:i < l.length) (w:Bool):atI (l.map pu) (((i:Int)+wI w) % ((l.map pu).length:Int))=some (pu (nbr l i w)):=by
 rw[Aq]
 cases w with
 |true=>
  show atI (l.map pu) (((i:Int)+1) % (l.length:Int))=some (pu (gp l (nI l.length i)))
  refine eC ?_ (oK h)
  rw[kl h]
  split
  ·rename_i z
   rw[show (i:Int)+1=(l.length:Int) by omega,Int.emod_self];rfl
  ·rw[Ft (by omega) (by omega)];omega
 |false=>
  show atI (l.map pu) (((i:Int)+-1) % (l.length:Int))=some (pu (gp l (pI l.length i)))
  refine eC ?_ (j4 h)
  rw[ie h]
  split
  ·rename_i z
   have e:((i:Int)+-1) % (l.length:Int)=((i:Int)+-1+(l.length:Int)) % (l.length:Int):=by simp
   rw[e,Ft (by omega) (by omega)];omega
  ·rw[Ft (by omega) (by omega)];omega
theorem uz {l:List P2}{i:Nat} (h:i < l.length) (w:Bool):atI (l.map pu) (((i:Int) - wI w) % ((l.map pu).length:Int))=some (pu (nbr l i (!w))):=by
 have:=rN h (!w)
 rwa [show (i:Int)+wI (!w)=(i:Int) - wI w by cases w <;>unfold wI <;>simp <;>omega] at this
theorem xG {l:List P2} (h:0 < l.length):atI (l.map pu) (-1)=some (pu (gp l (l.length - 1))):=by
 have e:ixN l.length (-1)=some (l.length - 1):=by
  unfold ixN
  split
  ·omega
  ·split
   ·congr 1;omega
   ·omega
 unfold atI
 rw[Aq,e]
 show (l.map pu)[l.length - 1]?=_
 rw[Av,fv (show l.length - 1 < l.length by omega)];rfl
theorem i0 {l:List P2}{i:Nat} (h:i < l.length) (w:Bool):nbr l i w∈l:=by
 unfold nbr
 cases w
 ·exact bY (j4 h)
 ·exact bY (oK h)
def qi:List U→Out→Prop:=fun us o=>∃a b:P2,us=[pu a,pu b]∧Szp 400 a∧Szp 400 b∧o=.val (pu (frm a b))
theorem dm (T:Txt K mg):bA P w K mg base (CXF P w) 1 T.a__law_from T.d__law_from ["start","spot"] (spU K (qi)):=by
 refine bB T.F__law_from ln (fun us o h=>?_) (fun cdv A outer s H E O us o hr h=>?_)
 ·obtain ⟨a,b,rfl,⟨a1,a2⟩,⟨b1,b2⟩,rfl⟩:=h
  rfl
 obtain ⟨a,b,rfl,⟨a1,a2⟩,⟨b1,b2⟩,rfl⟩:=h
 refine Ws.nox ?_
 refine ae (a_ (aN (ag (bo (au (aa 1 rfl) ab rfl rfl) (au (aa 0 rfl) ab rfl rfl)) (ag (bo (au (aa 1 rfl) ab rfl rfl) (au (aa 0 rfl) ab rfl rfl)) aM be) be)) ?_)
 exact rfl
theorem di {a b:P2} (ha:Szp 400 a) (hb:Szp 400 b):Szp 401 (frm a b):=⟨(L2.Sz.sub' hb.1 ha.1).mono (by decide),(L2.Sz.sub' hb.2 ha.2).mono (by decide)⟩
structure TrI (l l':List P2) (i:Nat):Prop where
 c:aj l=l
 n3:3≤l.length
 hi:i < l'.length
 z:∀p∈l,Szp 400 p
 z':∀p∈l',Szp 400 p
section
variable {l l':List P2}{i:Nat}
theorem TrI.sz (h:TrI l l' i) (w:Bool):(∀x∈trT (gp l 0) (gp l 1) (gp l (l.length - 1)) (gp l' i) (nbr l' i w) (nbr l' i (!w)),Sz 803 x)∧Sz6 1210 (trm l l' i w):=by
 have n3:=h.n3
 have zC:=h.z _ (bY (show 0 < l.length by omega))
 have zC':=h.z' _ (bY h.hi)
 have zp:=di zC (h.z _ (bY (show 1 < l.length by omega)))
 have zq:=di zC (h.z _ (bY (show l.length - 1 < l.length by omega)))
 have zr:=di zC' (h.z' _ (i0 h.hi w))
 have zs:=di zC' (h.z' _ (i0 h.hi (!w)))
 have k:∀{a b c d:Int},Sz 401 a→Sz 401 b→Sz 401 c→Sz 401 d→Sz 803 (a*b - c*d):=fun ha hb hc hd=>(L2.Sz.sub' (L2.Sz.mul ha hb) (L2.Sz.mul hc hd)).mono (by decide)
 have t0:=k zr.1 zq.2 zs.1 zp.2
 have t1:=k zs.1 zp.1 zr.1 zq.1
 have t2:=k zr.2 zq.2 zs.2 zp.2
 have t3:=k zs.2 zp.1 zr.2 zq.1
 have all:∀x∈trT (gp l 0) (gp l 1) (gp l (l.length - 1)) (gp l' i) (nbr l' i w) (nbr l' i (!w)),Sz 803 x:=fun x hx=>by
  unfold trT at hx
  simp only[Ay,Bn,or_false] at hx
  rcases hx with e |e |e |e <;>rw[e] <;>assumption
 refine ⟨all,?_⟩
 have d0:Sz 803 ((trT (gp l 0) (gp l 1) (gp l (l.length - 1)) (gp l' i) (nbr l' i w) (nbr l' i (!w))).getD 0 0 / trW (gp l 0) (gp l 1) (gp l (l.length - 1))):=Sz.ediv t0
 have d1:Sz 803 ((trT (gp l 0) (gp l 1) (gp l (l.length - 1)) (gp l' i) (nbr l' i w) (nbr l' i (!w))).getD 1 0 / trW (gp l 0) (gp l 1) (gp l (l.length - 1))):=Sz.ediv t1
 have d2:Sz 803 ((trT (gp l 0) (gp l 1) (gp l (l.length - 1)) (gp l' i) (nbr l' i w) (nbr l' i (!w))).getD 2 0 / trW (gp l 0) (gp l 1) (gp l (l.length - 1))):=Sz.ediv t2
 have d3:Sz 803 ((trT (gp l 0) (gp l 1) (gp l (l.length - 1)) (gp l' i) (nbr l' i w) (nbr l' i (!w))).getD 3 0 / trW (gp l 0) (gp l 1) (gp l (l.length - 1))):=Sz.ediv t3
 exact ⟨d0.mono (by decide),d1.mono (by decide),d2.mono (by decide),d3.mono (by decide),(L2.Sz.sub' (L2.Sz.sub' (zC'.1.mono (n:=1203) (by decide)) (L2.Sz.mul d0 zC.1)) ((L2.Sz.mul d1 zC.2).mono (n:=1204) (by decide))).mono (by decide),(L2.Sz.sub' (L2.Sz.sub' (zC'.2.mono (n:=1203) (by decide)) (L2.Sz.mul d2 zC.1)) ((L2.Sz.mul d3 zC.2).mono (n:=1204) (by decide))).mono (by decide)⟩
end
open Classical in
def nD:List U→Out→Prop:=fun us o=>∃(l l':List P2) (i:Nat) (w:Bool),us=[lp l,lp l',.int (i:Int),.int (wI w)]∧TrI l l' i∧o=.val (if trO l l' i w then mvM (trm l l' i w) else .non)
theorem gr (T:Txt K mg):bA P w K mg base (CXF P w) 2 T.a__law_tried T.d__law_tried ["one","other","at","way"] (spU K (nD)):=by
 refine bB T.F__law_tried aI (fun us o h=>?_) (fun cdv A outer s H E O us o hr h=>?_)
 ·obtain ⟨l,l',i,w,rfl,I,rfl⟩:=h
  rfl
 obtain ⟨l,l',i,w,rfl,I,rfl⟩:=h
 refine Ws.nox ?_
 have n3:=I.n3
 have hi:=I.hi
 have zC:=I.z _ (bY (show 0 < l.length by omega))
 have zC':=I.z' _ (bY I.hi)
 have zA:=I.z _ (bY (show 1 < l.length by omega))
 have zB:=I.z _ (bY (show l.length - 1 < l.length by omega))
 have zR:=I.z' _ (i0 I.hi w)
 have zS:=I.z' _ (i0 I.hi (!w))
 obtain ⟨tz,mz⟩:=I.sz w
 have wp:=o4 I.c n3
 refine ae (aA (i:=4) aI.nd rfl (Or.inl rfl) (ar ((dm T).mono (by decide)) hr rfl T.m__law_from T.F__law_from.kp T.b__law_from ax (ac (au (aa 0 rfl) ab rfl (eC (i:=0) rfl (by omega))) (ac (au (aa 0 rfl) ab rfl (eC (i:=1) rfl (by omega))) ao bu) bu) ⟨_,_,rfl,zC,zA,rfl⟩) ?_)
 refine ae (aA (i:=5) aI.nd rfl (Or.inl rfl) (ar ((dm T).mono (by decide)) hr rfl T.m__law_from T.F__law_from.kp T.b__law_from ax (ac (au (aa 0 rfl) ab rfl (eC (i:=0) rfl (by omega))) (ac (au (aa 0 rfl) (bU ab) rfl (xG (by omega))) ao bu) bu) ⟨_,_,rfl,zC,zB,rfl⟩) ?_)
 refine ae (aA (i:=6) aI.nd rfl (Or.inl rfl) (ar ((dm T).mono (by decide)) hr rfl T.m__law_from T.F__law_from.kp T.b__law_from ax (ac (au (aa 1 rfl) (aa 2 rfl) rfl (eC (i:=i) rfl hi)) (ac (au (aa 1 rfl) (bW (ce (aa 2 rfl) (aa 3 rfl)) (aR (cP rfl) rfl T.z_len Bf (ac (aa 1 rfl) ao af)) (by rw[Aq];omega)) rfl (rN hi w)) ao bu) bu) ⟨_,_,rfl,zC',zR,rfl⟩) ?_)
 refine ae (aA (i:=7) aI.nd rfl (Or.inl rfl) (ar ((dm T).mono (by decide)) hr rfl T.m__law_from T.F__law_from.kp T.b__law_from ax (ac (au (aa 1 rfl) (aa 2 rfl) rfl (eC (i:=i) rfl hi)) (ac (au (aa 1 rfl) (bW (bo (aa 2 rfl) (aa 3 rfl)) (aR (cP rfl) rfl T.z_len Bf (ac (aa 1 rfl) ao af)) (by rw[Aq];omega)) rfl (uz hi w)) ao bu) bu) ⟨_,_,rfl,zC',zS,rfl⟩) ?_)
 have p1:=(di zC zA).1
 have p2:=(di zC zA).2
 have q1:=(di zC zB).1
 have q2:=(di zC zB).2
 have r1:=(di zC' zR).1
 have r2:=(di zC' zR).2
 have s1:=(di zC' zS).1
 have s2:=(di zC' zS).2
 refine ae (aA (i:=8) aI.nd rfl (Or.inr rfl) (bo (aQ (au (aa 4 rfl) ab rfl rfl) (au (aa 5 rfl) ab rfl rfl) (by walk_at "mul")) (aQ (au (aa 4 rfl) ab rfl rfl) (au (aa 5 rfl) ab rfl rfl) (by walk_at "mul"))) ?_)
 have wz:Sz 803 (trW (gp l 0) (gp l 1) (gp l (l.length - 1))):=(L2.Sz.sub' (L2.Sz.mul p1 q2) (L2.Sz.mul p2 q1)).mono (by decide)
 refine ae (aA (i:=9) aI.nd rfl (Or.inl rfl) (EvN.ev (dX (ag (bo (aQ (au (aa 6 rfl) ab rfl rfl) (au (aa 5 rfl) ab rfl rfl) (by walk_at "mul")) (aQ (au (aa 7 rfl) ab rfl rfl) (au (aa 4 rfl) ab rfl rfl) (by walk_at "mul"))) (ag (bo (aQ (au (aa 7 rfl) ab rfl rfl) (au (aa 4 rfl) ab rfl rfl) (by walk_at "mul")) (aQ (au (aa 6 rfl) ab rfl rfl) (au (aa 5 rfl) ab rfl rfl) (by walk_at "mul"))) aM be) be))) ?_)
 refine ae (aA (i:=9) aI.nd rfl (Or.inl rfl) (EvN.ev (mY (aa 9 rfl) (EvN.ev (dX (ag (bo (aQ (au (aa 6 rfl) ab rfl rfl) (au (aa 5 rfl) ab rfl rfl) (by walk_at "mul")) (aQ (au (aa 7 rfl) ab rfl rfl) (au (aa 4 rfl) ab rfl rfl) (by walk_at "mul"))) (ag (bo (aQ (au (aa 7 rfl) ab rfl rfl) (au (aa 4 rfl) ab rfl rfl) (by walk_at "mul")) (aQ (au (aa 6 rfl) ab rfl rfl) (au (aa 5 rfl) ab rfl rfl) (by walk_at "mul"))) aM be) be))) (show 2+2≤sizeLine by decide))) ?_)
 show Ws _ _ _ _ _ _ [some (.val (lp l)),some (.val (lp l')),some (.val (.int (i:Int))),some (.val (.int (wI w))),some (.val (pu (frm (gp l 0) (gp l 1)))),some (.val (pu (frm (gp l 0) (gp l (l.length - 1))))),some (.val (pu (frm (gp l' i) (nbr l' i w)))),some (.val (pu (frm (gp l' i) (nbr l' i (!w))))),some (.val (.int (trW (gp l 0) (gp l 1) (gp l (l.length - 1))))),some (.val (.lst ((trT (gp l 0) (gp l 1) (gp l (l.length - 1)) (gp l' i) (nbr l' i w) (nbr l' i (!w))).map U.int))),none,none,none,none,none,none,none]
 unfold trO trm
 have eM:(trM (gp l 0) (gp l 1) (gp l (l.length - 1)) (gp l' i) (nbr l' i w) (nbr l' i (!w)))=⟨(trT (gp l 0) (gp l 1) (gp l (l.length - 1)) (gp l' i) (nbr l' i w) (nbr l' i (!w))).getD 0 0 / trW (gp l 0) (gp l 1) (gp l (l.length - 1)),(trT (gp l 0) (gp l 1) (gp l (l.length - 1)) (gp l' i) (nbr l' i w) (nbr l' i (!w))).getD 1 0 / trW (gp l 0) (gp l 1) (gp l (l.length - 1)),(trT (gp l 0) (gp l 1) (gp l (l.length - 1)) (gp l' i) (nbr l' i w) (nbr l' i (!w))).getD 2 0 / trW (gp l 0) (gp l 1) (gp l (l.length - 1)),(trT (gp l 0) (gp l 1) (gp l (l.length - 1)) (gp l' i) (nbr l' i w) (nbr l' i (!w))).getD 3 0 / trW (gp l 0) (gp l 1) (gp l (l.length - 1)),_,_⟩:=rfl
 have tl:(trT (gp l 0) (gp l 1) (gp l (l.length - 1)) (gp l' i) (nbr l' i w) (nbr l' i (!w))).length=4:=rfl
 unfold trm at mz
 have okd:xT (gp l 0) (gp l 1) (gp l (l.length - 1)) (gp l' i) (nbr l' i w) (nbr l' i (!w))=((∀x∈trT (gp l 0) (gp l 1) (gp l (l.length - 1)) (gp l' i) (nbr l' i w) (nbr l' i (!w)),x % trW (gp l 0) (gp l 1) (gp l (l.length - 1))=0)∧(trM (gp l 0) (gp l 1) (gp l (l.length - 1)) (gp l' i) (nbr l' i w) (nbr l' i (!w))).U):=rfl
 rw[okd]
 generalize trM (gp l 0) (gp l 1) (gp l (l.length - 1)) (gp l' i) (nbr l' i w) (nbr l' i (!w))=m at *
 generalize trT (gp l 0) (gp l 1) (gp l (l.length - 1)) (gp l' i) (nbr l' i w) (nbr l' i (!w))=T4 at *
 generalize trW (gp l 0) (gp l 1) (gp l (l.length - 1))=W at *
 have wz9:0 < W∧Sz 9000 W:=⟨wp,wz.mono (by decide)⟩
 refine ae (gF (fun _:Unit=>[some (.val (lp l)),some (.val (lp l')),some (.val (.int (i:Int))),some (.val (.int (wI w))),some (.val (pu (frm (gp l 0) (gp l 1)))),some (.val (pu (frm (gp l 0) (gp l (l.length - 1))))),some (.val (pu (frm (gp l' i) (nbr l' i w)))),some (.val (pu (frm (gp l' i) (nbr l' i (!w))))),some (.val (.int W)),some (.val (.lst (T4.map U.int))),none,none,none,none,none,none,none]) (fun k _=>∀j,j < k→T4.getD j 0 % W=0) rfl PassesOwn.never (dB (aa 9 rfl) (.inl rfl)) ?h0 ?hs ?hd)
 case h0=>exact ⟨(),fun j hj=>absurd hj (by omega),rfl,rfl,rfl,rfl,rfl,rfl,rfl,rfl,rfl,rfl,trivial⟩
 case hs=>
  rintro H0 k y _ hy inv
  rw[Av] at hy
  obtain ⟨x,hx,rfl⟩:=Dr.mp hy
  have xm:=AW hx
  have xg:T4.getD k 0=x:=by rw[Ax,hx];rfl
  refine ⟨_,(gN (i:=10) aI.nd rfl (Or.inl rfl)),?_⟩
  by_cases z:x % W=0
  ·refine ae (cC (bg gg (bW (aa 10 rfl) (aa 8 rfl) wp) ab) (by rw[z];rfl) (bi (bi ?_)))
   refine ⟨(),fun j hj=>?_,rfl,rfl,rfl,rfl,rfl,rfl,rfl,rfl,rfl,rfl,trivial⟩
   by_cases e:j=k
   ·rw[e,xg];exact z
   ·exact inv j (by omega)
  ·refine ae (eA (bg gg (bW (aa 10 rfl) (aa 8 rfl) wp) ab) (by simp[z]) ?_)
   refine ae (a_ rh ?_)
   show Out.val _=Out.val _
   rw[if_neg (fun h=>z (h.1 x xm))]
 case hd=>
  rintro _ ps inv hps
  refine eT ?_ hps
  rw[Aq,tl] at inv
  have dv:∀x∈T4,x % W=0:=fun x hx=>by
   obtain ⟨j,hj⟩:=BN.mp hx
   have:=inv j (by have:=aP hj;omega)
   rw[Ax,hj] at this
   exact this
  have e4:T4=[T4.getD 0 0,T4.getD 1 0,T4.getD 2 0,T4.getD 3 0]:=by
   match T4,tl with
   |[a,b,c,d],_=>rfl
  have ea:T4.getD 0 0 / W=m.a:=by rw[eM]
  have eb:T4.getD 1 0 / W=m.b:=by rw[eM]
  have ec:T4.getD 2 0 / W=m.c:=by rw[eM]
  have ed:T4.getD 3 0 / W=m.d:=by rw[eM]
  have ee:m.e=(gp l' i).1 - m.a*(gp l 0).1 - m.b*(gp l 0).2:=by rw[eM]
  have ef:m.f=(gp l' i).2 - m.c*(gp l 0).1 - m.d*(gp l 0).2:=by rw[eM]
  have zc1:=zC.1
  have zc2:=zC.2
  have zc1':=zC'.1
  have zc2':=zC'.2
  have za:=mz.a
  have zb:=mz.b
  have zc:=mz.c
  have zd:=mz.d
  refine ae (sJ (EvN.ev (iE (ys:=[U.int m.a,.int m.b,.int m.c,.int m.d]) rfl (blk (ai bR) ["one","other","at","way","p","q","r","s","wide","tops","top","a","b","c","d","x","y"] [10] rfl rfl rfl rfl (by decide+kernel)) (dB (aa 9 rfl) (.inl rfl)) (fun _ _ _ _=>bF (i:=10) aI.nd rfl (Or.inl rfl)) (dE (by decide)) ?clen ?csz (fun _ _=>trivial) ?celt)) (yr [11,12,13,14] rfl (ci (bF (i:=11) aI.nd rfl (Or.inl rfl)) (ci (bF (i:=12) aI.nd rfl (Or.inl rfl)) (ci (bF (i:=13) aI.nd rfl (Or.inl rfl)) (ci (bF (i:=14) aI.nd rfl (Or.inl rfl)) iU)))) (.inl rfl) rfl) ?_)
  case clen=>rw[Aq,tl];rfl
  case csz=>rw[Aq,tl];decide
  case celt=>
   intro C s' H' fp j y z hy hz
   rw[Av] at hy
   obtain ⟨x,hx,rfl⟩:=Dr.mp hy
   have xz:=tz x (AW hx)
   have:z=.int (x / W):=by
    rw[←ea,←eb,←ec,←ed] at hz
    have hx':x=T4.getD j 0:=by rw[Ax,hx];rfl
    match j,hz with
    |0,hz=>cases hz;rw[hx']
    |1,hz=>cases hz;rw[hx']
    |2,hz=>cases hz;rw[hx']
    |3,hz=>cases hz;rw[hx']
    |j+4,hz=>cases hz
   subst this
   exact (eI (aa 10 rfl) (aa 8 rfl) wz9)
  by_cases u:m.U
  ·refine ae (cC (bg gg (aR kj rfl T.z_abs PyProof.Rows.boot_abs (ac (bo (aQ (aa 11 rfl) (aa 14 rfl) (by walk_at "mul")) (aQ (aa 12 rfl) (aa 13 rfl) (by walk_at "mul"))) ao be)) ab) (by rcases u with q |q <;>rw[q] <;>rfl) (bi ?_))
   refine ae (aA (i:=15) aI.nd rfl (Or.inl rfl) (bo (bo (au (au (aa 1 rfl) (aa 2 rfl) rfl (eC (i:=i) rfl hi)) ab rfl rfl) (aQ (aa 11 rfl) (au (au (aa 0 rfl) ab rfl (eC (i:=0) rfl (by omega))) ab rfl rfl) (by walk_at "mul"))) (aQ (aa 12 rfl) (au (au (aa 0 rfl) ab rfl (eC (i:=0) rfl (by omega))) ab rfl rfl) (by walk_at "mul"))) ?_)
   refine ae (aA (i:=16) aI.nd rfl (Or.inl rfl) (bo (bo (au (au (aa 1 rfl) (aa 2 rfl) rfl (eC (i:=i) rfl hi)) ab rfl rfl) (aQ (aa 13 rfl) (au (au (aa 0 rfl) ab rfl (eC (i:=0) rfl (by omega))) ab rfl rfl) (by walk_at "mul"))) (aQ (aa 14 rfl) (au (au (aa 0 rfl) ab rfl (eC (i:=0) rfl (by omega))) ab rfl rfl) (by walk_at "mul"))) ?_)
   refine ae (a_ (aN (ag (aa 11 rfl) (ag (aa 12 rfl) (ag (aa 13 rfl) (ag (aa 14 rfl) (ag (aa 15 rfl) (ag (aa 16 rfl) aM af) af) af) af) af) af)) ?_)
   show Out.val _=Out.val _
   rw[if_pos ⟨dv,u⟩,←ee,←ef]
  ·have nu:¬ (m.a*m.d - m.b*m.c=1∨m.a*m.d - m.b*m.c=-1):=u
   refine ae (eA (bg gg (aR kj rfl T.z_abs PyProof.Rows.boot_abs (ac (bo (aQ (aa 11 rfl) (aa 14 rfl) (by walk_at "mul")) (aQ (aa 12 rfl) (aa 13 rfl) (by walk_at "mul"))) ao be)) ab) (by rw[Bool.not_eq_true'];exact decide_eq_false (fun q=>nu (by omega))) ?_)
   refine ae (a_ rh ?_)
   show Out.val _=Out.val _
   rw[if_neg (fun h=>u h.2)]
end
section
variable {P:AC}{w:World}{K:Ao}{mg:Str→Option Value}{base:Heap}
def three:List P2:=[(0,0),(1,0),(0,1)]
def wW (ns:List Int):Int:=2+cel ns 0 / 4 % 4
def wH (ns:List Int):Int:=2+cel ns 0 / 4 / 4 % 3
def cK (ns:List Int) (k:Int):List Int:=pkL ns k 60 2
def wN (ns:List Int) (k:Int) (i:Nat):List P2:=three++((cK ns k).take i).map fun c=>(c % wW ns,c / wW ns % wH ns)
def wP (ns:List Int) (k:Int):List P2:=wN ns k (cK ns k).length
def nk:List P2:=[0,1,2,3,4].flatMap fun x=>[0,1,2,3].map fun y=>(x,y)
theorem xO {p:P2} (h:0≤p.1∧p.1≤4∧0≤p.2∧p.2≤3):p∈nk:=by
 obtain ⟨x,y⟩:=p
 dsimp only at h
 have hx:x=0∨x=1∨x=2∨x=3∨x=4:=by omega
 have hy:y=0∨y=1∨y=2∨y=3:=by omega
 rcases hx with e |e |e |e |e <;>rcases hy with f |f |f |f <;>subst e <;>subst f <;>decide
theorem wk (ns:List Int):2≤wW ns∧wW ns≤5∧2≤wH ns∧wH ns≤4:=by unfold wW wH;omega
theorem pE (ns:List Int) {k:Int} (hk:0≤k) (i:Nat):(wN ns k i).length≤33∧(∀p∈wN ns k i,p∈nk)∧∀p∈three,p∈wN ns k i:=by
 obtain ⟨w1,w2,h1,h2⟩:=wk ns
 have cl:(cK ns k).length≤30:=o3 ns hk
 unfold wN
 refine ⟨by unfold three;simp;omega,fun p hp=>?_,fun p hp=>BK _ hp⟩
 rcases Cr.mp hp with q |q
 ·have:∀r∈three,r∈nk:=by decide
  exact this p q
 ·obtain ⟨c,_,rfl⟩:=Az.mp q
  have a1:=BH c (show wW ns≠0 by omega)
  have a2:=Bs c (show 0 < wW ns by omega)
  have b1:=BH (c / wW ns) (show wH ns≠0 by omega)
  have b2:=Bs (c / wW ns) (show 0 < wH ns by omega)
  exact xO (by dsimp only;omega)
def mH:List U→Out→Prop:=fun us o=>∃(ns:List Int) (k:Int),us=[.scr (ns.map U.int),.int k]∧(∀m∈ns,Sz 1048576 m)∧0≤k∧o=.val (lp (wP ns k))
theorem fk (T:Txt K mg):bA P w K mg base (CXF P w) 2 T.a__law_window T.d__law_window ["script","start"] (spU K (mH)):=by
 refine bB T.F__law_window bO (fun us o h=>?_) (fun cdv A outer s H E O us o hr h=>?_)
 ·obtain ⟨ns,k,rfl,hB,hk,rfl⟩:=h
  rfl
 obtain ⟨ns,k,rfl,hB,hk,rfl⟩:=h
 refine Ws.nox ?_
 obtain ⟨w1,w2,h1,h2⟩:=wk ns
 have wz:Sz 9000 (wW ns):=Sz.mono (m:=8) (by unfold Sz;omega) (by decide)
 have cl:(cK ns k).length≤30:=o3 ns hk
 have cut:pkL (ns.map U.int) k 60 2=(cK ns k).map U.int:=vi _ _ _ _ _
 refine ae (aA (i:=2) bO.nd rfl (Or.inl rfl) (eI (ar ((aG T).mono (by decide)) hr rfl T.m__law_cell_at T.F__law_cell_at.kp T.b__law_cell_at ax (ac (aa 0 rfl) (ac ab ao ay) af) ⟨ns,_,rfl,by decide,rfl⟩) ab (by walk_at "div")) ?_)
 refine ae (aA (i:=3) bO.nd rfl (Or.inl rfl) (ce ab (bW (aa 2 rfl) ab (by walk_at "mod"))) ?_)
 refine ae (aA (i:=4) bO.nd rfl (Or.inl rfl) (ce ab (bW (eI (aa 2 rfl) ab (by walk_at "div")) ab (by walk_at "mod"))) ?_)
 rw[show 2+cel ns 0 / 4 % 4=wW ns from rfl,show 2+cel ns 0 / 4 / 4 % 3=wH ns from rfl]
 refine ae ?_
 generalize hE:(Expr.List _ _)=E0
 refine ml (i:=5) (xs:=three.map pu) bO.nd rfl (Or.inl rfl) ?_ ?_ (by subst hE;rfl) (.inl rfl)
 ·subst hE
  refine EvM.ev ?_
  refine zo ?_ (show 3≤sizeLine by decide)
  refine ag (aN (ag ab (ag ab aM ay) ay)) ?_ bH
  refine ag (aN (ag ab (ag ab aM ay) ay)) ?_ bH
  exact ag (aN (ag ab (ag ab aM ay) ay)) aM bH
 clear hE
 refine ae (gF (fun i:Nat=>[some (.val (.scr (ns.map U.int))),some (.val (.int k)),some (.val (.int (cel ns 0 / 4))),some (.val (.int (wW ns))),some (.val (.int (wH ns))),some (.own ((wN ns k i).map pu)),none]) (fun i j=>i=j) rfl PassesOwn.never (dB (EvN.ev (tO (aa 0 rfl) (aa 1 rfl) ab ab (by decide) (.inr rfl) (by rw[cut,Aq];exact BX (bC (by omega))))) (.inl rfl)) ?h0 ?hs ?hd)
 case h0=>
  refine ⟨0,rfl,rfl,rfl,rfl,rfl,rfl,?_,trivial⟩
  exact congrArg (fun z=>some (Sl.own z)) (show _=(three++([]:List P2)).map pu by rw[D3])
 case hs=>
  rintro H0 i x _ hx rfl
  rw[cut,Av] at hx
  obtain ⟨c,hc,rfl⟩:=Dr.mp hx
  have hi:i < (cK ns k).length:=aP hc
  have lai:=(pE ns hk i).1
  have cz:Sz 1048576 c:=hB c (vO (AW hc))
  refine ⟨_,(gN (i:=6) bO.nd rfl (Or.inl rfl)),?_⟩
  refine ae (fG 5 rfl (aN (ag (bW (aa 6 rfl) (aa 3 rfl) (by omega)) (ag (bW (eI (aa 6 rfl) (aa 3 rfl) ⟨by omega,wz⟩) (aa 4 rfl) (by omega)) aM be) be)) (by rw[Aq];exact bC (by omega)) (bi ?_))
  refine ⟨i+1,rfl,rfl,rfl,rfl,rfl,rfl,?_,trivial⟩
  refine congrArg (fun z=>some (Sl.own z)) ?_
  unfold wN
  rw[List.take_add_one,hc,BO (l₁:=(cK ns k).take i),←Fp];simp only[BO];rfl
 case hd=>
  rintro q ps hq hps
  refine eT ?_ hps
  have:q=(cK ns k).length:=by rw[←hq,cut,Aq]
  subst this
  refine nX 5 rfl ?_
  refine ae (a_ (aa 5 rfl) ?_)
  exact rfl
end
section
variable {P:AC}{w:World}{K:Ao}{mg:Str→Option Value}{base:Heap}
def tnR (high low s after:Int):Int:=if h:0 < low then tnR low (high - high / low*low) after (s - high / low*after) else s
termination_by low.toNat
decreasing_by
 have e:=Ey high low
 have c:low*(high / low)=high / low*low:=De _ _
 have h1:=BH high (show low≠0 by omega)
 have h2:=Bs high h
 omega
structure TnI (n high low s after:Int):Prop where
 l0:0≤low
 lh:low < high
 hn:high≤n
 ex:∃p q:Int,0≤p∧0≤q∧p≤n∧q≤n∧high*q+low*p=n∧((s=p∧after=-q)∨(s=-p∧after=q))
theorem TnI.turn {n high low s after:Int} (I:TnI n high low s after) (h:0 < low):TnI n low (high - high / low*low) after (s - high / low*after)∧(high - high / low*low).toNat < low.toNat:=by
 obtain ⟨l0,lh,hn,p,q,p0,q0,pn,qn,e,sg⟩:=I
 have d:=Ey high low
 have c:low*(high / low)=high / low*low:=De _ _
 have h1:=BH high (show low≠0 by omega)
 have h2:=Bs high h
 have t0:0≤high / low:=Im (by omega) (by omega)
 generalize high / low=t at *
 have hr:high - t*low=high % low:=by omega
 refine ⟨⟨by omega,by omega,by omega,q,p+t*q,q0,GL p0 (By t0 q0),qn,?_,?_,?_⟩,by omega⟩
 ·have k:low*(p+t*q)+(high - t*low) *q=n:=by
   have:low*(p+t*q)+(high - t*low) *q=high*q+low*p:=by grind
   rw[this];exact e
  have k2:0≤(high - t*low) *q:=By (by omega) q0
  have k3:1*(p+t*q)≤low*(p+t*q):=Dg (by omega) (GL p0 (By t0 q0))
  omega
 ·have:low*(p+t*q)+(high - t*low) *q=high*q+low*p:=by grind
  rw[this];exact e
 ·rcases sg with ⟨a,b⟩ |⟨a,b⟩
  ·right;rw[a,b];exact ⟨rfl,by grind⟩
  ·left;rw[a,b];exact ⟨rfl,by grind⟩
theorem TnI.sz {n high low s after:Int} (I:TnI n high low s after) (z:Sz 70 n):Sz 70 high∧Sz 70 low∧Sz 70 s∧Sz 70 after:=by
 obtain ⟨l0,lh,hn,p,q,p0,q0,pn,qn,e,sg⟩:=I
 refine ⟨z.natle (by omega),z.natle (by omega),z.natle ?_,z.natle ?_⟩ <;>rcases sg with ⟨a,b⟩ |⟨a,b⟩ <;>omega
def tn (a n:Int):Int:=tnR n (a % n) 0 1 % n
def u8:List U→Out→Prop:=fun us o=>∃a n:Int,us=[.int a,.int n]∧2≤n∧Sz 70 n∧Sz 70 a∧o=.val (.int (tn a n))
theorem cU (T:Txt K mg):bA P w K mg base (CXF P w) 1 T.a__law_turned_number T.d__law_turned_number ["a","n"] (spU K (u8)):=by
 refine bB T.F__law_turned_number aL (fun us o h=>?_) (fun cdv A outer s H E O us o hr h=>?_)
 ·obtain ⟨a,n,rfl,n2,nz,az,rfl⟩:=h
  rfl
 obtain ⟨a,n,rfl,n2,nz,az,rfl⟩:=h
 refine Ws.nox ?_
 have m0:=BH a (show n≠0 by omega)
 have m1:=Bs a (show 0 < n by omega)
 refine ae (aA (i:=2) aL.nd rfl (Or.inl rfl) (aa 1 rfl) ?_)
 refine ae (aA (i:=3) aL.nd rfl (Or.inl rfl) (bW (aa 0 rfl) (aa 1 rfl) (by omega)) ?_)
 refine ae (aA (i:=4) aL.nd rfl (Or.inl rfl) ab ?_)
 refine ae (aA (i:=5) aL.nd rfl (Or.inl rfl) ab ?_)
 refine ae (hU (fun m:Int×Int×Int×Int=>[some (.val (.int a)),some (.val (.int n)),some (.val (.int m.1)),some (.val (.int m.2.1)),some (.val (.int m.2.2.1)),some (.val (.int m.2.2.2)),none]) (fun k m=>k=m.2.1.toNat∧TnI n m.1 m.2.1 m.2.2.1 m.2.2.2∧tnR m.1 m.2.1 m.2.2.1 m.2.2.2=tnR n (a % n) 0 1) PassesOwn.never ?h0 ?hs)
 case h0=>exact ⟨_,(_,_,_,_),⟨rfl,⟨m0,m1,Ip _,0,1,by omega,by omega,by omega,by omega,by dsimp only;omega,.inr ⟨rfl,rfl⟩⟩,rfl⟩,rfl,rfl,rfl,rfl,rfl,rfl,trivial⟩
 case hs=>
  rintro m ⟨high,low,s',after⟩ ⟨rfl,I,er⟩
  dsimp only at I er ⊢
  obtain ⟨zh,zl,zs,za⟩:=I.sz nz
  refine ⟨decide (0 < low),(bg mU (aa 3 rfl) ab),fun h=>?_,fun h ps hps=>?_⟩
  ·have hl:=dTb h
   obtain ⟨I2,less⟩:=I.turn hl
   have zt:Sz 70 (high / low):=zh.ediv
   refine ae (aA (i:=6) aL.nd rfl (Or.inl rfl) (eI (aa 2 rfl) (aa 3 rfl) ⟨hl,zl.mono (by decide)⟩) ?_)
   refine ae (wA (i:=2) (j:=3) rfl aL.nd rfl rfl (by decide) rfl rfl (ac (aa 3 rfl) (ac (bo (aa 2 rfl) (aQ (aa 6 rfl) (aa 3 rfl) (L2.Sz.ok zt zl (by decide)))) ao be) af) rfl ?_)
   refine ae (wA (i:=4) (j:=5) rfl aL.nd rfl rfl (by decide) rfl rfl (ac (aa 5 rfl) (ac (bo (aa 4 rfl) (aQ (aa 6 rfl) (aa 5 rfl) (L2.Sz.ok zt za (by decide)))) ao be) af) rfl (bi ?_))
   refine ⟨_,(_,_,_,_),less,⟨rfl,I2,?_⟩,rfl,rfl,rfl,rfl,rfl,rfl,trivial⟩
   rw[←er]
   conv=>rhs;rw[tnR]
   rw[dif_pos hl]
  ·have hl:=dFb h
   refine eT ?_ hps
   refine ae (a_ (bW (aa 4 rfl) (aa 1 rfl) (by omega)) ?_)
   refine vIO ?_
   unfold tn
   rw[←er,tnR,dif_neg hl]
end
section
variable {P:AC}{w:World}{K:Ao}{mg:Str→Option Value}{base:Heap}
def slN (ns:List Int):Int:=if cel ns 0 / 4 % 2=1 then 2+cel ns 3 % 30 else 2+cel ns 3 % 10 ^ (20:Int).toNat
def slA (ns:List Int):Int:=cel ns 4 % slN ns
def slL (ns:List Int):List Int:=[cel ns 5 % slN ns,1 - slA ns,0 - slA ns,tn (slA ns) (slN ns),1 - tn (slA ns) (slN ns)]
def slB (ns:List Int):Int:=(slL ns).getD (cel ns 0 / 8 % 5).toNat 0
theorem oy (ns:List Int):2≤slN ns∧Sz 68 (slN ns):=by
 unfold slN
 split
 ·exact ⟨by omega,Sz.mono (m:=8) (by unfold Sz;omega) (by decide)⟩
 ·have h1:=BH (cel ns 3) (show (10 ^ (20:Int).toNat:Int)≠0 by decide+kernel)
  have h2:=Bs (cel ns 3) (show (0:Int) < 10 ^ (20:Int).toNat by decide+kernel)
  have z:Sz 68 (2+(10:Int) ^ (20:Int).toNat):=by decide+kernel
  exact ⟨by omega,z.natle (by omega)⟩
theorem m8 {c n:Int}{m:Nat} (h:0 < n) (z:Sz m n):0≤c % n∧Sz m (c % n):=by
 have h1:=BH c (show n≠0 by omega)
 have h2:=Bs c h
 exact ⟨h1,z.natle (by omega)⟩
theorem wC (ns:List Int):Sz 68 (slA ns)∧Sz 69 (slB ns):=by
 obtain ⟨n2,nz⟩:=oy ns
 have a:=m8 (c:=cel ns 4) (show 0 < slN ns by omega) nz
 have t:=m8 (c:=tnR (slN ns) (slA ns % slN ns) 0 1) (show 0 < slN ns by omega) nz
 have one:Sz 68 (1:Int):=Sz.mono (m:=8) (by decide) (by decide)
 have zero:Sz 68 (0:Int):=Sz.mono (m:=8) (by decide) (by decide)
 have all:∀x∈slL ns,Sz 69 x:=fun x hx=>by
  unfold slL at hx
  simp only[Ay,Bn,or_false] at hx
  rcases hx with e |e |e |e |e <;>rw[e]
  ·exact (m8 (show 0 < slN ns by omega) nz).2.mono (by decide)
  ·exact (L2.Sz.sub' one a.2).mono (by decide)
  ·exact (L2.Sz.sub' zero a.2).mono (by decide)
  ·exact t.2.mono (by decide)
  ·exact (L2.Sz.sub' one t.2).mono (by decide)
 refine ⟨a.2,?_⟩
 unfold slB
 rw[Ax]
 cases h:(slL ns)[(cel ns 0 / 8 % 5).toNat]? with
 |none=>exact Sz.mono (m:=8) (by decide) (by decide)
 |some x=>exact all x (AW h)
def qc:List U→Out→Prop:=fun us o=>∃ns:List Int,us=[.scr (ns.map U.int)]∧(∀m∈ns,Sz 1048576 m)∧o=.val (.tup [lp [(0,0),(1,0),(slA ns,slN ns)],lp [(0,0),(1,0),(slB ns,slN ns)]])
theorem ko (T:Txt K mg):bA P w K mg base (CXF P w) 2 T.a__law_slim T.d__law_slim ["script"] (spU K (qc)):=by
 refine bB T.F__law_slim cA (fun us o h=>?_) (fun cdv A outer s H E O us o hr h=>?_)
 ·obtain ⟨ns,rfl,hB,rfl⟩:=h
  rfl
 obtain ⟨ns,rfl,hB,rfl⟩:=h
 refine Ws.nox ?_
 obtain ⟨n2,nz⟩:=oy ns
 obtain ⟨za,zb⟩:=wC ns
 have hn0:0 < slN ns:=by omega
 refine ae (aA (i:=1) cA.nd rfl (Or.inl rfl) (ce ab (bW (ar ((aG T).mono (by decide)) hr rfl T.m__law_cell_at T.F__law_cell_at.kp T.b__law_cell_at ax (ac (aa 0 rfl) (ac ab ao ay) af) ⟨ns,_,rfl,by decide,rfl⟩) (mO ab ab ⟨by decide,by decide,by decide⟩) (by decide+kernel))) ?_)
 refine kX (fun ps=>SubP [some (.val (.scr (ns.map U.int))),some (.val (.int (slN ns))),none,none,none] ps) (nw (bg cT (bW (eI (ar ((aG T).mono (by decide)) hr rfl T.m__law_cell_at T.F__law_cell_at.kp T.b__law_cell_at ax (ac (aa 0 rfl) (ac ab ao ay) af) ⟨ns,_,rfl,by decide,rfl⟩) ab (by walk_at "div")) ab (by walk_at "mod")) ab) (fun hT=>?_) (fun hF=>(bi ?_))) ?hj
 ·have e:slN ns=2+cel ns 3 % 30:=by unfold slN;rw[if_pos (dTb hT)]
  refine ae (aA (i:=1) cA.nd rfl (Or.inl rfl) (ce ab (bW (ar ((aG T).mono (by decide)) hr rfl T.m__law_cell_at T.F__law_cell_at.kp T.b__law_cell_at ax (ac (aa 0 rfl) (ac ab ao ay) af) ⟨ns,_,rfl,by decide,rfl⟩) ab (by walk_at "mod"))) (bi ?_))
  rw[e]
  exact ⟨rfl,rfl,trivial⟩
 ·have e:slN ns=2+cel ns 3 % 10 ^ (20:Int).toNat:=by unfold slN;rw[if_neg (dFb hF)]
  rw[e]
  exact ⟨rfl,rfl,trivial⟩
 case hj=>
  intro ps hps
  refine eT ?_ hps
  refine ae (aA (i:=2) cA.nd rfl (Or.inl rfl) (bW (ar ((aG T).mono (by decide)) hr rfl T.m__law_cell_at T.F__law_cell_at.kp T.b__law_cell_at ax (ac (aa 0 rfl) (ac ab ao ay) af) ⟨ns,_,rfl,by decide,rfl⟩) (aa 1 rfl) hn0) ?_)
  refine ae (aA (i:=3) cA.nd rfl (Or.inl rfl) (bW (eI (ar ((aG T).mono (by decide)) hr rfl T.m__law_cell_at T.F__law_cell_at.kp T.b__law_cell_at ax (ac (aa 0 rfl) (ac ab ao ay) af) ⟨ns,_,rfl,by decide,rfl⟩) ab (by walk_at "div")) ab (by walk_at "mod")) ?_)
  rw[show cel ns 4 % slN ns=slA ns from rfl]
  refine ae ?_
  generalize hE:(Expr.Subscript _ _ _)=E0
  refine aA (i:=4) (u:=.int (slB ns)) cA.nd rfl (Or.inl rfl) (EvD.ev ?hv) ?h3 (by subst hE;rfl) (.inl rfl)
  case hv=>
   subst hE
   refine yj (us:=(slL ns).map U.int) ?_ (aa 3 rfl) (mG (by omega) (by show _ < ((5:Nat):Int);omega))
   refine dsp ?_ (show 5≤sizeLine by decide)
   refine ag (bW (ar ((aG T).mono (by decide)) hr rfl T.m__law_cell_at T.F__law_cell_at.kp T.b__law_cell_at ax (ac (aa 0 rfl) (ac ab ao ay) af) ⟨ns,_,rfl,by decide,rfl⟩) (aa 1 rfl) hn0) ?_ be
   refine ag (bo ab (aa 2 rfl)) ?_ be
   refine ag (bo ab (aa 2 rfl)) ?_ be
   refine ag (ar ((cU T).mono (by decide)) hr rfl T.m__law_turned_number T.F__law_turned_number.kp T.b__law_turned_number ax (ac (aa 2 rfl) (ac (aa 1 rfl) ao af) af) ⟨slA ns,slN ns,rfl,n2,nz.mono (by decide),za.mono (by decide),rfl⟩) ?_ cV
   exact ag (bo ab (ar ((cU T).mono (by decide)) hr rfl T.m__law_turned_number T.F__law_turned_number.kp T.b__law_turned_number ax (ac (aa 2 rfl) (ac (aa 1 rfl) ao af) af) ⟨slA ns,slN ns,rfl,n2,nz.mono (by decide),za.mono (by decide),rfl⟩)) aM be
  case h3=>
   clear hE
   show Ws _ _ _ _ _ _ [some (.val (.scr (ns.map U.int))),some (.val (.int (slN ns))),some (.val (.int (slA ns))),some (.val (.int (cel ns 0 / 8 % 5))),some (.val (.int (slB ns)))]
   refine ae ?_
   generalize hE:(Expr.Tuple _ _ _)=E0
   refine a_ (u:=.tup [lp [(0,0),(1,0),(slA ns,slN ns)],lp [(0,0),(1,0),(slB ns,slN ns)]]) (EvD.ev ?hw) ?h4
   case hw=>
    subst hE
    refine yH ?_ (show 2≤sizeLine by decide)
    refine ag (EvD.ev ?q1) (ag (EvD.ev ?q2) aM nW) nW
    ·refine dsp ?_ (show 3≤sizeLine by decide)
     refine ag (aN (ag ab (ag ab aM ay) ay)) ?_ bH
     refine ag (aN (ag ab (ag ab aM ay) ay)) ?_ bH
     exact ag (aN (ag (aa 2 rfl) (ag (aa 1 rfl) aM af) af)) aM bH
    ·refine dsp ?_ (show 3≤sizeLine by decide)
     refine ag (aN (ag ab (ag ab aM ay) ay)) ?_ bH
     refine ag (aN (ag ab (ag ab aM ay) ay)) ?_ bH
     exact ag (aN (ag (aa 4 rfl) (ag (aa 1 rfl) aM af) af)) aM bH
   case h4=>exact rfl
end
section
variable {P:AC}{w:World}{K:Ao}{mg:Str→Option Value}{base:Heap}
def twX (ns:List Int):Int:=2+cel ns 3 % 9
def twY (ns:List Int):Int:=2+cel ns 4 % 9
def jq (ns:List Int):List P2:=if cel ns 0 % 4=1 then [(0,0),(1,0),(slA ns,slN ns)] else if cel ns 0 % 4=2 then [(0,0),(twX ns,0),(0,twY ns),(twX ns+cel ns 5 % 4,twY ns)] else wP ns 3
def fc (ns:List Int):List P2:=if cel ns 0 % 4=1 then [(0,0),(1,0),(slB ns,slN ns)] else if cel ns 0 % 4=2 then [(0,0),(twX ns,0),(0,twY ns),(twX ns,twY ns+cel ns 6 % 4)] else if cel ns 0 % 4=3 then (wP ns 3).map (fun p=>(3 - p.2,p.1)) else wP ns 4
def ri:List U→Out→Prop:=fun us o=>∃ns:List Int,us=[.scr (ns.map U.int)]∧(∀m∈ns,Sz 1048576 m)∧o=.val (.tup [lp (jq ns),lp (fc ns)])
theorem mB (T:Txt K mg):bA P w K mg base (CXF P w) 3 T.a__law_two T.d__law_two ["script"] (spU K (ri)):=by
 refine bB T.F__law_two b_ (fun us o h=>?_) (fun cdv A outer s H E O us o hr h=>?_)
 ·obtain ⟨ns,rfl,hB,rfl⟩:=h
  rfl
 obtain ⟨ns,rfl,hB,rfl⟩:=h
 refine Ws.nox ?_
 obtain ⟨wl,wb,_⟩:=pE ns (k:=3) (by decide) (cK ns 3).length
 refine ae (aA (i:=1) b_.nd rfl (Or.inl rfl) (bW (ar ((aG T).mono (by decide)) hr rfl T.m__law_cell_at T.F__law_cell_at.kp T.b__law_cell_at ax (ac (aa 0 rfl) (ac ab ao ay) af) ⟨ns,_,rfl,by decide,rfl⟩) ab (by walk_at "mod")) ?_)
 by_cases k1:cel ns 0 % 4=1
 ·refine ae (eA (bg cT (aa 1 rfl) ab) (decide_eq_true k1) ?_)
  refine ae (a_ (ar ((ko T).mono (by decide)) hr rfl T.m__law_slim T.F__law_slim.kp T.b__law_slim ax (ac (aa 0 rfl) ao af) ⟨ns,rfl,hB,rfl⟩) ?_)
  unfold jq fc
  rw[if_pos k1,if_pos k1]
 ·refine ae (cC (bg cT (aa 1 rfl) ab) (decide_eq_false k1) (bi ?_))
  refine ae (aA (i:=2) b_.nd rfl (Or.inl rfl) (ar ((fk T).mono (by decide)) hr rfl T.m__law_window T.F__law_window.kp T.b__law_window ax (ac (aa 0 rfl) (ac ab ao ay) af) ⟨ns,3,rfl,hB,by decide,rfl⟩) ?_)
  by_cases k2:cel ns 0 % 4=2
  ·refine ae (eA (bg cT (aa 1 rfl) ab) (decide_eq_true k2) ?_)
   refine ae (aA (i:=3) b_.nd rfl (Or.inl rfl) (ce ab (bW (ar ((aG T).mono (by decide)) hr rfl T.m__law_cell_at T.F__law_cell_at.kp T.b__law_cell_at ax (ac (aa 0 rfl) (ac ab ao ay) af) ⟨ns,_,rfl,by decide,rfl⟩) ab (by walk_at "mod"))) ?_)
   refine ae (aA (i:=4) b_.nd rfl (Or.inl rfl) (ce ab (bW (ar ((aG T).mono (by decide)) hr rfl T.m__law_cell_at T.F__law_cell_at.kp T.b__law_cell_at ax (ac (aa 0 rfl) (ac ab ao ay) af) ⟨ns,_,rfl,by decide,rfl⟩) ab (by walk_at "mod"))) ?_)
   rw[show 2+cel ns 3 % 9=twX ns from rfl,show 2+cel ns 4 % 9=twY ns from rfl]
   refine ae ?_
   generalize hE:(Expr.List _ _)=E0
   refine aA (i:=2) (u:=lp [(0,0),(twX ns,0),(0,twY ns),(twX ns+cel ns 5 % 4,twY ns)]) b_.nd rfl (Or.inl rfl) (EvD.ev ?hv) ?h3 (by subst hE;rfl) (.inl rfl)
   case hv=>
    subst hE
    refine dsp ?_ (show 4≤sizeLine by decide)
    refine ag (aN (ag ab (ag ab aM ay) ay)) ?_ bH
    refine ag (aN (ag (aa 3 rfl) (ag ab aM ay) af)) ?_ bH
    refine ag (aN (ag ab (ag (aa 4 rfl) aM af) ay)) ?_ bH
    exact ag (aN (ag (ce (aa 3 rfl) (bW (ar ((aG T).mono (by decide)) hr rfl T.m__law_cell_at T.F__law_cell_at.kp T.b__law_cell_at ax (ac (aa 0 rfl) (ac ab ao ay) af) ⟨ns,_,rfl,by decide,rfl⟩) ab (by walk_at "mod"))) (ag (aa 4 rfl) aM af) be)) aM bH
   case h3=>
    clear hE
    show Ws _ _ _ _ _ _ [some (.val (.scr (ns.map U.int))),some (.val (.int (cel ns 0 % 4))),some (.val (lp [(0,0),(twX ns,0),(0,twY ns),(twX ns+cel ns 5 % 4,twY ns)])),some (.val (.int (twX ns))),some (.val (.int (twY ns))),none]
    refine ae ?_
    generalize hE:(Expr.Tuple _ _ _)=E0
    refine a_ (u:=.tup [lp [(0,0),(twX ns,0),(0,twY ns),(twX ns+cel ns 5 % 4,twY ns)],lp [(0,0),(twX ns,0),(0,twY ns),(twX ns,twY ns+cel ns 6 % 4)]]) (EvD.ev ?hw) ?h4
    case hw=>
     subst hE
     refine yH ?_ (show 2≤sizeLine by decide)
     refine ag (aa 2 rfl) (ag (EvD.ev ?q2) aM nW) af
     refine dsp ?_ (show 4≤sizeLine by decide)
     refine ag (aN (ag ab (ag ab aM ay) ay)) ?_ bH
     refine ag (aN (ag (aa 3 rfl) (ag ab aM ay) af)) ?_ bH
     refine ag (aN (ag ab (ag (aa 4 rfl) aM af) ay)) ?_ bH
     exact ag (aN (ag (aa 3 rfl) (ag (ce (aa 4 rfl) (bW (ar ((aG T).mono (by decide)) hr rfl T.m__law_cell_at T.F__law_cell_at.kp T.b__law_cell_at ax (ac (aa 0 rfl) (ac ab ao ay) af) ⟨ns,_,rfl,by decide,rfl⟩) ab (by walk_at "mod"))) aM be) af)) aM bH
    case h4=>
     show Out.val _=Out.val _
     unfold jq fc
     rw[if_neg k1,if_neg k1,if_pos k2,if_pos k2]
  ·refine ae (cC (bg cT (aa 1 rfl) ab) (decide_eq_false k2) (bi ?_))
   by_cases k3:cel ns 0 % 4=3
   ·refine ae (eA (bg cT (aa 1 rfl) ab) (decide_eq_true k3) ?_)
    refine ae (a_ (aN (ag (aa 2 rfl) (ag (EvN.ev (iE (ys:=(((wP ns 3).map fun p:P2=>(3 - p.2,p.1)).map pu)) rfl (blk (ai cG) ["script","kind","some","x","y","spot"] [5] rfl rfl rfl rfl (by decide+kernel)) (dB (aa 2 rfl) (.inl rfl)) (fun _ _ _ _=>bF (i:=5) b_.nd rfl (Or.inl rfl)) (dE (by decide)) ?clen ?csz (fun _ _=>trivial) ?celt)) aM fU) af)) ?_)
    case clen=>simp
    case csz=>rw[Aq];exact BX (bC (show (wN ns 3 (cK ns 3).length).length≤1000 by omega))
    case celt=>
     intro C s' H' fp j x y hx hy
     rw[Bp] at hy
     obtain ⟨p,hp,mp,rfl,rfl⟩:=iW hx hy
     exact (aN (ag (bo ab (au (aa 5 rfl) ab rfl rfl)) (ag (au (aa 5 rfl) ab rfl rfl) aM bu) be))
    show Out.val _=Out.val _
    unfold jq fc
    rw[if_neg k1,if_neg k1,if_neg k2,if_neg k2,if_pos k3]
   ·refine ae (cC (bg cT (aa 1 rfl) ab) (decide_eq_false k3) (bi ?_))
    refine ae (a_ (aN (ag (aa 2 rfl) (ag (ar ((fk T).mono (by decide)) hr rfl T.m__law_window T.F__law_window.kp T.b__law_window ax (ac (aa 0 rfl) (ac ab ao ay) af) ⟨ns,4,rfl,hB,by decide,rfl⟩) aM cV) af)) ?_)
    show Out.val _=Out.val _
    unfold jq fc
    rw[if_neg k1,if_neg k1,if_neg k2,if_neg k2,if_neg k3]
end
section
variable {P:AC}{w:World}{K:Ao}{mg:Str→Option Value}{base:Heap}
theorem zH {m:Nat}{x y:Int} (h:0≤y) (sy:Sz m y):Sz m (x % (2*y+1) - y):=by
 have h1:=BH x (show 2*y+1≠0 by omega)
 have h2:=Bs x (show 0 < 2*y+1 by omega)
 generalize x % (2*y+1)=z at *
 refine Sz.le ?_ sy
 omega
def n20 (c:Int):Int:=c % (2*10 ^ (20:Int).toNat+1) - 10 ^ (20:Int).toNat
theorem km (c:Int):Sz 68 (n20 c):=zH (by decide+kernel) (by decide+kernel)
def lnY (ns:List Int) (p:P2):Int:=p.2+n20 (cel ns 1) *p.1
def lnP (ns:List Int) (p:P2):P2:=(p.1+n20 (cel ns 2) *lnY ns p,lnY ns p)
theorem oh {ns:List Int}{p:P2} (h:Szp 70 p):Sz 139 (lnY ns p):=(L2.Sz.add' (h.2.mono (n:=138) (by decide)) (L2.Sz.mul (km _) h.1)).mono (by decide)
theorem x5 {ns:List Int}{p:P2} (h:Szp 70 p):Szp 210 (lnP ns p):=⟨(L2.Sz.add' (h.1.mono (n:=207) (by decide)) (L2.Sz.mul (km _) (oh h))).mono (by decide),(oh h).mono (by decide)⟩
theorem wM (ns:List Int):∃m:M6,m.U∧lnP ns=m.go:=by
 generalize hA:n20 (cel ns 1)=A
 generalize hB:n20 (cel ns 2)=B
 refine ⟨⟨1+A*B,B,A,1,0,0⟩,.inl (by dsimp only;grind),funext fun p=>?_⟩
 unfold lnP lnY M6.go ap
 rw[hA,hB]
 refine CZ ?_ ?_ <;>dsimp only <;>grind
def pX:List U→Out→Prop:=fun us o=>∃(p:P2) (ns:List Int),us=[pu p,.scr (ns.map U.int)]∧(∀m∈ns,Sz 1048576 m)∧Szp 70 p∧o=.val (pu (lnP ns p))
theorem kP (T:Txt K mg):bA P w K mg base (CXF P w) 2 T.a__law_lean T.d__law_lean ["spot","script"] (spU K (pX)):=by
 refine bB T.F__law_lean cR (fun us o h=>?_) (fun cdv A outer s H E O us o hr h=>?_)
 ·obtain ⟨p,ns,rfl,hB,sp,rfl⟩:=h
  rfl
 obtain ⟨p,ns,rfl,hB,sp,rfl⟩:=h
 refine Ws.nox ?_
 have s1:=sp.1
 have s2:=sp.2
 have az:=km (cel ns 1)
 have bz:=km (cel ns 2)
 have yz:=oh (ns:=ns) sp
 refine ae (sJ (aa 0 rfl) (ud [2,3] rfl (ci (bF (i:=2) cR.nd rfl (Or.inl rfl)) (ci (bF (i:=3) cR.nd rfl (Or.inl rfl)) iU)) rfl) ?_)
 refine ae (aA (i:=3) cR.nd rfl (Or.inl rfl) (ce (aa 3 rfl) (aQ (bo (bW (ar ((aG T).mono (by decide)) hr rfl T.m__law_cell_at T.F__law_cell_at.kp T.b__law_cell_at ax (ac (aa 1 rfl) (ac ab ao ay) af) ⟨ns,_,rfl,by decide,rfl⟩) (ce (aQ ab (mO ab ab ⟨by decide,by decide,by decide⟩) (by walk_at "mul")) ab) (by decide+kernel)) (mO ab ab ⟨by decide,by decide,by decide⟩)) (aa 2 rfl) (L2.Sz.ok az s1 (by decide)))) ?_)
 refine ae (aA (i:=2) cR.nd rfl (Or.inl rfl) (ce (aa 2 rfl) (aQ (bo (bW (ar ((aG T).mono (by decide)) hr rfl T.m__law_cell_at T.F__law_cell_at.kp T.b__law_cell_at ax (ac (aa 1 rfl) (ac ab ao ay) af) ⟨ns,_,rfl,by decide,rfl⟩) (ce (aQ ab (mO ab ab ⟨by decide,by decide,by decide⟩) (by walk_at "mul")) ab) (by decide+kernel)) (mO ab ab ⟨by decide,by decide,by decide⟩)) (aa 3 rfl) (L2.Sz.ok bz yz (by decide)))) ?_)
 refine ae (a_ (aN (ag (aa 2 rfl) (ag (aa 3 rfl) aM af) af)) ?_)
 exact rfl
theorem rO (ns:List Int):∀L,L=jq ns∨L=fc ns→L.length≤33∧(∀p∈L,Szp 70 p)∧(∃A∈L,∃B∈L,∃C∈L,aq A B C≠0)∧∃V:List P2,V.length≤20∧∀p∈L,p∈V:=by
 obtain ⟨n2,nz⟩:=oy ns
 obtain ⟨za,zb⟩:=wC ns
 have k8:∀{x:Int},Sz 8 x→Sz 70 x:=fun h=>h.mono (by decide)
 have z0:Sz 70 (0:Int):=k8 (by decide)
 have z1:Sz 70 (1:Int):=k8 (by decide)
 have x2:2≤twX ns∧twX ns≤10:=by unfold twX;omega
 have y2:2≤twY ns∧twY ns≤10:=by unfold twY;omega
 have tri:∀(b:Int) (zb:Sz 69 b),∀L,L=[((0:Int),(0:Int)),(1,0),(b,slN ns)]→L.length≤33∧(∀p∈L,Szp 70 p)∧(∃A∈L,∃B∈L,∃C∈L,aq A B C≠0)∧∃V:List P2,V.length≤20∧∀p∈L,p∈V:=fun b zb L e=>by
  subst e
  refine ⟨by simp,fun p hp=>?_,⟨(0,0),by simp,(1,0),by simp,(b,slN ns),by simp,?_⟩,_,by simp,fun p hp=>hp⟩
  ·simp only[Ay,Bn,or_false] at hp
   rcases hp with e |e |e <;>rw[e]
   ·exact ⟨z0,z0⟩
   ·exact ⟨z1,z0⟩
   ·exact ⟨zb.mono (by decide),nz.mono (by decide)⟩
  ·unfold aq;dsimp only;omega
 have quad:∀(q:P2),0≤q.1∧q.1≤20∧0≤q.2∧q.2≤20→∀L,L=[((0:Int),(0:Int)),(twX ns,0),(0,twY ns),q]→L.length≤33∧(∀p∈L,Szp 70 p)∧(∃A∈L,∃B∈L,∃C∈L,aq A B C≠0)∧∃V:List P2,V.length≤20∧∀p∈L,p∈V:=fun q hq L e=>by
  subst e
  refine ⟨by simp,fun p hp=>?_,⟨(0,0),by simp,(twX ns,0),by simp,(0,twY ns),by simp,?_⟩,_,by simp,fun p hp=>hp⟩
  ·simp only[Ay,Bn,or_false] at hp
   rcases hp with e |e |e |e <;>rw[e]
   ·exact ⟨z0,z0⟩
   ·exact ⟨k8 (by unfold Sz;dsimp only;omega),z0⟩
   ·exact ⟨z0,k8 (by unfold Sz;dsimp only;omega)⟩
   ·exact ⟨k8 (by unfold Sz;omega),k8 (by unfold Sz;omega)⟩
  ·unfold aq
   dsimp only
   have:0 < twX ns*twY ns:=B8 (by omega) (by omega)
   have e:(twX ns - 0) *(twY ns - 0) - (0 - 0) *(0 - 0)=twX ns*twY ns:=by grind
   rw[e];omega
 have win:∀k:Int,0≤k→(wP ns k).length≤33∧(∀p∈wP ns k,Szp 70 p)∧(∃A∈wP ns k,∃B∈wP ns k,∃C∈wP ns k,aq A B C≠0)∧∃V:List P2,V.length≤20∧∀p∈wP ns k,p∈V:=fun k hk=>by
  obtain ⟨a,b,c⟩:=pE ns hk (cK ns k).length
  have sz5:∀p∈nk,Szp 8 p:=by decide
  exact ⟨a,fun p hp=>Szp.mono (sz5 p (b p hp)) (by decide),⟨(0,0),c _ (by decide),(1,0),c _ (by decide),(0,1),c _ (by decide),by decide⟩,nk,by decide,b⟩
 intro L hL
 unfold jq fc at hL
 by_cases k1:cel ns 0 % 4=1
 ·rw[if_pos k1,if_pos k1] at hL
  rcases hL with e |e
  ·exact tri _ (za.mono (by decide)) L e
  ·exact tri _ zb L e
 ·rw[if_neg k1,if_neg k1] at hL
  by_cases k2:cel ns 0 % 4=2
  ·rw[if_pos k2,if_pos k2] at hL
   rcases hL with e |e
   ·exact quad _ (by dsimp only;omega) L e
   ·exact quad _ (by dsimp only;omega) L e
  ·rw[if_neg k2,if_neg k2] at hL
   by_cases k3:cel ns 0 % 4=3
   ·rw[if_pos k3] at hL
    rcases hL with e |e
    ·subst e;exact win 3 (by decide)
    ·subst e
     obtain ⟨a,b,c⟩:=pE ns (k:=3) (by decide) (cK ns 3).length
     have sz5:∀p∈nk.map (fun p:P2=>(3 - p.2,p.1)),Szp 8 p:=by decide
     have m5:∀p∈(wP ns 3).map (fun p:P2=>(3 - p.2,p.1)),p∈nk.map (fun p:P2=>(3 - p.2,p.1)):=fun p hp=>by
      obtain ⟨q,hq,rfl⟩:=Az.mp hp
      exact Az.mpr ⟨q,b q hq,rfl⟩
     refine ⟨by rw[Aq];exact a,fun p hp=>Szp.mono (sz5 p (m5 p hp)) (by decide),⟨_,Az.mpr ⟨(0,0),c _ (by decide),rfl⟩,_,Az.mpr ⟨(1,0),c _ (by decide),rfl⟩,_,Az.mpr ⟨(0,1),c _ (by decide),rfl⟩,by decide⟩,_,by rw[Aq];decide,m5⟩
   ·rw[if_neg k3] at hL
    rcases hL with e |e
    ·subst e;exact win 3 (by decide)
    ·subst e;exact win 4 (by decide)
end
section
variable {P:AC}{w:World}{K:Ao}{mg:Str→Option Value}{base:Heap}
theorem wq {p:Prop}{i:Decidable p} (h:p):@decide p i=true:=decide_eq_true h
theorem tL {p:Prop}{i:Decidable p} (h:¬ p):@decide p i=false:=decide_eq_false h
def n6:List U→Out→Prop:=fun us o=>∃(l x:List P2) (m:M6),us=[mvM m,lp l,lp x]∧MvM m∧l.length < 64∧x.length < 64∧(∀p∈l,Szp 400 p)∧l.Nodup∧x.Nodup∧o=.val (.bl (decide (ST.srt (l.map m.go)=ST.srt x)))
theorem d8 (T:Txt K mg):bA P w K mg base (CXF P w) 2 T.a__law_takes T.d__law_takes ["move","one","other"] (spU K (n6)):=by
 refine bB T.F__law_takes gj (fun us o h=>?_) (fun cdv A outer s H E O us o hr h=>?_)
 ·obtain ⟨l,x,m,rfl,M,hl,hx,lz,nd,ndx,rfl⟩:=h
  rfl
 obtain ⟨l,x,m,rfl,M,hl,hx,lz,nd,ndx,rfl⟩:=h
 refine Ws.nox ?_
 have ndm:(l.map m.go).Nodup:=DC _ (fun p q (h:p≠q) k=>h (M6.inj M.u k)) nd
 refine ae (a_ (sF (zF (nY hr) (jR _) (jR _)) (EvN.ev (oD rfl T.z_sorted (EvN.ev (iE (ys:=((l.map m.go).map pu)) rfl (blk (ai bT) ["move","one","other","spot"] [3] rfl rfl rfl rfl (by decide+kernel)) (dB (aa 1 rfl) (.inl rfl)) (fun _ _ _ _=>bF (i:=3) gj.nd rfl (Or.inl rfl)) (dE (by decide)) ?clen ?csz (fun _ _=>trivial) ?celt)) ⟨by rw[Aq];exact hl,ndm⟩ fU)) (EvN.ev (oD rfl T.z_sorted (aa 2 rfl) ⟨hx,ndx⟩ af))) ?_)
 case clen=>simp
 case csz=>rw[Aq];exact BX (bC (by omega))
 case celt=>
  intro C s' H' fp j y z hy hz
  rw[Bp] at hz
  obtain ⟨p,hp,mp,rfl,rfl⟩:=iW hy hz
  exact (ar ((m_ T).mono (by decide)) hr rfl T.m__law_by T.F__law_by.kp T.b__law_by ax (ac (aa 0 rfl) (ac (aa 3 rfl) ao af) af) ⟨m.a,m.b,m.c,m.d,m.e,m.f,p,rfl,M,Szp.mono (lz p mp) (by decide),rfl⟩)
 refine vB ?_
 exact nt _ _
open Classical in
def rH:List U→Out→Prop:=fun us o=>∃l l':List P2,us=[lp l,lp l']∧aj l=l∧aj l'=l'∧3≤l.length∧l.length≤31∧l'.length≤31∧(∀p∈l,Szp 400 p)∧(∀p∈l',Szp 400 p)∧o=.val (.bl (decide (∃m,Sym l l' m)))
theorem iJ (T:Txt K mg):bA P w K mg base (CXF P w) 3 T.a__law_any T.d__law_any ["one","other"] (spU K (rH)):=by
 refine bB T.F__law_any dg (fun us o h=>?_) (fun cdv A outer s H E O us o hr h=>?_)
 ·obtain ⟨l,l',rfl,hc,hc',h3,hl,hl',lz,lz',rfl⟩:=h
  rfl
 obtain ⟨l,l',rfl,hc,hc',h3,hl,hl',lz,lz',rfl⟩:=h
 refine Ws.nox ?_
 have nd:=dJ hc
 have nd':=dJ hc'
 have hm:((l.map pu).length:Int)=(l.length:Int):=by rw[Aq]
 have hm':((l'.map pu).length:Int)=(l'.length:Int):=by rw[Aq]
 by_cases en:l.length=l'.length
 ·refine ae (cC (bg gg (aR (cP rfl) rfl T.z_len Bf (ac (aa 0 rfl) ao af)) (aR (cP rfl) rfl T.z_len Bf (ac (aa 1 rfl) ao af))) (by rw[hm,hm',en];simp) (bi ?_))
  refine ae (gF (fun _:Unit=>[some (.val (lp l)),some (.val (lp l')),none,none,none]) (fun i _=>∀j w,j < i→trO l l' j w→ST.srt (l.map (trm l l' j w).go)≠ST.srt l') rfl PassesOwn.never (t5 rfl T.z_range (ac (aR (cP rfl) rfl T.z_len Bf (ac (aa 1 rfl) ao af)) ao cV) (by rw[hm'];omega) (by rw[hm'];omega)) ?h0 ?hs ?hd)
  case h0=>exact ⟨(),fun j w h=>absurd h (by omega),rfl,rfl,trivial⟩
  case hs=>
   rintro H0 i x _ hx inv
   obtain ⟨hi,rfl⟩:=oz hx
   rw[hm'] at hi
   have hi':i < l'.length:=by omega
   rw[show (0:Int)+(i:Int)=(i:Int) by omega]
   have I:TrI l l' i:=⟨hc,h3,hi',lz,lz'⟩
   refine ⟨_,(gN (i:=2) dg.nd rfl (Or.inl rfl)),?_⟩
   refine ae (gF (fun _:Unit=>[some (.val (lp l)),some (.val (lp l')),some (.val (.int (i:Int))),none,none]) (fun k _=>∀w,[true,false].idxOf w < k→trO l l' i w→ST.srt (l.map (trm l l' i w).go)≠ST.srt l') rfl PassesOwn.never (dB (EvN.ev (dX (ag ab (ag (bU ab) aM dZ) ay))) (.inl rfl)) ?h02 ?hs2 ?hd2)
   case h02=>exact ⟨(),fun w h=>absurd h (by omega),rfl,rfl,rfl,trivial⟩
   case hs2=>
    rintro H0 j y _ hy inv2
    have hw:∃w:Bool,y=.int (wI w)∧[true,false].idxOf w=j∧∀v,[true,false].idxOf v < j+1→[true,false].idxOf v < j∨v=w:=by
     match j,hy with
     |0,hy=>cases hy;exact ⟨true,rfl,rfl,by decide⟩
     |1,hy=>cases hy;exact ⟨false,rfl,rfl,by decide⟩
     |j+2,hy=>cases hy
    obtain ⟨w,rfl,ew,nx⟩:=hw
    obtain ⟨_,mz⟩:=I.sz w
    refine ⟨_,(gN (i:=3) dg.nd rfl (Or.inl rfl)),?_⟩
    by_cases o:trO l l' i w
    ·have mv:=mz.mv o.2 (by decide)
     refine ae (aA (i:=4) dg.nd rfl (Or.inl rfl) (ar ((gr T).mono (by decide)) hr rfl T.m__law_tried T.F__law_tried.kp T.b__law_tried ax (ac (aa 0 rfl) (ac (aa 1 rfl) (ac (aa 2 rfl) (ac (aa 3 rfl) ao af) af) af) af) ⟨l,l',i,w,rfl,I,(congrArg Out.val (if_pos o)).symm⟩) ?_)
     by_cases c:ST.srt (l.map (trm l l' i w).go)=ST.srt l'
     ·refine ae (eA (Tw.t (mV (oC (aa 4 rfl) (kR _)) (fun hz=>(kB (hX (ar ((d8 T).mono (by decide)) hr rfl T.m__law_takes T.F__law_takes.kp T.b__law_takes ax (ac (aa 4 rfl) (ac (aa 0 rfl) (ac (aa 1 rfl) ao af) af) af) ⟨l,l',trm l l' i w,rfl,mv,by omega,by omega,lz,nd,nd',rfl⟩)))))) (by rw[decide_eq_true c];simp[pi]) ?_)
      refine ae (a_ ya ?_)
      show Out.val _=Out.val _
      rw[wq (show ∃m,Sym l l' m from ⟨_,Sym.of_srt o.2 c⟩)]
     ·refine ae (cC (Tw.t (mV (oC (aa 4 rfl) (kR _)) (fun hz=>(kB (hX (ar ((d8 T).mono (by decide)) hr rfl T.m__law_takes T.F__law_takes.kp T.b__law_takes ax (ac (aa 4 rfl) (ac (aa 0 rfl) (ac (aa 1 rfl) ao af) af) af) ⟨l,l',trm l l' i w,rfl,mv,by omega,by omega,lz,nd,nd',rfl⟩)))))) (by rw[decide_eq_false c];simp[pi]) (bi (bi ?_)))
      refine ⟨(),fun v hv ov=>?_,rfl,rfl,rfl,trivial⟩
      rcases nx v hv with z |z
      ·exact inv2 v z ov
      ·rw[z];exact c
    ·refine ae (aA (i:=4) dg.nd rfl (Or.inl rfl) (ar ((gr T).mono (by decide)) hr rfl T.m__law_tried T.F__law_tried.kp T.b__law_tried ax (ac (aa 0 rfl) (ac (aa 1 rfl) (ac (aa 2 rfl) (ac (aa 3 rfl) ao af) af) af) af) ⟨l,l',i,w,rfl,I,(congrArg Out.val (if_neg o)).symm⟩) ?_)
     refine ae (cC (Tw.t (jg (oC (aa 4 rfl) (kR _)) rfl)) rfl (bi (bi ?_)))
     refine ⟨(),fun v hv ov=>?_,rfl,rfl,rfl,trivial⟩
     rcases nx v hv with z |z
     ·exact inv2 v z ov
     ·rw[z] at ov;exact absurd ov o
   case hd2=>
    rintro _ ps inv2 hps
    refine bi ?_
    refine ⟨(),fun j v hj ov=>?_,SubP.trans (by exact ⟨rfl,rfl,trivial⟩) hps⟩
    by_cases e:j=i
    ·rw[e] at ov ⊢
     exact inv2 v (by cases v <;>decide) ov
    ·exact inv j v (by omega) ov
  case hd=>
   rintro _ ps inv hps
   refine eT ?_ hps
   rw[gJ,hm'] at inv
   refine ae (a_ ya ?_)
   show Out.val _=Out.val _
   rw[tL (show ¬ ∃m,Sym l l' m from fun ⟨m,S⟩=>by
    obtain ⟨i,w,hi,o,e⟩:=S.tried hc h3 hc'
    exact inv i w (by omega) o (by rw[e];exact S.srt))]
 ·refine ae (eA (bg gg (aR (cP rfl) rfl T.z_len Bf (ac (aa 0 rfl) ao af)) (aR (cP rfl) rfl T.z_len Bf (ac (aa 1 rfl) ao af))) (by rw[hm,hm'];simp;omega) ?_)
  refine ae (a_ ya ?_)
  show Out.val _=Out.val _
  rw[tL (show ¬ ∃m,Sym l l' m from fun ⟨m,S⟩=>en (S.len nd nd').symm)]
end
section
variable {P:AC}{w:World}{K:Ao}{mg:Str→Option Value}{base:Heap}
theorem side {L:List P2} (hl:L.length≤33) {n:Nat} (hn:n≤400) (hz:∀p∈L,Szp n p) (h3:∃A∈L,∃B∈L,∃C∈L,aq A B C≠0) (hV:∃V:List P2,V.length≤20∧∀p∈L,p∈V):
  3≤(aj L).length∧(aj L).length≤20∧(∀p∈aj L,Szp 400 p):=by
 obtain ⟨A,hA,B,hB,C,hC,hd⟩:=h3
 obtain ⟨V,v1,v2⟩:=hV
 have few:=g9 (bS L) (m:=V) fun x hx=>v2 x (cf _ x hx)
 exact ⟨uf hA hB hC hd,by omega,fun p hp=>Szp.mono (hz p (cf _ p hp)) hn⟩
theorem o8 {a b c d e f:Int}{i:Nat}{x:U}{o:Option U} (h1:[U.int a,.int b,.int c,.int d,.int e,.int f][i]?=some x) (h2:[some (U.int a),some (.int b),some (.int c),some (.int d),some (.int e),some (.int f)][i]?=some o):∃n:Int,x=.int n∧o=some (.int n):=by
 match i,h1,h2 with
 |0,h1,h2=>cases h1;cases h2;exact ⟨a,rfl,rfl⟩
 |1,h1,h2=>cases h1;cases h2;exact ⟨b,rfl,rfl⟩
 |2,h1,h2=>cases h1;cases h2;exact ⟨c,rfl,rfl⟩
 |3,h1,h2=>cases h1;cases h2;exact ⟨d,rfl,rfl⟩
 |4,h1,h2=>cases h1;cases h2;exact ⟨e,rfl,rfl⟩
 |5,h1,h2=>cases h1;cases h2;exact ⟨f,rfl,rfl⟩
 |i+6,h1,h2=>cases h1
theorem xB (T:Txt K mg):bA P w K mg base (CXF P w) 10 T.a_law T.d_law ["script"] (spU K (gW)):=by
 refine bB T.F_law eX (fun us o h=>?_) (fun cdv A outer s H E O us o hr h=>?_)
 ·obtain ⟨ns,rfl,h63,hB,rfl⟩:=h
  rfl
 obtain ⟨ns,rfl,h63,hB,rfl⟩:=h
 refine Ws.nox ?_
 obtain ⟨l1,z1,t1,v1⟩:=rO ns (jq ns) (.inl rfl)
 obtain ⟨l2,z2,t2,v2⟩:=rO ns (fc ns) (.inr rfl)
 obtain ⟨N,u,en⟩:=wM ns
 have z2':∀p∈(fc ns).map (lnP ns),Szp 210 p:=fun p hp=>by
  obtain ⟨q,hq,rfl⟩:=Az.mp hp
  exact x5 (z2 q hq)
 have t2':∃A∈(fc ns).map (lnP ns),∃B∈(fc ns).map (lnP ns),∃C∈(fc ns).map (lnP ns),aq A B C≠0:=by
  obtain ⟨A,hA,B,hB',C,hC,hd⟩:=t2
  refine ⟨_,Az.mpr ⟨A,hA,rfl⟩,_,Az.mpr ⟨B,hB',rfl⟩,_,Az.mpr ⟨C,hC,rfl⟩,?_⟩
  rw[en,wZ]
  rcases u with q |q <;>rw[q] <;>omega
 have v2':∃V:List P2,V.length≤20∧∀p∈(fc ns).map (lnP ns),p∈V:=by
  obtain ⟨V,a,b⟩:=v2
  refine ⟨V.map (lnP ns),by rw[Aq];exact a,fun p hp=>?_⟩
  obtain ⟨q,hq,rfl⟩:=Az.mp hp
  exact Az.mpr ⟨q,b q hq,rfl⟩
 obtain ⟨a3,a20,az⟩:=side l1 (by decide) z1 t1 v1
 obtain ⟨b3,b20,bz⟩:=side (L:=(fc ns).map (lnP ns)) (by rw[Aq];exact l2) (by decide) z2' t2' v2'
 have ne1:jq ns≠[]:=fun z=>by rw[z] at a3;revert a3;decide
 have ne2:(fc ns).map (lnP ns)≠[]:=fun z=>by rw[z] at b3;revert b3;decide
 obtain ⟨m1,x1,T1⟩:=TF.exists ne1 (by omega) az
 obtain ⟨m2,x2,T2⟩:=TF.exists ne2 (by omega) bz
 have k1:=dw (jq ns)
 have k2:=dw ((fc ns).map (lnP ns))
 have s1:=dz a3
 have s2:=dz b3
 refine ae (sJ (ar ((mB T).mono (by decide)) hr rfl T.m__law_two T.F__law_two.kp T.b__law_two ax (ac (aa 0 rfl) ao af) ⟨ns,rfl,hB,rfl⟩) (ud [1,2] rfl (ci (bF (i:=1) eX.nd rfl (Or.inl rfl)) (ci (bF (i:=2) eX.nd rfl (Or.inl rfl)) iU)) rfl) ?_)
 refine ae (aA (i:=1) eX.nd rfl (Or.inl rfl) (ar ((e9 T).mono (by decide)) hr rfl T.m__law_corners T.F__law_corners.kp T.b__law_corners ax (ac (aa 1 rfl) ao af) ⟨_,rfl,fun p hp=>Szp.mono (z1 p hp) (by decide),by omega,s1,rfl⟩) ?_)
 refine ae (aA (i:=2) eX.nd rfl (Or.inl rfl) (ar ((e9 T).mono (by decide)) hr rfl T.m__law_corners T.F__law_corners.kp T.b__law_corners ax (ac (EvN.ev (iE (ys:=(((fc ns).map (lnP ns)).map pu)) rfl (blk (ai iH) ["script","one","other","spot","found","x"] [3] rfl rfl rfl rfl (by decide+kernel)) (dB (aa 2 rfl) (.inl rfl)) (fun _ _ _ _=>bF (i:=3) eX.nd rfl (Or.inl rfl)) (dE (by decide)) ?clen ?csz (fun _ _=>trivial) ?celt)) ao fU) ⟨_,rfl,fun p hp=>Szp.mono (z2' p hp) (by decide),by rw[Aq];omega,s2,rfl⟩) ?_)
 case clen=>simp
 case csz=>rw[Aq];exact BX (bC (by omega))
 case celt=>
  intro C s' H' fp j x y hx hy
  rw[Bp] at hy
  obtain ⟨p,hp,mp,rfl,rfl⟩:=iW hx hy
  exact (ar ((kP T).mono (by decide)) hr rfl T.m__law_lean T.F__law_lean.kp T.b__law_lean ax (ac (aa 3 rfl) (ac (aa 0 rfl) ao af) af) ⟨p,ns,rfl,hB,z2 p mp,rfl⟩)
 generalize aj (jq ns)=l at *
 generalize aj ((fc ns).map (lnP ns))=l' at *
 show Ws _ _ _ _ _ _ [some (.val (.scr (ns.map U.int))),some (.val (lp l)),some (.val (lp l')),none,none,none]
 by_cases h:∃m,Sym l l' m
 ·obtain ⟨m,S⟩:=id h
  have ex:x2=x1:=(T1.fp k1).same (T2.fp k2) S.u (S.crn k2)
  subst ex
  have es:=(T1.fp k1).srt (T2.fp k2)
  have KU:(m1.bh m2.bk).U:=M6.bh_U T1.u (M6.bk_U T2.u)
  have KM:MvM (m1.bh m2.bk):=(T1.sz.bh (T2.sz.bk T2.u)).mv KU (by decide)
  have al:gE [lp l,lp l'] (.val (mvM (m1.bh m2.bk))):=⟨l,l',x2,x2,m1,m2,rfl,T1,T2,by rw[if_pos rfl]⟩
  refine ae (aA (i:=4) eX.nd rfl (Or.inl rfl) (ar ((lL T).mono (by decide)) hr rfl T.m_alike T.F_alike.kp T.b_alike ax (ac (EvN.ev (i4 (kE rfl) rfl T.z_list G5 (ac (aa 1 rfl) ao af))) (ac (EvN.ev (i4 (kE rfl) rfl T.z_list G5 (ac (aa 2 rfl) ao af))) ao cV) cV) al) ?_)
  refine ae (cC (ki (hX (ar ((iJ T).mono (by decide)) hr rfl T.m__law_any T.F__law_any.kp T.b__law_any ax (ac (aa 1 rfl) (ac (aa 2 rfl) ao af) af) ⟨l,l',rfl,k1,k2,a3,by omega,by omega,az,bz,rfl⟩))) (by rw[wq h];rfl) (bi ?_))
  generalize m1.bh m2.bk=K at *
  obtain ⟨_,ka,kb,kc,kd,ke,kf⟩:=id KM
  refine ae (cC (Tw.t (wG (ki (hX (aR (eO (by intro _ h;cases h) rfl) rfl T.z_isinstance Dz (ac (aa 4 rfl) (ac (qA rfl T.z_tuple boot_tuple) ao af) af)))) (fun hz=>(wG (bg gg (aR (cP rfl) rfl T.z_len Bf (ac (aa 4 rfl) ao af)) ab) (fun hz=>(wD (bg gg (aR (cP rfl) rfl T.z_len Bf (ac (EvN.ev (vw [some (U.int K.a),some (.int K.b),some (.int K.c),some (.int K.d),some (.int K.e),some (.int K.f)] rfl (blk (ai iH) ["script","one","other","spot","found","x"] [5] rfl rfl rfl rfl (by decide+kernel)) (vS (aa 4 rfl)) (fun _ _ _ _=>bF (i:=5) eX.nd rfl (Or.inl rfl)) (dE (by decide)) ?clen ?csz (fun _ _=>trivial) ?ctest ?celt)) ao fU)) ab))))))) rfl (bi ?_))
  case clen=>rfl
  case csz=>show 6≤sizeLine;decide
  case ctest=>
   intro C s' H' fp i y o h1 h2
   obtain ⟨n,rfl,rfl⟩:=o8 h1 h2
   exact (hX (ar ((jG T).mono (by decide)) hr rfl T.m__law_whole T.F__law_whole.kp T.b__law_whole ax (ac (aa 5 rfl) ao af) ⟨n,rfl,rfl⟩))
  case celt=>
   intro C s' H' fp i y z h1 h2
   obtain ⟨n,rfl,e2⟩:=o8 h1 h2
   cases e2
   exact (aa 5 rfl)
  refine ae (a_ (t7 (sF cT (aR kj rfl T.z_abs PyProof.Rows.boot_abs (ac (bo (aQ (au (aa 4 rfl) ab rfl rfl) (au (aa 4 rfl) ab rfl rfl) (by walk_at "mul")) (aQ (au (aa 4 rfl) ab rfl rfl) (au (aa 4 rfl) ab rfl rfl) (by walk_at "mul"))) ao be)) ab) (fun hz=>(tX (ar ((d8 T).mono (by decide)) hr rfl T.m__law_takes T.F__law_takes.kp T.b__law_takes ax (ac (aa 4 rfl) (ac (aa 1 rfl) (ac (aa 2 rfl) ao af) af) af) ⟨l,l',K,rfl,KM,by omega,by omega,az,dJ k1,dJ k2,rfl⟩)))) ?_)
  refine vB ?_
  rw[decide_eq_true es]
  rcases KU with q |q <;>rw[q] <;>rfl
 ·have ex:x1≠x2:=fun z=>h ⟨m1.bh m2.bk,M6.bh_U T1.u (M6.bk_U T2.u),fun q=>by
   have FP2:=T2.fp k2
   rw[←z] at FP2
   exact (T1.fp k1).conv FP2 q⟩
  have al:gE [lp l,lp l'] (.val .non):=⟨l,l',x1,x2,m1,m2,rfl,T1,T2,by rw[if_neg ex]⟩
  refine ae (aA (i:=4) eX.nd rfl (Or.inl rfl) (ar ((lL T).mono (by decide)) hr rfl T.m_alike T.F_alike.kp T.b_alike ax (ac (EvN.ev (i4 (kE rfl) rfl T.z_list G5 (ac (aa 1 rfl) ao af))) (ac (EvN.ev (i4 (kE rfl) rfl T.z_list G5 (ac (aa 2 rfl) ao af))) ao cV) cV) al) ?_)
  refine ae (eA (ki (hX (ar ((iJ T).mono (by decide)) hr rfl T.m__law_any T.F__law_any.kp T.b__law_any ax (ac (aa 1 rfl) (ac (aa 2 rfl) ao af) af) ⟨l,l',rfl,k1,k2,a3,by omega,by omega,az,bz,rfl⟩))) (by rw[tL h];rfl) ?_)
  refine ae (a_ (yC (aa 4 rfl) (kR _)) ?_)
  exact rfl
end
theorem ar1 {p:List Value→Prop}{us:List Value} (h:us.length=1) (q:∀a0,p [a0]):p us:=match us,h with |[a0],_=>q a0
theorem ar2 {p:List Value→Prop}{us:List Value} (h:us.length=2) (q:∀a0 a1,p [a0,a1]):p us:=match us,h with |[a0,a1],_=>q a0 a1
theorem ar3 {p:List Value→Prop}{us:List Value} (h:us.length=3) (q:∀a0 a1 a2,p [a0,a1,a2]):p us:=match us,h with |[a0,a1,a2],_=>q a0 a1 a2
theorem ar4 {p:List Value→Prop}{us:List Value} (h:us.length=4) (q:∀a0 a1 a2 a3,p [a0,a1,a2,a3]):p us:=match us,h with |[a0,a1,a2,a3],_=>q a0 a1 a2 a3
theorem txt_mk {K:Ao}{h:Heap}{mg:Str→Option Value}{fa f0 f1 f2 f3 f4 f5 f6 f7 f8 f9 f10 f11 f12 f13 f14 f15 f16 f17 f18 f19 f20 f21 f22 f23 f24 f25 f26 f27 f28 f29 f30 f31 f32 f33 f34:Addr} (X:K.In h) {ts:List Addr} (TS:∀P∈ts,h.get? P=some jI) (BM:vW mg h) (G:h.Ns AJ mg) (hfa:mg "law"=some (.ref fa))
  {od0 an0 od1 an1 od2 an2 od3 an3 od4 an4 od5 an5 od6 an6 od7 an7 od8 an8 od9 an9 od10 an10 od11 an11 od12 an12 od13 an13 od14 an14 od15 an15 od16 an16 od17 an17 od18 an18 od19 an19 od20 an20 od21 an21 od22 an22 od23 an23 od24 an24 od25 an25 od26 an26 od27 an27 od28 an28 od29 an29 od30 an30 od31 an31 od32 an32 od33 an33 od34 an34:Option Addr}{sl0 sl1 sl2 sl3 sl4 sl5 sl6 sl7 sl8 sl9 sl10 sl11 sl12 sl13 sl14 sl15 sl16 sl17 sl18 sl19 sl20 sl21 sl22 sl23 sl24 sl25 sl26 sl27 sl28 sl29 sl30 sl31 sl32 sl33 sl34:Array (Option Value)}{oc0 kV0 dc0 pm0 cd0 ct0 oc1 kV1 dc1 pm1 cd1 ct1 oc2 kV2 dc2 pm2 cd2 ct2 oc3 kV3 dc3 pm3 cd3 ct3 oc4 kV4 dc4 pm4 cd4 ct4 oc5 kV5 dc5 pm5 cd5 ct5 oc6 kV6 dc6 pm6 cd6 ct6 oc7 kV7 dc7 pm7 cd7 ct7 oc8 kV8 dc8 pm8 cd8 ct8 oc9 kV9 dc9 pm9 cd9 ct9 oc10 kV10 dc10 pm10 cd10 ct10 oc11 kV11 dc11 pm11 cd11 ct11 oc12 kV12 dc12 pm12 cd12 ct12 oc13 kV13 dc13 pm13 cd13 ct13 oc14 kV14 dc14 pm14 cd14 ct14 oc15 kV15 dc15 pm15 cd15 ct15 oc16 kV16 dc16 pm16 cd16 ct16 oc17 kV17 dc17 pm17 cd17 ct17 oc18 kV18 dc18 pm18 cd18 ct18 oc19 kV19 dc19 pm19 cd19 ct19 oc20 kV20 dc20 pm20 cd20 ct20 oc21 kV21 dc21 pm21 cd21 ct21 oc22 kV22 dc22 pm22 cd22 ct22 oc23 kV23 dc23 pm23 cd23 ct23 oc24 kV24 dc24 pm24 cd24 ct24 oc25 kV25 dc25 pm25 cd25 ct25 oc26 kV26 dc26 pm26 cd26 ct26 oc27 kV27 dc27 pm27 cd27 ct27 oc28 kV28 dc28 pm28 cd28 ct28 oc29 kV29 dc29 pm29 cd29 ct29 oc30 kV30 dc30 pm30 cd30 ct30 oc31 kV31 dc31 pm31 cd31 ct31 oc32 kV32 dc32 pm32 cd32 ct32 oc33 kV33 dc33 pm33 cd33 ct33 oc34 kV34 dc34 pm34 cd34 ct34:Value}
  (a0:AL K AJ "is_whole"=some (some (.ref f0))) (l0:K.lookup f0=some ⟨oc0,od0,.func (AS "is_whole" "is_whole" (aE cY) (aB cY) (ai cY) .none kV0 dc0 pm0 an0 cd0 ct0),sl0⟩) (c0:AH K cd0 "is_whole"=true) (k0:AG K (.ref f0)=true)
  (a1:AL K AJ "sign"=some (some (.ref f1))) (l1:K.lookup f1=some ⟨oc1,od1,.func (AS "sign" "sign" (aE iq) (aB iq) (ai iq) .none kV1 dc1 pm1 an1 cd1 ct1),sl1⟩) (c1:AH K cd1 "sign"=true) (k1:AG K (.ref f1)=true)
  (a2:AL K AJ "shares"=some (some (.ref f2))) (l2:K.lookup f2=some ⟨oc2,od2,.func (AS "shares" "shares" (aE eu) (aB eu) (ai eu) .none kV2 dc2 pm2 an2 cd2 ct2),sl2⟩) (c2:AH K cd2 "shares"=true) (k2:AG K (.ref f2)=true)
  (a3:AL K AJ "hand"=some (some (.ref f3))) (l3:K.lookup f3=some ⟨oc3,od3,.func (AS "hand" "hand" (aE iB) (aB iB) (ai iB) .none kV3 dc3 pm3 an3 cd3 ct3),sl3⟩) (c3:AH K cd3 "hand"=true) (k3:AG K (.ref f3)=true)
  (a4:AL K AJ "is_move"=some (some (.ref f4))) (l4:K.lookup f4=some ⟨oc4,od4,.func (AS "is_move" "is_move" (aE cZ) (aB cZ) (ai cZ) .none kV4 dc4 pm4 an4 cd4 ct4),sl4⟩) (c4:AH K cd4 "is_move"=true) (k4:AG K (.ref f4)=true)
  (a5:AL K AJ "need_move"=some (some (.ref f5))) (l5:K.lookup f5=some ⟨oc5,od5,.func (AS "need_move" "need_move" (aE cN) (aB cN) (ai cN) .none kV5 dc5 pm5 an5 cd5 ct5),sl5⟩) (c5:AH K cd5 "need_move"=true) (k5:AG K (.ref f5)=true)
  (a6:AL K AJ "turned"=some (some (.ref f6))) (l6:K.lookup f6=some ⟨oc6,od6,.func (AS "turned" "turned" (aE eJ) (aB eJ) (ai eJ) .none kV6 dc6 pm6 an6 cd6 ct6),sl6⟩) (c6:AH K cd6 "turned"=true) (k6:AG K (.ref f6)=true)
  (a7:AL K AJ "moved"=some (some (.ref f7))) (l7:K.lookup f7=some ⟨oc7,od7,.func (AS "moved" "moved" (aE fL) (aB fL) (ai fL) .none kV7 dc7 pm7 an7 cd7 ct7),sl7⟩) (c7:AH K cd7 "moved"=true) (k7:AG K (.ref f7)=true)
  (a8:AL K AJ "behind"=some (some (.ref f8))) (l8:K.lookup f8=some ⟨oc8,od8,.func (AS "behind" "behind" (aE eL) (aB eL) (ai eL) .none kV8 dc8 pm8 an8 cd8 ct8),sl8⟩) (c8:AH K cd8 "behind"=true) (k8:AG K (.ref f8)=true)
  (a9:AL K AJ "way_back"=some (some (.ref f9))) (l9:K.lookup f9=some ⟨oc9,od9,.func (AS "way_back" "way_back" (aE cW) (aB cW) (ai cW) .none kV9 dc9 pm9 an9 cd9 ct9),sl9⟩) (c9:AH K cd9 "way_back"=true) (k9:AG K (.ref f9)=true)
  (a10:AL K AJ "steps"=some (some (.ref f10))) (l10:K.lookup f10=some ⟨oc10,od10,.func (AS "steps" "steps" (aE fV) (aB fV) (ai fV) .none kV10 dc10 pm10 an10 cd10 ct10),sl10⟩) (c10:AH K cd10 "steps"=true) (k10:AG K (.ref f10)=true)
  (a11:AL K AJ "level"=some (some (.ref f11))) (l11:K.lookup f11=some ⟨oc11,od11,.func (AS "level" "level" (aE fP) (aB fP) (ai fP) .none kV11 dc11 pm11 an11 cd11 ct11),sl11⟩) (c11:AH K cd11 "level"=true) (k11:AG K (.ref f11)=true)
  (a12:AL K AJ "turn"=some (some (.ref f12))) (l12:K.lookup f12=some ⟨oc12,od12,.func (AS "turn" "turn" (aE ir) (aB ir) (ai ir) .none kV12 dc12 pm12 an12 cd12 ct12),sl12⟩) (c12:AH K cd12 "turn"=true) (k12:AG K (.ref f12)=true)
  (a13:AL K AJ "left_bends"=some (some (.ref f13))) (l13:K.lookup f13=some ⟨oc13,od13,.func (AS "left_bends" "left_bends" (aE cw) (aB cw) (ai cw) .none kV13 dc13 pm13 an13 cd13 ct13),sl13⟩) (c13:AH K cd13 "left_bends"=true) (k13:AG K (.ref f13)=true)
  (a14:AL K AJ "field"=some (some (.ref f14))) (l14:K.lookup f14=some ⟨oc14,od14,.func (AS "field" "field" (aE fJ) (aB fJ) (ai fJ) .none kV14 dc14 pm14 an14 cd14 ct14),sl14⟩) (c14:AH K cd14 "field"=true) (k14:AG K (.ref f14)=true)
  (a15:AL K AJ "field_moved"=some (some (.ref f15))) (l15:K.lookup f15=some ⟨oc15,od15,.func (AS "field_moved" "field_moved" (aE bK) (aB bK) (ai bK) .none kV15 dc15 pm15 an15 cd15 ct15),sl15⟩) (c15:AH K cd15 "field_moved"=true) (k15:AG K (.ref f15)=true)
  (a16:AL K AJ "stand"=some (some (.ref f16))) (l16:K.lookup f16=some ⟨oc16,od16,.func (AS "stand" "stand" (aE fT) (aB fT) (ai fT) .none kV16 dc16 pm16 an16 cd16 ct16),sl16⟩) (c16:AH K cd16 "stand"=true) (k16:AG K (.ref f16)=true)
  (a17:AL K AJ "stands"=some (some (.ref f17))) (l17:K.lookup f17=some ⟨oc17,od17,.func (AS "stands" "stands" (aE eN) (aB eN) (ai eN) .none kV17 dc17 pm17 an17 cd17 ct17),sl17⟩) (c17:AH K cd17 "stands"=true) (k17:AG K (.ref f17)=true)
  (a18:AL K AJ "to_form"=some (some (.ref f18))) (l18:K.lookup f18=some ⟨oc18,od18,.func (AS "to_form" "to_form" (aE dA) (aB dA) (ai dA) .none kV18 dc18 pm18 an18 cd18 ct18),sl18⟩) (c18:AH K cd18 "to_form"=true) (k18:AG K (.ref f18)=true)
  (a19:AL K AJ "alike"=some (some (.ref f19))) (l19:K.lookup f19=some ⟨oc19,od19,.func (AS "alike" "alike" (aE fN) (aB fN) (ai fN) .none kV19 dc19 pm19 an19 cd19 ct19),sl19⟩) (c19:AH K cd19 "alike"=true) (k19:AG K (.ref f19)=true)
  (a20:AL K AJ "_law_cell_at"=some (some (.ref f20))) (l20:K.lookup f20=some ⟨oc20,od20,.func (AS "_law_cell_at" "_law_cell_at" (aE bP) (aB bP) (ai bP) .none kV20 dc20 pm20 an20 cd20 ct20),sl20⟩) (c20:AH K cd20 "_law_cell_at"=true) (k20:AG K (.ref f20)=true)
  (a21:AL K AJ "_law_whole"=some (some (.ref f21))) (l21:K.lookup f21=some ⟨oc21,od21,.func (AS "_law_whole" "_law_whole" (aE cq) (aB cq) (ai cq) .none kV21 dc21 pm21 an21 cd21 ct21),sl21⟩) (c21:AH K cd21 "_law_whole"=true) (k21:AG K (.ref f21)=true)
  (a22:AL K AJ "_law_cross"=some (some (.ref f22))) (l22:K.lookup f22=some ⟨oc22,od22,.func (AS "_law_cross" "_law_cross" (aE cx) (aB cx) (ai cx) .none kV22 dc22 pm22 an22 cd22 ct22),sl22⟩) (c22:AH K cd22 "_law_cross"=true) (k22:AG K (.ref f22)=true)
  (a23:AL K AJ "_law_corners"=some (some (.ref f23))) (l23:K.lookup f23=some ⟨oc23,od23,.func (AS "_law_corners" "_law_corners" (aE bN) (aB bN) (ai bN) .none kV23 dc23 pm23 an23 cd23 ct23),sl23⟩) (c23:AH K cd23 "_law_corners"=true) (k23:AG K (.ref f23)=true)
  (a24:AL K AJ "_law_window"=some (some (.ref f24))) (l24:K.lookup f24=some ⟨oc24,od24,.func (AS "_law_window" "_law_window" (aE bX) (aB bX) (ai bX) .none kV24 dc24 pm24 an24 cd24 ct24),sl24⟩) (c24:AH K cd24 "_law_window"=true) (k24:AG K (.ref f24)=true)
  (a25:AL K AJ "_law_turned_number"=some (some (.ref f25))) (l25:K.lookup f25=some ⟨oc25,od25,.func (AS "_law_turned_number" "_law_turned_number" (aE br) (aB br) (ai br) .none kV25 dc25 pm25 an25 cd25 ct25),sl25⟩) (c25:AH K cd25 "_law_turned_number"=true) (k25:AG K (.ref f25)=true)
  (a26:AL K AJ "_law_slim"=some (some (.ref f26))) (l26:K.lookup f26=some ⟨oc26,od26,.func (AS "_law_slim" "_law_slim" (aE cH) (aB cH) (ai cH) .none kV26 dc26 pm26 an26 cd26 ct26),sl26⟩) (c26:AH K cd26 "_law_slim"=true) (k26:AG K (.ref f26)=true)
  (a27:AL K AJ "_law_two"=some (some (.ref f27))) (l27:K.lookup f27=some ⟨oc27,od27,.func (AS "_law_two" "_law_two" (aE cG) (aB cG) (ai cG) .none kV27 dc27 pm27 an27 cd27 ct27),sl27⟩) (c27:AH K cd27 "_law_two"=true) (k27:AG K (.ref f27)=true)
  (a28:AL K AJ "_law_lean"=some (some (.ref f28))) (l28:K.lookup f28=some ⟨oc28,od28,.func (AS "_law_lean" "_law_lean" (aE cM) (aB cM) (ai cM) .none kV28 dc28 pm28 an28 cd28 ct28),sl28⟩) (c28:AH K cd28 "_law_lean"=true) (k28:AG K (.ref f28)=true)
  (a29:AL K AJ "_law_from"=some (some (.ref f29))) (l29:K.lookup f29=some ⟨oc29,od29,.func (AS "_law_from" "_law_from" (aE cL) (aB cL) (ai cL) .none kV29 dc29 pm29 an29 cd29 ct29),sl29⟩) (c29:AH K cd29 "_law_from"=true) (k29:AG K (.ref f29)=true)
  (a30:AL K AJ "_law_tried"=some (some (.ref f30))) (l30:K.lookup f30=some ⟨oc30,od30,.func (AS "_law_tried" "_law_tried" (aE bR) (aB bR) (ai bR) .none kV30 dc30 pm30 an30 cd30 ct30),sl30⟩) (c30:AH K cd30 "_law_tried"=true) (k30:AG K (.ref f30)=true)
  (a31:AL K AJ "_law_by"=some (some (.ref f31))) (l31:K.lookup f31=some ⟨oc31,od31,.func (AS "_law_by" "_law_by" (aE dq) (aB dq) (ai dq) .none kV31 dc31 pm31 an31 cd31 ct31),sl31⟩) (c31:AH K cd31 "_law_by"=true) (k31:AG K (.ref f31)=true)
  (a32:AL K AJ "_law_takes"=some (some (.ref f32))) (l32:K.lookup f32=some ⟨oc32,od32,.func (AS "_law_takes" "_law_takes" (aE bT) (aB bT) (ai bT) .none kV32 dc32 pm32 an32 cd32 ct32),sl32⟩) (c32:AH K cd32 "_law_takes"=true) (k32:AG K (.ref f32)=true)
  (a33:AL K AJ "_law_any"=some (some (.ref f33))) (l33:K.lookup f33=some ⟨oc33,od33,.func (AS "_law_any" "_law_any" (aE cX) (aB cX) (ai cX) .none kV33 dc33 pm33 an33 cd33 ct33),sl33⟩) (c33:AH K cd33 "_law_any"=true) (k33:AG K (.ref f33)=true)
  (a34:AL K AJ "law"=some (some (.ref f34))) (l34:K.lookup f34=some ⟨oc34,od34,.func (AS "law" "law" (aE iH) (aB iH) (ai iH) .none kV34 dc34 pm34 an34 cd34 ct34),sl34⟩) (c34:AH K cd34 "law"=true) (k34:AG K (.ref f34)=true)
  (z_abs:AL K AJ "abs"=some none)
  (z_all:AL K AJ "all"=some none)
  (z_bool:AL K AJ "bool"=some none)
  (z_int:AL K AJ "int"=some none)
  (z_isinstance:AL K AJ "isinstance"=some none)
  (z_len:AL K AJ "len"=some none)
  (z_list:AL K AJ "list"=some none)
  (z_min:AL K AJ "min"=some none)
  (z_range:AL K AJ "range"=some none)
  (z_reversed:AL K AJ "reversed"=some none)
  (z_set:AL K AJ "set"=some none)
  (z_sorted:AL K AJ "sorted"=some none)
  (z_tuple:AL K AJ "tuple"=some none)
  (z_zip:AL K AJ "zip"=some none)
  {tfc tfP:Addr} (u0:cd18=.ref tfc) {odc:Option Addr}{vsc:Array Value}{slc:Array (Option Value)} (w1:K.lookup tfc=some ⟨.type "code",odc,.fields vsc,slc⟩) (w2:vsc[11]?=some (.ref tfP)) (w3:BG [(tfc,⟨.type "code",odc,.fields vsc,slc⟩)] tfc tfP=true) (u2:tfP∈ts)
  :∃K2:Ao,∃f c tb,K2.In h∧mE K2 mg f c tb∧∃T:Txt (bQ tb K2) mg,T.a_law=fa∧(∀(s:Ar) (v:Value),GM s T.d_law ⟨[v],[]⟩ [("script",v)]):=by
 have e:=hfa.symm.trans (AO X G a34)
 cases e
 obtain ⟨tfb,ob,bm1,bm2,bm3,bm4,bm5,bm6⟩:=BM
 obtain ⟨K2,X2,EL,v2,u4⟩:=Ad X (TS _ u2) bm3
 have u1:=L2.hd_one (EL _ _ w1) w3
 have TA:mE K2 mg f18 tfc tfP:=⟨AO X G a18,⟨_,_,EL _ _ l18,rfl,u0⟩,u1,v2⟩
 replace l0:=av v2 (EL _ _ l0)
 replace c0:=aw v2 (aC EL c0)
 replace k0:=aJ l0
 replace l1:=av v2 (EL _ _ l1)
 replace c1:=aw v2 (aC EL c1)
 replace k1:=aJ l1
 replace l2:=av v2 (EL _ _ l2)
 replace c2:=aw v2 (aC EL c2)
 replace k2:=aJ l2
 replace l3:=av v2 (EL _ _ l3)
 replace c3:=aw v2 (aC EL c3)
 replace k3:=aJ l3
 replace l4:=av v2 (EL _ _ l4)
 replace c4:=aw v2 (aC EL c4)
 replace k4:=aJ l4
 replace l5:=av v2 (EL _ _ l5)
 replace c5:=aw v2 (aC EL c5)
 replace k5:=aJ l5
 replace l6:=av v2 (EL _ _ l6)
 replace c6:=aw v2 (aC EL c6)
 replace k6:=aJ l6
 replace l7:=av v2 (EL _ _ l7)
 replace c7:=aw v2 (aC EL c7)
 replace k7:=aJ l7
 replace l8:=av v2 (EL _ _ l8)
 replace c8:=aw v2 (aC EL c8)
 replace k8:=aJ l8
 replace l9:=av v2 (EL _ _ l9)
 replace c9:=aw v2 (aC EL c9)
 replace k9:=aJ l9
 replace l10:=av v2 (EL _ _ l10)
 replace c10:=aw v2 (aC EL c10)
 replace k10:=aJ l10
 replace l11:=av v2 (EL _ _ l11)
 replace c11:=aw v2 (aC EL c11)
 replace k11:=aJ l11
 replace l12:=av v2 (EL _ _ l12)
 replace c12:=aw v2 (aC EL c12)
 replace k12:=aJ l12
 replace l13:=av v2 (EL _ _ l13)
 replace c13:=aw v2 (aC EL c13)
 replace k13:=aJ l13
 replace l14:=av v2 (EL _ _ l14)
 replace c14:=aw v2 (aC EL c14)
 replace k14:=aJ l14
 replace l15:=av v2 (EL _ _ l15)
 replace c15:=aw v2 (aC EL c15)
 replace k15:=aJ l15
 replace l16:=av v2 (EL _ _ l16)
 replace c16:=aw v2 (aC EL c16)
 replace k16:=aJ l16
 replace l17:=av v2 (EL _ _ l17)
 replace c17:=aw v2 (aC EL c17)
 replace k17:=aJ l17
 replace l18:=av v2 (EL _ _ l18)
 replace c18:=aw v2 (aC EL c18)
 replace k18:=aJ l18
 replace l19:=av v2 (EL _ _ l19)
 replace c19:=aw v2 (aC EL c19)
 replace k19:=aJ l19
 replace l20:=av v2 (EL _ _ l20)
 replace c20:=aw v2 (aC EL c20)
 replace k20:=aJ l20
 replace l21:=av v2 (EL _ _ l21)
 replace c21:=aw v2 (aC EL c21)
 replace k21:=aJ l21
 replace l22:=av v2 (EL _ _ l22)
 replace c22:=aw v2 (aC EL c22)
 replace k22:=aJ l22
 replace l23:=av v2 (EL _ _ l23)
 replace c23:=aw v2 (aC EL c23)
 replace k23:=aJ l23
 replace l24:=av v2 (EL _ _ l24)
 replace c24:=aw v2 (aC EL c24)
 replace k24:=aJ l24
 replace l25:=av v2 (EL _ _ l25)
 replace c25:=aw v2 (aC EL c25)
 replace k25:=aJ l25
 replace l26:=av v2 (EL _ _ l26)
 replace c26:=aw v2 (aC EL c26)
 replace k26:=aJ l26
 replace l27:=av v2 (EL _ _ l27)
 replace c27:=aw v2 (aC EL c27)
 replace k27:=aJ l27
 replace l28:=av v2 (EL _ _ l28)
 replace c28:=aw v2 (aC EL c28)
 replace k28:=aJ l28
 replace l29:=av v2 (EL _ _ l29)
 replace c29:=aw v2 (aC EL c29)
 replace k29:=aJ l29
 replace l30:=av v2 (EL _ _ l30)
 replace c30:=aw v2 (aC EL c30)
 replace k30:=aJ l30
 replace l31:=av v2 (EL _ _ l31)
 replace c31:=aw v2 (aC EL c31)
 replace k31:=aJ l31
 replace l32:=av v2 (EL _ _ l32)
 replace c32:=aw v2 (aC EL c32)
 replace k32:=aJ l32
 replace l33:=av v2 (EL _ _ l33)
 replace c33:=aw v2 (aC EL c33)
 replace k33:=aJ l33
 replace l34:=av v2 (EL _ _ l34)
 replace c34:=aw v2 (aC EL c34)
 replace k34:=aJ l34
 have u4':=gP (ph v2 u4 fun vs z=>by rw[bm6] at z;cases z) u4
 have TF:TbF (bQ tfP K2) mg f18 tfc tfP tfb:=⟨AO X G a18,⟨_,_,l18,rfl,u0⟩,uE u1,bm1,bm2,⟨_,u4',bm4,bm5,bm6⟩⟩
 have F0:=aX (st:=cY) l0 c0 k0
 have b0:=F0.binds (ps:=["thing"]) fun _ _ _ _ _ _ us hl=>ar1 (p:=fun us=>Bq _ ⟨us,[]⟩=pure (Bz _ us)) hl fun _=>rfl
 have F1:=aX (st:=iq) l1 c1 k1
 have b1:=F1.binds (ps:=["number"]) fun _ _ _ _ _ _ us hl=>ar1 (p:=fun us=>Bq _ ⟨us,[]⟩=pure (Bz _ us)) hl fun _=>rfl
 have F2:=aX (st:=eu) l2 c2 k2
 have b2:=F2.binds (ps:=["a","b"]) fun _ _ _ _ _ _ us hl=>ar2 (p:=fun us=>Bq _ ⟨us,[]⟩=pure (Bz _ us)) hl fun _ _=>rfl
 have F3:=aX (st:=iB) l3 c3 k3
 have b3:=F3.binds (ps:=["move"]) fun _ _ _ _ _ _ us hl=>ar1 (p:=fun us=>Bq _ ⟨us,[]⟩=pure (Bz _ us)) hl fun _=>rfl
 have F4:=aX (st:=cZ) l4 c4 k4
 have b4:=F4.binds (ps:=["thing"]) fun _ _ _ _ _ _ us hl=>ar1 (p:=fun us=>Bq _ ⟨us,[]⟩=pure (Bz _ us)) hl fun _=>rfl
 have F5:=aX (st:=cN) l5 c5 k5
 have b5:=F5.binds (ps:=["thing"]) fun _ _ _ _ _ _ us hl=>ar1 (p:=fun us=>Bq _ ⟨us,[]⟩=pure (Bz _ us)) hl fun _=>rfl
 have F6:=aX (st:=eJ) l6 c6 k6
 have b6:=F6.binds (ps:=["P","move"]) fun _ _ _ _ _ _ us hl=>ar2 (p:=fun us=>Bq _ ⟨us,[]⟩=pure (Bz _ us)) hl fun _ _=>rfl
 have F7:=aX (st:=fL) l7 c7 k7
 have b7:=F7.binds (ps:=["P","move"]) fun _ _ _ _ _ _ us hl=>ar2 (p:=fun us=>Bq _ ⟨us,[]⟩=pure (Bz _ us)) hl fun _ _=>rfl
 have F8:=aX (st:=eL) l8 c8 k8
 have b8:=F8.binds (ps:=["first","second"]) fun _ _ _ _ _ _ us hl=>ar2 (p:=fun us=>Bq _ ⟨us,[]⟩=pure (Bz _ us)) hl fun _ _=>rfl
 have F9:=aX (st:=cW) l9 c9 k9
 have b9:=F9.binds (ps:=["move"]) fun _ _ _ _ _ _ us hl=>ar1 (p:=fun us=>Bq _ ⟨us,[]⟩=pure (Bz _ us)) hl fun _=>rfl
 have F10:=aX (st:=fV) l10 c10 k10
 have b10:=F10.binds (ps:=["P","Q"]) fun _ _ _ _ _ _ us hl=>ar2 (p:=fun us=>Bq _ ⟨us,[]⟩=pure (Bz _ us)) hl fun _ _=>rfl
 have F11:=aX (st:=fP) l11 c11 k11
 have b11:=F11.binds (ps:=["P","Q"]) fun _ _ _ _ _ _ us hl=>ar2 (p:=fun us=>Bq _ ⟨us,[]⟩=pure (Bz _ us)) hl fun _ _=>rfl
 have F12:=aX (st:=ir) l12 c12 k12
 have b12:=F12.binds (ps:=["P","Q","R"]) fun _ _ _ _ _ _ us hl=>ar3 (p:=fun us=>Bq _ ⟨us,[]⟩=pure (Bz _ us)) hl fun _ _ _=>rfl
 have F13:=aX (st:=cw) l13 c13 k13
 have b13:=F13.binds (ps:=["row"]) fun _ _ _ _ _ _ us hl=>ar1 (p:=fun us=>Bq _ ⟨us,[]⟩=pure (Bz _ us)) hl fun _=>rfl
 have F14:=aX (st:=fJ) l14 c14 k14
 have b14:=F14.binds (ps:=["points"]) fun _ _ _ _ _ _ us hl=>ar1 (p:=fun us=>Bq _ ⟨us,[]⟩=pure (Bz _ us)) hl fun _=>rfl
 have F15:=aX (st:=bK) l15 c15 k15
 have b15:=F15.binds (ps:=["land","move"]) fun _ _ _ _ _ _ us hl=>ar2 (p:=fun us=>Bq _ ⟨us,[]⟩=pure (Bz _ us)) hl fun _ _=>rfl
 have F16:=aX (st:=fT) l16 c16 k16
 have b16:=F16.binds (ps:=["corner","along","aside"]) fun _ _ _ _ _ _ us hl=>ar3 (p:=fun us=>Bq _ ⟨us,[]⟩=pure (Bz _ us)) hl fun _ _ _=>rfl
 have F17:=aX (st:=eN) l17 c17 k17
 have b17:=F17.binds (ps:=["land"]) fun _ _ _ _ _ _ us hl=>ar1 (p:=fun us=>Bq _ ⟨us,[]⟩=pure (Bz _ us)) hl fun _=>rfl
 have F18:=aX (st:=dA) l18 c18 k18
 have b18:=F18.binds (ps:=["land"]) fun _ _ _ _ _ _ us hl=>ar1 (p:=fun us=>Bq _ ⟨us,[]⟩=pure (Bz _ us)) hl fun _=>rfl
 have F19:=aX (st:=fN) l19 c19 k19
 have b19:=F19.binds (ps:=["one","other"]) fun _ _ _ _ _ _ us hl=>ar2 (p:=fun us=>Bq _ ⟨us,[]⟩=pure (Bz _ us)) hl fun _ _=>rfl
 have F20:=aX (st:=bP) l20 c20 k20
 have b20:=F20.binds (ps:=["script","k"]) fun _ _ _ _ _ _ us hl=>ar2 (p:=fun us=>Bq _ ⟨us,[]⟩=pure (Bz _ us)) hl fun _ _=>rfl
 have F21:=aX (st:=cq) l21 c21 k21
 have b21:=F21.binds (ps:=["found"]) fun _ _ _ _ _ _ us hl=>ar1 (p:=fun us=>Bq _ ⟨us,[]⟩=pure (Bz _ us)) hl fun _=>rfl
 have F22:=aX (st:=cx) l22 c22 k22
 have b22:=F22.binds (ps:=["one","two","three"]) fun _ _ _ _ _ _ us hl=>ar3 (p:=fun us=>Bq _ ⟨us,[]⟩=pure (Bz _ us)) hl fun _ _ _=>rfl
 have F23:=aX (st:=bN) l23 c23 k23
 have b23:=F23.binds (ps:=["points"]) fun _ _ _ _ _ _ us hl=>ar1 (p:=fun us=>Bq _ ⟨us,[]⟩=pure (Bz _ us)) hl fun _=>rfl
 have F24:=aX (st:=bX) l24 c24 k24
 have b24:=F24.binds (ps:=["script","start"]) fun _ _ _ _ _ _ us hl=>ar2 (p:=fun us=>Bq _ ⟨us,[]⟩=pure (Bz _ us)) hl fun _ _=>rfl
 have F25:=aX (st:=br) l25 c25 k25
 have b25:=F25.binds (ps:=["a","n"]) fun _ _ _ _ _ _ us hl=>ar2 (p:=fun us=>Bq _ ⟨us,[]⟩=pure (Bz _ us)) hl fun _ _=>rfl
 have F26:=aX (st:=cH) l26 c26 k26
 have b26:=F26.binds (ps:=["script"]) fun _ _ _ _ _ _ us hl=>ar1 (p:=fun us=>Bq _ ⟨us,[]⟩=pure (Bz _ us)) hl fun _=>rfl
 have F27:=aX (st:=cG) l27 c27 k27
 have b27:=F27.binds (ps:=["script"]) fun _ _ _ _ _ _ us hl=>ar1 (p:=fun us=>Bq _ ⟨us,[]⟩=pure (Bz _ us)) hl fun _=>rfl
 have F28:=aX (st:=cM) l28 c28 k28
 have b28:=F28.binds (ps:=["spot","script"]) fun _ _ _ _ _ _ us hl=>ar2 (p:=fun us=>Bq _ ⟨us,[]⟩=pure (Bz _ us)) hl fun _ _=>rfl
 have F29:=aX (st:=cL) l29 c29 k29
 have b29:=F29.binds (ps:=["start","spot"]) fun _ _ _ _ _ _ us hl=>ar2 (p:=fun us=>Bq _ ⟨us,[]⟩=pure (Bz _ us)) hl fun _ _=>rfl
 have F30:=aX (st:=bR) l30 c30 k30
 have b30:=F30.binds (ps:=["one","other","at","way"]) fun _ _ _ _ _ _ us hl=>ar4 (p:=fun us=>Bq _ ⟨us,[]⟩=pure (Bz _ us)) hl fun _ _ _ _=>rfl
 have F31:=aX (st:=dq) l31 c31 k31
 have b31:=F31.binds (ps:=["move","spot"]) fun _ _ _ _ _ _ us hl=>ar2 (p:=fun us=>Bq _ ⟨us,[]⟩=pure (Bz _ us)) hl fun _ _=>rfl
 have F32:=aX (st:=bT) l32 c32 k32
 have b32:=F32.binds (ps:=["move","one","other"]) fun _ _ _ _ _ _ us hl=>ar3 (p:=fun us=>Bq _ ⟨us,[]⟩=pure (Bz _ us)) hl fun _ _ _=>rfl
 have F33:=aX (st:=cX) l33 c33 k33
 have b33:=F33.binds (ps:=["one","other"]) fun _ _ _ _ _ _ us hl=>ar2 (p:=fun us=>Bq _ ⟨us,[]⟩=pure (Bz _ us)) hl fun _ _=>rfl
 have F34:=aX (st:=iH) l34 c34 k34
 have b34:=F34.binds (ps:=["script"]) fun _ _ _ _ _ _ us hl=>ar1 (p:=fun us=>Bq _ ⟨us,[]⟩=pure (Bz _ us)) hl fun _=>rfl
 exact ⟨K2,_,_,_,X2,TA,⟨_,_,F0,b0,AO X G a0,_,_,F1,b1,AO X G a1,_,_,F2,b2,AO X G a2,_,_,F3,b3,AO X G a3,_,_,F4,b4,AO X G a4,_,_,F5,b5,AO X G a5,_,_,F6,b6,AO X G a6,_,_,F7,b7,AO X G a7,_,_,F8,b8,AO X G a8,_,_,F9,b9,AO X G a9,_,_,F10,b10,AO X G a10,_,_,F11,b11,AO X G a11,_,_,F12,b12,AO X G a12,_,_,F13,b13,AO X G a13,_,_,F14,b14,AO X G a14,_,_,F15,b15,AO X G a15,_,_,F16,b16,AO X G a16,_,_,F17,b17,AO X G a17,_,_,F18,b18,AO X G a18,_,_,F19,b19,AO X G a19,_,_,F20,b20,AO X G a20,_,_,F21,b21,AO X G a21,_,_,F22,b22,AO X G a22,_,_,F23,b23,AO X G a23,_,_,F24,b24,AO X G a24,_,_,F25,b25,AO X G a25,_,_,F26,b26,AO X G a26,_,_,F27,b27,AO X G a27,_,_,F28,b28,AO X G a28,_,_,F29,b29,AO X G a29,_,_,F30,b30,AO X G a30,_,_,F31,b31,AO X G a31,_,_,F32,b32,AO X G a32,_,_,F33,b33,AO X G a33,_,_,F34,b34,AO X G a34,Bl X G z_abs,Bl X G z_all,Bl X G z_bool,Bl X G z_int,Bl X G z_isinstance,Bl X G z_len,Bl X G z_list,Bl X G z_min,Bl X G z_range,Bl X G z_reversed,Bl X G z_set,Bl X G z_sorted,Bl X G z_tuple,Bl X G z_zip,_,_,_,TF,u0⟩,rfl,fun s v=>.of_eq rfl⟩
abbrev spLaw (K:Ao):Sp:=spU K gW
theorem law_start (K:Ao) (H:Hp) (a:Addr) (ns:List Int) (h1:ns.length≤63) (h2:∀m∈ns,Sz 1048576 m) (h3:SqL K H a (ns.map V.int)):spLaw K [.ref a] H (fun v _=>v=.bl true) fun _ _ _=>False:=qk h1 h2 h3
theorem law_ok {P:AC}{w:World}{mg:Str→Option Value}{fa:Addr}{h:Heap} (h':∃K2:Ao,∃f c tb,K2.In h∧mE K2 mg f c tb∧∃T:Txt (bQ tb K2) mg,T.a_law=fa∧(∀(s:Ar) (v:Value),GM s T.d_law ⟨[v],[]⟩ [("script",v)])):
  ∃(K2:Ao) (f c tb:Addr) (fd:A6),K2.In h∧mE K2 mg f c tb∧(∀(s:Ar) (u:Value),GM s fd ⟨[u],[]⟩ [("script",u)])∧∀base:Heap,(bQ tb K2).In base→base.Ns AJ mg→bA P w (bQ tb K2) mg base CX0 10 fa fd ["script"] (spLaw (bQ tb K2)):=by
 obtain ⟨K2,f,c,tb,X2,TA,T,rfl,hb⟩:=h'
 exact ⟨K2,f,c,tb,T.d_law,X2,TA,hb,fun base _ _=>(xB T).calm sV⟩
end My
namespace PySem.W.Fast
def tw892255899487069673:Unit:=()
def tw5876616297714822186:Unit:=()
def tw13796569238654762879:Unit:=()
def tw3840040271768594391:Unit:=()
def tw1249263749145946670:Unit:=()
def tw9351161596579856555:Unit:=()
def tw10850967713368940844:Unit:=()
def tw16332071713478273138:Unit:=()
def tw12120045523831578283:Unit:=()
def tw12535926914448111507:Unit:=()
def tw945258774321881478:Unit:=()
def tw1981378653852664495:Unit:=()
def tw7666587418600745902:Unit:=()
def tw15565451735845538691:Unit:=()
def tw12335398171208944410:Unit:=()
def tw2020142769668736111:Unit:=()
def tw10662197673205436846:Unit:=()
def tw13231995970963420982:Unit:=()
def tw9003375059633645543:Unit:=()
def tw6477784265431169623:Unit:=()
end PySem.W.Fast
open PySem PySem.W PyProof.Rows L2
set_option maxRecDepth 100000 in
set_option maxHeartbeats 0 in
set_option maxHeartbeats 0 in
theorem PySem.Challenge.cw_stakefield_k56_alike_by_trying_holds : PySem.Challenge.rw_stakefield_k56_alike_by_trying.Holds := by
 w_on;o_law;k_head;(case hw=>w_witness2)
 k_fill
 refine L2.walk_ofT2 (l:=PySem.Challenge.rw_stakefield_k56_alike_by_trying) (n:=63) (k:=10) (x:="script") (CX:=CX0) (sp:=My.spLaw) rfl (by decide) rfl ⟨rfl,by decide,by decide⟩ (fun w h Y=>⟨PySem.W.km_in_of Y,PySem.W.km_tabs_of Y⟩) ?F My.law_start (fun _ _ _ _ z=>z)
 case F=>
  intro w mg fa h KX TS BM G hmg
  refine My.law_ok ?T
  refine' My.txt_mk KX TS BM G hmg ?a0 ?l0 ?c0 ?k0 ?a1 ?l1 ?c1 ?k1 ?a2 ?l2 ?c2 ?k2 ?a3 ?l3 ?c3 ?k3 ?a4 ?l4 ?c4 ?k4 ?a5 ?l5 ?c5 ?k5 ?a6 ?l6 ?c6 ?k6 ?a7 ?l7 ?c7 ?k7 ?a8 ?l8 ?c8 ?k8 ?a9 ?l9 ?c9 ?k9 ?a10 ?l10 ?c10 ?k10 ?a11 ?l11 ?c11 ?k11 ?a12 ?l12 ?c12 ?k12 ?a13 ?l13 ?c13 ?k13 ?a14 ?l14 ?c14 ?k14 ?a15 ?l15 ?c15 ?k15 ?a16 ?l16 ?c16 ?k16 ?a17 ?l17 ?c17 ?k17 ?a18 ?l18 ?c18 ?k18 ?a19 ?l19 ?c19 ?k19 ?a20 ?l20 ?c20 ?k20 ?a21 ?l21 ?c21 ?k21 ?a22 ?l22 ?c22 ?k22 ?a23 ?l23 ?c23 ?k23 ?a24 ?l24 ?c24 ?k24 ?a25 ?l25 ?c25 ?k25 ?a26 ?l26 ?c26 ?k26 ?a27 ?l27 ?c27 ?k27 ?a28 ?l28 ?c28 ?k28 ?a29 ?l29 ?c29 ?k29 ?a30 ?l30 ?c30 ?k30 ?a31 ?l31 ?c31 ?k31 ?a32 ?l32 ?c32 ?k32 ?a33 ?l33 ?c33 ?k33 ?a34 ?l34 ?c34 ?k34  ?z_abs ?z_all ?z_bool ?z_int ?z_isinstance ?z_len ?z_list ?z_min ?z_range ?z_reversed ?z_set ?z_sorted ?z_tuple ?z_zip   ?u0 ?w1 ?w2 ?w3 ?u2
  (case a0=>k_is);(case l0=>k_is);(case c0=>k_is);(case k0=>k_is)
  (case a1=>k_is);(case l1=>k_is);(case c1=>k_is);(case k1=>k_is)
  (case a2=>k_is);(case l2=>k_is);(case c2=>k_is);(case k2=>k_is)
  (case a3=>k_is);(case l3=>k_is);(case c3=>k_is);(case k3=>k_is)
  (case a4=>k_is);(case l4=>k_is);(case c4=>k_is);(case k4=>k_is)
  (case a5=>k_is);(case l5=>k_is);(case c5=>k_is);(case k5=>k_is)
  (case a6=>k_is);(case l6=>k_is);(case c6=>k_is);(case k6=>k_is)
  (case a7=>k_is);(case l7=>k_is);(case c7=>k_is);(case k7=>k_is)
  (case a8=>k_is);(case l8=>k_is);(case c8=>k_is);(case k8=>k_is)
  (case a9=>k_is);(case l9=>k_is);(case c9=>k_is);(case k9=>k_is)
  (case a10=>k_is);(case l10=>k_is);(case c10=>k_is);(case k10=>k_is)
  (case a11=>k_is);(case l11=>k_is);(case c11=>k_is);(case k11=>k_is)
  (case a12=>k_is);(case l12=>k_is);(case c12=>k_is);(case k12=>k_is)
  (case a13=>k_is);(case l13=>k_is);(case c13=>k_is);(case k13=>k_is)
  (case a14=>k_is);(case l14=>k_is);(case c14=>k_is);(case k14=>k_is)
  (case a15=>k_is);(case l15=>k_is);(case c15=>k_is);(case k15=>k_is)
  (case a16=>k_is);(case l16=>k_is);(case c16=>k_is);(case k16=>k_is)
  (case a17=>k_is);(case l17=>k_is);(case c17=>k_is);(case k17=>k_is)
  (case a18=>k_is);(case l18=>k_is);(case c18=>k_is);(case k18=>k_is)
  (case a19=>k_is);(case l19=>k_is);(case c19=>k_is);(case k19=>k_is)
  (case a20=>k_is);(case l20=>k_is);(case c20=>k_is);(case k20=>k_is)
  (case a21=>k_is);(case l21=>k_is);(case c21=>k_is);(case k21=>k_is)
  (case a22=>k_is);(case l22=>k_is);(case c22=>k_is);(case k22=>k_is)
  (case a23=>k_is);(case l23=>k_is);(case c23=>k_is);(case k23=>k_is)
  (case a24=>k_is);(case l24=>k_is);(case c24=>k_is);(case k24=>k_is)
  (case a25=>k_is);(case l25=>k_is);(case c25=>k_is);(case k25=>k_is)
  (case a26=>k_is);(case l26=>k_is);(case c26=>k_is);(case k26=>k_is)
  (case a27=>k_is);(case l27=>k_is);(case c27=>k_is);(case k27=>k_is)
  (case a28=>k_is);(case l28=>k_is);(case c28=>k_is);(case k28=>k_is)
  (case a29=>k_is);(case l29=>k_is);(case c29=>k_is);(case k29=>k_is)
  (case a30=>k_is);(case l30=>k_is);(case c30=>k_is);(case k30=>k_is)
  (case a31=>k_is);(case l31=>k_is);(case c31=>k_is);(case k31=>k_is)
  (case a32=>k_is);(case l32=>k_is);(case c32=>k_is);(case k32=>k_is)
  (case a33=>k_is);(case l33=>k_is);(case c33=>k_is);(case k33=>k_is)
  (case a34=>k_is);(case l34=>k_is);(case c34=>k_is);(case k34=>k_is)
  (case z_abs=>k_is)
  (case z_all=>k_is)
  (case z_bool=>k_is)
  (case z_int=>k_is)
  (case z_isinstance=>k_is)
  (case z_len=>k_is)
  (case z_list=>k_is)
  (case z_min=>k_is)
  (case z_range=>k_is)
  (case z_reversed=>k_is)
  (case z_set=>k_is)
  (case z_sorted=>k_is)
  (case z_tuple=>k_is)
  (case z_zip=>k_is)
  (case u0=>exact rfl);(case w1=>k_is);(case w2=>exact rfl);(case w3=>exact rfl);(case u2=>decide)
