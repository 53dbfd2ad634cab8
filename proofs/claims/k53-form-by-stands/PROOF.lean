import PyProof.Rows.All
import Wide.All
import OpenK.AllK
import Wide.FinOn
import Lean
import PyProof.EqAt
import PyProof.EqKinds
import PyProof.NeKinds
import PyProof.TupleCall
import KE.KDictSum
import KE.KSortTup
import KE.KRevIter
import KE.KRevSl
import KE.KLam
import KE.KNestM
import KE.KMinKey
import PySem.Challenge.RW_stakefield_k53_form_by_stands
open List renaming getElem?_eq_getElem → yD, length_map → yK, getD_eq_getElem?_getD → yL, mem_cons_of_mem → yM, getElem?_map → yN, mem_cons → yP, mem_append_right → yS, getElem?_eq_some_iff → yU, mem_cons_self → yV, mem_reverse → y6, mem_map → y8, size_toArray → y_, pairwise_iff_getElem → zg, mem_of_getElem? → zi, getElem?_append_right → zm, getElem?_append_left → zE, lookup_cons → zF, length_cons → zH, getElem?_set_ne → zI, mem_range → zK, length_append → zM, getElem?_eq_none → zN, range → zS, map_map → zX, mem_singleton → zZ, pairwise_cons → z7, length_reverse → z_, map_cons → Aa, mem_append_left → Ak, not_mem_nil → Al, map_append → An, pairwise_map → Av, mem_filter → Ay, getElem?_reverse → AC, zip → AG, getLast?_eq_getElem? → AL, filterMap_cons → AO, mem_iff_getElem? → AU, mem_append → AY, length_eq_zero_iff → AZ, map_reverse → A5, length_dropLast → Bh, getElem?_replicate → Bi, nodup_cons → Bm, getElem?_dropLast → Bt, length_pos_of_mem → Bu, length_replicate → By, contains_iff_mem → Bz, tail_cons → BE, mem_iff_getElem → BG, getElem?_take_of_lt → BJ, ext_getElem? → BO, getElem?_range → BQ, getElem?_cons_succ → BR, getLast?_cons_cons → BU, take_length → BV, head?_eq_getElem? → BX, getElem?_drop → B0, zip_cons_cons → B1, getElem?_toArray → B3, mem_of_getLast? → Cc, take_succ → Ce, mem_take_iff_getElem → Cg, all_eq_true → Ck, getElem_mem → Cm, length_pos_iff → Cq, append_nil → CB, forIn_cons → CC, length_set → CD, length_nil → CF, foldl_cons → CG, take_of_length_le → CN, drop_eq_nil_of_le → CP, getLast?_map → CV, forIn_nil → C4, pairwise_reverse → C_, getLast?_reverse → Da, getElem_inj → Dc, filter_cons → Dd, all_cons → Dh, nodup_iff_pairwise_ne → Dy, mem_filterMap → DA, head?_map → DK, getElem?_set → DQ, append_assoc → DU, length_range → DV, nodup_append → DW, map_dropLast → DY, length_erase_of_mem → DZ, getElem?_set_self → Ej, pairwise_lt_range → Ep, of_mem_zip → Ey, length_singleton → Ez, filterMap_append → EC, take_append_drop → EG, range_succ → ER, mem_erase_of_ne → EW, dropLast_subset → EY, mem_of_mem_drop → EZ, mem_of_mem_take → E1, take_zero → E5, lookup → Fb, map_congr_left → Fe, mem_map_of_mem → Ff, map_drop → Fw, head?_reverse → Fz, reverse_cons → FJ, zip_nil_left → FM, getElem?_inj → FP, map_nil → FQ, toArray → FU, length_take → F_, length_drop → Ga, nodup_range → Gc, perm_middle → Gd, ext_getElem → Gf, zipIdx_cons → Gi, zipIdx_nil → GA, head?_cons → GH, replicate → GU, any_cons → Hv, map_take → Hz, Perm → Ig
open PySem renaming wpAny_bind → yE, Shared → yI, wpAny_pure → yJ, Program → yT, starEach → yW, mainGlobals → yY, Around → zh, FuncData → zG, mem_of_lookup → zL, foldedSetIterable → Ab, intKind_is → Aj, cellsFrom → Am, wpAny_seqItems → Ao, bindArgs → Ap, wpAny_Call_Name_kw → Aw, wpAny_holding → Ax, sizeLine_eq → Az, codeAny_builtin → AB, plainId_quiet → AF, compareOp → AJ, wpAny_call_entry → AM, wpAny_mono → AQ, boot_len → AW, wpAny_updateSeq → A1, wpAny_loadPart' → A2, bootBuiltins → A3, wpAny_newObj_type → A7, wpAny_pyIter_list → A8, wpAny_setState_of → A_, wpAny_tryCatch → Bb, intKind → Bc, wpAny_truthy_bool → Bk, wpAny_letGo → Bp, wpAny_isInstance → Bw, NameKind → BF, wpAny_rule → BH, wpAny_passesOwn → BI, wpAny_ite_split → BN, wpAny_callSpecial?_slot → BS, rawInt → BZ, wpAny_setField_rec → B2, builtinLookup_eq_fast → B4, richCompare → B5, GenState → B9, isSubtype_type → Cf, wpAny_askSetting → Co, wpAny_field → Cr, assignEach → Ct, wpAny_comprehension_free → Cv, behindInMarks → Cz, codeAny → CA, argBest → CJ, wpAny_tupleItemsOf → CK, wpAny_pyNext_list_item → CL, codeAny_compStart_list → CM, wpAny_nextOf_list_item → CO, builtinsNs → CQ, sliceBounds → CS, ofAClassStatement → CT, binaryOp → CY, backTo → C5, pyNext → C6, codeAny_mono → C7, wpAny_newFunctionEnv → Dg, compEnvC → Di, wpAny_newList → Dk, PassesOwn → Dp, wpAny_specialOf → Dq, typeLookup_type → Dr, wpAny_setEntries_of → Ds, updateSeq → Du, wpAny_richCompare_same_room → Dv, recursionLimit → DI, swapsWith → DM, wpAny_getItem_list_slice → DP, closureFor → DR, seqItems? → DT, swapsWithSole → D3, swappedStores → D4, wpAny_standAt → D5, attributeBase → D6, setSearchFrom → D8, wpAny_attempt → D9, wpAny_onRaise → Ea, wpAny_forIn_list → Ef, wpAny_pyNext_range_end → Ek, wpAny_pyIter_rangeiter → El, wpAny_execs_nil → Eu, letOwnedTupleGo → Ew, wpAny_pyNext_list_end → Ex, theTreesLotGoes → EB, wpAny_eqIsQuiet_tuple → EF, isSubtype_tuple_tuple → EM, codeAny_extend_loopS → EV, wpAny_setField → E7, wpAny_newTuple → E8, IsRangeIter → E9, BindsTo → E_, hashByValue → Fc, wpAny_of_eq → Fd, assignInOrder → Fg, wpAny_pyIter_range → Fh, Result → Fj, Arguments → Fk, evalPart_none → Fl, compPost → Fp, eval_ListComp → Fq, pickOrder → Fx, callerA → FD, searchCouldBeSeen → FE, wpAny_storeSet_of → FF, wpAny_pyIter_slot → FG, codeAny_loop → FR, wpAny_typeOf → FT, checkBuiltinCall → Ge, wpAny_pyIter_zip → Gj, tupleKind → Gk, Keyword → Gm, wpAny_noted → Gq, putSet_of → Gs, codeAny_of_tree → Gu, Fin → Gv, codeAmong → GD, pushCells_keeps → GE, wpAny_bindName → GJ, compTurn_list1 → GV, entryFor_alias → GY, wpAny_fieldsOf → GZ, firstArgMember → G0, isSubtype_stop → G3, newFunctionEnv → G8, sysModules → G9, wpAny_Name → G_, wpAny_call → Hm, typeIs_int → Ho, setsByText → Hq, isInstance → Hr, bindName → Ht, Operator → Hu, Within → HC, pyIter → HE, noteFrame → HG, argsOk → HJ, revObj → HZ, call → Ic
open PySem.Heap renaming get?_push_of_some → yG, lt_size → yQ, get?_push_size → yR, get?_update_other → zj, size_push → z9, get?_update_self → Ai, SameBut → Cs, IsList → GB
open PySem.W renaming Frag → yH, keepIn → yZ, codeIn → y3, nsIn → y9, mg_of → zo, fnOf → zr, mg_none_of → z8, kia_one → Ar, codeHdIn → As, cellsFrom_some → Bs, findIn → CZ, kitOne → DH, methodObj → DL, kitx_list → DN, instObj → Et, kla_obj → EN, lookIn → E2, kitx_tuple → Fi, specialIn → FB, kitx_dict → FC, plainGet → FZ, OpenLaw → Gp, kla_fn → G7, WalkO → Hx, isFn → HF
open Nat renaming le_refl → yO, lt_of_lt_of_le → za, ne_of_lt → zb, lt_or_eq_of_le → zD, lt_irrefl → zO, mod_eq_of_lt → zQ, zero_le → zW, le_of_lt → Af, lt_succ_of_lt → AE, le_trans → AH, lt_trichotomy → AR, le_of_lt_succ → AS, lt_or_ge → AV, ne_of_gt → A4, lt_succ_self → Bf, pow_succ → Bj, mod_lt → BK, pow_le_pow_right → Ca, le_of_not_lt → Ci, le_add_right → Cp, add_mod_right → CW, lt_of_le_of_lt → DC, mod_eq_sub_mod → DD, eq_zero_or_pos → DE, le_of_succ_le → DX, div_div_eq_div_mul → Eo, lt_trans → ED, mod_add_mod → EE, mod_self → EO, mul_le_mul_right → EU, mod_mod_of_dvd → Fu, add_sub_cancel → Fy, le_max_right → Gb, le_max_left → Gn, not_lt_zero → Gr, min_eq_left → GI, min_self → HH, add_zero → HI, add_mod → HU, le_succ → HV
open Bool renaming false_eq_true → yX, false_ne_true → zd, and_eq_true → Ac, not_true → Aq, not_false → Ba, eq_iff_iff → Bd, or_eq_true → Bn, beq_eq_decide_eq → C8, true_and → Dj, and_eq_true_iff → ET, and_false → E4, and_true → Fs, false_or → Hy
open Array renaming length_toList → y4, getElem?_toList → zV, getD_eq_getD_getElem? → Ae, getD → A9, getElem?_eq_some_iff → Bv, getElem?_eq_getElem → BC, getElem?_replicate → Cw, mem_toList_iff → Df, toList_inj → Eg, toList_map → Eh, forIn_toList → Fv, toList_zip → Gg, size_map → GX, toList → HD
open PySem.Value renaming none → zl, int → zR, bool → zT, ref → zY, str → Ad, isInt_shape → Ah, type → AD, isInt → HP, float → HQ
open PySem.F renaming plain_min_loop → zJ, called_set → A0, entry_min_loop → A6, slot_tuple_lt → B6, slot_zip_next → B7, plain_extend_loop → DJ, plainAttrs_list → D7, args_tuple_lt_2 → D_, args_zip_next_1 → Eb, entry_tuple_lt → Er, entry_zip_next → Es, plain_set_new → EH, slot_set_iter → EI, plain_min → FK, entry_min → FL, kind_min → Gh
open Option.some renaming inj → zU
open PySem.Around renaming under_plainId → Ag, frames_deeper → ES, in1 → FN
open PySem.Obj renaming mapSeq → Au, data_mapFields → BA, putSet → CU, isFreed_of_fields → EJ, cls_mapFields → FI
open Int renaming emod_lt_of_pos → AI, dvd_trans → AN, mul_nonneg → AX, emod_nonneg → Be, dvd_mul_right → Bl, mul_pos → Br, dvd_mul_left → Bx, emod_add_mul_ediv → BB, eq_of_mul_eq_mul_left → BD, toNat_natCast → BL, mul_ediv_cancel_left → BP, mul_eq_zero → B8, natAbs_of_nonneg → Cb, mul_ediv_cancel' → Cd, pos_of_mul_pos_right → Cy, natAbs_mul → C1, natAbs_dvd_natAbs → C9, dvd_add → Dw, dvd_refl → DF, lt_or_eq_of_le → DG, one_mul → Ec, ediv_le_self → Ee, ediv_nonneg → EA, zero_mul → FV, mul_comm → FW, zero_dvd → FX, lt_or_le → FY, dvd_neg → GF, dvd_sub → GG, dvd_zero → HL, mul_zero → HM, sub_self → HN, mul_one → HR, le_refl → HW
open Classical renaming byContradiction → AK
open PySem.MeetsSeq3 renaming plain_eq_loop → Bg, entry_eq_loop → De
open PySem.Heap.SameBut renaming update → Bo, refl → Ie
open PyProof.Rows renaming boot_isinstance → Bq, seqObj → BW, listUpdate_at → CI, SortKind → C3, seqEpoch_at → Dt, assignInOrder_cons → Dz, AllBare → D0, subscriptTail_builtinR → Em, get?_update_seq → EK, envOfC → E3, subscriptTail → Fo, assignInOrder_nil → FA, list_sort_plain → Gw, entry_list_sort → Gy, boot_list → Gz, slot_list_sort → G4, args_list_sort → G5, sortedHeap_old → G6, Subscript_ → Hn, boot_tuple → Hs, IntsAre → Hw, boot_min → HB
open Option renaming map_eq_some_iff → BY, getD_some → Cj, isSome_iff_exists → Cu, getD_none → Ed, toList_some → Ft, map → FH, none → HS
open List.Pairwise renaming nil → B_, imp_of_mem → DS, map → FO
open Prod renaming ext → CH, ext_iff → HK, fst → H_, snd → Ib
open ToString renaming toString → Dm
open MonadExcept renaming tryCatch → Do
open PySem.Calls renaming Name_function_global → Dx, spliced_cons → DB, spliced_nil → DO, callWith_builtin → En
open PySem.Heap.IsList renaming push → Ei
open List.Perm renaming refl → E6
open PySem.Heap.IsSliceOf renaming new → Fn
open List.Nodup renaming length_le_of_subset → FS
open List.cons renaming injEq → Gx
open PySem.Shared renaming heap → GC, TypeIs → HA
open PySem.EqNone renaming eq_none_none → GK, eq_none_bool → GL, eq_bool_none → GM, ne_none_none → GP, ne_none_bool → GQ, ne_bool_none → GR, eq_none_int → Ha, eq_none_str → Hb, eq_int_none → Hc, eq_str_none → He, ne_none_int → Hg, ne_none_str → Hh, ne_int_none → Hi, ne_str_none → Hk
open PySem.EqMixed renaming eq_bool_str → GN, eq_str_bool → GO, ne_bool_str → GS, ne_str_bool → GT, eq_int_str → Hd, eq_str_int → Hf, ne_int_str → Hj, ne_str_int → Hl
open PySem.Value.type renaming inj → GW
open PySem.W.Dflts renaming none → HX, noKw → HY
open PySem.W.Frag renaming In → Ih
set_option maxHeartbeats 8000000
set_option Elab.async false
set_option linter.all false
set_option maxRecDepth 100000
namespace L2
open PySem PySem.Spec PyProof.Rows
abbrev Key:=Sum Int Str
def uZ:Key→Value→Bool
 | .inl k,v=>HP k v
 | .inr x,v=>Value.isStrOf x v
def yt (w:World):Key→Int
 | .inl k=>hashInt k
 | .inr x=>hashStr w x
theorem bG:∀{k:Key}{v:Value},uZ k v=true→(∃i t,k=Sum.inl i∧v=zR i t)∨(∃x t,k=Sum.inr x∧v=Ad x t)
 | .inl i,v,h=>by
  obtain ⟨t,e⟩:=Ah (k:=i) (v:=v) h
  exact .inl ⟨i,t,rfl,e⟩
 | .inr x,v,h=>by
  obtain ⟨t,e⟩:=Value.isStrOf_shape (x:=x) (v:=v) h
  exact .inr ⟨x,t,rfl,e⟩
theorem vQ (a b:Int):decide ((Sum.inl a:Key)=Sum.inl b)=(a==b):=by
 by_cases e:a=b
 ·subst e;simp
 ·have h:¬ (Sum.inl a:Key)=Sum.inl b:=fun q=>e (Sum.inl.inj q)
  rw[decide_eq_false h]
  exact (beq_eq_false_iff_ne.mpr e).symm
theorem vE (a b:Str):decide ((Sum.inr a:Key)=Sum.inr b)=decide (a=b):=by
 by_cases e:a=b
 ·subst e;simp
 ·have h:¬ (Sum.inr a:Key)=Sum.inr b:=fun q=>e (Sum.inr.inj q)
  rw[decide_eq_false h,decide_eq_false e]
theorem vS (a:Int) (b:Str):decide ((Sum.inl a:Key)=Sum.inr b)=false:=decide_eq_false (fun q=>nomatch q)
theorem vG (a:Str) (b:Int):decide ((Sum.inr a:Key)=Sum.inl b)=false:=decide_eq_false (fun q=>nomatch q)
def nR (prog:yT) (w:World):PySem.KeyKind prog w Key where
 is:=uZ
 hash:=yt w
 inj:=fun v a b ha hb=>by
  rcases bG ha with ⟨i,t,rfl,rfl⟩ |⟨x,t,rfl,rfl⟩
  ·rcases bG hb with ⟨j,u,rfl,e⟩ |⟨y,u,rfl,e⟩
   ·injection e with e1 _;rw[e1]
   ·exact nomatch e
  ·rcases bG hb with ⟨j,u,rfl,e⟩ |⟨y,u,rfl,e⟩
   ·exact nomatch e
   ·injection e with e1 _;rw[e1]
 byValue:=fun k v h=>by
  rcases bG h with ⟨i,t,rfl,rfl⟩ |⟨x,t,rfl,rfl⟩ <;>rfl
 pyHash:=fun hv h=>by
  rcases bG hv with ⟨i,t,rfl,rfl⟩ |⟨x,t,rfl,rfl⟩
  ·exact wpAny_pyHash_int h
  ·exact wpAny_pyHash_str h
 eqBool:=fun hu hv h=>by
  rcases bG hu with ⟨i,t,rfl,rfl⟩ |⟨x,t,rfl,rfl⟩
  ·rcases bG hv with ⟨j,u,rfl,rfl⟩ |⟨y,u,rfl,rfl⟩
   ·rw[vQ] at h;exact wpAny_eqBool_int h
   ·rw[vS] at h;exact SeqAt.EqAt.int_str i t y u _ _ _ _ h
  ·rcases bG hv with ⟨j,u,rfl,rfl⟩ |⟨y,u,rfl,rfl⟩
   ·rw[vG] at h;exact SeqAt.EqAt.str_int x t j u _ _ _ _ h
   ·rw[vE] at h;exact wpAny_eqBool_str h
 «strs»:=fun k x t v h=>by
  rcases bG h with ⟨i,u,rfl,e⟩ |⟨y,u,rfl,e⟩
  ·exact nomatch e
  ·injection e with e1 _
   subst e1
   cases v <;>rfl
inductive V where
 |non |bl (b:Bool) |int (i:Int) |str (x:Str) |byt (b:Array UInt8) |flt (b:UInt64) |ref (a:Addr) |ty (n:String)
 deriving DecidableEq
def aR:V→Value→Prop
 | .non,u=>u=zl
 | .bl b,u=>u=zT b
 | .int i,u=>∃t,u=zR i t
 | .str x,u=>∃t,u=Ad x t
 | .byt b,u=>∃t,u=Value.bytes b t
 | .flt b,u=>∃t,u=HQ b t
 | .ref a,u=>u=zY a
 | .ty n,u=>u=AD n
abbrev aN:List V→List Value→Prop:=Paired aR
theorem aN.length {xs:List V}{us:List Value} (r:aN xs us):xs.length=us.length:=Paired.length r
theorem aN.get:∀{xs:List V}{us:List Value}{i:Nat}{x:V},aN xs us→xs[i]?=some x→∃u,us[i]?=some u∧aR x u
 |_,_,_,_,.nil,e=>by simp at e
 |_,_,0,_,.cons r _,e=>by simp at e;subst e;exact ⟨_,rfl,r⟩
 |_,_,i+1,x,.cons _ t,e=>by
  obtain ⟨u,h1,h2⟩:=aN.get (i:=i) (x:=x) t (by simpa using e)
  exact ⟨u,by simpa using h1,h2⟩
theorem aN.append:∀{xs ys:List V}{us ws:List Value},aN xs us→aN ys ws→aN (xs++ys) (us++ws)
 |_,_,_,_,.nil,s=>s
 |_,_,_,_,.cons r t,s=>.cons r (aN.append t s)
theorem aN.take:∀{xs:List V}{us:List Value} (n:Nat),aN xs us→aN (xs.take n) (us.take n)
 |_,_,0,_=>.nil
 |_,_,_+1,.nil=>.nil
 |_,_,n+1,.cons r t=>.cons r (aN.take n t)
theorem aN.drop:∀{xs:List V}{us:List Value} (n:Nat),aN xs us→aN (xs.drop n) (us.drop n)
 |_,_,0,r=>r
 |_,_,_+1,.nil=>.nil
 |_,_,n+1,.cons _ t=>aN.drop n t
def vL:Option V→Option Value→Prop
 |some v,some u=>aR v u
 |none,none=>True
 |_,_=>False
def KV {κ:Type}:List (κ×V)→List (κ×Value)→Prop:=Paired fun (p:κ×V) (q:κ×Value)=>p.1=q.1∧aR p.2 q.2
def kV:Key→V
 | .inl i=>.int i
 | .inr x=>.str x
inductive HO where
 /-- a list -/
 |lst (xs:List V)
 /-- a tuple (never changes) -/
 |tup (xs:List V)
 /-- a dict whose keys are ints and texts;one whose keys are tuples of ints and texts (the empty one is both) -/
 |dK (kvs:List (Key×V)) |dT (kvs:List (List Key×V))
 /-- a set of ints:its members,its size -/
 |set (S:Int→Bool) (n:Nat)
 /-- an instance of the class at C,its dict at dx,its attributes -/
 |ins (C dx:Addr) (fs:List (Str×V))
 /-- the dict of the instance at x -/
 |own (x:Addr)
 /-- the dict of an exception -/
 |xd (fs:List (Str×V))
 /-- a bound method,f of x -/
 |met (f x:Addr)
 /-- a range object lo,lo+1,.. below hi -/
 |rng (lo hi:Int)
 /-- a thing that is known to the object (the script;a dict while a loop walks it):read,never written while it is so -/
 |frz (o:Obj) (u:HO)
 /-- a code object's table -/
 |tbl (ps:Array Value)
 /-- any other thing,by what is true of its one object (a def of one's own:SetO a S n:=HO.ext fun h=>..) -/
 |ext (φ:Heap→Prop)
abbrev Hp:=Addr→Option HO
def upd (H:Hp) (a:Addr) (o:HO):Hp:=fun b=>if b=a then some o else H b
theorem aS {H:Hp}{a:Addr}{o:HO}:upd H a o a=some o:=by unfold upd;rw[if_pos rfl]
theorem aB {H:Hp}{a b:Addr}{o:HO} (h:b≠a):upd H a o b=H b:=by unfold upd;rw[if_neg h]
theorem bR {H:Hp}{a b:Addr}{o:HO} (h:H a=some o) (h':H b=none):a≠b:=by
 intro e;subst e;rw[h] at h';cases h'
def g_:Str:="to_form.<locals>.<lambda>"
def d8:List (Nat×Nat×Addr)→List Value
 |[]=>[]
 |t::ts=>BZ t.1::BZ t.2.1::.ref t.2.2::d8 ts
def t7 (H:Hp) (h:Heap) (a:Addr):Prop:=∃ts:List (Nat×Nat×Addr),h.get? a=some {cls:=.none,data:=.fields (d8 ts).toArray }∧∀t∈ts,∃oc u vs t',H t.2.2=some (.frz oc u)∧oc.data=.fields vs∧vs[1]?=some (.str g_ t')
section
variable (P:yT) (w:World)
def cg (H:Hp) (h:Heap) (a:Addr):HO→Prop
 | .lst xs=>xs.length≤sizeLine∧∃(its:List Value) (n:Nat),aN xs its∧h.get? a=some {cls:=.type "list",data:=.seq its.toArray n }
 | .tup xs=>xs.length≤sizeLine∧∃its:List Value,aN xs its∧IsTup h a its.toArray
 | .dK kvs=>kvs.length≤sizeLine∧(a==G9)=false∧∃vs,KV kvs vs∧h.DictOf (nR P w) a vs
 | .dT kvs=>kvs.length≤sizeLine∧(a==G9)=false∧∃xs:List (List Key×Addr×Value),
   Paired (fun (p:List Key×V) (q:List Key×Addr×Value)=>p.1=q.1∧H q.2.1=some (.tup (p.1.map kV))∧aR p.2 q.2.2) kvs xs∧
   ∃o es ep,h.get? a=some o∧o.ExactDict∧o.data=.dict es ep∧es.toList=xs.map (entryOfKey (Gk (nR P w)))∧(xs.map (·.1)).Nodup
 | .set S n=>h.SetOf (Bc P w) a S n
 | .ins C dx fs=>H dx=some (.own a)∧fs.length≤1000∧dx≠a∧h.get? a=some (Et C dx)∧
   ∃mA,h.Ns1 dx mA∧(∀f,vL (fs.lookup f) (mA f))∧HC mA (fs.map (·.1))
 | .own _=>∃o,h.get? a=some o
 | .xd fs=>∃mA,h.Ns1 a mA∧∀f,vL (fs.lookup f) (mA f)
 | .rng lo hi=>∃t u v,h.get? a=some {cls:=.type "range",data:=.fields #[.int lo t,.int hi u,.int 1 v] }
 | .frz o u=>h.get? a=some o∧cg H h a u
 | .tbl _=>t7 H h a
 | .met f x=>h.get? a=some (DL (.ref f) (.ref x))
 | .ext φ=>φ h∧(∃o,h.get? a=some o)∧∀h1 h2:Heap,φ h1→(∀o,h1.get? a=some o→h2.get? a=some o)→φ h2
def HOk (H:Hp) (h:Heap):Prop:=∀a o,H a=some o→cg P w H h a o
end
section
variable {P:yT}{w:World}{H H':Hp}{h h':Heap}{a:Addr}{o:HO}
theorem cg.lt (x:cg P w H h a o):a < h.objs.size:=by
 cases o with
 |lst xs=>obtain ⟨_,_,_,_,e⟩:=x;exact yQ e
 |tup xs=>obtain ⟨_,_,_,p⟩:=x;exact p.lt
 |dK kvs=>obtain ⟨_,_,_,_,o,_,_,e,_⟩:=x;exact yQ e
 |dT kvs=>obtain ⟨_,_,_,_,o,_,_,e,_⟩:=x;exact yQ e
 |set S n=>obtain ⟨o,_,_,_,e,_⟩:=x;exact yQ e
 |ins C dx fs=>obtain ⟨_,_,_,e,_⟩:=x;exact yQ e
 |own y=>obtain ⟨_,e⟩:=x;exact yQ e
 |xd fs=>obtain ⟨_,⟨_,_,_,e,_⟩,_⟩:=x;exact yQ e
 |rng lo hi=>obtain ⟨_,_,_,e⟩:=x;exact yQ e
 |frz ob u=>obtain ⟨e,_⟩:=x;exact yQ e
 |tbl ps=>obtain ⟨_,e,_⟩:=x;exact yQ e
 |met f y=>exact yQ (show h.get? a=some _ from x)
 |ext φ=>obtain ⟨_,⟨_,e⟩,_⟩:=x;exact yQ e
theorem Paired.mapP {α β:Type}{F G:α→β→Prop}:∀{l₁:List α}{l₂:List β},Paired F l₁ l₂→(∀a b,F a b→G a b)→Paired G l₁ l₂
 |_,_,.nil,_=>.nil
 |_,_,.cons r t,f=>.cons (f _ _ r) (Paired.mapP t f)
theorem cg.stay (x:cg P w H h a o) (k:∀b u,(b=a∨H b=some (.own a))→h.get? b=some u→h'.get? b=some u)
  (ho:∀b,H b=some (.own a)→H' b=some (.own a)) (hz:∀b o u,H b=some (.frz o u)→H' b=some (.frz o u)) (ht:∀b xs,H b=some (.tup xs)→H' b=some (.tup xs)):cg P w H' h' a o:=by
 induction o with
 |lst xs=>obtain ⟨z,its,n,r,e⟩:=x;exact ⟨z,its,n,r,k _ _ (.inl rfl) e⟩
 |tup xs=>obtain ⟨z,its,r,ob,e,c⟩:=x;exact ⟨z,its,r,ob,k _ _ (.inl rfl) e,c⟩
 |dK kvs=>obtain ⟨z,y,vs,r,ob,es,ep,e,c⟩:=x;exact ⟨z,y,vs,r,ob,es,ep,k _ _ (.inl rfl) e,c⟩
 |dT kvs=>
  obtain ⟨z,y,xs,r,ob,es,ep,e,c⟩:=x
  exact ⟨z,y,xs,Paired.mapP r fun p q z=>⟨z.1,ht _ _ z.2.1,z.2.2⟩,ob,es,ep,k _ _ (.inl rfl) e,c⟩
 |set S n=>obtain ⟨ob,es,ep,t,e,c⟩:=x;exact ⟨ob,es,ep,t,k _ _ (.inl rfl) e,c⟩
 |ins C dx fs=>
  obtain ⟨d,z,ne,e,mA,⟨od,es,ep,e2,c⟩,r⟩:=x
  exact ⟨ho _ d,z,ne,k _ _ (.inl rfl) e,mA,⟨od,es,ep,k _ _ (.inr d) e2,c⟩,r⟩
 |own y=>obtain ⟨ob,e⟩:=x;exact ⟨ob,k _ _ (.inl rfl) e⟩
 |xd fs=>obtain ⟨mA,⟨od,es,ep,e,c⟩,r⟩:=x;exact ⟨mA,⟨od,es,ep,k _ _ (.inl rfl) e,c⟩,r⟩
 |rng lo hi=>obtain ⟨t,u,v,e⟩:=x;exact ⟨t,u,v,k _ _ (.inl rfl) e⟩
 |frz ob u ih=>obtain ⟨e,q⟩:=x;exact ⟨k _ _ (.inl rfl) e,ih q⟩
 |tbl ps=>
  obtain ⟨ts,e,q⟩:=x
  refine ⟨ts,k a _ (.inl rfl) e,fun t ht=>?_⟩
  obtain ⟨oc,u,vs,t',h1,h2⟩:=q t ht
  exact ⟨oc,u,vs,t',hz _ _ _ h1,h2⟩
 |met f y=>
  have e:h.get? a=some (DL (.ref f) (.ref y)):=x
  show h'.get? a=some (DL (.ref f) (.ref y))
  exact k a _ (.inl rfl) e
 |ext φ=>obtain ⟨p,⟨o,e⟩,st⟩:=x;exact ⟨st _ _ p fun o q=>k _ _ (.inl rfl) q,⟨o,k _ _ (.inl rfl) e⟩,st⟩
theorem HOk.lt (x:HOk P w H h) (e:H a=some o):a < h.objs.size:=(x a o e).lt
theorem HOk.fresh (x:HOk P w H h) (e:h.objs.size≤a):H a=none:=by
 cases q:H a with
 |none=>rfl
 |some u=>exact absurd (za (x.lt q) e) (zO _)
theorem HOk.kept (x:HOk P w H h) (k:∀b u,h.get? b=some u→h'.get? b=some u):HOk P w H h':=fun a o e=>
 (x a o e).stay (fun b u _ q=>k b u q) (fun _ q=>q) (fun _ _ _ q=>q) fun _ _ q=>q
theorem HOk.laid (x:HOk P w H h) (k:∀b u,h.get? b=some u→h'.get? b=some u) (hp:h.objs.size≤a) (new:cg P w (upd H a o) h' a o):HOk P w (upd H a o) h':=fun b u e=>by
 have hn:=x.fresh hp
 by_cases hb:b=a
 ·subst hb;rw[aS] at e;cases e;exact new
 ·rw[aB hb] at e
  exact (x b u e).stay (fun c v _ q=>k c v q) (fun c q=>by rw[aB (bR q hn)];exact q) (fun c o' u' q=>by rw[aB (bR q hn)];exact q) fun c xs q=>by rw[aB (bR q hn)];exact q
end
def Rd (H:Hp) (a:Addr) (u:HO):Prop:=H a=some u∨∃o,H a=some (.frz o u)
theorem Rd.ok {P:yT}{w:World}{H:Hp}{h:Heap}{a:Addr}{u:HO} (r:Rd H a u) (x:HOk P w H h):cg P w H h a u:=by
 rcases r with r |⟨o,r⟩
 ·exact x a u r
 ·obtain ⟨_,q⟩:=x a _ r
  exact q
def Mut:Option HO→Prop
 |some (.lst _)=>True
 |some (.dK _)=>True
 |some (.dT _)=>True
 |some (.set _ _)=>True
 |some (.ins _ _ _)=>True
 |some (.ext _)=>True
 |_=>False
section
variable {P:yT}{w:World}{H:Hp}{h h':Heap}{x e:Addr}{o':HO}
theorem HOk.write (ok:HOk P w H h) (mu:Mut (H x)) (he:e=x∨H e=some (.own x)) (k:∀b u,b≠e→h.get? b=some u→h'.get? b=some u) (heo:∃u,h'.get? e=some u)
  (new:cg P w (upd H x o') h' x o'):HOk P w (upd H x o') h':=fun b u q=>by
 have nown:∀c y,H c=some (.own y)→c≠x:=fun c y r z=>by subst z;rw[r] at mu;exact mu
 have ntup:∀c xs,H c=some (.tup xs)→c≠x:=fun c xs r z=>by subst z;rw[r] at mu;exact mu
 by_cases hb:b=x
 ·subst hb;rw[aS] at q;cases q;exact new
 ·rw[aB hb] at q
  by_cases hbe:b=e
  ·have q':H b=some (.own x):=by
    rcases he with z |z
    ·exact absurd (hbe.trans z) hb
    ·rw[hbe];exact z
   rw[q] at q';cases q'
   obtain ⟨v,hv⟩:=heo
   exact ⟨v,by rw[hbe];exact hv⟩
  ·refine (ok b u q).stay (fun c v hc r=>k c v ?_ r) (fun c r=>by rw[aB (nown c b r)];exact r) (fun c o' u' r=>by rw[aB (fun z=>by subst z;rw[r] at mu;exact mu)];exact r) fun c xs r=>by rw[aB (ntup c xs r)];exact r
   rcases hc with rfl |hc
   ·exact hbe
   ·rintro rfl
    rcases he with z |z
    ·exact nown c b hc z
    ·rw[hc] at z;cases z;exact hb rfl
end
structure Un (fs ex:List Addr) (H H':Hp) (h h':Heap):Prop where
 keep:∀b o,h.get? b=some o→H b=none→b ∉ fs→b ∉ ex→h'.get? b=some o
 slot:∀b o,h.get? b=some o→H b=none→b∈fs→b ∉ ex→∃sl,h'.get? b=some {o with slots:=sl }
 free:∀b o,h.get? b=some o→H b=none→b ∉ ex→H' b=none
 there:∀b o,h.get? b=some o→b ∉ ex→∃o',h'.get? b=some o'
 tups:∀b xs,H b=some (.tup xs)→H' b=some (.tup xs)
 frzs:∀b o u,H b=some (.frz o u)→H' b=some (.frz o u)
 tbls:∀b ps,H b=some (.tbl ps)→∃more,H' b=some (.tbl (ps++more))
section
variable {fs fs' ex ex':List Addr}{H H1 H2:Hp}{h h1 h2 h':Heap}{a x e:Addr}{o:HO}
theorem Un.any (u:Un fs ex H H1 h h1) {b:Addr}{ob:Obj} (q:h.get? b=some ob) (n:H b=none) (hx:b ∉ ex):∃sl,h1.get? b=some {ob with slots:=sl }:=by
 by_cases hb:b∈fs
 ·exact u.slot b ob q n hb hx
 ·exact ⟨ob.slots,u.keep b ob q n hb hx⟩
theorem Un.kept (k:∀b u,h.get? b=some u→h'.get? b=some u):Un fs ex H H h h':=
 ⟨fun b ob q _ _ _=>k b ob q,fun b ob q _ _ _=>⟨ob.slots,k b ob q⟩,fun _ _ _ n _=>n,fun b ob q _=>⟨ob,k b ob q⟩,fun _ _ q=>q,fun _ _ _ q=>q,fun _ ps q=>⟨#[],by rw[q];simp⟩⟩
theorem Un.refl:Un fs ex H H h h:=Un.kept fun _ _ q=>q
theorem Un.laid (k:∀b u,h.get? b=some u→h'.get? b=some u) (hp:h.objs.size≤a) (hn:H a=none):Un fs ex H (upd H a o) h h' where
 keep:=fun b u q _ _ _=>k b u q
 slot:=fun b u q _ _ _=>⟨u.slots,k b u q⟩
 free:=fun b u q n _=>by rw[aB (zb (za (yQ q) hp))];exact n
 there:=fun b u q _=>⟨u,k b u q⟩
 tups:=fun b xs q=>by rw[aB (bR q hn)];exact q
 frzs:=fun b u xs q=>by rw[aB (bR q hn)];exact q
 tbls:=fun b ps q=>⟨#[],by rw[aB (bR q hn),q];simp⟩
theorem Un.write (mu:Mut (H x)) (he:e=x∨H e=some (.own x)) (k:∀b u,b≠e→h.get? b=some u→h'.get? b=some u) (heo:∃u,h'.get? e=some u):Un fs ex H (upd H x o) h h':=by
 have hx:∀b,H b=none→b≠x:=fun b n z=>by subst z;rw[n] at mu;exact mu
 have hb:∀b,H b=none→b≠e:=fun b n z=>by
  subst z
  rcases he with r |r
  ·exact hx b n r
  ·rw[n] at r;cases r
 have hm:∀b u,H b=some u→¬ Mut (some u)→b≠x:=fun b u q nm z=>by subst z;rw[q] at mu;exact nm mu
 refine ⟨fun b u q n _ _=>k b u (hb b n) q,fun b u q n _ _=>⟨u.slots,k b u (hb b n) q⟩,fun b u q n _=>by rw[aB (hx b n)];exact n,fun b u q _=>?_,
  fun b xs q=>by rw[aB (hm b _ q fun z=>z)];exact q,fun b u xs q=>by rw[aB (hm b _ q fun z=>z)];exact q,fun b ps q=>⟨#[],by rw[aB (hm b _ q fun z=>z),q];simp⟩⟩
 by_cases hbe:b=e
 ·subst hbe;exact heo
 ·exact ⟨u,k b u hbe q⟩
end
def trk (h:Heap) (H:Hp):List Addr:=(zS h.objs.size).filter fun a=>(H a).isSome
def je (h:Heap) (H:Hp):Heap:=PySem.W.hideAll h (trk h H)
theorem o9 (h:Heap) (H:Hp):(je h H).objs.size=h.objs.size:=PySem.W.hideAll_size _ _
theorem rR {h:Heap}{H:Hp}{b:Addr}{o:Obj} (e:h.get? b=some o) (n:H b=none):(je h H).get? b=some o:=
 PySem.W.hideAll_get _ e fun hm=>by
  have q:(H b).isSome=true:=(Ay.mp hm).2
  rw[n] at q;simp at q
theorem n6 {h:Heap}{H:Hp}{b:Addr}{o:Obj} (e:(je h H).get? b=some o):h.get? b=some o∧H b=none:=by
 have e':h.get? b=some o:=PySem.W.of_hideAll (trk h H) e
 refine ⟨e',?_⟩
 cases q:H b with
 |none=>rfl
 |some x=>
  have hm:b∈trk h H:=Ay.mpr ⟨zK.mpr (yQ e'),by simp[q]⟩
  have z:(je h H).get? b=none:=PySem.W.hideAll_none (trk h H) hm
  rw[z] at e;cases e
def sY (g h:Heap) (L:Addr):List (Addr×Obj):=(zS h.objs.size).filterMap fun a=>if a=L∨(g.get? a).isSome=true then none else (h.get? a).map fun o=>(a,o)
def rest (g h:Heap) (L d:Addr):List (Addr×Obj):=(sY g h L).filter fun p=>decide (p.1≠d)
structure Mod (K:yH) (mg:Str→Option Value) (base:Heap):Prop where
 kin:K.In base
 glob:base.Ns yY mg
 blt:∃mb,base.Ns CQ mb∧∀x:Str,x≠"__name__"→mb x=A3 x
 nolimit:base.NoLimit
structure Cx where
 prog:yT
 w:World
 K:yH
 mg:Str→Option Value
 base:Heap
 A:zh
 N:List Str
 s₀:yI
 H₀:Hp
 env:Env
 outer:List Env
 stack:List Env
 ex:List Addr
 fn:Str→Bool
 calm:Bool
 pn:List (Addr×Obj)
 xe:Value→yI→Prop
def frs (l:List Env):List Addr:=l.filterMap (·.frame)
abbrev Cx.fs (X:Cx):List Addr:=frs X.outer
def Vis (sc:Scope) (x:Str):Prop:=sc.names.lookup x=some .local∨sc.names.lookup x=some .cell∨sc.names.lookup x=some .free
def Loc (sc:Scope) (x:Str):Prop:=sc.names.lookup x=some .local∨sc.names.lookup x=some .cell
def yb (env:Env) (h:Heap) (m:Str→Option Value) (x:Str) (u:Value):Prop:=
 (env.kindOf x=some .local∧m x=some u)∨((env.kindOf x=some .cell∨env.kindOf x=some .free)∧∃c,env.cells.lookup x=some c∧h.IsCell c (some u))
def Amb (mg:Str→Option Value) (base:Heap) (H:Hp):Prop:=∀f o fd c oc vs P,mg "to_form"=some (.ref f)→base.get? f=some o→o.data=.func fd→fd.code=.ref c→base.get? c=some oc→oc.data=.fields vs→vs.getD 11 .none=.ref P→∃ps,H P=some (.tbl ps)
structure Frf (mg:Str→Option Value) (base:Heap) (fs:List Addr) (H:Hp):Prop where
 fr:∀b∈fs,H b=none
 amb:Amb mg base H
structure Cx.Ok (X:Cx):Prop where
 mod:Mod X.K X.mg X.base
 kind:X.env.scope.kind=.function
 glob:X.env.globals=yY
 blt:X.env.builtins=CQ
 above:X.s₀.heap.objs.size≤X.env.locals
 inj:∀x y c,X.env.cells.lookup x=some c→X.env.cells.lookup y=some c→x=y
 has:∀x,(X.env.kindOf x=some .cell∨X.env.kindOf x=some .free)→∃c,X.env.cells.lookup x=some c
 cab:∀x c,X.fn x=true→X.env.cells.lookup x=some c→X.s₀.heap.objs.size≤c
 hd:X.calm=true→X.A.handled=none
 frames:X.A.frames=some X.stack
 stk:X.stack=X.outer∨(X.stack=X.env::X.outer∧X.env.frame=some X.env.locals)
 exf:∀b∈X.ex,b≠X.env.locals∧∀x c,X.env.cells.lookup x=some c→c≠b
 bs:∀b o,X.base.get? b=some o→X.s₀.heap.get? b=some o∧X.H₀ b=none
 bsz:X.base.objs.size≤X.s₀.heap.objs.size
 noex:∀b o,X.base.get? b=some o→b ∉ X.ex
 exfs:∀b∈X.ex,b ∉ X.fs
 funs:X.s₀.heap.FunFrames X.base X.outer
 frf:Frf X.mg X.base X.fs X.H₀
structure Inv (X:Cx) (pins:List (Addr×Obj)) (σ:List (Option V)) (H:Hp) (s:yI):Prop where
 ok:X.Ok
 os:s.os=X.s₀.os
 bare:D0 s.gens
 base:Un X.fs X.ex X.H₀ H X.s₀.heap s.heap
 loc:∃m,s.heap.Ns X.env.locals m∧∀(i:Nat) (x:Str) (v:V),X.N[i]?=some x→σ[i]?=some (some v)→Vis X.env.scope x→∃u,aR v u∧yb X.env s.heap m x u
 cell:∀x c,X.env.cells.lookup x=some c→∃v,s.heap.IsCell c v
 free:H X.env.locals=none
 freeC:∀x c,X.env.cells.lookup x=some c→H c=none
 pin:∀p∈X.pn++pins,s.heap.get? p.1=some p.2∧H p.1=none∧p.1≠X.env.locals∧p.1 ∉ X.fs∧∀v,p.2.data≠.cell v
 hok:HOk X.prog X.w H s.heap
 len:σ.length=X.N.length
section
variable {X:Cx}{pins:List (Addr×Obj)}{σ:List (Option V)}{H H':Hp}{s:yI}{h':Heap}
theorem Cx.Ok.nofr (ok:X.Ok) {b:Addr}{o:Obj} (e:X.base.get? b=some o):b ∉ X.fs:=fun hb=>by
 have:=(ok.funs.mem hb).1
 rw[e] at this;cases this
theorem Inv.bs (I:Inv X pins σ H s):∀b o,X.base.get? b=some o→s.heap.get? b=some o∧H b=none:=fun b o e=>
 ⟨I.base.keep b o (I.ok.bs b o e).1 (I.ok.bs b o e).2 (I.ok.nofr e) (I.ok.noex b o e),I.base.free b o (I.ok.bs b o e).1 (I.ok.bs b o e).2 (I.ok.noex b o e)⟩
theorem Inv.bk (I:Inv X pins σ H s):∀b o,X.base.get? b=some o→s.heap.get? b=some o:=fun b o e=>(I.bs b o e).1
theorem Inv.mod (I:Inv X pins σ H s):Mod X.K X.mg X.base:=I.ok.mod
theorem Inv.kIn (I:Inv X pins σ H s):X.K.In s.heap:=I.ok.mod.kin.keeps I.bk
theorem Inv.nolimit (I:Inv X pins σ H s):s.heap.NoLimit:=I.ok.mod.nolimit.keeps I.bk
theorem Inv.lt (I:Inv X pins σ H s):X.env.locals < s.heap.objs.size:=let ⟨_,hn,_⟩:=I.loc;hn.lt
theorem Inv.sz (I:Inv X pins σ H s):X.s₀.heap.objs.size≤s.heap.objs.size:=AH I.ok.above (Af I.lt)
theorem Inv.nofs (I:Inv X pins σ H s) {a:Addr} (h:s.heap.objs.size≤a):a ∉ X.fs:=fun hb=>by
 obtain ⟨_,o,ho,_⟩:=I.ok.funs.mem hb
 exact absurd (za (yQ ho) (AH I.sz h)) (zO _)
theorem Inv.cne (I:Inv X pins σ H s):∀x c,X.env.cells.lookup x=some c→c≠X.env.locals:=fun x c e z=>by
 obtain ⟨v,o,ho,hd⟩:=I.cell x c e
 obtain ⟨m,⟨o',es,ep,ho',hd',_⟩,_⟩:=I.loc
 rw[z,ho'] at ho;cases ho;rw[hd'] at hd;cases hd
theorem Inv.funs (I:Inv X pins σ H s):s.heap.FunFrames X.base X.outer:=by
 have all:∀(l:List Env),(∀b∈frs l,b∈X.fs)→X.s₀.heap.FunFrames X.base l→s.heap.FunFrames X.base l:=by
  intro l
  induction l with
  |nil=>intro _ _;trivial
  |cons env r ih=>
   intro hs hl
   obtain ⟨hk,⟨L,o,hf,hn,ho,hd⟩,hr⟩:=hl
   have hL:L∈X.fs:=hs L (by unfold frs;rw[AO,hf];exact yV)
   obtain ⟨sl,e⟩:=I.base.slot L o ho (I.ok.frf.fr L hL) hL fun z=>I.ok.exfs L z hL
   exact ⟨hk,⟨L,_,hf,hn,e,hd⟩,ih (fun b hb=>hs b (by unfold frs;rw[AO,hf];exact yM _ hb)) hr⟩
 exact all X.outer (fun _ hb=>hb) I.ok.funs
theorem Inv.stack (I:Inv X pins σ H s):s.heap.FunFrames X.base X.stack:=by
 rcases I.ok.stk with e |⟨e,hf⟩
 ·rw[e];exact I.funs
 ·rw[e]
  obtain ⟨m,hn,_⟩:=I.loc
  refine .cons (by rw[I.ok.kind];decide) hf hn ?_ I.funs
  exact Heap.get?_none_of_le (AH I.ok.bsz I.ok.above)
theorem Inv.stkSub (I:Inv X pins σ H s):∀b∈frs X.stack,b∈X.env.locals::X.fs:=fun b hb=>by
 rcases I.ok.stk with e |⟨e,hf⟩
 ·rw[e] at hb;exact yM _ hb
 ·rw[e] at hb
  unfold frs at hb
  rw[AO,hf] at hb
  exact hb
theorem Inv.amb (I:Inv X pins σ H s):Amb X.mg X.base H:=fun f o fd c oc vs P h1 h2 h3 h4 h5 h6 h7=>by
 obtain ⟨ps,e⟩:=I.ok.frf.amb f o fd c oc vs P h1 h2 h3 h4 h5 h6 h7
 obtain ⟨m,q⟩:=I.base.tbls P ps e
 exact ⟨_,q⟩
theorem Inv.stkFree (I:Inv X pins σ H s):∀b∈frs X.stack,H b=none:=fun b hb=>by
 rcases yP.mp (I.stkSub b hb) with e |hb
 ·rw[e];exact I.free
 ·obtain ⟨_,o,ho,_⟩:=I.ok.funs.mem hb
  exact I.base.free b o ho (I.ok.frf.fr b hb) fun z=>I.ok.exfs b z hb
theorem Inv.step {g':Array B9}{t':Nat}{d':Drawn}{ch:List Addr} (I:Inv X pins σ H s)
  (hch:∀b∈ch,(b∈X.ex∨X.s₀.heap.objs.size≤b)∧b≠X.env.locals∧(∀x c,X.env.cells.lookup x=some c→c≠b)∧∀p∈X.pn++pins,p.1≠b)
  (keep:∀b o,b≠X.env.locals→b ∉ X.fs→b ∉ ch→s.heap.get? b=some o→H b=none→h'.get? b=some o)
  (slot:∀b o,b≠X.env.locals→b∈X.fs→b ∉ ch→s.heap.get? b=some o→H b=none→∃sl,h'.get? b=some {o with slots:=sl }) (free:∀b o,b ∉ ch→s.heap.get? b=some o→H b=none→H' b=none)
  (there:∀b o,b ∉ ch→s.heap.get? b=some o→∃o',h'.get? b=some o')
  (tups:∀b xs,H b=some (.tup xs)→H' b=some (.tup xs)) (frzs:∀b o u,H b=some (.frz o u)→H' b=some (.frz o u)) (tbls:∀b ps,H b=some (.tbl ps)→∃more,H' b=some (.tbl (ps++more)))
  (ns:∀m,s.heap.Ns X.env.locals m→h'.Ns X.env.locals m) (hok:HOk X.prog X.w H' h') (hg:D0 g'):
  Inv X pins σ H' {s with heap:=h',gens:=g',drawn:=d',toks:=t' }:=by
 have neL:∀b o,X.s₀.heap.get? b=some o→b≠X.env.locals:=fun b o e=>zb (za (yQ e) I.ok.above)
 have neC:∀b o,X.s₀.heap.get? b=some o→b ∉ X.ex→b ∉ ch:=fun b o e hx hb=>by
  rcases (hch b hb).1 with z |z
  ·exact hx z
  ·exact absurd (za (yQ e) z) (zO _)
 have cellK:∀x c,X.env.cells.lookup x=some c→∀v,s.heap.IsCell c v→h'.IsCell c v:=fun x c e v ⟨o,ho,hd⟩=>by
  have nch:c ∉ ch:=fun z=>(hch c z).2.2.1 x c e rfl
  by_cases hc:c∈X.fs
  ·obtain ⟨sl,q⟩:=slot c o (I.cne x c e) hc nch ho (I.freeC x c e)
   exact ⟨_,q,hd⟩
  ·exact ⟨o,keep c o (I.cne x c e) hc nch ho (I.freeC x c e),hd⟩
 refine ⟨I.ok,I.os,hg,⟨fun b o e n hb hx=>?_,fun b o e n hb hx=>?_,fun b o e n hx=>?_,fun b o e hx=>?_,fun b xs e=>tups b xs (I.base.tups b xs e),fun b o xs e=>frzs b o xs (I.base.frzs b o xs e),fun b ps e=>?_⟩,?_,fun x c e=>?_,?_,fun x c e=>?_,fun p hp=>?_,hok,I.len⟩
 ·exact keep b o (neL b o e) hb (neC b o e hx) (I.base.keep b o e n hb hx) (I.base.free b o e n hx)
 ·obtain ⟨sl,e1⟩:=I.base.slot b o e n hb hx
  obtain ⟨sl',e2⟩:=slot b _ (neL b o e) hb (neC b o e hx) e1 (I.base.free b o e n hx)
  exact ⟨sl',e2⟩
 ·obtain ⟨o',e1⟩:=I.base.there b o e hx
  exact free b o' (neC b o e hx) e1 (I.base.free b o e n hx)
 ·obtain ⟨o',e1⟩:=I.base.there b o e hx
  exact there b o' (neC b o e hx) e1
 ·obtain ⟨m1,e1⟩:=I.base.tbls b ps e
  obtain ⟨m2,e2⟩:=tbls b _ e1
  exact ⟨m1++m2,by rw[e2,Array.append_assoc]⟩
 ·obtain ⟨m,hn,hl⟩:=I.loc
  refine ⟨m,ns m hn,fun i x v e1 e2 e3=>?_⟩
  obtain ⟨u,r,l⟩:=hl i x v e1 e2 e3
  refine ⟨u,r,?_⟩
  rcases l with l |⟨k,c,e,z⟩
  ·exact .inl l
  ·exact .inr ⟨k,c,e,cellK x c e _ z⟩
 ·obtain ⟨v,z⟩:=I.cell x c e
  exact ⟨v,cellK x c e v z⟩
 ·obtain ⟨m,⟨o,_,_,ho,_⟩,_⟩:=I.loc
  exact free _ o (fun z=>(hch _ z).2.1 rfl) ho I.free
 ·obtain ⟨v,o,ho,hd⟩:=I.cell x c e
  exact free c o (fun z=>(hch c z).2.2.1 x c e rfl) ho (I.freeC x c e)
 ·obtain ⟨e,n,ne,nf,d⟩:=I.pin p hp
  have nch:p.1 ∉ ch:=fun z=>(hch p.1 z).2.2.2 p hp rfl
  exact ⟨keep p.1 p.2 ne nf nch e n,free p.1 p.2 nch e n,ne,nf,d⟩
theorem Inv.un {t':Nat} (I:Inv X pins σ H s) (u:Un X.fs [] H H' s.heap h') (hok:HOk X.prog X.w H' h'):Inv X pins σ H' {s with heap:=h',toks:=t' }:=by
 obtain ⟨m,⟨o,es,ep,ho,r⟩,_⟩:=id I.loc
 obtain ⟨sl,hL⟩:=u.any ho I.free (by simp)
 exact I.step (g':=s.gens) (d':=s.drawn) (ch:=[]) (fun _ z=>nomatch z) (fun b o _ hb _ e n=>u.keep b o e n hb (by simp)) (fun b o _ hb _ e n=>u.slot b o e n hb (by simp)) (fun b o _ e n=>u.free b o e n (by simp)) (fun b o _ e=>u.there b o e (by simp)) u.tups u.frzs u.tbls (fun m' hm=>by
  obtain ⟨o',es',ep',ho',r'⟩:=hm
  rw[ho] at ho';cases ho'
  exact ⟨_,es',ep',hL,r'⟩) hok I.bare
theorem Inv.call {g':Array B9}{t':Nat}{d':Drawn}{ch:List Addr} (I:Inv X pins σ H s) (u:Un (frs X.stack) ch H H' s.heap h') (hok:HOk X.prog X.w H' h') (hg:D0 g')
  (hch:∀b∈ch,(b∈X.ex∨X.s₀.heap.objs.size≤b)∧b≠X.env.locals∧(∀x c,X.env.cells.lookup x=some c→c≠b)∧∀p∈X.pn++pins,p.1≠b):
  Inv X pins σ H' {s with heap:=h',gens:=g',drawn:=d',toks:=t' }:=by
 obtain ⟨m,⟨o,es,ep,ho,r⟩,_⟩:=id I.loc
 obtain ⟨sl,hL⟩:=u.any ho I.free fun z=>(hch _ z).2.1 rfl
 exact I.step (ch:=ch) hch (fun b o hL hb hc e n=>u.keep b o e n (fun z=>(yP.mp (I.stkSub b z)).elim hL hb) hc) (fun b o _ _ hc e n=>u.any e n hc) (fun b o hc e n=>u.free b o e n hc) (fun b o hc e=>u.there b o e hc) u.tups u.frzs u.tbls (fun m' hm=>by
  obtain ⟨o',es',ep',ho',r'⟩:=hm
  rw[ho] at ho';cases ho'
  exact ⟨_,es',ep',hL,r'⟩) hok hg
theorem Inv.turned {t':Nat}{it:Addr} (I:Inv X pins σ H s) (k:∀b o,b≠it→s.heap.get? b=some o→h'.get? b=some o) (hn:H it=none) (hL:it≠X.env.locals)
  (h1:it∈X.ex∨X.s₀.heap.objs.size≤it) (h2:∀x c,X.env.cells.lookup x=some c→c≠it) (h3:∀p∈X.pn++pins,p.1≠it):Inv X pins σ H {s with heap:=h',toks:=t' }:=by
 have nit:∀b u,H b=some u→b≠it:=fun b u e z=>by rw[z,hn] at e;cases e
 refine I.step (g':=s.gens) (d':=s.drawn) (ch:=[it]) (fun b hb=>?_) (fun b o _ _ hc e _=>k b o (fun z=>hc (by simp[z])) e) (fun b o _ _ hc e _=>⟨o.slots,k b o (fun z=>hc (by simp[z])) e⟩) (fun _ _ _ _ n=>n)
  (fun b o hc e=>⟨o,k b o (fun z=>hc (by simp[z])) e⟩) (fun _ _ e=>e) (fun _ _ _ e=>e) (fun b ps e=>⟨#[],by rw[e];simp⟩) (fun m hm=>?_) (fun b u e=>?_) I.bare
 ·have e:b=it:=by simpa using hb
  subst e
  exact ⟨h1,hL,h2,h3⟩
 ·obtain ⟨o,es,ep,ho,r⟩:=hm
  exact ⟨o,es,ep,k _ o (Ne.symm hL) ho,r⟩
 ·refine (I.hok b u e).stay (fun c v hc q=>k c v ?_ q) (fun _ q=>q) (fun _ _ _ q=>q) fun _ _ q=>q
  rcases hc with z |z
  ·rw[z];exact nit b u e
  ·exact nit c _ z
theorem Inv.tok (I:Inv X pins σ H s) (t:Nat):Inv X pins σ H {s with toks:=t }:=I.un (h':=s.heap) (t':=t) Un.refl I.hok
theorem Inv.kept {t':Nat} (I:Inv X pins σ H s) (k:∀b u,s.heap.get? b=some u→h'.get? b=some u):Inv X pins σ H {s with heap:=h',toks:=t' }:=I.un (Un.kept k) (I.hok.kept k)
theorem Inv.laid {a:Addr}{o:HO}{t':Nat} (I:Inv X pins σ H s) (k:∀b u,s.heap.get? b=some u→h'.get? b=some u) (hp:s.heap.objs.size≤a) (new:cg X.prog X.w (upd H a o) h' a o):
  Inv X pins σ (upd H a o) {s with heap:=h',toks:=t' }:=I.un (Un.laid k hp (I.hok.fresh hp)) (I.hok.laid k hp new)
theorem Inv.write {x e:Addr}{o:HO}{t':Nat} (I:Inv X pins σ H s) (mu:Mut (H x)) (he:e=x∨H e=some (.own x)) (k:∀b u,b≠e→s.heap.get? b=some u→h'.get? b=some u) (heo:∃u,h'.get? e=some u)
  (new:cg X.prog X.w (upd H x o) h' x o):Inv X pins σ (upd H x o) {s with heap:=h',toks:=t' }:=I.un (Un.write mu he k heo) (I.hok.write mu he k heo new)
theorem Inv.weak {σ':List (Option V)} (I:Inv X pins σ H s) (hl:σ'.length=σ.length) (w:∀(i:Nat) v,σ'[i]?=some (some v)→σ[i]?=some (some v)):Inv X pins σ' H s:=
 ⟨I.ok,I.os,I.bare,I.base,let ⟨m,hn,hl'⟩:=I.loc;⟨m,hn,fun i x v e1 e2 e3=>hl' i x v e1 (w i v e2) e3⟩,I.cell,I.free,I.freeC,I.pin,I.hok,hl.trans I.len⟩
theorem Inv.pins_of {pins':List (Addr×Obj)} (I:Inv X pins σ H s) (h:∀p∈pins',s.heap.get? p.1=some p.2∧H p.1=none∧p.1≠X.env.locals∧p.1 ∉ X.fs∧∀v,p.2.data≠.cell v):Inv X pins' σ H s:=
 ⟨I.ok,I.os,I.bare,I.base,I.loc,I.cell,I.free,I.freeC,fun p hp=>(AY.mp hp).elim (fun z=>I.pin p (Ak _ z)) (h p),I.hok,I.len⟩
theorem lG {N:List Str} (hN:N.Nodup) {i j:Nat}{x:Str} (a:N[i]?=some x) (b:N[j]?=some x):i=j:=by
 obtain ⟨h1,e1⟩:=yU.mp a
 obtain ⟨h2,e2⟩:=yU.mp b
 exact (Dc hN).mp (e1.trans e2.symm)
theorem oE {M:Model}{A:zh}{E:Value→yI→Prop}{i:Nat}{x:Str}{v:V}{u:Value}{Q:Unit→yI→Prop} (I:Inv X pins σ H s) (hN:X.N.Nodup) (hi:X.N[i]?=some x) (hx:Loc X.env.scope x) (r:aR v u)
  (h:∀s',Inv X pins (σ.set i (some v)) H s'→(∃a,Cs a s.heap s'.heap∧(a=X.env.locals∨X.env.cells.lookup x=some a))→Q () s') (hf:X.fn x=true∨X.env.scope.names.lookup x=some .local:=by first |exact .inl rfl |exact .inr rfl |assumption):wpAny M A (storeName X.env x u) Q E s:=by
 obtain ⟨m,hn,hl⟩:=id I.loc
 have hcls:(X.env.scope.kind==.class || (X.env.scope.kind==.module && X.env.locals !=X.env.globals))=false:=by rw[I.ok.kind];rfl
 have hiσ:i < σ.length:=by rw[I.len];exact (yU.mp hi).1
 have cne:=I.cne
 have tracked:∀{a:Addr}{h':Heap},(∃o,s.heap.get? a=some o∧H a=none)→Cs a s.heap h'→HOk X.prog X.w H h':=fun {a h'} ha hs b ob e=>by
  obtain ⟨_,_,hfree⟩:=ha
  refine (I.hok b ob e).stay (fun c w' hc q=>(hs.2 c ?_).trans q) (fun _ q=>q) (fun _ _ _ q=>q) fun _ _ q=>q
  rintro rfl
  rcases hc with rfl |hc
  ·rw[hfree] at e;cases e
  ·rw[hfree] at hc;cases hc
 rcases hx with hk |hk
 ·refine wpAny_storeName_local hk hn (fun h' hn' hs=>?_) hcls
  obtain ⟨oL,_,_,hoL,_⟩:=id hn
  refine h _ ⟨I.ok,I.os,I.bare,⟨fun b o e n hb hx=>?_,fun b o e n hb hx=>?_,I.base.free,fun b o e hx=>?_,I.base.tups,I.base.frzs,I.base.tbls⟩,⟨_,hn',fun j y v' e1 e2 e3=>?_⟩,fun y c e=>?_,I.free,I.freeC,fun p hp=>?_,tracked ⟨oL,hoL,I.free⟩ hs,by simpa using I.len⟩ ⟨_,hs,.inl rfl⟩
  ·exact (hs.2 b (zb (za (yQ e) I.ok.above))).trans (I.base.keep b o e n hb hx)
  ·obtain ⟨sl,e1⟩:=I.base.slot b o e n hb hx
   exact ⟨sl,(hs.2 b (zb (za (yQ e) I.ok.above))).trans e1⟩
  ·obtain ⟨o',e1⟩:=I.base.there b o e hx
   exact ⟨o',(hs.2 b (zb (za (yQ e) I.ok.above))).trans e1⟩
  ·by_cases hj:j=i
   ·subst hj
    rw[hi] at e1;cases e1
    rw[Ej hiσ] at e2
    cases e2
    exact ⟨u,r,.inl ⟨hk,by simp⟩⟩
   ·rw[zI (Ne.symm hj)] at e2
    obtain ⟨u',r',q⟩:=hl j y v' e1 e2 e3
    refine ⟨u',r',?_⟩
    rcases q with ⟨k,e⟩ |⟨k,c,e,z⟩
    ·refine .inl ⟨k,?_⟩
     have:y≠x:=fun e=>hj (lG hN e1 (e ▸ hi))
     simp[this,e]
    ·exact .inr ⟨k,c,e,z.sameBut hs (cne y c e)⟩
  ·obtain ⟨w',z⟩:=I.cell y c e
   exact ⟨w',z.sameBut hs (cne y c e)⟩
  ·obtain ⟨e,n,ne,nf,d⟩:=I.pin p hp
   exact ⟨(hs.2 p.1 ne).trans e,n,ne,nf,d⟩
 ·have hfn:X.fn x=true:=by
   rcases hf with z |z
   ·exact z
   ·rw[z] at hk;cases hk
  obtain ⟨c,hc⟩:=I.ok.has x (.inl hk)
  obtain ⟨w',z⟩:=I.cell x c hc
  refine wpAny_storeName_cell I.ok.kind hk hc z (fun h' hc' hs=>?_)
  obtain ⟨oc,hoc,hocd⟩:=id z
  refine h {s with heap:=h' } ⟨I.ok,I.os,I.bare,⟨fun b o e n hb hx=>?_,fun b o e n hb hx=>?_,I.base.free,fun b o e hx=>?_,I.base.tups,I.base.frzs,I.base.tbls⟩,⟨m,hn.sameBut hs (Ne.symm (cne x c hc)),fun j y v' e1 e2 e3=>?_⟩,fun y c' e=>?_,I.free,I.freeC,fun p hp=>?_,tracked ⟨oc,hoc,I.freeC x c hc⟩ hs,by simpa using I.len⟩ ⟨c,hs,.inr hc⟩
  ·exact (hs.2 b (zb (za (yQ e) (I.ok.cab x c hfn hc)))).trans (I.base.keep b o e n hb hx)
  ·obtain ⟨sl,e1⟩:=I.base.slot b o e n hb hx
   exact ⟨sl,(hs.2 b (zb (za (yQ e) (I.ok.cab x c hfn hc)))).trans e1⟩
  ·obtain ⟨o',e1⟩:=I.base.there b o e hx
   exact ⟨o',(hs.2 b (zb (za (yQ e) (I.ok.cab x c hfn hc)))).trans e1⟩
  ·by_cases hj:j=i
   ·subst hj
    rw[hi] at e1;cases e1
    rw[Ej hiσ] at e2
    cases e2
    exact ⟨u,r,.inr ⟨.inl hk,c,hc,hc'⟩⟩
   ·rw[zI (Ne.symm hj)] at e2
    obtain ⟨u',r',q⟩:=hl j y v' e1 e2 e3
    refine ⟨u',r',?_⟩
    rcases q with q |⟨k,c',e,z'⟩
    ·exact .inl q
    ·refine .inr ⟨k,c',e,z'.sameBut hs ?_⟩
     rintro rfl
     exact hj (lG hN e1 (I.ok.inj _ _ _ e hc ▸ hi))
  ·by_cases hcc:c'=c
   ·subst hcc;exact ⟨_,hc'⟩
   ·obtain ⟨w2,z2⟩:=I.cell y c' e
    exact ⟨w2,z2.sameBut hs hcc⟩
  ·obtain ⟨e,n,ne,nf,d⟩:=I.pin p hp
   refine ⟨(hs.2 p.1 ?_).trans e,n,ne,nf,d⟩
   intro q
   rw[q,hoc] at e
   have q':oc=p.2:=zU e
   exact d w' (by rw[←q'];exact hocd)
theorem gu {M:Model}{A:zh}{E:Value→yI→Prop}{i:Nat}{x:Str}{v:V}{u:Value}{Q:Unit→yI→Prop} (I:Inv X pins σ H s) (hN:X.N.Nodup) (hi:X.N[i]?=some x) (hx:Loc X.env.scope x) (r:aR v u)
  (h:∀s',Inv X pins (σ.set i (some v)) H s'→Q () s') (hf:X.fn x=true∨X.env.scope.names.lookup x=some .local:=by first |exact .inl rfl |exact .inr rfl |assumption):wpAny M A (storeName X.env x u) Q E s:=
 oE I hN hi hx r (fun s' I' _=>h s' I') hf
theorem Inv.call' {s':yI}{ch:List Addr} (I:Inv X pins σ H s) (ho:s'.os=s.os) (u:Un (frs X.stack) ch H H' s.heap s'.heap) (hok:HOk X.prog X.w H' s'.heap) (hg:D0 s'.gens)
  (hch:∀b∈ch,(b∈X.ex∨X.s₀.heap.objs.size≤b)∧b≠X.env.locals∧(∀x c,X.env.cells.lookup x=some c→c≠b)∧∀p∈X.pn++pins,p.1≠b):Inv X pins σ H' s':=by
 obtain ⟨h',g',d',t',o'⟩:=s'
 have e:o'=s.os:=ho
 subst e
 exact I.call (g':=g') (t':=t') (d':=d') u hok hg hch
end
abbrev XK:=Value→Option Addr→Hp→Prop
abbrev St:=List (Option V)
abbrev VK:=V→Hp→Prop
abbrev TE:=St→Hp→VK→Prop
abbrev TT:=St→Hp→(Bool→Hp→Prop)→Prop
abbrev TA:=St→Hp→(List V→Hp→Prop)→Prop
structure ka where
 nx:St→Hp→Prop
 rt:VK
 bk:St→Hp→Prop:=fun _ _=>False
 ct:St→Hp→Prop:=fun _ _=>False
abbrev TS:=ka→St→Hp→Prop
def EP (X:Cx) (pins:List (Addr×Obj)) (σ:St) (Q:VK) (u:Value) (s':yI):Prop:=∃v H',Inv X pins σ H' s'∧aR v u∧Q v H'
def TP (X:Cx) (pins:List (Addr×Obj)) (σ:St) (Q:Bool→Hp→Prop) (b:Bool) (s':yI):Prop:=∃H',Inv X pins σ H' s'∧Q b H'
def AP (X:Cx) (pins:List (Addr×Obj)) (σ:St) (Q:List V→Hp→Prop) (us:List Value) (s':yI):Prop:=∃vs H',Inv X pins σ H' s'∧aN vs us∧Q vs H'
def SP (X:Cx) (pins:List (Addr×Obj)) (D:ka) (f:Flow) (s':yI):Prop:=
 match f with
 | .next=>∃σ' H',Inv X pins σ' H' s'∧D.nx σ' H'
 | .brk=>∃σ' H',Inv X pins σ' H' s'∧D.bk σ' H'
 | .cont=>∃σ' H',Inv X pins σ' H' s'∧D.ct σ' H'
 | .ret u=>∃v σ' H',Inv X pins σ' H' s'∧aR v u∧D.rt v H'
def PE (X:Cx) (e:Expr) (t:TE):Prop:=
 ∀(pins:List (Addr×Obj)) (s:yI) (σ:St) (H:Hp) (Q:VK),Inv X pins σ H s→t σ H Q→wpAny (model X.prog X.w) X.A (eval e X.env) (EP X pins σ Q) X.xe s
def PT (X:Cx) (e:Expr) (t:TT):Prop:=
 ∀(pins:List (Addr×Obj)) (s:yI) (σ:St) (H:Hp) (Q:Bool→Hp→Prop),Inv X pins σ H s→t σ H Q→wpAny (model X.prog X.w) X.A (isTrue e X.env (eval e X.env)) (TP X pins σ Q) X.xe s
def PW (X:Cx) (e:Expr) (t:TT):Prop:=
 ∀(whole:Sem Value) (pins:List (Addr×Obj)) (s:yI) (σ:St) (H:Hp) (Q:Bool→Hp→Prop),Inv X pins σ H s→t σ H Q→wpAny (model X.prog X.w) X.A (isTrue e X.env whole) (TP X pins σ Q) X.xe s
theorem PW.pt {X:Cx}{e:Expr}{t:TT} (h:PW X e t):PT X e t:=h _
def PA (X:Cx) (es:List Expr) (t:TA):Prop:=
 ∀(pos:Pos) (pins:List (Addr×Obj)) (s:yI) (σ:St) (H:Hp) (Q:List V→Hp→Prop),Inv X pins σ H s→t σ H Q→wpAny (model X.prog X.w) X.A (spliced (C5 pos (yW es X.env))) (AP X pins σ Q) X.xe s
def PS (X:Cx) (st:Stmt) (t:TS):Prop:=
 ∀(pins:List (Addr×Obj)) (s:yI) (σ:St) (H:Hp) (D:ka),Inv X pins σ H s→t D σ H→wpAny (model X.prog X.w) X.A (exec st X.env) (SP X pins D) X.xe s
def PSs (X:Cx) (st:List Stmt) (t:TS):Prop:=
 ∀(pins:List (Addr×Obj)) (s:yI) (σ:St) (H:Hp) (D:ka),Inv X pins σ H s→t D σ H→wpAny (model X.prog X.w) X.A (execs st X.env) (SP X pins D) X.xe s
theorem thn {α:Type}{t:Sem α}{Q Q':α→yI→Prop}{M:Model}{A:zh}{E:Value→yI→Prop}{s:yI} (h:wpAny M A t Q E s) (hQ:∀a s,Q a s→Q' a s):wpAny M A t Q' E s:=AQ h hQ fun _ _ x=>x
section
variable {X:Cx}
def x6 (i:Nat):TE:=fun σ H Q=>∃v,σ[i]?=some (some v)∧Q v H
def tC (v:V):TE:=fun _ H Q=>Q v H
theorem gG {i:Nat}{x:Str}{pos:Pos} (hN:X.N[i]?=some x) (hv:Vis X.env.scope x) (hd:(x==("__debug__":Str))=false:=by decide) (hcd:(x==("__classdict__":Str))=false:=by decide):PE X (.Name x pos) (x6 i):=by
 intro pins s σ H Q I h
 obtain ⟨v,e,h⟩:=h
 obtain ⟨m,hn,hl⟩:=I.loc
 obtain ⟨u,r,l⟩:=hl i x v hN e hv
 have fin:EP X pins σ Q u s:=⟨v,H,I,r,h⟩
 rcases l with ⟨hk,hm⟩ |⟨hk,c,hc,hcell⟩
 ·exact G_ (wpAny_loadName_local I.ok.kind hk hn hm fin) hd
 ·rcases hk with hk |hk
  ·exact G_ (wpAny_loadName_cell I.ok.kind hk hc hcell fin) hd
  ·exact G_ (wpAny_loadName_free I.ok.kind hk hc hcell fin hcd) hd
theorem we {i j pos}:PE X (.Constant (.int i) j pos) (tC (.int i)):=fun _ _ _ H _ I h=>wpAny_Constant_int ⟨.int i,H,I.tok _,⟨_,rfl⟩,h⟩
theorem xK {b j pos}:PE X (.Constant (.bool b) j pos) (tC (.bl b)):=fun _ _ _ H _ I h=>Constant_bool ⟨.bl b,H,I,rfl,h⟩
def Gl (X:Cx) (x:Str):Prop:=X.env.kindOf x=some .globalImplicit
theorem uv {E:Value→yI→Prop}{pins:List (Addr×Obj)}{s:yI}{σ:St}{H:Hp}{x:Str}{u:Value}{pos:Pos}{Q:Value→yI→Prop} (I:Inv X pins σ H s) (hg:Gl X x) (hm:X.mg x=some u) (h:Q u s)
  (hd:(x==("__debug__":Str))=false:=by decide):wpAny (model X.prog X.w) X.A (eval (.Name x pos) X.env) Q E s:=
 Dx I.ok.kind hg (Calls.loadGlobal_global (by rw[I.ok.glob];exact I.mod.glob.keeps I.bk) hm h) hd
theorem cQ {E:Value→yI→Prop}{pins:List (Addr×Obj)}{s:yI}{σ:St}{H:Hp}{x:Str}{u:Value}{pos:Pos}{Q:Value→yI→Prop} (I:Inv X pins σ H s) (hg:Gl X x) (hm:X.mg x=none) (hv:A3 x=some u) (h:Q u s)
  (hn:x≠"__name__":=by decide) (hd:(x==("__debug__":Str))=false:=by decide):wpAny (model X.prog X.w) X.A (eval (.Name x pos) X.env) Q E s:=by
 obtain ⟨mb,h1,h2⟩:=I.mod.blt
 exact Dx I.ok.kind hg (Calls.loadGlobal_builtin (by rw[I.ok.glob];exact I.mod.glob.keeps I.bk) hm (by rw[I.ok.blt];exact h1.keeps I.bk) ((h2 x hn).trans hv) h) hd
theorem uo {x:Str}{v:V}{u:Value}{pos:Pos} (hg:Gl X x) (hm:X.mg x=none) (hv:A3 x=some u) (r:aR v u) (hn:x≠"__name__":=by decide) (hd:(x==("__debug__":Str))=false:=by decide):PE X (.Name x pos) (tC v):=
 fun _ _ _ H _ I h=>cQ I hg hm hv ⟨v,H,I,r,h⟩ hn hd
variable {a b:Expr}{ta tb:TE}{pos:Pos}
def tB (t:TE):TT:=fun σ H Q=>t σ H fun x H1=>∃c,x=.bl c∧Q c H1
theorem wG {e:Expr}{t:TE} (h:PE X e t) (he:∀whole,isTrue e X.env whole=(do let v ←whole;standAt e.pos;holding [v] (truthy v)):=by intro _;rfl):PT X e (tB t):=by
 intro pins s σ H Q I hw
 refine isTrue_plain (thn (h pins s σ H _ I hw) fun v s1 ⟨x,H1,I1,r1,q1⟩=>?_) (he _)
 obtain ⟨d,rfl,q⟩:=q1
 cases r1
 exact Bk ⟨H1,I1,q⟩
variable {tA tB':TT}{rest:List Expr}
def x8 (t u:TT):TT:=fun σ H Q=>t σ H fun c H1=>if c=true then u σ H1 Q else Q false H1
def tOr (t u:TT):TT:=fun σ H Q=>t σ H fun c H1=>if c=true then Q true H1 else u σ H1 Q
def xX (t:TT):TT:=fun σ H Q=>t σ H fun c H1=>Q (!c) H1
theorem tE (ha:PT X a tA):PW X (.BoolOp .And [a] pos) tA:=by
 intro wh pins s σ H Q I h
 refine isTrue_and (thn (ha pins s σ H Q I h) fun c s1 e=>?_)
 cases c with
 |true=>exact isTrue_and_nil e
 |false=>exact e
theorem v4 (ha:PT X a tA):PW X (.BoolOp .Or [a] pos) tA:=by
 intro wh pins s σ H Q I h
 refine isTrue_or (thn (ha pins s σ H Q I h) fun c s1 e=>?_)
 cases c with
 |false=>exact isTrue_or_nil e
 |true=>exact e
theorem rF (ha:PT X a tA) (hb:PW X (.BoolOp .And (b::rest) pos) tB'):PW X (.BoolOp .And (a::b::rest) pos) (x8 tA tB'):=by
 intro wh pins s σ H Q I h
 refine isTrue_and (thn (ha pins s σ H _ I h) fun c s1 ⟨H1,I1,q1⟩=>?_)
 cases c with
 |true=>exact hb wh pins s1 σ H1 Q I1 q1
 |false=>exact ⟨H1,I1,q1⟩
theorem vo (ha:PT X a tA) (hb:PW X (.BoolOp .Or (b::rest) pos) tB'):PW X (.BoolOp .Or (a::b::rest) pos) (tOr tA tB'):=by
 intro wh pins s σ H Q I h
 refine isTrue_or (thn (ha pins s σ H _ I h) fun c s1 ⟨H1,I1,q1⟩=>?_)
 cases c with
 |true=>exact ⟨H1,I1,q1⟩
 |false=>exact hb wh pins s1 σ H1 Q I1 q1
theorem v3 (ha:PT X a tA):PT X (.UnaryOp .Not a pos) (xX tA):=by
 intro pins s σ H Q I h
 exact isTrue_not (ha pins s σ H (fun c H1=>Q (!c) H1) I h)
def wY (ta tb:TE):TE:=fun σ H Q=>ta σ H fun x H1=>∃c,x=.bl c∧if c=true then tb σ H1 Q else Q (.bl false) H1
def xF (ta:TE):TE:=fun σ H Q=>ta σ H fun x H1=>∃c,x=.bl c∧Q (.bl (!c)) H1
theorem wq {op}{t:TE} (h:PE X a t):PE X (.BoolOp op [a] pos) t:=fun pins s σ H Q I hw=>BoolOp_one (h pins s σ H Q I hw)
theorem qU (ha:PE X a ta) (hb:PE X (.BoolOp .And (b::rest) pos) tb):PE X (.BoolOp .And (a::b::rest) pos) (wY ta tb):=by
 intro pins s σ H Q I h
 refine BoolOp_and (thn (ha pins s σ H _ I h) fun v s1 ⟨x,H1,I1,r1,q1⟩=>?_)
 obtain ⟨c,rfl,q1⟩:=q1
 cases r1
 refine Bk ?_
 cases c with
 |true=>exact hb pins s1 σ H1 Q I1 q1
 |false=>exact ⟨.bl false,H1,I1,rfl,q1⟩
theorem v6 (ha:PE X a ta):PE X (.UnaryOp .Not a pos) (xF ta):=by
 intro pins s σ H Q I h
 refine UnaryOp_ (thn (ha pins s σ H _ I h) fun v s1 ⟨x,H1,I1,r1,q1⟩=>?_)
 obtain ⟨c,rfl,q1⟩:=q1
 cases r1
 exact not_of (Bk ⟨.bl (!c),H1,I1,rfl,q1⟩)
end
def SqL (K:yH) (H:Hp) (a:Addr) (xs:List V):Prop:=
 Rd H a (.lst xs)∨
  ∃(o:Obj) (its:Array Value) (n:Nat),K.lookup a=some o∧o.cls=.type "list"∧o.dict=none∧o.data=.seq its n∧its.size≤sizeLine∧aN xs its.toList
def SqT (K:yH) (H:Hp) (a:Addr) (xs:List V):Prop:=
 Rd H a (.tup xs)∨
  ∃(o:Obj) (its:Array Value) (n:Nat),K.lookup a=some o∧o.cls=.type "tuple"∧o.data=.seq its n∧its.size≤sizeLine∧aN xs its.toList
def yh:Value→Option V
 | .none=>some .non
 | .bool b=>some (.bl b)
 | .int i _=>some (.int i)
 | .str x _=>some (.str x)
 | .bytes b _=>some (.byt b)
 | .float b _=>some (.flt b)
 | .ref a=>some (.ref a)
 | .type n=>some (.ty n)
 |_=>none
theorem aR.abs {x:V}{u:Value} (r:aR x u):yh u=some x:=by
 cases x with
 |non=>cases r;rfl
 |bl _=>cases r;rfl
 |int _=>obtain ⟨t,rfl⟩:=r;rfl
 |str _=>obtain ⟨t,rfl⟩:=r;rfl
 |byt _=>obtain ⟨t,rfl⟩:=r;rfl
 |flt _=>obtain ⟨t,rfl⟩:=r;rfl
 |ref _=>cases r;rfl
 |ty _=>cases r;rfl
theorem aR.inj {x y:V}{u:Value} (r:aR x u) (q:aR y u):x=y:=zU (r.abs.symm.trans q.abs)
theorem aN.inj:∀{xs ys:List V}{us:List Value},aN xs us→aN ys us→xs=ys
 |_,_,_,.nil,.nil=>rfl
 |_,_,_,.cons r t,.cons r' t'=>by rw[r.inj r',aN.inj t t']
section
variable {X:Cx}{pins:List (Addr×Obj)}{σ:St}{H:Hp}{s:yI}{a:Addr}{xs ys:List V}
theorem SqL.of {K:yH} (h:H a=some (.lst xs)):SqL K H a xs:=.inl (.inl h)
theorem SqT.of {K:yH} (h:H a=some (.tup xs)):SqT K H a xs:=.inl (.inl h)
theorem Inv.list (I:Inv X pins σ H s) (h:SqL X.K H a xs):∃its:List Value,aN xs its∧PlainL s.heap a its.toArray∧xs.length≤sizeLine:=by
 rcases h with h |⟨o,its,n,hk,hc,hd,hs,hz,r⟩
 ·obtain ⟨z,its,n,r,e⟩:=h.ok I.hok
  exact ⟨its,r,⟨_,n,e,rfl,rfl,rfl⟩,z⟩
 ·refine ⟨its.toList,r,⟨o,n,I.kIn a o hk,hc,hd,by simpa using hs⟩,?_⟩
  have e:=r.length
  simp only[y4] at e
  omega
theorem Inv.tuple (I:Inv X pins σ H s) (h:SqT X.K H a xs):∃its:List Value,aN xs its∧IsTup s.heap a its.toArray∧xs.length≤sizeLine:=by
 rcases h with h |⟨o,its,n,hk,hc,hs,hz,r⟩
 ·obtain ⟨z,its,r,p⟩:=h.ok I.hok
  exact ⟨its,r,p,z⟩
 ·refine ⟨its.toList,r,⟨o,I.kIn a o hk,hc,n,by simpa using hs⟩,?_⟩
  have e:=r.length
  simp only[y4] at e
  omega
theorem Inv.list_inj (I:Inv X pins σ H s) (h:SqL X.K H a xs) (h':SqL X.K H a ys):xs=ys:=by
 obtain ⟨its,r,⟨o,n,e,_,_,d⟩,_⟩:=I.list h
 obtain ⟨its',r',⟨o',n',e',_,_,d'⟩,_⟩:=I.list h'
 rw[e] at e';cases e'
 rw[d] at d'
 injection d' with d1 _
 have:its=its':=by simpa using congrArg HD d1
 subst this
 exact r.inj r'
theorem Inv.tuple_inj (I:Inv X pins σ H s) (h:SqT X.K H a xs) (h':SqT X.K H a ys):xs=ys:=by
 obtain ⟨its,r,⟨o,e,_,n,d⟩,_⟩:=I.tuple h
 obtain ⟨its',r',⟨o',e',_,n',d'⟩,_⟩:=I.tuple h'
 rw[e] at e';cases e'
 rw[d] at d'
 injection d' with d1 _
 have:its=its':=by simpa using congrArg HD d1
 subst this
 exact r.inj r'
end
abbrev Cx.wish (X:Cx) (E:Value→yI→Prop):Cx:={X with xe:=E }
abbrev Cx.nox (X:Cx):Cx:=X.wish fun _ _=>False
theorem Cx.Ok.wish {X:Cx} (ok:X.Ok) (E:Value→yI→Prop):(X.wish E).Ok:=
 ⟨ok.mod,ok.kind,ok.glob,ok.blt,ok.above,ok.inj,ok.has,ok.cab,ok.hd,ok.frames,ok.stk,ok.exf,ok.bs,ok.bsz,ok.noex,ok.exfs,ok.funs,ok.frf⟩
theorem Cx.Ok.unwish {X:Cx}{E:Value→yI→Prop} (ok:(X.wish E).Ok):X.Ok:=
 ⟨ok.mod,ok.kind,ok.glob,ok.blt,ok.above,ok.inj,ok.has,ok.cab,ok.hd,ok.frames,ok.stk,ok.exf,ok.bs,ok.bsz,ok.noex,ok.exfs,ok.funs,ok.frf⟩
section
variable {X:Cx}{pins:List (Addr×Obj)}{σ:St}{H:Hp}{s:yI}{E:Value→yI→Prop}
theorem Inv.wish (I:Inv X pins σ H s) (E:Value→yI→Prop):Inv (X.wish E) pins σ H s:=⟨I.ok.wish E,I.os,I.bare,I.base,I.loc,I.cell,I.free,I.freeC,I.pin,I.hok,I.len⟩
theorem Inv.unwish (I:Inv (X.wish E) pins σ H s):Inv X pins σ H s:=⟨I.ok.unwish,I.os,I.bare,I.base,I.loc,I.cell,I.free,I.freeC,I.pin,I.hok,I.len⟩
theorem SP.unwish {D:ka}{f:Flow}{s':yI} (h:SP (X.wish E) pins D f s'):SP X pins D f s':=by
 cases f with
 |next=>obtain ⟨σ',H',I,q⟩:=h;exact ⟨σ',H',I.unwish,q⟩
 |brk=>obtain ⟨σ',H',I,q⟩:=h;exact ⟨σ',H',I.unwish,q⟩
 |cont=>obtain ⟨σ',H',I,q⟩:=h;exact ⟨σ',H',I.unwish,q⟩
 |ret u=>obtain ⟨v,σ',H',I,r,q⟩:=h;exact ⟨v,σ',H',I.unwish,r,q⟩
theorem PSs.nox {st:List Stmt}{t:TS} (h:PSs X.nox st t):PSs X st t:=fun pins s σ H D I hw=>
 AQ (h pins s σ H D (I.wish _) hw) (fun _ _ q=>q.unwish) fun _ _ z=>False.elim z
end
section
variable {X:Cx}{st:Stmt}{rest:List Stmt}{t u:TS}{e:Expr}{te:TE}{pos:Pos}
def xm:TS:=fun D σ H=>D.nx σ H
def xZ (t u:TS):TS:=fun D σ H=>t {D with nx:=u D } σ H
theorem t8:PSs X [] xm:=fun _ _ σ H _ I h=>Eu ⟨σ,H,I,h⟩
theorem qK (h1:PS X st t) (h2:PSs X rest u):PSs X (st::rest) (xZ t u):=by
 intro pins s σ H D I h
 refine wpAny_execs_cons (thn (h1 pins s σ H {D with nx:=u D } I h) fun f s1 q=>?_)
 cases f with
 |next=>
  obtain ⟨σ',H',I',q⟩:=q
  exact h2 pins s1 σ' H' D I' q
 |ret v=>exact q
 |brk=>exact q
 |cont=>exact q
theorem Inv.quiet {pins:List (Addr×Obj)}{σ:St}{H:Hp}{s:yI} (I:Inv X pins σ H s):interactive X.env=false:=by simp[interactive,I.ok.kind]
def xC (te:TE):TS:=fun D σ H=>te σ H fun _ H1=>D.nx σ H1
theorem j6 (he:PE X e te) (hs:DM e none pos.line X.env=pure false:=by rfl):PS X (.Expr e pos) (xC te):=by
 intro pins s σ H D I h
 exact wpAny_Expr_any (thn (he pins s σ H _ I h) fun v s1 ⟨x,H1,I1,r1,q1⟩=>⟨σ,H1,I1,q1⟩) I.quiet hs
def yu (te:TE):TS:=fun D σ H=>te σ H D.rt
theorem mY (he:PE X e te):PS X (.Return (some e) pos) (yu te):=by
 intro pins s σ H D I h
 exact wpAny_Return_some (thn (he pins s σ H _ I h) fun v s1 ⟨x,H1,I1,r1,q1⟩=>⟨x,σ,H1,I1,r1,q1⟩)
def ya (c:TT) (t u:TS):TS:=fun D σ H=>c σ H fun b H1=>if b=true then t D σ H1 else u D σ H1
theorem uP {c:Expr}{a b:List Stmt}{tc:TT} (hc:PT X c tc) (ha:PSs X a t) (hb:PSs X b u):PS X (.If c a b pos) (ya tc t u):=by
 intro pins s σ H D I h
 refine wpAny_If (thn (hc pins s σ H _ I h) fun d s1 ⟨H1,I1,q1⟩=>?_)
 cases d with
 |true=>exact ha pins s1 σ H1 D I1 q1
 |false=>exact hb pins s1 σ H1 D I1 q1
end
abbrev TG:=V→St→Hp→(St→Hp→Prop)→Prop
abbrev TGs:=List V→St→Hp→(St→Hp→Prop)→Prop
def PG (X:Cx) (target:Expr) (t:TG):Prop:=
 ∀(pins:List (Addr×Obj)) (s:yI) (σ:St) (H:Hp) (v:V) (u:Value) (Q:St→Hp→Prop),Inv X pins σ H s→aR v u→t v σ H Q→
  wpAny (model X.prog X.w) X.A (assign target X.env u) (fun _ s'=>∃σ' H',Inv X pins σ' H' s'∧Q σ' H') X.xe s
def PGs (X:Cx) (ts:List Expr) (t:TGs):Prop:=
 ∀(pins:List (Addr×Obj)) (s:yI) (σ:St) (H:Hp) (vs:List V) (us:List Value) (Q:St→Hp→Prop),Inv X pins σ H s→aN vs us→t vs σ H Q→
  wpAny (model X.prog X.w) X.A (Fg ((Ct ts X.env).map (·.2)) us) (fun _ s'=>∃σ' H',Inv X pins σ' H' s'∧Q σ' H') X.xe s
section
variable {X:Cx}{pos:Pos}
def nA (i:Nat):TG:=fun v σ H Q=>Q (σ.set i (some v)) H
theorem bE {i:Nat}{x:Str} (hN:X.N.Nodup) (hi:X.N[i]?=some x) (hx:Loc X.env.scope x) (hf:X.fn x=true∨X.env.scope.names.lookup x=some .local:=by first |exact .inl rfl |exact .inr rfl |assumption):PG X (.Name x pos) (nA i):=by
 intro pins s σ H v u Q I r h
 exact wpAny_assign_Name (gu I hN hi hx r (fun s' I'=>⟨_,H,I',h⟩) hf)
def xt:TGs:=fun vs σ H Q=>vs=[]∧Q σ H
def vm (t:TG) (u:TGs):TGs:=fun vs σ H Q=>∃v r,vs=v::r∧t v σ H fun σ' H'=>u r σ' H' Q
theorem nS:PGs X [] xt:=by
 intro pins s σ H vs us Q I r h
 obtain ⟨e,h⟩:=h
 subst e
 cases r
 exact FA ⟨σ,H,I,h⟩
theorem eC {e:Expr}{es:List Expr}{t:TG}{u:TGs} (h1:PG X e t) (h2:PGs X es u)
  (hs:(Ct (e::es) X.env).map (·.2)=assign e X.env::(Ct es X.env).map (·.2):=by rfl):PGs X (e::es) (vm t u):=by
 intro pins s σ H vs us Q I r h
 obtain ⟨v,vr,e1,h⟩:=h
 subst e1
 cases r with
 |cons r rr=>
  rw[hs]
  refine Dz (thn (h1 pins s σ H _ _ _ I r h) fun _ s1 ⟨σ1,H1,I1,q1⟩=>?_)
  exact h2 pins s1 σ1 H1 _ _ Q I1 rr q1
def yi (K:yH) (n:Nat) (t:TGs):TG:=fun v σ H Q=>∃a xs,v=.ref a∧SqT K H a xs∧xs.length=n∧t xs σ H Q
theorem vz {es:List Expr}{k:Nat}{t:TGs}{n:Nat} (hc:X.calm=true) (h:PGs X es t)
  (hn:(Ct es X.env).length=n:=by rfl) (hst:(Ct es X.env).findIdx? (·.1)=none:=by rfl):PG X (.Tuple es k pos) (yi X.K n t):=by
 intro pins s σ H v u Q I r hw
 obtain ⟨a,xs,e1,hq,hl,hw⟩:=hw
 subst e1
 cases r
 obtain ⟨its,rv,ht,hz⟩:=I.tuple hq
 refine assign_Tuple_tuple (I.ok.hd hc) ht (by simp[hn,←hl,rv.length]) hst fun h' hx=>?_
 have I1:Inv X pins σ H {s with heap:=h' }:=I.kept (t':=s.toks) fun b o e=>hx b o (zb (yQ e)) e
 exact h pins _ σ H xs _ Q I1 (by simpa using rv) hw
def xj (te:TE) (g:TG):TS:=fun D σ H=>te σ H fun x H1=>g x σ H1 D.nx
theorem wa {tg e:Expr}{te:TE}{g:TG} (he:PE X e te) (hg:PG X tg g) (hs:D3 [tg] e pos.line X.env=pure false:=by rfl) (hw:D4 [tg] e X.env=pure none:=by rfl)
  (h1:(Ct [tg] X.env).map (·.2)=[assign tg X.env]:=by rfl):PS X (.Assign [tg] e pos) (xj te g):=by
 intro pins s σ H D I h
 refine wpAny_Assign_stores (thn (he pins s σ H _ I h) fun v s1 ⟨x,H1,I1,r1,q1⟩=>?_) hs hw
 rw[h1]
 exact thn (hg pins s1 σ H1 x v _ I1 r1 q1) fun _ s2 q=>q
theorem p8 {i:Nat}{x:Str}{e:Expr}{te:TE}{pos':Pos} (hN:X.N.Nodup) (hi:X.N[i]?=some x) (hx:Loc X.env.scope x) (he:PE X e te) (hs:DM e (some (.Name x pos')) pos.line X.env=pure false:=by rfl) (hf:X.fn x=true∨X.env.scope.names.lookup x=some .local:=by first |exact .inl rfl |exact .inr rfl |assumption):
  PS X (.Assign [.Name x pos'] e pos) (xj te (nA i)):=by
 intro pins s σ H D I h
 refine wpAny_Assign_Name (thn (he pins s σ H _ I h) fun v s1 ⟨y,H1,I1,r1,q1⟩=>?_) hs
 exact gu I1 hN hi hx r1 (fun s2 I2=>⟨_,H1,I2,q1⟩) hf
def xW (i j:Nat) (ta:TA):TS:=fun D σ H=>ta σ H fun vs H1=>∃v w,vs=[v,w]∧D.nx ((σ.set i (some v)).set j (some w)) H1
theorem wb {i j:Nat}{x y:Str}{a b:Expr}{ta:TA}{px py pt:Pos}{kt k2 pt2} (hc:X.calm=true) (hN:X.N.Nodup) (hi:X.N[i]?=some x) (hj:X.N[j]?=some y) (hij:i≠j)
  (hx:X.env.scope.names.lookup x=some .local) (hy:X.env.scope.names.lookup y=some .local) (ha:PA X [a,b] ta)
  (hw:D4 [.Tuple [.Name x px,.Name y py] kt pt] (.Tuple [a,b] k2 pt2) X.env=pure (some [x,y]))
  (hs:D3 [.Tuple [.Name x px,.Name y py] kt pt] (.Tuple [a,b] k2 pt2) pos.line X.env=pure false:=by rfl):
  PS X (.Assign [.Tuple [.Name x px,.Name y py] kt pt] (.Tuple [a,b] k2 pt2) pos) (xW i j ta):=by
 intro pins s σ H D I h
 rw[exec_Assign_arm]
 refine yE (D5 ?_)
 rw[hs]
 refine yE (yJ ?_)
 rw[if_neg (by decide)]
 refine yE (Tuple_ (thn (ha _ pins s σ H _ I h) fun us s1 ⟨vs,H1,I1,r1,q1⟩=>?_))
 obtain ⟨v,w,e1,q1⟩:=q1
 subst e1
 obtain ⟨u1,u2,rfl,rv,rw'⟩:∃u1 u2,us=[u1,u2]∧aR v u1∧aR w u2:=by
  cases r1 with
  |cons p q=>
   cases q with
   |cons p' q'=>
    cases q'
    exact ⟨_,_,rfl,p,p'⟩
 refine A7 ?_ (by show 2≤sizeLine;decide)
 have I2:Inv X pins σ H1 {s1 with heap:=s1.heap.push {cls:=.type "tuple",data:=.seq [u1,u2].toArray } }:=I1.kept (t':=s1.toks) fun b o e=>yG _ e
 rw[hw]
 refine yE (yJ ?_)
 show wpAny (model X.prog X.w) X.A (do rule "assign.swapped-stores";let items ←unpackItems (.ref s1.heap.objs.size) 2 none;Fg [fun v=>Ht X.env y v,fun v=>Ht X.env x v] items.reverse;pure Flow.next) _ _ _
 refine yE (BH (yE (unpackItems_tuple (items:=#[u1,u2]) (I.ok.hd hc) (IsTup.new s1.heap _) fun h' hx'=>?_)))
 have I3:=I2.kept (h':=h') (t':=s1.toks) fun b o e=>hx' b o (zb (yQ e)) e
 show wpAny _ _ (Fg [fun v=>Ht X.env y v,fun v=>Ht X.env x v] [u2,u1] >>=fun _=>pure Flow.next) _ _ _
 refine yE (Dz (GJ (gu I3 hN hj (.inl hy) rw' (fun s2 I4=>?_) (.inr hy))))
 refine Dz (GJ (gu I4 hN hi (.inl hx) rv (fun s3 I5=>FA (yJ ?_)) (.inr hx)))
 rw[List.set_comm _ _ (Ne.symm hij)] at I5
 exact ⟨_,H1,I5,q1⟩
end
section
variable {X:Cx}{pos:Pos}
def vJ (c:TT) (tb:TS):TS:=fun D σ H=>∃W:Nat→St→Hp→Prop,(∃m,W m σ H)∧∀m σ H,W m σ H→
 c σ H fun b H1=>if b=true then ∃N:St→Hp→Prop,(∀σ' H',N σ' H'→∃m',m' < m∧W m' σ' H')∧tb {D with nx:=N,ct:=N,bk:=D.nx } σ H1 else D.nx σ H1
theorem qh {c:Expr}{body:List Stmt}{tc:TT}{tb:TS} (hp:Dp (model X.prog X.w) X.A X.env X.xe) (hc:PT X c tc) (hb:PSs X body tb):PS X (.While c body [] pos) (vJ tc tb):=by
 intro pins s σ H D I h
 obtain ⟨W,⟨m0,w0⟩,turn⟩:=h
 refine wpAny_While (codeAny_whileLoop (fun n s'=>∃σ' H',Inv X pins σ' H' s'∧W n σ' H') ?_ m0 ⟨σ,H,I,w0⟩)
 rintro n s1 ⟨σ1,H1,I1,w1⟩
 refine BI hp (thn (hc pins s1 σ1 H1 _ I1 (turn n σ1 H1 w1)) fun b s2 ⟨H2,I2,q2⟩=>?_)
 cases b with
 |true=>
  obtain ⟨N,hN,q2⟩:=q2
  rw[if_pos rfl]
  refine BI hp (thn (hb pins s2 σ1 H2 _ I2 q2) fun f s3 q3=>?_)
  cases f with
  |next=>
   obtain ⟨σ3,H3,I3,n3⟩:=q3
   obtain ⟨m',hm,w3⟩:=hN σ3 H3 n3
   exact ⟨m',hm,σ3,H3,I3,w3⟩
  |cont=>
   obtain ⟨σ3,H3,I3,n3⟩:=q3
   obtain ⟨m',hm,w3⟩:=hN σ3 H3 n3
   exact ⟨m',hm,σ3,H3,I3,w3⟩
  |brk=>exact q3
  |ret v=>exact q3
 |false=>
  rw[if_neg zd]
  exact Eu ⟨σ1,H2,I2,q2⟩
end
structure It where
 go:Nat→Hp→Prop
 yld:Nat→Hp→V→Hp→Prop
 stop:Nat→Hp→Prop
def cR (X:Cx) (pins:List (Addr×Obj)) (H:Hp) (b:Addr):Prop:=
 H b=none∧b≠X.env.locals∧b ∉ X.fs∧(b∈X.ex∨X.s₀.heap.objs.size≤b)∧(∀x c,X.env.cells.lookup x=some c→c≠b)∧∀p∈X.pn++pins,p.1≠b
theorem Inv.fpOk {X:Cx}{pins:List (Addr×Obj)}{σ:St}{H H':Hp}{s:yI}{b:Addr} (I:Inv X pins σ H s) (hb:s.heap.objs.size≤b) (hn:H' b=none):cR X pins H' b:=by
 refine ⟨hn,A4 (za I.lt hb),I.nofs hb,.inr (AH I.sz hb),fun x c e z=>?_,fun p hp z=>?_⟩
 ·obtain ⟨v,q⟩:=I.cell x c e
  exact absurd (za q.lt (by rw[z];exact hb)) (zO _)
 ·exact absurd (za (yQ (I.pin p hp).1) (by rw[z];exact hb)) (zO _)
structure o0 (P:yT) (w:World) (K:yH) (tg:Expr) (J:It) (fp:List Addr) (it:Addr) (tn:Nat→Heap→Prop):Prop where
 mem:it∈fp
 obj:∀i h,tn i h→∀b∈fp,∃o,h.get? b=some o∧∀v,o.data≠.cell v
 keep:∀i h h',tn i h→(∀b∈fp,∀o,h.get? b=some o→h'.get? b=some o)→tn i h'
 item:∀(X:Cx),X.prog=P→X.w=w→X.K=K→X.calm=true→∀(i:Nat) (pins:List (Addr×Obj)) (s:yI) (σ:St) (H:Hp) (E:Value→yI→Prop),Inv X pins σ H s→(∀b∈fp,cR X pins H b)→tn i s.heap→J.go i H→
  wpAny (model P w) X.A (C6 (.ref it)) (fun r s1=>∃u,r=some u∧
   wpAny (model P w) X.A (Ew tg (.ref it) u) (fun _ s2=>∃x H',Inv X pins σ H' s2∧aR x u∧J.yld i H x H'∧tn (i+1) s2.heap∧∀b∈fp,H' b=none) E s1) E s
 done:∀(X:Cx),X.prog=P→X.w=w→X.K=K→X.calm=true→∀(i:Nat) (pins:List (Addr×Obj)) (s:yI) (σ:St) (H:Hp) (E:Value→yI→Prop),Inv X pins σ H s→(∀b∈fp,cR X pins H b)→tn i s.heap→J.stop i H→
  wpAny (model P w) X.A (C6 (.ref it)) (fun r s1=>r=none∧Inv X pins σ H s1) E s
 self:∀(A:zh) (i:Nat) (s:yI) (Q:Value→yI→Prop) (E:Value→yI→Prop),tn i s.heap→Q (.ref it) s→wpAny (model P w) A (HE (.ref it)) Q E s
abbrev TI:=St→Hp→(It→Hp→Prop)→Prop
def PIE (X:Cx) (pins:List (Addr×Obj)) (σ:St) (tg:Expr) (R:It→Hp→Prop) (itv:Value) (s2:yI):Prop:=
 ∃(it:Addr) (fp:List Addr) (tn:Nat→Heap→Prop) (J:It) (H':Hp),itv=.ref it∧Inv X pins σ H' s2∧o0 X.prog X.w X.K tg J fp it tn∧tn 0 s2.heap∧(∀b∈fp,cR X pins H' b)∧R J H'
def PI (X:Cx) (tg iter:Expr) (wi:TI):Prop:=
 ∀(pins:List (Addr×Obj)) (s:yI) (σ:St) (H:Hp) (R:It→Hp→Prop),Inv X pins σ H s→wi σ H R→
  wpAny (model X.prog X.w) X.A (eval iter X.env) (fun v s1=>wpAny (model X.prog X.w) X.A (HE v) (PIE X pins σ tg R) X.xe s1) X.xe s
theorem nH {M:Model}{A:zh}{E:Value→yI→Prop}{s:yI}{tg:Expr}{it:Addr}{u:Value}{o:Obj}{n:String}{vs:Array Value}{Q:Unit→yI→Prop} (ho:s.heap.get? it=some o) (hc:o.cls=.type n) (hd:o.data=.fields vs)
  (hn:["enumerate","zip","dict_itemiterator","dict_reverseitemiterator","odict_iterator","itertools.zip_longest","itertools.pairwise"].contains n=false) (hQ:Q () s):wpAny M A (Ew tg (.ref it) u) Q E s:=by
 unfold Ew
 cases tg <;>first
  |exact yJ hQ
  | (cases u <;>first
    |exact yJ hQ
    | (refine yE (wpAny_load ho ?_)
       rw[hc,hd]
       show wpAny M A (if (["enumerate","zip","dict_itemiterator","dict_reverseitemiterator","odict_iterator","itertools.zip_longest","itertools.pairwise"].contains n && vs[0]?==some (BZ _))=true then _ else _) Q E s
       rw[if_neg (by intro h;rw[hn,Bool.false_and] at h;cases h)]
       exact yJ hQ))
def Itl (K:yH) (a:Addr):It:=
 ⟨fun i H=>∃xs x,SqL K H a xs∧xs[i]?=some x,fun i H x H'=>H'=H∧∀xs,SqL K H a xs→xs[i]?=some x,fun i H=>∃xs,SqL K H a xs∧xs.length≤i⟩
def Itt (K:yH) (a:Addr):It:=
 ⟨fun i H=>∃xs x,SqT K H a xs∧xs[i]?=some x,fun i H x H'=>H'=H∧∀xs,SqT K H a xs→xs[i]?=some x,fun i H=>∃xs,SqT K H a xs∧xs.length≤i⟩
def Itr (lo:Int) (n:Nat):It:=⟨fun i _=>i < n,fun i H x H'=>H'=H∧x=.int (lo+i),fun i _=>n≤i⟩
theorem oK {P:yT}{w:World}{K:yH}{tg:Expr} (a it:Addr):o0 P w K tg (Itl K a) [it] it (fun i h=>h.IsListIter it a i) where
 mem:=by simp
 obj:=fun i h st b hb=>by
  have e:b=it:=by simpa using hb
  subst e
  obtain ⟨o,e,c,d⟩:=st
  exact ⟨o,e,fun v z=>by rw[d] at z;cases z⟩
 keep:=fun i h h' st k=>st.at fun o e=>k it (by simp) o e
 item:=by
  intro X hP hw hK hc i pins s σ H E I hf st hg
  subst hP hw hK
  obtain ⟨xs,x,hq,hx⟩:=hg
  obtain ⟨its,rv,p,hz⟩:=I.list hq
  obtain ⟨u,hu,ru⟩:=rv.get hx
  obtain ⟨f0,f1,f2,f3,f4,f5⟩:=hf it (by simp)
  refine CL st p.isList (x:=u) (by simpa using hu) fun h' st' sb=>?_
  have I1:Inv X pins σ H {s with heap:=h' }:=I.turned (t':=s.toks) (fun b o hb e=>(sb.2 b hb).trans e) f0 f1 f3 f4 f5
  obtain ⟨o,e,c,d⟩:=id st'
  exact ⟨u,rfl,nH (s:={s with heap:=h' }) e c d (by decide) ⟨x,H,I1,ru,⟨rfl,fun ys hy=>by rw[I.list_inj hy hq];exact hx⟩,st',fun b hb=>(hf b hb).1⟩⟩
 done:=by
  intro X hP hw hK hc i pins s σ H E I hf st hg
  subst hP hw hK
  obtain ⟨xs,hq,hx⟩:=hg
  obtain ⟨its,rv,p,hz⟩:=I.list hq
  obtain ⟨f0,f1,f2,f3,f4,f5⟩:=hf it (by simp)
  have hl:=rv.length
  exact Ex (I.ok.hd hc) st p.isList (by simp;omega) fun h' eb=>⟨rfl,I.turned (t':=s.toks) (fun b o hb e=>eb b o hb e) f0 f1 f3 f4 f5⟩
 self:=fun _ _ _ _ _ st h=>wpAny_pyIter_listiter st h
theorem mF {P:yT}{w:World}{K:yH}{tg:Expr} (a it:Addr):o0 P w K tg (Itt K a) [it] it (fun i h=>h.IsTupleIter it a i) where
 mem:=by simp
 obj:=fun i h st b hb=>by
  have e:b=it:=by simpa using hb
  subst e
  obtain ⟨o,e,c,d⟩:=st
  exact ⟨o,e,fun v z=>by rw[d] at z;cases z⟩
 keep:=fun i h h' st k=>st.at fun o e=>k it (by simp) o e
 item:=by
  intro X hP hw hK hc i pins s σ H E I hf st hg
  subst hP hw hK
  obtain ⟨xs,x,hq,hx⟩:=hg
  obtain ⟨its,rv,p,hz⟩:=I.tuple hq
  obtain ⟨u,hu,ru⟩:=rv.get hx
  obtain ⟨f0,f1,f2,f3,f4,f5⟩:=hf it (by simp)
  refine wpAny_pyNext_tuple_item st (show s.heap.IsTuple a its.toArray from p) (x:=u) (by simpa using hu) fun h' st' sb=>?_
  have I1:Inv X pins σ H {s with heap:=h' }:=I.turned (t':=s.toks) (fun b o hb e=>(sb.2 b hb).trans e) f0 f1 f3 f4 f5
  obtain ⟨o,e,c,d⟩:=id st'
  exact ⟨u,rfl,nH (s:={s with heap:=h' }) e c d (by decide) ⟨x,H,I1,ru,⟨rfl,fun ys hy=>by rw[I.tuple_inj hy hq];exact hx⟩,st',fun b hb=>(hf b hb).1⟩⟩
 done:=by
  intro X hP hw hK hc i pins s σ H E I hf st hg
  subst hP hw hK
  obtain ⟨xs,hq,hx⟩:=hg
  obtain ⟨its,rv,p,hz⟩:=I.tuple hq
  obtain ⟨f0,f1,f2,f3,f4,f5⟩:=hf it (by simp)
  have hl:=rv.length
  exact wpAny_pyNext_tuple_end (I.ok.hd hc) st (show s.heap.IsTuple a its.toArray from p) (by simp;omega) fun h' eb=>⟨rfl,I.turned (t':=s.toks) (fun b o hb e=>eb b o hb e) f0 f1 f3 f4 f5⟩
 self:=fun _ _ _ _ _ st h=>wpAny_pyIter_tupleiter st h
theorem mr {P:yT}{w:World}{K:yH}{tg:Expr} (it:Addr) (lo:Int) (n:Nat):o0 P w K tg (Itr lo n) [it] it (fun i h=>E9 h it (lo+(i:Nat) *1) ((n:Int) - (i:Nat)) 1) where
 mem:=by simp
 obj:=fun i h st b hb=>by
  have e:b=it:=by simpa using hb
  subst e
  exact ⟨_,st,fun v z=>by
   have z':Data.fields _=Data.cell v:=z
   cases z'⟩
 keep:=fun i h h' st k=>k it (by simp) _ st
 item:=by
  intro X hP hw hK hc i pins s σ H E I hf st hg
  subst hP hw hK
  obtain ⟨f0,f1,f2,f3,f4,f5⟩:=hf it (by simp)
  have W:=Walks.range (prog:=X.prog) (w:=X.w) (I.ok.hd hc) it lo 1 n
  refine W.item i s _ _ hg st fun v h' tk hv st' kk=>?_
  obtain ⟨t,rfl⟩:=hv
  have I1:Inv X pins σ H {s with heap:=h',toks:=tk }:=I.turned (fun b o hb e=>kk b o (by simpa using hb) e) f0 f1 f3 f4 f5
  refine ⟨_,rfl,nH (s:={s with heap:=h',toks:=tk }) (n:="range_iterator") st' rfl rfl (by decide) ⟨.int (lo+i),H,I1,⟨t,?_⟩,⟨rfl,rfl⟩,st',fun b hb=>(hf b hb).1⟩⟩
  rw[HR]
 done:=by
  intro X hP hw hK hc i pins s σ H E I hf st hg
  subst hP hw hK
  obtain ⟨f0,f1,f2,f3,f4,f5⟩:=hf it (by simp)
  exact Ek (I.ok.hd hc) st (by have:n≤i:=hg;omega) fun h' eb=>⟨rfl,I.turned (t':=s.toks) (fun b o hb e=>eb b o hb e) f0 f1 f3 f4 f5⟩
 self:=fun _ _ _ _ _ st h=>El st h
section
variable {X:Cx}{tg:Expr}
def xf (K:yH) (tl:TE):TI:=fun σ H R=>tl σ H fun x H1=>∃a,x=.ref a∧(∃xs,SqL K H1 a xs)∧R (Itl K a) H1
def yl (K:yH) (tl:TE):TI:=fun σ H R=>tl σ H fun x H1=>∃a,x=.ref a∧(∃xs,SqT K H1 a xs)∧R (Itt K a) H1
theorem t_ {l:Expr}{tl:TE} (hl:PE X l tl):PI X tg l (xf X.K tl):=by
 intro pins s σ H R I h
 refine thn (hl pins s σ H _ I h) fun v s1 ⟨x,H1,I1,r1,q1⟩=>?_
 obtain ⟨a,e,⟨xs,hq⟩,q⟩:=q1
 subst e
 cases r1
 obtain ⟨its,rv,p,hz⟩:=I1.list hq
 refine A8 p.isList ?_
 refine ⟨s1.heap.objs.size,[s1.heap.objs.size],_,_,H1,rfl,I1.kept (t':=s1.toks) fun b o e=>yG _ e,oK a _,⟨_,yR _ rfl,rfl,rfl⟩,fun b hb=>?_,q⟩
 have e:b=s1.heap.objs.size:=by simpa using hb
 subst e
 exact I1.fpOk (yO _) (I1.hok.fresh (yO _))
theorem wg {l:Expr}{tl:TE} (hl:PE X l tl):PI X tg l (yl X.K tl):=by
 intro pins s σ H R I h
 refine thn (hl pins s σ H _ I h) fun v s1 ⟨x,H1,I1,r1,q1⟩=>?_
 obtain ⟨a,e,⟨xs,hq⟩,q⟩:=q1
 subst e
 cases r1
 obtain ⟨its,rv,p,hz⟩:=I1.tuple hq
 refine wpAny_pyIter_tuple (show s1.heap.IsTuple a its.toArray from p) ?_
 refine ⟨s1.heap.objs.size,[s1.heap.objs.size],_,_,H1,rfl,I1.kept (t':=s1.toks) fun b o e=>yG _ e,mF a _,⟨_,yR _ rfl,rfl,rfl⟩,fun b hb=>?_,q⟩
 have e:b=s1.heap.objs.size:=by simpa using hb
 subst e
 exact I1.fpOk (yO _) (I1.hok.fresh (yO _))
theorem qL {pins:List (Addr×Obj)}{σ:St}{H:Hp}{s:yI}{R:It→Hp→Prop}{E:Value→yI→Prop}{lo hi:Int}{t u v:Tok}{tk:Nat} (I:Inv X pins σ H s) (h1:-(2 ^ 62)≤lo) (h2:lo < 2 ^ 62) (h3:-(2 ^ 62)≤hi) (h4:hi < 2 ^ 62)
  (q:R (Itr lo (hi - lo).toNat) H):wpAny (model X.prog X.w) X.A (HE (.ref s.heap.objs.size)) (PIE X pins σ tg R) E {s with heap:=s.heap.push {cls:=.type "range",data:=.fields #[.int lo t,.int hi u,.int 1 v] },toks:=tk }:=by
 refine Fh (IsRange.new ..) (small_one h1 h2 h3 h4) ?_
 have I1:Inv X pins σ H {s with heap:=s.heap.push {cls:=.type "range",data:=.fields #[.int lo t,.int hi u,.int 1 v] },toks:=tk }:=I.kept fun b o e=>yG _ e
 refine ⟨(s.heap.push {cls:=.type "range",data:=.fields #[.int lo t,.int hi u,.int 1 v] }).objs.size,[(s.heap.push {cls:=.type "range",data:=.fields #[.int lo t,.int hi u,.int 1 v] }).objs.size],_,_,H,rfl,
  I1.kept (t':=tk) fun b o e=>yG _ e,mr _ lo (hi - lo).toNat,?_,fun b hb=>?_,q⟩
 ·have e1:lo+((0:Nat):Int) *1=lo:=by simp
  have e2:(((hi - lo).toNat:Nat):Int) - ((0:Nat):Int)=Builtin.Range.rangeSize lo hi 1:=by rw[rangeSize_one];split <;>omega
  show E9 _ _ (lo+((0:Nat):Int) *1) ((((hi - lo).toNat:Nat):Int) - ((0:Nat):Int)) 1
  rw[e1,e2]
  exact yR _ rfl
 ·have e:b=(s.heap.push {cls:=.type "range",data:=.fields #[.int lo t,.int hi u,.int 1 v] }).objs.size:=by simpa using hb
  subst e
  exact I1.fpOk (yO _) (I1.hok.fresh (yO _))
def xl (ta:TA):TI:=fun σ H R=>ta σ H fun vs H1=>∃j:Int,vs=[.int j]∧-(2 ^ 62)≤j∧j < 2 ^ 62∧R (Itr 0 j.toNat) H1
theorem pC {a:Expr}{ta:TA}{p pos:Pos} (hg:Gl X "range") (hm:X.mg "range"=none) (ha:PA X [a] ta) (hs:yW [a] X.env=[(false,eval a X.env)]:=by rfl):PI X tg (.Call (.Name "range" p) [a] [] pos) (xl ta):=by
 intro pins s σ H R I h
 refine Call_ (cQ I hg hm boot_range (PyProof.Rows.callWith_type1 (thn (ha pos pins s σ H _ I h) fun us s1 ⟨vs,H1,I1,r1,q1⟩=>?_) hs rfl))
 obtain ⟨j,e,q1,q2,q⟩:=q1
 subst e
 cases r1 with
 |cons r rr=>
  cases rr
  obtain ⟨t,rfl⟩:=r
  exact call_range_1 (qL I1 (by omega) (by omega) q1 q2 (by simpa using q))
def yd (wi:TI) (g:TG) (tb:TS):TS:=fun D σ H=>wi σ H fun J H1=>∃W:Nat→Nat→St→Hp→Prop,(∃m,W 0 m σ H1)∧∀i m σ H,W i m σ H→
 (J.stop i H∧D.nx σ H)∨(J.go i H∧∃N:St→Hp→Prop,(∀σ' H',N σ' H'→∃m',m' < m∧W (i+1) m' σ' H')∧∀x H',J.yld i H x H'→g x σ H' fun σ2 H2=>tb {D with nx:=N,ct:=N,bk:=D.nx } σ2 H2)
def i0 (fp:List Addr) (h:Heap):List (Addr×Obj):=fp.filterMap fun b=>(h.get? b).map fun o=>(b,o)
theorem bq {fp:List Addr}{h:Heap}{b:Addr}{o:Obj} (hb:b∈fp) (e:h.get? b=some o):(b,o)∈i0 fp h:=DA.mpr ⟨b,hb,by rw[e];rfl⟩
theorem oQ {fp:List Addr}{h:Heap}{p:Addr×Obj} (hp:p∈i0 fp h):p.1∈fp∧h.get? p.1=some p.2:=by
 obtain ⟨b,hb,e⟩:=DA.mp hp
 cases q:h.get? b with
 |none=>rw[q] at e;cases e
 |some o=>
  rw[q] at e
  have e':(b,o)=p:=zU e
  subst e'
  exact ⟨hb,q⟩
theorem Inv.pinned {pins:List (Addr×Obj)}{σ:St}{H:Hp}{s:yI}{fp:List Addr} (I:Inv X pins σ H s) (hf:∀b∈fp,cR X pins H b) (ho:∀b∈fp,∃o,s.heap.get? b=some o∧∀v,o.data≠.cell v):Inv X (pins++i0 fp s.heap) σ H s:=
 I.pins_of fun p hp=>(AY.mp hp).elim (fun z=>I.pin p (yS _ z)) fun z=>by
  obtain ⟨hb,e⟩:=oQ z
  obtain ⟨f0,f1,f2,_⟩:=hf p.1 hb
  obtain ⟨o,e',d⟩:=ho p.1 hb
  rw[e] at e';cases e'
  exact ⟨e,f0,f1,f2,d⟩
theorem Inv.unpinned {pins pl:List (Addr×Obj)}{σ:St}{H:Hp}{s:yI} (I:Inv X (pins++pl) σ H s):Inv X pins σ H s:=I.pins_of fun p hp=>I.pin p (yS _ (Ak _ hp))
theorem qk {iter:Expr}{body:List Stmt}{wi:TI}{g:TG}{tb:TS}{pos:Pos} (hp:Dp (model X.prog X.w) X.A X.env X.xe) (hc:X.calm=true) (hi:PI X tg iter wi) (hg:PG X tg g) (hb:PSs X body tb)
  (hs:∀x,Ab iter X.env x=pure x:=by intro _;rfl):PS X (.For tg iter body [] pos) (yd wi g tb):=by
 intro pins s σ H D I h
 refine wpAny_For (thn (hi pins s σ H _ I h) fun v s1 h1=>thn h1 fun itv s2 h2=>?_) hs
 obtain ⟨it,fp,tn,J,H2,e,I2,T,st2,f2,W,⟨m0,w0⟩,turn⟩:=h2
 subst e
 have stat:∀{H':Hp},(∀b∈fp,H' b=none)→∀b∈fp,cR X pins H' b:=fun hn b hb=>⟨hn b hb,(f2 b hb).2⟩
 refine codeAny_forLoop_any (fun n s'=>∃i σ' H',Inv X pins σ' H' s'∧tn i s'.heap∧(∀b∈fp,H' b=none)∧W i n σ' H') ?_ m0 ⟨0,σ,H2,I2,st2,fun b hb=>(f2 b hb).1,w0⟩
 rintro n s3 ⟨i,σ3,H3,I3,st3,fr3,w3⟩
 rcases turn i n σ3 H3 w3 with ⟨stop,qn⟩ |⟨go,N,hN,step⟩
 ·refine BI hp (thn (T.done X rfl rfl rfl hc i pins s3 σ3 H3 X.xe I3 (stat fr3) st3 stop) fun r s4 ⟨hr,I4⟩=>?_)
  subst hr
  exact Eu ⟨σ3,H3,I4,qn⟩
 ·refine BI hp (thn (T.item X rfl rfl rfl hc i pins s3 σ3 H3 X.xe I3 (stat fr3) st3 go) fun r s4 ⟨u,hr,h4⟩=>?_)
  subst hr
  refine BI hp (thn h4 fun _ s5 ⟨x,H5,I5,r5,y5,st5,fr5⟩=>?_)
  have I5':=I5.pinned (stat fr5) (T.obj _ _ st5)
  refine BI hp (thn (hg _ s5 σ3 H5 x u _ I5' r5 (step x H5 y5)) fun _ s6 ⟨σ6,H6,I6,q6⟩=>?_)
  refine BI hp (thn (hb _ s6 σ6 H6 _ I6 q6) fun f s7 q7=>?_)
  have again:∀{σ7:St}{H7:Hp},Inv X (pins++i0 fp s5.heap) σ7 H7 s7→N σ7 H7→∃m,m < n∧∃i σ' H',Inv X pins σ' H' s7∧tn i s7.heap∧(∀b∈fp,H' b=none)∧W i m σ' H':=fun {σ7 H7} I7 n7=>by
   obtain ⟨m',hm,w7⟩:=hN σ7 H7 n7
   refine ⟨m',hm,i+1,σ7,H7,I7.unpinned,T.keep _ _ _ st5 fun b hb o e=>(I7.pin (b,o) (yS _ (yS _ (bq hb e)))).1,fun b hb=>?_,w7⟩
   obtain ⟨o,e,d⟩:=T.obj _ _ st5 b hb
   exact (I7.pin (b,o) (yS _ (yS _ (bq hb e)))).2.1
  cases f with
  |next=>obtain ⟨σ7,H7,I7,n7⟩:=q7;exact again I7 n7
  |cont=>obtain ⟨σ7,H7,I7,n7⟩:=q7;exact again I7 n7
  |brk=>obtain ⟨σ7,H7,I7,q7⟩:=q7;exact ⟨σ7,H7,I7.unpinned,q7⟩
  |ret v=>obtain ⟨x7,σ7,H7,I7,r7,q7⟩:=q7;exact ⟨x7,σ7,H7,I7.unpinned,r7,q7⟩
end
abbrev R2:=V→V→Hp→VK→Prop
def OpR (X:Cx) (f:Value→Value→Sem Value) (r:R2):Prop:=
 ∀(pins:List (Addr×Obj)) (s:yI) (σ:St) (H:Hp) (x y:V) (v u:Value) (Q:VK),Inv X pins σ H s→aR x v→aR y u→r x y H Q→
  wpAny (model X.prog X.w) X.A (f v u) (EP X pins σ Q) X.xe s
def UnR (X:Cx) (f:Value→Sem Value) (r:V→Hp→VK→Prop):Prop:=
 ∀(pins:List (Addr×Obj)) (s:yI) (σ:St) (H:Hp) (x:V) (v:Value) (Q:VK),Inv X pins σ H s→aR x v→r x H Q→
  wpAny (model X.prog X.w) X.A (f v) (EP X pins σ Q) X.xe s
def de (X:Cx) (f:Value) (r:List V→Hp→VK→Prop):Prop:=
 ∀(pins:List (Addr×Obj)) (s:yI) (σ:St) (H:Hp) (xs:List V) (us:List Value) (Q:VK),Inv X pins σ H s→aN xs us→r xs H Q→
  wpAny (model X.prog X.w) X.A (call f us) (EP X pins σ Q) X.xe s
def tOp (r:R2) (ta tb:TE):TE:=fun σ H Q=>ta σ H fun x H1=>tb σ H1 fun y H2=>r x y H2 Q
def tUn (r:V→Hp→VK→Prop) (ta:TE):TE:=fun σ H Q=>ta σ H fun x H1=>r x H1 Q
def rI (C:Int→Int→Prop) (g:Int→Int→V):R2:=fun x y H Q=>∃i j,x=.int i∧y=.int j∧C i j∧Q (g i j) H
def rI0 (g:Int→Int→V):R2:=fun x y H Q=>∃i j,x=.int i∧y=.int j∧Q (g i j) H
def rU (g:Int→V):V→Hp→VK→Prop:=fun x H Q=>∃i,x=.int i∧Q (g i) H
section
variable {X:Cx}{a b c:Expr}{ta tb tc:TE}{pos:Pos}
theorem vD (ha:PE X a ta) (hb:PE X b tb) {pins:List (Addr×Obj)}{s:yI}{σ:St}{H:Hp}{R:V→V→Hp→Prop} (I:Inv X pins σ H s)
  (h:ta σ H fun x H1=>tb σ H1 fun y H2=>R x y H2) {Q:Value→yI→Prop}{f:Value→Value→Sem Value}
  (hf:∀v u s2 x y H2,Inv X pins σ H2 s2→aR x v→aR y u→R x y H2→wpAny (model X.prog X.w) X.A (f v u) Q X.xe s2):
  wpAny (model X.prog X.w) X.A (eval a X.env) (fun v s₁=>wpAny (model X.prog X.w) X.A (eval b X.env) (fun u s₂=>wpAny (model X.prog X.w) X.A (f v u) Q X.xe s₂) X.xe s₁) X.xe s:=by
 refine thn (ha pins s σ H _ I h) fun v s1 ⟨x,H1,I1,r1,q1⟩=>?_
 refine thn (hb pins s1 σ H1 _ I1 q1) fun u s2 ⟨y,H2,I2,r2,q2⟩=>?_
 exact hf v u s2 x y H2 I2 r1 r2 q2
theorem pU {op:Hu}{r:R2} (ho:OpR X (CY op) r) (ha:PE X a ta) (hb:PE X b tb):PE X (.BinOp a op b pos) (tOp r ta tb):=by
 intro pins s σ H Q I h
 exact wpAny_BinOp (vD ha hb I h fun v u s2 x y H2 I2 rx ry q=>ho pins s2 σ H2 x y v u Q I2 rx ry q)
theorem xM {op:UnaryOp}{r:V→Hp→VK→Prop} (ho:UnR X (unaryOp op) r) (ha:PE X a ta):PE X (.UnaryOp op a pos) (tUn r ta):=by
 intro pins s σ H Q I h
 exact UnaryOp_ (thn (ha pins s σ H _ I h) fun v s1 ⟨x,H1,I1,r1,q1⟩=>ho pins s1 σ H1 x v Q I1 r1 q1)
theorem opI {f:Value→Value→Sem Value}{C:Int→Int→Prop}{g:Int→Int→Int}
  (rule:∀(i j:Int) (t u:Tok) (s:yI) (Q:Value→yI→Prop) (E:Value→yI→Prop),C i j→Q (.int (g i j) s.toks) {s with toks:=s.toks+1 }→wpAny (model X.prog X.w) X.A (f (.int i t) (.int j u)) Q E s):
  OpR X f (rI C fun i j=>.int (g i j)):=by
 intro pins s σ H x y v u Q I rx ry h
 obtain ⟨i,j,rfl,rfl,hc,q⟩:=h
 obtain ⟨t,rfl⟩:=rx
 obtain ⟨t',rfl⟩:=ry
 exact rule i j t t' s _ _ hc ⟨.int (g i j),H,I.tok _,⟨_,rfl⟩,q⟩
theorem xk {f:Value→Value→Sem Value}{g:Int→Int→Int}
  (rule:∀(i j:Int) (t u:Tok) (s:yI) (Q:Value→yI→Prop) (E:Value→yI→Prop),Q (.int (g i j) s.toks) {s with toks:=s.toks+1 }→wpAny (model X.prog X.w) X.A (f (.int i t) (.int j u)) Q E s):
  OpR X f (rI0 fun i j=>.int (g i j)):=by
 intro pins s σ H x y v u Q I rx ry h
 obtain ⟨i,j,rfl,rfl,q⟩:=h
 obtain ⟨t,rfl⟩:=rx
 obtain ⟨t',rfl⟩:=ry
 exact rule i j t t' s _ _ ⟨.int (g i j),H,I.tok _,⟨_,rfl⟩,q⟩
theorem v5 {f:Value→Value→Sem Value}{g:Int→Int→Bool}
  (rule:∀(i j:Int) (t u:Tok) (s:yI) (Q:Value→yI→Prop) (E:Value→yI→Prop),Q (.bool (g i j)) s→wpAny (model X.prog X.w) X.A (f (.int i t) (.int j u)) Q E s):
  OpR X f (rI0 fun i j=>.bl (g i j)):=by
 intro pins s σ H x y v u Q I rx ry h
 obtain ⟨i,j,rfl,rfl,q⟩:=h
 obtain ⟨t,rfl⟩:=rx
 obtain ⟨t',rfl⟩:=ry
 exact rule i j t t' s _ _ ⟨.bl (g i j),H,I,rfl,q⟩
def xu (i j:Int):Prop:=0≤j∧j≤1000000∧i.natAbs < 2 ^ 64
theorem v_:OpR X (CY .Add) (rI0 fun i j=>.int (i+j)):=xk fun _ _ _ _ _ _ _ q=>add_int q
theorem wQ:OpR X (CY .Sub) (rI0 fun i j=>.int (i - j)):=xk fun _ _ _ _ _ _ _ q=>sub_int q
theorem wB:OpR X (CY .Mod) (rI (fun _ j=>0 < j) fun i j=>.int (i % j)):=opI fun i j _ _ _ _ _ hc q=>by
 have h1:(0:Int) < j:=hc
 exact mod_int' (by omega) (by rw[Int.fmod_eq_emod_of_nonneg i (by omega)];exact q)
theorem vN:OpR X (CY .Pow) (rI xu fun i j=>.int (i ^ j.toNat)):=opI fun _ _ _ _ _ _ _ hc q=>pow_int_small hc.1 hc.2.1 hc.2.2 q
theorem unI {f:Value→Sem Value}{g:Int→Int}
  (rule:∀(i:Int) (t:Tok) (s:yI) (Q:Value→yI→Prop) (E:Value→yI→Prop),Q (.int (g i) s.toks) {s with toks:=s.toks+1 }→wpAny (model X.prog X.w) X.A (f (.int i t)) Q E s):
  UnR X f (rU fun i=>.int (g i)):=by
 intro pins s σ H x v Q I rx h
 obtain ⟨i,rfl,q⟩:=h
 obtain ⟨t,rfl⟩:=rx
 exact rule i t s _ _ ⟨.int (g i),H,I.tok _,⟨_,rfl⟩,q⟩
theorem wM:UnR X (unaryOp .USub) (rU fun i=>.int (-i)):=unI fun _ _ _ _ _ q=>neg_int q
end
def xh:V→V→Bool
 | .non,.non=>true | .non,.int _=>true | .int _,.non=>true | .non,.bl _=>true | .bl _,.non=>true | .non,.str _=>true | .str _,.non=>true
 | .int _,.int _=>true | .bl _,.bl _=>true | .str _,.str _=>true | .byt _,.byt _=>true
 | .int _,.str _=>true | .str _,.int _=>true | .bl _,.str _=>true | .str _,.bl _=>true
 |_,_=>false
def rEq:R2:=fun x y H Q=>xh x y=true∧Q (.bl (decide (x=y))) H
def rNe:R2:=fun x y H Q=>xh x y=true∧Q (.bl (!decide (x=y))) H
theorem ix {i j:Int}:decide (V.int i=V.int j)=(i==j):=by
 rw[Bd]
 simp
theorem rn {i j:Bool}:decide (V.bl i=V.bl j)=(i==j):=by
 rw[Bd]
 simp
theorem nq {i j:Str}:decide (V.str i=V.str j)=(i==j):=by
 rw[Bd]
 simp
theorem nD {i j:Array UInt8}:decide (V.byt i=V.byt j)=(i.toList==j.toList):=by
 rw[Bd]
 cases i
 cases j
 simp
section
variable {X:Cx}{a b c:Expr}{ta tb tc:TE}{pos:Pos}
theorem aW {pins:List (Addr×Obj)}{σ:St}{H:Hp}{s:yI}{Q:VK}{k k':Bool} (I:Inv X pins σ H s) (q:Q (.bl k) H) (e:k=k'):EP X pins σ Q (.bool k') s:=by
 subst e
 exact ⟨.bl k,H,I,rfl,q⟩
theorem xz:OpR X (AJ .Eq) rEq:=by
 intro pins s σ H x y v u Q I rx ry h
 obtain ⟨hs,q⟩:=h
 cases x with
 |non=>
  cases rx
  cases y with
  |non=>cases ry;exact GK (aW I q (by simp))
  |bl j=>cases ry;exact GL (aW I q (by simp))
  |int j=>obtain ⟨t',rfl⟩:=ry;exact Ha (aW I q (by simp))
  |str j=>obtain ⟨t',rfl⟩:=ry;exact Hb (aW I q (by simp))
  |_=>exact absurd (show false=true from hs) zd
 |bl i=>
  cases rx
  cases y with
  |non=>cases ry;exact GM (aW I q (by simp))
  |bl j=>cases ry;exact eq_bool (aW I q rn)
  |str j=>obtain ⟨t',rfl⟩:=ry;exact GN (aW I q (by simp))
  |_=>exact absurd (show false=true from hs) zd
 |int i=>
  obtain ⟨t,rfl⟩:=rx
  cases y with
  |non=>cases ry;exact Hc (aW I q (by simp))
  |int j=>obtain ⟨t',rfl⟩:=ry;exact eq_int (aW I q ix)
  |str j=>obtain ⟨t',rfl⟩:=ry;exact Hd (aW I q (by simp))
  |_=>exact absurd (show false=true from hs) zd
 |str i=>
  obtain ⟨t,rfl⟩:=rx
  cases y with
  |non=>cases ry;exact He (aW I q (by simp))
  |bl j=>cases ry;exact GO (aW I q (by simp))
  |int j=>obtain ⟨t',rfl⟩:=ry;exact Hf (aW I q (by simp))
  |str j=>obtain ⟨t',rfl⟩:=ry;exact eq_str (aW I q nq)
  |_=>exact absurd (show false=true from hs) zd
 |byt i=>
  obtain ⟨t,rfl⟩:=rx
  cases y with
  |byt j=>obtain ⟨t',rfl⟩:=ry;exact PySem.W.eq_bytes (aW I q nD)
  |_=>exact absurd (show false=true from hs) zd
 |_=>cases y <;>exact absurd (show false=true from hs) zd
theorem xI:OpR X (AJ .NotEq) rNe:=by
 intro pins s σ H x y v u Q I rx ry h
 obtain ⟨hs,q⟩:=h
 cases x with
 |non=>
  cases rx
  cases y with
  |non=>cases ry;exact GP (aW I q (by simp))
  |bl j=>cases ry;exact GQ (aW I q (by simp))
  |int j=>obtain ⟨t',rfl⟩:=ry;exact Hg (aW I q (by simp))
  |str j=>obtain ⟨t',rfl⟩:=ry;exact Hh (aW I q (by simp))
  |_=>exact absurd (show false=true from hs) zd
 |bl i=>
  cases rx
  cases y with
  |non=>cases ry;exact GR (aW I q (by simp))
  |bl j=>cases ry;exact ne_bool (aW I q (congrArg not rn))
  |str j=>obtain ⟨t',rfl⟩:=ry;exact GS (aW I q (by simp))
  |_=>exact absurd (show false=true from hs) zd
 |int i=>
  obtain ⟨t,rfl⟩:=rx
  cases y with
  |non=>cases ry;exact Hi (aW I q (by simp))
  |int j=>obtain ⟨t',rfl⟩:=ry;exact ne_int (aW I q (congrArg not ix))
  |str j=>obtain ⟨t',rfl⟩:=ry;exact Hj (aW I q (by simp))
  |_=>exact absurd (show false=true from hs) zd
 |str i=>
  obtain ⟨t,rfl⟩:=rx
  cases y with
  |non=>cases ry;exact Hk (aW I q (by simp))
  |bl j=>cases ry;exact GT (aW I q (by simp))
  |int j=>obtain ⟨t',rfl⟩:=ry;exact Hl (aW I q (by simp))
  |str j=>obtain ⟨t',rfl⟩:=ry;exact ne_str (aW I q (congrArg not nq))
  |_=>exact absurd (show false=true from hs) zd
 |byt i=>
  obtain ⟨t,rfl⟩:=rx
  cases y with
  |byt j=>obtain ⟨t',rfl⟩:=ry;exact PySem.W.ne_bytes (aW I q (congrArg not nD))
  |_=>exact absurd (show false=true from hs) zd
 |_=>cases y <;>exact absurd (show false=true from hs) zd
theorem wU:OpR X (AJ .Lt) (rI0 fun i j=>.bl (decide (i < j))):=v5 fun _ _ _ _ _ _ _ q=>lt_int q
theorem w8:OpR X (AJ .LtE) (rI0 fun i j=>.bl (decide (i≤j))):=v5 fun _ _ _ _ _ _ _ q=>le_int q
theorem wZ:OpR X (AJ .Gt) (rI0 fun i j=>.bl (decide (j < i))):=v5 fun _ _ _ _ _ _ _ q=>gt_int q
theorem qv (b:Expr) {op:CmpOp} (h:op≠.In:=by decide) (h2:op≠.NotIn:=by decide):Cz op b=false:=by
 have e1:(op==CmpOp.In)=false:=by cases op <;>first |rfl |exact absurd rfl h
 have e2:(op==CmpOp.NotIn)=false:=by cases op <;>first |rfl |exact absurd rfl h2
 cases b <;>simp[Cz,e1,e2]
theorem ua {op:CmpOp}{r:R2} (ho:OpR X (AJ op) r) (ha:PE X a ta) (hb:PE X b tb) (hm:Cz op b=false):PE X (.Compare a [op] [b] pos) (tOp r ta tb):=by
 intro pins s σ H Q I h
 exact wpAny_Compare1 (vD ha hb I h fun v u s2 x y H2 I2 rx ry q=>ho pins s2 σ H2 x y v u Q I2 rx ry q) hm
def xL (t:TE):TT:=fun σ H Q=>t σ H fun x H'=>∃k,x=.bl k∧Q k H'
theorem uI {op:CmpOp}{r:R2} (ho:OpR X (AJ op) r) (ha:PE X a ta) (hb:PE X b tb) (hm:Cz op b=false):PT X (.Compare a [op] [b] pos) (xL (tOp r ta tb)):=by
 intro pins s σ H Q I h
 refine wpAny_isTrue_Compare1 (thn (ha pins s σ H _ I h) fun v s1 ⟨x,H1,I1,r1,q1⟩=>thn (hb pins s1 σ H1 _ I1 q1) fun u s2 ⟨y,H2,I2,r2,q2⟩=>
  thn (ho pins s2 σ H2 x y v u _ I2 r1 r2 q2) fun c s3 ⟨z,H3,I3,r3,k,e,q3⟩=>?_) hm
 subst e
 cases r3
 exact Bk ⟨H3,I3,q3⟩
theorem mf:(sizeLine:Nat) < 2 ^ 63:=by rw[Az];decide
theorem gA {x:V}{us:List Value} (r:aN [x] us):∃u,us=[u]∧aR x u:=by
 cases r with
 |cons r1 r2=>cases r2;exact ⟨_,rfl,r1⟩
theorem nJ {x y:V}{us:List Value} (r:aN [x,y] us):∃u w',us=[u,w']∧aR x u∧aR y w':=by
 cases r with
 |cons r1 r2=>
  cases r2 with
  |cons r3 r4=>cases r4;exact ⟨_,_,rfl,r1,r3⟩
theorem rD:de X (.builtin "abs") (fun xs H Q=>∃i,xs=[.int i]∧Q (.int (if i < 0 then -i else i)) H):=by
 intro pins s σ H xs us Q I r h
 obtain ⟨i,rfl,q⟩:=h
 obtain ⟨u,rfl,t,rfl⟩:=gA r
 exact call_abs_int fun u tk=>⟨.int (if i < 0 then -i else i),H,I.tok _,⟨_,rfl⟩,q⟩
theorem oM (hc:X.calm=true):de X (.builtin "min") (fun xs H Q=>∃i j,xs=[.int i,.int j]∧Q (.int (if j < i then j else i)) H):=by
 intro pins s σ H xs us Q I r h
 obtain ⟨i,j,rfl,q⟩:=h
 obtain ⟨u,w',rfl,⟨t,rfl⟩,⟨t',rfl⟩⟩:=nJ r
 refine min_two_ints (I.ok.hd hc) fun h' tk k=>⟨_,H,I.kept k,?_,q⟩
 by_cases hj:j < i
 ·rw[if_pos hj,if_pos hj];exact ⟨_,rfl⟩
 ·rw[if_neg hj,if_neg hj];exact ⟨_,rfl⟩
end
structure wf (h:Heap) (x dx C:Addr) (mA:Str→Option Value):Prop where
 obj:h.get? x=some (Et C dx)
 ns:h.Ns1 dx mA
 ne:dx≠x
theorem pH {h:Heap}{dx:Addr}{mA:Str→Option Value} (n:h.Ns1 dx mA):∃od,h.get? dx=some od∧∀name,E2 name od=some (mA name):=by
 obtain ⟨o,es,ep,ho,hd,hk,_,hm⟩:=n
 refine ⟨o,ho,fun name=>?_⟩
 have e:=hm name
 unfold nsFind findBy at e
 rw[←Array.find?_toList] at e
 unfold E2
 rw[hd]
 dsimp only
 split
 ·rename_i y q
  rw[q] at e
  exact congrArg some e
 ·rename_i q
  rw[q] at e
  have a:es.toList.any (·.refKey)=false:=by
   rw[List.any_eq_false]
   intro y hy
   obtain ⟨z,t,hkey⟩:=hk y (Df.mp hy)
   simp[DictEntry.refKey,hkey]
  have a':¬ es.toList.any (·.refKey)=true:=by rw[a];exact zd
  rw[if_neg a']
  exact congrArg some e
theorem wf.look {h:Heap}{x dx C:Addr}{mA:Str→Option Value} (I:wf h x dx C mA):∃od,PySem.W.InstAt h x (Et C dx) C (some od)∧∀name,E2 name od=some (mA name):=
 let ⟨od,ho,hl⟩:=pH I.ns
 ⟨od,⟨I.obj,rfl,rfl,ho⟩,hl⟩
section
variable {prog:yT}{w:World}{A:zh}{E:Value→yI→Prop}{s:yI}{K:yH}{x dx C f:Addr}{mA:Str→Option Value}{name:Str}{v:Value}
end
def putF (f:Str) (v:V):List (Str×V)→List (Str×V)
 |[]=>[(f,v)]
 | (g,x)::r=>if g=f then (g,v)::r else (g,x)::putF f v r
section
variable {P:yT}{w:World}{H H':Hp}{h h':Heap}{a C dx:Addr}{fs fs':List (Str×V)}
theorem tT (hok:HOk P w H h) (e:H a=some (.ins C dx fs)):∃mA,wf h a dx C mA∧(∀f,vL (fs.lookup f) (mA f))∧HC mA (fs.map (·.1))∧fs.length≤1000∧H dx=some (.own a):=by
 obtain ⟨d,z,ne,ob,mA,n,r,q⟩:=(show cg P w H h a (.ins C dx fs) from hok a _ e)
 exact ⟨mA,⟨ob,n,ne⟩,r,q,z,d⟩
end
structure Cls (K:yH) (C:Addr):Prop where
 pg:FZ K C Str.empty=true
 hd:PySem.W.hasDictIn K C=true
 po:PySem.W.plainOver K C=true
 sa:CZ K (.ref C) "__setattr__"=some (some (.builtin "object.__setattr__"))
theorem Cls.get {K:yH}{C:Addr} (c:Cls K C) (f:Str):FZ K C f=true:=c.pg
structure Con (K:yH) (C:Addr) (f:Str) (v:V) (u:Value):Prop where
 at_:CZ K (.ref C) f=some (some u)
 rel:aR v u
 get:FB K u "__get__"=some none
 cp:PySem.W.copiedNames.contains f=false
structure yB (K:yH) (C:Addr) (m:Str) (f:Addr):Prop where
 at_:CZ K (.ref C) m=some (some (.ref f))
 fn:HF K (.ref f)=true
 kp:yZ K (.ref f)=true
section
variable {X:Cx}{pins:List (Addr×Obj)}{σ:St}{H:Hp}{s:yI}{a C dx:Addr}{fs:List (Str×V)}{f:Str}{v:V}{A:zh}{E:Value→yI→Prop}
end
section
variable {X:Cx}{o e value:Expr}{f:Str}{pos pos' tpos:Pos}{ta tv:TE}
end
section
variable {X:Cx}{pins:List (Addr×Obj)}{σ:St}{H:Hp}{s:yI}{A:zh}{E:Value→yI→Prop}{Q:Value→yI→Prop}{c:Value}{b:Bool}
inductive ig (K:yH) (H:Hp):V→Value→Prop where
 |non:ig K H .non (.type "NoneType")
 |bl (x:Bool):ig K H (.bl x) (.type "bool")
 |int (i:Int):ig K H (.int i) (.type "int")
 |str (x:Str):ig K H (.str x) (.type "str")
 |flt (x:UInt64):ig K H (.flt x) (.type "float")
 |lst {a:Addr}{xs:List V} (e:H a=some (.lst xs)):ig K H (.ref a) (.type "list")
 |frz {a:Addr}{o:Obj}{xs:List V} (e:H a=some (.frz o (.lst xs))):ig K H (.ref a) (.type "list")
 |tup {a:Addr}{xs:List V} (e:H a=some (.tup xs)):ig K H (.ref a) (.type "tuple")
 |dK {a:Addr}{kvs:List (Key×V)} (e:H a=some (.dK kvs)):ig K H (.ref a) (.type "dict")
 |dT {a:Addr}{kvs:List (List Key×V)} (e:H a=some (.dT kvs)):ig K H (.ref a) (.type "dict")
 |ins {a C dx:Addr}{fs:List (Str×V)} (e:H a=some (.ins C dx fs)) (cl:Cls K C) (ha:CZ K (.ref C) "__class__"=some (some (.builtin "object.__class__")))
   (hn:FB K (.builtin "object.__class__") "__get__"=some (some (.builtin "getset_descriptor.__get__"))) (htk:PySem.W.takesIn K (.builtin "object.__class__")=some true)
   (hm:PySem.W.mroIn K C (.type "object")=some true):ig K H (.ref a) (.ref C)
theorem cX {x:V}{u t:Value} (I:Inv X pins σ H s) (rx:aR x u) (ty:ig X.K H x t) (e:DH X.K t c=some b) (h:∀tk,Q (.bool b) {s with toks:=tk }):
  wpAny (model X.prog X.w) A (call (.builtin "isinstance") [u,c]) Q E s:=by
 cases ty with
 |non=>cases (show u=zl from rx);exact Ar PySem.W.kitx_none I.kIn True.intro e (fun z=>nomatch z) h
 |bl y=>cases (show u=zT y from rx);exact Ar PySem.W.kitx_bool I.kIn True.intro e (fun z=>nomatch z) h
 |int i=>obtain ⟨t,q⟩:=(show ∃t,u=zR i t from rx);cases q;exact Ar PySem.W.kitx_int I.kIn True.intro e (fun z=>nomatch z) h
 |str y=>obtain ⟨t,q⟩:=(show ∃t,u=Ad y t from rx);cases q;exact Ar PySem.W.kitx_str I.kIn True.intro e (fun z=>nomatch z) h
 |flt y=>obtain ⟨t,q⟩:=(show ∃t,u=HQ y t from rx);cases q;exact Ar PySem.W.kitx_float I.kIn True.intro e (fun z=>nomatch z) h
 | @lst a xs ea=>
  cases (show u=zY a from rx)
  obtain ⟨_,_,n,_,h1⟩:=(show cg X.prog X.w H s.heap a (.lst xs) from I.hok a _ ea)
  exact Ar DN I.kIn ⟨_,h1,rfl⟩ e (fun z=>nomatch z) h
 | @frz a ob xs ea=>
  cases (show u=zY a from rx)
  obtain ⟨_,_,_,n,_,h1⟩:=(show cg X.prog X.w H s.heap a (.frz ob (.lst xs)) from I.hok a _ ea)
  exact Ar DN I.kIn ⟨_,h1,rfl⟩ e (fun z=>nomatch z) h
 | @tup a xs ea=>
  cases (show u=zY a from rx)
  obtain ⟨_,_,_,p⟩:=(show cg X.prog X.w H s.heap a (.tup xs) from I.hok a _ ea)
  obtain ⟨o,h1,h2,_⟩:=p
  exact Ar Fi I.kIn ⟨o,h1,h2⟩ e (fun z=>nomatch z) h
 | @dK a kvs ea=>
  cases (show u=zY a from rx)
  obtain ⟨_,_,vs,_,p⟩:=(show cg X.prog X.w H s.heap a (.dK kvs) from I.hok a _ ea)
  obtain ⟨o,es,ep,h1,h2,_⟩:=p
  exact Ar FC I.kIn ⟨o,h1,h2.1⟩ e (fun z=>nomatch z) h
 | @dT a kvs ea=>
  cases (show u=zY a from rx)
  obtain ⟨_,_,xs,_,o,es,ep,h1,h2,_⟩:=(show cg X.prog X.w H s.heap a (.dT kvs) from I.hok a _ ea)
  exact Ar FC I.kIn ⟨o,h1,h2.1⟩ e (fun z=>nomatch z) h
 | @ins a C dx fs ea cl ha hn htk hm=>
  cases (show u=zY a from rx)
  obtain ⟨mA,O,_⟩:=tT I.hok ea
  obtain ⟨od,J,_⟩:=O.look
  exact Ar (PySem.W.kitx_own (cl.get _) cl.hd ha hn htk hm) I.kIn J e (fun z=>nomatch z) h
end
structure dk (k:Nat) (A:zh):Prop where
 hd:A.handled=none
 dp:A.depth+3*k+5 < DI
 un:A.units+16*k+200 < cLine
theorem dk.mono {j k:Nat}{A:zh} (r:dk k A) (h:j≤k):dk j A:=⟨r.hd,by have:=r.dp;omega,by have:=r.un;omega⟩
theorem dk.deeper {k:Nat}{A:zh} (r:dk (k+1) A) (env:Env):dk k (A.deeper env):=
 ⟨r.hd,by have:=r.dp;show A.depth+1+3*k+5 < _;omega,by have:=r.un;show A.units+3+16*k+200 < _;omega⟩
theorem dk.in1 {k:Nat}{A:zh} (r:dk (k+1) A):dk k A.in1:=
 ⟨r.hd,by have:=r.dp;show A.depth+3*k+5 < _;omega,by have:=r.un;show A.units+1+16*k+200 < _;omega⟩
theorem dk.depth {k:Nat}{A:zh} (r:dk k A):A.depth < DI:=by have:=r.dp;omega
def yr:TA:=fun _ H Q=>Q [] H
def w9 (ta:TE) (tr:TA):TA:=fun σ H Q=>ta σ H fun x H1=>tr σ H1 fun xs H2=>Q (x::xs) H2
section
variable {X:Cx}{e:Expr}{es:List Expr}{te:TE}{t:TA}{pos:Pos}
theorem dY:PA X [] yr:=fun _ _ _ _ H Q I h=>DO ⟨[],H,I,.nil,h⟩
theorem ci (ha:PE X e te) (hr:PA X es t) (hs:yW (e::es) X.env=(false,eval e X.env)::yW es X.env:=by rfl):PA X (e::es) (w9 te t):=by
 intro pos pins s σ H Q I h
 rw[hs]
 show wpAny _ _ (spliced ((false,eval e X.env)::C5 pos (yW es X.env))) _ _ s
 refine DB (thn (ha pins s σ H _ I h) fun u s1 ⟨x,H1,I1,r1,q1⟩=>?_)
 exact thn (hr pos pins s1 σ H1 _ I1 q1) fun us s2 ⟨xs,H2,I2,r2,q2⟩=>⟨x::xs,H2,I2,.cons r1 r2,q2⟩
def x9 (t:TA):TE:=fun σ H Q=>t σ H fun xs H1=>xs.length≤sizeLine∧∀p,H1 p=none→Q (.ref p) (upd H1 p (.tup xs))
def ym (t:TA):TE:=fun σ H Q=>t σ H fun xs H1=>xs.length≤sizeLine∧∀p,H1 p=none→Q (.ref p) (upd H1 p (.lst xs))
theorem vV {x1} (h:PA X es t):PE X (.Tuple es x1 pos) (x9 t):=by
 intro pins s σ H Q I hq
 refine wpAny_Tuple_spliced (thn (h pos pins s σ H _ I hq) fun us s1 ⟨xs,H1,I1,r,z,q⟩=>⟨by rw[←r.length];exact z,?_⟩)
 have hf:H1 s1.heap.objs.size=none:=I1.hok.fresh (yO _)
 refine ⟨.ref s1.heap.objs.size,upd H1 s1.heap.objs.size (.tup xs),I1.laid (t':=s1.toks) (fun b u e=>yG _ e) (yO _) ?_,rfl,q _ hf⟩
 exact ⟨z,us,r,⟨_,yR _ rfl,rfl,_,rfl⟩⟩
theorem rC (h:PA X es t):PE X (.List es pos) (ym t):=by
 intro pins s σ H Q I hq
 refine wpAny_List_spliced (thn (h pos pins s σ H _ I hq) fun us s1 ⟨xs,H1,I1,r,z,q⟩=>⟨by rw[←r.length];exact z,?_⟩)
 have hf:H1 s1.heap.objs.size=none:=I1.hok.fresh (yO _)
 refine ⟨.ref s1.heap.objs.size,upd H1 s1.heap.objs.size (.lst xs),I1.laid (t':=s1.toks) (fun b u e=>yG _ e) (yO _) ?_,rfl,q _ hf⟩
 exact ⟨z,us,0,r,yR _ rfl⟩
end
abbrev Sp:=List V→Hp→VK→XK→Prop
abbrev CXT:=List Env→Hp→yI→XK→Value→yI→Prop
structure mW (P:yT) (w:World) (K:yH) (mg:Str→Option Value) (base:Heap) (A:zh) (outer:List Env) (s:yI) (H:Hp):Prop where
 frames:A.frames=some outer
 mod:Mod K mg base
 bs:∀b o,base.get? b=some o→s.heap.get? b=some o∧H b=none
 bsz:base.objs.size≤s.heap.objs.size
 funs:s.heap.FunFrames base outer
 frf:Frf mg base (frs outer) H
 hok:HOk P w H s.heap
 bare:D0 s.gens
def CE (outer:List Env) (P:yT) (w:World) (H:Hp) (s:yI) (Q:VK) (u:Value) (s':yI):Prop:=
 ∃v H',s'.os=s.os∧D0 s'.gens∧Un (frs outer) [] H H' s.heap s'.heap∧HOk P w H' s'.heap∧aR v u∧Q v H'
def CR (CX:CXT) (outer:List Env) (P:yT) (w:World) (H:Hp) (s:yI) (Q:VK) (E:XK) (r:Fj) (s':yI):Prop:=
 match r with
 | .ok (.ret u)=>CE outer P w H s Q u s'
 | .ok _=>False
 | .error e=>CX outer H s E e s'
structure bD (P:yT) (w:World) (K:yH) (mg:Str→Option Value) (base:Heap) (CX:CXT) (k:Nat) (f:Addr) (fd:zG) (ps:List Str) (sp:Sp):Prop where
 len:∀vs H Q E,sp vs H Q E→vs.length=ps.length
 run:∀(A:zh) (outer:List Env) (s:yI) (H:Hp) (args:Args) (us:List Value) (vs:List V) (Q:VK) (E:XK),dk k A→mW P w K mg base A outer s H→E_ s fd args (ps.zip us)→aN vs us→sp vs H Q E→
  CA (model P w) A (.call (.ref f) args) (CR CX outer P w H s Q E) s
theorem bD.mono {P:yT}{w:World}{K:yH}{mg:Str→Option Value}{base:Heap}{CX:CXT}{j k:Nat}{f:Addr}{fd:zG}{ps:List Str}{sp:Sp} (F:bD P w K mg base CX j f fd ps sp) (h:j≤k):
  bD P w K mg base CX k f fd ps sp:=⟨F.len,fun A outer s H args us vs Q E hr=>F.run A outer s H args us vs Q E (hr.mono h)⟩
theorem mW.in1 {P:yT}{w:World}{K:yH}{mg:Str→Option Value}{base:Heap}{A:zh}{outer:List Env}{s:yI}{H:Hp} (e:mW P w K mg base A outer s H):
  mW P w K mg base A.in1 outer s H:=⟨e.frames,e.mod,e.bs,e.bsz,e.funs,e.frf,e.hok,e.bare⟩
section
variable {X:Cx}{pins:List (Addr×Obj)}{σ:St}{H:Hp}{s s':yI}
theorem Inv.env0 (I:Inv X pins σ H s):mW X.prog X.w X.K X.mg X.base X.A X.stack s H:=
 ⟨I.ok.frames,I.ok.mod,I.bs,AH I.ok.bsz I.sz,I.stack,⟨I.stkFree,I.amb⟩,I.hok,I.bare⟩
theorem Inv.after {Q:VK}{u:Value} (I:Inv X pins σ H s) (h:CE X.stack X.prog X.w H s Q u s'):EP X pins σ Q u s':=by
 obtain ⟨v,H',os,bare,un,hok,r,q⟩:=h
 obtain ⟨hh,g,d,t,os'⟩:=s'
 obtain rfl:os'=s.os:=os
 exact ⟨v,H',I.call (h':=hh) (g':=g) (d':=d) (t':=t) (ch:=[]) un hok bare (fun b z=>absurd z (by simp)),r,q⟩
end
def xn (sp:Sp) (dvs:List V) (E:XK) (t:TA):TE:=fun σ H Q=>t σ H fun vs H1=>sp (vs++dvs) H1 Q E
def bh (K:yH) (fd:zG) (ps:List Str) (ds:List Value):Prop:=
 ∀(s:yI) (us:List Value),K.In s.heap→(us++ds).length=ps.length→E_ s fd ⟨us,[]⟩ (ps.zip (us++ds))
theorem bh.all {K:yH}{fd:zG}{ps:List Str} (h:∀us:List Value,us.length=ps.length→Ap fd ⟨us,[]⟩=pure (ps.zip us)):bh K fd ps []:=fun s us _ hl=>by
 rw[CB] at hl ⊢
 exact .of_eq (h us hl)
def ja (CX:CXT) (X:Cx) (E:XK):Prop:=∀(pins:List (Addr×Obj)) (σ:St) (H:Hp) (s:yI) (e:Value) (s':yI),Inv X pins σ H s→CX X.stack H s E e s'→X.xe e s'
section
variable {X:Cx}{CX:CXT}{k:Nat}{f C:Addr}{fd:zG}{ps:List Str}{sp:Sp}{dvs:List V}{ds:List Value}{E:XK}{x m:Str}{p pos apos:Pos}{e o:Expr}{es:List Expr}{ta:TE}{t:TA}
theorem wc {pins:List (Addr×Obj)}{σ:St}{H:Hp}{s:yI}{Q:VK}{us:List Value}{vs:List V} (F:bD X.prog X.w X.K X.mg X.base CX k f fd ps sp) (hr:dk k X.A) (hb:bh X.K fd ps ds) (hd:aN dvs ds) (hx:ja CX X E)
  (I:Inv X pins σ H s) (r:aN vs us) (h:sp (vs++dvs) H Q E):wpAny (model X.prog X.w) X.A (call (.ref f) us) (EP X pins σ Q) X.xe s:=by
 have r2:aN (vs++dvs) (us++ds):=r.append hd
 have hl:(us++ds).length=ps.length:=by rw[←r2.length];exact F.len _ _ _ _ h
 refine Hm (C7 (F.run X.A X.stack s H ⟨us,[]⟩ (us++ds) (vs++dvs) Q E hr I.env0 (hb s us I.kIn hl) r2 h) fun r s' hq=>?_)
 cases r with
 |error e=>exact hx pins σ H s e s' I hq
 |ok fl=>
  cases fl with
  |ret u=>exact I.after hq
  |next=>exact False.elim hq
  |brk=>exact False.elim hq
  |cont=>exact False.elim hq
theorem oh (F:bD X.prog X.w X.K X.mg X.base CX k f fd ps sp) (hr:dk k X.A) (hg:Gl X x) (hm:X.mg x=some (.ref f)) (hk:yZ X.K (.ref f)=true) (hb:bh X.K fd ps ds) (hd:aN dvs ds) (hx:ja CX X E)
  (ha:PA X (e::es) t) (hdb:(x==("__debug__":Str))=false:=by decide) (he:yW (e::es) X.env=(false,eval e X.env)::yW es X.env:=by rfl) (hpl:(C5 pos (yW es X.env)).any (·.1)=false:=by rfl):
  PE X (.Call (.Name x p) (e::es) [] pos) (xn sp dvs E t):=by
 intro pins s σ H Q I h
 refine Aw (uv I hg hm ?_ hdb)
 refine PySem.W.callWith_K (h₀:=X.base) I.ok.mod.kin hk (thn (ha pos pins s σ H _ I h) fun us s1 ⟨vs,H1,I1,r,q⟩=>⟨I1.kIn,?_⟩) he hpl
 exact wc F hr hb hd hx I1 r q
structure Mk (K:yH) (C f:Addr):Prop where
 makes:PySem.W.makesIn K C=true
 init:CZ K (.ref C) "__init__"=some (some (.ref f))
 fn:HF K (.ref f)=true
 kp:yZ K (.ref C)=true
end
section
variable {X:Cx}{CX:CXT}{k:Nat}{f C:Addr}{fd:zG}{ps ks:List Str}{sp:Sp}{E:XK}{x m:Str}{p pos apos kpos:Pos}{e o:Expr}{es:List Expr}{kws:List Gm}{te ta:TE}{t tk:TA}{nm:Option Str}
structure xV (K:yH) (fd:zG) (ps ks:List Str) (g:List Value→List Value→List Value) (gV:List V→List V→List V):Prop where
 to:∀(s:yI) (us ws:List Value),K.In s.heap→(g us ws).length=ps.length→E_ s fd ⟨us,ks.zip ws⟩ (ps.zip (g us ws))
 rel:∀{vs:List V}{us:List Value}{zs:List V}{ws:List Value},aN vs us→aN zs ws→aN (gV vs zs) (g us ws)
variable {g:List Value→List Value→List Value}{gV:List V→List V→List V}
end
structure aF (N P:List Str) (sc:Scope):Prop where
 kind:sc.kind=.function
 co:sc.isCoroutine=false
 gen:sc.isGenerator=false
 nd:N.Nodup
 pre:N.take P.length=P
 par:∀x∈P,sc.names.lookup x=some .local∨sc.names.lookup x=some .cell
 nofree:∀y∈sc.names,y.2≠.free
theorem jJ {kindOf:Str→Option BF}{x:Str}:∀{binds:List (Str×Value)}{m:Str→Option Value},(∀v,(x,v) ∉ binds)→bindL kindOf binds m x=m x
 |[],_,_=>rfl
 | (n,v)::r,m,h=>by
  unfold bindL
  rw[jJ fun w hw=>h w (yM _ hw)]
  split
  ·have:x≠n:=by rintro rfl;exact h v yV
   simp[this]
  ·rfl
theorem jC {kindOf:Str→Option BF}{x:Str}:∀{binds:List (Str×Value)}{m:Str→Option Value},(∀v,(x,v) ∉ binds)→bindC kindOf binds m x=m x
 |[],_,_=>rfl
 | (n,v)::r,m,h=>by
  unfold bindC
  rw[jC fun w hw=>h w (yM _ hw)]
  split
  ·rfl
  ·have:x≠n:=by rintro rfl;exact h v yV
   simp[this]
theorem jB {kindOf:Str→Option BF}{x:Str}{v:Value}:∀{P:List Str}{vs:List Value}{i:Nat}{m:Str→Option Value},P.Nodup→P[i]?=some x→vs[i]?=some v→kindOf x=some .local→
  bindL kindOf (P.zip vs) m x=some v
 |[],_,_,_,_,h,_,_=>by simp at h
 |_::_,[],_,_,_,_,h,_=>by simp at h
 |p::P,w::vs,0,m,nd,h1,h2,hk=>by
  simp at h1 h2;subst h1;subst h2
  show bindL kindOf ((p,w)::P.zip vs) m p=_
  unfold bindL
  rw[jJ fun v hv=>(Bm.mp nd).1 (Ey hv).1,if_pos hk]
  simp
 |p::P,w::vs,i+1,m,nd,h1,h2,hk=>by
  show bindL kindOf ((p,w)::P.zip vs) m x=_
  unfold bindL
  exact jB (i:=i) (Bm.mp nd).2 (by simpa using h1) (by simpa using h2) hk
theorem jH {kindOf:Str→Option BF}{x:Str}{v:Value}:∀{P:List Str}{vs:List Value}{i:Nat}{m:Str→Option Value},P.Nodup→P[i]?=some x→vs[i]?=some v→kindOf x≠some .local→
  bindC kindOf (P.zip vs) m x=some v
 |[],_,_,_,_,h,_,_=>by simp at h
 |_::_,[],_,_,_,_,h,_=>by simp at h
 |p::P,w::vs,0,m,nd,h1,h2,hk=>by
  simp at h1 h2;subst h1;subst h2
  show bindC kindOf ((p,w)::P.zip vs) m p=_
  unfold bindC
  rw[jC fun v hv=>(Bm.mp nd).1 (Ey hv).1,if_neg hk]
  simp
 |p::P,w::vs,i+1,m,nd,h1,h2,hk=>by
  show bindC kindOf ((p,w)::P.zip vs) m x=_
  unfold bindC
  exact jH (i:=i) (Bm.mp nd).2 (by simpa using h1) (by simpa using h2) hk
def start (N:List Str) (vs:List V):St:=vs.map some++GU (N.length - vs.length) none
def kW (CX:CXT) (P:yT) (w:World) (K:yH) (mg:Str→Option Value) (base:Heap) (N:List Str) (qual:Str) (scope:Scope) (f:Addr) (cd:Value) (A:zh) (outer:List Env) (s:yI) (H:Hp) (E:XK):Cx where
 prog:=P
 w:=w
 K:=K
 mg:=mg
 base:=base
 A:=A.deeper (E3 qual scope s.heap.objs.size f cd)
 N:=N
 s₀:=s
 H₀:=H
 env:=E3 qual scope s.heap.objs.size f cd
 outer:=outer
 stack:=E3 qual scope s.heap.objs.size f cd::outer
 ex:=[]
 calm:=true
 fn:=fun _=>true
 pn:=[]
 xe:=fun e s'=>wpAny (model P w) (A.deeper (E3 qual scope s.heap.objs.size f cd)) (leaving (E3 qual scope s.heap.objs.size f cd) e) (fun _ s''=>CX outer H s E e s'') (fun e' s''=>CX outer H s E e' s'') s'
theorem lN {sc:Scope}{n:Nat}{x:Str} (h:sc.names.lookup x=some .cell):∃c,(Am n sc.names []).lookup x=some c:=by
 have q:=Bs sc.names n [] (.inl h)
 exact Cu.mp q
theorem pw {CX:CXT}{P:yT}{w:World}{K:yH}{mg:Str→Option Value}{base:Heap}{N ps:List Str}{qual:Str}{scope:Scope}{f:Addr}{cd:Value}{A:zh}{outer:List Env}{s s1:yI}{H:Hp}{E:XK}{us:List Value}{vs:List V}
  (S:aF N ps scope) (hd:A.handled=none) (e0:mW P w K mg base A outer s H) (hl:vs.length=ps.length) (r:aN vs us)
  (x:InCallC s s.heap.objs.size (bindL (E3 qual scope s.heap.objs.size f cd).kindOf (ps.zip us) fun _=>none) (Am (s.heap.objs.size+1) scope.names []) (bindC (E3 qual scope s.heap.objs.size f cd).kindOf (ps.zip us) fun _=>none) s1):
  Inv (kW CX P w K mg base N qual scope f cd A outer s H E) [] (start N vs) H s1:=by
 have hpl:ps.length≤N.length:=by have:=congrArg List.length S.pre;rw[F_] at this;omega
 obtain ⟨h1,tk,rfl,hk⟩:=x.done
 have noA:∀b:Addr,b ∉ (kW CX P w K mg base N qual scope f cd A outer s H E).ex:=fun b z=>absurd (show b∈([]:List Addr) from z) (by simp)
 refine ⟨⟨e0.mod,S.kind,rfl,rfl,yO _,fun y z c h1 h2=>?_,fun y hy=>?_,fun y c _ h=>?_,fun _=>hd,ES e0.frames,.inr ⟨rfl,rfl⟩,fun b z=>absurd z (noA b),e0.bs,e0.bsz,fun b _ _=>noA b,fun b z=>absurd z (noA b),e0.funs,e0.frf⟩,
  rfl,e0.bare,Un.kept hk,⟨_,x.toInCall.ns,fun i y v h1 h2 h3=>?_⟩,fun y c h=>⟨_,x.cell y c h⟩,e0.hok.fresh (yO _),fun y c h=>?_,fun p hp=>absurd (show p∈([]:List (Addr×Obj)) from hp) (by simp),e0.hok.kept hk,?_⟩
 ·exact name_of_addr x.apart (zL h1) (zL h2)
 ·have hy:scope.names.lookup y=some .cell∨scope.names.lookup y=some .free:=hy
  rcases hy with hy |hy
  ·exact lN hy
  ·exact absurd rfl (S.nofree _ (zL hy))
 ·exact Af (x.above y c (zL h))
 ·have hi:i < vs.length:=by
   unfold start at h2
   by_cases hi:i < vs.length
   ·exact hi
   ·rw[zm (by simpa using hi)] at h2
    rw[Bi] at h2
    split at h2 <;>cases h2
  have ha:vs[i]?=some v:=by
   unfold start at h2
   rw[zE (by simpa using hi),yN] at h2
   cases e:vs[i]? with
   |none=>rw[e] at h2;cases h2
   |some a=>rw[e] at h2;cases h2;rfl
  obtain ⟨u,hu,rv⟩:=r.get ha
  have hp:ps[i]?=some y:=by
   rw[←S.pre,BJ (by omega)];exact h1
  have ndP:ps.Nodup:=by rw[←S.pre];exact S.nd.sublist (List.take_sublist _ _)
  refine ⟨u,rv,?_⟩
  rcases S.par y (zi hp) with k |k
  ·exact .inl ⟨k,jB ndP hp hu k⟩
  ·obtain ⟨c,e⟩:=lN (n:=s.heap.objs.size+1) k
   refine .inr ⟨.inl k,c,e,?_⟩
   have q:=x.cell y c e
   rw[jH ndP hp hu (by show scope.names.lookup y≠_;rw[k];decide)] at q
   exact q
 ·exact e0.hok.fresh (Af (x.above y c (zL h)))
 ·unfold start
  show _=N.length
  rw[zM,yK,By]
  omega
theorem uS {CX:CXT}{P:yT}{w:World}{K:yH}{mg:Str→Option Value}{base:Heap}{k:Nat}{f:Addr}{name qual:Str}{params:Fk}{body:List Stmt}{scope:Scope}{dV kV doc pm cdv ct oc:Value}{an od:Option Addr}
  {osl:Array (Option Value)}{N ps:List Str}{sp:Sp} (lk:K.lookup f=some ⟨oc,od,.func (zr name qual params body scope dV kV doc pm an cdv ct),osl⟩) (hcd:y3 K cdv qual=true) (S:aF N ps scope)
  (len:∀vs H Q E,sp vs H Q E→vs.length=ps.length)
  (hbody:∀(A:zh) (outer:List Env) (s:yI) (H:Hp) (vs:List V) (Q:VK) (E:XK),dk k (A.deeper (E3 qual scope s.heap.objs.size f cdv))→sp vs H Q E→
   ∃t,PSs (kW CX P w K mg base N qual scope f cdv A outer s H E) body t∧t {nx:=fun _ H'=>Q .non H',rt:=Q } (start N vs) H):
  bD P w K mg base CX (k+1) f (zr name qual params body scope dV kV doc pm an cdv ct) ps sp:=by
 refine ⟨len,fun A outer s H args us vs Q E hr e0 hb r hsp=>?_⟩
 have hl:=len _ _ _ _ hsp
 have KX:K.In s.heap:=e0.mod.kin.keeps fun b o e=>(e0.bs b o e).1
 have lim:s.heap.NoLimit:=e0.mod.nolimit.keeps fun b o e=>(e0.bs b o e).1
 have hkind:∀y∈ps.zip us,scope.names.lookup y.1=some .local∨(scope.names.lookup y.1=some .cell∧((Am (s.heap.objs.size+1) scope.names []).lookup y.1).isSome=true):=fun ⟨n,v⟩ hy=>by
  rcases S.par n (Ey hy).1 with q |q
  ·exact .inl q
  ·exact .inr ⟨q,Bs _ _ _ (.inl q)⟩
 refine codeAny_call_function hr.depth (KX _ _ lk) rfl S.co S.gen rfl (PySem.W.codeRec_of KX hcd) (hb _ _ _ _ ?_)
 refine wpAny_newFunctionEnv_cells S.kind hkind fun env he s1 x=>?_
 subst he
 refine ⟨lim.keeps x.toInCall.keep,codeAny_func ?_⟩
 obtain ⟨t,ht,hq⟩:=hbody A outer s H vs Q E (hr.deeper _) hsp
 have I:Inv (kW CX P w K mg base N qual scope f cdv A outer s H E) [] (start N vs) H s1:=pw S hr.hd e0 hl r x
 refine AQ (ht [] s1 (start N vs) H _ I hq) (fun fl s' hs=>?_) fun e s' hs=>hs
 have fin:∀{σ':St}{H':Hp}{v:V}{u:Value},Inv (kW CX P w K mg base N qual scope f cdv A outer s H E) [] σ' H' s'→aR v u→Q v H'→CE outer P w H s Q u s':=
  fun {σ' H' v u} J rv q=>⟨v,H',J.os,J.bare,J.base,J.hok,rv,q⟩
 cases fl with
 |ret u=>
  obtain ⟨v,σ',H',J,rv,q⟩:=hs
  exact fin J rv q
 |next=>
  obtain ⟨σ',H',J,q⟩:=hs
  exact fin (v:=V.non) (u:=zl) J rfl q
 |brk=>
  obtain ⟨_,_,_,q⟩:=hs
  exact False.elim q
 |cont=>
  obtain ⟨_,_,_,q⟩:=hs
  exact False.elim q
section
variable {X:Cx}{x:Str}{p pos:Pos}{e:Expr}{es:List Expr}{t:TA}{id T:String}{r:List V→Hp→VK→Prop}
def tCB (r:List V→Hp→VK→Prop) (t:TA):TE:=fun σ H Q=>t σ H fun vs H1=>r vs H1 Q
theorem k_ (hc:de X (.builtin id) r) (hg:Gl X x) (hm:X.mg x=none) (hv:A3 x=some (.builtin id)) (ha:PA X (e::es) t) (hn:x≠"__name__":=by decide) (hdb:(x==("__debug__":Str))=false:=by decide)
  (he:yW (e::es) X.env=(false,eval e X.env)::yW es X.env:=by rfl) (hpl:(C5 pos (yW es X.env)).any (·.1)=false:=by rfl):PE X (.Call (.Name x p) (e::es) [] pos) (tCB r t):=by
 intro pins s σ H Q I h
 refine Aw (cQ I hg hm hv ?_ hn hdb)
 exact PyProof.Rows.callWith_builtin1 (thn (ha pos pins s σ H _ I h) fun us s1 ⟨vs,H1,I1,r1,q1⟩=>hc pins s1 σ H1 vs us Q I1 r1 q1) he hpl
theorem ov (hc:de X (.type T) r) (hg:Gl X x) (hm:X.mg x=none) (hv:A3 x=some (.type T)) (ha:PA X (e::es) t) (hn:x≠"__name__":=by decide) (hdb:(x==("__debug__":Str))=false:=by decide)
  (he:yW (e::es) X.env=(false,eval e X.env)::yW es X.env:=by rfl) (hpl:(C5 pos (yW es X.env)).any (·.1)=false:=by rfl):PE X (.Call (.Name x p) (e::es) [] pos) (tCB r t):=by
 intro pins s σ H Q I h
 refine Aw (cQ I hg hm hv ?_ hn hdb)
 exact PyProof.Rows.callWith_type1 (thn (ha pos pins s σ H _ I h) fun us s1 ⟨vs,H1,I1,r1,q1⟩=>hc pins s1 σ H1 vs us Q I1 r1 q1) he hpl
end
end L2
namespace HT
open PySem PyProof.Rows
section
open PySem.SeqAt
open PySem.AutoSeq1 (wpAny_loadPart')
open PySem.MeetsSeq PySem.MeetsSeq2 PySem.MeetsSeq3
end
section
variable {prog:yT}{w:World}{A:zh}{E:Value→yI→Prop}{s:yI}
def sIx (n d:Nat):Option Int→Nat
 |none=>d
 |some v=>if v < 0 then (v+(n:Int)).toNat else min v.toNat n
end
end HT
namespace L2
open PySem PySem.Spec PyProof.Rows
abbrev TO:=St→Hp→(Option Int→Hp→Prop)→Prop
def PO (X:Cx) (e:Option Expr) (t:TO):Prop:=
 ∀(pins:List (Addr×Obj)) (s:yI) (σ:St) (H:Hp) (Q:Option Int→Hp→Prop),Inv X pins σ H s→t σ H Q→
  wpAny (model X.prog X.w) X.A (evalPart e X.env) (fun u s'=>∃o H',Inv X pins σ H' s'∧IsPart u o∧Q o H') X.xe s
def tU:TO:=fun _ H Q=>Q none H
def xH (t:TE):TO:=fun σ H Q=>t σ H fun x H1=>∃i,x=.int i∧Q (some i) H1
section
variable {X:Cx}{e:Expr}{te:TE}{lo hi:Option Expr}{tl th:TO}{pos p2:Pos}
theorem tq:PO X none tU:=by
 intro pins s σ H Q I h
 rw[Fl]
 exact yJ ⟨none,H,I,.none,h⟩
theorem ug (h:PE X e te):PO X (some e) (xH te):=by
 intro pins s σ H Q I hw
 rw[evalPart_some]
 refine thn (h pins s σ H _ I hw) fun u s1 ⟨x,H1,I1,r1,q1⟩=>?_
 obtain ⟨i,rfl,q⟩:=q1
 obtain ⟨t,rfl⟩:=r1
 exact ⟨some i,H1,I1,.int i t,q⟩
def SlR (X:Cx) (r:V→Option Int→Option Int→Hp→VK→Prop):Prop:=
 ∀(pins:List (Addr×Obj)) (s:yI) (σ:St) (H:Hp) (x:V) (v vl vu:Value) (lo hi:Option Int) (sl:Addr) (Q:VK),Inv X pins σ H s→aR x v→s.heap.IsSliceOf sl vl vu .none→IsPart vl lo→IsPart vu hi→r x lo hi H Q→
  ∃T id,typeLookup (.type T) "__getitem__"=pure (some (.builtin id))∧s.TypeIs v T∧wpAny (model X.prog X.w) X.A (getItem v (.ref sl)) (EP X pins σ Q) X.xe s
def tSl (r:V→Option Int→Option Int→Hp→VK→Prop) (te:TE) (tl th:TO):TE:=fun σ H Q=>te σ H fun x H1=>tl σ H1 fun l H2=>th σ H2 fun u H3=>r x l u H3 Q
theorem rB {r:V→Option Int→Option Int→Hp→VK→Prop} (hr:SlR X r) (he:PE X e te) (hl:PO X lo tl) (hu:PO X hi th):PE X (.Subscript e (.Slice lo hi none p2) pos) (tSl r te tl th):=by
 intro pins s σ H Q I h
 refine Hn (thn (he pins s σ H _ I h) fun v s1 ⟨x,H1,I1,r1,q1⟩=>?_)
 refine wpAny_Slice (thn (hl pins s1 σ H1 _ I1 q1) fun vl s2 ⟨l,H2,I2,pl,q2⟩=>thn (hu pins s2 σ H2 _ I2 q2) fun vu s3 ⟨u,H3,I3,pu,q3⟩=>?_)
 rw[Fl]
 refine yJ ?_
 have I4:Inv X pins σ H3 {s3 with heap:=s3.heap.push {cls:=.type "slice",data:=.fields #[vl,vu,.none] } }:=I3.kept (t':=s3.toks) fun b ob q=>yG _ q
 obtain ⟨T,id,hT,ht,hg⟩:=hr pins {s3 with heap:=s3.heap.push {cls:=.type "slice",data:=.fields #[vl,vu,.none] } } σ H3 x v vl vu l u s3.heap.objs.size Q I4 r1 (Fn ..) pl pu q3
 show wpAny (model X.prog X.w) X.A (Fo e (.Slice lo hi none p2) v (.ref s3.heap.objs.size)) (EP X pins σ Q) X.xe {s3 with heap:=s3.heap.push {cls:=.type "slice",data:=.fields #[vl,vu,.none] } }
 exact tail_any (ops:=[.ref s3.heap.objs.size,v]) ht hT hg (by with_unfolding_all rfl)
def om (xs:List V) (lo hi:Option Int):List V:=(xs.drop (HT.sIx xs.length 0 lo)).take (HT.sIx xs.length xs.length hi - HT.sIx xs.length 0 lo)
theorem kZ (xs:List V) (lo hi:Option Int):(om xs lo hi).length≤xs.length:=by
 unfold om
 rw[F_,Ga]
 omega
end
def ixN (n:Nat) (i:Int):Option Nat:=if 0≤i then (if i < n then some i.toNat else none) else if -(n:Int)≤i then some (i+n).toNat else none
def atI {α:Type} (xs:List α) (i:Int):Option α:=(ixN xs.length i).bind fun j=>xs[j]?
theorem tS {n:Nat}{i:Int}{j:Nat} (h:ixN n i=some j):seqIndex? i n=some j∧j < n∧-(n:Int)≤i∧i < n:=by
 unfold ixN at h
 by_cases h0:0≤i
 ·rw[if_pos h0] at h
  by_cases h1:i < n
  ·rw[if_pos h1] at h
   have e:i.toNat=j:=zU h
   exact ⟨by rw[seqIndex_of h0 h1,e],by omega,by omega,h1⟩
  ·rw[if_neg h1] at h;cases h
 ·rw[if_neg h0] at h
  by_cases h1:-(n:Int)≤i
  ·rw[if_pos h1] at h
   have e:(i+n).toNat=j:=zU h
   exact ⟨by rw[seqIndex_neg (by omega) h1,e],by omega,h1,by omega⟩
  ·rw[if_neg h1] at h;cases h
theorem nC {α:Type}{xs:List α}{i:Int}{v:α} (h:atI xs i=some v):∃j,seqIndex? i xs.length=some j∧xs[j]?=some v∧j < xs.length∧-(xs.length:Int)≤i∧i < xs.length:=by
 unfold atI at h
 cases e:ixN xs.length i with
 |none=>rw[e] at h;cases h
 |some j=>
  rw[e] at h
  obtain ⟨h1,h2,h3,h4⟩:=tS e
  exact ⟨j,h1,h,h2,h3,h4⟩
theorem nX {α:Type}{xs:List α}{j:Nat}{v:α} (h:xs[j]?=some v):atI xs (j:Int)=some v:=by
 have hj:j < xs.length:=(yU.mp h).1
 have e:ixN xs.length (j:Int)=some j:=by
  unfold ixN
  rw[if_pos (by omega),if_pos (by omega)];simp
 unfold atI;rw[e];exact h
def gm (b:Expr):Prop:=∀o i,subscripted b false o i=operate [o,i] (getItem o i)
def IxR (X:Cx) (r:R2):Prop:=
 ∀(value slice:Expr) (pins:List (Addr×Obj)) (s:yI) (σ:St) (H:Hp) (x y:V) (v u:Value) (Q:VK),Inv X pins σ H s→aR x v→aR y u→r x y H Q→
  subscripted slice false v u=operate [v,u] (getItem v u)→wpAny (model X.prog X.w) X.A (Fo value slice v u) (EP X pins σ Q) X.xe s
def MtR (X:Cx) (id:String) (r:V→List V→Hp→VK→Prop):Prop:=
 ∀(pins:List (Addr×Obj)) (s:yI) (σ:St) (H:Hp) (x:V) (xs:List V) (v:Value) (us:List Value) (Q:VK),Inv X pins σ H s→aR x v→aN xs us→r x xs H Q→
  wpAny (model X.prog X.w) X.A (call (.builtin id) (v::us)) (EP X pins σ Q) X.xe s
section
variable {X:Cx}{a b:Expr}{ta tb:TE}{pos:Pos}
theorem IxR.or {r r':R2} (h:IxR X r) (h':IxR X r'):IxR X (fun x y H Q=>r x y H Q∨r' x y H Q):=by
 intro value slice pins s σ H x y v u Q I rx ry q hs
 rcases q with q |q
 ·exact h value slice pins s σ H x y v u Q I rx ry q hs
 ·exact h' value slice pins s σ H x y v u Q I rx ry q hs
theorem sE {r:R2} (hr:IxR X r) (ha:PE X a ta) (hb:PE X b tb) (hs:gm b):PE X (.Subscript a b pos) (tOp r ta tb):=by
 intro pins s σ H Q I h
 exact Hn (vD ha hb I h fun v u s2 x y H2 I2 rx ry q=>hr a b pins s2 σ H2 x y v u Q I2 rx ry q (hs _ _))
def yf (K:yH):R2:=fun x y H Q=>∃p xs i v,x=.ref p∧y=.int i∧SqL K H p xs∧atI xs i=some v∧Q v H
def xY (K:yH):R2:=fun x y H Q=>∃p xs i v,x=.ref p∧y=.int i∧SqT K H p xs∧atI xs i=some v∧Q v H
theorem km:IxR X (yf X.K):=by
 intro value slice pins s σ H x y v u Q I rx ry h hs
 obtain ⟨p,xs,i,z,rfl,rfl,hq,he,q⟩:=h
 cases rx
 obtain ⟨t,rfl⟩:=ry
 obtain ⟨its,r,pl,hz⟩:=I.list hq
 obtain ⟨j,h1,h2,h3,h4,h5⟩:=nC he
 obtain ⟨w,ew,rw'⟩:=r.get h2
 have hl:=r.length
 have hn:=mf
 have fin:EP X pins σ Q w s:=⟨z,H,I,rw',q⟩
 by_cases h0:0≤i
 ·have hj:i.toNat=j:=by
   rw[seqIndex_of h0 h5] at h1
   exact zU h1
  exact item_listR pl.isList h0 (by omega) (by rw[hj];simpa using ew) fin hs
 ·have hj:(i+(its.toArray.size:Int)).toNat=j:=by
   rw[seqIndex_neg (by omega) h4] at h1
   rw[y_,←hl]
   exact zU h1
  exact Em (x:=w) pl.isList.typeIs slot_list_getitem.lookup
   (wpAny_getItem_list_neg (Q:=fun r s'=>r=w∧EP X pins σ Q r s') pl.isList (by omega) (by rw[y_] <;>omega) (by omega) (by rw[hj];simpa using ew) ⟨rfl,fin⟩) hs
theorem wL:IxR X (xY X.K):=by
 intro value slice pins s σ H x y v u Q I rx ry h hs
 obtain ⟨p,xs,i,z,rfl,rfl,hq,he,q⟩:=h
 cases rx
 obtain ⟨t,rfl⟩:=ry
 obtain ⟨its,r,pl,hz⟩:=I.tuple hq
 obtain ⟨j,h1,h2,h3,h4,h5⟩:=nC he
 obtain ⟨w,ew,rw'⟩:=r.get h2
 have hl:=r.length
 have hn:=mf
 have fin:EP X pins σ Q w s:=⟨z,H,I,rw',q⟩
 exact Em (x:=w) pl.typeIs slot_tuple_getitem.lookup
  (getItem_tuple (j:=j) (Q:=fun r s'=>r=w∧EP X pins σ Q r s') pl (by omega) (by omega) (by rw[y_,←hl];exact h1) (by simpa using ew) ⟨rfl,fin⟩) hs
theorem j8 (lo hi:Option Int) (n:Nat):(CS lo hi none n).1=((HT.sIx n 0 lo:Nat):Int)∧(CS lo hi none n).2.1=((HT.sIx n n hi:Nat):Int)∧(CS lo hi none n).2.2=1:=by
 refine ⟨?_,?_,rfl⟩
 ·cases lo with
  |none=>simp[CS,HT.sIx]
  |some i=>
   simp only[CS,HT.sIx,Ed,show (1:Int) >0 by decide,if_true]
   by_cases h:i < 0
   ·simp only[h,if_true] <;>omega
   ·simp only[h,if_false] <;>omega
 ·cases hi with
  |none=>simp[CS,HT.sIx]
  |some i=>
   simp only[CS,HT.sIx,Ed,show (1:Int) >0 by decide,if_true]
   by_cases h:i < 0
   ·simp only[h,if_true] <;>omega
   ·simp only[h,if_false] <;>omega
theorem jf (its:List Value) (lo hi:Option Int):slicePick its.toArray lo hi none=((its.drop (HT.sIx its.length 0 lo)).take (HT.sIx its.length its.length hi - HT.sIx its.length 0 lo)).toArray:=by
 obtain ⟨h1,h2,h3⟩:=j8 lo hi its.toArray.size
 unfold slicePick
 rw[h1,h2,h3]
 simp only[sliceRange_one,pick_run,y_] <;>rfl
def yj (K:yH):V→Option Int→Option Int→Hp→VK→Prop:=fun x lo hi H Q=>∃a xs,x=.ref a∧SqL K H a xs∧∀p,H p=none→Q (.ref p) (upd H p (.lst (om xs lo hi)))
theorem uu:SlR X (yj X.K):=by
 intro pins s σ H x v vl vu lo hi sl Q I rx hs pl pu h
 obtain ⟨a,xs,rfl,hx,q⟩:=h
 cases rx
 obtain ⟨its,r,ht,hz⟩:=I.list hx
 have hlen:=r.length
 refine ⟨"list",_,slot_list_getitem.lookup,ht.isList.typeIs,?_⟩
 refine DP ht.isList hs pl pu .none (by simp) ?_ (by rw[y_] <;>omega)
 rw[jf,←hlen]
 refine ⟨.ref s.heap.objs.size,_,I.laid (t':=s.toks) (o:=.lst (om xs lo hi)) (fun b ob q=>yG _ q) (yO _) ?_,rfl,q _ (I.hok.fresh (yO _))⟩
 exact ⟨AH (kZ xs lo hi) hz,_,0,(r.drop (HT.sIx xs.length 0 lo)).take (HT.sIx xs.length xs.length hi - HT.sIx xs.length 0 lo),yR _ rfl⟩
def fN:V→Bool
 | .non=>true
 | .bl _=>true
 | .int _=>true
 | .str _=>true
 |_=>false
def eqV:V→V→Bool
 | .non,.non=>true
 | .bl a,.bl b=>a==b
 | .bl a,.int b=>(if a then 1 else 0)==b
 | .int a,.bl b=>a==(if b then 1 else 0)
 | .int a,.int b=>a==b
 | .str a,.str b=>a==b
 |_,_=>false
theorem vZ {A:zh}{s:yI}{y x:V}{u v:Value} (ry:aR y u) (rx:aR x v) (fy:fN y=true) (fx:fN x=true):SeqAt.EqAt A s u v (eqV y x):=by
 cases y with
 |non=>
  cases ry
  cases x with
  |non=>cases rx;exact SeqAt.EqAt.same _
  |bl b=>cases rx;exact SeqAt.EqAt.none_bool b
  |int b=>obtain ⟨t,rfl⟩:=rx;exact SeqAt.EqAt.none_int b t
  |str b=>obtain ⟨t,rfl⟩:=rx;exact SeqAt.EqAt.none_str b t
  |_=>exact absurd (show false=true from fx) zd
 |bl a=>
  cases ry
  cases x with
  |non=>cases rx;exact SeqAt.EqAt.bool_none a
  |bl b=>cases rx;exact SeqAt.EqAt.bool_bool a b
  |int b=>obtain ⟨t,rfl⟩:=rx;exact SeqAt.EqAt.bool_int a b t
  |str b=>obtain ⟨t,rfl⟩:=rx;exact SeqAt.EqAt.bool_str a b t
  |_=>exact absurd (show false=true from fx) zd
 |int a=>
  obtain ⟨t',rfl⟩:=ry
  cases x with
  |non=>cases rx;exact SeqAt.EqAt.int_none a t'
  |bl b=>cases rx;exact SeqAt.EqAt.int_bool a t' b
  |int b=>obtain ⟨t,rfl⟩:=rx;exact SeqAt.EqAt.int_int a t' b t
  |str b=>obtain ⟨t,rfl⟩:=rx;exact SeqAt.EqAt.int_str a t' b t
  |_=>exact absurd (show false=true from fx) zd
 |str a=>
  obtain ⟨t',rfl⟩:=ry
  cases x with
  |non=>cases rx;exact SeqAt.EqAt.str_none a t'
  |bl b=>cases rx;exact SeqAt.EqAt.str_bool a t' b
  |int b=>obtain ⟨t,rfl⟩:=rx;exact SeqAt.EqAt.str_int a t' b t
  |str b=>obtain ⟨t,rfl⟩:=rx;exact SeqAt.EqAt.str_str a t' b t
  |_=>exact absurd (show false=true from fx) zd
 |_=>exact absurd (show false=true from fy) zd
def eqU (x:V) (u:Value):Bool:=match u with
 | .none=>eqV .non x
 | .bool b=>eqV (.bl b) x
 | .int i _=>eqV (.int i) x
 | .str z _=>eqV (.str z) x
 |_=>false
theorem qS {x y:V}{u:Value} (r:aR y u) (f:fN y=true):eqU x u=eqV y x:=by
 cases y with
 |non=>cases r;rfl
 |bl b=>cases r;rfl
 |int i=>obtain ⟨t,rfl⟩:=r;rfl
 |str z=>obtain ⟨t,rfl⟩:=r;rfl
 |_=>exact absurd (show false=true from f) zd
theorem jU {x:V}:∀{xs:List V}{us:List Value},aN xs us→xs.all fN=true→us.any (eqU x)=xs.any fun y=>eqV y x
 |_,_,.nil,_=>rfl
 |y::xs,u::us,.cons r t,f=>by
  rw[Dh,Ac] at f
  rw[Hv,Hv,qS r f.1,jU t f.2]
theorem iE {A:zh}{s:yI}{x:V}{v:Value} (rx:aR x v) (fx:fN x=true):∀{xs:List V}{us:List Value},aN xs us→xs.all fN=true→∀u∈us,SeqAt.EqAt A s u v (eqU x u)
 |_,_,.nil,_=>fun u hu=>by cases hu
 |y::xs,u::us,.cons r t,f=>fun u' hu=>by
  rw[Dh,Ac] at f
  rcases yP.mp hu with rfl |hu
  ·rw[qS r f.1];exact vZ r rx f.1 fx
  ·exact iE rx fx t f.2 u' hu
def inV (x:V) (xs:List V):Bool:=xs.any fun y=>eqV y x
def rIn (K:yH) (neg:Bool):R2:=fun x y H Q=>∃p xs,y=.ref p∧(SqL K H p xs∨SqT K H p xs)∧fN x=true∧xs.all fN=true∧Q (.bl (if neg then !inV x xs else inV x xs)) H
theorem ou:OpR X (AJ .In) (rIn X.K false):=by
 intro pins s σ H x y v u Q I rx ry h
 obtain ⟨p,xs,rfl,hq,fx,fs,q⟩:=h
 cases ry
 rcases hq with hq |hq
 ·obtain ⟨its,r,pl,hz⟩:=I.list hq
  refine SeqAt.in_listAt (eqU x) pl.isList (fun w hw=>iE rx fx r fs w (by simpa using hw)) ⟨.bl _,H,I,rfl,?_⟩
  rw[show its.toArray.any (eqU x)=its.any (eqU x) by simp,jU r fs]
  exact q
 ·obtain ⟨its,r,pl,hz⟩:=I.tuple hq
  refine SeqAt.in_tupleAt (eqU x) pl (fun w hw=>iE rx fx r fs w (by simpa using hw)) ⟨.bl _,H,I,rfl,?_⟩
  rw[show its.toArray.any (eqU x)=its.any (eqU x) by simp,jU r fs]
  exact q
theorem gw:de X (.builtin "len") (fun xs H Q=>∃p ys,xs=[.ref p]∧(SqL X.K H p ys∨SqT X.K H p ys)∧Q (.int ys.length) H):=by
 intro pins s σ H xs us Q I r h
 obtain ⟨p,ys,rfl,hq,q⟩:=h
 obtain ⟨u,rfl,rx⟩:=gA r
 cases rx
 have hn:=mf
 rcases hq with hq |hq
 ·obtain ⟨its,r',pl,hz⟩:=I.list hq
  have hlen:=r'.length
  exact Calls.call_len_list pl.isList (by simp only[y_] <;>omega) ⟨.int ys.length,H,I.tok _,⟨s.toks+1,by rw[y_,hlen]⟩,q⟩
 ·obtain ⟨its,r',pl,hz⟩:=I.tuple hq
  have hlen:=r'.length
  exact len_tuple pl (by simp only[y_] <;>omega) ⟨.int ys.length,H,I.tok _,⟨s.toks+1,by rw[y_,hlen]⟩,q⟩
theorem kh:de X (.type "list") (fun xs H Q=>∃p ys,xs=[.ref p]∧(SqL X.K H p ys∨SqT X.K H p ys)∧∀l,H l=none→Q (.ref l) (upd H l (.lst ys))):=by
 intro pins s σ H xs us Q I r h
 obtain ⟨p,ys,rfl,hq,q⟩:=h
 obtain ⟨u,rfl,rx⟩:=gA r
 cases rx
 have fin:∀(its:List Value),aN ys its→ys.length≤sizeLine→∀(h':Heap) (c':Nat),(∀b o',s.heap.get? b=some o'→h'.get? b=some o')→
   h'.get? s.heap.objs.size=some {cls:=.type "list",dict:=none,data:=.seq its.toArray c',slots:=#[] }→EP X pins σ Q (.ref s.heap.objs.size) {s with heap:=h' }:=fun its r' hz h' c' kp e=>
  ⟨.ref s.heap.objs.size,_,I.laid (t':=s.toks) kp (yO _) (show cg X.prog X.w _ h' _ (.lst ys) from ⟨hz,its,c',r',e⟩),rfl,q _ (I.hok.fresh (yO _))⟩
 rcases hq with hq |hq
 ·obtain ⟨its,r',pl,hz⟩:=I.list hq
  have hlen:=r'.length
  obtain ⟨o,ho,hc,n,hd⟩:=pl.isList
  exact call_list_seq p (.inl rfl) ho hc hd (fun h' c' kp e=>fin its r' hz h' c' kp e) (by simp only[y_] <;>omega)
 ·obtain ⟨its,r',pl,hz⟩:=I.tuple hq
  have hlen:=r'.length
  obtain ⟨o,ho,hc,n,hd⟩:=pl
  exact call_list_seq p (.inr rfl) ho hc hd (fun h' c' kp e=>fin its r' hz h' c' kp e) (by simp only[y_] <;>omega)
def tyV (K:yH) (T:String) (x:V) (H:Hp):Prop:=match x with
 | .str _=>T="str"
 | .int _=>T="int"
 | .ref p=>(T="list"∧∃xs,SqL K H p xs)∨(T="tuple"∧∃o,K.lookup p=some o∧o.cls=.type "tuple"∧o.dict=none)∨
   (T="dict"∧((∃kvs,H p=some (.dK kvs))∨∃kvs,H p=some (.dT kvs)))∨(T="set"∧∃S n,H p=some (.set S n))
 |_=>False
theorem qF {pins:List (Addr×Obj)}{σ:St}{H:Hp}{s:yI}{T:String}{x:V}{v:Value} (I:Inv X pins σ H s) (r:aR x v) (ty:tyV X.K T x H):
  s.TypeIs v T∧∀a,v=.ref a→∃ob,s.heap.get? a=some ob∧ob.dict=none:=by
 cases x with
 |str z=>
  obtain ⟨t,rfl⟩:=r
  cases (show T="str" from ty)
  exact ⟨typeIs_str s z t,fun _ e=>nomatch e⟩
 |int i=>
  obtain ⟨t,rfl⟩:=r
  cases (show T="int" from ty)
  exact ⟨Ho s i t,fun _ e=>nomatch e⟩
 |ref p=>
  cases r
  rcases ty with ⟨rfl,xs,hq⟩ |⟨rfl,o,hk,hc,hd⟩ |⟨rfl,hk⟩ |⟨rfl,S,n,hk⟩
  ·obtain ⟨its,_,pl,_⟩:=I.list hq
   refine ⟨pl.isList.typeIs,fun a e=>?_⟩
   cases e
   obtain ⟨o,n,e,c,hd,_⟩:=pl
   exact ⟨o,e,hd⟩
  ·refine ⟨⟨o,I.kIn p o hk,hc⟩,fun a e=>?_⟩
   cases e
   exact ⟨o,I.kIn _ o hk,hd⟩
  ·have z:∃o,s.heap.get? p=some o∧o.ExactDict:=by
    rcases hk with ⟨kvs,hk⟩ |⟨kvs,hk⟩
    ·obtain ⟨_,_,_,_,o,_,_,e,ex,_⟩:=I.hok p _ hk
     exact ⟨o,e,ex⟩
    ·obtain ⟨_,_,_,_,o,_,_,e,ex,_⟩:=I.hok p _ hk
     exact ⟨o,e,ex⟩
   obtain ⟨o,e,ex⟩:=z
   refine ⟨⟨o,e,ex.1⟩,fun a e2=>?_⟩
   cases e2
   exact ⟨o,e,ex.2.1⟩
  ·obtain ⟨o,_,_,_,e,ex,_⟩:=I.hok p _ hk
   refine ⟨⟨o,e,ex.1⟩,fun a e2=>?_⟩
   cases e2
   exact ⟨o,e,ex.2.1⟩
 |_=>exact False.elim ty
def yo (K:yH) (T:String) (r:V→List V→Hp→VK→Prop) (to:TE):TE:=fun σ H Q=>to σ H fun x H1=>tyV K T x H1∧r x [] H1 Q
def tBM (K:yH) (T:String) (r:V→List V→Hp→VK→Prop) (to:TE) (t:TA):TE:=fun σ H Q=>to σ H fun x H1=>tyV K T x H1∧t σ H1 fun xs H2=>r x xs H2 Q
variable {o e:Expr}{es:List Expr}{to:TE}{t:TA}{name:Str}{apos cpos:Pos}{T id:String}{r:V→List V→Hp→VK→Prop}
theorem wD (pa:PlainAttrs T) (slot:Slot T name id) (hty:typeOf (.builtin id)=pure (.type "method_descriptor")) (hm:MtR X id r) (ho:PE X o to)
  (hbase:D6 o name X.env (eval o X.env)=eval o X.env:=by rfl) (hline:(apos.endLine==cpos.line)=true:=by rfl):PE X (.Call (.Attribute o name apos) [] [] cpos) (yo X.K T r to):=by
 intro pins s σ H Q I h
 refine wpAny_Call_method0_late hbase hline (thn (ho pins s σ H _ I h) fun v s1 ⟨x,H1,I1,r1,ty,q1⟩=>?_)
 obtain ⟨h1,h2⟩:=qF I1 r1 ty
 exact ⟨T,id,pa,slot,hty,h1,h2,En rfl (PySem.evalArgs_none (hm pins s1 σ H1 x [] v [] Q I1 r1 .nil q1))⟩
theorem xQ (pa:PlainAttrs T) (slot:Slot T name id) (hty:typeOf (.builtin id)=pure (.type "method_descriptor")) (hm:MtR X id r) (ho:PE X o to) (ha:PA X (e::es) t)
  (hbase:D6 o name X.env (eval o X.env)=eval o X.env:=by rfl)
  (hfew:((C5 cpos (yW (e::es) X.env)).all (fun x=>!x.1) && (backToKw cpos (keywordEach [] X.env)).all (fun x=>x.1.isSome)
   && decide ((e::es).length+([]:List Gm).length+(if ([]:List Gm).isEmpty then 0 else 1) < 30))=true:=by rfl)
  (hline:(apos.endLine==cpos.line)=true:=by rfl) (hs:yW (e::es) X.env=(false,eval e X.env)::yW es X.env:=by rfl) (hplain:(C5 cpos (yW es X.env)).any (·.1)=false:=by rfl):
  PE X (.Call (.Attribute o name apos) (e::es) [] cpos) (tBM X.K T r to t):=by
 intro pins s σ H Q I h
 refine wpAny_Call_method_late hbase hfew hline rfl (thn (ho pins s σ H _ I h) fun v s1 ⟨x,H1,I1,r1,ty,q1⟩=>?_)
 obtain ⟨h1,h2⟩:=qF I1 r1 ty
 refine ⟨T,id,pa,slot,hty,h1,h2,?_⟩
 have hA:=ha cpos pins s1 σ H1 _ I1 q1
 rw[hs] at hA ⊢
 refine En (by show (false || (C5 cpos (yW es X.env)).any (·.1))=false;rw[hplain] <;>rfl) (Calls.evalArgs_plain ?_)
 exact thn hA fun us s2 ⟨vs,H2,I2,r2,q2⟩=>hm pins s2 σ H2 x vs v us Q I2 r1 r2 q2
/- xs.append(e),list.index on a module's tuple .. are MtR facts of 06m -/
end
def MtM (X:Cx) (id:String) (r:V→List V→Hp→VK→Prop):Prop:=
 ∀(pins:List (Addr×Obj)) (s:yI) (σ:St) (H:Hp) (x:V) (xs:List V) (v:Value) (us:List Value) (Q:VK),Inv X pins σ H s→aR x v→aN xs us→r x xs H Q→
  wpAny (model X.prog X.w) X.A (call (.builtin id) (v::us)) (EP X pins σ Q) X.xe s
theorem aN.one:∀{x:V}{us:List Value},aN [x] us→∃u,us=[u]∧aR x u
 |_,_,.cons r .nil=>⟨_,rfl,r⟩
theorem aN.zero:∀{us:List Value},aN [] us→us=[]
 |_,.nil=>rfl
theorem aN.dropLast {xs:List V}{us:List Value} (h:aN xs us):aN xs.dropLast us.dropLast:=by
 induction h with
 |nil=>exact .nil
 |cons r t ih=>
  cases t with
  |nil=>exact .nil
  |cons q t'=>exact .cons r ih
theorem lZ {α:Type} (l:List α):l.eraseIdx (l.length - 1)=l.dropLast:=by
 induction l with
 |nil=>rfl
 |cons a r ih=>
  cases r with
  |nil=>rfl
  |cons b r=>
   have e:(a::b::r).length - 1=((b::r).length - 1)+1:=by
    have h1:(a::b::r).length=r.length+2:=rfl
    have h2:(b::r).length=r.length+1:=rfl
    omega
   rw[e,List.eraseIdx_cons_succ,ih]
   all_goals rfl
section
variable {X:Cx}{pins:List (Addr×Obj)}{σ:St}{H:Hp}{s:yI}{l b:Addr}{xs ys zs:List V}
theorem Inv.lset {its its':List Value}{n:Nat}{f:Array Value→Array Value}{t':Nat} (I:Inv X pins σ H s) (hH:H l=some (.lst xs))
  (e:s.heap.get? l=some {cls:=.type "list",data:=.seq its.toArray n }) (hf:f its.toArray=its'.toArray) (hv:aN ys its') (hz:ys.length≤sizeLine):
  Inv X pins σ (upd H l (.lst ys)) {s with heap:=s.heap.update l (Au f),toks:=t' }:=by
 have q:=PySem.IsL.update e f
 rw[hf] at q
 refine I.write (x:=l) (e:=l) (by rw[hH];exact trivial) (.inl rfl) (fun b' u hb hu=>(zj s.heap (Au f) (Ne.symm hb)).trans hu) ⟨_,q⟩ ?_
 exact ⟨hz,its',_,hv,q⟩
theorem Inv.lnew {its:List Value}{t':Nat} (I:Inv X pins σ H s) (hv:aN ys its) (hz:ys.length≤sizeLine):
  Inv X pins σ (upd H s.heap.objs.size (.lst ys)) {s with heap:=s.heap.push {cls:=.type "list",data:=.seq its.toArray },toks:=t' }:=
 I.laid (fun _ _ q=>yG _ q) (yO _) ⟨hz,its,0,hv,yR _ rfl⟩
theorem Inv.fresh (I:Inv X pins σ H s):H s.heap.objs.size=none:=I.hok.fresh (yO _)
theorem Inv.lstM (I:Inv X pins σ H s) (hH:H l=some (.lst xs)):xs.length≤sizeLine∧∃(its:List Value) (n:Nat),aN xs its∧xs.length=its.length∧s.heap.get? l=some {cls:=.type "list",data:=.seq its.toArray n }:=by
 obtain ⟨z,its,n,r,e⟩:=I.hok l _ hH
 exact ⟨z,its,n,r,r.length,e⟩
theorem wX {n:Nat} (h:n≤sizeLine):Builtin.List.listTooLong n=false:=by
 unfold Builtin.List.listTooLong
 exact decide_eq_false (by omega)
end
section
variable {X:Cx}
def uz:V→List V→Hp→VK→Prop:=fun x vs H Q=>∃l xs y,x=.ref l∧vs=[y]∧H l=some (.lst xs)∧xs.length < sizeLine∧Q .non (upd H l (.lst (xs++[y])))
theorem fF:MtM X "list.append" uz:=by
 intro pins s σ H x vs v us Q I rx rv h
 obtain ⟨l,xs,y,rfl,rfl,hH,hz,q⟩:=h
 cases rx
 obtain ⟨u,rfl,ru⟩:=rv.one
 obtain ⟨z,its,n,r,hl,e⟩:=I.lstM hH
 refine call_meets F.slot_list_append ⟨_,e,rfl⟩ F.entry_list_append (F.args_list_append_2 _ _) (PySem.list_append l its.toArray n u (by rw[y_];omega)) ⟨e,?_⟩
 refine ⟨.non,_,I.lset (its':=its++[u]) hH e (by simp) (r.append (.cons ru .nil)) ?_,rfl,q⟩
 rw[zM,Ez]
 omega
def x_:V→List V→Hp→VK→Prop:=fun x vs H Q=>∃l xs y,x=.ref l∧vs=[]∧H l=some (.lst xs)∧xs[xs.length - 1]?=some y∧Q y (upd H l (.lst xs.dropLast))
theorem vC:MtM X "list.pop" x_:=by
 intro pins s σ H x vs v us Q I rx rv h
 obtain ⟨l,xs,y,rfl,rfl,hH,hy,q⟩:=h
 cases rx
 have hus:=rv.zero
 subst hus
 obtain ⟨z,its,n,r,hl,e⟩:=I.lstM hH
 obtain ⟨u,hu,ru⟩:=r.get hy
 have hy':its.toArray[its.toArray.size - 1]?=some u:=by
  show its.toArray[its.length - 1]?=some u
  rw[←zV,←hl]
  exact hu
 refine call_meets F.slot_list_pop ⟨_,e,rfl⟩ F.entry_list_pop (F.args_list_pop_1 _) (MeetsSeq.list_pop_last l its.toArray n u hy' (by rw[y_];omega)) ⟨e,?_⟩
 refine ⟨y,_,I.lset (its':=its.dropLast) hH e ?_ r.dropLast ?_,ru,q⟩
 ·show its.toArray.eraseIdxIfInBounds (its.toArray.size - 1)=its.dropLast.toArray
  rw[y_,List.eraseIdxIfInBounds_toArray,lZ]
 ·rw[Bh]
  omega
def x5:R2:=fun x y H Q=>∃l b xs zs,x=.ref l∧y=.ref b∧H l=some (.lst xs)∧H b=some (.lst zs)∧xs.length+zs.length≤sizeLine∧∀p,H p=none→Q (.ref p) (upd H p (.lst (xs++zs)))
theorem wO:OpR X (CY .Add) x5:=by
 intro pins s σ H x y v u Q I rx ry h
 obtain ⟨l,b,xs,zs,rfl,rfl,hH,hB,hz,q⟩:=h
 cases rx
 cases ry
 obtain ⟨z,its,n,r,hl,e⟩:=I.lstM hH
 obtain ⟨z2,its2,n2,r2,hl2,e2⟩:=I.lstM hB
 refine PySem.P.add_list e e2 ?_ (by rw[y_,y_];omega)
 have ea:its.toArray++its2.toArray=(its++its2).toArray:=by simp
 rw[ea]
 exact ⟨.ref _,_,I.lnew (t':=s.toks) (r.append r2) (by rw[zM];omega),rfl,q _ I.fresh⟩
end
section
variable {prog:yT}{w:World}{A:zh}{E:Value→yI→Prop}{s:yI}
end
section
variable {X:Cx}
end
end L2
namespace Att
open PySem PySem.W PySem.Calls PyProof.Rows
theorem ij {P:Params}{h:Heap}:∀(ns:List Int) (vs:List Value),WellAll P h vs (ns.map WData.int)→Hw vs ns:=by
 intro ns
 induction ns with
 |nil=>
  intro vs w
  rw[FQ] at w
  cases w
  exact .nil
 |cons n ns ih=>
  intro vs w
  rw[Aa] at w
  cases w with
  |cons a b=>
   cases a
   exact .cons _ _ (ih _ b)
theorem script_of {l:OpenLaw}{n:Nat} (hn:l.most=some n) {P:Params}{h:Heap}{args:List WData}{vals:List Value}
  (hpre:l.row.toRowW.claim.pre args=true) (hwl:WellAll P h vals args):
  ∃a vs ns,vals=[zY a]∧args=[WData.list (ns.map WData.int)]∧h.get? a=some {cls:=.type "list",data:=.seq vs.toArray }∧Hw vs ns∧ns.length≤n:=by
 have hsh:WShape.hasAll [] args [.list .int]=true:=(pre_splitW hpre).1
 have hc:l.pre.holds [] {args:=args }=true:=(pre_splitW hpre).2
 obtain ⟨d,r,rfl,h1,h2⟩:=hasAllW_cons hsh
 obtain rfl:=hasAllW_nil h2
 obtain ⟨xs,rfl,h3⟩:=hasW_list h1
 obtain ⟨ns,rfl⟩:=items_int h3
 have hlen:ns.length≤n:=by
  unfold OpenLaw.pre at hc
  have h4:(WTm.not (.lt (.lit (.int (n:Int))) (.len (.arg 0)))).holds [] {args:=[.list (ns.map .int)] }=true:=by
   have h4:=(holds_andW hc).1
   rw[hn] at h4
   exact h4
  have h5:=condW_of h4 (w_not (w_lt w_lit (w_len_list (w_arg rfl))))
  rw[yK] at h5
  refine Ci fun q=>?_
  have q':(n:Int) < ((ns.length:Nat):Int):=by omega
  first
   | (rw[decide_eq_true q'] at h5;exact absurd h5 (by decide))
   | (simp at h5;omega)
 cases hwl with
 |cons w1 w2=>
  cases w2
  cases w1 with
  |list ho hall=>exact ⟨_,_,ns,rfl,rfl,ho,ij ns _ hall,hlen⟩
theorem post_true (l:OpenLaw) (args:List WData):l.row.toRowW.claim.post args (.bool true) args=true:=
 postW_of (r:=l.row.toRowW) (X:=(true==true))
  (show WShape.has [] (.bool true) .bool=true by first |rfl |decide |simp[WShape.has,WShape.arms,WShape.armsAll])
  (show (WTm.eq .res (.lit (.bool true))).value [] {args:=args,res:=some (.bool true),after:=args }=some (.bool (true==true)) from w_eq_bool (w_res rfl) w_lit) rfl
section
variable {prog:yT}{w:World}{A:zh}{E:Value→yI→Prop}{s:yI}{K:Frag}
end
end Att
namespace L2
open PySem PySem.Spec PyProof.Rows
theorem jm:∀{vs:List Value}{ns:List Int},Hw vs ns→aN (ns.map V.int) vs
 |_,_,.nil=>.nil
 |_,_,.cons n t h=>.cons ⟨t,rfl⟩ (jm h)
end L2
/- THE LAST THEOREM (shape;LID,My.*are yours):
   My.Adr:a structure of the addresses that your layer names (classes,functions);My.Txt K t:a structure (Prop) of the equations over K;
   My.txt_mk:{K}{implicit addresses ..} (e1:nsIn K yY "law"=some (some (.ref f))) (e2:K.lookup f=some ⟨oc,od,.func (fnOf "law" "law" params body scope dV kV doc pm an cdv ct),sl⟩) (e3:codeIn K cdv "law"=true) ..:∃t,My.Txt K t
set_option maxRecDepth 100000 in
theorem PySem.Challenge.cw_LID_holds : PySem.Challenge.rw_LID.Holds := by
 w_on;o_law;k_head;(case hw=>w_witness2)
 k_fill
 refine L2.walk_of (l:=PySem.Challenge.rw_LID) (n:=63) (k:=40) (x:="script") (CX:=fun w=>..) (sp:=fun _=>My.sp_law) rfl (by decide) rfl ⟨rfl,by decide,by decide⟩ (fun w h Y=>PySem.W.kIn_of Y) ?F ?S ?C
 case F=>
  intro w mg fa h KX G hmg
  have T:∃t,My.Txt (L2.KOf KX) t:=by
   dsimp only[L2.KOf]                          -- K must stand as «<heap const> w.params» for k_is
   refine' My.txt_mk ?e1 ?e2 ?e3 ..
   (case e1=>PySem.W.k_is)                    -- in the order:a name ->its address ->its object ->its parts
   (case e2=>PySem.W.k_is)
   ..
  obtain ⟨t,T⟩:=T
  have e0:=hmg.symm.trans (zo KX G T.law)
  cases e0                                       -- fa is the law's own address
  exact ⟨_,fun s u=>.of_eq rfl,fun base kb nb=>My.law_fn T kb nb⟩     -- if «.of_eq rfl» comes too early:refine' ⟨_,?b,fun base kb nb=>My.law_fn T kb nb⟩;exact fun s u=>.of_eq rfl
 case S=>exact fun w H a ns hl hO hS=>..
 case C=>exact ..
(the tactic k_is has no namespace:write k_is) -/
namespace L2
open PySem PySem.Spec PyProof.Rows
def aH (s:Stmt):Fk:=match s with
 | .FunctionDef _ a _ _ _ _ _ _ _ _=>a
 |_=>{posonlyargs:=[],args:=[],vararg:=none,kwonlyargs:=[],kw_defaults:=[],kwarg:=none,defaults:=[] }
def aA (s:Stmt):List Stmt:=match s with
 | .FunctionDef _ _ b _ _ _ _ _ _ _=>b
 |_=>[]
def af (s:Stmt):Scope:=match s with
 | .FunctionDef _ _ _ _ _ _ sc _ _ _=>sc
 |_=>{kind:=.function,names:=[],isGenerator:=false,isCoroutine:=false }
abbrev CX0:CXT:=fun _ _ _ _ _ _=>False
abbrev E0:XK:=fun _ _ _=>False
structure Fun (K:yH) (x qual:Str) (st:Stmt) (f:Addr) (fd:zG):Prop where
 ex:∃(oc:Value) (od:Option Addr) (kV doc pm:Value) (an:Option Addr) (cdv ct:Value) (osl:Array (Option Value)),
  fd=zr x qual (aH st) (aA st) (af st) .none kV doc pm an cdv ct∧K.lookup f=some ⟨oc,od,.func fd,osl⟩∧y3 K cdv qual=true
 kp:yZ K (.ref f)=true
section
variable {P:yT}{w:World}{K:yH}{mg:Str→Option Value}{base:Heap}
theorem Fun.binds {x qual:Str}{st:Stmt}{f:Addr}{fd:zG}{ps:List Str} (F:Fun K x qual st f fd)
  (h:∀(kV doc pm:Value) (an:Option Addr) (cdv ct:Value) (us:List Value),us.length=ps.length→Ap (zr x qual (aH st) (aA st) (af st) .none kV doc pm an cdv ct) ⟨us,[]⟩=pure (ps.zip us)):bh K fd ps []:=by
 obtain ⟨oc,od,kV,doc,pm,an,cdv,ct,osl,rfl,lk,hcd⟩:=F.ex
 exact .all (h kV doc pm an cdv ct)
theorem bg {x qual:Str}{st:Stmt}{f:Addr}{oc:Value}{od an:Option Addr}{osl:Array (Option Value)}{kV doc pm cdv ct:Value} (l:K.lookup f=some ⟨oc,od,.func (zr x qual (aH st) (aA st) (af st) .none kV doc pm an cdv ct),osl⟩)
  (c:y3 K cdv qual=true) (k:yZ K (.ref f)=true):Fun K x qual st f (zr x qual (aH st) (aA st) (af st) .none kV doc pm an cdv ct):=⟨⟨oc,od,kV,doc,pm,an,cdv,ct,osl,rfl,l,c⟩,k⟩
end
theorem aM {n:Nat} (h:n≤1000):n < sizeLine:=DC h (by decide)
section
variable {X:Cx}
end
theorem oH {A B:Prop} (h:B):if false=true then A else B:=by
 rw[if_neg zd]
 exact h
theorem pj {A B:Prop} (h:A):if true=true then A else B:=by
 rw[if_pos rfl]
 exact h
def ax (H H':Hp):Prop:=∀b o,H b=some o→H' b=some o
theorem ax.refl (H:Hp):ax H H:=fun _ _ h=>h
theorem ax.trans {H H1 H2:Hp} (a:ax H H1) (b:ax H1 H2):ax H H2:=fun c o h=>b c o (a c o h)
theorem ax.free {H H':Hp} (e:ax H H') {l:Addr} (h:H' l=HS):H l=HS:=by
 cases q:H l with
 |none=>rfl
 |some o=>
  rw[e l o q] at h
  cases h
theorem ax.seq {K:yH}{H H':Hp}{a:Addr}{xs:List V} (e:ax H H') (h:SqL K H a xs):SqL K H' a xs:=by
 rcases h with (h |⟨o,h⟩) |h
 ·exact .inl (.inl (e _ _ h))
 ·exact .inl (.inr ⟨o,e _ _ h⟩)
 ·exact .inr h
def bP (tb:Addr) (K:yH):yH:=K.filter fun p=>!(p.1==tb)
theorem dj (tb:Addr):∀(K:yH) (b:Addr),(bP tb K).lookup b=if b=tb then none else K.lookup b
 |[],b=>by unfold bP;simp
 | (c,o)::K,b=>by
  have ih:=dj tb K b
  unfold bP at *
  by_cases hc:c=tb
  ·rw[Dd,if_neg (by simp[hc]),ih]
   by_cases hb:b=tb
   ·rw[if_pos hb,if_pos hb]
   ·rw[if_neg hb,if_neg hb,zF,beq_eq_false_iff_ne.mpr (fun z=>hb (z.trans hc))]
  ·rw[Dd,if_pos (by simp[hc]),zF,zF,ih]
   by_cases hb:b=c
   ·subst hb
    simp[hc]
   ·rw[beq_eq_false_iff_ne.mpr hb]
theorem lV (tb:Addr) (K:yH):(bP tb K).lookup tb=none:=by rw[dj,if_pos rfl]
theorem qH {tb b:Addr}{K:yH}{o:Obj} (h:(bP tb K).lookup b=some o):K.lookup b=some o:=by
 rw[dj] at h
 split at h
 ·cases h
 ·exact h
theorem gg {tb b:Addr}{K:yH}{o:Obj} (n:b≠tb) (h:K.lookup b=some o):(bP tb K).lookup b=some o:=by rw[dj,if_neg n];exact h
abbrev jd:Obj:={cls:=.none,data:=.fields #[] }
structure lO (K:yH) (mg:Str→Option Value) (f c tb:Addr):Prop where
 m:mg "to_form"=some (.ref f)
 lf:∃o fd,K.lookup f=some o∧o.data=.func fd∧fd.code=.ref c
 hd:As K c tb=true
 t0:K.lookup tb=some jd
theorem gN {K:yH}{c tb:Addr} (h:As K c tb=true):∃o vs,K.lookup c=some o∧o.cls=.type "code"∧o.data=.fields vs∧vs[11]?=some (.ref tb):=by
 unfold As at h
 split at h
 ·rename_i vs _ hk
  simp only[Ac] at h
  obtain ⟨⟨⟨⟨⟨e1,_⟩,_⟩,_⟩,_⟩,_⟩:=h
  split at e1
  ·rename_i P' h11
   exact ⟨_,vs,hk,rfl,rfl,by rw[h11,beq_iff_eq.mp e1]⟩
  ·cases e1
 ·cases h
theorem lO.amb {K:yH}{mg:Str→Option Value}{f c tb:Addr} (T:lO K mg f c tb) {h base:Heap}{H:Hp} (X:K.In h) (hb:∀b o,base.get? b=some o→h.get? b=some o) (hH:∃ps,H tb=some (.tbl ps)):Amb mg base H:=by
 intro f' o fd c' oc vs P h1 h2 h3 h4 h5 h6 h7
 obtain ⟨o1,fd1,l1,l2,l3⟩:=T.lf
 obtain ⟨o2,vs2,m1,_,m3,m4⟩:=gN T.hd
 rw[T.m] at h1
 cases h1
 have e1:=hb _ _ h2
 rw[X _ _ l1] at e1
 cases e1
 rw[l2] at h3
 cases h3
 rw[l3] at h4
 cases h4
 have e2:=hb _ _ h5
 rw[X _ _ m1] at e2
 cases e2
 rw[m3] at h6
 cases h6
 rw[Ae,m4] at h7
 cases h7
 exact hH
theorem pB {P:yT}{w:World}{K:yH}{mg mb:Str→Option Value}{CX:CXT}{k:Nat}{fa a f c tb:Addr}{fd:zG}{x:Str}{sp:Sp}{s1:yI}{vs:List Value}{ns:List Int}
  (KX:K.In s1.heap) (TB:lO K mg f c tb) (hns:s1.heap.Ns yY mg) (hb:s1.heap.Ns CQ mb) (hbb:∀x:Str,x≠"__name__"→mb x=A3 x) (hlim:s1.heap.NoLimit) (hg:s1.gens=#[])
  (ha:s1.heap.get? a=some {cls:=.type "list",data:=.seq vs.toArray }) (hi:Hw vs ns) (hl:ns.length≤sizeLine) (hr:dk k FD)
  (F:∀base:Heap,(bP tb K).In base→base.Ns yY mg→bD P w (bP tb K) mg base CX k fa fd [x] sp) (hbind:∀(s:yI) (u:Value),E_ s fd ⟨[u],[]⟩ [(x,u)])
  (hsp:∀H:Hp,SqL (bP tb K) H a (ns.map V.int)→sp [.ref a] H (fun v _=>v=.bl true) fun _ _ _=>False)
  (hCX:∀H e s',CX [] H s1 (fun _ _ _=>False) e s'→False):
  CA (model P w) FD (.call (.ref fa) ⟨[.ref a],[]⟩) (fun r s'=>r=.ok (.ret (.bool true))∧OldK s1.heap s'.heap∧s'.os=s1.os∧D0 s'.gens) s1:=by
 have rv:=jm hi
 have lenV:=hi.length
 have hT:s1.heap.get? tb=some jd:=KX _ _ TB.t0
 have nat:a≠tb:=fun z=>by
  rw[z,hT] at ha
  cases ha
 have isT:isCodeTable s1.heap tb:=by
  obtain ⟨o2,vs2,m1,m2,m3,m4⟩:=gN TB.hd
  exact ⟨c,o2,vs2,KX _ _ m1,m2,m3,m4⟩
 have core:∀H:Hp,SqL (bP tb K) H a (ns.map V.int)→HOk P w H s1.heap→(∀b,H b≠none→b=a∨b=tb)→(H a≠none→K.lookup a=none)→(∀u,H a=some u→∃xs,u=.frz {cls:=.type "list",data:=.seq vs.toArray } (.lst xs))→H tb=some (.tbl #[])→
   CA (model P w) FD (.call (.ref fa) ⟨[.ref a],[]⟩) (fun r s'=>r=.ok (.ret (.bool true))∧OldK s1.heap s'.heap∧s'.os=s1.os∧D0 s'.gens) s1:=by
  intro H hS hok hA hK hF hB
  have base_of:∀{b:Addr}{o:Obj},s1.heap.get? b=some o→H b=none→(je s1.heap H).get? b=some o:=fun e n=>rR e n
  have noA:∀{b:Addr}{o:Obj}{es:Array DictEntry}{ep:Nat},s1.heap.get? b=some o→o.data=.dict es ep→H b=none:=fun {b o es ep} e d=>by
   cases q:H b with
   |none=>rfl
   |some u=>
    rcases hA b (by rw[q];simp) with z |z
    ·rw[z,ha] at e;cases e;cases d
    ·rw[z,hT] at e;cases e;cases d
  have nsK:∀{b:Addr}{m:Str→Option Value},s1.heap.Ns b m→(je s1.heap H).Ns b m:=fun {b m} ⟨o,es,ep,e,d,r⟩=>⟨o,es,ep,base_of e (noA e d),d,r⟩
  have hKb:(bP tb K).In (je s1.heap H):=fun b o e=>base_of (KX b o (qH e)) (by
   cases q:H b with
   |none=>rfl
   |some u=>
    rcases hA b (by rw[q];simp) with z |z
    ·rw[z,dj,if_neg nat,hK (by rw[←z,q];simp)] at e;cases e
    ·rw[z,lV] at e;cases e)
  have hM:Mod (bP tb K) mg (je s1.heap H):=⟨hKb,nsK hns,⟨mb,nsK hb,hbb⟩,let ⟨mc,h1,h2⟩:=hlim;⟨mc,nsK h1,h2⟩⟩
  have am:Amb mg (je s1.heap H) H:=TB.amb KX (fun b o e=>(n6 e).1) ⟨_,hB⟩
  have e0:mW P w (bP tb K) mg (je s1.heap H) FD [] s1 H:=⟨rfl,hM,fun b o e=>n6 e,Nat.le_of_eq (o9 _ _),trivial,⟨fun b hb=>absurd (show b∈([]:List Addr) from hb) (by simp),am⟩,hok,.of_eq hg⟩
  refine C7 ((F _ hKb (nsK hns)).run FD [] s1 H ⟨[.ref a],[]⟩ [.ref a] [.ref a] _ _ hr e0 (hbind s1 (.ref a)) (.cons rfl .nil) (hsp H hS)) fun r s' h=>?_
  cases r with
  |error e=>exact (hCX H e s' h).elim
  |ok fl=>
   cases fl with
   |next=>exact False.elim h
   |brk=>exact False.elim h
   |cont=>exact False.elim h
   |ret u=>
    obtain ⟨v,H',os,bare,un,hok',r',q⟩:=h
    have q':v=.bl true:=q
    subst q'
    obtain rfl:u=zT true:=r'
    refine ⟨rfl,⟨fun b o e=>?_,fun b o e=>un.there b o e (by simp)⟩,os,bare⟩
    cases q:H b with
    |none=>exact .inl (un.keep b o e q (by intro z;exact absurd (show b∈([]:List Addr) from z) (by simp)) (by simp))
    |some u=>
     rcases hA b (by rw[q];simp) with z |z
     ·subst z
      obtain ⟨xs,rfl⟩:=hF u q
      have z2:=un.frzs b _ _ q
      obtain ⟨e1,_⟩:=hok b _ q
      obtain ⟨e2,_⟩:=hok' b _ z2
      rw[e] at e1;cases e1
      exact .inl e2
     ·subst z
      obtain ⟨m,z2⟩:=un.tbls b _ hB
      obtain ⟨ts,e2,_⟩:=(show t7 H' s'.heap b from hok' b _ z2)
      rw[hT] at e;cases e
      exact .inr (.inl ⟨isT,rfl,#[],(d8 ts).toArray,rfl,by rw[e2];simp⟩)
 have tbOk:∀H:Hp,t7 H s1.heap tb:=fun H=>⟨[],hT,fun t ht=>by cases ht⟩
 cases hk:K.lookup a with
 |some o=>
  have e:=KX a o hk
  rw[ha] at e
  cases e
  refine core (fun b=>if b=tb then some (.tbl #[]) else none) (.inr ⟨_,vs.toArray,_,gg nat hk,rfl,rfl,rfl,by rw[y_,lenV];exact hl,by simpa using rv⟩) (fun b u z=>?_) (fun b z=>?_) (fun z=>absurd (if_neg nat) z) (fun u z=>?_) (if_pos rfl)
  ·by_cases hb:b=tb
   ·have z':=(if_pos hb).symm.trans z
    cases z'
    rw[hb];exact tbOk _
   ·have z':=(if_neg hb).symm.trans z
    cases z'
  ·by_cases hb:b=tb
   ·exact .inr hb
   ·exact absurd (if_neg hb) z
  ·have z':=(if_neg nat).symm.trans z
   cases z'
 |none=>
  have at_:∀{b:Addr},b=a→(fun b=>if b=a then some (HO.frz {cls:=.type "list",data:=.seq vs.toArray } (.lst (ns.map V.int))) else if b=tb then some (.tbl #[]) else none:Hp) b=some (HO.frz {cls:=.type "list",data:=.seq vs.toArray } (.lst (ns.map V.int))):=fun e=>if_pos e
  have at2:∀{b:Addr},b=tb→(fun b=>if b=a then some (HO.frz {cls:=.type "list",data:=.seq vs.toArray } (.lst (ns.map V.int))) else if b=tb then some (.tbl #[]) else none:Hp) b=some (.tbl #[]):=fun e=>by
   dsimp only
   rw[if_neg (fun z=>nat (z.symm.trans e)),if_pos e]
  have at3:∀{b:Addr},b≠a→b≠tb→(fun b=>if b=a then some (HO.frz {cls:=.type "list",data:=.seq vs.toArray } (.lst (ns.map V.int))) else if b=tb then some (.tbl #[]) else none:Hp) b=none:=fun n1 n2=>by
   dsimp only
   rw[if_neg n1,if_neg n2]
  generalize (fun b=>if b=a then some (HO.frz {cls:=.type "list",data:=.seq vs.toArray } (.lst (ns.map V.int))) else if b=tb then some (.tbl #[]) else none:Hp)=H at *
  refine core H (.inl (.inr ⟨{cls:=.type "list",data:=.seq vs.toArray },at_ rfl⟩)) (fun b u z=>?_) (fun b z=>?_) (fun _=>hk) (fun u z=>?_) (at2 rfl)
  ·by_cases hb:b=a
   ·rw[at_ hb] at z
    cases z
    subst hb
    exact ⟨ha,by rw[yK];exact hl,vs,_,rv,ha⟩
   ·by_cases hc:b=tb
    ·rw[at2 hc] at z
     cases z
     rw[hc];exact tbOk _
    ·rw[at3 hb hc] at z;cases z
  ·by_cases hb:b=a
   ·exact .inl hb
   ·by_cases hc:b=tb
    ·exact .inr hc
    ·exact absurd (at3 hb hc) z
  ·rw[at_ rfl] at z
   cases z
   exact ⟨_,rfl⟩
def Sz (m:Nat) (x:Int):Prop:=x.natAbs < 2 ^ m
theorem Sz.mono {m n:Nat}{x:Int} (h:Sz m x) (hmn:m≤n):Sz n x:=za h (Ca (by decide) hmn)
theorem Sz.neg {m:Nat}{x:Int} (h:Sz m x):Sz m (-x):=by unfold Sz at *;rw[Int.natAbs_neg];exact h
theorem Sz.add {m:Nat}{x y:Int} (hx:Sz m x) (hy:Sz m y):Sz (m+1) (x+y):=by
 unfold Sz at *
 have:=Int.natAbs_add_le x y
 rw[Bj];omega
theorem Sz.sub {m:Nat}{x y:Int} (hx:Sz m x) (hy:Sz m y):Sz (m+1) (x - y):=by
 rw[Int.sub_eq_add_neg];exact hx.add hy.neg
theorem Sz.mul {m n:Nat}{x y:Int} (hx:Sz m x) (hy:Sz n y):Sz (m+n) (x*y):=by
 unfold Sz at *
 rw[C1,Nat.pow_add]
 exact Nat.mul_lt_mul'' hx hy
theorem Sz.le {m:Nat}{x y:Int} (h:x.natAbs≤y.natAbs) (hy:Sz m y):Sz m x:=DC h hy
theorem Sz.ediv {m:Nat}{x y:Int} (hx:Sz m x):Sz m (x / y):=Sz.le (Int.natAbs_ediv_le_natAbs x y) hx
theorem Sz.abs {m:Nat}{x:Int} (hx:Sz m x):Sz m (if x < 0 then -x else x):=by split;exact hx.neg;exact hx
instance (m:Nat) (x:Int):Decidable (Sz m x):=inferInstanceAs (Decidable (x.natAbs < 2 ^ m))
theorem Sz.add' {m n:Nat}{x y:Int} (hx:Sz m x) (hy:Sz n y):Sz (max m n+1) (x+y):=(hx.mono (Gn m n)).add (hy.mono (Gb m n))
theorem Sz.sub' {m n:Nat}{x y:Int} (hx:Sz m x) (hy:Sz n y):Sz (max m n+1) (x - y):=(hx.mono (Gn m n)).sub (hy.mono (Gb m n))
theorem Sz.lit {m:Nat}{x:Int} (h:Sz m x):Sz m x:=h
theorem Sz.ok {m n:Nat}{x y:Int} (hx:Sz m x) (hy:Sz n y) (h:m+n≤134217728):IntMulOk x y:=
 PyProof.Rows.mulOk_of_bits (intBits_le_iff.mpr hx) (intBits_le_iff.mpr hy) h
theorem Sz.log {m:Nat}{x:Int} (h:Sz m x) (hm:m≤9000) (h0:x≠0):x.natAbs.log2 < 9000:=by
 have q:=(Nat.log2_lt (by omega)).mpr (show x.natAbs < 2 ^ m from h)
 omega
def u7 (_ j:Int):Prop:=0 < j∧Sz 9000 j
def uQ (_ j:Int):Prop:=j≠0∧Sz 9000 j
section
variable {X:Cx}{a b c:Expr}{ta tb tc:TE}{pos:Pos}
theorem tI:OpR X (CY .Mult) (rI IntMulOk fun i j=>.int (i*j)):=opI fun _ _ _ _ _ _ _ hc q=>mul_int q hc
theorem qA:OpR X (CY .FloorDiv) (rI u7 fun i j=>.int (i / j)):=opI fun i j _ _ _ _ _ hc q=>by
 have h1:(0:Int) < j:=hc.1
 exact floordiv_int (by omega) (by rw[Int.fdiv_eq_ediv_of_nonneg i (by omega)];exact q) (.inl (PyProof.noPylong_of_log2 (hc.2.log (by decide) (by omega))))
theorem qI:OpR X (CY .FloorDiv) (rI uQ fun i j=>.int (i.fdiv j)):=opI fun i j _ _ _ _ _ hc q=>
 floordiv_int hc.1 q (.inl (PyProof.noPylong_of_log2 (hc.2.log (by decide) hc.1)))
theorem xq {x:Str}{n:String}{pos:Pos} (hg:Gl X x) (hm:X.mg x=none) (hv:A3 x=some (.type n)) (hn:x≠"__name__":=by decide) (hd:(x==("__debug__":Str))=false:=by decide):PE X (.Name x pos) (tC (.ty n)):=
 uo hg hm hv rfl hn hd
end
section
variable {X:Cx}
end
theorem kit_int_int (K:yH):DH K (.type "int") (.type "int")=some true:=rfl
theorem kit_int_bool (K:yH):DH K (.type "int") (.type "bool")=some false:=rfl
def Its (lo c:Int) (n:Nat):It:=⟨fun i _=>i < n,fun i H x H'=>H'=H∧x=.int (lo+(i:Nat) *c),fun i _=>n≤i⟩
theorem lH {P:yT}{w:World}{K:yH}{tg:Expr} (it:Addr) (lo c:Int) (n:Nat):o0 P w K tg (Its lo c n) [it] it (fun i h=>E9 h it (lo+(i:Nat) *c) ((n:Int) - (i:Nat)) c) where
 mem:=by simp
 obj:=fun i h st b hb=>by
  have e:b=it:=by simpa using hb
  subst e
  exact ⟨_,st,fun v z=>by
   have z':Data.fields _=Data.cell v:=z
   cases z'⟩
 keep:=fun i h h' st k=>k it (by simp) _ st
 item:=by
  intro X hP hw hK hc i pins s σ H E I hf st hg
  subst hP hw hK
  obtain ⟨f0,f1,f2,f3,f4,f5⟩:=hf it (by simp)
  have W:=Walks.range (prog:=X.prog) (w:=X.w) (I.ok.hd hc) it lo c n
  refine W.item i s _ _ hg st fun v h' tk hv st' kk=>?_
  obtain ⟨t,rfl⟩:=hv
  have I1:Inv X pins σ H {s with heap:=h',toks:=tk }:=I.turned (fun b o hb e=>kk b o (by simpa using hb) e) f0 f1 f3 f4 f5
  exact ⟨_,rfl,nH (s:={s with heap:=h',toks:=tk }) (n:="range_iterator") st' rfl rfl (by decide) ⟨.int (lo+(i:Nat) *c),H,I1,⟨t,rfl⟩,⟨rfl,rfl⟩,st',fun b hb=>(hf b hb).1⟩⟩
 done:=by
  intro X hP hw hK hc i pins s σ H E I hf st hg
  subst hP hw hK
  obtain ⟨f0,f1,f2,f3,f4,f5⟩:=hf it (by simp)
  exact Ek (I.ok.hd hc) st (by have:n≤i:=hg;omega) fun h' eb=>⟨rfl,I.turned (t':=s.toks) (fun b o hb e=>eb b o hb e) f0 f1 f3 f4 f5⟩
 self:=fun _ _ _ _ _ st h=>El st h
def e8 (i j c:Int):Nat:=if i < j then ((j - i - 1) / c+1).toNat else 0
theorem lX {a b c:Int} (ha:-(2 ^ 60)≤a) (ha':a < 2 ^ 60) (hb:-(2 ^ 60)≤b) (hb':b < 2 ^ 60) (hc:0 < c) (hc':c < 2 ^ 60):Builtin.Range.small a b c=true:=by
 have q1:a < b→(b - a - 1) / c≤b - a - 1:=fun h=>Ee _ (by omega)
 have q2:a < b→0≤(b - a - 1) / c:=fun h=>EA (by omega) (by omega)
 unfold Builtin.Range.small Builtin.Range.rangeSize
 simp only[Builtin.Range.rangeFitsLong,Ac,Bn,decide_eq_true_eq,beq_iff_eq,show c >0 from hc,if_true]
 split
 ·have:=q1 (by assumption);have:=q2 (by assumption);omega
 ·omega
section
variable {X:Cx}{tg:Expr}
def xa (ta:TA):TI:=fun σ H R=>ta σ H fun vs H1=>∃i j c:Int,vs=[.int i,.int j,.int c]∧(-(2 ^ 60)≤i∧i < 2 ^ 60∧-(2 ^ 60)≤j∧j < 2 ^ 60∧0 < c∧c < 2 ^ 30)∧R (Its i c (e8 i j c)) H1
theorem oy {a b c:Expr}{ta:TA}{p pos:Pos} (hg:Gl X "range") (hm:X.mg "range"=none) (ha:PA X [a,b,c] ta) (hs:yW [a,b,c] X.env=[(false,eval a X.env),(false,eval b X.env),(false,eval c X.env)]:=by rfl)
  (hs2:yW [b,c] X.env=[(false,eval b X.env),(false,eval c X.env)]:=by rfl):
  PI X tg (.Call (.Name "range" p) [a,b,c] [] pos) (xa ta):=by
 intro pins s σ H R I h
 refine Call_ (cQ I hg hm boot_range (PyProof.Rows.callWith_type1 (thn (ha pos pins s σ H _ I h) fun us s1 ⟨vs,H1,I1,r1,q1⟩=>?_) (by rw[hs,hs2]) (by rw[hs2];rfl)))
 obtain ⟨i,j,k,e,⟨q1,q2,q3,q4,q5,q6⟩,q⟩:=q1
 subst e
 cases r1 with
 |cons r rr=>
  cases rr with
  |cons r' rr=>
   cases rr with
   |cons r'' rr=>
    cases rr
    obtain ⟨t,rfl⟩:=r
    obtain ⟨t',rfl⟩:=r'
    obtain ⟨t'',rfl⟩:=r''
    refine call_range_3 (by omega) ?_ (.inl (PyProof.noPylong_small (by omega)))
    refine Fh (IsRange.new ..) (lX q1 q2 q3 q4 q5 (by omega)) ?_
    have I2:Inv X pins σ H1 {s1 with heap:=s1.heap.push {cls:=.type "range",data:=.fields #[.int i t,.int j t',.int k t''] },toks:=s1.toks }:=I1.kept fun b o e=>yG _ e
    refine ⟨(s1.heap.push {cls:=.type "range",data:=.fields #[.int i t,.int j t',.int k t''] }).objs.size,[(s1.heap.push {cls:=.type "range",data:=.fields #[.int i t,.int j t',.int k t''] }).objs.size],_,_,H1,rfl,
     I2.kept (t':=s1.toks) fun b o e=>yG _ e,lH _ i k (e8 i j k),?_,fun b hb=>?_,q⟩
    ·have e1:i+((0:Nat):Int) *k=i:=by simp
     have e2:((e8 i j k:Nat):Int) - ((0:Nat):Int)=Builtin.Range.rangeSize i j k:=by
      unfold e8 Builtin.Range.rangeSize
      rw[if_pos (show k >0 from q5)]
      by_cases hij:i < j
      ·rw[if_pos hij,if_pos hij]
       have:0≤(j - i - 1) / k:=EA (by omega) (by omega)
       omega
      ·rw[if_neg hij,if_neg hij] <;>omega
     show E9 _ _ (i+((0:Nat):Int) *k) (((e8 i j k:Nat):Int) - ((0:Nat):Int)) k
     rw[e1,e2]
     exact yR _ rfl
    ·have e:b=(s1.heap.push {cls:=.type "range",data:=.fields #[.int i t,.int j t',.int k t''] }).objs.size:=by simpa using hb
     subst e
     exact I2.fpOk (yO _) (I2.hok.fresh (yO _))
end
theorem aU {H:Hp}{p:Addr} (h:H p=none) (o:HO):ax H (upd H p o):=fun b u q=>by rw[aB (bR q h)];exact q
theorem ax.put {H H':Hp}{l:Addr} (e:ax H H') (h:H l=none) (o:HO):ax H (upd H' l o):=fun b u q=>by rw[aB (bR q h)];exact e b u q
theorem ax.tup {K:yH}{H H':Hp}{a:Addr}{xs:List V} (e:ax H H') (h:SqT K H a xs):SqT K H' a xs:=by
 rcases h with (h |⟨o,h⟩) |h
 ·exact .inl (.inl (e _ _ h))
 ·exact .inl (.inr ⟨o,e _ _ h⟩)
 ·exact .inr h
end L2
namespace L2
open PySem PySem.W PySem.Calls PySem.Spec PyProof.Rows
theorem kH {ns:List Int} (h:WData.layableAll [WData.list (ns.map WData.int)]=true):∀n∈ns,Sz 1048576 n:=by
 intro n hn
 have h1:=(PySem.W.layableW_arg h) _ (zZ.mpr rfl)
 have h2:=PySem.W.layableW_item h1 (WData.int n) (y8.mpr ⟨n,hn,rfl⟩)
 have h3:=(PySem.W.layableW_iff.mp h2).2.2
 have h4:Builtin.Int.intBits n≤1048576:=by simpa only[WData.weight,Builtin.Int.intBits] using h3
 exact intBits_le_iff.mp h4
theorem kA {l:Gp}{n:Nat}{q:yT}{loose:List Str}{XP:(Str→Option Value)→Heap→Prop}{YP:World→Heap→Prop}{d:DefRec}
  (hn:l.most=some n) (hdf:d.params.defaults=[])
  (call:∀(w:World) (s₀ s₁:yI) (mg mb:Str→Option Value) (fa:Addr) (o:Obj) (pm cd doc:Value) (a:Addr) (vs:List Value) (ns:List Int),
   PySem.W.Ground q loose [] XP w s₀ mg mb s₁.heap→YP w s₁.heap→
   s₁.heap.get? fa=some o→o.data=.func (docDef d.name d.params d.body d.scope pm cd doc)→s₁.heap.CodeRec cd d.name→mg d.name=some (.ref fa)→
   s₁.heap.get? a=some {cls:=.type "list",data:=.seq vs.toArray }→Hw vs ns→ns.length≤n→(∀m∈ns,Sz 1048576 m)→s₁.gens=#[]→
   CA (model l.prog w) FD (.call (.ref fa) ⟨[.ref a],[]⟩) (fun r s'=>r=.ok (.ret (.bool true))∧OldK s₁.heap s'.heap∧s'.os=s₁.os∧D0 s'.gens) s₁):
  Hx q loose XP YP l.row.toRowW d [] (fun f vs=>Ic f vs):=by
 intro w s₀ s₁ mg mb G Y fa o pm cd doc dV kV ho hd hcd hD hmg hg args vals as hpre hlay hrd hwl hlo
 obtain rfl:dV=.none:=HX hD hdf
 obtain rfl:kV=.none:=HY hD
 obtain ⟨a,vs,ns,rfl,rfl,hobj,hints,hlen⟩:=Att.script_of hn hpre hwl
 refine PySem.W.enter_call (C7 (call w s₀ s₁ mg mb fa o pm cd doc a vs ns G Y ho (PySem.W.fd_plain hd) hcd hmg hobj hints hlen (kH hlay) hg) fun r s' hq=>?_)
 obtain ⟨rfl,h2,h3,h4⟩:=hq
 exact ⟨.inl ⟨.bool true,.bool true,[],rfl,fun _=>rfl,.bool true,Att.post_true l _,fun _=>⟨B_,fun _ hm=>(nomatch hm)⟩⟩,h2,h3,h4⟩
end L2
namespace L2
theorem qm {α:Type}{xs:List α}{k:Int}{i:Nat}{v:α} (e:k=(i:Int)) (h:xs[i]?=some v):atI xs k=some v:=by subst e;exact nX h
theorem Sz.natle {m:Nat}{x y:Int} (hy:Sz m y) (h:x.natAbs≤y.natAbs):Sz m x:=Sz.le h hy
end L2
namespace L2
open PySem PySem.Spec PyProof.Rows
abbrev aG (X:Cx) (scope:Scope) (cl:List (Str×Addr)) (C:Addr) (s:yI) (H:Hp) (fp:List Addr):Cx:=
 {X with s₀:=s,H₀:=H,env:=Di scope cl C X.env,outer:=X.stack,ex:=fp,fn:=fun _=>false,pn:=[],xe:=fun _ _=>False }
def mask:List Nat→St→St
 |[],σ=>σ
 |i::is,σ=>mask is (σ.set i none)
theorem cM:∀(is:List Nat) (σ:St),(mask is σ).length=σ.length
 |[],_=>rfl
 |i::is,σ=>by rw[mask,cM is];simp
theorem eR:∀(is:List Nat) (σ:St) (j:Nat) (v:V),(mask is σ)[j]?=some (some v)→σ[j]?=some (some v)∧j ∉ is
 |[],σ,j,v,h=>⟨h,by simp⟩
 |i::is,σ,j,v,h=>by
  obtain ⟨h1,h2⟩:=eR is _ j v h
  by_cases e:i=j
  ·subst e
   rw[DQ] at h1
   simp at h1
  ·rw[zI e] at h1
   exact ⟨h1,by simp[Ne.symm e,h2]⟩
structure cU (X:Cx) (scope:Scope) (cl:List (Str×Addr)) (is:List Nat):Prop where
 clos:DR scope X.env=pure cl
 cell:∀y∈scope.names,y.2≠.cell
 kind:scope.kind=.function
 names:∀y∈scope.names,y.2=.local→scope.names.lookup y.1=some .local
 cls:∀x c,cl.lookup x=some c→X.env.cells.lookup x=some c
 free:∀x,((relabel scope X.env).names.lookup x=some .cell∨(relabel scope X.env).names.lookup x=some .free)→Vis X.env.scope x∧X.env.scope.names.lookup x≠some .local∧∃c,cl.lookup x=some c
 own:∀i x,X.N[i]?=some x→(relabel scope X.env).names.lookup x=some .local→i∈is
def pV (J:It) (is:List Nat) (g:TG) (te:TE) (σ:St) (H1:Hp) (l:Addr) (Q:VK):Prop:=
 ∃W:Nat→Nat→Hp→Prop,(∃m,W 0 m (upd H1 l (.lst [])))∧∀i m H2,W i m H2→
  (J.stop i H2∧Q (.ref l) H2)∨(J.go i H2∧∀x H3,J.yld i H2 x H3→g x (mask is σ) H3 fun σ4 H4=>te σ4 H4 fun y H5=>
   (∀(j:Nat) (v:V),(mask is σ)[j]?=some (some v)→σ4[j]?=some (some v))∧∃vs,H5 l=some (.lst vs)∧vs.length < sizeLine∧∃m',m' < m∧W (i+1) m' (upd H5 l (.lst (vs++[y]))))
def uY (is:List Nat) (g:TG) (te:TE) (σ:St) (Q:VK) (J:It) (H1:Hp):Prop:=∀l,H1 l=none→pV J is g te σ H1 l Q
def nK (is:List Nat) (wi:TI) (g:TG) (te:TE):TE:=fun σ H Q=>wi σ H (uY is g te σ Q)
section
variable {X:Cx}{pins:List (Addr×Obj)}{σ:St}{H:Hp}{s:yI}
theorem hU {scope:Scope}{cl:List (Str×Addr)}{is:List Nat}{fp:List Addr}{h₁:Heap}{m:Str→Option Value}{t':Nat} (I:Inv X pins σ H s) (B:cU X scope cl is) (hf:∀b∈fp,cR X pins H b) (hfl:∀b∈fp,b < s.heap.objs.size)
  (hn:h₁.Ns s.heap.objs.size m) (hk:∀b o,s.heap.get? b=some o→h₁.get? b=some o):
  Inv (aG X scope cl s.heap.objs.size s H fp) [] (mask is σ) H {s with heap:=h₁,toks:=t' }:=by
 refine ⟨⟨I.ok.mod,B.kind,I.ok.glob,I.ok.blt,yO _,fun x y c h1 h2=>I.ok.inj x y c (B.cls x c h1) (B.cls y c h2),fun x hx=>(B.free x hx).2.2,fun x c h=>(by cases h),I.ok.hd,I.ok.frames,.inl rfl,fun b hb=>⟨zb (hfl b hb),fun x c e=>(hf b hb).2.2.2.2.1 x c (B.cls x c e)⟩,
  I.bs,AH I.ok.bsz I.sz,fun b o e hb=>?_,fun b hb z=>?_,I.stack,⟨I.stkFree,I.amb⟩⟩,rfl,I.bare,Un.kept hk,⟨m,hn,fun i x v h1 h2 h3=>?_⟩,fun x c e=>?_,I.hok.fresh (yO _),fun x c e=>I.freeC x c (B.cls x c e),fun p hp=>absurd (show p∈([]:List (Addr×Obj)) from hp) (by simp),I.hok.kept hk,?_⟩
 ·rcases (hf b hb).2.2.2.1 with z |z
  ·exact I.ok.noex b o e z
  ·exact absurd (za (yQ e) (AH I.ok.bsz z)) (zO _)
 ·rcases yP.mp (I.stkSub b z) with e |e
  ·exact (hf b hb).2.1 e
  ·exact (hf b hb).2.2.1 e
 ·obtain ⟨e2,ni⟩:=eR is σ i v h2
  have h3':(relabel scope X.env).names.lookup x=some .local∨(relabel scope X.env).names.lookup x=some .cell∨(relabel scope X.env).names.lookup x=some .free:=h3
  rcases h3' with z |z
  ·exact absurd (B.own i x h1 z) ni
  ·obtain ⟨hv,hnl,c,hc⟩:=B.free x z
   obtain ⟨m0,_,hl⟩:=I.loc
   obtain ⟨u,r,l⟩:=hl i x v h1 e2 hv
   refine ⟨u,r,.inr ⟨z,c,hc,?_⟩⟩
   rcases l with ⟨k,_⟩ |⟨_,c',hc',o,ho,hd⟩
   ·exact absurd k hnl
   ·have ec:=B.cls x c hc
    rw[hc'] at ec
    cases ec
    exact ⟨o,hk _ _ ho,hd⟩
 ·obtain ⟨v,o,ho,hd⟩:=I.cell x c (B.cls x c e)
  exact ⟨v,o,hk _ _ ho,hd⟩
 ·show (mask is σ).length=X.N.length
  rw[cM];exact I.len
theorem sN {elt iter tg:Expr}{scope:Scope}{cl:List (Str×Addr)}{pos pos0:Pos}{is:List Nat}{wi:TI}{g:TG}{te:TE}{use:Option (Value→Sem Unit)}{Q0:VK}{Q:Value→yI→Prop} (hc:X.calm=true) (B:cU X scope cl is)
  (hi:PI X tg iter wi) (hg:∀C s H fp,PG (aG X scope cl C s H fp) tg g) (he:∀C s H fp,PE (aG X scope cl C s H fp) elt te) (hs:∀x,Ab iter X.env x=pure x)
  (I:Inv X pins σ H s) (h:nK is wi g te σ H Q0)
  (fin:∀(l C:Addr) (H':Hp) (s':yI) (m:Str→Option Value),Inv X pins σ H' s'→s'.heap.Ns C m→H' C=none→C≠X.env.locals→C ∉ X.fs→X.s₀.heap.objs.size≤C→(∀x c,X.env.cells.lookup x=some c→c≠C)→(∀p∈X.pn++pins,p.1≠C)→Q0 (.ref l) H'→
   Fp (model X.prog X.w) X.A X.xe use Q (.ref l) C (.ok .next) s'):
  wpAny (model X.prog X.w) X.A (comprehension (.ListComp elt [⟨tg,iter,[],0⟩] scope pos) scope X.env pos0 (newList []) false (eval iter X.env) use) Q X.xe s:=by
 refine Cv rfl hs B.clos B.kind B.names (thn (hi pins s σ H _ I h) fun xv s1 h1=>thn h1 fun itv s2 h2=>?_)
 obtain ⟨it,fp,tn,J,H2,e,I2,T,st2,f2,R⟩:=h2
 subst e
 refine A7 (Dg B.cell (by intro y hy;simp at hy) (fun h₁ hns hsb=>?_) B.kind)
 have hl:H2 s2.heap.objs.size=none:=I2.hok.fresh (yO _)
 obtain ⟨W,⟨m0,w0⟩,turn⟩:=R s2.heap.objs.size hl
 have I3:Inv X pins σ (upd H2 s2.heap.objs.size (.lst [])) {s2 with heap:=s2.heap.push {cls:=.type "list",dict:=none,data:=.seq ([]:List Value).toArray } }:=
  I2.laid (t':=s2.toks) (o:=.lst []) (fun b u e=>yG _ e) (yO _) ⟨zW _,[],0,.nil,yR _ rfl⟩
 have hfl:∀b∈fp,b < s2.heap.objs.size:=fun b hb=>let ⟨o,e,_⟩:=T.obj 0 _ st2 b hb;yQ e
 have f3:∀b∈fp,cR X pins (upd H2 s2.heap.objs.size (.lst [])) b:=fun b hb=>⟨by rw[aB (zb (hfl b hb))];exact (f2 b hb).1,(f2 b hb).2⟩
 have kp:∀b o,(s2.heap.push {cls:=.type "list",dict:=none,data:=.seq ([]:List Value).toArray }).get? b=some o→h₁.get? b=some o:=fun b o e=>
  hsb.extBut b o (zb (yQ e)) (yG _ e)
 have st4:tn 0 h₁:=T.keep 0 _ _ st2 fun b _ o e=>kp b o (yG _ e)
 have hfl3:∀b∈fp,b < (s2.heap.push {cls:=.type "list",dict:=none,data:=.seq ([]:List Value).toArray }).objs.size:=fun b hb=>by
  rw[z9];exact AE (hfl b hb)
 have I4:=hU (t':=s2.toks+([]:List (Str×Value)).length) I3 B f3 hfl3 hns kp
 have loop:CA (model X.prog X.w) X.A (.compLoop (.ListComp elt [⟨tg,iter,[],0⟩] scope pos) 0 (.ref it) (.ref s2.heap.objs.size) (Di scope cl (s2.heap.push {cls:=.type "list",dict:=none,data:=.seq ([]:List Value).toArray }).objs.size X.env))
   (Fp (model X.prog X.w) X.A X.xe use Q (.ref s2.heap.objs.size) (s2.heap.push {cls:=.type "list",dict:=none,data:=.seq ([]:List Value).toArray }).objs.size)
   {s2 with heap:=h₁,toks:=s2.toks+([]:List (Str×Value)).length }:=by
  generalize hs3:({s2 with heap:=s2.heap.push {cls:=.type "list",dict:=none,data:=.seq ([]:List Value).toArray } }:yI)=s3 at *
  have hC:(s2.heap.push {cls:=.type "list",dict:=none,data:=.seq ([]:List Value).toArray }).objs.size=s3.heap.objs.size:=by rw[←hs3]
  rw[hC]
  have hstat:∀{H':Hp},(∀b∈fp,H' b=none)→∀b∈fp,cR (aG X scope cl s3.heap.objs.size s3 (upd H2 s2.heap.objs.size (.lst [])) fp) [] H' b:=fun hn b hb=>
   ⟨hn b hb,(I4.ok.exf b hb).1,I4.ok.exfs b hb,.inl hb,fun x c e=>(I4.ok.exf b hb).2 x c e,fun p hp=>absurd (show p∈([]:List (Addr×Obj)) from hp) (by simp)⟩
  have back:∀{σ':St}{H':Hp}{pp:List (Addr×Obj)}{s':yI},Inv (aG X scope cl s3.heap.objs.size s3 (upd H2 s2.heap.objs.size (.lst [])) fp) pp σ' H' s'→Inv X pins σ H' s':=fun I'=>
   I3.call' (ch:=fp) I'.os I'.base I'.hok I'.bare fun b hb=>⟨(f3 b hb).2.2.2.1,(f3 b hb).2.1,(f3 b hb).2.2.2.2.1,(f3 b hb).2.2.2.2.2⟩
  refine FR rfl (fun n s'=>∃i H',Inv (aG X scope cl s3.heap.objs.size s3 (upd H2 s2.heap.objs.size (.lst [])) fp) [] (mask is σ) H' s'∧tn i s'.heap∧(∀b∈fp,H' b=none)∧W i n H') ?_ m0 ⟨0,_,(by subst hs3;exact I4),st4,fun b hb=>(f3 b hb).1,w0⟩
  rintro n s5 ⟨i,H5,I5,st5,fr5,w5⟩
  show wpAny _ _ ((compTurn (.ListComp elt [⟨tg,iter,[],0⟩] scope pos) 0 (.ref it) (.ref s2.heap.objs.size) (Di scope cl s3.heap.objs.size X.env)).onRaise (fun x=>do HG x (Di scope cl s3.heap.objs.size X.env);EB x)) _ _ s5
  refine Gq ?_
  rw[GV]
  refine yE (D5 (yE ?_))
  rcases turn i n H5 w5 with ⟨stop,q⟩ |⟨go,step⟩
  ·refine thn (T.done (aG X scope cl s3.heap.objs.size s3 (upd H2 s2.heap.objs.size (.lst [])) fp) rfl rfl rfl hc i [] s5 _ H5 _ I5 (hstat fr5) st5 stop) fun r s6 ⟨hr,I6⟩=>?_
   subst hr
   refine yJ ?_
   obtain ⟨m6,hn6,_⟩:=I6.loc
   have hCn:∀b,b < s3.heap.objs.size→b≠s3.heap.objs.size:=fun b hb=>zb hb
   refine fin _ s3.heap.objs.size H5 s6 m6 (back I6) hn6 I6.free (A4 I3.lt) (I3.nofs (yO _)) I3.sz (fun x c e=>?_) (fun p hp=>?_) q
   ·obtain ⟨v,z⟩:=I3.cell x c e
    exact zb z.lt
   ·exact zb (yQ (I3.pin p hp).1)
  ·refine thn (T.item (aG X scope cl s3.heap.objs.size s3 (upd H2 s2.heap.objs.size (.lst [])) fp) rfl rfl rfl hc i [] s5 _ H5 _ I5 (hstat fr5) st5 go) fun r s6 ⟨u,hr,h6⟩=>?_
   subst hr
   refine yE (thn h6 fun _ s7 ⟨x,H7,I7,r7,y7,st7,fr7⟩=>?_)
   have I7':=I7.pinned (hstat fr7) (T.obj _ _ st7)
   refine yE (AQ (hg _ _ _ _ _ s7 (mask is σ) H7 x u _ I7' r7 (step x H7 y7)) (fun _ s8 ⟨σ8,H8,I8,q8⟩=>?_) fun _ _ z=>z.elim)
   refine yE (yE (AQ (he _ _ _ _ _ s8 σ8 H8 _ I8 q8) (fun v s9 ⟨y,H9,I9,r9,sub,vs,hl9,hz,m',hm,w'⟩=>?_) fun _ _ z=>z.elim))
   refine yE (AQ (fF (X:=aG X scope cl s3.heap.objs.size s3 (upd H2 s2.heap.objs.size (.lst [])) fp) _ s9 σ8 H9 (.ref s2.heap.objs.size) [y] (.ref s2.heap.objs.size) [v] (fun _ H'=>H'=upd H9 s2.heap.objs.size (.lst (vs++[y]))) I9 rfl (.cons r9 .nil) ⟨_,vs,y,rfl,rfl,hl9,hz,rfl⟩) (fun z s10 ⟨zv,H10,I10,_,e10⟩=>?_) fun _ _ z=>z.elim)
   subst e10
   refine yJ (yJ ⟨rfl,m',hm,i+1,_,(I10.unpinned (pins:=[])).weak (by rw[I10.len,cM,I.len]) sub,T.keep _ _ _ st7 fun b hb o e=>(I10.pin (b,o) (yS _ (yS _ (bq hb e)))).1,fun b hb=>?_,w'⟩)
   obtain ⟨o,e,d⟩:=T.obj _ _ st7 b hb
   exact (I10.pin (b,o) (yS _ (yS _ (bq hb e)))).2.1
 exact CM loop (T.self X.A 0 _ _ _ st4 loop)
theorem uF {elt iter tg:Expr}{scope:Scope}{cl:List (Str×Addr)}{pos:Pos}{is:List Nat}{wi:TI}{g:TG}{te:TE} (hc:X.calm=true) (B:cU X scope cl is)
  (hi:PI X tg iter wi) (hg:∀C s H fp,PG (aG X scope cl C s H fp) tg g) (he:∀C s H fp,PE (aG X scope cl C s H fp) elt te) (hs:∀x,Ab iter X.env x=pure x:=by intro _;rfl):
  PE X (.ListComp elt [⟨tg,iter,[],0⟩] scope pos) (nK is wi g te):=by
 intro pins s σ H Q I h
 rw[Fq]
 refine sN (use:=none) hc B hi hg he hs I h fun l C H' s' m I' hn h1 h2 h3 h4 h5 h6 q=>⟨m,hn,fun h' hsb=>?_⟩
 exact ⟨.ref l,H',I'.turned (t':=s'.toks) (fun b o hb e=>hsb.extBut b o hb e) h1 (Ne.symm h2.symm) (.inr h4) h5 h6,rfl,q⟩
end
section
variable {X:Cx}
end
section
variable {prog:yT}{w:World}{A:zh}{E:Value→yI→Prop}
end
section
variable {X:Cx}{pos:Pos}
end
def goC (cells:List (Str×Addr)):List (Str×BF)→List (Str×Addr)→List (Str×Addr)
 |[],acc=>acc
 | (n,k)::r,acc=>goC cells r (if (k==.free)=true then (n,(cells.lookup n).getD 0)::acc else acc)
theorem fY {env:Env}{scope:Scope} (h:∀y∈scope.names,y.2=.free→(env.cells.lookup y.1).isSome=true):DR scope env=pure (goC env.cells scope.names []):=by
 have all:∀(names:List (Str×BF)) (acc:List (Str×Addr)),(∀y∈names,y.2=.free→(env.cells.lookup y.1).isSome=true)→
   (forIn names acc (fun x cs=>match x with | (name,kind)=>if (kind==.free)=true then (do let c ←cellOf env name;pure (ForInStep.yield ((name,c)::cs))) else pure (ForInStep.yield cs)):Sem (List (Str×Addr)))=pure (goC env.cells names acc):=by
  intro names
  induction names with
  |nil=>intro acc _;rfl
  |cons y r ih=>
   intro acc hy
   obtain ⟨n,k⟩:=y
   rw[CC]
   by_cases hk:k=.free
   ·subst hk
    have:=hy (n,.free) yV rfl
    obtain ⟨c,hc⟩:=Cu.mp this
    have e:cellOf env n=pure c:=by unfold cellOf;rw[hc]
    simp only[beq_self_eq_true,if_true,e,pure_bind]
    rw[ih _ fun y hy'=>hy y (yM _ hy')]
    simp only[goC,beq_self_eq_true,if_true,hc,Cj]
   ·have hb:(k==NameKind.free)=false:=by simpa using hk
    simp only[hb,yX,if_false,pure_bind]
    rw[ih _ fun y hy'=>hy y (yM _ hy')]
    simp only[goC,hb,yX,if_false]
 simp only[DR]
 have:=all scope.names [] h
 simpa using this
theorem ir {cells:List (Str×Addr)}:∀(names:List (Str×BF)) (acc:List (Str×Addr)),(∀y∈names,y.2=.free→(cells.lookup y.1).isSome=true)→(∀x c,acc.lookup x=some c→cells.lookup x=some c)→
  ∀x c,(goC cells names acc).lookup x=some c→cells.lookup x=some c
 |[],_,_,ha,x,c,h=>ha x c h
 | (n,k)::r,acc,hy,ha,x,c,h=>by
  rw[goC] at h
  refine ir r _ (fun y hy'=>hy y (yM _ hy')) (fun x' c' e=>?_) x c h
  by_cases hk:k=.free
  ·subst hk
   simp only[beq_self_eq_true,if_true] at e
   rw[zF] at e
   by_cases hx:(x'==n)=true
   ·rw[hx] at e
    have hx':x'=n:=by simpa using hx
    obtain ⟨c2,hc2⟩:=Cu.mp (hy (n,.free) yV rfl)
    simp only[hc2,Cj] at e
    rw[hx',hc2];exact e
   ·have:(x'==n)=false:=by simpa using hx
    rw[this] at e
    exact ha x' c' e
  ·have hb:(k==NameKind.free)=false:=by simpa using hk
   rw[hb] at e
   exact ha x' c' e
theorem iq {cells:List (Str×Addr)}{x:Str}:∀(names:List (Str×BF)) (acc:List (Str×Addr)),((x,NameKind.free)∈names∨∃c,acc.lookup x=some c)→∃c,(goC cells names acc).lookup x=some c
 |[],_,h=>by
  rcases h with h |h
  ·cases h
  ·exact h
 | (n,k)::r,acc,h=>by
  rw[goC]
  refine iq r _ ?_
  rcases h with h |⟨c,h⟩
  ·rcases yP.mp h with e |h
   ·cases e
    right
    simp
   ·exact .inl h
  ·right
   by_cases hk:k=.free
   ·subst hk
    simp only[beq_self_eq_true,if_true]
    rw[zF]
    cases hx:x==n with
    |true=>exact ⟨_,rfl⟩
    |false=>exact ⟨c,h⟩
   ·have hb:(k==NameKind.free)=false:=by simpa using hk
    rw[hb];exact ⟨c,h⟩
theorem aV {env:Env}{x:Str}{kd:BF}:∀{names:List (Str×BF)},
  (names.map fun (n,k)=>if (k==NameKind.free && env.scope.kind==.function && env.kindOf n==some .cell) then (n,NameKind.cell) else (n,k)).lookup x=some kd→names.lookup x=some kd∨(kd=.cell∧names.lookup x=some .free)
 |[],h=>by simp at h
 | (n,k)::r,h=>by
  have ih:=@aV env x kd r
  change Fb x ((if (k==NameKind.free && env.scope.kind==.function && env.kindOf n==some .cell)=true then (n,NameKind.cell) else (n,k))::_)=_ at h
  by_cases hc:(k==NameKind.free && env.scope.kind==.function && env.kindOf n==some .cell)=true
  ·rw[if_pos hc] at h
   rw[zF] at h ⊢
   cases hx:x==n with
   |true=>
    rw[hx] at h
    have hk:k=.free:=by
     have:=(ET.mp (ET.mp hc).1).1
     simpa using this
    subst hk
    have h':some NameKind.cell=some kd:=h
    cases h'
    exact .inr ⟨rfl,rfl⟩
   |false=>rw[hx] at h;exact ih h
  ·rw[if_neg hc] at h
   rw[zF] at h ⊢
   cases hx:x==n with
   |true=>rw[hx] at h;exact .inl h
   |false=>rw[hx] at h;exact ih h
def qu (scope fscope:Scope) (N:List Str) (is:List Nat):Bool:=
 scope.names.all (fun y=>y.2 !=.cell) && scope.names.all (fun y=>y.2 !=.local ||scope.names.lookup y.1==some .local) && scope.names.all (fun y=>y.2 !=.free ||fscope.names.lookup y.1==some .cell) &&
  (zS N.length).all fun i=>match N[i]? with |some x=>scope.names.lookup x !=some .local ||is.contains i |none=>true
theorem blk {X:Cx}{scope:Scope} (fscope:Scope) (N:List Str) (is:List Nat) (hNN:X.N=N) (hs:X.env.scope=fscope) (hcs:X.env.cells=Am (X.env.locals+1) fscope.names []) (hk:scope.kind=.function) (h:qu scope fscope N is=true):cU X scope (goC X.env.cells scope.names []) is:=by
 subst hNN
 unfold qu at h
 simp only[Ac,Ck] at h
 obtain ⟨⟨⟨h1,h2⟩,h3⟩,h4⟩:=h
 have f1:∀y∈scope.names,y.2=.free→fscope.names.lookup y.1=some .cell:=fun y hy e=>by
  have:=h3 y hy
  simp only[Bn,bne_iff_ne,ne_eq,beq_iff_eq] at this
  exact this.resolve_left fun z=>z e
 have f2:∀y∈scope.names,y.2=.free→(X.env.cells.lookup y.1).isSome=true:=fun y hy e=>by
  rw[hcs];exact Bs _ _ _ (.inl (f1 y hy e))
 have nc:∀y∈scope.names,y.2≠.cell:=fun y hy=>by have:=h1 y hy;simpa using this
 refine ⟨fY f2,nc,hk,fun y hy e=>?_,ir _ _ f2 (fun x c e=>by simp at e),fun x hx=>?_,fun i x hi hl=>?_⟩
 ·have:=h2 y hy
  simp only[Bn,bne_iff_ne,ne_eq,beq_iff_eq] at this
  exact this.resolve_left fun z=>z e
 ·have hf:(x,NameKind.free)∈scope.names:=by
   rcases hx with hx |hx
   ·rcases aV hx with z |⟨_,z⟩
    ·exact absurd rfl (nc _ (zL z))
    ·exact zL z
   ·rcases aV hx with z |⟨z,_⟩
    ·exact zL z
    ·cases z
  have hc:=f1 _ hf rfl
  refine ⟨.inr (.inl (by rw[hs];exact hc)),(by rw[hs,show fscope.names.lookup x=some .cell from hc];intro z;cases z),iq _ _ (.inl hf)⟩
 ·have hi':i < X.N.length:=(yU.mp hi).1
  have:=h4 i (zK.mpr hi')
  rw[hi] at this
  have hl':scope.names.lookup x=some .local:=by
   rcases aV hl with z |⟨z,_⟩
   ·exact z
   ·cases z
  simp only[hl',bne_self_eq_false,Hy,Bz] at this
  exact this
end L2
namespace L2
end L2
namespace L2
open PySem PySem.Spec PySem.W PyProof.Rows
def CXF (P:yT) (w:World):CXT:=fun outer H s E e s'=>∃(ea:Addr) (cls a0:Value) (B:Heap) (H':Hp),e=.ref ea∧s'.os=s.os∧D0 s'.gens∧Un (frs outer) [] H H' s.heap s'.heap∧HOk P w H' s'.heap∧H' ea=none∧
 (∀b o,s.heap.get? b=some o→b ∉ frs outer→H b=none→B.get? b=some o)∧(∀b u,H' b=some u→∃o,B.get? b=some o)∧(∀b o,s.heap.get? b=some o→b ∉ frs outer→∃o',B.get? b=some o')∧
 Heap.FlyingW B outer ea cls a0 s'.heap∧E cls none H'
theorem ay {P:yT}{w:World}{X:Cx}:ja (CXF P w) X E0:=fun _ _ _ _ _ _ _ h=>by
 obtain ⟨_,_,_,_,_,_,_,_,_,_,_,_,_,_,_,hE⟩:=h
 exact hE.elim
section
variable {P:yT}{w:World}{K:Frag}{mg:Str→Option Value}{base:Heap}{N:List Str}{qual:Str}{scope:Scope}{f:Addr}{cd:Value}{A:zh}{outer:List Env}{s:yI}{H:Hp}{E:XK}
end
theorem Fun.okF {P:yT}{w:World}{K:Frag}{mg:Str→Option Value}{base:Heap}{x qual:Str}{st:Stmt}{f:Addr}{fd:zG}{N ps:List Str}{k:Nat}{sp:Sp} (F:Fun K x qual st f fd) (S:aF N ps (af st)) (len:∀vs H Q E,sp vs H Q E→vs.length=ps.length)
  (hbody:∀(cdv:Value) (A:zh) (outer:List Env) (s:yI) (H:Hp) (vs:List V) (Q:VK) (E:XK),dk k (A.deeper (E3 qual (af st) s.heap.objs.size f cdv))→sp vs H Q E→
   ∃t,PSs (kW (CXF P w) P w K mg base N qual (af st) f cdv A outer s H E) (aA st) t∧t {nx:=fun _ H'=>Q .non H',rt:=Q } (start N vs) H):bD P w K mg base (CXF P w) (k+1) f fd ps sp:=by
 obtain ⟨oc,od,kV,doc,pm,an,cdv,ct,osl,rfl,lk,hcd⟩:=F.ex
 exact uS lk hcd S len fun A outer s H vs Q E hr hsp=>hbody cdv A outer s H vs Q E hr hsp
section
variable {X:Cx}{pins:List (Addr×Obj)}{σ:St}{H:Hp}{s:yI}
end
section
variable {X:Cx}
end
end L2
namespace L2
open PySem PySem.Spec PyProof.Rows
theorem jE {n:Nat}{e:Nat→Bool}:(zS n).all e=true↔∀j,j < n→e j=true:=by
 rw[Ck]
 exact ⟨fun h j hj=>h j (zK.mpr hj),fun h j hj=>h j (zK.mp hj)⟩
section
variable {X:Cx}
end
end L2
namespace PySem.W
open PySem PySem.Spec PySem.Calls PyProof.Rows PySem.Builtin PySem.Builtin.ObjectAttr PySem.Builtin.Getset_descriptor
section
variable {prog:yT}{w:World}{A:zh}{E:Value→yI→Prop}{s:yI}{K:Frag}{x C:Addr}
def OfCls (x C:Addr) (h:Heap):Prop:=∃o,h.get? x=some o∧o.cls=.ref C
variable (hga:findIn K (.ref C) "__getattribute__"=some (some (.builtin "BaseException.__getattribute__"))) (hgn:findIn K (.ref C) "__getattr__"=some none) (ha:findIn K (.ref C) "__class__"=some (some (.builtin "object.__class__")))
 (hn:specialIn K (.builtin "object.__class__") "__get__"=some (some (.builtin "getset_descriptor.__get__"))) (htk:takesIn K (.builtin "object.__class__")=some true) (hm:mroIn K C (.type "object")=some true) (hmB:mroIn K C (.type "BaseException")=some true)
include ha hn htk hm in
end
structure XcOk (K:Frag) (C:Addr):Prop where
 ga:findIn K (.ref C) "__getattribute__"=some (some (.builtin "BaseException.__getattribute__"))
 gn:findIn K (.ref C) "__getattr__"=some none
 at_:findIn K (.ref C) "__class__"=some (some (.builtin "object.__class__"))
 sp:specialIn K (.builtin "object.__class__") "__get__"=some (some (.builtin "getset_descriptor.__get__"))
 tk:takesIn K (.builtin "object.__class__")=some true
 mo:mroIn K C (.type "object")=some true
 mb:mroIn K C (.type "BaseException")=some true
theorem XcOk.off {x C:Addr}{h:Heap}{o:Obj}{T:String} (I:OfCls x C h) (e:h.get? x=some o) (c:o.cls=.type T):False:=by
 obtain ⟨o',e',c'⟩:=I
 rw[e] at e';cases e'
 rw[c] at c';cases c'
end PySem.W
namespace L2
open PySem PySem.Spec PyProof.Rows
inductive TyX where
 |nm (n:String) |xc (C:Addr)
inductive U where
 |non |bl (b:Bool) |int (i:Int) |str (x:Str) |ty (n:TyX) |dic |scr (xs:List U) |tup (xs:List U) |lst (xs:List U)
def U.items:U→Option (List U)
 | .scr xs=>some xs
 | .tup xs=>some xs
 | .lst xs=>some xs
 |_=>none
def hid (H:Hp) (O:List Addr):Hp:=fun b=>if b∈O then none else H b
theorem fX {H:Hp}{O:List Addr}{b:Addr}{o:HO} (h:hid H O b=some o):H b=some o∧b ∉ O:=by
 unfold hid at h
 split at h
 ·cases h
 ·exact ⟨h,by assumption⟩
theorem dg {H:Hp}{O:List Addr}{b:Addr}{o:HO} (h:H b=some o) (n:b ∉ O):hid H O b=some o:=by
 unfold hid;rw[if_neg n];exact h
theorem aD {H:Hp}{O:List Addr}:ax (hid H O) H:=fun _ _ h=>(fX h).1
theorem aI {H H':Hp}{O:List Addr} (e:ax H H'):ax (hid H O) (hid H' O):=fun _ _ h=>dg (e _ _ (fX h).1) (fX h).2
theorem dN {H:Hp}{O O':List Addr} (e:∀a∈O',a∈O):ax (hid H O) (hid H O'):=fun _ _ h=>dg (fX h).1 fun z=>(fX h).2 (e _ z)
theorem bJ {H H':Hp}{O:List Addr}{a:Addr} (e:ax H H') (n:H a=none):ax (hid H O) (hid H' (a::O)):=fun b o h=>by
 obtain ⟨h1,h2⟩:=fX h
 refine dg (e _ _ h1) fun z=>?_
 rcases yP.mp z with y |y
 ·subst y;rw[n] at h1;cases h1
 ·exact h2 y
theorem kz {H:Hp}{O:List Addr}{a:Addr}{o:HO} (h:a∈O):hid (upd H a o) O=hid H O:=by
 funext b
 unfold hid
 split
 ·rfl
 ·rename_i n
  rw[aB fun e=>n (by rw[e];exact h)]
inductive Rp (K:yH) (H:Hp):V→U→Prop where
 |non:Rp K H .non .non
 |bl (b:Bool):Rp K H (.bl b) (.bl b)
 |int (i:Int):Rp K H (.int i) (.int i)
 |str (x:Str):Rp K H (.str x) (.str x)
 |ty (n:String):Rp K H (.ty n) (.ty (.nm n))
 |dic {a:Addr}{kvs:List (Key×V)} (h:H a=some (.dK kvs)):Rp K H (.ref a) .dic
 |xc {a C:Addr} (h:H a=some (.ext (PySem.W.OfCls a C))) (k:PySem.W.XcOk K C):Rp K H (.ref a) (.ty (.xc C))
 |scr {a:Addr}{vs:List V}{xs:List U} (h:SqL K H a vs) (hl:vs.length=xs.length) (hi:∀(i:Nat) (v:V) (x:U),vs[i]?=some v→xs[i]?=some x→Rp K H v x):Rp K H (.ref a) (.scr xs)
 |tup {a:Addr}{vs:List V}{xs:List U} (h:SqT K H a vs) (hl:vs.length=xs.length) (hi:∀(i:Nat) (v:V) (x:U),vs[i]?=some v→xs[i]?=some x→Rp K H v x):Rp K H (.ref a) (.tup xs)
 |lst {a:Addr}{vs:List V}{xs:List U} (h:H a=some (.lst vs)) (hl:vs.length=xs.length) (hi:∀(i:Nat) (v:V) (x:U),vs[i]?=some v→xs[i]?=some x→Rp K H v x):Rp K H (.ref a) (.lst xs)
theorem Rp.same {K:yH}{H H':Hp}{v:V}{u:U} (e:ax H H') (h:Rp K H v u):Rp K H' v u:=by
 induction h with
 |non=>exact .non
 |bl b=>exact .bl b
 |int i=>exact .int i
 |str x=>exact .str x
 |ty n=>exact .ty n
 |dic h=>exact .dic (e _ _ h)
 |xc h k=>exact .xc (e _ _ h) k
 |scr h hl hi ih=>exact .scr (e.seq h) hl ih
 |tup h hl hi ih=>exact .tup (e.tup h) hl ih
 |lst h hl hi ih=>exact .lst (e _ _ h) hl ih
structure Rps (K:yH) (H:Hp) (vs:List V) (xs:List U):Prop where
 len:vs.length=xs.length
 at_:∀(i:Nat) (v:V) (x:U),vs[i]?=some v→xs[i]?=some x→Rp K H v x
theorem Rps.same {K:yH}{H H':Hp}{vs:List V}{xs:List U} (e:ax H H') (h:Rps K H vs xs):Rps K H' vs xs:=⟨h.len,fun i v x a b=>(h.at_ i v x a b).same e⟩
theorem Rps.nil {K:yH}{H:Hp}:Rps K H [] []:=⟨rfl,fun i v x h=>by simp at h⟩
theorem Rps.cons {K:yH}{H:Hp}{v:V}{x:U}{vs:List V}{xs:List U} (h:Rp K H v x) (t:Rps K H vs xs):Rps K H (v::vs) (x::xs):=by
 refine ⟨by simp[t.len],fun i a b h1 h2=>?_⟩
 cases i with
 |zero=>simp at h1 h2;subst h1;subst h2;exact h
 |succ i=>exact t.at_ i a b (by simpa using h1) (by simpa using h2)
theorem Rps.snoc {K:yH}{H:Hp}{vs ws:List V}{xs ys:List U} (h:Rps K H vs xs) (t:Rps K H ws ys):Rps K H (vs++ws) (xs++ys):=by
 refine ⟨by simp[h.len,t.len],fun i a b h1 h2=>?_⟩
 by_cases hi:i < vs.length
 ·rw[zE hi] at h1
  rw[zE (by rw[←h.len];exact hi)] at h2
  exact h.at_ i a b h1 h2
 ·have hle:vs.length≤i:=Ci hi
  rw[zm hle] at h1
  rw[zm (by rw[←h.len];exact hle),←h.len] at h2
  exact t.at_ _ a b h1 h2
theorem Rps.get {K:yH}{H:Hp}{vs:List V}{xs:List U}{i:Nat}{x:U} (h:Rps K H vs xs) (e:xs[i]?=some x):∃v,vs[i]?=some v∧Rp K H v x:=by
 have hi:i < vs.length:=by rw[h.len];exact (yU.mp e).1
 exact ⟨vs[i],yD hi,h.at_ i _ x (yD hi) e⟩
theorem Rps.atI {K:yH}{H:Hp}{vs:List V}{xs:List U}{i:Int}{x:U} (h:Rps K H vs xs) (e:L2.atI xs i=some x):∃v,L2.atI vs i=some v∧Rp K H v x:=by
 unfold L2.atI at e ⊢
 rw[h.len]
 cases q:ixN xs.length i with
 |none=>rw[q] at e;cases e
 |some j=>
  rw[q] at e
  obtain ⟨v,h1,h2⟩:=h.get (show xs[j]?=some x from e)
  exact ⟨v,h1,h2⟩
theorem Rps.cons_inv {K:yH}{H:Hp}{vs:List V}{x:U}{xs:List U} (h:Rps K H vs (x::xs)):∃v ws,vs=v::ws∧Rp K H v x∧Rps K H ws xs:=by
 cases vs with
 |nil=>have:=h.len;simp at this
 |cons v ws=>
  refine ⟨v,ws,rfl,h.at_ 0 v x rfl rfl,by have:=h.len;simpa using this,fun i a b h1 h2=>h.at_ (i+1) a b (by simpa using h1) (by simpa using h2)⟩
theorem Rps.nil_inv {K:yH}{H:Hp}{vs:List V} (h:Rps K H vs []):vs=[]:=AZ.mp (by rw[h.len];rfl)
inductive Sl where
 |val (u:U) |own (xs:List U) |pin (w:V) (u:U)
abbrev PSt:=List (Option Sl)
def tZ (K:yH) (H:Hp) (O O0:List Addr) (v:V):Sl→Prop
 | .val u=>Rp K (hid H O) v u
 | .own xs=>∃a vs,v=.ref a∧a∈O∧a ∉ O0∧H a=some (.lst vs)∧Rps K (hid H O) vs xs
 | .pin w u=>v=w∧Rp K (hid H O) v u
structure Rs (K:yH) (H0:Hp) (O0:List Addr) (ps:PSt) (σ:St) (H:Hp) (O:List Addr):Prop where
 same:ax H0 H
 old:∀a∈O0,a∈O
 new:∀a∈O,a∈O0∨H0 a=none
 dom:∀a∈O,H a≠none
 len:σ.length=ps.length
 at_:∀(i:Nat) (s:Sl),ps[i]?=some (some s)→∃v,σ[i]?=some (some v)∧tZ K H O O0 v s
 inj:∀(i j:Nat) (xs ys:List U) (a:Addr),ps[i]?=some (some (.own xs))→ps[j]?=some (some (.own ys))→σ[i]?=some (some (.ref a))→σ[j]?=some (some (.ref a))→i=j
section
variable {K:yH}{H0 H H':Hp}{O0 O:List Addr}{ps:PSt}{σ:St}
theorem tZ.same {v:V}{s:Sl} (e:ax H H') (h:tZ K H O O0 v s):tZ K H' O O0 v s:=by
 cases s with
 |val u=>exact Rp.same (aI e) h
 |own xs=>obtain ⟨a,vs,h1,h2,h3,h4,h5⟩:=h;exact ⟨a,vs,h1,h2,h3,e _ _ h4,h5.same (aI e)⟩
 |pin w u=>exact ⟨h.1,Rp.same (aI e) h.2⟩
theorem Rs.go (R:Rs K H0 O0 ps σ H O) (e:ax H H'):Rs K H0 O0 ps σ H' O:=
 ⟨R.same.trans e,R.old,R.new,fun a ha z=>R.dom a ha (e.free z),R.len,fun i s h=>let ⟨v,h1,h2⟩:=R.at_ i s h;⟨v,h1,h2.same e⟩,R.inj⟩
theorem cO {α:Type}{xs:List α}{i j:Nat}{y x:α} (h:(xs.set i y)[j]?=some x):(i=j∧x=y)∨(i≠j∧xs[j]?=some x):=by
 by_cases e:i=j
 ·subst e
  rw[DQ] at h
  simp at h
  exact .inl ⟨rfl,h.2.symm⟩
 ·rw[zI e] at h
  exact .inr ⟨e,h⟩
theorem gl {α:Type}{xs:List α}{i:Nat}{y:α} (h:i < xs.length):(xs.set i y)[i]?=some y:=by rw[DQ];simp[h]
theorem aC {α:Type}{xs:List α}{i:Nat}{y:α} (h:xs[i]?=some y):i < xs.length:=(yU.mp h).1
theorem i9 {i:Nat}{u:U}{j:Nat}{xs:List U} (h:(ps.set i (some (.val u)))[j]?=some (some (.own xs))):i≠j∧ps[j]?=some (some (.own xs)):=by
 rcases cO h with ⟨_,e⟩ |h
 ·cases e
 ·exact h
theorem Rs.set {i:Nat}{v:V}{u:U} (R:Rs K H0 O0 ps σ H O) (r:Rp K (hid H O) v u):Rs K H0 O0 (ps.set i (some (.val u))) (σ.set i (some v)) H O:=by
 refine ⟨R.same,R.old,R.new,R.dom,by simp[R.len],fun j s h=>?_,fun j k xs ys a h1 h2 h3 h4=>?_⟩
 ·rcases cO h with ⟨e,q⟩ |⟨n,q⟩
  ·subst e
   cases q
   have hi:=aC h
   rw[CD] at hi
   exact ⟨v,gl (by rw[R.len];exact hi),r⟩
  ·obtain ⟨w,h1,h2⟩:=R.at_ j s q
   exact ⟨w,by rw[zI n];exact h1,h2⟩
 ·obtain ⟨n1,q1⟩:=i9 h1
  obtain ⟨n2,q2⟩:=i9 h2
  rw[zI n1] at h3
  rw[zI n2] at h4
  exact R.inj j k xs ys a q1 q2 h3 h4
theorem Rs.drop {i:Nat}{o:Option V} (R:Rs K H0 O0 ps σ H O):Rs K H0 O0 (ps.set i none) (σ.set i o) H O:=by
 have key:∀{j:Nat}{s:Sl},(ps.set i none)[j]?=some (some s)→i≠j∧ps[j]?=some (some s):=fun {j s} h=>by
  rcases cO h with ⟨_,e⟩ |h
  ·cases e
  ·exact h
 refine ⟨R.same,R.old,R.new,R.dom,by simp[R.len],fun j s h=>?_,fun j k xs ys a h1 h2 h3 h4=>?_⟩
 ·obtain ⟨n,q⟩:=key h
  obtain ⟨w,h1,h2⟩:=R.at_ j s q
  exact ⟨w,by rw[zI n];exact h1,h2⟩
 ·obtain ⟨n1,q1⟩:=key h1
  obtain ⟨n2,q2⟩:=key h2
  rw[zI n1] at h3
  rw[zI n2] at h4
  exact R.inj j k xs ys a q1 q2 h3 h4
theorem Rs.own {i:Nat}{a:Addr}{vs:List V}{xs:List U} (R:Rs K H0 O0 ps σ H O) (e:ax H H') (n:H a=none) (h:H' a=some (.lst vs)) (r:Rps K (hid H' (a::O)) vs xs):
  Rs K H0 O0 (ps.set i (some (.own xs))) (σ.set i (some (.ref a))) H' (a::O):=by
 have na:a ∉ O:=fun z=>R.dom a z n
 have na0:a ∉ O0:=fun z=>na (R.old a z)
 have n0:H0 a=none:=R.same.free n
 have noref:∀(j:Nat) (ys:List U),ps[j]?=some (some (.own ys))→σ[j]?≠some (some (.ref a)):=fun j ys h1 h2=>by
  obtain ⟨v,h3,b,ws,h4,h5,_⟩:=R.at_ j _ h1
  rw[h2] at h3
  cases h3
  cases h4
  exact na h5
 refine ⟨R.same.trans e,fun b hb=>yM _ (R.old b hb),fun b hb=>?_,fun b hb z=>?_,by simp[R.len],fun j s q=>?_,fun j k ys zs b h1 h2 h3 h4=>?_⟩
 ·rcases yP.mp hb with y |y
  ·subst y;exact .inr n0
  ·exact R.new b y
 ·rcases yP.mp hb with y |y
  ·subst y;rw[h] at z;cases z
  ·exact R.dom b y (e.free z)
 ·rcases cO q with ⟨e',q'⟩ |⟨ne,q'⟩
  ·subst e'
   cases q'
   have hi:=aC q
   rw[CD] at hi
   exact ⟨.ref a,gl (by rw[R.len];exact hi),a,vs,rfl,yV,na0,h,r⟩
  ·obtain ⟨w,h1,h2⟩:=R.at_ j s q'
   refine ⟨w,by rw[zI ne];exact h1,?_⟩
   cases s with
   |val u=>exact Rp.same (bJ e n) h2
   |own ys=>
    obtain ⟨b,ws,k1,k2,k3,k4,k5⟩:=h2
    exact ⟨b,ws,k1,yM _ k2,k3,e _ _ k4,k5.same (bJ e n)⟩
   |pin z u=>exact ⟨h2.1,Rp.same (bJ e n) h2.2⟩
 ·rcases cO h1 with ⟨e1,q1⟩ |⟨n1,q1⟩ <;>rcases cO h2 with ⟨e2,q2⟩ |⟨n2,q2⟩
  ·rw[←e1,←e2]
  ·subst e1
   have hi:=aC h3
   rw[CD] at hi
   rw[gl hi] at h3
   cases h3
   rw[zI n2] at h4
   exact absurd h4 (noref k zs q2)
  ·subst e2
   have hi:=aC h4
   rw[CD] at hi
   rw[gl hi] at h4
   cases h4
   rw[zI n1] at h3
   exact absurd h3 (noref j ys q1)
  ·rw[zI n1] at h3
   rw[zI n2] at h4
   exact R.inj j k ys zs b q1 q2 h3 h4
theorem Rs.write {i:Nat}{a:Addr}{vs:List V}{xs ys:List U} (R:Rs K H0 O0 ps σ H O) (hp:ps[i]?=some (some (.own xs))) (hs:σ[i]?=some (some (.ref a))) (r:Rps K (hid H O) vs ys):
  Rs K H0 O0 (ps.set i (some (.own ys))) σ (upd H a (.lst vs)) O:=by
 obtain ⟨v,h1,b,ws,h2,h3,h4,h5,h6⟩:=R.at_ i _ hp
 rw[hs] at h1
 cases h1
 cases h2
 have h0:H0 a=none:=(R.new a h3).resolve_left h4
 have eh:hid (upd H a (.lst vs)) O=hid H O:=kz h3
 refine ⟨R.same.put h0 _,R.old,R.new,fun b hb z=>?_,by simp[R.len],fun j s q=>?_,fun j k zs us b q1 q2 q3 q4=>?_⟩
 ·by_cases e:b=a
  ·subst e;rw[aS] at z;cases z
  ·rw[aB e] at z;exact R.dom b hb z
 ·rcases cO q with ⟨e',q'⟩ |⟨ne,q'⟩
  ·subst e'
   cases q'
   exact ⟨.ref a,hs,a,vs,rfl,h3,h4,aS,by rw[eh];exact r⟩
  ·obtain ⟨w,k1,k2⟩:=R.at_ j s q'
   refine ⟨w,k1,?_⟩
   cases s with
   |val u=>exact (show Rp K (hid (upd H a (.lst vs)) O) w u by rw[eh];exact k2)
   |own zs=>
    obtain ⟨b,us,e1,e2,e3,e4,e5⟩:=k2
    subst e1
    have:b≠a:=fun z=>by subst z;exact ne (R.inj i j xs zs b hp q' hs k1)
    exact ⟨b,us,rfl,e2,e3,by rw[aB this];exact e4,by rw[eh];exact e5⟩
   |pin z u=>exact ⟨k2.1,by rw[eh];exact k2.2⟩
 ·have c1:∃zs',ps[j]?=some (some (.own zs')):=by
   rcases cO q1 with ⟨e,_⟩ |⟨_,z⟩
   ·subst e;exact ⟨_,hp⟩
   ·exact ⟨_,z⟩
  have c2:∃zs',ps[k]?=some (some (.own zs')):=by
   rcases cO q2 with ⟨e,_⟩ |⟨_,z⟩
   ·subst e;exact ⟨_,hp⟩
   ·exact ⟨_,z⟩
  obtain ⟨_,c1⟩:=c1
  obtain ⟨_,c2⟩:=c2
  exact R.inj j k _ _ b c1 c2 q3 q4
def SubP:PSt→PSt→Prop
 |[],[]=>True
 |none::p,_::q=>SubP p q
 |some s::p,t::q=>t=some s∧SubP p q
 |_,_=>False
theorem SubP.at_:∀{p q:PSt},SubP p q→p.length=q.length∧∀(i:Nat) (s:Sl),p[i]?=some (some s)→q[i]?=some (some s)
 |[],[],_=>⟨rfl,fun i s h=>by simp at h⟩
 |none::p,t::q,h=>by
  obtain ⟨h1,h2⟩:=SubP.at_ (p:=p) (q:=q) h
  refine ⟨by simp[h1],fun i s e=>?_⟩
  cases i with
  |zero=>simp at e
  |succ i=>exact h2 i s (by simpa using e)
 |some s0::p,t::q,h=>by
  obtain ⟨h0,h⟩:=h
  obtain ⟨h1,h2⟩:=SubP.at_ (p:=p) (q:=q) h
  refine ⟨by simp[h1],fun i s e=>?_⟩
  cases i with
  |zero=>simp at e;subst e;rw[h0];rfl
  |succ i=>exact h2 i s (by simpa using e)
 |[],_::_,h=>h.elim
 |none::_,[],h=>h.elim
 |some _::_,[],h=>h.elim
theorem Rs.sub {ps':PSt} (R:Rs K H0 O0 ps σ H O) (h:SubP ps' ps):Rs K H0 O0 ps' σ H O:=by
 obtain ⟨h1,h2⟩:=h.at_
 exact ⟨R.same,R.old,R.new,R.dom,R.len.trans h1.symm,fun i s e=>R.at_ i s (h2 i s e),fun i j xs ys a e1 e2=>R.inj i j xs ys a (h2 _ _ e1) (h2 _ _ e2)⟩
end
def Ev (X:Cx) (H0:Hp) (O0:List Addr) (ps:PSt) (e:Expr) (u:U):Prop:=
 PE X e fun σ H Q=>∃O,Rs X.K H0 O0 ps σ H O∧∀v H',ax H H'→Rp X.K (hid H' O) v u→Q v H'
def EvN (X:Cx) (H0:Hp) (O0:List Addr) (ps:PSt) (e:Expr) (xs:List U):Prop:=
 PE X e fun σ H Q=>∃O,Rs X.K H0 O0 ps σ H O∧∀a vs H',ax H H'→H a=none→H' a=some (.lst vs)→Rps X.K (hid H' (a::O)) vs xs→Q (.ref a) H'
def Tt (X:Cx) (H0:Hp) (O0:List Addr) (ps:PSt) (e:Expr) (b:Bool):Prop:=
 PT X e fun σ H Q=>∃O,Rs X.K H0 O0 ps σ H O∧∀H',ax H H'→Q b H'
def Tw (X:Cx) (H0:Hp) (O0:List Addr) (ps:PSt) (e:Expr) (b:Bool):Prop:=
 PW X e fun σ H Q=>∃O,Rs X.K H0 O0 ps σ H O∧∀H',ax H H'→Q b H'
def EvA (X:Cx) (H0:Hp) (O0:List Addr) (ps:PSt) (es:List Expr) (us:List U):Prop:=
 PA X es fun σ H Q=>∃O,Rs X.K H0 O0 ps σ H O∧∀vs H',ax H H'→Rps X.K (hid H' O) vs us→Q vs H'
theorem PE.mono {X:Cx}{e:Expr}{t t':TE} (h:PE X e t) (m:∀σ H Q,t' σ H Q→t σ H Q):PE X e t':=fun pins s σ H Q I q=>h pins s σ H Q I (m σ H Q q)
theorem PT.mono {X:Cx}{e:Expr}{t t':TT} (h:PT X e t) (m:∀σ H Q,t' σ H Q→t σ H Q):PT X e t':=fun pins s σ H Q I q=>h pins s σ H Q I (m σ H Q q)
theorem PW.mono {X:Cx}{e:Expr}{t t':TT} (h:PW X e t) (m:∀σ H Q,t' σ H Q→t σ H Q):PW X e t':=fun wh pins s σ H Q I q=>h wh pins s σ H Q I (m σ H Q q)
theorem PA.mono {X:Cx}{e:List Expr}{t t':TA} (h:PA X e t) (m:∀σ H Q,t' σ H Q→t σ H Q):PA X e t':=fun pos pins s σ H Q I q=>h pos pins s σ H Q I (m σ H Q q)
theorem PS.mono {X:Cx}{e:Stmt}{t t':TS} (h:PS X e t) (m:∀D σ H,t' D σ H→t D σ H):PS X e t':=fun pins s σ H D I q=>h pins s σ H D I (m D σ H q)
theorem PSs.mono {X:Cx}{e:List Stmt}{t t':TS} (h:PSs X e t) (m:∀D σ H,t' D σ H→t D σ H):PSs X e t':=fun pins s σ H D I q=>h pins s σ H D I (m D σ H q)
section
variable {X:Cx}{H0:Hp}{O0:List Addr}{ps:PSt}{a b c e:Expr}{es:List Expr}{pos p:Pos}{u x y:U}{xs ys us:List U}{i j:Int}
theorem EvN.ev (h:EvN X H0 O0 ps e xs):Ev X H0 O0 ps e (.lst xs):=PE.mono h fun σ H Q ⟨O,R,k⟩=>⟨O,R,fun a vs H' s n h r=>by
 have na:a ∉ O:=fun z=>R.dom a z n
 have less:ax (hid H' (a::O)) (hid H' O):=dN fun b hb=>yM _ hb
 exact k _ H' s (.lst (dg h na) (r.same less).len (r.same less).at_)⟩
theorem aa (i:Nat) {x:Str}{u:U} (h:ps[i]?=some (some (.val u))) (hN:X.N[i]?=some x:=by rfl) (hv:Vis X.env.scope x:=by first |exact Or.inl rfl |exact Or.inr (Or.inl rfl) |exact Or.inr (Or.inr rfl)) (hd:(x==("__debug__":Str))=false:=by decide)
  (hcd:(x==("__classdict__":Str))=false:=by decide):Ev X H0 O0 ps (.Name x pos) u:=PE.mono (gG hN hv hd hcd) fun σ H Q ⟨O,R,k⟩=>by
 obtain ⟨v,h1,h2⟩:=R.at_ i _ h
 exact ⟨v,h1,k v H (.refl H) h2⟩
theorem ab {i j pos}:Ev X H0 O0 ps (.Constant (.int i) j pos) (.int i):=PE.mono we fun _ H _ ⟨_,_,k⟩=>k _ H (.refl H) (.int i)
theorem xJ {i j pos}:Ev X H0 O0 ps (.Constant (.bool i) j pos) (.bl i):=PE.mono xK fun _ H _ ⟨_,_,k⟩=>k _ H (.refl H) (.bl i)
theorem kF {x:Str}{n:String}{pos:Pos} (hg:Gl X x) (hm:X.mg x=none) (hv:A3 x=some (.type n)) (hn:x≠"__name__":=by decide) (hd:(x==("__debug__":Str))=false:=by decide):Ev X H0 O0 ps (.Name x pos) (.ty (.nm n)):=
 PE.mono (xq hg hm hv hn hd) fun _ H _ ⟨_,_,k⟩=>k _ H (.refl H) (.ty n)
theorem two {ta tb:TE}{σ:St}{H:Hp}{Q:VK}{O:List Addr}{r:R2} (R:Rs X.K H0 O0 ps σ H O)
  (ha:∀σ H Q,(∃O,Rs X.K H0 O0 ps σ H O∧∀v H',ax H H'→Rp X.K (hid H' O) v x→Q v H')→ta σ H Q) (hb:∀σ H Q,(∃O,Rs X.K H0 O0 ps σ H O∧∀v H',ax H H'→Rp X.K (hid H' O) v y→Q v H')→tb σ H Q)
  (h:∀v w H',ax H H'→Rs X.K H0 O0 ps σ H' O→Rp X.K (hid H' O) v x→Rp X.K (hid H' O) w y→r v w H' Q):tOp r ta tb σ H Q:=
 ha σ H _ ⟨O,R,fun v H1 s1 r1=>hb σ H1 _ ⟨O,R.go s1,fun w H2 s2 r2=>h v w H2 (s1.trans s2) (R.go (s1.trans s2)) (r1.same (aI s2)) r2⟩⟩
theorem vt {op:Hu}{g:Int→Int→Int} (ho:OpR X (CY op) (rI0 fun i j=>.int (g i j))) (ha:Ev X H0 O0 ps a (.int i)) (hb:Ev X H0 O0 ps b (.int j)):Ev X H0 O0 ps (.BinOp a op b pos) (.int (g i j)):=
 PE.mono (pU ho ha hb) fun σ H Q ⟨O,R,k⟩=>two (x:=.int i) (y:=.int j) R (fun _ _ _ z=>z) (fun _ _ _ z=>z) fun v w H' s _ r1 r2=>by
  cases r1;cases r2;exact ⟨i,j,rfl,rfl,k _ H' s (.int _)⟩
theorem ln {op:Hu}{C:Int→Int→Prop}{g:Int→Int→Int} (ho:OpR X (CY op) (rI C fun i j=>.int (g i j))) (ha:Ev X H0 O0 ps a (.int i)) (hb:Ev X H0 O0 ps b (.int j)) (hc:C i j):Ev X H0 O0 ps (.BinOp a op b pos) (.int (g i j)):=
 PE.mono (pU ho ha hb) fun σ H Q ⟨O,R,k⟩=>two (x:=.int i) (y:=.int j) R (fun _ _ _ z=>z) (fun _ _ _ z=>z) fun v w H' s _ r1 r2=>by
  cases r1;cases r2;exact ⟨i,j,rfl,rfl,hc,k _ H' s (.int _)⟩
theorem cw (ha:Ev X H0 O0 ps a (.int i)) (hb:Ev X H0 O0 ps b (.int j)):Ev X H0 O0 ps (.BinOp a .Add b pos) (.int (i+j)):=vt v_ ha hb
theorem bB (ha:Ev X H0 O0 ps a (.int i)) (hb:Ev X H0 O0 ps b (.int j)):Ev X H0 O0 ps (.BinOp a .Sub b pos) (.int (i - j)):=vt wQ ha hb
theorem bK (ha:Ev X H0 O0 ps a (.int i)) (hb:Ev X H0 O0 ps b (.int j)) (hc:IntMulOk i j):Ev X H0 O0 ps (.BinOp a .Mult b pos) (.int (i*j)):=ln tI ha hb hc
theorem dw (ha:Ev X H0 O0 ps a (.int i)) (hb:Ev X H0 O0 ps b (.int j)) (hc:u7 i j):Ev X H0 O0 ps (.BinOp a .FloorDiv b pos) (.int (i / j)):=ln qA ha hb hc
theorem wd (ha:Ev X H0 O0 ps a (.int i)) (hb:Ev X H0 O0 ps b (.int j)) (hc:uQ i j):Ev X H0 O0 ps (.BinOp a .FloorDiv b pos) (.int (i.fdiv j)):=ln qI ha hb hc
theorem cr (ha:Ev X H0 O0 ps a (.int i)) (hb:Ev X H0 O0 ps b (.int j)) (hc:0 < j):Ev X H0 O0 ps (.BinOp a .Mod b pos) (.int (i % j)):=ln wB ha hb hc
theorem jx (ha:Ev X H0 O0 ps a (.int i)) (hb:Ev X H0 O0 ps b (.int j)) (hc:xu i j):Ev X H0 O0 ps (.BinOp a .Pow b pos) (.int (i ^ j.toNat)):=ln vN ha hb hc
theorem cF (ha:Ev X H0 O0 ps a (.int i)):Ev X H0 O0 ps (.UnaryOp .USub a pos) (.int (-i)):=
 PE.mono (xM wM ha) fun σ H Q ⟨O,R,k⟩=>⟨O,R,fun v H' s r=>by cases r;exact ⟨i,rfl,k _ H' s (.int _)⟩⟩
end
mutual
def eqW:U→U→Bool
 | .non,.non=>true
 | .bl a,.bl b=>a==b
 | .bl a,.int j=>(if a then 1 else 0)==j
 | .int i,.bl b=>i==(if b then 1 else 0)
 | .int i,.int j=>i==j
 | .str a,.str b=>a==b
 | .tup xs,.tup ys=>eqWs xs ys
 | .lst xs,.lst ys=>eqWs xs ys
 | .lst xs,.scr ys=>eqWs xs ys
 | .scr xs,.lst ys=>eqWs xs ys
 | .scr xs,.scr ys=>eqWs xs ys
 |_,_=>false
def eqWs:List U→List U→Bool
 |[],[]=>true
 |x::xs,y::ys=>eqW x y && eqWs xs ys
 |_,_=>false
end
mutual
def okU:Nat→U→Bool
 |_,.ty _=>false
 |_,.dic=>false
 |0,.tup _=>false
 |0,.lst _=>false
 |0,.scr _=>false
 |n+1,.tup xs=>okUs n xs
 |n+1,.lst xs=>okUs n xs
 |n+1,.scr xs=>okUs n xs
 |_,_=>true
def okUs:Nat→List U→Bool
 |_,[]=>true
 |n,x::xs=>okU n x && okUs n xs
end
theorem io:∀{n:Nat}{xs:List U}{i:Nat}{x:U},okUs n xs=true→xs[i]?=some x→okU n x=true
 |n,[],i,x,_,h=>by simp at h
 |n,y::xs,0,x,h,e=>by simp at e;subst e;simp[okUs] at h;exact h.1
 |n,y::xs,i+1,x,h,e=>by simp[okUs] at h;exact io (i:=i) h.2 (by simpa using e)
theorem cG:∀(xs ys:List U),((zS (min xs.length ys.length)).all (fun j=>eqW (xs.getD j .non) (ys.getD j .non)) && xs.length==ys.length)=eqWs xs ys
 |[],[]=>rfl
 |[],y::ys=>by simp[eqWs]
 |x::xs,[]=>by simp[eqWs]
 |x::xs,y::ys=>by
  have ih:=cG xs ys
  rw[eqWs,←ih]
  simp only[zH,Nat.succ_min_succ]
  rw[List.range_succ_eq_map,Dh,List.all_map]
  have e:((xs.length+1==ys.length+1))=(xs.length==ys.length):=by simp
  rw[e,Bool.and_assoc]
  rfl
theorem Rp.one {X:Cx}{pins:List (Addr×Obj)}{σ:St}{H:Hp}{s:yI} (I:Inv X pins σ H s) {v:V}{x:U} (h:Rp X.K H v x):∀{n:Nat}{y:U},Rp X.K H v y→okU n x=true→eqW x y=true:=by
 have key:∀{vs ws:List V}{xs ys:List U},vs=ws→vs.length=xs.length→ws.length=ys.length→(∀(i:Nat) (x y:U),xs[i]?=some x→ys[i]?=some y→eqW x y=true)→eqWs xs ys=true:=fun {vs ws xs ys} e h1 h2 hh=>by
  subst e
  rw[←cG,Ac,jE]
  refine ⟨fun j hj=>?_,by simp[←h1,←h2]⟩
  have j1:j < xs.length:=by omega
  have j2:j < ys.length:=by omega
  rw[yL,yD j1,yL,yD j2]
  exact hh j _ _ (yD j1) (yD j2)
 have key2:∀{vs:List V}{xs ys:List U}{n:Nat},vs.length=xs.length→(∀(i:Nat) (v:V) (x:U),vs[i]?=some v→xs[i]?=some x→∀{n:Nat}{y:U},Rp X.K H v y→okU n x=true→eqW x y=true)→(∀(i:Nat) (v:V) (y:U),vs[i]?=some v→ys[i]?=some y→Rp X.K H v y)→okUs n xs=true→
   ∀(i:Nat) (x y:U),xs[i]?=some x→ys[i]?=some y→eqW x y=true:=fun {vs xs ys n} h1 ih hi ok i x y e1 e2=>by
  have hlt:i < vs.length:=by rw[h1];exact aC e1
  exact ih i _ x (yD hlt) e1 (hi i _ y (yD hlt) e2) (io ok e1)
 induction h with
 |non=>intro n y q _;cases q;rfl
 |bl b=>intro n y q _;cases q;simp[eqW]
 |int i=>intro n y q _;cases q;simp[eqW]
 |str i=>intro n y q _;cases q;simp[eqW]
 |ty=>intro n y q ok;simp[okU] at ok
 |dic=>intro n y q ok;simp[okU] at ok
 |xc=>intro n y q ok;simp[okU] at ok
 | @scr a vs xs hq hl hi ih=>
  intro n y q ok
  cases n with
  |zero=>simp[okU] at ok
  |succ n=>
   rw[okU] at ok
   cases q with
   |scr hq' hl' hi'=>rw[eqW];have e:=I.list_inj hq hq';subst e;exact key rfl hl hl' (key2 hl (fun i v x a b=>ih i v x a b) hi' ok)
   |lst hq' hl' hi'=>rw[eqW];have e:=I.list_inj hq (SqL.of hq');subst e;exact key rfl hl hl' (key2 hl (fun i v x a b=>ih i v x a b) hi' ok)
   |xc hq' kk=>
    exfalso
    obtain ⟨_,_,pl,_⟩:=I.list hq
    obtain ⟨o,n,e,c,_⟩:=pl
    exact PySem.W.XcOk.off (I.hok _ _ hq').1 e c
   |dic hq'=>
    exfalso
    obtain ⟨_,_,pl,_⟩:=I.list hq
    obtain ⟨o,n,e,c,_⟩:=pl
    obtain ⟨_,_,_,_,o',_,_,e',ex,_⟩:=I.hok _ _ hq'
    rw[e] at e';cases e'
    rw[ex.1] at c;exact absurd (GW c) (by decide)
   |tup hq' hl' hi'=>
    exfalso
    obtain ⟨_,_,pl,_⟩:=I.list hq
    obtain ⟨_,_,pt,_⟩:=I.tuple hq'
    exact SeqAt.ne_of_list_tuple pl.isList pt rfl
 | @tup a vs xs hq hl hi ih=>
  intro n y q ok
  cases n with
  |zero=>simp[okU] at ok
  |succ n=>
   rw[okU] at ok
   cases q with
   |tup hq' hl' hi'=>rw[eqW];have e:=I.tuple_inj hq hq';subst e;exact key rfl hl hl' (key2 hl (fun i v x a b=>ih i v x a b) hi' ok)
   |scr hq' hl' hi'=>
    exfalso
    obtain ⟨_,_,pl,_⟩:=I.list hq'
    obtain ⟨_,_,pt,_⟩:=I.tuple hq
    exact SeqAt.ne_of_list_tuple pl.isList pt rfl
   |lst hq' hl' hi'=>
    exfalso
    obtain ⟨_,_,pl,_⟩:=I.list (SqL.of hq')
    obtain ⟨_,_,pt,_⟩:=I.tuple hq
    exact SeqAt.ne_of_list_tuple pl.isList pt rfl
   |xc hq' kk=>
    exfalso
    obtain ⟨_,_,pt,_⟩:=I.tuple hq
    obtain ⟨o,e,c,_⟩:=pt
    exact PySem.W.XcOk.off (I.hok _ _ hq').1 e c
   |dic hq'=>
    exfalso
    obtain ⟨_,_,pt,_⟩:=I.tuple hq
    obtain ⟨o,e,c,_⟩:=pt
    obtain ⟨_,_,_,_,o',_,_,e',ex,_⟩:=I.hok _ _ hq'
    rw[e] at e';cases e'
    rw[ex.1] at c;exact absurd (GW c) (by decide)
 | @lst a vs xs hq hl hi ih=>
  intro n y q ok
  cases n with
  |zero=>simp[okU] at ok
  |succ n=>
   rw[okU] at ok
   cases q with
   |lst hq' hl' hi'=>rw[eqW];have e:=I.list_inj (SqL.of hq) (SqL.of hq');subst e;exact key rfl hl hl' (key2 hl (fun i v x a b=>ih i v x a b) hi' ok)
   |scr hq' hl' hi'=>rw[eqW];have e:=I.list_inj (SqL.of hq) hq';subst e;exact key rfl hl hl' (key2 hl (fun i v x a b=>ih i v x a b) hi' ok)
   |tup hq' hl' hi'=>
    exfalso
    obtain ⟨_,_,pl,_⟩:=I.list (SqL.of hq)
    obtain ⟨_,_,pt,_⟩:=I.tuple hq'
    exact SeqAt.ne_of_list_tuple pl.isList pt rfl
   |xc hq' kk=>
    exfalso
    rw[hq] at hq';cases hq'
   |dic hq'=>
    exfalso
    rw[hq] at hq';cases hq'
theorem IsU.list {X:Cx}{pins:List (Addr×Obj)}{σ:St}{H:Hp}{s:yI} (I:Inv X pins σ H s) {a:Addr}{xs:List U}{vs:List V} (h:SqL X.K H a vs) (hl:vs.length=xs.length):∃its:List Value,aN vs its∧s.heap.IsList a its.toArray∧its.length=xs.length:=by
 obtain ⟨its,r,pl,_⟩:=I.list h
 exact ⟨its,r,pl.isList,by rw[←r.length,hl]⟩
theorem IsU.tup {X:Cx}{pins:List (Addr×Obj)}{σ:St}{H:Hp}{s:yI} (I:Inv X pins σ H s) {a:Addr}{xs:List U}{vs:List V} (h:SqT X.K H a vs) (hl:vs.length=xs.length):∃its:List Value,aN vs its∧IsTup s.heap a its.toArray∧its.length=xs.length:=by
 obtain ⟨its,r,pl,_⟩:=I.tuple h
 exact ⟨its,r,pl,by rw[←r.length,hl]⟩
section
variable {X:Cx}{pins:List (Addr×Obj)}{σ:St}{H:Hp}{s:yI}
theorem cf (I:Inv X pins σ H s) {n:Nat}{vs ws:List V}{xs ys:List U}{its its2:List Value} (r1:aN vs its) (r2:aN ws its2) (hl1:vs.length=xs.length) (hl2:ws.length=ys.length)
  (h1:∀(i:Nat) (v:V) (x:U),vs[i]?=some v→xs[i]?=some x→Rp X.K H v x) (h2:∀(i:Nat) (v:V) (x:U),ws[i]?=some v→ys[i]?=some x→Rp X.K H v x) (ok1:okUs n xs=true) (ok2:okUs n ys=true) {A:zh}
  (rc0:∀(x y:U) (v w:V) (p q:Value),Rp X.K H v x→Rp X.K H w y→aR v p→aR w q→okU n x=true→okU n y=true→SeqAt.RcAt A.in1 s p q (eqW x y)) (hu:A.units+n+1 < cLine)
  (j:Nat) (j1:j < its.length) (j2:j < its2.length):SeqAt.EqAt A.in1 s its[j] its2[j] (eqW (xs.getD j .non) (ys.getD j .non)):=by
 have a1:j < vs.length:=by rw[r1.length];exact j1
 have a2:j < ws.length:=by rw[r2.length];exact j2
 have b1:j < xs.length:=by omega
 have b2:j < ys.length:=by omega
 rw[yL,yD b1,yL,yD b2,Cj,Cj]
 have R1:=h1 j vs[j] xs[j] (yD a1) (yD b1)
 have R2:=h2 j ws[j] ys[j] (yD a2) (yD b2)
 obtain ⟨u1,e1,q1⟩:=r1.get (yD a1)
 obtain ⟨u2,e2,q2⟩:=r2.get (yD a2)
 rw[yD j1] at e1
 rw[yD j2] at e2
 cases e1;cases e2
 have o1:=io ok1 (yD b1)
 have o2:=io ok2 (yD b2)
 generalize vs[j]=v at *
 generalize ws[j]=w at *
 generalize its[j]=p at *
 generalize its2[j]=q at *
 generalize xs[j]=x at *
 generalize ys[j]=y at *
 have main:=rc0 x y v w p q R1 R2 q1 q2 o1 o2
 have ref_ref:∀(a b:Addr),p=.ref a→q=.ref b→SeqAt.EqAt A.in1 s p q (eqW x y):=fun a b ea eb=>by
  subst ea eb
  by_cases e:a=b
  ·subst e
   have e2:v=w:=q1.inj q2
   subst e2
   rw[R1.one I R2 o1]
   exact SeqAt.EqAt.same _
  ·exact SeqAt.EqAt.of_refs e main
 have hu1:A.in1.units < cLine:=by show A.units+1 < _;omega
 cases R1 with
 |non=>
  cases (show p=zl from q1)
  cases R2 with
  |non=>cases (show q=zl from q2);exact SeqAt.EqAt.same _
  |bl b=>cases (show q=zT b from q2);exact SeqAt.EqAt.none_bool b
  |int i=>obtain ⟨t,rfl⟩:=(show ∃t,q=zR i t from q2);exact SeqAt.EqAt.none_int i t
  |str i=>obtain ⟨t,rfl⟩:=(show ∃t,q=Ad i t from q2);exact SeqAt.EqAt.none_str i t
  |ty=>simp[okU] at o2
  |dic=>simp[okU] at o2
  |xc=>simp[okU] at o2
  |scr hq hl hi=>cases q2;obtain ⟨_,_,pl,_⟩:=IsU.list I hq hl;exact SeqAt.EqAt.none_list pl hu1
  |tup hq hl hi=>cases q2;obtain ⟨_,_,pl,_⟩:=IsU.tup I hq hl;exact SeqAt.EqAt.none_tuple pl hu1
  |lst hq hl hi=>cases q2;obtain ⟨_,_,pl,_⟩:=IsU.list I (SqL.of hq) hl;exact SeqAt.EqAt.none_list pl hu1
 |bl c=>
  cases (show p=zT c from q1)
  cases R2 with
  |non=>cases (show q=zl from q2);exact SeqAt.EqAt.bool_none c
  |bl b=>cases (show q=zT b from q2);exact SeqAt.EqAt.bool_bool c b
  |int i=>obtain ⟨t,rfl⟩:=(show ∃t,q=zR i t from q2);exact SeqAt.EqAt.bool_int c i t
  |str i=>obtain ⟨t,rfl⟩:=(show ∃t,q=Ad i t from q2);exact SeqAt.EqAt.bool_str c i t
  |ty=>simp[okU] at o2
  |dic=>simp[okU] at o2
  |xc=>simp[okU] at o2
  |scr hq hl hi=>cases q2;obtain ⟨_,_,pl,_⟩:=IsU.list I hq hl;exact SeqAt.EqAt.bool_list c pl hu1
  |tup hq hl hi=>cases q2;obtain ⟨_,_,pl,_⟩:=IsU.tup I hq hl;exact SeqAt.EqAt.bool_tuple c pl hu1
  |lst hq hl hi=>cases q2;obtain ⟨_,_,pl,_⟩:=IsU.list I (SqL.of hq) hl;exact SeqAt.EqAt.bool_list c pl hu1
 |int c=>
  obtain ⟨t0,rfl⟩:=(show ∃t,p=zR c t from q1)
  cases R2 with
  |non=>cases (show q=zl from q2);exact SeqAt.EqAt.int_none c t0
  |bl b=>cases (show q=zT b from q2);exact SeqAt.EqAt.int_bool c t0 b
  |int i=>obtain ⟨t,rfl⟩:=(show ∃t,q=zR i t from q2);exact SeqAt.EqAt.int_int c t0 i t
  |str i=>obtain ⟨t,rfl⟩:=(show ∃t,q=Ad i t from q2);exact SeqAt.EqAt.int_str c t0 i t
  |ty=>simp[okU] at o2
  |dic=>simp[okU] at o2
  |xc=>simp[okU] at o2
  |scr hq hl hi=>cases q2;obtain ⟨_,_,pl,_⟩:=IsU.list I hq hl;exact SeqAt.EqAt.int_list c t0 pl hu1
  |tup hq hl hi=>cases q2;obtain ⟨_,_,pl,_⟩:=IsU.tup I hq hl;exact SeqAt.EqAt.int_tuple c t0 pl hu1
  |lst hq hl hi=>cases q2;obtain ⟨_,_,pl,_⟩:=IsU.list I (SqL.of hq) hl;exact SeqAt.EqAt.int_list c t0 pl hu1
 |str c=>
  obtain ⟨t0,rfl⟩:=(show ∃t,p=Ad c t from q1)
  cases R2 with
  |non=>cases (show q=zl from q2);exact SeqAt.EqAt.str_none c t0
  |bl b=>cases (show q=zT b from q2);exact SeqAt.EqAt.str_bool c t0 b
  |int i=>obtain ⟨t,rfl⟩:=(show ∃t,q=zR i t from q2);exact SeqAt.EqAt.str_int c t0 i t
  |str i=>obtain ⟨t,rfl⟩:=(show ∃t,q=Ad i t from q2);exact SeqAt.EqAt.str_str c t0 i t
  |ty=>simp[okU] at o2
  |dic=>simp[okU] at o2
  |xc=>simp[okU] at o2
  |scr hq hl hi=>cases q2;obtain ⟨_,_,pl,_⟩:=IsU.list I hq hl;exact SeqAt.EqAt.str_list c t0 pl hu1
  |tup hq hl hi=>cases q2;obtain ⟨_,_,pl,_⟩:=IsU.tup I hq hl;exact SeqAt.EqAt.str_tuple c t0 pl hu1
  |lst hq hl hi=>cases q2;obtain ⟨_,_,pl,_⟩:=IsU.list I (SqL.of hq) hl;exact SeqAt.EqAt.str_list c t0 pl hu1
 |ty=>simp[okU] at o1
 |dic=>simp[okU] at o1
 |xc=>simp[okU] at o1
 | @scr a vs xs hq hl hi=>
  cases q1
  obtain ⟨_,_,pl,_⟩:=IsU.list I hq hl
  cases R2 with
  |non=>cases (show q=zl from q2);exact SeqAt.EqAt.list_none pl hu1
  |bl b=>cases (show q=zT b from q2);exact SeqAt.EqAt.list_bool b pl hu1
  |int i=>obtain ⟨t,rfl⟩:=(show ∃t,q=zR i t from q2);exact SeqAt.EqAt.list_int i t pl hu1
  |str i=>obtain ⟨t,rfl⟩:=(show ∃t,q=Ad i t from q2);exact SeqAt.EqAt.list_str i t pl hu1
  |ty=>simp[okU] at o2
  |dic=>simp[okU] at o2
  |xc=>simp[okU] at o2
  |scr=>exact ref_ref _ _ rfl q2
  |tup=>exact ref_ref _ _ rfl q2
  |lst=>exact ref_ref _ _ rfl q2
 | @lst a vs xs hq hl hi=>
  cases q1
  obtain ⟨_,_,pl,_⟩:=IsU.list I (SqL.of hq) hl
  cases R2 with
  |non=>cases (show q=zl from q2);exact SeqAt.EqAt.list_none pl hu1
  |bl b=>cases (show q=zT b from q2);exact SeqAt.EqAt.list_bool b pl hu1
  |int i=>obtain ⟨t,rfl⟩:=(show ∃t,q=zR i t from q2);exact SeqAt.EqAt.list_int i t pl hu1
  |str i=>obtain ⟨t,rfl⟩:=(show ∃t,q=Ad i t from q2);exact SeqAt.EqAt.list_str i t pl hu1
  |ty=>simp[okU] at o2
  |dic=>simp[okU] at o2
  |xc=>simp[okU] at o2
  |scr=>exact ref_ref _ _ rfl q2
  |tup=>exact ref_ref _ _ rfl q2
  |lst=>exact ref_ref _ _ rfl q2
 | @tup a vs xs hq hl hi=>
  cases q1
  obtain ⟨_,_,pl,_⟩:=IsU.tup I hq hl
  cases R2 with
  |non=>cases (show q=zl from q2);exact SeqAt.EqAt.tuple_none pl hu1
  |bl b=>cases (show q=zT b from q2);exact SeqAt.EqAt.tuple_bool b pl hu1
  |int i=>obtain ⟨t,rfl⟩:=(show ∃t,q=zR i t from q2);exact SeqAt.EqAt.tuple_int i t pl hu1
  |str i=>obtain ⟨t,rfl⟩:=(show ∃t,q=Ad i t from q2);exact SeqAt.EqAt.tuple_str i t pl hu1
  |ty=>simp[okU] at o2
  |dic=>simp[okU] at o2
  |xc=>simp[okU] at o2
  |scr=>exact ref_ref _ _ rfl q2
  |tup=>exact ref_ref _ _ rfl q2
  |lst=>exact ref_ref _ _ rfl q2
theorem gy {A:zh}{n:Nat}{a b:Addr}{xs ys:List U}{its its2:List Value} (p1:s.heap.IsList a its.toArray) (p2:s.heap.IsList b its2.toArray) (l1:its.length=xs.length) (l2:its2.length=ys.length) (hu:A.units+n < cLine)
  (he:∀(j:Nat) (j1:j < its.length) (j2:j < its2.length),SeqAt.EqAt A.in1 s its[j] its2[j] (eqW (xs.getD j .non) (ys.getD j .non))):SeqAt.RcAt A s (.ref a) (.ref b) (eqWs xs ys):=by
 by_cases hl:its.length=its2.length
 ·have:=SeqAt.RcAt.lists (A:=A) (s:=s) (e:=fun j=>eqW (xs.getD j .non) (ys.getD j .non)) p1 p2 (by simpa using hl) (by omega) (fun j h1 h2=>by simpa using he j (by simpa using h1) (by simpa using h2))
  rw[←cG,←l1,←l2,hl,HH,beq_self_eq_true,Fs]
  rwa [y_,hl] at this
 ·have:=SeqAt.RcAt.lists_lengths (A:=A) (s:=s) p1 p2 (by simpa using hl) (by omega)
  rw[←cG,←l1,←l2,show (its.length==its2.length)=false by simpa using hl,E4]
  exact this
theorem s_ {A:zh}{n:Nat}{a b:Addr}{xs ys:List U}{its its2:List Value} (p1:IsTup s.heap a its.toArray) (p2:IsTup s.heap b its2.toArray) (l1:its.length=xs.length) (l2:its2.length=ys.length) (hu:A.units+n < cLine)
  (he:∀(j:Nat) (j1:j < its.length) (j2:j < its2.length),SeqAt.EqAt A.in1 s its[j] its2[j] (eqW (xs.getD j .non) (ys.getD j .non))):SeqAt.RcAt A s (.ref a) (.ref b) (eqWs xs ys):=by
 have:=SeqAt.RcAt.tuples (A:=A) (s:=s) (e:=fun j=>eqW (xs.getD j .non) (ys.getD j .non)) p1 p2 (by omega) (fun j h1 h2=>by simpa using he j (by simpa using h1) (by simpa using h2))
 rw[y_,y_,l1,l2,cG] at this
 exact this
theorem xD (I:Inv X pins σ H s):∀(n:Nat) (A:zh) (x y:U) (v w:V) (p q:Value),Rp X.K H v x→Rp X.K H w y→aR v p→aR w q→okU n x=true→okU n y=true→A.units+n < cLine→SeqAt.RcAt A s p q (eqW x y):=by
 intro n
 induction n with
 |zero=>
  intro A x y v w p q R1 R2 q1 q2 o1 o2 hu
  cases R1 with
  |non=>
   cases (show p=zl from q1)
   cases R2 with
   |non=>cases (show q=zl from q2);exact SeqAt.RcAt.none_none
   |bl b=>cases (show q=zT b from q2);exact SeqAt.RcAt.none_bool b
   |int i=>obtain ⟨t,rfl⟩:=(show ∃t,q=zR i t from q2);exact SeqAt.RcAt.none_int i t
   |str i=>obtain ⟨t,rfl⟩:=(show ∃t,q=Ad i t from q2);exact SeqAt.RcAt.none_str i t
   |_=>simp[okU] at o2
  |bl c=>
   cases (show p=zT c from q1)
   cases R2 with
   |non=>cases (show q=zl from q2);exact SeqAt.RcAt.bool_none c
   |bl b=>cases (show q=zT b from q2);exact SeqAt.RcAt.bool_bool c b
   |int i=>obtain ⟨t,rfl⟩:=(show ∃t,q=zR i t from q2);exact SeqAt.RcAt.bool_int c i t
   |str i=>obtain ⟨t,rfl⟩:=(show ∃t,q=Ad i t from q2);exact SeqAt.RcAt.bool_str c i t
   |_=>simp[okU] at o2
  |int c=>
   obtain ⟨t0,rfl⟩:=(show ∃t,p=zR c t from q1)
   cases R2 with
   |non=>cases (show q=zl from q2);exact SeqAt.RcAt.int_none c t0
   |bl b=>cases (show q=zT b from q2);exact SeqAt.RcAt.int_bool c t0 b
   |int i=>obtain ⟨t,rfl⟩:=(show ∃t,q=zR i t from q2);exact SeqAt.RcAt.int_int c t0 i t
   |str i=>obtain ⟨t,rfl⟩:=(show ∃t,q=Ad i t from q2);exact SeqAt.RcAt.int_str c t0 i t
   |_=>simp[okU] at o2
  |str c=>
   obtain ⟨t0,rfl⟩:=(show ∃t,p=Ad c t from q1)
   cases R2 with
   |non=>cases (show q=zl from q2);exact SeqAt.RcAt.str_none c t0
   |bl b=>cases (show q=zT b from q2);exact SeqAt.RcAt.str_bool c t0 b
   |int i=>obtain ⟨t,rfl⟩:=(show ∃t,q=zR i t from q2);exact SeqAt.RcAt.str_int c t0 i t
   |str i=>obtain ⟨t,rfl⟩:=(show ∃t,q=Ad i t from q2);exact SeqAt.RcAt.str_str c t0 i t
   |_=>simp[okU] at o2
  |_=>simp[okU] at o1
 |succ n ih=>
  intro A x y v w p q R1 R2 q1 q2 o1 o2 hu
  have hu1:A.units < cLine:=by omega
  have rc0:∀(x y:U) (v w:V) (p q:Value),Rp X.K H v x→Rp X.K H w y→aR v p→aR w q→okU n x=true→okU n y=true→SeqAt.RcAt A.in1 s p q (eqW x y):=fun x y v w p q r1 r2 k1 k2 z1 z2=>ih A.in1 x y v w p q r1 r2 k1 k2 z1 z2 (by show A.units+1+n < _;omega)
  cases R1 with
  |non=>
   cases (show p=zl from q1)
   cases R2 with
   |non=>cases (show q=zl from q2);exact SeqAt.RcAt.none_none
   |bl b=>cases (show q=zT b from q2);exact SeqAt.RcAt.none_bool b
   |int i=>obtain ⟨t,rfl⟩:=(show ∃t,q=zR i t from q2);exact SeqAt.RcAt.none_int i t
   |str i=>obtain ⟨t,rfl⟩:=(show ∃t,q=Ad i t from q2);exact SeqAt.RcAt.none_str i t
   |ty=>simp[okU] at o2
   |dic=>simp[okU] at o2
   |xc=>simp[okU] at o2
   |scr hq hl hi=>cases q2;obtain ⟨_,_,pl,_⟩:=IsU.list I hq hl;exact SeqAt.RcAt.none_list pl hu1
   |tup hq hl hi=>cases q2;obtain ⟨_,_,pl,_⟩:=IsU.tup I hq hl;exact SeqAt.RcAt.none_tuple pl hu1
   |lst hq hl hi=>cases q2;obtain ⟨_,_,pl,_⟩:=IsU.list I (SqL.of hq) hl;exact SeqAt.RcAt.none_list pl hu1
  |bl c=>
   cases (show p=zT c from q1)
   cases R2 with
   |non=>cases (show q=zl from q2);exact SeqAt.RcAt.bool_none c
   |bl b=>cases (show q=zT b from q2);exact SeqAt.RcAt.bool_bool c b
   |int i=>obtain ⟨t,rfl⟩:=(show ∃t,q=zR i t from q2);exact SeqAt.RcAt.bool_int c i t
   |str i=>obtain ⟨t,rfl⟩:=(show ∃t,q=Ad i t from q2);exact SeqAt.RcAt.bool_str c i t
   |ty=>simp[okU] at o2
   |dic=>simp[okU] at o2
   |xc=>simp[okU] at o2
   |scr hq hl hi=>cases q2;obtain ⟨_,_,pl,_⟩:=IsU.list I hq hl;exact SeqAt.RcAt.bool_list c pl hu1
   |tup hq hl hi=>cases q2;obtain ⟨_,_,pl,_⟩:=IsU.tup I hq hl;exact SeqAt.RcAt.bool_tuple c pl hu1
   |lst hq hl hi=>cases q2;obtain ⟨_,_,pl,_⟩:=IsU.list I (SqL.of hq) hl;exact SeqAt.RcAt.bool_list c pl hu1
  |int c=>
   obtain ⟨t0,rfl⟩:=(show ∃t,p=zR c t from q1)
   cases R2 with
   |non=>cases (show q=zl from q2);exact SeqAt.RcAt.int_none c t0
   |bl b=>cases (show q=zT b from q2);exact SeqAt.RcAt.int_bool c t0 b
   |int i=>obtain ⟨t,rfl⟩:=(show ∃t,q=zR i t from q2);exact SeqAt.RcAt.int_int c t0 i t
   |str i=>obtain ⟨t,rfl⟩:=(show ∃t,q=Ad i t from q2);exact SeqAt.RcAt.int_str c t0 i t
   |ty=>simp[okU] at o2
   |dic=>simp[okU] at o2
   |xc=>simp[okU] at o2
   |scr hq hl hi=>cases q2;obtain ⟨_,_,pl,_⟩:=IsU.list I hq hl;exact SeqAt.RcAt.int_list c t0 pl hu1
   |tup hq hl hi=>cases q2;obtain ⟨_,_,pl,_⟩:=IsU.tup I hq hl;exact SeqAt.RcAt.int_tuple c t0 pl hu1
   |lst hq hl hi=>cases q2;obtain ⟨_,_,pl,_⟩:=IsU.list I (SqL.of hq) hl;exact SeqAt.RcAt.int_list c t0 pl hu1
  |str c=>
   obtain ⟨t0,rfl⟩:=(show ∃t,p=Ad c t from q1)
   cases R2 with
   |non=>cases (show q=zl from q2);exact SeqAt.RcAt.str_none c t0
   |bl b=>cases (show q=zT b from q2);exact SeqAt.RcAt.str_bool c t0 b
   |int i=>obtain ⟨t,rfl⟩:=(show ∃t,q=zR i t from q2);exact SeqAt.RcAt.str_int c t0 i t
   |str i=>obtain ⟨t,rfl⟩:=(show ∃t,q=Ad i t from q2);exact SeqAt.RcAt.str_str c t0 i t
   |ty=>simp[okU] at o2
   |dic=>simp[okU] at o2
   |xc=>simp[okU] at o2
   |scr hq hl hi=>cases q2;obtain ⟨_,_,pl,_⟩:=IsU.list I hq hl;exact SeqAt.RcAt.str_list c t0 pl hu1
   |tup hq hl hi=>cases q2;obtain ⟨_,_,pl,_⟩:=IsU.tup I hq hl;exact SeqAt.RcAt.str_tuple c t0 pl hu1
   |lst hq hl hi=>cases q2;obtain ⟨_,_,pl,_⟩:=IsU.list I (SqL.of hq) hl;exact SeqAt.RcAt.str_list c t0 pl hu1
  |ty=>simp[okU] at o1
  |dic=>simp[okU] at o1
  |xc=>simp[okU] at o1
  | @scr a vs xs hq hl hi=>
   cases q1
   obtain ⟨its,r1,pl,l1⟩:=IsU.list I hq hl
   rw[okU] at o1
   cases R2 with
   |non=>cases (show q=zl from q2);exact SeqAt.RcAt.list_none pl hu1
   |bl b=>cases (show q=zT b from q2);exact SeqAt.RcAt.list_bool b pl hu1
   |int i=>obtain ⟨t,rfl⟩:=(show ∃t,q=zR i t from q2);exact SeqAt.RcAt.list_int i t pl hu1
   |str i=>obtain ⟨t,rfl⟩:=(show ∃t,q=Ad i t from q2);exact SeqAt.RcAt.list_str i t pl hu1
   |ty=>simp[okU] at o2
   |dic=>simp[okU] at o2
   |xc=>simp[okU] at o2
   |scr hq' hl' hi'=>cases q2;rw[okU] at o2;obtain ⟨its2,r2,pl2,l2⟩:=IsU.list I hq' hl';rw[eqW];exact gy pl pl2 l1 l2 hu (cf I r1 r2 hl hl' hi hi' o1 o2 rc0 (by omega))
   |lst hq' hl' hi'=>cases q2;rw[okU] at o2;obtain ⟨its2,r2,pl2,l2⟩:=IsU.list I (SqL.of hq') hl';rw[eqW];exact gy pl pl2 l1 l2 hu (cf I r1 r2 hl hl' hi hi' o1 o2 rc0 (by omega))
   |tup hq' hl' hi'=>cases q2;obtain ⟨its2,r2,pl2,l2⟩:=IsU.tup I hq' hl';exact SeqAt.RcAt.list_tuple pl pl2 hu1
  | @lst a vs xs hq hl hi=>
   cases q1
   obtain ⟨its,r1,pl,l1⟩:=IsU.list I (SqL.of hq) hl
   rw[okU] at o1
   cases R2 with
   |non=>cases (show q=zl from q2);exact SeqAt.RcAt.list_none pl hu1
   |bl b=>cases (show q=zT b from q2);exact SeqAt.RcAt.list_bool b pl hu1
   |int i=>obtain ⟨t,rfl⟩:=(show ∃t,q=zR i t from q2);exact SeqAt.RcAt.list_int i t pl hu1
   |str i=>obtain ⟨t,rfl⟩:=(show ∃t,q=Ad i t from q2);exact SeqAt.RcAt.list_str i t pl hu1
   |ty=>simp[okU] at o2
   |dic=>simp[okU] at o2
   |xc=>simp[okU] at o2
   |scr hq' hl' hi'=>cases q2;rw[okU] at o2;obtain ⟨its2,r2,pl2,l2⟩:=IsU.list I hq' hl';rw[eqW];exact gy pl pl2 l1 l2 hu (cf I r1 r2 hl hl' hi hi' o1 o2 rc0 (by omega))
   |lst hq' hl' hi'=>cases q2;rw[okU] at o2;obtain ⟨its2,r2,pl2,l2⟩:=IsU.list I (SqL.of hq') hl';rw[eqW];exact gy pl pl2 l1 l2 hu (cf I r1 r2 hl hl' hi hi' o1 o2 rc0 (by omega))
   |tup hq' hl' hi'=>cases q2;obtain ⟨its2,r2,pl2,l2⟩:=IsU.tup I hq' hl';exact SeqAt.RcAt.list_tuple pl pl2 hu1
  | @tup a vs xs hq hl hi=>
   cases q1
   obtain ⟨its,r1,pl,l1⟩:=IsU.tup I hq hl
   rw[okU] at o1
   cases R2 with
   |non=>cases (show q=zl from q2);exact SeqAt.RcAt.tuple_none pl hu1
   |bl b=>cases (show q=zT b from q2);exact SeqAt.RcAt.tuple_bool b pl hu1
   |int i=>obtain ⟨t,rfl⟩:=(show ∃t,q=zR i t from q2);exact SeqAt.RcAt.tuple_int i t pl hu1
   |str i=>obtain ⟨t,rfl⟩:=(show ∃t,q=Ad i t from q2);exact SeqAt.RcAt.tuple_str i t pl hu1
   |ty=>simp[okU] at o2
   |dic=>simp[okU] at o2
   |xc=>simp[okU] at o2
   |scr hq' hl' hi'=>cases q2;obtain ⟨its2,r2,pl2,l2⟩:=IsU.list I hq' hl';exact SeqAt.RcAt.tuple_list pl pl2 hu1
   |lst hq' hl' hi'=>cases q2;obtain ⟨its2,r2,pl2,l2⟩:=IsU.list I (SqL.of hq') hl';exact SeqAt.RcAt.tuple_list pl pl2 hu1
   |tup hq' hl' hi'=>cases q2;rw[okU] at o2;obtain ⟨its2,r2,pl2,l2⟩:=IsU.tup I hq' hl';rw[eqW];exact s_ pl pl2 l1 l2 hu (cf I r1 r2 hl hl' hi hi' o1 o2 rc0 (by omega))
end
section
variable {X:Cx}{pins:List (Addr×Obj)}{σ:St}{H:Hp}{s:yI}
theorem dQ {A:zh}{n:Nat}{a b:Addr}{xs ys:List U}{its its2:List Value} (p1:s.heap.IsList a its.toArray) (p2:s.heap.IsList b its2.toArray) (l1:its.length=xs.length) (l2:its2.length=ys.length) (hu:A.units+n < cLine)
  (he:∀(j:Nat) (j1:j < its.length) (j2:j < its2.length),SeqAt.EqAt A.in1 s its[j] its2[j] (eqW (xs.getD j .non) (ys.getD j .non))):SeqAt.RcNeAt A s (.ref a) (.ref b) (!eqWs xs ys):=by
 by_cases hl:its.length=its2.length
 ·have:=SeqAt.RcNeAt.lists (A:=A) (s:=s) (e:=fun j=>eqW (xs.getD j .non) (ys.getD j .non)) p1 p2 (by simpa using hl) (by omega) (fun j h1 h2=>by simpa using he j (by simpa using h1) (by simpa using h2))
  rw[←cG,←l1,←l2,hl,HH,beq_self_eq_true,Fs]
  rwa [y_,hl] at this
 ·have:=SeqAt.RcNeAt.lists_lengths (A:=A) (s:=s) p1 p2 (by simpa using hl) (by omega)
  rw[←cG,←l1,←l2,show (its.length==its2.length)=false by simpa using hl,E4]
  exact this
theorem pJ {A:zh}{n:Nat}{a b:Addr}{xs ys:List U}{its its2:List Value} (p1:IsTup s.heap a its.toArray) (p2:IsTup s.heap b its2.toArray) (l1:its.length=xs.length) (l2:its2.length=ys.length) (hu:A.units+n < cLine)
  (he:∀(j:Nat) (j1:j < its.length) (j2:j < its2.length),SeqAt.EqAt A.in1 s its[j] its2[j] (eqW (xs.getD j .non) (ys.getD j .non))):SeqAt.RcNeAt A s (.ref a) (.ref b) (!eqWs xs ys):=by
 have:=SeqAt.RcNeAt.tuples (A:=A) (s:=s) (e:=fun j=>eqW (xs.getD j .non) (ys.getD j .non)) p1 p2 (by omega) (fun j h1 h2=>by simpa using he j (by simpa using h1) (by simpa using h2))
 rw[y_,y_,l1,l2,cG] at this
 exact this
theorem vH (I:Inv X pins σ H s) (n:Nat) (A:zh) (x y:U) (v w:V) (p q:Value) (R1:Rp X.K H v x) (R2:Rp X.K H w y) (q1:aR v p) (q2:aR w q) (o1:okU (n+1) x=true) (o2:okU (n+1) y=true) (hu:A.units+(n+1) < cLine):SeqAt.RcNeAt A s p q (!eqW x y):=by
 have hu1:A.units < cLine:=by omega
 have rc0:∀(x y:U) (v w:V) (p q:Value),Rp X.K H v x→Rp X.K H w y→aR v p→aR w q→okU n x=true→okU n y=true→SeqAt.RcAt A.in1 s p q (eqW x y):=fun x y v w p q r1 r2 k1 k2 z1 z2=>xD I n A.in1 x y v w p q r1 r2 k1 k2 z1 z2 (by show A.units+1+n < _;omega)
 cases R1 with
 |ty=>simp[okU] at o1
 |dic=>simp[okU] at o1
 |xc=>simp[okU] at o1
 |non=>
  cases (show p=zl from q1)
  cases R2 with
  |ty=>simp[okU] at o2
  |dic=>simp[okU] at o2
  |xc=>simp[okU] at o2
  |non=>cases (show q=zl from q2);exact SeqAt.RcNeAt.none_none
  |bl c2=>cases (show q=zT c2 from q2);exact SeqAt.RcNeAt.none_bool c2
  |int c2=>obtain ⟨t2,rfl⟩:=(show ∃t,q=zR c2 t from q2);exact SeqAt.RcNeAt.none_int c2 t2
  |str c2=>obtain ⟨t2,rfl⟩:=(show ∃t,q=Ad c2 t from q2);exact SeqAt.RcNeAt.none_str c2 t2
  |scr hq2 hl2 hi2=>cases q2;obtain ⟨its2,r2,pl2,l2⟩:=IsU.list I hq2 hl2;exact SeqAt.RcNeAt.none_list pl2 hu1
  |tup hq2 hl2 hi2=>cases q2;obtain ⟨its2,r2,pl2,l2⟩:=IsU.tup I hq2 hl2;exact SeqAt.RcNeAt.none_tuple pl2 hu1
  |lst hq2 hl2 hi2=>cases q2;obtain ⟨its2,r2,pl2,l2⟩:=IsU.list I (SqL.of hq2) hl2;exact SeqAt.RcNeAt.none_list pl2 hu1
 |bl c1=>
  cases (show p=zT c1 from q1)
  cases R2 with
  |ty=>simp[okU] at o2
  |dic=>simp[okU] at o2
  |xc=>simp[okU] at o2
  |non=>cases (show q=zl from q2);exact SeqAt.RcNeAt.bool_none c1
  |bl c2=>cases (show q=zT c2 from q2);exact SeqAt.RcNeAt.bool_bool c1 c2
  |int c2=>obtain ⟨t2,rfl⟩:=(show ∃t,q=zR c2 t from q2);exact SeqAt.RcNeAt.bool_int c1 c2 t2
  |str c2=>obtain ⟨t2,rfl⟩:=(show ∃t,q=Ad c2 t from q2);exact SeqAt.RcNeAt.bool_str c1 c2 t2
  |scr hq2 hl2 hi2=>cases q2;obtain ⟨its2,r2,pl2,l2⟩:=IsU.list I hq2 hl2;exact SeqAt.RcNeAt.bool_list c1 pl2 hu1
  |tup hq2 hl2 hi2=>cases q2;obtain ⟨its2,r2,pl2,l2⟩:=IsU.tup I hq2 hl2;exact SeqAt.RcNeAt.bool_tuple c1 pl2 hu1
  |lst hq2 hl2 hi2=>cases q2;obtain ⟨its2,r2,pl2,l2⟩:=IsU.list I (SqL.of hq2) hl2;exact SeqAt.RcNeAt.bool_list c1 pl2 hu1
 |int c1=>
  obtain ⟨t1,rfl⟩:=(show ∃t,p=zR c1 t from q1)
  cases R2 with
  |ty=>simp[okU] at o2
  |dic=>simp[okU] at o2
  |xc=>simp[okU] at o2
  |non=>cases (show q=zl from q2);exact SeqAt.RcNeAt.int_none c1 t1
  |bl c2=>cases (show q=zT c2 from q2);exact SeqAt.RcNeAt.int_bool c1 t1 c2
  |int c2=>obtain ⟨t2,rfl⟩:=(show ∃t,q=zR c2 t from q2);exact SeqAt.RcNeAt.int_int c1 t1 c2 t2
  |str c2=>obtain ⟨t2,rfl⟩:=(show ∃t,q=Ad c2 t from q2);exact SeqAt.RcNeAt.int_str c1 t1 c2 t2
  |scr hq2 hl2 hi2=>cases q2;obtain ⟨its2,r2,pl2,l2⟩:=IsU.list I hq2 hl2;exact SeqAt.RcNeAt.int_list c1 t1 pl2 hu1
  |tup hq2 hl2 hi2=>cases q2;obtain ⟨its2,r2,pl2,l2⟩:=IsU.tup I hq2 hl2;exact SeqAt.RcNeAt.int_tuple c1 t1 pl2 hu1
  |lst hq2 hl2 hi2=>cases q2;obtain ⟨its2,r2,pl2,l2⟩:=IsU.list I (SqL.of hq2) hl2;exact SeqAt.RcNeAt.int_list c1 t1 pl2 hu1
 |str c1=>
  obtain ⟨t1,rfl⟩:=(show ∃t,p=Ad c1 t from q1)
  cases R2 with
  |ty=>simp[okU] at o2
  |dic=>simp[okU] at o2
  |xc=>simp[okU] at o2
  |non=>cases (show q=zl from q2);exact SeqAt.RcNeAt.str_none c1 t1
  |bl c2=>cases (show q=zT c2 from q2);exact SeqAt.RcNeAt.str_bool c1 t1 c2
  |int c2=>obtain ⟨t2,rfl⟩:=(show ∃t,q=zR c2 t from q2);exact SeqAt.RcNeAt.str_int c1 t1 c2 t2
  |str c2=>obtain ⟨t2,rfl⟩:=(show ∃t,q=Ad c2 t from q2);exact SeqAt.RcNeAt.str_str c1 t1 c2 t2
  |scr hq2 hl2 hi2=>cases q2;obtain ⟨its2,r2,pl2,l2⟩:=IsU.list I hq2 hl2;exact SeqAt.RcNeAt.str_list c1 t1 pl2 hu1
  |tup hq2 hl2 hi2=>cases q2;obtain ⟨its2,r2,pl2,l2⟩:=IsU.tup I hq2 hl2;exact SeqAt.RcNeAt.str_tuple c1 t1 pl2 hu1
  |lst hq2 hl2 hi2=>cases q2;obtain ⟨its2,r2,pl2,l2⟩:=IsU.list I (SqL.of hq2) hl2;exact SeqAt.RcNeAt.str_list c1 t1 pl2 hu1
 |scr hq1 hl1 hi1=>
  cases q1;obtain ⟨its1,r1,pl1,l1⟩:=IsU.list I hq1 hl1
  cases R2 with
  |ty=>simp[okU] at o2
  |dic=>simp[okU] at o2
  |xc=>simp[okU] at o2
  |non=>cases (show q=zl from q2);exact SeqAt.RcNeAt.list_none pl1 hu1
  |bl c2=>cases (show q=zT c2 from q2);exact SeqAt.RcNeAt.list_bool c2 pl1 hu1
  |int c2=>obtain ⟨t2,rfl⟩:=(show ∃t,q=zR c2 t from q2);exact SeqAt.RcNeAt.list_int c2 t2 pl1 hu1
  |str c2=>obtain ⟨t2,rfl⟩:=(show ∃t,q=Ad c2 t from q2);exact SeqAt.RcNeAt.list_str c2 t2 pl1 hu1
  |scr hq2 hl2 hi2=>cases q2;obtain ⟨its2,r2,pl2,l2⟩:=IsU.list I hq2 hl2;rw[okU] at o1;rw[okU] at o2;rw[eqW];exact dQ pl1 pl2 l1 l2 hu (cf I r1 r2 hl1 hl2 hi1 hi2 o1 o2 rc0 (by omega))
  |tup hq2 hl2 hi2=>cases q2;obtain ⟨its2,r2,pl2,l2⟩:=IsU.tup I hq2 hl2;exact SeqAt.RcNeAt.list_tuple pl1 pl2 hu1
  |lst hq2 hl2 hi2=>cases q2;obtain ⟨its2,r2,pl2,l2⟩:=IsU.list I (SqL.of hq2) hl2;rw[okU] at o1;rw[okU] at o2;rw[eqW];exact dQ pl1 pl2 l1 l2 hu (cf I r1 r2 hl1 hl2 hi1 hi2 o1 o2 rc0 (by omega))
 |tup hq1 hl1 hi1=>
  cases q1;obtain ⟨its1,r1,pl1,l1⟩:=IsU.tup I hq1 hl1
  cases R2 with
  |ty=>simp[okU] at o2
  |dic=>simp[okU] at o2
  |xc=>simp[okU] at o2
  |non=>cases (show q=zl from q2);exact SeqAt.RcNeAt.tuple_none pl1 hu1
  |bl c2=>cases (show q=zT c2 from q2);exact SeqAt.RcNeAt.tuple_bool c2 pl1 hu1
  |int c2=>obtain ⟨t2,rfl⟩:=(show ∃t,q=zR c2 t from q2);exact SeqAt.RcNeAt.tuple_int c2 t2 pl1 hu1
  |str c2=>obtain ⟨t2,rfl⟩:=(show ∃t,q=Ad c2 t from q2);exact SeqAt.RcNeAt.tuple_str c2 t2 pl1 hu1
  |scr hq2 hl2 hi2=>cases q2;obtain ⟨its2,r2,pl2,l2⟩:=IsU.list I hq2 hl2;exact SeqAt.RcNeAt.tuple_list pl1 pl2 hu1
  |tup hq2 hl2 hi2=>cases q2;obtain ⟨its2,r2,pl2,l2⟩:=IsU.tup I hq2 hl2;rw[okU] at o1;rw[okU] at o2;rw[eqW];exact pJ pl1 pl2 l1 l2 hu (cf I r1 r2 hl1 hl2 hi1 hi2 o1 o2 rc0 (by omega))
  |lst hq2 hl2 hi2=>cases q2;obtain ⟨its2,r2,pl2,l2⟩:=IsU.list I (SqL.of hq2) hl2;exact SeqAt.RcNeAt.tuple_list pl1 pl2 hu1
 |lst hq1 hl1 hi1=>
  cases q1;obtain ⟨its1,r1,pl1,l1⟩:=IsU.list I (SqL.of hq1) hl1
  cases R2 with
  |ty=>simp[okU] at o2
  |dic=>simp[okU] at o2
  |xc=>simp[okU] at o2
  |non=>cases (show q=zl from q2);exact SeqAt.RcNeAt.list_none pl1 hu1
  |bl c2=>cases (show q=zT c2 from q2);exact SeqAt.RcNeAt.list_bool c2 pl1 hu1
  |int c2=>obtain ⟨t2,rfl⟩:=(show ∃t,q=zR c2 t from q2);exact SeqAt.RcNeAt.list_int c2 t2 pl1 hu1
  |str c2=>obtain ⟨t2,rfl⟩:=(show ∃t,q=Ad c2 t from q2);exact SeqAt.RcNeAt.list_str c2 t2 pl1 hu1
  |scr hq2 hl2 hi2=>cases q2;obtain ⟨its2,r2,pl2,l2⟩:=IsU.list I hq2 hl2;rw[okU] at o1;rw[okU] at o2;rw[eqW];exact dQ pl1 pl2 l1 l2 hu (cf I r1 r2 hl1 hl2 hi1 hi2 o1 o2 rc0 (by omega))
  |tup hq2 hl2 hi2=>cases q2;obtain ⟨its2,r2,pl2,l2⟩:=IsU.tup I hq2 hl2;exact SeqAt.RcNeAt.list_tuple pl1 pl2 hu1
  |lst hq2 hl2 hi2=>cases q2;obtain ⟨its2,r2,pl2,l2⟩:=IsU.list I (SqL.of hq2) hl2;rw[okU] at o1;rw[okU] at o2;rw[eqW];exact dQ pl1 pl2 l1 l2 hu (cf I r1 r2 hl1 hl2 hi1 hi2 o1 o2 rc0 (by omega))
end
def OpS (X:Cx) (f:Value→Value→Sem Value) (x y:U) (z:V):Prop:=OpR X f fun v w H Q=>Rp X.K H v x∧Rp X.K H w y∧Q z H
section
variable {X:Cx}{H0:Hp}{O0:List Addr}{ps:PSt}{a b c e:Expr}{es rest:List Expr}{pos p:Pos}{u x y:U}{xs ys us:List U}{i j:Int}{k m:Bool}
theorem Rp.out {K:yH}{H:Hp}{O:List Addr}{v:V}{u:U} (h:Rp K (hid H O) v u):Rp K H v u:=h.same aD
theorem lK {op:CmpOp} (ho:OpS X (AJ op) x y (.bl k)) (ha:Ev X H0 O0 ps a x) (hb:Ev X H0 O0 ps b y) (hm:Cz op b=false:=by first |exact qv _ |with_unfolding_all rfl):Ev X H0 O0 ps (.Compare a [op] [b] pos) (.bl k):=
 PE.mono (ua ho ha hb hm) fun σ H Q ⟨O,R,q⟩=>two R (fun _ _ _ z=>z) (fun _ _ _ z=>z) fun v w H' s _ r1 r2=>⟨r1.out,r2.out,q _ H' s (.bl _)⟩
theorem ba {op:CmpOp} (ho:OpS X (AJ op) x y (.bl k)) (ha:Ev X H0 O0 ps a x) (hb:Ev X H0 O0 ps b y) (hm:Cz op b=false:=by first |exact qv _ |with_unfolding_all rfl):Tt X H0 O0 ps (.Compare a [op] [b] pos) k:=
 PT.mono (uI ho ha hb hm) fun σ H Q ⟨O,R,q⟩=>two R (fun _ _ _ z=>z) (fun _ _ _ z=>z) fun v w H' s _ r1 r2=>⟨r1.out,r2.out,_,rfl,q H' s⟩
theorem rY {op:CmpOp}{g:Int→Int→Bool} (ho:OpR X (AJ op) (rI0 fun i j=>.bl (g i j))):OpS X (AJ op) (.int i) (.int j) (.bl (g i j)):=by
 intro pins s σ H v w p q Q I r1 r2 h
 obtain ⟨h1,h2,h3⟩:=h
 cases h1;cases h2
 exact ho pins s σ H _ _ _ _ Q I r1 r2 ⟨i,j,rfl,rfl,h3⟩
theorem oP:OpS X (AJ .Lt) (.int i) (.int j) (.bl (decide (i < j))):=rY wU
theorem x4:OpS X (AJ .LtE) (.int i) (.int j) (.bl (decide (i≤j))):=rY w8
theorem jc:OpS X (AJ .Gt) (.int i) (.int j) (.bl (decide (j < i))):=rY wZ
theorem xA (hu:X.A.units+10 < cLine) (h1:okU 9 x=true) (h2:okU 9 y=true):OpS X (AJ .Eq) x y (.bl (eqW x y)):=by
 intro pins s σ H v w p q Q I r1 r2 h
 obtain ⟨k1,k2,k3⟩:=h
 exact xD I 9 X.A x y v w p q k1 k2 r1 r2 h1 h2 (by omega) X.prog X.w _ _ (aW I k3 rfl)
theorem wT (hu:X.A.units+10 < cLine) (h1:okU 9 x=true) (h2:okU 9 y=true):OpS X (AJ .NotEq) x y (.bl (!eqW x y)):=by
 intro pins s σ H v w p q Q I r1 r2 h
 obtain ⟨k1,k2,k3⟩:=h
 exact vH I 8 X.A x y v w p q k1 k2 r1 r2 h1 h2 (by omega) X.prog X.w _ _ (aW I k3 rfl)
theorem cx:OpS X (AJ .Eq) (.int i) (.int j) (.bl (decide (i=j))):=by
 intro pins s σ H v w p q Q I r1 r2 h
 obtain ⟨h1,h2,h3⟩:=h
 cases h1;cases h2
 exact xz pins s σ H _ _ _ _ Q I r1 r2 ⟨rfl,by rw[ix,←C8] at *;simpa [C8] using h3⟩
theorem vx:OpS X (AJ .NotEq) (.int i) (.int j) (.bl (!decide (i=j))):=by
 intro pins s σ H v w p q Q I r1 r2 h
 obtain ⟨h1,h2,h3⟩:=h
 cases h1;cases h2
 exact xI pins s σ H _ _ _ _ Q I r1 r2 ⟨rfl,by rw[ix];simpa [C8] using h3⟩
theorem eQ (h:Ev X H0 O0 ps e (.bl k)) (he:∀whole,isTrue e X.env whole=(do let v ←whole;standAt e.pos;holding [v] (truthy v)):=by intro _;rfl):Tt X H0 O0 ps e k:=
 PT.mono (wG h he) fun σ H Q ⟨O,R,q⟩=>⟨O,R,fun v H' s r=>by cases r;exact ⟨_,rfl,q H' s⟩⟩
theorem h_ (h:Tt X H0 O0 ps a k):Tt X H0 O0 ps (.UnaryOp .Not a pos) (!k):=PT.mono (v3 h) fun σ H Q ⟨O,R,q⟩=>⟨O,R,q⟩
theorem Tw.t (h:Tw X H0 O0 ps e k):Tt X H0 O0 ps e k:=h.pt
theorem rS (h:Tt X H0 O0 ps a k):Tw X H0 O0 ps (.BoolOp .And [a] pos) k:=tE h
theorem jr (h:Tt X H0 O0 ps a k):Tw X H0 O0 ps (.BoolOp .Or [a] pos) k:=v4 h
theorem qo (ha:Tt X H0 O0 ps a k) (hb:k=true→Tw X H0 O0 ps (.BoolOp .And (b::rest) pos) m):Tw X H0 O0 ps (.BoolOp .And (a::b::rest) pos) (k && m):=by
 cases k with
 |true=>exact PW.mono (rF ha (hb rfl)) fun σ H Q ⟨O,R,q⟩=>⟨O,R,fun H' s=>by exact pj (⟨O,R.go s,fun H2 s2=>q H2 (s.trans s2)⟩)⟩
 |false=>exact PW.mono (rF ha (fun _ _ _ _ _ _ _ h=>h.elim) (tB':=fun _ _ _=>False)) fun σ H Q ⟨O,R,q⟩=>⟨O,R,fun H' s=>by exact oH (q H' s)⟩
theorem j5 (ha:Tt X H0 O0 ps a k) (hb:k=false→Tw X H0 O0 ps (.BoolOp .Or (b::rest) pos) m):Tw X H0 O0 ps (.BoolOp .Or (a::b::rest) pos) (k ||m):=by
 cases k with
 |false=>exact PW.mono (vo ha (hb rfl)) fun σ H Q ⟨O,R,q⟩=>⟨O,R,fun H' s=>by exact oH (⟨O,R.go s,fun H2 s2=>q H2 (s.trans s2)⟩)⟩
 |true=>exact PW.mono (vo ha (fun _ _ _ _ _ _ _ h=>h.elim) (tB':=fun _ _ _=>False)) fun σ H Q ⟨O,R,q⟩=>⟨O,R,fun H' s=>by exact pj (q H' s)⟩
theorem pQ {op} (h:Ev X H0 O0 ps a u):Ev X H0 O0 ps (.BoolOp op [a] pos) u:=wq h
theorem rK (ha:Ev X H0 O0 ps a (.bl k)) (hb:k=true→Ev X H0 O0 ps (.BoolOp .And (b::rest) pos) (.bl m)):Ev X H0 O0 ps (.BoolOp .And (a::b::rest) pos) (.bl (k && m)):=by
 cases k with
 |true=>exact PE.mono (qU ha (hb rfl)) fun σ H Q ⟨O,R,q⟩=>⟨O,R,fun v H' s r=>by cases r;exact ⟨_,rfl,by exact pj (⟨O,R.go s,fun v H2 s2 r2=>q v H2 (s.trans s2) r2⟩)⟩⟩
 |false=>exact PE.mono (qU ha (fun _ _ _ _ _ _ h=>h.elim) (tb:=fun _ _ _=>False)) fun σ H Q ⟨O,R,q⟩=>⟨O,R,fun v H' s r=>by cases r;exact ⟨_,rfl,by exact oH (q _ H' s (.bl _))⟩⟩
theorem vn (ha:Ev X H0 O0 ps a (.bl k)):Ev X H0 O0 ps (.UnaryOp .Not a pos) (.bl (!k)):=PE.mono (v6 ha) fun σ H Q ⟨O,R,q⟩=>⟨O,R,fun v H' s r=>by cases r;exact ⟨_,rfl,q _ H' s (.bl _)⟩⟩
theorem ao:EvA X H0 O0 ps [] []:=PA.mono dY fun σ H Q ⟨O,R,q⟩=>q [] H (.refl H) .nil
theorem ac (ha:Ev X H0 O0 ps e u) (hr:EvA X H0 O0 ps es us) (hs:yW (e::es) X.env=(false,eval e X.env)::yW es X.env:=by rfl):EvA X H0 O0 ps (e::es) (u::us):=
 PA.mono (ci ha hr hs) fun σ H Q ⟨O,R,q⟩=>⟨O,R,fun v H1 s1 r1=>⟨O,R.go s1,fun vs H2 s2 r2=>q _ H2 (s1.trans s2) (.cons (r1.same (aI s2)) r2)⟩⟩
theorem Rs.hidnew {K:yH}{σ:St}{H:Hp}{O:List Addr} (R:Rs K H0 O0 ps σ H O) {p:Addr}{o:HO} (n:H p=none):hid (upd H p o) O p=some o:=dg aS fun z=>R.dom p z n
theorem xP {x1} (h:EvA X H0 O0 ps es us) (hz:us.length≤sizeLine:=by first |decide | (simp only[zH,CF];decide)):Ev X H0 O0 ps (.Tuple es x1 pos) (.tup us):=
 PE.mono (vV h) fun σ H Q ⟨O,R,q⟩=>⟨O,R,fun vs H1 s1 r1=>⟨by rw[r1.len];exact hz,fun p hp=>by
  have s2:=aU hp (.tup vs)
  have r2:=r1.same (aI (O:=O) s2)
  exact q _ _ (s1.trans s2) (.tup (SqT.of ((R.go s1).hidnew hp)) r2.len r2.at_)⟩⟩
theorem xE (h:EvA X H0 O0 ps es us) (hz:us.length≤sizeLine:=by first |decide | (simp only[zH,CF];decide)):EvN X H0 O0 ps (.List es pos) us:=
 PE.mono (rC h) fun σ H Q ⟨O,R,q⟩=>⟨O,R,fun vs H1 s1 r1=>⟨by rw[r1.len];exact hz,fun p hp=>by
  exact q p vs _ (s1.trans (aU hp _)) (s1.free hp) aS (r1.same (bJ (aU hp _) hp))⟩⟩
theorem aJ (ha:Ev X H0 O0 ps a x) (hb:Ev X H0 O0 ps b (.int i)) (hx:x.items=some xs) (hi:atI xs i=some u) (hs:gm b:=by intro _ _;rfl):Ev X H0 O0 ps (.Subscript a b pos) u:=
 PE.mono (sE (km.or wL) ha hb hs) fun σ H Q ⟨O,R,q⟩=>two (y:=.int i) R (fun _ _ _ z=>z) (fun _ _ _ z=>z) fun v w H' s _ r1 r2=>by
  cases r2
  cases r1 with
  |scr h hl hh=>cases hx;obtain ⟨z,h1,h2⟩:=Rps.atI ⟨hl,hh⟩ hi;exact .inl ⟨_,_,i,z,rfl,rfl,aD.seq h,h1,q z H' s h2⟩
  |lst h hl hh=>cases hx;obtain ⟨z,h1,h2⟩:=Rps.atI ⟨hl,hh⟩ hi;exact .inl ⟨_,_,i,z,rfl,rfl,aD.seq (SqL.of h),h1,q z H' s h2⟩
  |tup h hl hh=>cases hx;obtain ⟨z,h1,h2⟩:=Rps.atI ⟨hl,hh⟩ hi;exact .inr ⟨_,_,i,z,rfl,rfl,aD.tup h,h1,q z H' s h2⟩
  |_=>cases hx
theorem nj (n:Nat) {x:Str} (h:ps[n]?=some (some (.own xs))) (hb:Ev X H0 O0 ps b (.int i)) (hi:atI xs i=some u) (hN:X.N[n]?=some x:=by rfl) (hv:Vis X.env.scope x:=by first |exact Or.inl rfl |exact Or.inr (Or.inl rfl) |exact Or.inr (Or.inr rfl)) (hd:(x==("__debug__":Str))=false:=by decide)
  (hcd:(x==("__classdict__":Str))=false:=by decide) (hs:gm b:=by intro _ _;rfl):Ev X H0 O0 ps (.Subscript (.Name x p) b pos) u:=
 PE.mono (sE km (gG hN hv hd hcd) hb hs) fun σ H Q ⟨O,R,q⟩=>by
  obtain ⟨v,h1,a,vs,rfl,h3,h4,h5,h6⟩:=R.at_ n _ h
  refine ⟨_,h1,O,R,fun w H' s r=>?_⟩
  cases r
  obtain ⟨z,k1,k2⟩:=h6.atI hi
  exact ⟨a,vs,i,z,rfl,rfl,SqL.of (s _ _ h5),k1,q z H' s (k2.same (aI s))⟩
def fK (X:Cx) (f:Value) (us:List U) (u:U):Prop:=de X f fun vs H Q=>∃O,(∀a∈O,H a≠none)∧Rps X.K (hid H O) vs us∧∀v H',ax H H'→Rp X.K (hid H' O) v u→Q v H'
def uU (X:Cx) (f:Value) (us:List U) (xs:List U):Prop:=de X f fun vs H Q=>∃O,(∀a∈O,H a≠none)∧Rps X.K (hid H O) vs us∧∀a vs H',ax H H'→H a=none→H' a=some (.lst vs)→Rps X.K (hid H' (a::O)) vs xs→Q (.ref a) H'
theorem aX {id:String}{f:Str} (hc:fK X (.builtin id) us u) (hg:Gl X f) (hm:X.mg f=none) (hv:A3 f=some (.builtin id)) (ha:EvA X H0 O0 ps (e::es) us) (hn:f≠"__name__":=by decide) (hdb:(f==("__debug__":Str))=false:=by decide)
  (he:yW (e::es) X.env=(false,eval e X.env)::yW es X.env:=by rfl) (hpl:(C5 pos (yW es X.env)).any (·.1)=false:=by rfl):Ev X H0 O0 ps (.Call (.Name f p) (e::es) [] pos) u:=
 PE.mono (k_ hc hg hm hv ha hn hdb he hpl) fun σ H Q ⟨O,R,q⟩=>⟨O,R,fun vs H1 s1 r1=>⟨O,(R.go s1).dom,r1,fun v H2 s2 r2=>q v H2 (s1.trans s2) r2⟩⟩
theorem m9 {id:String}{f:Str} (hc:uU X (.type id) us xs) (hg:Gl X f) (hm:X.mg f=none) (hv:A3 f=some (.type id)) (ha:EvA X H0 O0 ps (e::es) us) (hn:f≠"__name__":=by decide) (hdb:(f==("__debug__":Str))=false:=by decide)
  (he:yW (e::es) X.env=(false,eval e X.env)::yW es X.env:=by rfl) (hpl:(C5 pos (yW es X.env)).any (·.1)=false:=by rfl):EvN X H0 O0 ps (.Call (.Name f p) (e::es) [] pos) xs:=
 PE.mono (ov hc hg hm hv ha hn hdb he hpl) fun σ H Q ⟨O,R,q⟩=>⟨O,R,fun vs H1 s1 r1=>⟨O,(R.go s1).dom,r1,fun a vs H2 s2 n h r2=>q a vs H2 (s1.trans s2) (s1.free n) h r2⟩⟩
theorem dX {K:yH}{H:Hp}{vs:List V} (h:Rps K H vs [x]):∃v,vs=[v]∧Rp K H v x:=by
 obtain ⟨v,ws,rfl,h1,h2⟩:=h.cons_inv
 rw[h2.nil_inv]
 exact ⟨v,rfl,h1⟩
theorem ik {K:yH}{H:Hp}{vs:List V} (h:Rps K H vs [x,y]):∃v w,vs=[v,w]∧Rp K H v x∧Rp K H w y:=by
 obtain ⟨v,ws,rfl,h1,h2⟩:=h.cons_inv
 obtain ⟨w,rfl,h3⟩:=dX h2
 exact ⟨v,w,rfl,h1,h3⟩
theorem de.mono {f:Value}{r r':List V→Hp→VK→Prop} (h:de X f r) (m:∀vs H Q,r' vs H Q→r vs H Q):de X f r':=fun pins s σ H vs us Q I v q=>h pins s σ H vs us Q I v (m vs H Q q)
theorem j4 {K:yH}{H:Hp}{v:V} (h:Rp K H v x) (hx:x.items=some xs):∃a vs,v=.ref a∧(SqL K H a vs∨SqT K H a vs)∧Rps K H vs xs:=by
 cases h with
 |scr h hl hh=>cases hx;exact ⟨_,_,rfl,.inl h,hl,hh⟩
 |lst h hl hh=>cases hx;exact ⟨_,_,rfl,.inl (SqL.of h),hl,hh⟩
 |tup h hl hh=>cases hx;exact ⟨_,_,rfl,.inr h,hl,hh⟩
 |_=>cases hx
theorem n_ {K:yH}{H:Hp}{O:List Addr}{a:Addr}{vs:List V} (h:SqL K (hid H O) a vs∨SqT K (hid H O) a vs):SqL K H a vs∨SqT K H a vs:=h.imp (fun z=>aD.seq z) fun z=>aD.tup z
theorem fL (hx:x.items=some xs):fK X (.builtin "len") [x] (.int xs.length):=de.mono gw fun vs H Q ⟨O,d,r,q⟩=>by
 obtain ⟨v,rfl,h⟩:=dX r
 obtain ⟨a,ws,rfl,h1,h2⟩:=j4 h hx
 exact ⟨a,ws,rfl,n_ h1,by rw[h2.len];exact q _ H (.refl H) (.int _)⟩
theorem wo (n:Nat) {x:Str} (h:ps[n]?=some (some (.own xs))) (hg:Gl X "len") (hm:X.mg "len"=none) (hN:X.N[n]?=some x:=by rfl) (hv:Vis X.env.scope x:=by first |exact Or.inl rfl |exact Or.inr (Or.inl rfl) |exact Or.inr (Or.inr rfl)) (hd:(x==("__debug__":Str))=false:=by decide)
  (hcd:(x==("__classdict__":Str))=false:=by decide) {pc p':Pos} (hs:yW [.Name x p'] X.env=(false,eval (.Name x p') X.env)::yW [] X.env:=by rfl) (hpl:(C5 pos (yW [] X.env)).any (·.1)=false:=by rfl):Ev X H0 O0 ps (.Call (.Name "len" pc) [.Name x p'] [] pos) (.int xs.length):=
 PE.mono (k_ gw hg hm AW (ci (gG hN hv hd hcd) dY hs) (by decide) (by decide) hs hpl) fun σ H Q ⟨O,R,q⟩=>by
  obtain ⟨v,h1,a,vs,rfl,h3,h4,h5,h6⟩:=R.at_ n _ h
  exact ⟨_,h1,a,vs,rfl,.inl (SqL.of h5),by rw[h6.len];exact q _ H (.refl H) (.int _)⟩
theorem rZ:fK X (.builtin "abs") [.int i] (.int (if i < 0 then -i else i)):=de.mono rD fun vs H Q ⟨O,d,r,q⟩=>by
 obtain ⟨v,rfl,h⟩:=dX r
 cases h
 exact ⟨i,rfl,q _ H (.refl H) (.int _)⟩
theorem xS (hc:X.calm=true):fK X (.builtin "min") [.int i,.int j] (.int (if j < i then j else i)):=de.mono (oM hc) fun vs H Q ⟨O,d,r,q⟩=>by
 obtain ⟨v,w,rfl,h,h2⟩:=ik r
 cases h;cases h2
 exact ⟨i,j,rfl,q _ H (.refl H) (.int _)⟩
theorem si (hx:x.items=some xs):uU X (.type "list") [x] xs:=de.mono kh fun vs H Q ⟨O,d,r,q⟩=>by
 obtain ⟨v,rfl,h⟩:=dX r
 obtain ⟨a,ws,rfl,h1,h2⟩:=j4 h hx
 exact ⟨a,ws,rfl,n_ h1,fun l hl=>q l ws _ (aU hl _) hl aS (h2.same (bJ (aU hl _) hl))⟩
def tyU:U→Value
 | .non=>.type "NoneType" | .bl _=>.type "bool" | .int _=>.type "int" | .str _=>.type "str" | .ty _=>.type "type" | .dic=>.type "dict" | .scr _=>.type "list" | .tup _=>.type "tuple" | .lst _=>.type "list"
theorem cL {n:String} (hn:∀m,x≠.ty m) (h:DH X.K (tyU x) (.type n)=some k):fK X (.builtin "isinstance") [x,.ty (.nm n)] (.bl k):=by
 intro pins s σ H vs us Q I r hq
 obtain ⟨O,d,rs,q⟩:=hq
 obtain ⟨v,w,rfl,h1,h2⟩:=ik rs
 cases h2
 obtain ⟨p1,p2,rfl,r1,r2⟩:=nJ r
 cases (show p2=AD n from r2)
 have fin:∀tk,EP X pins σ Q (.bool k) {s with toks:=tk }:=fun tk=>⟨.bl k,H,I.tok _,rfl,q _ H (.refl H) (.bl _)⟩
 cases h1 with
 |non=>exact cX I r1 .non h fin
 |bl b=>exact cX I r1 (.bl b) h fin
 |int b=>exact cX I r1 (.int b) h fin
 |str b=>exact cX I r1 (.str b) h fin
 |ty m=>exact absurd rfl (hn _)
 |dic e=>exact cX I r1 (.dK (aD _ _ e)) h fin
 |xc e kk=>exact absurd rfl (hn _)
 |scr e hl hh=>
  cases r1
  obtain ⟨its,_,pl,_⟩:=I.list (aD.seq e)
  obtain ⟨o,nn,e1,e2,_⟩:=pl
  exact Ar DN I.kIn ⟨o,e1,e2⟩ h (fun z=>nomatch z) fin
 |lst e hl hh=>exact cX I r1 (.lst (aD _ _ e)) h fin
 |tup e hl hh=>
  cases r1
  obtain ⟨its,_,pl,_⟩:=I.tuple (aD.tup e)
  obtain ⟨o,e1,e2,_⟩:=pl
  exact Ar Fi I.kIn ⟨o,e1,e2⟩ h (fun z=>nomatch z) fin
end
inductive Out where
 |val (u:U) |new (xs:List U) |exc (C:Addr)
def lU (K:yH) (H0:Hp) (O0:List Addr) (Q:VK) (E:XK):Out→Prop
 | .val u=>∀v H',ax H0 H'→Rp K (hid H' O0) v u→Q v H'
 | .new xs=>∀a vs H',ax H0 H'→H0 a=none→H' a=some (.lst vs)→Rps K (hid H' (a::O0)) vs xs→Q (.ref a) H'
 | .exc C=>∀H',ax H0 H'→E (.ref C) none H'
theorem lU.later {K:yH}{H0 H1:Hp}{O0:List Addr}{Q:VK}{E:XK}{o:Out} (e:ax H0 H1) (h:lU K H0 O0 Q E o):lU K H1 O0 Q E o:=by
 cases o with
 |val u=>exact fun v H' s r=>h v H' (e.trans s) r
 |new xs=>exact fun a vs H' s n q r=>h a vs H' (e.trans s) (e.free n) q r
 |exc C=>exact fun H' s=>h H' (e.trans s)
structure PD where
 nx:PSt→Prop
 rt:Out→Prop
 bk:PSt→Prop:=fun _=>False
 ct:PSt→Prop:=fun _=>False
structure Lf (K:yH) (H0:Hp) (O0:List Addr) (E:XK) (D:PD) (D':ka):Prop where
 nx:∀ps σ H O,Rs K H0 O0 ps σ H O→D.nx ps→D'.nx σ H
 bk:∀ps σ H O,Rs K H0 O0 ps σ H O→D.bk ps→D'.bk σ H
 ct:∀ps σ H O,Rs K H0 O0 ps σ H O→D.ct ps→D'.ct σ H
 rt:∀o,D.rt o→lU K H0 O0 D'.rt E o
def Ws (X:Cx) (H0:Hp) (O0:List Addr) (E:XK) (ss:List Stmt) (D:PD) (ps:PSt):Prop:=PSs X ss fun D' σ H=>Lf X.K H0 O0 E D D'∧∃O,Rs X.K H0 O0 ps σ H O
def W1 (X:Cx) (H0:Hp) (O0:List Addr) (E:XK) (s:Stmt) (D:PD) (ps:PSt):Prop:=PS X s fun D' σ H=>Lf X.K H0 O0 E D D'∧∃O,Rs X.K H0 O0 ps σ H O
section
variable {X:Cx}{H0:Hp}{O0:List Addr}{E:XK}{ps ps':PSt}{D:PD}{s:Stmt}{ss body:List Stmt}{a b c e:Expr}{es:List Expr}{pos p:Pos}{u x y:U}{xs ys us:List U}{k:Bool}
theorem a_ (h:D.nx ps):Ws X H0 O0 E [] D ps:=PSs.mono t8 fun D' σ H ⟨L,O,R⟩=>L.nx ps σ H O R h
theorem ae (h:W1 X H0 O0 E s {D with nx:=fun p=>Ws X H0 O0 E ss D p } ps):Ws X H0 O0 E (s::ss) D ps:=by
 have h2:PSs X ss fun D' σ H=>∃p,Ws X H0 O0 E ss D p∧Lf X.K H0 O0 E D D'∧∃O,Rs X.K H0 O0 p σ H O:=fun pins s σ H D' I ⟨p,w,l,r⟩=>w pins s σ H D' I ⟨l,r⟩
 exact PSs.mono (qK h h2) fun D' σ H ⟨L,O,R⟩=>⟨⟨fun p σ H O R q=>⟨p,q,L,O,R⟩,L.bk,L.ct,L.rt⟩,O,R⟩
theorem d7 (h:Ws X H0 O0 E ss D ps') (hs:SubP ps' ps):Ws X H0 O0 E ss D ps:=PSs.mono h fun D' σ H ⟨L,O,R⟩=>⟨L,O,R.sub hs⟩
theorem aK {i:Nat}{x:Str}{pos':Pos} (hN:X.N.Nodup) (hi:X.N[i]?=some x) (hx:Loc X.env.scope x) (he:Ev X H0 O0 ps e u) (h:D.nx (ps.set i (some (.val u)))) (hs:DM e (some (.Name x pos')) pos.line X.env=pure false:=by rfl) (hf:X.fn x=true∨X.env.scope.names.lookup x=some .local:=by first |exact .inl rfl |exact .inr rfl |assumption):
  W1 X H0 O0 E (.Assign [.Name x pos'] e pos) D ps:=PS.mono (p8 hN hi hx he hs hf) fun D' σ H ⟨L,O,R⟩=>⟨O,R,fun v H' s r=>L.nx _ _ _ O ((R.go s).set r) h⟩
theorem jn {i:Nat}{x:Str}{pos':Pos} (hN:X.N.Nodup) (hi:X.N[i]?=some x) (hx:Loc X.env.scope x) (he:EvN X H0 O0 ps e xs) (h:D.nx (ps.set i (some (.own xs)))) (hs:DM e (some (.Name x pos')) pos.line X.env=pure false:=by rfl) (hf:X.fn x=true∨X.env.scope.names.lookup x=some .local:=by first |exact .inl rfl |exact .inr rfl |assumption):
  W1 X H0 O0 E (.Assign [.Name x pos'] e pos) D ps:=PS.mono (p8 hN hi hx he hs hf) fun D' σ H ⟨L,O,R⟩=>⟨O,R,fun a vs H' s n q r=>L.nx _ _ _ _ (R.own s n q r) h⟩
theorem lc {tb fb:List Stmt} (hc:Tt X H0 O0 ps c k) (h1:k=true→Ws X H0 O0 E tb D ps) (h2:k=false→Ws X H0 O0 E fb D ps):W1 X H0 O0 E (.If c tb fb pos) D ps:=by
 cases k with
 |true=>exact PS.mono (uP hc (h1 rfl) (fun _ _ _ _ _ _ h=>h.elim) (u:=fun _ _ _=>False)) fun D' σ H ⟨L,O,R⟩=>⟨O,R,fun H' s=>pj ⟨L,O,R.go s⟩⟩
 |false=>exact PS.mono (uP hc (fun _ _ _ _ _ _ h=>h.elim) (h2 rfl) (t:=fun _ _ _=>False)) fun D' σ H ⟨L,O,R⟩=>⟨O,R,fun H' s=>oH ⟨L,O,R.go s⟩⟩
theorem Rs.ret {K:yH}{σ:St}{H:Hp}{O:List Addr}{v:V} (R:Rs K H0 O0 ps σ H O) (r:Rp K (hid H O) v u):Rp K (hid H O0) v u:=r.same (dN R.old)
theorem bC (he:Ev X H0 O0 ps e u) (h:D.rt (.val u)):W1 X H0 O0 E (.Return (some e) pos) D ps:=
 PS.mono (mY he) fun D' σ H ⟨L,O,R⟩=>⟨O,R,fun v H' s r=>L.rt _ h v H' (R.same.trans s) ((R.go s).ret r)⟩
theorem kB (he:EvN X H0 O0 ps e xs) (h:D.rt (.new xs)):W1 X H0 O0 E (.Return (some e) pos) D ps:=
 PS.mono (mY he) fun D' σ H ⟨L,O,R⟩=>⟨O,R,fun a vs H' s n q r=>L.rt _ h a vs H' (R.same.trans s) (R.same.free n) q (r.same (dN fun b hb=>by
  rcases yP.mp hb with y |y
  ·subst y;exact yV
  ·exact yM _ (R.old b y)))⟩
theorem qW (i:Nat) {x:Str} (hp:ps[i]?=some (some (.own xs))) (h:D.rt (.new xs)) (hN:X.N[i]?=some x:=by rfl) (hv:Vis X.env.scope x:=by first |exact Or.inl rfl |exact Or.inr (Or.inl rfl) |exact Or.inr (Or.inr rfl)) (hd:(x==("__debug__":Str))=false:=by decide)
  (hcd:(x==("__classdict__":Str))=false:=by decide):W1 X H0 O0 E (.Return (some (.Name x p)) pos) D ps:=
 PS.mono (mY (gG hN hv hd hcd)) fun D' σ H ⟨L,O,R⟩=>by
  obtain ⟨v,h1,a,vs,rfl,h3,h4,h5,h6⟩:=R.at_ i _ hp
  refine ⟨_,h1,L.rt _ h a vs H R.same ((R.new a h3).resolve_left h4) h5 (h6.same (dN fun b hb=>?_))⟩
  rcases yP.mp hb with y |y
  ·subst y;exact h3
  ·exact R.old b y
theorem mU (he:Ev X H0 O0 ps e u) (h:D.nx ps) (hs:DM e none pos.line X.env=pure false:=by rfl):W1 X H0 O0 E (.Expr e pos) D ps:=
 PS.mono (j6 he hs) fun D' σ H ⟨L,O,R⟩=>⟨O,R,fun v H' s r=>L.nx _ _ _ O (R.go s) h⟩
theorem fk (i:Nat) {x:Str}{apos cpos xp:Pos} (hp:ps[i]?=some (some (.own xs))) (ha:Ev X H0 O0 ps e u) (hz:xs.length < sizeLine) (h:D.nx (ps.set i (some (.own (xs++[u])))))
  (hN:X.N[i]?=some x:=by rfl) (hv:Vis X.env.scope x:=by first |exact Or.inl rfl |exact Or.inr (Or.inl rfl) |exact Or.inr (Or.inr rfl)) (hd:(x==("__debug__":Str))=false:=by decide) (hcd:(x==("__classdict__":Str))=false:=by decide)
  (hbase:D6 (.Name x xp) "append" X.env (eval (.Name x xp) X.env)=eval (.Name x xp) X.env:=by rfl)
  (hfew:((C5 cpos (yW [e] X.env)).all (fun x=>!x.1) && (backToKw cpos (keywordEach [] X.env)).all (fun x=>x.1.isSome) && decide ([e].length+([]:List Gm).length+(if ([]:List Gm).isEmpty then 0 else 1) < 30))=true:=by rfl)
  (hline:(apos.endLine==cpos.line)=true:=by rfl) (hse:yW [e] X.env=(false,eval e X.env)::yW [] X.env:=by rfl) (hplain:(C5 cpos (yW [] X.env)).any (·.1)=false:=by rfl)
  (hs:DM (.Call (.Attribute (.Name x xp) "append" apos) [e] [] cpos) none pos.line X.env=pure false:=by rfl):W1 X H0 O0 E (.Expr (.Call (.Attribute (.Name x xp) "append" apos) [e] [] cpos) pos) D ps:=
 PS.mono (j6 (xQ D7 PySem.F.slot_list_append PySem.F.type_list_append fF (gG hN hv hd hcd) (ci ha dY hse) hbase hfew hline hse hplain) hs) fun D' σ H ⟨L,O,R⟩=>by
  obtain ⟨v,h1,a,vs,rfl,h3,h4,h5,h6⟩:=R.at_ i _ hp
  refine ⟨_,h1,.inl ⟨rfl,_,SqL.of h5⟩,O,R,fun w H' s r=>⟨a,vs,w,rfl,rfl,s _ _ h5,by rw[h6.len];exact hz,?_⟩⟩
  exact L.nx _ _ _ O ((R.go s).write hp h1 ((h6.same (aI s)).snoc (.cons r .nil))) h
theorem uW (i:Nat) {x:Str}{apos cpos xp:Pos} (hp:ps[i]?=some (some (.own xs))) (hne:xs≠[]) (h:D.nx (ps.set i (some (.own xs.dropLast))))
  (hN:X.N[i]?=some x:=by rfl) (hv:Vis X.env.scope x:=by first |exact Or.inl rfl |exact Or.inr (Or.inl rfl) |exact Or.inr (Or.inr rfl)) (hd:(x==("__debug__":Str))=false:=by decide) (hcd:(x==("__classdict__":Str))=false:=by decide)
  (hbase:D6 (.Name x xp) "pop" X.env (eval (.Name x xp) X.env)=eval (.Name x xp) X.env:=by rfl)
  (hline:(apos.endLine==cpos.line)=true:=by rfl)
  (hs:DM (.Call (.Attribute (.Name x xp) "pop" apos) [] [] cpos) none pos.line X.env=pure false:=by rfl):W1 X H0 O0 E (.Expr (.Call (.Attribute (.Name x xp) "pop" apos) [] [] cpos) pos) D ps:=
 PS.mono (j6 (wD D7 PySem.F.slot_list_pop PySem.F.type_list_pop vC (gG hN hv hd hcd) hbase hline) hs) fun D' σ H ⟨L,O,R⟩=>by
  obtain ⟨v,h1,a,vs,rfl,h3,h4,h5,h6⟩:=R.at_ i _ hp
  have hpos:0 < vs.length:=by rw[h6.len];exact Cq.mpr hne
  have hlt:vs.length - 1 < vs.length:=by omega
  refine ⟨_,h1,.inl ⟨rfl,_,SqL.of h5⟩,a,vs,vs[vs.length - 1],rfl,rfl,h5,yD hlt,?_⟩
  refine L.nx _ _ _ O (R.write hp h1 ⟨by simp[h6.len],fun j v x e1 e2=>?_⟩) h
  rw[Bt] at e1 e2
  split at e1
  ·split at e2
   ·exact h6.at_ j v x e1 e2
   ·cases e2
  ·cases e1
end
def mT:List Nat→TGs
 |[]=>xt
 |j::js=>vm (nA j) (mT js)
def setAll:PSt→List Nat→List U→PSt
 |ps,j::js,u::us=>setAll (ps.set j (some (.val u))) js us
 |ps,_,_=>ps
def kE:St→List Nat→List V→St
 |σ,j::js,u::us=>kE (σ.set j (some u)) js us
 |σ,_,_=>σ
theorem Rs.setAll {K:yH}{H0:Hp}{O0:List Addr}{H:Hp}{O:List Addr}:∀{js:List Nat}{ps:PSt}{σ:St}{vs:List V}{us:List U},Rs K H0 O0 ps σ H O→Rps K (hid H O) vs us→Rs K H0 O0 (L2.setAll ps js us) (kE σ js vs) H O
 |[],ps,σ,vs,us,R,r=>by cases us <;>cases vs <;>exact R
 |j::js,ps,σ,vs,[],R,r=>by rw[r.nil_inv];exact R
 |j::js,ps,σ,vs,u::us,R,r=>by
  obtain ⟨v,ws,rfl,h1,h2⟩:=r.cons_inv
  exact Rs.setAll (js:=js) (R.set h1) h2
theorem jA {Q:St→Hp→Prop}{H:Hp}:∀{js:List Nat}{σ:St}{vs:List V},vs.length=js.length→Q (kE σ js vs) H→mT js vs σ H Q
 |[],σ,[],_,q=>⟨rfl,q⟩
 |j::js,σ,v::vs,e,q=>⟨v,vs,rfl,jA (js:=js) (by simpa using e) q⟩
 |[],_,_::_,e,_=>by simp at e
 |_::_,_,[],e,_=>by simp at e
def TgS (X:Cx) (H0:Hp) (O0:List Addr) (tg:Expr) (ps:PSt) (u:U) (ps':PSt):Prop:=
 PG X tg fun v σ H Q=>∃O,Rs X.K H0 O0 ps σ H O∧Rp X.K (hid H O) v u∧∀σ' H',ax H H'→Rs X.K H0 O0 ps' σ' H' O→Q σ' H'
theorem PG.mono {X:Cx}{e:Expr}{t t':TG} (h:PG X e t) (m:∀v σ H Q,t' v σ H Q→t v σ H Q):PG X e t':=fun pins s σ H v u Q I r q=>h pins s σ H v u Q I r (m v σ H Q q)
theorem PI.mono {X:Cx}{tg e:Expr}{t t':TI} (h:PI X tg e t) (m:∀σ H Q,t' σ H Q→t σ H Q):PI X tg e t':=fun pins s σ H Q I q=>h pins s σ H Q I (m σ H Q q)
def Yl (K:yH) (J:It) (G:Hp) (xs:List U):Prop:=
 ∀H2,ax G H2→(∀i,i < xs.length→J.go i H2∧∀x H3,J.yld i H2 x H3→H3=H2∧∃u,xs[i]?=some u∧Rp K G x u)∧J.stop xs.length H2
def EvI (X:Cx) (H0:Hp) (O0:List Addr) (ps:PSt) (tg iter:Expr) (xs:List U):Prop:=
 PI X tg iter fun σ H R=>∃O,Rs X.K H0 O0 ps σ H O∧∀J H',ax H H'→Yl X.K J (hid H' O) xs→R J H'
section
variable {X:Cx}{H0:Hp}{O0:List Addr}{E:XK}{ps ps':PSt}{D:PD}{s:Stmt}{ss body:List Stmt}{a b c e tg iter:Expr}{es:List Expr}{pos p:Pos}{u x y:U}{xs ys us:List U}{k:Bool}
theorem iM {i:Nat}{x:Str} (hN:X.N.Nodup) (hi:X.N[i]?=some x) (hx:Loc X.env.scope x) (hf:X.fn x=true∨X.env.scope.names.lookup x=some .local:=by first |exact .inl rfl |exact .inr rfl |assumption):TgS X H0 O0 (.Name x pos) ps u (ps.set i (some (.val u))):=
 PG.mono (bE hN hi hx hf) fun v σ H Q ⟨O,R,r,q⟩=>q _ H (.refl H) (R.set r)
theorem ve {k:Nat} (js:List Nat) (hc:X.calm=true) (h:PGs X es (mT js)) (hl:us.length=js.length) (hn:(Ct es X.env).length=js.length:=by rfl) (hst:(Ct es X.env).findIdx? (·.1)=none:=by rfl):TgS X H0 O0 (.Tuple es k pos) ps (.tup us) (setAll ps js us):=
 PG.mono (vz hc h hn hst) fun v σ H Q ⟨O,R,r,q⟩=>by
  cases r with
  |tup hq hl' hh=>exact ⟨_,_,rfl,aD.tup hq,hl'.trans hl,jA (hl'.trans hl) (q _ H (.refl H) (R.setAll ⟨hl',hh⟩))⟩
theorem xy (he:Ev X H0 O0 ps e u) (hg:TgS X H0 O0 tg ps u ps') (h:D.nx ps') (hs:D3 [tg] e pos.line X.env=pure false:=by rfl) (hw:D4 [tg] e X.env=pure none:=by rfl)
  (h1:(Ct [tg] X.env).map (·.2)=[assign tg X.env]:=by rfl):W1 X H0 O0 E (.Assign [tg] e pos) D ps:=
 PS.mono (wa he hg hs hw h1) fun D' σ H ⟨L,O,R⟩=>⟨O,R,fun v H1 s1 r1=>⟨O,R.go s1,r1,fun σ' H2 s2 R2=>L.nx _ _ _ O R2 h⟩⟩
theorem xN {i j:Nat}{x y:Str}{px py pt:Pos}{kt k2 pt2}{u w:U} (hc:X.calm=true) (hN:X.N.Nodup) (hi:X.N[i]?=some x) (hj:X.N[j]?=some y) (hij:i≠j)
  (hx:X.env.scope.names.lookup x=some .local) (hy:X.env.scope.names.lookup y=some .local) (ha:EvA X H0 O0 ps [a,b] [u,w])
  (hw:D4 [.Tuple [.Name x px,.Name y py] kt pt] (.Tuple [a,b] k2 pt2) X.env=pure (some [x,y])) (h:D.nx ((ps.set i (some (.val u))).set j (some (.val w))))
  (hs:D3 [.Tuple [.Name x px,.Name y py] kt pt] (.Tuple [a,b] k2 pt2) pos.line X.env=pure false:=by rfl):
  W1 X H0 O0 E (.Assign [.Tuple [.Name x px,.Name y py] kt pt] (.Tuple [a,b] k2 pt2) pos) D ps:=
 PS.mono (wb hc hN hi hj hij hx hy ha hw hs) fun D' σ H ⟨L,O,R⟩=>⟨O,R,fun vs H1 s1 r1=>by
  obtain ⟨v,z,rfl,h1,h2⟩:=ik r1
  exact ⟨v,z,rfl,L.nx _ _ _ O (((R.go s1).set h1).set h2) h⟩⟩
theorem cP (he:Ev X H0 O0 ps iter x) (hx:x=.lst xs∨x=.scr xs):EvI X H0 O0 ps tg iter xs:=
 PI.mono (t_ he) fun σ H Q ⟨O,R,q⟩=>⟨O,R,fun v H' s r=>by
  have key:∃a vs,v=.ref a∧SqL X.K (hid H' O) a vs∧Rps X.K (hid H' O) vs xs:=by
   rcases hx with rfl |rfl
   ·cases r with
    |lst hq hl hh=>exact ⟨_,_,rfl,SqL.of hq,hl,hh⟩
   ·cases r with
    |scr hq hl hh=>exact ⟨_,_,rfl,hq,hl,hh⟩
  obtain ⟨a,vs,rfl,hq,rs⟩:=key
  refine ⟨a,rfl,⟨vs,aD.seq hq⟩,q _ H' s fun H2 s2=>⟨fun i hi=>?_,⟨vs,s2.seq hq,by rw[rs.len];exact yO _⟩⟩⟩
  have hi':i < vs.length:=by rw[rs.len];exact hi
  refine ⟨⟨vs,vs[i],s2.seq hq,yD hi'⟩,fun z H3 y=>⟨y.1,xs[i],yD hi,rs.at_ i z _ (y.2 vs (s2.seq hq)) (yD hi)⟩⟩⟩
theorem vg (he:Ev X H0 O0 ps iter (.tup xs)):EvI X H0 O0 ps tg iter xs:=
 PI.mono (wg he) fun σ H Q ⟨O,R,q⟩=>⟨O,R,fun v H' s r=>by
  cases r with
  | @tup a vs _ hq hl hh=>
   have rs:Rps X.K (hid H' O) vs xs:=⟨hl,hh⟩
   refine ⟨a,rfl,⟨vs,aD.tup hq⟩,q _ H' s fun H2 s2=>⟨fun i hi=>?_,⟨vs,s2.tup hq,by rw[rs.len];exact yO _⟩⟩⟩
   have hi':i < vs.length:=by rw[rs.len];exact hi
   refine ⟨⟨vs,vs[i],s2.tup hq,yD hi'⟩,fun z H3 y=>⟨y.1,xs[i],yD hi,rs.at_ i z _ (y.2 vs (s2.tup hq)) (yD hi)⟩⟩⟩
def f_ (lo:Int) (n:Nat):List U:=(zS n).map fun (i:Nat)=>U.int (lo+(i:Int))
theorem dR {lo:Int}{n:Nat}:(f_ lo n).length=n:=by simp[f_]
theorem jy {lo:Int}{n i:Nat} (h:i < n):(f_ lo n)[i]?=some (.int (lo+(i:Int))):=by
 unfold f_
 rw[yN,BQ h];rfl
theorem iF {lo:Int}{n i:Nat}{x:U} (h:(f_ lo n)[i]?=some x):i < n∧x=.int (lo+(i:Int)):=by
 have hi:=aC h
 rw[dR] at hi
 rw[jy hi] at h
 exact ⟨hi,(zU h).symm⟩
theorem qx {K:yH}{G:Hp}{lo:Int}{n:Nat}:Yl K (Itr lo n) G (f_ lo n):=fun H2 s2=>by
 rw[dR]
 refine ⟨fun i hi=>⟨hi,fun z H3 y=>⟨y.1,_,jy hi,?_⟩⟩,yO _⟩
 rw[y.2];exact .int _
theorem sr {j:Int} (hg:Gl X "range") (hm:X.mg "range"=none) (ha:EvA X H0 O0 ps [a] [.int j]) (h1:-(2 ^ 62)≤j) (h2:j < 2 ^ 62) (hs:yW [a] X.env=[(false,eval a X.env)]:=by rfl):EvI X H0 O0 ps tg (.Call (.Name "range" p) [a] [] pos) (f_ 0 j.toNat):=
 PI.mono (pC hg hm ha hs) fun σ H Q ⟨O,R,q⟩=>⟨O,R,fun vs H' s r=>by
  obtain ⟨v,rfl,h⟩:=dX r
  cases h
  exact ⟨j,rfl,h1,h2,q _ H' s qx⟩⟩
def fC (lo c:Int) (n:Nat):List U:=(zS n).map fun (i:Nat)=>U.int (lo+(i:Int) *c)
theorem eY {lo c:Int}{n:Nat}:(fC lo c n).length=n:=by simp[fC]
theorem iP {lo c:Int}{n i:Nat} (h:i < n):(fC lo c n)[i]?=some (.int (lo+(i:Int) *c)):=by
 unfold fC
 rw[yN,BQ h];rfl
theorem lP {lo c:Int}{n i:Nat}{x:U} (h:(fC lo c n)[i]?=some x):i < n∧x=.int (lo+(i:Int) *c):=by
 have hi:=aC h
 rw[eY] at hi
 rw[iP hi] at h
 exact ⟨hi,(zU h).symm⟩
theorem rO {i j m:Int} (hg:Gl X "range") (hm:X.mg "range"=none) (ha:EvA X H0 O0 ps [a,b,c] [.int i,.int j,.int m]) (h:-(2 ^ 60)≤i∧i < 2 ^ 60∧-(2 ^ 60)≤j∧j < 2 ^ 60∧0 < m∧m < 2 ^ 30) (hs:yW [a,b,c] X.env=[(false,eval a X.env),(false,eval b X.env),(false,eval c X.env)]:=by rfl)
  (hs2:yW [b,c] X.env=[(false,eval b X.env),(false,eval c X.env)]:=by rfl):
  EvI X H0 O0 ps tg (.Call (.Name "range" p) [a,b,c] [] pos) (fC i m (e8 i j m)):=
 PI.mono (oy hg hm ha hs hs2) fun σ H Q ⟨O,R,q⟩=>⟨O,R,fun vs H' s r=>by
  obtain ⟨v,ws,rfl,k1,k2⟩:=r.cons_inv
  obtain ⟨w,z,rfl,k2,k3⟩:=ik k2
  cases k1;cases k2;cases k3
  refine ⟨i,j,m,rfl,h,q _ H' s fun H2 s2=>?_⟩
  rw[eY]
  refine ⟨fun i hi=>⟨hi,fun z H3 y=>⟨y.1,_,iP hi,?_⟩⟩,yO _⟩
  rw[y.2];exact .int _⟩
theorem Rs.rebase {K:yH}{σ:St}{H:Hp}{O:List Addr} (R:Rs K H0 O0 ps σ H O):Rs K (hid H (O.filter fun a=>decide (a ∉ O0))) O0 ps σ H O:=
 ⟨aD,R.old,fun a ha=>by
  by_cases h:a∈O0
  ·exact .inl h
  ·right;unfold hid;rw[if_pos (Ay.mpr ⟨ha,by simpa using h⟩)],R.dom,R.len,R.at_,R.inj⟩
theorem Rs.base {K:yH}{σ:St}{H:Hp}{O:List Addr} (R:Rs K H0 O0 ps σ H O):ax H0 (hid H (O.filter fun a=>decide (a ∉ O0))):=fun b o h=>by
 refine dg (R.same b o h) fun z=>?_
 obtain ⟨z1,z2⟩:=Ay.mp z
 rcases R.new b z1 with y |y
 ·simp[y] at z2
 ·rw[h] at y;cases y
theorem Rs.unbase {K:yH}{H1:Hp}{σ:St}{H:Hp}{O:List Addr} (e:ax H0 H1) (R:Rs K H1 O0 ps σ H O):Rs K H0 O0 ps σ H O:=
 ⟨e.trans R.same,R.old,fun a ha=>(R.new a ha).imp id fun z=>e.free z,R.dom,R.len,R.at_,R.inj⟩
theorem Rs.seen {K:yH}{ps2:PSt}{σ σ2:St}{H H2:Hp}{O O2:List Addr} (R:Rs K H0 O0 ps σ H O) (R2:Rs K (hid H (O.filter fun a=>decide (a ∉ O0))) O0 ps2 σ2 H2 O2):ax (hid H O) (hid H2 O2):=fun b o h=>by
 obtain ⟨h1,h2⟩:=fX h
 have h3:hid H (O.filter fun a=>decide (a ∉ O0)) b=some o:=dg h1 fun z=>h2 (Ay.mp z).1
 refine dg (R2.same b o h3) fun z=>?_
 rcases R2.new b z with y |y
 ·exact h2 (R.old b y)
 ·rw[h3] at y;cases y
theorem xR (hc:X.calm=true) (hp:Dp (model X.prog X.w) X.A X.env X.xe) (hi:EvI X H0 O0 ps tg iter xs) (Iv:Nat→PSt→Prop) (h0:Iv 0 ps)
  (hs:∀(H0:Hp) (i:Nat) (x:U) (ps:PSt),xs[i]?=some x→Iv i ps→∃ps',TgS X H0 O0 tg ps x ps'∧Ws X H0 O0 E body {D with nx:=Iv (i+1),ct:=Iv (i+1),bk:=D.nx } ps') (hd:∀ps,Iv xs.length ps→D.nx ps)
  (hf:∀x,Ab iter X.env x=pure x:=by intro _;rfl):W1 X H0 O0 E (.For tg iter body [] pos) D ps:=by
 have hg:PG X tg fun v σ H Q=>∃H1 ps u ps',TgS X H1 O0 tg ps u ps'∧∃O,Rs X.K H1 O0 ps σ H O∧Rp X.K (hid H O) v u∧∀σ' H',ax H H'→Rs X.K H1 O0 ps' σ' H' O→Q σ' H':=
  fun pins s σ H v u Q I r ⟨H1,ps,w,ps',t,z⟩=>t pins s σ H v u Q I r z
 have hb:PSs X body fun D' σ H=>∃H1 D1 ps',Ws X H1 O0 E body D1 ps'∧Lf X.K H1 O0 E D1 D'∧∃O,Rs X.K H1 O0 ps' σ H O:=fun pins s σ H D' I ⟨H1,D1,ps',w,z⟩=>w pins s σ H D' I z
 refine PS.mono (qk hp hc hi hg hb hf) fun D' σ H ⟨L,O,R⟩=>⟨O,R,fun J H1 s1 Y=>?_⟩
 have R1:=R.go s1
 have base:=R1.base
 refine ⟨fun i m σ H=>m=xs.length - i∧i≤xs.length∧∃ps O',Iv i ps∧Rs X.K (hid H1 (O.filter fun a=>decide (a ∉ O0))) O0 ps σ H O',⟨_,rfl,zW _,ps,O,h0,R1.rebase⟩,?_⟩
 rintro i m σ2 H2 ⟨rfl,hi2,ps2,O2,iv,R2⟩
 have seen:=R1.seen R2
 obtain ⟨y1,y2⟩:=Y H2 (seen.trans aD)
 by_cases hlt:i < xs.length
 ·obtain ⟨g1,g2⟩:=y1 i hlt
  refine .inr ⟨g1,fun σ' H'=>∃ps O',Iv (i+1) ps∧Rs X.K (hid H1 (O.filter fun a=>decide (a ∉ O0))) O0 ps σ' H' O',fun σ' H' z=>⟨xs.length - (i+1),by omega,rfl,hlt,z⟩,fun x H3 y=>?_⟩
  obtain ⟨rfl,u,hu,r⟩:=g2 x H3 y
  obtain ⟨ps',t,w⟩:=hs (hid H1 (O.filter fun a=>decide (a ∉ O0))) i u ps2 hu iv
  refine ⟨_,ps2,u,ps',t,O2,R2,r.same seen,fun σ' H' s' R'=>⟨_,_,ps',w,?_,O2,R'⟩⟩
  exact ⟨fun p σ H O R q=>⟨p,O,q,R⟩,fun p σ H O R q=>L.nx _ _ _ _ (R.unbase base) q,fun p σ H O R q=>⟨p,O,q,R⟩,fun o q=>(L.rt o q).later base⟩
 ·have e:i=xs.length:=by omega
  subst e
  exact .inl ⟨y2,L.nx _ _ _ _ (R2.unbase base) (hd ps2 iv)⟩
theorem tO (hp:Dp (model X.prog X.w) X.A X.env X.xe) (Iv:Nat→PSt→Prop) (m:Nat) (h0:Iv m ps)
  (hs:∀m ps,Iv m ps→∃b,Tt X H0 O0 ps c b∧(b=true→Ws X H0 O0 E body {D with nx:=fun p=>∃m',m' < m∧Iv m' p,ct:=fun p=>∃m',m' < m∧Iv m' p,bk:=D.nx } ps)∧(b=false→D.nx ps)):W1 X H0 O0 E (.While c body [] pos) D ps:=by
 have ht:PT X c fun σ H Q=>∃ps b,Tt X H0 O0 ps c b∧∃O,Rs X.K H0 O0 ps σ H O∧∀H',ax H H'→Q b H':=fun pins s σ H Q I ⟨ps,b,t,z⟩=>t pins s σ H Q I z
 have hb:PSs X body fun D' σ H=>∃D1 ps',Ws X H0 O0 E body D1 ps'∧Lf X.K H0 O0 E D1 D'∧∃O,Rs X.K H0 O0 ps' σ H O:=fun pins s σ H D' I ⟨D1,ps',w,z⟩=>w pins s σ H D' I z
 refine PS.mono (qh hp ht hb) fun D' σ H ⟨L,O,R⟩=>⟨fun m σ H=>∃ps O,Iv m ps∧Rs X.K H0 O0 ps σ H O,⟨m,ps,O,h0,R⟩,?_⟩
 rintro m σ2 H2 ⟨ps2,O2,iv,R2⟩
 obtain ⟨b,t,h1,h2⟩:=hs m ps2 iv
 refine ⟨ps2,b,t,O2,R2,fun H3 s3=>?_⟩
 cases b with
 |true=>
  refine pj ⟨fun σ H=>∃m',m' < m∧∃ps O,Iv m' ps∧Rs X.K H0 O0 ps σ H O,fun σ' H' z=>z,_,ps2,h1 rfl,?_,O2,R2.go s3⟩
  exact ⟨fun p σ H O R ⟨m',l,q⟩=>⟨m',l,p,O,q,R⟩,fun p σ H O R q=>L.nx _ _ _ _ R q,fun p σ H O R ⟨m',l,q⟩=>⟨m',l,p,O,q,R⟩,L.rt⟩
 |false=>exact oH (L.nx _ _ _ _ (R2.go s3) (h2 rfl))
def dM:List Nat→PSt→PSt
 |[],ps=>ps
 |i::is,ps=>dM is (ps.set i none)
theorem Rs.mask {K:yH}{H:Hp}{O:List Addr}:∀{is:List Nat}{ps:PSt}{σ:St},Rs K H0 O0 ps σ H O→Rs K H0 O0 (dM is ps) (L2.mask is σ) H O
 |[],ps,σ,R=>R
 |i::is,ps,σ,R=>Rs.mask (is:=is) (R.drop (i:=i) (o:=none))
theorem Rs.hide {K:yH}{σ:St}{H H':Hp}{O:List Addr}{l:Addr} (R:Rs K H0 O0 ps σ H O) (e:ax H H') (n:H l=none) (d:H' l≠none):Rs K H0 O0 ps σ H' (l::O):=by
 refine ⟨R.same.trans e,fun a ha=>yM _ (R.old a ha),fun a ha=>?_,fun a ha z=>?_,R.len,fun i s h=>?_,R.inj⟩
 ·rcases yP.mp ha with y |y
  ·subst y;exact .inr (R.same.free n)
  ·exact R.new a y
 ·rcases yP.mp ha with y |y
  ·subst y;exact d z
  ·exact R.dom a y (e.free z)
 ·obtain ⟨w,h1,h2⟩:=R.at_ i s h
  refine ⟨w,h1,?_⟩
  cases s with
  |val u=>exact Rp.same (bJ e n) h2
  |own ys=>
   obtain ⟨b,ws,k1,k2,k3,k4,k5⟩:=h2
   exact ⟨b,ws,k1,yM _ k2,k3,e _ _ k4,k5.same (bJ e n)⟩
  |pin z u=>exact ⟨h2.1,Rp.same (bJ e n) h2.2⟩
def GOk (g:TG) (K:yH) (is:List Nat) (f:PSt→U→PSt) (dom:U→Prop):Prop:=
 ∀(H0:Hp) (O0:List Addr) (ps:PSt) (σ:St) (H:Hp) (O:List Addr) (v:V) (u:U) (Q:St→Hp→Prop),dom u→Rs K H0 O0 ps σ H O→Rp K (hid H O) v u→
  (∀σ',Rs K H0 O0 (f ps u) σ' H O→(∀(n:Nat) (w:V),n ∉ is→σ[n]?=some (some w)→σ'[n]?=some (some w))→Q σ' H)→g v σ H Q
theorem bU {K:yH}{is:List Nat}{i:Nat} (h:i∈is):GOk (nA i) K is (fun ps u=>ps.set i (some (.val u))) fun _=>True:=fun H0 O0 ps σ H O v u Q _ R r q=>
 q _ (R.set r) fun n w hn e=>by rw[zI (fun z=>hn (by rw[←z];exact h))];exact e
theorem jo {is:List Nat}{g:TG}{f:PSt→U→PSt}{dom:U→Prop}{σ:St}{H1:Hp}{O:List Addr}{Q:VK}{J:It}{te:TE} (hg:GOk g X.K is f dom) (R1:Rs X.K H0 O0 ps σ H1 O) (Y:Yl X.K J (hid H1 O) xs) (hlen:ys.length=xs.length) (hz:xs.length≤sizeLine) (hdom:∀x∈xs,dom x)
  (hte:∀(i:Nat) (x y:U) (σ:St) (H:Hp) (O':List Addr) (Q:VK),xs[i]?=some x→ys[i]?=some y→Rs X.K H0 O0 (f (dM is ps) x) σ H O'→(∀v H',ax H H'→Rp X.K (hid H' O') v y→Q v H')→te σ H Q)
  (fin:∀a vs H',ax H1 H'→H1 a=none→H' a=some (.lst vs)→Rps X.K (hid H' (a::O)) vs ys→Q (.ref a) H'):uY is g te σ Q J H1:=by
 intro l hl
 refine ⟨fun i m H2=>m=xs.length - i∧i≤xs.length∧ax H1 H2∧∃vs,H2 l=some (.lst vs)∧vs.length=i∧Rps X.K (hid H2 (l::O)) vs (ys.take i),⟨_,rfl,zW _,aU hl _,[],aS,rfl,by rw[E5];exact .nil⟩,?_⟩
 rintro i m H2 ⟨rfl,hi,s2,vs,h2,hv,rs⟩
 have seen:ax (hid H1 O) (hid H2 (l::O)):=bJ s2 hl
 obtain ⟨y1,y2⟩:=Y H2 (seen.trans aD)
 by_cases hlt:i < xs.length
 ·obtain ⟨g1,g2⟩:=y1 i hlt
  refine .inr ⟨g1,fun x H3 y=>?_⟩
  obtain ⟨rfl,u,hu,r⟩:=g2 x H3 y
  have R2:=(R1.mask (is:=is)).hide s2 hl (by rw[h2];intro z;cases z)
  refine hg H0 O0 _ _ H3 (l::O) x u _ (hdom u (zi hu)) R2 (r.same seen) fun σ4 R4 keep=>?_
  have hy:ys[i]?=some (ys[i]'(by omega)):=yD _
  refine hte i u _ σ4 H3 (l::O) _ hu hy R4 fun v H5 s5 r5=>⟨fun j w e=>keep j w (eR is σ j w e).2 e,vs,s5 _ _ h2,?_,xs.length - (i+1),by omega,rfl,hlt,(s2.trans s5).put hl _,vs++[v],aS,by simp[hv],?_⟩
  ·rw[hv];omega
  ·rw[kz yV,Ce,hy]
   exact (rs.same (aI s5)).snoc (.cons r5 .nil)
 ·have e:i=xs.length:=by omega
  subst e
  rw[←hlen,BV] at rs
  exact .inl ⟨y2,fin l vs H2 s2 hl h2 rs⟩
theorem e7 {elt:Expr}{scope:Scope}{cl:List (Str×Addr)}{is:List Nat}{g:TG}{f:PSt→U→PSt}{dom:U→Prop} (hc:X.calm=true) (B:cU X scope cl is) (hi:EvI X H0 O0 ps tg iter xs) (hg:∀C s H fp,PG (aG X scope cl C s H fp) tg g) (gk:GOk g X.K is f dom)
  (hlen:ys.length=xs.length) (hz:xs.length≤sizeLine) (hdom:∀x∈xs,dom x) (he:∀C s H fp (i:Nat) (x y:U),xs[i]?=some x→ys[i]?=some y→Ev (aG X scope cl C s H fp) H0 O0 (f (dM is ps) x) elt y)
  (hs:∀x,Ab iter X.env x=pure x:=by intro _;rfl):EvN X H0 O0 ps (.ListComp elt [⟨tg,iter,[],0⟩] scope pos) ys:=by
 have hte:∀C s H fp,PE (aG X scope cl C s H fp) elt fun σ H Q=>∃i x y,xs[i]?=some x∧ys[i]?=some y∧∃O',Rs X.K H0 O0 (f (dM is ps) x) σ H O'∧∀v H',ax H H'→Rp X.K (hid H' O') v y→Q v H':=
  fun C s H fp pins s' σ H' Q I ⟨i,x,y,h1,h2,z⟩=>he C s H fp i x y h1 h2 pins s' σ H' Q I z
 refine PE.mono (uF hc B hi hg hte hs) fun σ H Q ⟨O,R,q⟩=>⟨O,R,fun J H1 s1 Y=>?_⟩
 exact jo gk (R.go s1) Y hlen hz hdom (fun i x y σ H O' Q h1 h2 R' z=>⟨i,x,y,h1,h2,O',R',z⟩) fun a vs H' s n h r=>q a vs H' (s1.trans s) (s1.free n) h r
end
def spU (K:yH) (spec:List U→Out→Prop):Sp:=fun vs H Q E=>∃us O o,(∀a∈O,H a≠none)∧Rps K (hid H O) vs us∧spec us o∧lU K H O Q E o
section
variable {X:Cx}{H0:Hp}{O0:List Addr}{E:XK}{ps ps':PSt}{D:PD}{s:Stmt}{ss body:List Stmt}{a b c e:Expr}{es:List Expr}{pos p:Pos}{u x y:U}{xs ys us:List U}{k:Bool}
 {CX:CXT}{n:Nat}{f C:Addr}{fd:zG}{pn:List Str}{spec:List U→Out→Prop}{nm:Str}
theorem ar (F:bD X.prog X.w X.K X.mg X.base CX n f fd pn (spU X.K spec)) (hr:dk n X.A) (hg:Gl X nm) (hm:X.mg nm=some (.ref f)) (hk:yZ X.K (.ref f)=true) (hb:bh X.K fd pn []) (hx:ja CX X E0)
  (ha:EvA X H0 O0 ps (e::es) us) (h:spec us (.val u)) (hdb:(nm==("__debug__":Str))=false:=by decide) (he:yW (e::es) X.env=(false,eval e X.env)::yW es X.env:=by rfl) (hpl:(C5 pos (yW es X.env)).any (·.1)=false:=by rfl):
  Ev X H0 O0 ps (.Call (.Name nm p) (e::es) [] pos) u:=
 PE.mono (oh F hr hg hm hk hb .nil hx ha hdb he hpl) fun σ H Q ⟨O,R,q⟩=>⟨O,R,fun vs H1 s1 r1=>by
  show spU X.K spec (vs++[]) H1 Q _
  rw[CB]
  exact ⟨us,O,.val u,(R.go s1).dom,r1,h,fun v H2 s2 r2=>q v H2 (s1.trans s2) r2⟩⟩
theorem fh (F:bD X.prog X.w X.K X.mg X.base CX n f fd pn (spU X.K spec)) (hr:dk n X.A) (hg:Gl X nm) (hm:X.mg nm=some (.ref f)) (hk:yZ X.K (.ref f)=true) (hb:bh X.K fd pn []) (hx:ja CX X E0)
  (ha:EvA X H0 O0 ps (e::es) us) (h:spec us (.new xs)) (hdb:(nm==("__debug__":Str))=false:=by decide) (he:yW (e::es) X.env=(false,eval e X.env)::yW es X.env:=by rfl) (hpl:(C5 pos (yW es X.env)).any (·.1)=false:=by rfl):
  EvN X H0 O0 ps (.Call (.Name nm p) (e::es) [] pos) xs:=
 PE.mono (oh F hr hg hm hk hb .nil hx ha hdb he hpl) fun σ H Q ⟨O,R,q⟩=>⟨O,R,fun vs H1 s1 r1=>by
  show spU X.K spec (vs++[]) H1 Q _
  rw[CB]
  exact ⟨us,O,.new xs,(R.go s1).dom,r1,h,fun a vs H2 s2 n2 h2 r2=>q a vs H2 (s1.trans s2) (s1.free n2) h2 r2⟩⟩
end
section
variable {P:yT}{w:World}{K:yH}{mg:Str→Option Value}{base:Heap}{N pn:List Str}{qual nm:Str}{scope:Scope}{f:Addr}{cd:Value}{A:zh}{outer:List Env}{s:yI}{H H0:Hp}{O0:List Addr}{E:XK}{D:PD}{ps:PSt}{u:U}
def fc (N:List Str) (us:List U):PSt:=us.map (fun u=>some (.val u))++GU (N.length - us.length) none
theorem bM {st:Stmt}{fd:zG}{k:Nat}{spec:List U→Out→Prop} (F:Fun K nm qual st f fd) (S:aF N pn (af st)) (len:∀us o,spec us o→us.length=pn.length)
  (hbody:∀(cdv:Value) (A:zh) (outer:List Env) (s:yI) (H:Hp) (E:XK) (O:List Addr) (us:List U) (o:Out),dk k (A.deeper (E3 qual (af st) s.heap.objs.size f cdv))→spec us o→
   Ws (kW (CXF P w) P w K mg base N qual (af st) f cdv A outer s H E) H O E (aA st) ⟨fun _=>o=.val .non,fun o'=>o'=o,fun _=>False,fun _=>False⟩ (fc N us)):bD P w K mg base (CXF P w) (k+1) f fd pn (spU K spec):=by
 refine F.okF S (fun vs H Q E h=>?_) fun cdv A outer s H vs Q E hr h=>?_
 ·obtain ⟨us,O,o,_,r,hsp,_⟩:=h
  rw[r.len];exact len us o hsp
 ·obtain ⟨us,O,o,d,r,hsp,q⟩:=h
  refine ⟨_,hbody cdv A outer s H E O us o hr hsp,⟨fun ps σ H' O' R e=>?_,fun _ _ _ _ _ e=>e.elim,fun _ _ _ _ _ e=>e.elim,fun o' e=>by subst e;exact q⟩,O,?_⟩
  ·subst e;exact q .non H' R.same .non
  ·refine ⟨.refl H,fun a h=>h,fun a h=>.inl h,d,?_,fun i sl e=>?_,fun i j xs ys a e1 e2 _ _=>?_⟩
   ·unfold start fc
    rw[zM,zM,yK,yK,By,By,r.len]
   ·unfold fc at e
    by_cases hi:i < us.length
    ·rw[zE (by simpa using hi),yN,yD hi] at e
     cases e
     obtain ⟨v,h1,h2⟩:=r.get (yD hi)
     refine ⟨v,?_,h2⟩
     unfold start
     rw[zE (by simpa [r.len] using hi),yN,h1];rfl
    ·rw[zm (by simpa using hi),Bi] at e
     split at e <;>cases e
   ·exfalso
    unfold fc at e1
    by_cases hi:i < us.length
    ·rw[zE (by simpa using hi),yN,yD hi] at e1
     cases e1
    ·rw[zm (by simpa using hi),Bi] at e1
     split at e1 <;>cases e1
end
section
variable {X:Cx}{H0:Hp}{O0:List Addr}{ps:PSt}{a b c e:Expr}{es rest:List Expr}{pos p p2:Pos}{u x y:U}{xs ys us:List U}{i j:Int}{k m:Bool}{lo hi:Option Expr}{l h:Option Int}
def EvO (X:Cx) (H0:Hp) (O0:List Addr) (ps:PSt) (e:Option Expr) (n:Option Int):Prop:=PO X e fun σ H Q=>∃O,Rs X.K H0 O0 ps σ H O∧∀H',ax H H'→Q n H'
theorem gh:EvO X H0 O0 ps none none:=fun pins s σ H Q I ⟨O,R,q⟩=>tq pins s σ H Q I (q H (.refl H))
theorem dc (he:Ev X H0 O0 ps e (.int i)):EvO X H0 O0 ps (some e) (some i):=fun pins s σ H Q I ⟨O,R,q⟩=>ug he pins s σ H Q I ⟨O,R,fun v H' s r=>by cases r;exact ⟨i,rfl,q H' s⟩⟩
def d9 (xs:List U) (lo hi:Option Int):List U:=(xs.drop (HT.sIx xs.length 0 lo)).take (HT.sIx xs.length xs.length hi - HT.sIx xs.length 0 lo)
theorem Rps.drop {K:yH}{H:Hp}{vs:List V}{xs:List U} (r:Rps K H vs xs) (n:Nat):Rps K H (vs.drop n) (xs.drop n):=⟨by simp[r.len],fun i v x h1 h2=>r.at_ _ v x (by rwa [B0] at h1) (by rwa [B0] at h2)⟩
theorem Rps.take {K:yH}{H:Hp}{vs:List V}{xs:List U} (r:Rps K H vs xs) (n:Nat):Rps K H (vs.take n) (xs.take n):=⟨by simp[r.len],fun i v x h1 h2=>by
 by_cases hn:i < n
 ·rw[BJ hn] at h1 h2
  exact r.at_ i v x h1 h2
 ·rw[List.getElem?_take_eq_none (by omega)] at h1
  cases h1⟩
theorem Rps.cut {K:yH}{H:Hp}{vs:List V}{xs:List U} (r:Rps K H vs xs):Rps K H (om vs l h) (d9 xs l h):=by
 unfold om d9
 rw[r.len]
 exact (r.drop _).take _
theorem cT (he:Ev X H0 O0 ps e x) (hl:EvO X H0 O0 ps lo l) (hh:EvO X H0 O0 ps hi h) (hx:x=.lst xs∨x=.scr xs):EvN X H0 O0 ps (.Subscript e (.Slice lo hi none p2) pos) (d9 xs l h):=
 PE.mono (rB uu he hl hh) fun σ H Q ⟨O,R,q⟩=>⟨O,R,fun v H1 s1 r1=>⟨O,R.go s1,fun H2 s2=>⟨O,R.go (s1.trans s2),fun H3 s3=>by
  have key:∃a vs,v=.ref a∧SqL X.K (hid H1 O) a vs∧Rps X.K (hid H1 O) vs xs:=by
   rcases hx with rfl |rfl
   ·cases r1 with
    |lst hq hl hh=>exact ⟨_,_,rfl,SqL.of hq,hl,hh⟩
   ·cases r1 with
    |scr hq hl hh=>exact ⟨_,_,rfl,hq,hl,hh⟩
  obtain ⟨a,vs,rfl,hq,rs⟩:=key
  have s13:=s2.trans s3
  refine ⟨a,vs,rfl,s13.seq (aD.seq hq),fun p hp=>q p _ _ ((s1.trans s13).trans (aU hp _)) ((s1.trans s13).free hp) aS ?_⟩
  exact (rs.cut.same (aI s13)).same (bJ (aU hp _) hp)⟩⟩⟩
theorem jD (ha:Ev X H0 O0 ps a (.lst xs)) (hb:Ev X H0 O0 ps b (.lst ys)) (hz:xs.length+ys.length≤sizeLine):EvN X H0 O0 ps (.BinOp a .Add b pos) (xs++ys):=
 PE.mono (pU wO ha hb) fun σ H Q ⟨O,R,q⟩=>two R (fun _ _ _ z=>z) (fun _ _ _ z=>z) fun v w H' s _ r1 r2=>by
  cases r1 with
  |lst hq hl hh=>
   cases r2 with
   |lst hq' hl' hh'=>
    refine ⟨_,_,_,_,rfl,rfl,aD _ _ hq,aD _ _ hq',by rw[hl,hl'];exact hz,fun p hp=>q p _ _ (s.trans (aU hp _)) (s.free hp) aS ?_⟩
    exact (Rps.snoc ⟨hl,hh⟩ ⟨hl',hh'⟩).same (bJ (aU hp _) hp)
def fl:U→V
 | .bl b=>.bl b | .int i=>.int i | .str x=>.str x |_=>.non
def qN:U→Bool
 | .bl _=>true | .int _=>true | .str _=>true | .non=>true |_=>false
theorem vq {K:yH}{H:Hp}{v:V}{u:U} (h:Rp K H v u) (f:qN u=true):v=fl u∧fN v=true:=by
 cases h <;>first |exact ⟨rfl,rfl⟩ |simp[qN] at f
theorem qP {K:yH}{H:Hp}:∀{vs:List V}{xs:List U},Rps K H vs xs→xs.all qN=true→vs=xs.map fl∧vs.all fN=true
 |vs,[],r,_=>by rw[r.nil_inv];exact ⟨rfl,rfl⟩
 |vs,x::xs,r,f=>by
  obtain ⟨v,ws,rfl,h1,h2⟩:=r.cons_inv
  simp only[Dh,Ac] at f
  obtain ⟨e1,e2⟩:=vq h1 f.1
  obtain ⟨e3,e4⟩:=qP h2 f.2
  refine ⟨by rw[Aa,←e1,←e3],?_⟩
  simp only[Dh,Ac]
  exact ⟨e2,e4⟩
theorem tJ (hx:qN x=true) (hy:y.items=some ys) (hf:ys.all qN=true):OpS X (AJ .In) x y (.bl (inV (fl x) (ys.map fl))):=by
 intro pins s σ H v w p q Q I r1 r2 h
 obtain ⟨k1,k2,k3⟩:=h
 obtain ⟨a,vs,rfl,h1,h2⟩:=j4 k2 hy
 obtain ⟨e1,e2⟩:=vq k1 hx
 obtain ⟨e3,e4⟩:=qP h2 hf
 exact ou pins s σ H v _ p q Q I r1 r2 ⟨a,vs,rfl,h1,e2,e4,by rw[e1,e3];exact k3⟩
theorem xx {bs:List Bool} (hc:X.calm=true):fK X (.builtin "all") [.lst (bs.map U.bl)] (.bl (bs.all id)):=by
 intro pins s σ H vs us Q I r hq
 obtain ⟨O,d,rs,q⟩:=hq
 obtain ⟨v,rfl,h1⟩:=dX rs
 obtain ⟨p1,rfl,r1⟩:=gA r
 cases h1 with
 | @lst a ws _ hq hl hh=>
  cases r1
  obtain ⟨its,rv,pl,_⟩:=I.list (SqL.of (aD _ _ hq))
  have hlen:its.length=bs.length:=by rw[←rv.length,hl,yK]
  have hat:∀(i:Nat) (z:Value),its.toArray[i]?=some z→z=.bool (bs.getD i false):=fun i z e=>by
   have hi:i < its.length:=by have:=aC (show its[i]?=some z by simpa using e);exact this
   have hb:i < bs.length:=by omega
   have hw:i < ws.length:=by rw[rv.length];exact hi
   obtain ⟨u,e1,e2⟩:=rv.get (yD hw)
   have e3:=hh i ws[i] (.bl bs[i]) (yD hw) (by rw[yN,yD hb];rfl)
   have e4:its[i]?=some z:=by simpa using e
   rw[e4] at e1
   cases e1
   generalize ws[i]=wi at *
   cases e3
   rw[yL,yD hb]
   exact e2
  refine call_all_walk (A8 pl.isList ?_)
  have hne:a≠s.heap.objs.size:=by obtain ⟨o,e,_⟩:=pl.isList;exact zb (yQ e)
  refine ⟨s.heap.objs.size,_,_,_,_,_,fun i=>bs.getD i false,rfl,Walks.list (A:=X.A.in1) (I.ok.hd hc) s.heap.objs.size a hne its.toArray,⟨⟨_,yR _ rfl,rfl,rfl⟩,pl.isList.push _⟩,fun i z s' Q' E' hP hQ=>?_,fun h' tk hk=>?_⟩
  ·rw[hat i z hP];exact Bk hQ
  ·have e:(zS its.toArray.size).all (fun i=>bs.getD i false)=bs.all id:=by
    rw[y_,hlen,Bd,jE,Ck]
    constructor
    ·intro h x hx
     obtain ⟨i,hi,rfl⟩:=List.getElem_of_mem hx
     have:=h i hi
     rwa [yL,yD hi] at this
    ·intro h j hj
     rw[yL,yD hj]
     exact h _ (Cm hj)
   rw[e]
   refine ⟨.bl _,H,I.kept (t':=tk) fun b o e=>hk b o ?_ (yG _ e),rfl,q _ H (.refl H) (.bl _)⟩
   intro z
   have:b=s.heap.objs.size:=by simpa using z
   exact absurd (yQ e) (by rw[this];exact zO _)
end
def pe (J:It) (is:List Nat) (g:TG) (tt:TT) (te:TE) (σ:St) (H1:Hp) (l:Addr) (Q:VK):Prop:=
 ∃W:Nat→Nat→Hp→Prop,(∃m,W 0 m (upd H1 l (.lst [])))∧∀i m H2,W i m H2→
  (J.stop i H2∧Q (.ref l) H2)∨(J.go i H2∧∀x H3,J.yld i H2 x H3→g x (mask is σ) H3 fun σ4 H4=>tt σ4 H4 fun b H5=>
   (∀(j:Nat) (v:V),(mask is σ)[j]?=some (some v)→σ4[j]?=some (some v))∧
   if b=true then te σ4 H5 fun y H6=>∃vs,H6 l=some (.lst vs)∧vs.length < sizeLine∧∃m',m' < m∧W (i+1) m' (upd H6 l (.lst (vs++[y]))) else ∃m',m' < m∧W (i+1) m' H5)
def pR (is:List Nat) (g:TG) (tt:TT) (te:TE) (σ:St) (Q:VK) (J:It) (H1:Hp):Prop:=∀l,H1 l=none→pe J is g tt te σ H1 l Q
def qO (is:List Nat) (wi:TI) (g:TG) (tt:TT) (te:TE):TE:=fun σ H Q=>wi σ H (pR is g tt te σ Q)
section
variable {X:Cx}{pins:List (Addr×Obj)}{σ:St}{H:Hp}{s:yI}
theorem pO {elt iter tg:Expr}{scope:Scope}{cl:List (Str×Addr)}{pos pos0:Pos}{is:List Nat}{wi:TI}{g:TG}{tt:TT}{te:TE}{cond:Expr}{use:Option (Value→Sem Unit)}{Q0:VK}{Q:Value→yI→Prop} (hc:X.calm=true) (B:cU X scope cl is)
  (hi:PI X tg iter wi) (hg:∀C s H fp,PG (aG X scope cl C s H fp) tg g) (ht:∀C s H fp,PT (aG X scope cl C s H fp) cond tt) (he:∀C s H fp,PE (aG X scope cl C s H fp) elt te) (hs:∀x,Ab iter X.env x=pure x)
  (I:Inv X pins σ H s) (h:qO is wi g tt te σ H Q0)
  (fin:∀(l C:Addr) (H':Hp) (s':yI) (m:Str→Option Value),Inv X pins σ H' s'→s'.heap.Ns C m→H' C=none→C≠X.env.locals→C ∉ X.fs→X.s₀.heap.objs.size≤C→(∀x c,X.env.cells.lookup x=some c→c≠C)→(∀p∈X.pn++pins,p.1≠C)→Q0 (.ref l) H'→
   Fp (model X.prog X.w) X.A X.xe use Q (.ref l) C (.ok .next) s'):
  wpAny (model X.prog X.w) X.A (comprehension (.ListComp elt [⟨tg,iter,[cond],0⟩] scope pos) scope X.env pos0 (newList []) false (eval iter X.env) use) Q X.xe s:=by
 refine Cv rfl hs B.clos B.kind B.names (thn (hi pins s σ H _ I h) fun xv s1 h1=>thn h1 fun itv s2 h2=>?_)
 obtain ⟨it,fp,tn,J,H2,e,I2,T,st2,f2,R⟩:=h2
 subst e
 refine A7 (Dg B.cell (by intro y hy;simp at hy) (fun h₁ hns hsb=>?_) B.kind)
 have hl:H2 s2.heap.objs.size=none:=I2.hok.fresh (yO _)
 obtain ⟨W,⟨m0,w0⟩,turn⟩:=R s2.heap.objs.size hl
 have I3:Inv X pins σ (upd H2 s2.heap.objs.size (.lst [])) {s2 with heap:=s2.heap.push {cls:=.type "list",dict:=none,data:=.seq ([]:List Value).toArray } }:=
  I2.laid (t':=s2.toks) (o:=.lst []) (fun b u e=>yG _ e) (yO _) ⟨zW _,[],0,.nil,yR _ rfl⟩
 have hfl:∀b∈fp,b < s2.heap.objs.size:=fun b hb=>let ⟨o,e,_⟩:=T.obj 0 _ st2 b hb;yQ e
 have f3:∀b∈fp,cR X pins (upd H2 s2.heap.objs.size (.lst [])) b:=fun b hb=>⟨by rw[aB (zb (hfl b hb))];exact (f2 b hb).1,(f2 b hb).2⟩
 have kp:∀b o,(s2.heap.push {cls:=.type "list",dict:=none,data:=.seq ([]:List Value).toArray }).get? b=some o→h₁.get? b=some o:=fun b o e=>
  hsb.extBut b o (zb (yQ e)) (yG _ e)
 have st4:tn 0 h₁:=T.keep 0 _ _ st2 fun b _ o e=>kp b o (yG _ e)
 have hfl3:∀b∈fp,b < (s2.heap.push {cls:=.type "list",dict:=none,data:=.seq ([]:List Value).toArray }).objs.size:=fun b hb=>by
  rw[z9];exact AE (hfl b hb)
 have I4:=hU (t':=s2.toks+([]:List (Str×Value)).length) I3 B f3 hfl3 hns kp
 have loop:CA (model X.prog X.w) X.A (.compLoop (.ListComp elt [⟨tg,iter,[cond],0⟩] scope pos) 0 (.ref it) (.ref s2.heap.objs.size) (Di scope cl (s2.heap.push {cls:=.type "list",dict:=none,data:=.seq ([]:List Value).toArray }).objs.size X.env))
   (Fp (model X.prog X.w) X.A X.xe use Q (.ref s2.heap.objs.size) (s2.heap.push {cls:=.type "list",dict:=none,data:=.seq ([]:List Value).toArray }).objs.size)
   {s2 with heap:=h₁,toks:=s2.toks+([]:List (Str×Value)).length }:=by
  generalize hs3:({s2 with heap:=s2.heap.push {cls:=.type "list",dict:=none,data:=.seq ([]:List Value).toArray } }:yI)=s3 at *
  have hC:(s2.heap.push {cls:=.type "list",dict:=none,data:=.seq ([]:List Value).toArray }).objs.size=s3.heap.objs.size:=by rw[←hs3]
  rw[hC]
  have hstat:∀{H':Hp},(∀b∈fp,H' b=none)→∀b∈fp,cR (aG X scope cl s3.heap.objs.size s3 (upd H2 s2.heap.objs.size (.lst [])) fp) [] H' b:=fun hn b hb=>
   ⟨hn b hb,(I4.ok.exf b hb).1,I4.ok.exfs b hb,.inl hb,fun x c e=>(I4.ok.exf b hb).2 x c e,fun p hp=>absurd (show p∈([]:List (Addr×Obj)) from hp) (by simp)⟩
  have back:∀{σ':St}{H':Hp}{pp:List (Addr×Obj)}{s':yI},Inv (aG X scope cl s3.heap.objs.size s3 (upd H2 s2.heap.objs.size (.lst [])) fp) pp σ' H' s'→Inv X pins σ H' s':=fun I'=>
   I3.call' (ch:=fp) I'.os I'.base I'.hok I'.bare fun b hb=>⟨(f3 b hb).2.2.2.1,(f3 b hb).2.1,(f3 b hb).2.2.2.2.1,(f3 b hb).2.2.2.2.2⟩
  refine FR rfl (fun n s'=>∃i H',Inv (aG X scope cl s3.heap.objs.size s3 (upd H2 s2.heap.objs.size (.lst [])) fp) [] (mask is σ) H' s'∧tn i s'.heap∧(∀b∈fp,H' b=none)∧W i n H') ?_ m0 ⟨0,_,(by subst hs3;exact I4),st4,fun b hb=>(f3 b hb).1,w0⟩
  rintro n s5 ⟨i,H5,I5,st5,fr5,w5⟩
  show wpAny _ _ ((compTurn (.ListComp elt [⟨tg,iter,[cond],0⟩] scope pos) 0 (.ref it) (.ref s2.heap.objs.size) (Di scope cl s3.heap.objs.size X.env)).onRaise (fun x=>do HG x (Di scope cl s3.heap.objs.size X.env);EB x)) _ _ s5
  refine Gq ?_
  rw[compTurn_list]
  refine yE (D5 (yE ?_))
  rcases turn i n H5 w5 with ⟨stop,q⟩ |⟨go,step⟩
  ·refine thn (T.done (aG X scope cl s3.heap.objs.size s3 (upd H2 s2.heap.objs.size (.lst [])) fp) rfl rfl rfl hc i [] s5 _ H5 _ I5 (hstat fr5) st5 stop) fun r s6 ⟨hr,I6⟩=>?_
   subst hr
   refine yJ ?_
   obtain ⟨m6,hn6,_⟩:=I6.loc
   have hCn:∀b,b < s3.heap.objs.size→b≠s3.heap.objs.size:=fun b hb=>zb hb
   refine fin _ s3.heap.objs.size H5 s6 m6 (back I6) hn6 I6.free (A4 I3.lt) (I3.nofs (yO _)) I3.sz (fun x c e=>?_) (fun p hp=>?_) q
   ·obtain ⟨v,z⟩:=I3.cell x c e
    exact zb z.lt
   ·exact zb (yQ (I3.pin p hp).1)
  ·refine thn (T.item (aG X scope cl s3.heap.objs.size s3 (upd H2 s2.heap.objs.size (.lst [])) fp) rfl rfl rfl hc i [] s5 _ H5 _ I5 (hstat fr5) st5 go) fun r s6 ⟨u,hr,h6⟩=>?_
   subst hr
   refine yE (thn h6 fun _ s7 ⟨x,H7,I7,r7,y7,st7,fr7⟩=>?_)
   have I7':=I7.pinned (hstat fr7) (T.obj _ _ st7)
   refine yE (AQ (hg _ _ _ _ _ s7 (mask is σ) H7 x u _ I7' r7 (step x H7 y7)) (fun _ s8 ⟨σ8,H8,I8,q8⟩=>?_) fun _ _ z=>z.elim)
   refine yE (wpAny_tests_one (AQ (ht _ _ _ _ _ s8 σ8 H8 _ I8 q8) (fun bb s9 ⟨H9,I9,sub,q9⟩=>?_) fun _ _ z=>z.elim))
   have fpn:∀{H':Hp}{s':yI}{σ':St},Inv (aG X scope cl s3.heap.objs.size s3 (upd H2 s2.heap.objs.size (.lst [])) fp) ([]++i0 fp s7.heap) σ' H' s'→tn (i+1) s'.heap∧∀b∈fp,H' b=none:=fun {H' s' σ'} J=>⟨T.keep _ _ _ st7 fun b hb o e=>(J.pin (b,o) (yS _ (yS _ (bq hb e)))).1,fun b hb=>by
    obtain ⟨o,e,d⟩:=T.obj _ _ st7 b hb
    exact (J.pin (b,o) (yS _ (yS _ (bq hb e)))).2.1⟩
   cases bb with
   |true=>
    rw[if_pos rfl] at q9
    simp only[if_true]
    refine yE (yE (AQ (he _ _ _ _ _ s9 σ8 H9 _ I9 q9) (fun v s10 ⟨y,H10,I10,r10,vs,hl10,hz,m',hm,w'⟩=>?_) fun _ _ z=>z.elim))
    refine yE (AQ (fF (X:=aG X scope cl s3.heap.objs.size s3 (upd H2 s2.heap.objs.size (.lst [])) fp) _ s10 σ8 H10 (.ref s2.heap.objs.size) [y] (.ref s2.heap.objs.size) [v] (fun _ H'=>H'=upd H10 s2.heap.objs.size (.lst (vs++[y]))) I10 rfl (.cons r10 .nil) ⟨_,vs,y,rfl,rfl,hl10,hz,rfl⟩) (fun z s11 ⟨zv,H11,I11,_,e11⟩=>?_) fun _ _ z=>z.elim)
    subst e11
    obtain ⟨k1,k2⟩:=fpn I11
    exact yJ (yJ ⟨rfl,m',hm,i+1,_,(I11.unpinned (pins:=[])).weak (by rw[I11.len,cM,I.len]) sub,k1,k2,w'⟩)
   |false=>
    rw[if_neg (by decide)] at q9
    simp only[yX,if_false]
    obtain ⟨m',hm,w'⟩:=q9
    obtain ⟨k1,k2⟩:=fpn I9
    first
     |exact yJ ⟨rfl,m',hm,i+1,_,(I9.unpinned (pins:=[])).weak (by rw[I9.len,cM,I.len]) sub,k1,k2,w'⟩
     |exact yE (yJ (yJ ⟨rfl,m',hm,i+1,_,(I9.unpinned (pins:=[])).weak (by rw[I9.len,cM,I.len]) sub,k1,k2,w'⟩))
 exact CM loop (T.self X.A 0 _ _ _ st4 loop)
theorem p6 {elt iter tg:Expr}{scope:Scope}{cl:List (Str×Addr)}{pos:Pos}{is:List Nat}{wi:TI}{g:TG}{tt:TT}{te:TE}{cond:Expr} (hc:X.calm=true) (B:cU X scope cl is)
  (hi:PI X tg iter wi) (hg:∀C s H fp,PG (aG X scope cl C s H fp) tg g) (ht:∀C s H fp,PT (aG X scope cl C s H fp) cond tt) (he:∀C s H fp,PE (aG X scope cl C s H fp) elt te) (hs:∀x,Ab iter X.env x=pure x:=by intro _;rfl):
  PE X (.ListComp elt [⟨tg,iter,[cond],0⟩] scope pos) (qO is wi g tt te):=by
 intro pins s σ H Q I h
 rw[Fq]
 refine pO (use:=none) hc B hi hg ht he hs I h fun l C H' s' m I' hn h1 h2 h3 h4 h5 h6 q=>⟨m,hn,fun h' hsb=>?_⟩
 exact ⟨.ref l,H',I'.turned (t':=s'.toks) (fun b o hb e=>hsb.extBut b o hb e) h1 (Ne.symm h2.symm) (.inr h4) h5 h6,rfl,q⟩
end
section
variable {X:Cx}{H0:Hp}{O0:List Addr}{E:XK}{ps ps':PSt}{D:PD}{tg iter cond:Expr}{pos p:Pos}{xs:List U}{fs:List (Option U)}
theorem mH {is:List Nat}{g:TG}{f:PSt→U→PSt}{dom:U→Prop}{σ:St}{H1:Hp}{O:List Addr}{Q:VK}{J:It}{tt:TT}{te:TE} (hg:GOk g X.K is f dom) (R1:Rs X.K H0 O0 ps σ H1 O) (Y:Yl X.K J (hid H1 O) xs) (hlen:fs.length=xs.length) (hz:xs.length≤sizeLine) (hdom:∀x∈xs,dom x)
  (htt:∀(i:Nat) (x:U) (o:Option U) (σ:St) (H:Hp) (O':List Addr) (Q:Bool→Hp→Prop),xs[i]?=some x→fs[i]?=some o→Rs X.K H0 O0 (f (dM is ps) x) σ H O'→(∀H',ax H H'→Q o.isSome H')→tt σ H Q)
  (hte:∀(i:Nat) (x y:U) (σ:St) (H:Hp) (O':List Addr) (Q:VK),xs[i]?=some x→fs[i]?=some (some y)→Rs X.K H0 O0 (f (dM is ps) x) σ H O'→(∀v H',ax H H'→Rp X.K (hid H' O') v y→Q v H')→te σ H Q)
  (fin:∀a vs H',ax H1 H'→H1 a=none→H' a=some (.lst vs)→Rps X.K (hid H' (a::O)) vs (fs.filterMap id)→Q (.ref a) H'):pR is g tt te σ Q J H1:=by
 intro l hl
 refine ⟨fun i m H2=>m=xs.length - i∧i≤xs.length∧ax H1 H2∧∃vs,H2 l=some (.lst vs)∧vs.length≤i∧Rps X.K (hid H2 (l::O)) vs ((fs.take i).filterMap id),⟨_,rfl,zW _,aU hl _,[],aS,yO _,by rw[E5];exact .nil⟩,?_⟩
 rintro i m H2 ⟨rfl,hi,s2,vs,h2,hv,rs⟩
 have seen:ax (hid H1 O) (hid H2 (l::O)):=bJ s2 hl
 obtain ⟨y1,y2⟩:=Y H2 (seen.trans aD)
 by_cases hlt:i < xs.length
 ·obtain ⟨g1,g2⟩:=y1 i hlt
  refine .inr ⟨g1,fun x H3 y=>?_⟩
  obtain ⟨rfl,u,hu,r⟩:=g2 x H3 y
  have R2:=(R1.mask (is:=is)).hide s2 hl (by rw[h2];intro z;cases z)
  refine hg H0 O0 _ _ H3 (l::O) x u _ (hdom u (zi hu)) R2 (r.same seen) fun σ4 R4 keep=>?_
  obtain ⟨o,ho⟩:∃o,fs[i]?=some o:=⟨_,yD (by omega)⟩
  refine htt i u o σ4 H3 (l::O) _ hu ho R4 fun H5 s5=>⟨fun j w e=>keep j w (eR is σ j w e).2 e,?_⟩
  cases o with
  |none=>
   refine oH ⟨xs.length - (i+1),by omega,rfl,hlt,s2.trans s5,vs,s5 _ _ h2,by omega,?_⟩
   rw[Ce,ho,Ft,EC]
   simpa using rs.same (aI s5)
  |some yv=>
   refine pj (hte i u yv σ4 H5 (l::O) _ hu ho (R4.go s5) fun v H6 s6 r6=>⟨vs,s6 _ _ (s5 _ _ h2),?_,xs.length - (i+1),by omega,rfl,hlt,((s2.trans s5).trans s6).put hl _,vs++[v],aS,by simp;omega,?_⟩)
   ·omega
   ·rw[kz yV,Ce,ho,Ft,EC]
    exact ((rs.same (aI s5)).same (aI s6)).snoc (.cons r6 .nil)
 ·have e:i=xs.length:=by omega
  subst e
  rw[←hlen,BV] at rs
  exact .inl ⟨y2,fin l vs H2 s2 hl h2 rs⟩
theorem nF {elt:Expr}{scope:Scope}{cl:List (Str×Addr)}{is:List Nat}{g:TG}{f:PSt→U→PSt}{dom:U→Prop} (fs:List (Option U)) (hc:X.calm=true) (B:cU X scope cl is) (hi:EvI X H0 O0 ps tg iter xs) (hg:∀C s H fp,PG (aG X scope cl C s H fp) tg g) (gk:GOk g X.K is f dom)
  (hlen:fs.length=xs.length) (hz:xs.length≤sizeLine) (hdom:∀x∈xs,dom x) (ht:∀C s H fp (i:Nat) (x:U) (o:Option U),xs[i]?=some x→fs[i]?=some o→Tt (aG X scope cl C s H fp) H0 O0 (f (dM is ps) x) cond o.isSome)
  (he:∀C s H fp (i:Nat) (x y:U),xs[i]?=some x→fs[i]?=some (some y)→Ev (aG X scope cl C s H fp) H0 O0 (f (dM is ps) x) elt y)
  (hs:∀x,Ab iter X.env x=pure x:=by intro _;rfl):EvN X H0 O0 ps (.ListComp elt [⟨tg,iter,[cond],0⟩] scope pos) (fs.filterMap id):=by
 have hte:∀C s H fp,PE (aG X scope cl C s H fp) elt fun σ H Q=>∃i x y,xs[i]?=some x∧fs[i]?=some (some y)∧∃O',Rs X.K H0 O0 (f (dM is ps) x) σ H O'∧∀v H',ax H H'→Rp X.K (hid H' O') v y→Q v H':=
  fun C s H fp pins s' σ H' Q I ⟨i,x,y,h1,h2,z⟩=>he C s H fp i x y h1 h2 pins s' σ H' Q I z
 have htt:∀C s H fp,PT (aG X scope cl C s H fp) cond fun σ H Q=>∃(i:Nat) (x:U) (o:Option U),xs[i]?=some x∧fs[i]?=some o∧∃O',Rs X.K H0 O0 (f (dM is ps) x) σ H O'∧∀H',ax H H'→Q o.isSome H':=
  fun C s H fp pins s' σ H' Q I ⟨i,x,o,h1,h2,z⟩=>ht C s H fp i x o h1 h2 pins s' σ H' Q I z
 refine PE.mono (p6 hc B hi hg htt hte hs) fun σ H Q ⟨O,R,q⟩=>⟨O,R,fun J H1 s1 Y=>?_⟩
 exact mH gk (R.go s1) Y hlen hz hdom (fun i x o σ H O' Q h1 h2 R' z=>⟨i,x,o,h1,h2,O',R',z⟩) (fun i x y σ H O' Q h1 h2 R' z=>⟨i,x,y,h1,h2,O',R',z⟩) fun a vs H' s n h r=>q a vs H' (s1.trans s) (s1.free n) h r
end
inductive wF:List (Option Expr)→List Expr→Prop where
 |nil:wF [] []
 |cons {k v:Int}{a b:Nat}{p q:Pos}{ks:List (Option Expr)}{vs:List Expr} (h:wF ks vs):wF (some (.Constant (.int k) a p)::ks) (.Constant (.int v) b q::vs)
section
variable {X:Cx}{H0:Hp}{O0:List Addr}{ps:PSt}{pos:Pos}{keys:List (Option Expr)}{values:List Expr}{k m:Bool}
end
theorem Ws.nox {X:Cx}{H0:Hp}{O0:List Addr}{E:XK}{ss:List Stmt}{D:PD}{ps:PSt} (h:Ws X.nox H0 O0 E ss D ps):Ws X H0 O0 E ss D ps:=PSs.nox h
theorem bD.calm {P:yT}{w:World}{K:yH}{mg:Str→Option Value}{base:Heap}{k:Nat}{f:Addr}{fd:zG}{ps:List Str}{sp:Sp} (F:bD P w K mg base (CXF P w) k f fd ps sp) (h:∀vs H Q E,sp vs H Q E→sp vs H Q E0):bD P w K mg base CX0 k f fd ps sp:=by
 refine ⟨F.len,fun A outer s H args us vs Q E hr he hb hv hs=>C7 (F.run A outer s H args us vs Q E0 hr he hb hv (h _ _ _ _ hs)) fun r s' q=>?_⟩
 cases r with
 |ok fl=>
  cases fl with
  |ret u=>exact q
  |next=>exact q
  |brk=>exact q
  |cont=>exact q
 |error e=>
  obtain ⟨_,_,_,_,_,_,_,_,_,_,_,_,_,_,_,hE⟩:=q
  exact hE.elim
def gs:List U→Out→Prop:=fun us o=>∃ns:List Int,us=[.scr (ns.map U.int)]∧ns.length≤63∧(∀m∈ns,Sz 1048576 m)∧o=.val (.bl true)
theorem qG {K:yH} (vs:List V) (H:Hp) (Q:VK) (E:XK) (h:spU K gs vs H Q E):spU K gs vs H Q E0:=by
 obtain ⟨us,O,o,d,r,⟨ns,h1,h2,h3,rfl⟩,q⟩:=h
 exact ⟨us,O,_,d,r,⟨ns,h1,h2,h3,rfl⟩,q⟩
theorem o4 {K:yH}{H:Hp}{a:Addr}{ns:List Int}{E:XK} (h1:ns.length≤63) (h2:∀m∈ns,Sz 1048576 m) (h3:SqL K H a (ns.map V.int)):spU K gs [.ref a] H (fun v _=>v=.bl true) E:=by
 refine ⟨[.scr (ns.map U.int)],[],.val (.bl true),fun a ha=>(nomatch ha),.cons ?_ .nil,⟨ns,rfl,h1,h2,rfl⟩,fun v H' s r=>by cases r;rfl⟩
 have e:hid H []=H:=by funext b;unfold hid;rw[if_neg (by simp)]
 rw[e]
 refine .scr h3 (by simp) fun i v x e1 e2=>?_
 rw[yN] at e1 e2
 cases q:ns[i]? with
 |none=>rw[q] at e1;cases e1
 |some n=>rw[q] at e1 e2;cases e1;cases e2;exact .int n
theorem jh {k:Nat}{A:zh} (hr:dk k A):A.units+10 < cLine:=by have:=hr.un;omega
theorem iB {ns:List Int}{k:Int} (h0:0≤k) (h:k < (ns.length:Int)):atI (ns.map U.int) k=some (.int (ns.getD k.toNat 0)):=by
 have hk:k.toNat < ns.length:=by omega
 have q:atI (ns.map U.int) ((k.toNat:Nat):Int)=some (.int (ns.getD k.toNat 0)):=nX (by rw[yN,yL,yD hk] <;>rfl)
 rwa [show ((k.toNat:Nat):Int)=k by omega] at q
theorem ko {ns:List Int} (h:∀m∈ns,Sz 1048576 m) (i:Nat):Sz 1048576 (ns.getD i 0):=by
 by_cases hk:i < ns.length
 ·rw[yL,yD hk,Cj];exact h _ (Cm hk)
 ·rw[yL,zN (by omega),Ed];exact Sz.mono (m:=8) (by decide) (by decide)
abbrev pt (x y:Int):U:=.tup [.int x,.int y]
theorem dTb {p:Prop} [Decidable p] (h:decide p=true):p:=of_decide_eq_true h
theorem dFb {p:Prop} [Decidable p] (h:decide p=false):¬ p:=of_decide_eq_false h
theorem nTb {p:Prop} [Decidable p] (h:(!decide p)=true):¬ p:=by simpa using h
theorem nFb {p:Prop} [Decidable p] (h:(!decide p)=false):p:=by simpa using h
theorem vB {a b:Bool} (h:a=b):Out.val (.bl a)=Out.val (.bl b):=by rw[h]
theorem vIO {a b:Int} (h:a=b):Out.val (.int a)=Out.val (.int b):=by rw[h]
mutual
theorem kJ:∀(n:Nat) (u:U),okU n u=true→eqW u u=true
 |_,.non,_=>rfl
 |_,.bl b,_=>by simp[eqW]
 |_,.int b,_=>by simp[eqW]
 |_,.str b,_=>by simp[eqW]
 |_,.ty _,h=>by simp[okU] at h
 |_,.dic,h=>by simp[okU] at h
 |0,.tup _,h=>by simp[okU] at h
 |0,.lst _,h=>by simp[okU] at h
 |0,.scr _,h=>by simp[okU] at h
 |n+1,.tup xs,h=>by rw[eqW];rw[okU] at h;exact eqWs_refl n xs h
 |n+1,.lst xs,h=>by rw[eqW];rw[okU] at h;exact eqWs_refl n xs h
 |n+1,.scr xs,h=>by rw[eqW];rw[okU] at h;exact eqWs_refl n xs h
theorem eqWs_refl:∀(n:Nat) (xs:List U),okUs n xs=true→eqWs xs xs=true
 |_,[],_=>rfl
 |n,x::xs,h=>by
  simp only[okUs,Ac] at h
  simp only[eqWs,Ac]
  exact ⟨kJ n x h.1,eqWs_refl n xs h.2⟩
end
theorem qw {α:Type}{n:Nat}{f:α→U}{l:List α} (h:∀a∈l,okU n (f a)=true):okUs n (l.map f)=true:=by
 induction l with
 |nil=>rfl
 |cons a l ih=>
  rw[Aa,okUs,Ac]
  exact ⟨h a yV,ih fun b hb=>h b (yM _ hb)⟩
theorem rV {α:Type}{n:Nat}{f:α→U}{l:List α} (h:∀a,okU n (f a)=true):okU (n+1) (.lst (l.map f))=true:=by rw[okU];exact qw fun a _=>h a
theorem lC {α:Type}{f:α→U}{p:α→α→Prop} [DecidableEq α] (hf:∀a b,eqW (f a) (f b)=decide (a=b)):∀(l m:List α),eqWs (l.map f) (m.map f)=decide (l=m)
 |[],[]=>rfl
 |[],_::_=>rfl
 |_::_,[]=>rfl
 |a::l,b::m=>by
  rw[Aa,Aa,eqWs,hf,lC (p:=p) hf l m,Bd]
  simp
section
variable {X:Cx}{H0:Hp}{O0:List Addr}{E:XK}{ps:PSt}{D:PD}{a b c e:Expr}{rest:List Expr}{pos:Pos}{k:Bool}
theorem jQ {tb fb:List Stmt} (hc:Tt X H0 O0 ps c k) (hk:k=true) (h:Ws X H0 O0 E tb D ps):W1 X H0 O0 E (.If c tb fb pos) D ps:=lc hc (fun _=>h) (fun e=>by rw[hk] at e;cases e)
theorem cq {tb fb:List Stmt} (hc:Tt X H0 O0 ps c k) (hk:k=false) (h:Ws X H0 O0 E fb D ps):W1 X H0 O0 E (.If c tb fb pos) D ps:=lc hc (fun e=>by rw[hk] at e;cases e) (fun _=>h)
theorem j0 (ha:Tt X H0 O0 ps a k) (hk:k=false):Tw X H0 O0 ps (.BoolOp .And (a::b::rest) pos) false:=by
 subst hk
 exact qo (m:=true) ha fun h=>by cases h
end
section
variable {X:Cx}{H0:Hp}{O0:List Addr}{E:XK}{ps:PSt}{D:PD}{body:List Stmt}{tg iter c:Expr}{pos:Pos}{xs:List U}{α:Type}
theorem TgS.sub {p p':PSt}{u:U}{ps':PSt} (h:TgS X H0 O0 tg p u ps') (hs:SubP p p'):TgS X H0 O0 tg p' u ps':=PG.mono h fun v σ H Q ⟨O,R,r,q⟩=>⟨O,R.sub hs,r,q⟩
theorem Tt.sub {p p':PSt}{e:Expr}{k:Bool} (h:Tt X H0 O0 p e k) (hs:SubP p p'):Tt X H0 O0 p' e k:=PT.mono h fun σ H Q ⟨O,R,q⟩=>⟨O,R.sub hs,q⟩
theorem i8 (st:α→PSt) (Q:Nat→α→Prop) (hc:X.calm=true) (hp:Dp (model X.prog X.w) X.A X.env X.xe) (hi:EvI X H0 O0 ps tg iter xs) (h0:∃a,Q 0 a∧SubP (st a) ps)
  (hs:∀(H0:Hp) (i:Nat) (x:U) (a:α),xs[i]?=some x→Q i a→∃ps',TgS X H0 O0 tg (st a) x ps'∧Ws X H0 O0 E body {D with nx:=fun p=>∃b,Q (i+1) b∧SubP (st b) p,ct:=fun p=>∃b,Q (i+1) b∧SubP (st b) p,bk:=D.nx } ps')
  (hd:∀a ps,Q xs.length a→SubP (st a) ps→D.nx ps) (hf:∀x,Ab iter X.env x=pure x:=by intro _;rfl):W1 X H0 O0 E (.For tg iter body [] pos) D ps:=
 xR hc hp hi (fun i ps=>∃a,Q i a∧SubP (st a) ps) h0 (fun H0 i x ps hx ⟨a,q,sb⟩=>by
  obtain ⟨ps',t,w⟩:=hs H0 i x a hx q
  exact ⟨ps',t.sub sb,w⟩) (fun ps ⟨a,q,sb⟩=>hd a ps q sb) hf
theorem iN (st:α→PSt) (Q:Nat→α→Prop) (hp:Dp (model X.prog X.w) X.A X.env X.xe) (h0:∃m a,Q m a∧SubP (st a) ps)
  (hs:∀m a,Q m a→∃b,Tt X H0 O0 (st a) c b∧(b=true→Ws X H0 O0 E body {D with nx:=fun p=>∃m' a',m' < m∧Q m' a'∧SubP (st a') p,ct:=fun p=>∃m' a',m' < m∧Q m' a'∧SubP (st a') p,bk:=D.nx } (st a))∧(b=false→∀ps,SubP (st a) ps→D.nx ps)):W1 X H0 O0 E (.While c body [] pos) D ps:=by
 obtain ⟨m,a,q,sb⟩:=h0
 refine tO hp (fun m ps=>∃a,Q m a∧SubP (st a) ps) m ⟨a,q,sb⟩ fun m ps ⟨a,q,sb⟩=>?_
 obtain ⟨b,t,h1,h2⟩:=hs m a q
 refine ⟨b,t.sub sb,fun e=>?_,fun e=>h2 e ps sb⟩
 refine d7 (PSs.mono (h1 e) fun D' σ H ⟨L,O,R⟩=>⟨⟨fun p σ H O R ⟨m',a',l,q',sb'⟩=>L.nx p σ H O R ⟨m',l,a',q',sb'⟩,L.bk,fun p σ H O R ⟨m',a',l,q',sb'⟩=>L.ct p σ H O R ⟨m',l,a',q',sb'⟩,L.rt⟩,O,R⟩) sb
end
abbrev P2:=Int×Int
abbrev pu (p:P2):U:=.tup [.int p.1,.int p.2]
abbrev lp (l:List P2):U:=.lst (l.map pu)
theorem wA (p q:P2):eqW (pu p) (pu q)=decide (p=q):=by
 obtain ⟨a,b⟩:=p
 obtain ⟨c,d⟩:=q
 simp only[pu,eqW,eqWs,Fs]
 rw[Bd];simp
theorem qV (l m:List P2):eqW (lp l) (lp m)=decide (l=m):=by rw[lp,lp,eqW];exact lC (p:=fun _ _=>True) wA l m
theorem jp (l:List P2):okU 9 (lp l)=true:=rV fun _=>rfl
theorem qd {l:List P2}{i:Nat}{x:U} (h:(l.map pu)[i]?=some x):∃p,l[i]?=some p∧p∈l∧x=pu p:=by
 rw[yN] at h
 cases q:l[i]? with
 |none=>rw[q] at h;cases h
 |some p=>rw[q] at h;cases h;exact ⟨p,rfl,zi q,rfl⟩
theorem gr {α:Type}{l:List α}{f:α→U}{g:α→U}{i:Nat}{x y:U} (hx:(l.map f)[i]?=some x) (hy:(l.map g)[i]?=some y):∃a,l[i]?=some a∧a∈l∧x=f a∧y=g a:=by
 rw[yN] at hx hy
 cases q:l[i]? with
 |none=>rw[q] at hx;cases hx
 |some p=>rw[q] at hx hy;cases hx;cases hy;exact ⟨p,rfl,zi q,rfl,rfl⟩
theorem W1.mono {X:Cx}{H0:Hp}{O0:List Addr}{E:XK}{s:Stmt}{D:PD}{J:PSt→Prop}{ps:PSt} (h:W1 X H0 O0 E s {D with nx:=J } ps) (m:∀ps,J ps→D.nx ps):W1 X H0 O0 E s D ps:=
 PS.mono h fun D' σ H ⟨L,O,R⟩=>⟨⟨fun p σ H O R q=>L.nx p σ H O R (m p q),L.bk,L.ct,L.rt⟩,O,R⟩
theorem gL {X:Cx}{H0:Hp}{O0:List Addr}{E:XK}{s:Stmt}{ss:List Stmt}{D:PD}{ps:PSt} (J:PSt→Prop) (h1:W1 X H0 O0 E s {D with nx:=J } ps) (h2:∀ps,J ps→Ws X H0 O0 E ss D ps):Ws X H0 O0 E (s::ss) D ps:=
 ae (W1.mono (J:=J) (D:={D with nx:=fun p=>Ws X H0 O0 E ss D p }) h1 h2)
end L2
namespace PySem.W
open PySem PySem.Spec PySem.Calls PyProof.Rows
end PySem.W
namespace L2
open PySem PySem.Spec PySem.W PyProof.Rows
section
variable {X:Cx}{pins:List (Addr×Obj)}{σ:St}{H:Hp}{s:yI}
end
section
variable {X:Cx}
def ka.drop (D:ka) (i:Nat):ka:=⟨fun σ H=>D.nx (σ.set i none) H,D.rt,fun σ H=>D.bk (σ.set i none) H,fun σ H=>D.ct (σ.set i none) H⟩
end
section
variable {X:Cx}{H0:Hp}{O0:List Addr}{E:XK}{ps:PSt}{D:PD}{a e:Expr}{es:List Expr}{us:List U}{k:Bool}{n:Nat}{fd:zG}{pn:List Str}{spec:List U→Out→Prop}
def PD.drop (D:PD) (i:Nat):PD:=⟨fun p=>D.nx (p.set i none),D.rt,fun p=>D.bk (p.set i none),fun p=>D.ct (p.set i none)⟩
end
section
variable {X:Cx}{H0:Hp}{O0:List Addr}{ps:PSt}{pos:Pos}
end
end L2
namespace L2
open PySem
theorem au {c:Const}{j:Nat}{pos:Pos}{es:List Expr}{env:Env}:yW (.Constant c j pos::es) env=(false,eval (.Constant c j pos) env)::yW es env:=by rw[yW];intro e p h;cases h
theorem ce {l:List Expr}{j:Nat}{pos:Pos}{es:List Expr}{env:Env}:yW (.Tuple l j pos::es) env=(false,eval (.Tuple l j pos) env)::yW es env:=by rw[yW];intro e p h;cases h
theorem p5 {l:List Expr}{pos:Pos}{es:List Expr}{env:Env}:yW (.List l pos::es) env=(false,eval (.List l pos) env)::yW es env:=by rw[yW];intro e p h;cases h
theorem i6 {o:UnaryOp}{a:Expr}{pos:Pos}{es:List Expr}{env:Env}:yW (.UnaryOp o a pos::es) env=(false,eval (.UnaryOp o a pos) env)::yW es env:=by rw[yW];intro e p h;cases h
theorem bu {a b:Expr}{o:Hu}{pos:Pos}{es:List Expr}{env:Env}:yW (.BinOp a o b pos::es) env=(false,eval (.BinOp a o b pos) env)::yW es env:=by rw[yW];intro e p h;cases h
theorem ag {x:Str}{pos:Pos}{es:List Expr}{env:Env}:yW (.Name x pos::es) env=(false,eval (.Name x pos) env)::yW es env:=by rw[yW];intro e p h;cases h
theorem bI {a b:Expr}{pos:Pos}{es:List Expr}{env:Env}:yW (.Subscript a b pos::es) env=(false,eval (.Subscript a b pos) env)::yW es env:=by rw[yW];intro e p h;cases h
theorem cD {f:Expr}{a:List Expr}{k:List Gm}{pos:Pos}{es:List Expr}{env:Env}:yW (.Call f a k pos::es) env=(false,eval (.Call f a k pos) env)::yW es env:=by rw[yW];intro e p h;cases h
theorem sk {a:Expr}{o:List CmpOp}{c:List Expr}{pos:Pos}{es:List Expr}{env:Env}:yW (.Compare a o c pos::es) env=(false,eval (.Compare a o c pos) env)::yW es env:=by rw[yW];intro e p h;cases h
theorem dr {e:Expr}{g:List Comprehension}{sc:Scope}{pos:Pos}{es:List Expr}{env:Env}:yW (.ListComp e g sc pos::es) env=(false,eval (.ListComp e g sc pos) env)::yW es env:=by rw[yW];intro e p h;cases h
structure EvS (X:Cx) (H0:Hp) (O0:List Addr) (ps:PSt) (es:List Expr) (us:List U):Prop where
 a:EvA X H0 O0 ps es us
section
variable {X:Cx}{H0:Hp}{O0:List Addr}{ps:PSt}{e:Expr}{es:List Expr}{u:U}{us:List U}{pos:Pos}
theorem be:EvS X H0 O0 ps [] []:=⟨ao⟩
theorem aj (ha:Ev X H0 O0 ps e u) (hr:EvS X H0 O0 ps es us) (hs:yW (e::es) X.env=(false,eval e X.env)::yW es X.env):EvS X H0 O0 ps (e::es) (u::us):=⟨ac ha hr.a hs⟩
theorem aY {x1} (h:EvS X H0 O0 ps es us) (hz:us.length≤sizeLine:=by first |decide | (simp only[zH,CF];decide)):Ev X H0 O0 ps (.Tuple es x1 pos) (.tup us):=xP h.a hz
theorem gK (h:EvS X H0 O0 ps es us) (hz:us.length≤sizeLine:=by first |decide | (simp only[zH,CF];decide)):EvN X H0 O0 ps (.List es pos) us:=xE h.a hz
end
end L2
namespace ST
open PySem PySem.SetTable
def Ris (xs:Array Nat):Prop:=∀(i j x y:Nat),i < j→xs[i]?=some x→xs[j]?=some y→x < y
theorem Ris.inj {xs:Array Nat} (h:Ris xs) {i j x:Nat} (h1:xs[i]?=some x) (h2:xs[j]?=some x):i=j:=by
 rcases AR i j with z |z |z
 ·exact absurd (h i j x x z h1 h2) (zO _)
 ·exact z
 ·exact absurd (h j i x x z h2 h1) (zO _)
theorem dl {xs:Array Nat}{i:Nat} (h:i < xs.size):xs[i]?=some xs[i]:=by simp[h]
theorem n9 {xs:Array Nat}{i x:Nat} (h:xs[i]?=some x):i < xs.size:=(Bv.mp h).1
theorem ki {xs:Array Nat} (R:Ris xs) (j:Nat):∀(fuel lo hi:Nat),lo≤hi→hi≤xs.size→hi - lo≤fuel→(∀(i x:Nat),i < lo→xs[i]?=some x→x < j)→(∀(i x:Nat),hi≤i→xs[i]?=some x→j≤x)→
  (∀(i x:Nat),i < below.go xs j fuel lo hi→xs[i]?=some x→x < j)∧(∀(i x:Nat),below.go xs j fuel lo hi≤i→xs[i]?=some x→j≤x)∧below.go xs j fuel lo hi≤xs.size
 |0,lo,hi,h1,h2,h3,h4,h5=>by
  have e:lo=hi:=by omega
  subst e
  rw[below.go]
  exact ⟨h4,h5,h2⟩
 |fuel+1,lo,hi,h1,h2,h3,h4,h5=>by
  rw[below.go]
  by_cases hlt:lo < hi
  ·rw[if_pos hlt]
   have hm:(lo+hi) / 2 < xs.size:=by omega
   have e:xs.getD ((lo+hi) / 2) j=xs[(lo+hi) / 2]:=by simp[A9,hm]
   simp only[e]
   split
   ·rename_i hl
    refine ki R j fuel _ hi (by omega) h2 (by omega) (fun i x hi' hx=>?_) h5
    rcases zD (show i≤(lo+hi) / 2 by omega) with z |z
    ·exact ED (R i _ x _ z hx (dl hm)) hl
    ·subst z;rw[dl hm] at hx;cases hx;exact hl
   ·rename_i hl
    refine ki R j fuel lo _ (by omega) (by omega) (by omega) h4 (fun i x hi' hx=>?_)
    rcases zD hi' with z |z
    ·exact AH (Ci hl) (Af (R _ i _ x z (dl hm) hx))
    ·subst z;rw[dl hm] at hx;cases hx;exact Ci hl
  ·rw[if_neg hlt]
   have e:lo=hi:=by omega
   subst e
   exact ⟨h4,h5,h2⟩
theorem dU {xs:Array Nat} (R:Ris xs) (j:Nat):(∀(i x:Nat),i < below xs j→xs[i]?=some x→x < j)∧(∀(i x:Nat),below xs j≤i→xs[i]?=some x→j≤x)∧below xs j≤xs.size:=
 ki R j xs.size 0 xs.size (zW _) (yO _) (by omega) (fun i x h=>absurd h (Gr _)) (fun i x h e=>absurd (n9 e) (by omega))
theorem pY {xs:Array Nat} (R:Ris xs) {i j:Nat} (h:xs[i]?=some j):below xs j=i:=by
 obtain ⟨h1,h2,h3⟩:=dU R j
 rcases AR (below xs j) i with z |z |z
 ·have hk:below xs j < xs.size:=ED z (n9 h)
  have:=h2 _ _ (yO _) (dl hk)
  have:=R _ _ _ _ z (dl hk) h
  omega
 ·exact z
 ·have:=h1 i j z h
  omega
theorem jt {t:SetTable} (R:Ris t.place) {i j:Nat} (h:t.place[i]?=some j):t.slot j=.live i:=by
 unfold SetTable.slot
 simp only[pY R h,h,beq_self_eq_true,if_true]
theorem o5 {t:SetTable} (hd:t.dummies=#[]) {j:Nat} (h:∀i:Nat,t.place[i]?≠some j):t.slot j=.empty:=by
 unfold SetTable.slot
 have e:(t.place[below t.place j]?==some j)=false:=by simpa using h _
 simp only[e,hd]
 simp[SetTable.has]
theorem mI {t:SetTable} (R:Ris t.place) (hd:t.dummies=#[]) (j:Nat):(t.slot j=.empty∧∀i:Nat,t.place[i]?≠some j)∨∃i:Nat,t.slot j=.live i∧t.place[i]?=some j:=by
 by_cases h:∃i:Nat,t.place[i]?=some j
 ·obtain ⟨i,hi⟩:=h
  exact .inr ⟨i,jt R hi,hi⟩
 ·exact .inl ⟨o5 hd fun i e=>h ⟨i,e⟩,fun i e=>h ⟨i,e⟩⟩
theorem oJ {xs:Array Nat} (R:Ris xs) {mask:Nat} (hn:xs.size≤mask):∃s,s≤mask∧∀i:Nat,xs[i]?≠some s:=by
 apply AK
 intro hno
 have all:∀s,s≤mask→∃i:Nat,xs[i]?=some s:=fun s hs=>by
  apply AK
  intro h
  exact hno ⟨s,hs,fun i e=>h ⟨i,e⟩⟩
 have key:∀s,s≤mask→∃i:Nat,xs[i]?=some s∧s≤i:=by
  intro s
  induction s with
  |zero=>intro h;obtain ⟨i,hi⟩:=all 0 h;exact ⟨i,hi,zW _⟩
  |succ s ih=>
   intro h
   obtain ⟨i,hi,hle⟩:=ih (by omega)
   obtain ⟨k,hk⟩:=all (s+1) h
   refine ⟨k,hk,?_⟩
   rcases AR i k with z |z |z
   ·omega
   ·subst z;rw[hi] at hk;cases hk
   ·have:=R k i _ _ z hk hi;omega
 obtain ⟨i,hi,hle⟩:=key mask (yO _)
 have:=n9 hi
 omega
def adv (mask:Nat) (p:Probe):Probe:=
 if p.more >0 then {p with j:=p.j+1,more:=p.more - 1 } else
 {p with j:=(leap mask p.i p.perturb).1,more:=runEnd mask (leap mask p.i p.perturb).1 - (leap mask p.i p.perturb).1,i:=(leap mask p.i p.perturb).1,perturb:=(leap mask p.i p.perturb).2 }
theorem iH (t:SetTable) (p:Probe):t.advance p=adv t.mask p:=by
 unfold SetTable.advance adv
 split
 ·rfl
 ·rfl
def start (mask:Nat) (h:Int):Probe:={j:=bits h % (mask+1),more:=runEnd mask (bits h % (mask+1)) - bits h % (mask+1),i:=bits h % (mask+1),perturb:=bits h,dummy:=none }
def pth (mask:Nat) (h:Int):Nat→Probe
 |0=>start mask h
 |n+1=>adv mask (pth mask h n)
def aQ (mask:Nat) (h:Int):Nat→Nat×Nat
 |0=>(bits h % (mask+1),bits h)
 |r+1=>leap mask (aQ mask h r).1 (aQ mask h r).2
theorem iu {mask:Nat}:∀(m:Nat) (p:Probe) (f:Nat→Probe),f 0=p→(∀n,f (n+1)=adv mask (f n))→m≤p.more→f m={p with j:=p.j+m,more:=p.more - m }
 |0,p,f,h0,_,_=>by rw[h0];rfl
 |m+1,p,f,h0,hs,hm=>by
  rw[hs m,iu m p f h0 hs (by omega)]
  unfold adv
  rw[if_pos (by show p.more - m >0;omega)]
  simp only[Probe.mk.injEq]
  exact ⟨by omega,by omega,trivial,trivial,trivial⟩
theorem iS (mask:Nat) (h:Int):∀n,(pth mask h n).dummy=none
 |0=>rfl
 |n+1=>by
  rw[pth];unfold adv
  split
  ·exact iS mask h n
  ·exact iS mask h n
theorem ph (mask i:Nat):runEnd mask i - i≤9:=by unfold runEnd;split <;>omega
theorem n5 (mask:Nat) (h:Int):∀r,∃n,n≤10*r∧pth mask h n={j:=(aQ mask h r).1,more:=runEnd mask (aQ mask h r).1 - (aQ mask h r).1,i:=(aQ mask h r).1,perturb:=(aQ mask h r).2,dummy:=none }
 |0=>⟨0,yO _,rfl⟩
 |r+1=>by
  obtain ⟨n,hn,e⟩:=n5 mask h r
  have hL:=ph mask (aQ mask h r).1
  have step:=iu (mask:=mask) (runEnd mask (aQ mask h r).1 - (aQ mask h r).1) (pth mask h n) (fun m=>pth mask h (n+m)) rfl (fun m=>rfl) (by rw[e];exact yO _)
  refine ⟨n+(runEnd mask (aQ mask h r).1 - (aQ mask h r).1)+1,by omega,?_⟩
  rw[pth]
  have step':pth mask h (n+(runEnd mask (aQ mask h r).1 - (aQ mask h r).1))=_:=step
  rw[step',e]
  unfold adv
  rw[if_neg (by simp)]
  rfl
theorem tY (h:Int):bits h < 2 ^ 64:=by
 unfold bits
 have h1:=Be h (show (2 ^ 64:Int)≠0 by decide)
 have h2:=AI h (show (0:Int) < 2 ^ 64 by decide)
 omega
theorem jM (mask:Nat) (h:Int):∀r,(aQ mask h r).2=bits h / 32 ^ r
 |0=>by simp[aQ]
 |r+1=>by
  rw[aQ]
  show (aQ mask h r).2 / 32=_
  rw[jM mask h r,Eo,Bj]
theorem oT (mask:Nat) (h:Int) (r:Nat) (hr:12≤r):(aQ mask h r).2 / 32=0:=by
 rw[jM]
 have h1:=tY h
 rw[Eo]
 apply Nat.div_eq_of_lt
 have:32 ^ 12*32≤32 ^ r*32:=EU _ (Ca (by decide) hr)
 exact za (za h1 (by decide)) this
def cK:Nat→Nat
 |0=>1
 |k+1=>cK k*(4*cK k+2)
theorem rA:∀k,∃m,cK k=2 ^ k*(2*m+1)
 |0=>⟨0,by simp[cK]⟩
 |k+1=>by
  obtain ⟨m,e⟩:=rA k
  refine ⟨2*(cK k) *m+m+cK k,?_⟩
  rw[cK,Bj]
  have:cK k*(4*cK k+2)=2 ^ k*(2*m+1) *(4*cK k+2):=by rw[←e]
  rw[this]
  generalize cK k=c
  generalize 2 ^ k=p
  grind
def fJ:Nat→Nat→Nat
 |0,x=>x
 |n+1,x=>5*fJ n x+1
theorem jb (m x:Nat):∀n,fJ (m+n) x=fJ n (fJ m x)
 |0=>rfl
 |n+1=>by rw[←Nat.add_assoc,fJ,jb m x n,fJ]
theorem iW:∀(k x:Nat),fJ (2 ^ k) x=(1+4*cK k) *x+cK k
 |0,x=>by simp[fJ,cK]
 |k+1,x=>by
  rw[Bj,Nat.mul_two,jb,iW k,iW k,cK]
  generalize cK k=c
  grind
theorem my (k x:Nat):fJ (2 ^ k) x % 2 ^ (k+1)=(x+2 ^ k) % 2 ^ (k+1):=by
 rw[iW]
 obtain ⟨m,e⟩:=rA k
 rw[e]
 have:(1+4*(2 ^ k*(2*m+1))) *x+2 ^ k*(2*m+1)=(x+2 ^ k)+2 ^ (k+1) *(2*(2*m+1) *x+m):=by
  rw[Bj]
  generalize 2 ^ k=p
  grind
 rw[this,Nat.add_mul_mod_self_left]
theorem gd (x:Nat):∀(k y:Nat),∃n,n < 2 ^ k∧fJ n x % 2 ^ k=y % 2 ^ k
 |0,y=>⟨0,by simp,by simp[Nat.mod_one]⟩
 |k+1,y=>by
  obtain ⟨n,hn,e⟩:=gd x k y
  have hp:2 ^ (k+1)=2 ^ k+2 ^ k:=by rw[Bj];omega
  have h2:0 < 2 ^ k:=Nat.pow_pos (by decide)
  by_cases h:fJ n x % 2 ^ (k+1)=y % 2 ^ (k+1)
  ·exact ⟨n,by omega,h⟩
  ·refine ⟨n+2 ^ k,by omega,?_⟩
   rw[jb,my]
   generalize fJ n x=z at *
   have d1:z % 2 ^ (k+1) % 2 ^ k=z % 2 ^ k:=Fu _ ⟨2,by rw[Bj]⟩
   have d2:y % 2 ^ (k+1) % 2 ^ k=y % 2 ^ k:=Fu _ ⟨2,by rw[Bj]⟩
   have l1:=BK z (show 0 < 2 ^ (k+1) by omega)
   have l2:=BK y (show 0 < 2 ^ (k+1) by omega)
   rw[←EE]
   rw[←d1,←d2] at e
   generalize z % 2 ^ (k+1)=a at *
   generalize y % 2 ^ (k+1)=b at *
   rw[hp] at *
   generalize 2 ^ k=p at *
   have ea:a % p=if a < p then a else a - p:=by
    split
    ·exact zQ (by assumption)
    ·rw[DD (by omega),zQ (by omega)]
   have eb:b % p=if b < p then b else b - p:=by
    split
    ·exact zQ (by assumption)
    ·rw[DD (by omega),zQ (by omega)]
   rw[ea,eb] at e
   by_cases ha:a < p
   ·rw[if_pos ha] at e
    rw[zQ (by omega)]
    split at e <;>omega
   ·rw[if_neg ha] at e
    rw[DD (by omega),zQ (by omega)]
    split at e <;>omega
theorem iR {mask k:Nat} (hk:mask+1=2 ^ k) (h:Int):∀q,(aQ mask h (12+q)).1=fJ q (aQ mask h 12).1 % 2 ^ k
 |0=>by
  rw[fJ]
  have:(aQ mask h 12).1 < 2 ^ k:=by
   rw[←hk]
   show (leap mask (aQ mask h 11).1 (aQ mask h 11).2).1 < _
   exact BK _ (by omega)
  exact (zQ this).symm
 |q+1=>by
  show (leap mask (aQ mask h (12+q)).1 (aQ mask h (12+q)).2).1=_
  unfold leap
  simp only[oT mask h (12+q) (by omega)]
  rw[iR hk h q,hk,fJ,HI,Nat.mul_comm 5 _]
  generalize fJ q (aQ mask h 12).1=z
  generalize 2 ^ k=m
  rw[HU,Nat.mod_mul_mod,←HU]
theorem cover {mask k:Nat} (hk:mask+1=2 ^ k) (h:Int) (s:Nat) (hs:s≤mask):∃n,n < 10*turns mask∧(pth mask h n).j=s:=by
 obtain ⟨q,hq,e⟩:=gd (aQ mask h 12).1 k s
 obtain ⟨n,hn,en⟩:=n5 mask h (12+q)
 refine ⟨n,?_,?_⟩
 ·unfold turns;omega
 ·rw[en]
  show (aQ mask h (12+q)).1=s
  rw[iR hk h q,e]
  exact zQ (by omega)
def Liv (t:SetTable) (j:Nat):Prop:=∃i:Nat,t.place[i]?=some j
structure TOk (t:SetTable) (hs:List Int):Prop where
 R:Ris t.place
 d:t.dummies=#[]
 k:∃k,3≤k∧t.mask+1=2 ^ k
 n:t.place.size=hs.length
 f:t.place.size≤t.mask
 le:∀(i x:Nat),t.place[i]?=some x→x≤t.mask
 reach:∀(i j:Nat) (h:Int),t.place[i]?=some j→hs[i]?=some h→∃m,(pth t.mask h m).j=j∧∀m',m' < m→Liv t (pth t.mask h m').j
theorem least {P:Nat→Prop}:∀n,P n→∃m,m≤n∧P m∧∀k,k < m→¬ P k:=by
 intro n
 induction n using Nat.strongRecOn with
 |_ n ih=>
  intro h
  by_cases hk:∃k,k < n∧P k
  ·obtain ⟨k,hk,hp⟩:=hk
   obtain ⟨m,h1,h2,h3⟩:=ih k hk hp
   exact ⟨m,by omega,h2,h3⟩
  ·exact ⟨n,yO _,h,fun k hk' hp=>hk ⟨k,hk',hp⟩⟩
theorem mN {t:SetTable}{hs:List Int} (T:TOk t hs) (h:Int):∃N,N < 10*turns t.mask∧¬ Liv t (pth t.mask h N).j∧∀m,m < N→Liv t (pth t.mask h m).j:=by
 obtain ⟨s,hs1,hs2⟩:=oJ T.R T.f
 obtain ⟨k,_,hk⟩:=T.k
 obtain ⟨n,hn,e⟩:=cover hk h s hs1
 obtain ⟨m,h1,h2,h3⟩:=least (P:=fun n=>¬ Liv t (pth t.mask h n).j) n (by show ¬ Liv t (pth t.mask h n).j;rw[e];rintro ⟨i,hi⟩;exact hs2 i hi)
 exact ⟨m,by omega,h2,fun k hk'=>AK fun z=>h3 k hk' z⟩
theorem kQ {t:SetTable}{hs:List Int} (T:TOk t hs) (hashAt:Nat→Int) (h:Int) {N:Nat} (h0:¬ Liv t (pth t.mask h N).j) (h1:∀m,m < N→Liv t (pth t.mask h m).j):∀(fuel n:Nat),n≤N→N - n < fuel→
  (probe.go t hashAt h fuel (pth t.mask h n)=some (.empty (pth t.mask h N).j none)∧∀(m i:Nat),n≤m→m < N→t.place[i]?=some (pth t.mask h m).j→hashAt i≠h)∨
  ∃m i:Nat,n≤m∧m < N∧t.place[i]?=some (pth t.mask h m).j∧hashAt i=h∧probe.go t hashAt h fuel (pth t.mask h n)=some (.candidate (pth t.mask h m).j i (pth t.mask h (m+1)))∧
   ∀(m' i':Nat),n≤m'→m' < m→t.place[i']?=some (pth t.mask h m').j→hashAt i'≠h
 |0,n,_,hf=>by omega
 |fuel+1,n,hn,hf=>by
  rw[probe.go]
  rcases mI T.R T.d (pth t.mask h n).j with ⟨e,hno⟩ |⟨i,e,hi⟩
  ·have hN:n=N:=by
    rcases zD hn with z |z
    ·obtain ⟨i,hi⟩:=h1 n z;exact absurd hi (hno i)
    ·exact z
   subst hN
   refine .inl ⟨by simp only[e,iS],fun m i z1 z2=>by omega⟩
  ·have hN:n < N:=by
    rcases zD hn with z |z
    ·exact z
    ·subst z;exact absurd ⟨i,hi⟩ h0
   simp only[e]
   by_cases hh:hashAt i=h
   ·refine .inr ⟨n,i,yO _,hN,hi,hh,?_,fun m' i' z1 z2=>by omega⟩
    simp only[hh,beq_self_eq_true,if_true,iH]
    rfl
   ·have hb:(hashAt i==h)=false:=by simpa using hh
    simp only[hb,yX,if_false,iH]
    have ih:=kQ T hashAt h h0 h1 fuel (n+1) (by omega) (by omega)
    rcases ih with ⟨q1,q2⟩ |⟨m,i2,q1,q2,q3,q4,q5,q6⟩
    ·refine .inl ⟨q1,fun m i' z1 z2 z3=>?_⟩
     rcases zD z1 with z |z
     ·exact q2 m i' z z2 z3
     ·subst z
      rw[T.R.inj z3 hi];exact hh
    ·refine .inr ⟨m,i2,by omega,q2,q3,q4,q5,fun m' i' z1 z2 z3=>?_⟩
     rcases zD z1 with z |z
     ·exact q6 m' i' z z2 z3
     ·subst z
      rw[T.R.inj z3 hi];exact hh
theorem pT {t:SetTable}{hs:List Int} (T:TOk t hs) {h:Int}{N i:Nat} (h0:¬ Liv t (pth t.mask h N).j) (hi:hs[i]?=some h):∃(m j:Nat),m < N∧t.place[i]?=some j∧(pth t.mask h m).j=j:=by
 have hlt:i < t.place.size:=by rw[T.n];exact (yU.mp hi).1
 obtain ⟨m,e,hm⟩:=T.reach i _ h (dl hlt) hi
 refine ⟨m,_,?_,dl hlt,e⟩
 rcases AR m N with z |z |z
 ·exact z
 ·subst z;exact absurd ⟨i,by rw[e];exact dl hlt⟩ h0
 ·exact absurd (hm N z) h0
theorem dA {α:Type} (xs:Array α) (p:Nat) (x:α):(insertAt xs p x).toList=xs.toList.take p++x::xs.toList.drop p:=by
 unfold insertAt
 simp[Array.toList_extract]
 exact CN (by simp)
theorem b_ {α:Type}{xs:Array α}{p:Nat}{x:α} (hp:p≤xs.size) (i:Nat):(insertAt xs p x)[i]?=if i < p then xs[i]? else if i=p then some x else xs[i - 1]?:=by
 rw[←zV,dA]
 have hl:(xs.toList.take p).length=p:=by simp;omega
 by_cases h1:i < p
 ·rw[if_pos h1,zE (by omega),BJ h1,zV]
 ·rw[if_neg h1,zm (by omega),hl]
  by_cases h2:i=p
  ·subst h2;simp
  ·rw[if_neg h2]
   obtain ⟨q,hq⟩:∃q,i - p=q+1:=⟨i - p - 1,by omega⟩
   rw[hq,BR,B0,zV]
   congr 1;omega
theorem fU {α:Type} (xs:Array α) (p:Nat) (x:α) (hp:p≤xs.size):(insertAt xs p x).size=xs.size+1:=by
 rw[←y4,dA];simp;omega
def fH {α:Type} (xs:List α) (p:Nat) (x:α):List α:=xs.take p++x::xs.drop p
theorem rX {α:Type}{xs:List α}{p:Nat}{x:α} (hp:p≤xs.length) (i:Nat):(fH xs p x)[i]?=if i < p then xs[i]? else if i=p then some x else xs[i - 1]?:=by
 unfold fH
 have hl:(xs.take p).length=p:=by simp;omega
 by_cases h1:i < p
 ·rw[if_pos h1,zE (by omega),BJ h1]
 ·rw[if_neg h1,zm (by omega),hl]
  by_cases h2:i=p
  ·subst h2;simp
  ·rw[if_neg h2]
   obtain ⟨q,hq⟩:∃q,i - p=q+1:=⟨i - p - 1,by omega⟩
   rw[hq,BR,B0]
   congr 1;omega
theorem um {xs:Array Nat} (R:Ris xs) {j:Nat} (hno:∀i:Nat,xs[i]?≠some j):Ris (insertAt xs (below xs j) j):=by
 obtain ⟨h1,h2,h3⟩:=dU R j
 have gt:∀(i x:Nat),below xs j≤i→xs[i]?=some x→j < x:=fun i x hi hx=>by
  rcases zD (h2 i x hi hx) with z |z
  ·exact z
  ·subst z;exact absurd hx (hno i)
 intro a b x y hab hx hy
 rw[b_ h3] at hx hy
 by_cases a1:a < below xs j
 ·rw[if_pos a1] at hx
  by_cases b1:b < below xs j
  ·rw[if_pos b1] at hy;exact R a b x y hab hx hy
  ·rw[if_neg b1] at hy
   by_cases b2:b=below xs j
   ·rw[if_pos b2] at hy;cases hy;exact h1 a x a1 hx
   ·rw[if_neg b2] at hy;exact R a (b - 1) x y (by omega) hx hy
 ·rw[if_neg a1] at hx
  have b1:¬ b < below xs j:=by omega
  rw[if_neg b1] at hy
  have b2:¬ b=below xs j:=by omega
  rw[if_neg b2] at hy
  by_cases a2:a=below xs j
  ·rw[if_pos a2] at hx;cases hx;exact gt (b - 1) y (by omega) hy
  ·rw[if_neg a2] at hx;exact R (a - 1) (b - 1) x y (by omega) hx hy
theorem nQ {xs:Array Nat}{p j:Nat} (hp:p≤xs.size) (s:Nat):(∃i:Nat,(insertAt xs p j)[i]?=some s)↔s=j∨∃i:Nat,xs[i]?=some s:=by
 constructor
 ·rintro ⟨i,hi⟩
  rw[b_ hp] at hi
  split at hi
  ·exact .inr ⟨i,hi⟩
  ·split at hi
   ·cases hi;exact .inl rfl
   ·exact .inr ⟨i - 1,hi⟩
 ·rintro (rfl |⟨i,hi⟩)
  ·exact ⟨p,by rw[b_ hp,if_neg (zO _),if_pos rfl]⟩
  ·by_cases h:i < p
   ·exact ⟨i,by rw[b_ hp,if_pos h];exact hi⟩
   ·exact ⟨i+1,by rw[b_ hp,if_neg (by omega),if_neg (by omega)];simpa using hi⟩
theorem TOk.put {t:SetTable}{hs:List Int} (T:TOk t hs) {h:Int}{N:Nat} (h0:¬ Liv t (pth t.mask h N).j) (h1:∀m,m < N→Liv t (pth t.mask h m).j) (hle:(pth t.mask h N).j≤t.mask) (hf:t.place.size+1≤t.mask):
  TOk (t.put (pth t.mask h N).j).1 (fH hs (t.put (pth t.mask h N).j).2 h):=by
 have hno:∀i:Nat,t.place[i]?≠some (pth t.mask h N).j:=fun i e=>h0 ⟨i,e⟩
 obtain ⟨_,_,hb⟩:=dU T.R (pth t.mask h N).j
 have hbl:below t.place (pth t.mask h N).j≤hs.length:=by rw[←T.n];exact hb
 have ed:(if SetTable.has t.dummies (pth t.mask h N).j then eraseAt t.dummies (below t.dummies (pth t.mask h N).j) else t.dummies)=#[]:=by
  rw[T.d];simp[SetTable.has]
 unfold SetTable.put
 simp only[ed]
 refine ⟨um T.R hno,rfl,T.k,?_,?_,fun i x e=>?_,fun i j hh e1 e2=>?_⟩
 ·show (insertAt _ _ _).size=(fH hs _ h).length
  rw[fU _ _ _ hb,T.n];unfold fH;simp;omega
 ·show (insertAt _ _ _).size≤t.mask
  rw[fU _ _ _ hb];exact hf
 ·rcases (nQ hb x).mp ⟨i,e⟩ with z |⟨q,hq⟩
  ·rw[z];exact hle
  ·exact T.le q x hq
 ·have liv:∀s,Liv t s→Liv {t with place:=insertAt t.place (below t.place (pth t.mask h N).j) (pth t.mask h N).j,dummies:=#[] } s:=fun s z=>(nQ hb s).mpr (.inr z)
  change (insertAt t.place _ _)[i]?=some j at e1
  rw[b_ hb] at e1
  rw[rX hbl] at e2
  split at e1
  ·rename_i z
   rw[if_pos z] at e2
   obtain ⟨m,q1,q2⟩:=T.reach i j hh e1 e2
   exact ⟨m,q1,fun m' hm=>liv _ (q2 m' hm)⟩
  ·rename_i z
   rw[if_neg z] at e2
   split at e1
   ·rename_i z2
    rw[if_pos z2] at e2
    cases e1;cases e2
    exact ⟨N,rfl,fun m' hm=>liv _ (h1 m' hm)⟩
   ·rename_i z2
    rw[if_neg z2] at e2
    obtain ⟨m,q1,q2⟩:=T.reach (i - 1) j hh e1 e2
    exact ⟨m,q1,fun m' hm=>liv _ (q2 m' hm)⟩
theorem pS {mask:Nat} (h:Int):∀n,(pth mask h n).j+(pth mask h n).more≤mask
 |0=>by
  show bits h % (mask+1)+(runEnd mask (bits h % (mask+1)) - bits h % (mask+1))≤mask
  have:=BK (bits h) (show 0 < mask+1 by omega)
  unfold runEnd;split <;>omega
 |n+1=>by
  have ih:=pS (mask:=mask) h n
  rw[pth];unfold adv
  split
  ·simp only;omega
  ·show (leap mask _ _).1+(runEnd mask (leap mask _ _).1 - (leap mask _ _).1)≤mask
   have:(leap mask (pth mask h n).i (pth mask h n).perturb).1 < mask+1:=BK _ (by omega)
   unfold runEnd;split <;>omega
def OL (owner:Array (Option Nat)) (j:Nat):Prop:=∃k:Nat,owner[j]?=some (some k)
def nr (mask:Nat) (h:Int):Nat→Nat
 |0=>0
 |r+1=>nr mask h r+(runEnd mask (aQ mask h r).1 - (aQ mask h r).1)+1
theorem uT (mask:Nat) (h:Int):∀r,pth mask h (nr mask h r)={j:=(aQ mask h r).1,more:=runEnd mask (aQ mask h r).1 - (aQ mask h r).1,i:=(aQ mask h r).1,perturb:=(aQ mask h r).2,dummy:=none }
 |0=>rfl
 |r+1=>by
  have e:=uT mask h r
  have step:=iu (mask:=mask) (runEnd mask (aQ mask h r).1 - (aQ mask h r).1) (pth mask h (nr mask h r)) (fun m=>pth mask h (nr mask h r+m)) rfl (fun m=>rfl) (by rw[e];exact yO _)
  have step':pth mask h (nr mask h r+(runEnd mask (aQ mask h r).1 - (aQ mask h r).1))=_:=step
  rw[nr,pth,step',e]
  unfold adv
  rw[if_neg (by simp)]
  rfl
theorem mQ (mask:Nat) (h:Int) (r k:Nat) (hk:k≤runEnd mask (aQ mask h r).1 - (aQ mask h r).1):(pth mask h (nr mask h r+k)).j=(aQ mask h r).1+k:=by
 have e:=uT mask h r
 have step:=iu (mask:=mask) k (pth mask h (nr mask h r)) (fun m=>pth mask h (nr mask h r+m)) rfl (fun m=>rfl) (by rw[e];exact hk)
 have step':pth mask h (nr mask h r+k)=_:=step
 rw[step',e]
theorem oX (mask i:Nat):i≤runEnd mask i:=by unfold runEnd;split <;>omega
theorem ui (mask:Nat) (h:Int):∀r,(aQ mask h r).1≤mask
 |0=>AS (BK _ (by omega))
 |r+1=>AS (BK _ (by omega))
theorem kN {mask i:Nat} (h:i≤mask):runEnd mask i≤mask:=by unfold runEnd;split <;>omega
theorem nB {mask:Nat}{owner:Array (Option Nat)} (hsz:owner.size=mask+1) (h:Int):∀(fuel r:Nat),(∃r',r≤r'∧r' < r+fuel∧owner[(aQ mask h r').1]?=some none)→(∀m,m < nr mask h r→OL owner (pth mask h m).j)→
  ∃N,layClean.free mask owner fuel (aQ mask h r).1 (aQ mask h r).2=some (pth mask h N).j∧owner[(pth mask h N).j]?=some none∧∀m,m < N→OL owner (pth mask h m).j
 |0,r,⟨r',h1,h2,_⟩,_=>by omega
 |fuel+1,r,hex,hl=>by
  rw[layClean.free]
  have hge:=oX mask (aQ mask h r).1
  have hmk:=kN (ui mask h r)
  have hin:∀k,k < runEnd mask (aQ mask h r).1+1 - (aQ mask h r).1→(aQ mask h r).1+k < owner.size:=fun k hk=>by omega
  cases hf:(zS (runEnd mask (aQ mask h r).1+1 - (aQ mask h r).1)).find? fun k=>(owner.getD ((aQ mask h r).1+k) (some 0)).isNone with
  |some k=>
   obtain ⟨p1,p2,p3⟩:=List.find?_range_eq_some.mp hf
   have hk:=zK.mp p2
   have hlt:=hin k hk
   have e1:owner[(aQ mask h r).1+k]?=some none:=by
    have:owner.getD ((aQ mask h r).1+k) (some 0)=owner[(aQ mask h r).1+k]:=by simp[A9,hlt]
    rw[this] at p1
    have:owner[(aQ mask h r).1+k]=none:=by simpa using p1
    simp[hlt,this]
   have ej:=mQ mask h r k (by omega)
   refine ⟨nr mask h r+k,by simp only[ej],by rw[ej];exact e1,fun m hm=>?_⟩
   by_cases hm1:m < nr mask h r
   ·exact hl m hm1
   ·obtain ⟨q,rfl⟩:∃q,m=nr mask h r+q:=⟨m - nr mask h r,by omega⟩
    have hq:=p3 q (by omega)
    have hlt2:=hin q (by omega)
    rw[mQ mask h r q (by omega)]
    have:owner.getD ((aQ mask h r).1+q) (some 0)=owner[(aQ mask h r).1+q]:=by simp[A9,hlt2]
    rw[this] at hq
    cases hv:owner[(aQ mask h r).1+q] with
    |none=>rw[hv] at hq;simp at hq
    |some v=>exact ⟨v,by simp[hlt2,hv]⟩
  |none=>
   have hall:∀q,q < runEnd mask (aQ mask h r).1+1 - (aQ mask h r).1→OL owner ((aQ mask h r).1+q):=fun q hq=>by
    have:=List.find?_eq_none.mp hf q (zK.mpr hq)
    have hlt2:=hin q hq
    have e:owner.getD ((aQ mask h r).1+q) (some 0)=owner[(aQ mask h r).1+q]:=by simp[A9,hlt2]
    rw[e] at this
    cases hv:owner[(aQ mask h r).1+q] with
    |none=>rw[hv] at this;simp at this
    |some v=>exact ⟨v,by simp[hlt2,hv]⟩
   have next:=nB hsz h fuel (r+1) (by
    obtain ⟨r',h1,h2,h3⟩:=hex
    refine ⟨r',?_,by omega,h3⟩
    rcases zD h1 with z |z
    ·exact z
    ·subst z
     obtain ⟨v,hv⟩:=hall 0 (by omega)
     rw[HI,h3] at hv
     cases hv) (fun m hm=>by
    by_cases hm1:m < nr mask h r
    ·exact hl m hm1
    ·obtain ⟨q,rfl⟩:∃q,m=nr mask h r+q:=⟨m - nr mask h r,by omega⟩
     have hm2:nr mask h r+q < nr mask h r+(runEnd mask (aQ mask h r).1 - (aQ mask h r).1)+1:=hm
     rw[mQ mask h r q (by omega)]
     exact hall q (by omega))
   exact next
structure OI (mask:Nat) (owner:Array (Option Nat)) (hs:List Int):Prop where
 sz:owner.size=mask+1
 lt:∀(j k:Nat),owner[j]?=some (some k)→k < hs.length
 inj:∀(i j k:Nat),owner[i]?=some (some k)→owner[j]?=some (some k)→i=j
 all:∀k:Nat,k < hs.length→∃j:Nat,owner[j]?=some (some k)
 reach:∀(j k:Nat) (h:Int),owner[j]?=some (some k)→hs[k]?=some h→∃m,(pth mask h m).j=j∧∀m',m' < m→OL owner (pth mask h m').j
theorem OI.free {mask:Nat}{owner:Array (Option Nat)}{hs:List Int} (O:OI mask owner hs) (hn:hs.length≤mask):∃s,s≤mask∧owner[s]?=some none:=by
 apply AK
 intro hno
 have hlive:∀s,s≤mask→OL owner s:=fun s hs'=>by
  have hlt:s < owner.size:=by rw[O.sz];omega
  cases e:owner[s] with
  |none=>exact absurd ⟨s,hs',by simp[hlt,e]⟩ hno
  |some k=>exact ⟨k,by simp[hlt,e]⟩
 have nd:((zS (mask+1)).map fun s=>(owner.getD s none).getD 0).Nodup:=by
  rw[Dy,Av]
  refine DS ?_ (Ep (n:=mask+1))
  intro a b ha hb hab e
  obtain ⟨k1,h1⟩:=hlive a (by have:=zK.mp ha;omega)
  obtain ⟨k2,h2⟩:=hlive b (by have:=zK.mp hb;omega)
  have e1:(owner.getD a none).getD 0=k1:=by simp[Ae,h1]
  have e2:(owner.getD b none).getD 0=k2:=by simp[Ae,h2]
  rw[e1,e2] at e
  subst e
  have:=O.inj a b k1 h1 h2
  omega
 have sub:((zS (mask+1)).map fun s=>(owner.getD s none).getD 0) ⊆ zS hs.length:=by
  intro x hx
  obtain ⟨s,hs1,rfl⟩:=y8.mp hx
  obtain ⟨k1,h1⟩:=hlive s (by have:=zK.mp hs1;omega)
  have e1:(owner.getD s none).getD 0=k1:=by simp[Ae,h1]
  rw[e1]
  exact zK.mpr (O.lt s k1 h1)
 have:=FS nd sub
 simp at this
 omega
theorem OI.step {mask k:Nat} (hk:mask+1=2 ^ k) {owner:Array (Option Nat)}{hs:List Int} (O:OI mask owner hs) (hn:hs.length≤mask) (h:Int):
  ∃j,layClean.free mask owner (turns mask) (bits h % (mask+1)) (bits h)=some j∧OI mask (owner.setIfInBounds j (some hs.length)) (hs++[h]):=by
 obtain ⟨s,hs1,hs2⟩:=O.free hn
 obtain ⟨q,hq,e⟩:=gd (aQ mask h 12).1 k s
 have er:(aQ mask h (12+q)).1=s:=by rw[iR hk h q,e];exact zQ (by omega)
 obtain ⟨N,f1,f2,f3⟩:=nB O.sz h (turns mask) 0 ⟨12+q,zW _,by unfold turns;omega,by rw[er];exact hs2⟩ (fun m hm=>absurd hm (Gr _))
 refine ⟨_,f1,?_⟩
 generalize hj:(pth mask h N).j=j at *
 have hjs:j < owner.size:=(Bv.mp f2).1
 have get:∀i:Nat,(owner.setIfInBounds j (some hs.length))[i]?=if j=i then some (some hs.length) else owner[i]?:=fun i=>by
  rw[Array.getElem?_setIfInBounds]
  split
  ·rename_i z;subst z;simp[hjs]
  ·rfl
 have liv:∀i,OL owner i→OL (owner.setIfInBounds j (some hs.length)) i:=fun i ⟨v,hv⟩=>by
  refine ⟨v,?_⟩
  rw[get,if_neg (fun z=>by subst z;rw[f2] at hv;cases hv)]
  exact hv
 refine ⟨by simp[O.sz],fun i v e=>?_,fun a b v e1 e2=>?_,fun v hv=>?_,fun i v hh e1 e2=>?_⟩
 ·rw[get] at e
  split at e
  ·cases e;simp
  ·have:=O.lt i v e;simp;omega
 ·rw[get] at e1 e2
  split at e1 <;>split at e2
  ·omega
  ·cases e1;exact absurd (O.lt b _ e2) (zO _)
  ·cases e2;exact absurd (O.lt a _ e1) (zO _)
  ·exact O.inj a b v e1 e2
 ·simp at hv
  rcases zD (AS hv) with z |z
  ·obtain ⟨i,hi⟩:=O.all v z
   refine ⟨i,?_⟩
   rw[get,if_neg (fun y=>by subst y;rw[f2] at hi;cases hi)]
   exact hi
  ·subst z;exact ⟨j,by rw[get,if_pos rfl]⟩
 ·rw[get] at e1
  split at e1
  ·rename_i z
   cases e1
   rw[zm (yO _)] at e2
   simp at e2
   subst e2
   exact ⟨N,by rw[hj];exact z,fun m hm=>liv _ (f3 m hm)⟩
  ·have hv:=O.lt i v e1
   rw[zE hv] at e2
   obtain ⟨m,q1,q2⟩:=O.reach i v hh e1 e2
   exact ⟨m,q1,fun m' hm=>liv _ (q2 m' hm)⟩
theorem og {mask k:Nat} (hk:mask+1=2 ^ k):∀(more done:List Int) (owner:Array (Option Nat)),OI mask owner done→done.length+more.length≤mask+1→∃owner',more.foldl (fun acc h=>do
  let (owner,k) ←acc
  let j ←layClean.free mask owner (turns mask) (bits h % (mask+1)) (bits h)
  pure (owner.setIfInBounds j (some k),k+1)) (some (owner,done.length))=some (owner',done.length+more.length)∧OI mask owner' (done++more)
 |[],done,owner,O,_=>⟨owner,by simp,by simpa using O⟩
 |h::more,done,owner,O,hl=>by
  obtain ⟨j,e,O2⟩:=O.step hk (by simp at hl;omega) h
  obtain ⟨ow,e2,O3⟩:=og hk more (done++[h]) _ O2 (by simp at hl ⊢;omega)
  refine ⟨ow,?_,by simpa using O3⟩
  rw[CG]
  have:(do
   let (owner,k) ←some (owner,done.length)
   let j ←layClean.free mask owner (turns mask) (bits h % (mask+1)) (bits h)
   pure (owner.setIfInBounds j (some k),k+1):Option (Array (Option Nat)×Nat))=some (owner.setIfInBounds j (some done.length),done.length+1):=by
   simp[e]
  rw[this]
  simp only[zM,Ez] at e2
  rw[e2]
  simp;omega
theorem lx {mask k:Nat} (hk:mask+1=2 ^ k) {hs:Array Int} (hl:hs.size≤mask+1):∃owner,layClean mask hs=some owner∧OI mask owner hs.toList:=by
 have O0:OI mask (Array.replicate (mask+1) none) []:=⟨by simp,fun j k e=>by simp[Cw] at e,fun i j k e=>by simp[Cw] at e,fun k h=>by simp at h,fun j k h e=>by simp[Cw] at e⟩
 obtain ⟨ow,e,O⟩:=og hk hs.toList [] _ O0 (by simpa using hl)
 refine ⟨ow,?_,by simpa using O⟩
 unfold layClean
 rw[←Array.foldl_toList]
 simp only[CF] at e
 rw[e]
 rfl
theorem lg (n:Nat):∀(fuel k:Nat),n < 2 ^ (k+fuel)→∃k',k≤k'∧sizeAbove.go n fuel (2 ^ k)=2 ^ k'∧n < 2 ^ k'∧(2 ^ k'≤2*n∨k'=k)
 |0,k,h=>⟨k,yO _,rfl,by simpa using h,.inr rfl⟩
 |fuel+1,k,h=>by
  rw[sizeAbove.go]
  by_cases hle:2 ^ k≤n
  ·rw[if_pos hle,←Bj]
   obtain ⟨k',h1,h2,h3,h4⟩:=lg n fuel (k+1) (by rw[show k+1+fuel=k+(fuel+1) by omega];exact h)
   refine ⟨k',by omega,h2,h3,.inl ?_⟩
   rcases h4 with z |z
   ·exact z
   ·subst z;rw[Bj];omega
  ·rw[if_neg hle]
   exact ⟨k,yO _,rfl,by omega,.inr rfl⟩
theorem above (n:Nat) (h:n < 2 ^ 60):∃k,3≤k∧sizeAbove n=2 ^ k∧n < 2 ^ k∧2 ^ k≤2*n+8:=by
 obtain ⟨k,h1,h2,h3,h4⟩:=lg n 64 3 (za h (Ca (by decide) (by decide)))
 refine ⟨k,h1,h2,h3,?_⟩
 rcases h4 with z |z
 ·omega
 ·subst z;omega
def cE (mask:Nat) (owner:Array (Option Nat)):List (Nat×Nat):=(zS (mask+1)).filterMap fun j=>(owner.getD j none).map (j,·)
theorem kR (owner:Array (Option Nat)):∀l:List Nat,(l.filterMap fun j=>(owner.getD j none).map (j,·)).map (·.1)=l.filter fun j=>(owner.getD j none).isSome
 |[]=>rfl
 |a::l=>by
  have ih:=kR owner l
  rw[AO,Dd]
  cases owner.getD a none with
  |none=>simpa using ih
  |some v=>simpa using ih
theorem df {mask:Nat}{owner:Array (Option Nat)} (hsz:owner.size=mask+1) (j k:Nat):(j,k)∈cE mask owner↔owner[j]?=some (some k):=by
 unfold cE
 rw[DA]
 constructor
 ·rintro ⟨a,ha,e⟩
  have hlt:a < owner.size:=by rw[hsz];exact zK.mp ha
  cases hv:owner.getD a none with
  |none=>rw[hv] at e;cases e
  |some v=>
   rw[hv] at e
   cases e
   have:owner.getD j none=owner[j]:=by simp[A9,hlt]
   rw[this] at hv
   simp[hlt,hv]
 ·intro e
  have hlt:=(Bv.mp e).1
  refine ⟨j,zK.mpr (by omega),?_⟩
  rw[Ae,e];rfl
theorem o6 (mask:Nat) (owner:Array (Option Nat)):(cE mask owner).Pairwise fun a b=>a.1 < b.1:=by
 have:=(Ep (n:=mask+1)).filter fun j=>(owner.getD j none).isSome
 rw[←kR owner (zS (mask+1)),Av] at this
 exact this
theorem v7 {l:List Nat} (h:l.Pairwise (· < ·)):Ris l.toArray:=by
 intro i j x y hij hx hy
 rw[B3] at hx hy
 obtain ⟨h1,e1⟩:=yU.mp hx
 obtain ⟨h2,e2⟩:=yU.mp hy
 have:=zg.mp h i j h1 h2 hij
 rw[e1,e2] at this
 exact this
theorem tQ {mask k:Nat} (h3:3≤k) (hk:mask+1=2 ^ k) {hs:Array Int} (hl:hs.size≤mask) (finger moves:Nat) (led plain:Bool):
  ∃t order,laid mask finger moves led plain hs=some (t,order)∧TOk t (order.toList.map fun i=>hs.getD i 0)∧order.toList.Perm (zS hs.size)∧t.mask=mask∧t.led=led∧t.plain=plain∧t.moves=moves:=by
 obtain ⟨owner,e,O⟩:=lx hk (hs:=hs) (by omega)
 have pr:=o6 mask owner
 have nd:((cE mask owner).map (·.2)).Nodup:=by
  rw[Dy,Av]
  refine DS ?_ pr
  intro a b ha hb hab ee
  have h1:=(df O.sz a.1 a.2).mp ha
  have h2:=(df O.sz b.1 b.2).mp hb
  rw[ee] at h1
  have:=O.inj a.1 b.1 b.2 h1 h2
  omega
 have perm:((cE mask owner).map (·.2)).Perm (zS hs.size):=by
  refine (List.perm_ext_iff_of_nodup nd Gc).mpr fun x=>?_
  rw[y8,zK]
  constructor
  ·rintro ⟨⟨j,v⟩,hm,rfl⟩
   have:=O.lt j v ((df O.sz j v).mp hm)
   simpa using this
  ·intro hx
   obtain ⟨j,hj⟩:=O.all x (by simpa using hx)
   exact ⟨(j,x),(df O.sz j x).mpr hj,rfl⟩
 have len:(cE mask owner).length=hs.size:=by have:=perm.length_eq;simpa using this
 refine ⟨_,_,by unfold laid;rw[e];rfl,⟨?_,rfl,⟨k,h3,hk⟩,?_,?_,fun i x ee=>?_,fun i j h e1 e2=>?_⟩,?_,rfl,rfl,rfl,rfl⟩
 ·show Ris ((cE mask owner).map (·.1)).toArray
  exact v7 (by rw[Av];exact pr)
 ·show ((cE mask owner).map (·.1)).toArray.size=_
  simp[cE]
 ·show ((cE mask owner).map (·.1)).toArray.size≤mask
  simp[len,hl]
 ·change ((cE mask owner).map (·.1)).toArray[i]?=some x at ee
  rw[B3,yN] at ee
  cases q:(cE mask owner)[i]? with
  |none=>rw[q] at ee;cases ee
  |some p=>
   rw[q] at ee
   cases ee
   have:=(df O.sz p.1 p.2).mp (zi q)
   have:=(Bv.mp this).1
   show p.1≤mask
   have hz:=O.sz
   omega
 ·change ((cE mask owner).map (·.1)).toArray[i]?=some j at e1
  change (((cE mask owner).map (·.2)).toArray.toList.map fun i=>hs.getD i 0)[i]?=some h at e2
  rw[B3,yN] at e1
  rw[yN,yN] at e2
  cases q:(cE mask owner)[i]? with
  |none=>rw[q] at e1;cases e1
  |some p=>
   rw[q] at e1 e2
   cases e1
   have hp:=(df O.sz p.1 p.2).mp (zi q)
   have hlt:=O.lt _ _ hp
   have e3:hs.toList[p.2]?=some h:=by
    have e4:hs.getD p.2 0=h:=by simpa using e2
    have:p.2 < hs.size:=by simpa using hlt
    rw[←e4]
    simp[A9,this]
   obtain ⟨m,q1,q2⟩:=O.reach _ _ h hp e3
   refine ⟨m,q1,fun m' hm=>?_⟩
   obtain ⟨v,hv⟩:=q2 m' hm
   obtain ⟨n,hn⟩:=AU.mp ((df O.sz _ v).mpr hv)
   refine ⟨n,?_⟩
   show ((cE mask owner).map (·.1)).toArray[n]?=_
   rw[B3,yN,hn];rfl
 ·show ((cE mask owner).map (·.2)).toArray.toList.Perm _
  simpa using perm
section
variable {prog:yT}{w:World}{A:zh}{E:Value→yI→Prop}{s:yI}
abbrev TK (prog:yT) (w:World) (h:Heap) (k:List Int) (b:Addr):Prop:=IsTupleKey (Bc prog w) h k b
abbrev hsh (prog:yT) (w:World) (k:List Int):Int:=tupleKeyHash (Bc prog w) k
theorem TK.ints {h:Heap}{k:List Int}{vs:List Value} (x:ItemsAre (Bc prog w) k vs):∀v∈vs,∃n t,v=.int n t:=by
 induction x with
 |nil=>intro v hv;simp at hv
 |cons h1 _ ih=>
  intro v hv
  rcases yP.mp hv with rfl |hv
  ·obtain ⟨t,rfl⟩:=Ah h1;exact ⟨_,t,rfl⟩
  ·exact ih v hv
theorem jv {k:List Int}{a:Addr}{Q:Bool→yI→Prop} (hk:TK prog w s.heap k a) (h:Q false s):wpAny (model prog w) A (CT 8 (.ref a)) Q E s:=by
 have hT:=hk.typeIs
 obtain ⟨o,items,n,ho,_,hd,hi⟩:=hk
 unfold CT
 refine yE (FT hT ?_)
 dsimp only
 rw[if_pos (by decide)]
 refine yE (yJ ?_)
 simp only[Aq,yX,if_false]
 refine yE (Ao ho hd ?_)
 dsimp only
 refine yE ?_
 rw[←Fv]
 refine Ef _ (fun rest r s'=>r.1=none∧s'=s∧∀v∈rest,∃n t,v=zR n t) _ ?_ ?_ _ _ ⟨rfl,rfl,TK.ints (h:=s.heap) hi⟩
 ·rintro v rest r s' ⟨hr,rfl,hall⟩
  obtain ⟨n,t,rfl⟩:=hall v yV
  have e:CT 7 (zR n t)=pure false:=by unfold CT;rfl
  rw[e]
  refine yE (yJ ?_)
  simp only[yX,if_false]
  exact yJ ⟨rfl,rfl,fun u hu'=>hall u (yM _ hu')⟩
 ·rintro ⟨r1,r2⟩ s' ⟨hr,rfl,_⟩
  simp only at hr
  subst hr
  exact yJ h
theorem w_ {k:List Int}{a:Addr}{Q:Bool→yI→Prop} (hk:TK prog w s.heap k a) (h:Q true s):wpAny (model prog w) A (Fc 8 (.ref a)) Q E s:=by
 have hT:=hk.typeIs
 obtain ⟨o,items,n,ho,_,hd,hi⟩:=hk
 unfold Fc
 refine yE (Dq hT F.slot_tuple_hash.lookup ?_)
 show wpAny _ _ (DT (.ref a) >>=_) _ _ s
 refine yE (Ao ho hd ?_)
 refine yE ?_
 show wpAny _ _ (forIn items _ _) _ _ s
 rw[←Fv]
 refine Ef _ (fun rest r s'=>r.1=none∧s'=s∧∀v∈rest,∃n t,v=zR n t) _ ?_ ?_ _ _ ⟨rfl,rfl,TK.ints (h:=s.heap) hi⟩
 ·rintro v rest r s' ⟨hr,rfl,hall⟩
  obtain ⟨n,t,rfl⟩:=hall v yV
  have e:Fc 7 (zR n t)=pure true:=by unfold Fc;rfl
  rw[e]
  refine yE (yJ ?_)
  simp only[Aq,yX,if_false]
  exact yJ ⟨rfl,rfl,fun u hu'=>hall u (yM _ hu')⟩
 ·rintro ⟨r1,r2⟩ s' ⟨hr,rfl,_⟩
  simp only at hr
  subst hr
  exact yJ h
theorem lW {k:List Int}{a:Addr}{l:List Value}{Q:Bool→yI→Prop} (hk:TK prog w s.heap k a) (hl:∀v∈l,∃k' b,v=.ref b∧TK prog w s.heap k' b) (h:Q false s):
  wpAny (model prog w) A (FE (.ref a) l) Q E s:=by
 unfold FE
 refine yE ?_
 refine Ef _ (fun rest r s'=>r.1=none∧s'=s∧∀v∈rest,∃k' b,v=.ref b∧TK prog w s.heap k' b) _ ?_ ?_ _ _ ⟨rfl,rfl,hl⟩
 ·rintro v rest r s' ⟨hr,rfl,hall⟩
  obtain ⟨k',b,rfl,hb⟩:=hall v yV
  dsimp only
  split
  ·exact yJ ⟨rfl,rfl,fun u hu'=>hall u (yM _ hu')⟩
  ·refine yE (EF hk ?_)
   simp only[Aq,yX,if_false]
   refine yE (EF hb ?_)
   simp only[Aq,yX,if_false]
   refine yE (jv hk ?_)
   simp only[yX,if_false]
   refine yE (jv hb ?_)
   simp only[yX,if_false]
   exact yJ ⟨rfl,rfl,fun u hu'=>hall u (yM _ hu')⟩
 ·rintro ⟨r1,r2⟩ s' ⟨hr,rfl,_⟩
  simp only at hr
  subst hr
  exact yJ h
def ents (prog:yT) (w:World) (kb:List (List Int×Addr)):List (Int×Value):=kb.map fun p=>(hsh prog w p.1,.ref p.2)
theorem nt {kb:List (List Int×Addr)}{i:Nat}:(ents prog w kb)[i]?=(kb[i]?).map fun p=>(hsh prog w p.1,.ref p.2):=by unfold ents;rw[yN]
theorem t9 (kb:List (List Int×Addr)):(ents prog w kb).map (·.1)=kb.map fun p=>hsh prog w p.1:=by unfold ents;rw[zX];rfl
theorem TOk.fits {t:SetTable}{hs:List Int} (T:TOk t hs) {n:Nat} (hn:hs.length=n):t.fits n=true:=by
 have h1:=T.n
 have h2:=T.f
 have h3:t.fill=t.place.size:=by unfold fill;rw[T.d];rfl
 unfold SetTable.fits
 rw[h3]
 simp[h1,hn]
 omega
theorem TOk.gave {t:SetTable}{hs:List Int} (T:TOk t hs):t.gaveWay=false:=by
 obtain ⟨k,h3,hk⟩:=T.k
 unfold SetTable.gaveWay
 obtain ⟨j,rfl⟩:∃j,k=j+1:=⟨k - 1,by omega⟩
 rw[Bj] at hk
 have:t.mask % 2=1:=by omega
 simp[this]
theorem lL {S:Addr}{o:Obj}{es:Array (Int×Value)}{ep:Nat}{t:SetTable}{kb:List (List Int×Addr)}{k:List Int}{x:Addr} (hu:A.units < cLine)
  (ho:s.heap.get? S=some o) (hd:o.data=.set es ep t) (he:es.toList=ents prog w kb) (T:TOk t (kb.map fun p=>hsh prog w p.1)) (hkb:∀p∈kb,TK prog w s.heap p.1 p.2) (hx:TK prog w s.heap k x)
  {N:Nat} (hN:N < 10*turns t.mask) (h0:¬ Liv t (pth t.mask (hsh prog w k) N).j) (h1:∀m,m < N→Liv t (pth t.mask (hsh prog w k) m).j) {Q:SetFound→yI→Prop}
  (qf:(∀p∈kb,p.1≠k)→Q (.free (pth t.mask (hsh prog w k) N).j false) s) (qt:(∃p∈kb,p.1=k)→Q (.there none) s):
  ∀(fuel n:Nat) (stand:Option Probe),n≤N→N - n < fuel→stand.getD (t.probeStart (hsh prog w k))=pth t.mask (hsh prog w k) n→
   (∀(m i:Nat) (p:List Int×Addr),m < n→t.place[i]?=some (pth t.mask (hsh prog w k) m).j→kb[i]?=some p→p.1≠k)→
   wpAny (model prog w) A (D8 S (.ref x) (hsh prog w k) true fuel stand) Q E s:=by
 have hsz:es.size=kb.length:=by rw[←y4,he];simp[ents]
 have hfit:t.fits es.size=true:=T.fits (by rw[yK,hsz])
 have eat:∀i:Nat,es[i]?=(kb[i]?).map fun (p:List Int×Addr)=>(hsh prog w p.1,zY p.2):=fun i=>by rw[←zV,he,nt]
 intro fuel
 induction fuel with
 |zero=>intro n stand _ h;omega
 |succ fuel ih=>
  intro n stand hn hf hst hpre
  unfold D8
  refine yE (A_ ho hd hfit ?_)
  dsimp only
  rw[T.gave]
  simp only[yX,if_false]
  rw[hst]
  have hash:∀(i:Nat) (p:List Int×Addr),kb[i]?=some p→((es[i]?.map (fun (e:Int×Value)=>e.1)).getD 0:Int)=hsh prog w p.1:=fun i p hp=>by rw[eat,hp];rfl
  have pg:=kQ T (fun (i:Nat)=>(es[i]?.map (fun (e:Int×Value)=>e.1)).getD 0) (hsh prog w k) h0 h1 (10*turns t.mask) n hn (by omega)
  split
  ·rename_i met hmet
   rcases pg with ⟨e,hne⟩ |⟨m,i,hnm,hmN,hpl,hhi,e,hbef⟩
   ·have q:some met=some (.empty (pth t.mask (hsh prog w k) N).j none):=hmet.symm.trans e
    cases q
    dsimp only
    refine yJ (qf fun p hp hpk=>?_)
    obtain ⟨i,hi⟩:=AU.mp hp
    obtain ⟨m,j,hm,hpl,hj⟩:=pT T (h:=hsh prog w k) h0 (i:=i) (by rw[yN,hi,←hpk];rfl)
    rcases AV m n with hmn |hmn
    ·exact hpre m i p hmn (by rw[hj];exact hpl) hi hpk
    ·exact hne m i hmn hm (by rw[hj];exact hpl) (by rw[hash i p hi,hpk])
   ·have q:some met=some (.candidate (pth t.mask (hsh prog w k) m).j i (pth t.mask (hsh prog w k) (m+1))):=hmet.symm.trans e
    cases q
    dsimp only
    have hik:i < kb.length:=by rw[←hsz,←show t.place.size=es.size by rw[T.n,yK,hsz]];exact n9 hpl
    obtain ⟨p,hp⟩:∃p,kb[i]?=some p:=⟨_,yD hik⟩
    have hpm:p∈kb:=zi hp
    have hei:es[i]?=some (hsh prog w p.1,zY p.2):=by rw[eat,hp];rfl
    have rest:wpAny (model prog w) A (do
      let equal ←holding [zY p.2] (eqBool (zY p.2) (.ref x))
      let (es',_,t') ←setState S
      if true && equal then return .there none
      let some same:=t'.sameMemory t.moves t.mask |unsupported "set.changed-during-lookup:is-the-new-block-at-the-old-address"
      let still ←match (if same then t'.slot (pth t.mask (hsh prog w k) m).j else .empty) with
       | .live i'=>match es'[i']? with
        |some (_,y')=>do pure (if ←isSame y' (zY p.2) then some i' else none)
        |none=>pure none
       |_=>pure none
      match still with
      |none=>rule "set.search.anew";D8 S (.ref x) (hsh prog w k) true fuel none
      |some i'=>if equal then return .there (some i') else D8 S (.ref x) (hsh prog w k) true fuel (some (pth t.mask (hsh prog w k) (m+1)))) Q E s:=by
     refine yE (Ax (wpAny_eqBool_tuple hu (hkb p hpm) hx ?_))
     refine yE (A_ ho hd hfit ?_)
     dsimp only
     by_cases hpk:p.1=k
     ·rw[decide_eq_true hpk]
      simp only[Bool.and_self,if_true]
      exact yJ (qt ⟨p,hpm,hpk⟩)
     ·rw[decide_eq_false hpk]
      simp only[E4,yX,if_false]
      have hsm:t.sameMemory t.moves t.mask=some true:=by unfold SetTable.sameMemory;simp
      rw[hsm]
      dsimp only
      rw[if_pos rfl,jt T.R hpl]
      dsimp only
      rw[hei]
      dsimp only
      refine yE (wpAny_isSame_ref_self ?_)
      refine yE (yJ ?_)
      simp only[if_true]
      refine ih (m+1) (some (pth t.mask (hsh prog w k) (m+1))) (by omega) (by omega) rfl fun m' i' p' hm' hpl' hp'=>?_
      rcases AV m' n with z |z
      ·exact hpre m' i' p' z hpl' hp'
      ·rcases zD (AS hm') with y |y
       ·have:=hbef m' i' z y hpl'
        intro e'
        exact this (by rw[hash i' p' hp',e'])
       ·subst y
        have ei:=T.R.inj hpl hpl'
        subst ei
        rw[hp] at hp'
        cases hp'
        exact hpk
    by_cases hled:t.led=true
    ·rw[hled]
     simp only[Aq,yX,if_false]
     rw[hei]
     exact rest
    ·rw[show t.led=false by simpa using hled]
     simp only[Ba,if_true]
     refine yE (lW hx (fun v hv=>?_) ?_)
     ·obtain ⟨e',he',rfl⟩:=y8.mp hv
      have hm':e'∈es.toList:=by
       have:=Df.mp he'
       exact Df.mpr (Array.mem_filter.mp this).1
      rw[he] at hm'
      obtain ⟨p',hp',rfl⟩:=y8.mp hm'
      exact ⟨p'.1,p'.2,rfl,hkb p' hp'⟩
     ·simp only[yX,if_false]
      rw[hei]
      exact rest
  ·rename_i hno
   rcases pg with ⟨e,hne⟩ |⟨m,i,hnm,hmN,hpl,hhi,e,hbef⟩
   ·exact absurd e (hno _)
   ·exact absurd e (hno _)
end
section
variable {prog:yT}{w:World}{A:zh}{E:Value→yI→Prop}{s:yI}
structure SP (prog:yT) (w:World) (h:Heap) (S:Addr) (kb:List (List Int×Addr)):Prop where
 ex:∃o es ep t,h.get? S=some o∧o.ExactSet∧o.data=.set es ep t∧es.toList=ents prog w kb∧TOk t (kb.map fun p=>hsh prog w p.1)∧t.led=(!w.params.followText "set-order")∧t.plain=true∧t.tooFull=false∧t.mask < 8*kb.length+8
 keys:∀p∈kb,TK prog w h p.1 p.2
 nd:(kb.map (·.1)).Nodup
theorem TK.keep {h h':Heap}{k:List Int}{b S:Addr}{o:Obj}{es ep t} (x:TK prog w h k b) (ho:h.get? S=some o) (hd:o.data=.set es ep t) (hs:Cs S h h'):TK prog w h' k b:=by
 obtain ⟨o',items,n,ho',hc,hd',hi⟩:=x
 have hne:b≠S:=by
  rintro rfl
  obtain rfl:o'=o:=zU (ho'.symm.trans ho)
  rw[hd] at hd';exact nomatch hd'
 exact ⟨o',items,n,(hs.2 b hne).trans ho',hc,hd',hi⟩
theorem lY (x:Addr) (es:Array (Int×Value)):byScan (.ref x) es=false:=by simp[byScan,Value.scannable]
theorem lJ {α β:Type} (f:α→β) (xs:List α) (p:Nat) (x:α):(fH xs p x).map f=fH (xs.map f) p (f x):=by
 unfold fH;rw[An,Aa,Hz,Fw]
theorem dF {α:Type} (xs:List α) (p:Nat) (x:α):(fH xs p x).Perm (xs++[x]):=by
 unfold fH
 refine Gd.trans ?_
 rw[EG]
 exact (List.perm_append_singleton x xs).symm
theorem lQ {α β:Type}{kb:List α} (f:α→β) (d:β):∀(o:List Nat),(∀i∈o,i < kb.length)→o.map (fun i=>((kb.map f).toArray).getD i d)=(o.filterMap fun i=>kb[i]?).map f
 |[],_=>rfl
 |i::o,h=>by
  have hi:=h i yV
  rw[Aa,AO,yD hi,lQ f d o fun j hj=>h j (yM _ hj)]
  simp[A9,hi]
theorem oR {α:Type}{kb:List α}{o:List Nat} (h:o.Perm (zS kb.length)):(o.filterMap fun i=>kb[i]?).Perm kb:=by
 refine (h.filterMap _).trans ?_
 suffices (zS kb.length).filterMap (fun i=>kb[i]?)=kb by rw[this]
 have:∀(l pre:List α),(List.range' pre.length l.length).filterMap (fun i=>(pre++l)[i]?)=l:=by
  intro l
  induction l with
  |nil=>intro pre;rfl
  |cons x l ih=>
   intro pre
   rw[zH,List.range'_succ,AO]
   have e:(pre++x::l)[pre.length]?=some x:=by rw[zm (yO _)];simp
   rw[e]
   have:=ih (pre++[x])
   rw[DU,zM] at this
   simpa using this
 have q:=this kb []
 simpa [List.range_eq_range'] using q
theorem ur {t:SetTable}{hs:List Int} (T:TOk t hs) (h:t.tooFull=false):t.place.size+1≤t.mask:=by
 obtain ⟨k,h3,hk⟩:=T.k
 have hf:t.fill=t.place.size:=by unfold fill;rw[T.d];rfl
 have h8:2 ^ 3≤2 ^ k:=Ca (by decide) h3
 unfold tooFull at h
 rw[hf] at h
 simp at h
 omega
theorem w4 {S:Addr}{o:Obj}{es:Array (Int×Value)}{ep:Nat}{t:SetTable}{kb:List (List Int×Addr)}{Q:Unit→yI→Prop} (ho:s.heap.get? S=some o) (hex:o.ExactSet) (hd:o.data=.set es ep t) (he:es.toList=ents prog w kb)
  (T:TOk t (kb.map fun p=>hsh prog w p.1)) (hl:t.led=(!w.params.followText "set-order")) (hp:t.plain=true) (hkb:∀p∈kb,TK prog w s.heap p.1 p.2) (hnd:(kb.map (·.1)).Nodup) (h1:0 < kb.length) (hn:kb.length≤1000)
  (h:∀h' kb',Cs S s.heap h'→SP prog w h' S kb'→kb'.Perm kb→Q () {s with heap:=h' }):wpAny (model prog w) A (setRelay S (grown kb.length)) Q E s:=by
 have hsz:es.size=kb.length:=by rw[←y4,he];simp[ents]
 have hfit:t.fits es.size=true:=T.fits (by rw[yK,hsz])
 have eat:∀i:Nat,es[i]?=(kb[i]?).map fun (p:List Int×Addr)=>(hsh prog w p.1,zY p.2):=fun i=>by rw[←zV,he,nt]
 have hg:grown kb.length=kb.length*4:=by unfold grown;rw[if_neg (by omega)]
 rw[hg]
 obtain ⟨k,k3,ek,lk,uk⟩:=above (kb.length*4) (by omega)
 have hmask:(sizeAbove (kb.length*4) - 1)+1=2 ^ k:=by omega
 obtain ⟨t',order,e,T',hord,em,el,ep',_⟩:=tQ k3 hmask (hs:=es.map (·.1)) (by rw[GX,hsz];omega) t.finger (t.movedTo (sizeAbove (kb.length*4) - 1)) t.led t.plain
 have hrel:t.relaid (es.map (·.1)) (kb.length*4)=some (t',order):=e
 have hord':order.toList.Perm (zS kb.length):=by rw[GX,hsz] at hord;exact hord
 have hlt:∀i∈order.toList,i < kb.length:=fun i hi=>zK.mp (hord'.mem_iff.mp hi)
 have hpk:=oR hord'
 have hes:(order.filterMap (fun i=>es[i]?)).toList=ents prog w (order.toList.filterMap fun i=>kb[i]?):=by
  rw[Array.toList_filterMap]
  unfold ents
  rw[List.map_filterMap]
  congr 1
  funext i
  rw[eat]
 have hes2:(order.filterMap (fun i=>es[i]?)).size=es.size:=by
  rw[←y4,hes,hsz]
  unfold ents
  rw[yK,hpk.length_eq]
 unfold setRelay
 refine yE (A_ ho hd hfit ?_)
 dsimp only
 rw[if_neg (by rw[ek,Az];omega),hrel]
 have goal:wpAny (model prog w) A (do
   if (order.filterMap (fun i=>es[i]?)).size !=es.size then unsupported "internal:set-table-lost-an-element"
   pure (order.filterMap (fun i=>es[i]?),t'):Sem (Array (Int×Value)×SetTable)) (fun r s'=>wpAny (model prog w) A (storeSet S r.1 r.2) Q E s') E s:=by
  rw[hes2]
  simp only[bne_self_eq_false,yX,if_false]
  refine yJ ?_
  refine FF ho hd ?_ (by rw[hes2,hsz,Az];omega)
  have hg':(s.heap.update S (CU (order.filterMap (fun i=>es[i]?)) t')).get? S=some {o with data:=.set (order.filterMap (fun i=>es[i]?)) (ep+1) t' }:=by
   have:=Ai (CU (order.filterMap (fun i=>es[i]?)) t') ho (by rw[Gs _ t' hd];rfl)
   rw[Gs _ t' hd] at this;exact this
  have hsb:=Bo s.heap S (CU (order.filterMap (fun i=>es[i]?)) t')
  refine h _ (order.toList.filterMap fun i=>kb[i]?) hsb ⟨⟨_,_,_,t',hg',hex,rfl,hes,?_,by rw[el];exact hl,by rw[ep'];exact hp,?_,?_⟩,fun p hp'=>?_,?_⟩ hpk
  ·have:=lQ (kb:=kb) (fun p=>hsh prog w p.1) 0 order.toList hlt
   rw[←this]
   have e2:(es.map (·.1))=((kb.map fun p=>hsh prog w p.1)).toArray:=by
    apply Eg.mp
    rw[Eh,he,t9]
   rw[e2] at T'
   exact T'
  ·have hf:t'.fill=t'.place.size:=by unfold fill;rw[T'.d];rfl
   have hn':=T'.n
   rw[yK,hord'.length_eq,DV] at hn'
   unfold tooFull
   rw[hf,hn',em]
   simp
   omega
  ·rw[em,hpk.length_eq];omega
  ·exact (hkb p (hpk.mem_iff.mp hp')).keep ho hd hsb
  ·exact ((hpk.map (·.1)).nodup_iff).mpr hnd
 exact yE goal
end
section
variable {prog:yT}{w:World}{A:zh}{E:Value→yI→Prop}{s:yI}
theorem mL {S x:Addr}{kb:List (List Int×Addr)}{k:List Int}{Q:Bool→yI→Prop} (hu:A.units < cLine) (P:SP prog w s.heap S kb) (hx:TK prog w s.heap k x) (hn:kb.length < 1000)
  (h:∀b h' kb',Cs S s.heap h'→SP prog w h' S kb'→(if k∈kb.map (·.1) then kb'=kb else kb'.Perm (kb++[(k,x)]))→Q b {s with heap:=h' }):
  wpAny (model prog w) A (setAddHashed S (.ref x) (hsh prog w k)) Q E s:=by
 obtain ⟨⟨o,es,ep,t,ho,hex,hd,he,T,hl,hp,hfull,hmask⟩,hkb,hnd⟩:=P
 have P0:SP prog w s.heap S kb:=⟨⟨o,es,ep,t,ho,hex,hd,he,T,hl,hp,hfull,hmask⟩,hkb,hnd⟩
 have hsz:es.size=kb.length:=by rw[←y4,he];simp[ents]
 have hfit:t.fits es.size=true:=T.fits (by rw[yK,hsz])
 obtain ⟨N,hN,h0,h1⟩:=mN T (hsh prog w k)
 have hN':N < 100000:=by unfold turns at hN;omega
 unfold setAddHashed setAddHashedIn
 refine Ax (yE (A_ ho hd hfit ?_))
 dsimp only
 rw[lY]
 simp only[yX,if_false]
 unfold setSearch
 refine yE (lL hu ho hd he T hkb hx hN h0 h1 (fun hno=>?_) (fun hyes=>?_) 100000 0 none (zW _) (by omega) rfl fun m i p hm=>by omega)
 ·dsimp only
  have hk:k ∉ kb.map (·.1):=fun z=>by obtain ⟨p,hp',e⟩:=y8.mp z;exact hno p hp' e
  refine yE (A_ ho hd hfit ?_)
  dsimp only
  generalize hj:(pth t.mask (hsh prog w k) N).j=j at *
  have T1:=T.put (h:=hsh prog w k) (N:=N) (by rw[hj];exact h0) h1 (by have:=pS (mask:=t.mask) (hsh prog w k) N;omega) (ur T hfull)
  rw[hj] at T1
  have epl:(t.put j).1.plain=true:=hp
  have eled:(t.put j).1.led=(!w.params.followText "set-order"):=hl
  have emask:(t.put j).1.mask=t.mask:=rfl
  generalize (t.put j).1=t1 at *
  generalize (t.put j).2=q at *
  have hlen1:(fH kb q (k,x)).length=kb.length+1:=by rw[(dF kb q (k,x)).length_eq];simp
  have he1:(insertAt es q (hsh prog w k,zY x)).toList=ents prog w (fH kb q (k,x)):=by
   rw[dA,he]
   unfold ents
   rw[lJ]
   rfl
  have hsz1:(insertAt es q (hsh prog w k,zY x)).size=kb.length+1:=by
   rw[←y4,he1];unfold ents;rw[yK,hlen1]
  have T2:TOk t1 ((fH kb q (k,x)).map fun p=>hsh prog w p.1):=by rw[lJ];exact T1
  rw[if_pos epl]
  refine yE (w_ hx ?_)
  rw[if_pos rfl]
  have hg1:(s.heap.update S (CU (insertAt es q (hsh prog w k,zY x)) t1)).get? S=some {o with data:=.set (insertAt es q (hsh prog w k,zY x)) (ep+1) t1 }:=by
   have:=Ai (CU (insertAt es q (hsh prog w k,zY x)) t1) ho (by rw[Gs _ t1 hd];rfl)
   rw[Gs _ t1 hd] at this;exact this
  have hsb:=Bo s.heap S (CU (insertAt es q (hsh prog w k,zY x)) t1)
  have hkb1:∀p∈fH kb q (k,x),TK prog w (s.heap.update S (CU (insertAt es q (hsh prog w k,zY x)) t1)) p.1 p.2:=fun p hp'=>by
   have:=(dF kb q (k,x)).mem_iff.mp hp'
   rcases AY.mp this with z |z
   ·exact (hkb p z).keep ho hd hsb
   ·rw[zZ.mp z];exact hx.keep ho hd hsb
  have hnd1:((fH kb q (k,x)).map (·.1)).Nodup:=by
   rw[((dF kb q (k,x)).map (·.1)).nodup_iff,An,DW]
   refine ⟨hnd,by simp,fun a ha b hb=>?_⟩
   simp at hb
   subst hb
   rintro rfl
   exact hk ha
  refine yE (FF ho hd ?_ (by rw[hsz1,Az];omega))
  rw[Ba,Dj]
  by_cases hft:t1.tooFull=true
  ·rw[if_pos hft,hsz,←hlen1]
   refine yE (w4 (s:={s with heap:=s.heap.update S (CU (insertAt es q (hsh prog w k,zY x)) t1) }) hg1 hex rfl he1 T2 eled epl hkb1 hnd1 (by omega) (by omega) fun h' kb' hsb' P' pm=>yJ ?_)
   exact h true h' kb' (hsb.trans hsb') P' (by rw[if_neg hk];exact pm.trans (dF kb q (k,x)))
  ·rw[if_neg hft]
   refine yJ (h true _ (fH kb q (k,x)) hsb ⟨⟨_,_,_,t1,hg1,hex,rfl,he1,T2,eled,epl,by simpa using hft,by rw[emask,hlen1];omega⟩,hkb1,hnd1⟩ (by rw[if_neg hk];exact dF kb q (k,x)))
 ·dsimp only
  refine yJ ?_
  have hk:k∈kb.map (·.1):=by obtain ⟨p,hp',e⟩:=hyes;exact y8.mpr ⟨p,hp',e⟩
  exact h false s.heap kb (Ie S s.heap) P0 (by rw[if_pos hk])
end
section
variable {prog:yT}{w:World}{A:zh}
theorem TK.moved {s s':yI}{wr:List Addr}{G:Array B9→Array B9→Prop}{k:List Int}{b:Addr} (x:TK prog w s.heap k b) (hb:b ∉ wr) (m:Moved wr G s s'):TK prog w s'.heap k b:=by
 obtain ⟨o,its,n,ho,hc,hd,hi⟩:=x
 exact ⟨o,its,n,m.heap b o hb ho,hc,hd,hi⟩
theorem SP.moved {s s':yI}{wr:List Addr}{G:Array B9→Array B9→Prop}{S:Addr}{kb:List (List Int×Addr)} (x:SP prog w s.heap S kb) (hS:S ∉ wr) (hb:∀p∈kb,p.2 ∉ wr) (m:Moved wr G s s'):SP prog w s'.heap S kb:=by
 obtain ⟨⟨o,es,ep,t,ho,r⟩,hk,hn⟩:=x
 exact ⟨⟨o,es,ep,t,m.heap S o hS ho,r⟩,fun p hp=>(hk p hp).moved (hb p hp) m,hn⟩
structure Got (kx:Nat→List Int×Addr) (i:Nat) (kb:List (List Int×Addr)):Prop where
 src:∀p∈kb,∃j,j < i∧p=kx j
 all:∀j,j < i→(kx j).1∈kb.map (·.1)
 len:kb.length≤i
variable {R:Fj→yI→Prop}{I:Addr}{fp wr:List Addr}{G:Array B9→Array B9→Prop}{n:Nat}{P:Nat→Value→Prop}{St:Nat→yI→Prop}
theorem rq (W:WalksS prog w A.in1 I fp wr G n P St) (hu:A.in1.units < cLine) {S:Addr} (hSf:S ∉ fp) (kx:Nat→List Int×Addr) (hP:∀i v,P i v→v=.ref (kx i).2) (hwr:∀i,i < n→(kx i).2 ∉ wr) (hn:n≤1000):
  ∀(k i:Nat) (s:yI) (kb:List (List Int×Addr)),n - i=k→i≤n→St i s→SP prog w s.heap S kb→Got kx i kb→(∀j,j < n→TK prog w s.heap (kx j).1 (kx j).2)→
   (∀s' kb',Moved (S::wr) G s s'→SP prog w s'.heap S kb'→Got kx n kb'→R (.ok (.ret .none)) s')→
   CA (model prog w) A (.builtin "set.update.loop" ⟨[.ref S,.ref I],[]⟩) R s:=by
 have hSw:S ∉ wr:=fun h=>hSf (W.sub _ h)
 have more:∀b∈wr,b∈S::wr:=fun b hb=>yM _ hb
 intro k
 induction k with
 |zero=>
  intro i s kb hk hi st hS g tk hR
  obtain rfl:i=n:=by omega
  refine AB PyProof.Rows.F.entry_set_update_loop ?_
  rw[Ag PyProof.Rows.F.plain_set_update_loop _]
  show wpAny _ A.in1 (C6 (.ref I) >>=_) _ _ s
  refine yE (W.done s _ _ st fun s' m=>?_)
  exact yJ (hR s' kb (m.mono more) (hS.moved hSw (fun p hp=>by obtain ⟨j,hj,rfl⟩:=g.src p hp;exact hwr j hj) m) g)
 |succ k ih=>
  intro i s kb hk hi st hS g tk hR
  have hlt:i < n:=by omega
  have hkb:∀p∈kb,p.2 ∉ wr:=fun p hp=>by obtain ⟨j,hj,rfl⟩:=g.src p hp;exact hwr j (by omega)
  refine AB PyProof.Rows.F.entry_set_update_loop ?_
  rw[Ag PyProof.Rows.F.plain_set_update_loop _]
  show wpAny _ A.in1 (C6 (.ref I) >>=_) _ _ s
  refine yE (W.item i s _ _ hlt st fun v s1 pv st1 m=>?_)
  obtain rfl:=hP i v pv
  have hS1:=hS.moved hSw hkb m
  have tk1:∀j,j < n→TK prog w s1.heap (kx j).1 (kx j).2:=fun j hj=>(tk j hj).moved (hwr j hj) m
  show wpAny _ A.in1 (holding [zY (kx i).2] (setAdd S (.ref (kx i).2)) >>=_) _ _ s1
  refine yE (Ax ?_)
  unfold setAdd
  refine Ax (yE (wpAny_pyHash_tuple hu (tk1 i hlt) ?_))
  refine mL (s:={s1 with toks:=s1.toks+((kx i).1.length+1) }) hu hS1 (tk1 i hlt) (by have:=g.len;omega) fun b h' kb' sb hS2 hkk=>?_
  obtain ⟨⟨o,es,ep,t,ho,hex,hd,hrest⟩,hks,hnd⟩:=hS1
  have same:∀b o,b ∉ S::wr→s1.heap.get? b=some o→h'.get? b=some o:=fun b o hb e=>by rw[sb.2 b (fun z=>hb (by rw[z];exact yV))];exact e
  refine yJ ⟨AF PyProof.Rows.F.plain_set_update_loop _,ih (i+1) _ kb' (by omega) hlt (W.frame _ s1 _ _ st1 (by show s1.toks≤s1.toks+_;omega) fun b hb o e=>?_) hS2 ?_ (fun j hj=>(tk1 j hj).keep ho hd sb) fun s2 kb2 m2 hS3 g2=>?_⟩
  ·rw[sb.2 b (fun z=>hSf (by rw[←z];exact hb))];exact e
  ·by_cases hin:(kx i).1∈kb.map (·.1)
   ·rw[if_pos hin] at hkk
    subst hkk
    refine ⟨fun p hp=>?_,fun j hj=>?_,by have:=g.len;omega⟩
    ·obtain ⟨j,hj,e⟩:=g.src p hp;exact ⟨j,by omega,e⟩
    ·rcases zD (AS hj) with z |z
     ·exact g.all j z
     ·rw[z];exact hin
   ·rw[if_neg hin] at hkk
    refine ⟨fun p hp=>?_,fun j hj=>?_,by rw[hkk.length_eq];have:=g.len;simp;omega⟩
    ·rcases AY.mp (hkk.mem_iff.mp hp) with z |z
     ·obtain ⟨j,hj,e⟩:=g.src p z;exact ⟨j,by omega,e⟩
     ·exact ⟨i,Bf i,by rw[zZ.mp z]⟩
    ·rw[(hkk.map (·.1)).mem_iff,An]
     rcases zD (AS hj) with z |z
     ·exact Ak _ (g.all j z)
     ·rw[z];exact yS _ (by simp)
  ·exact hR s2 kb2 (Moved.trans W.gtrans ((m.mono more).then_heap (by show s1.toks≤s1.toks+_;omega) same) m2) hS3 g2
end
section
variable {prog:yT}{w:World}{A:zh}{E:Value→yI→Prop}{s:yI}
abbrev bS (w:World):Obj:={cls:=.type "set",dict:=none,data:=.set #[] 0 (.fresh 0 0 (!w.params.followText "set-order")) }
theorem ri:TOk (.fresh 0 0 (!w.params.followText "set-order")) [] where
 R:=by intro i j x y _ h;simp[SetTable.fresh] at h
 d:=rfl
 k:=⟨3,by decide,rfl⟩
 n:=rfl
 f:=by show 0≤7;decide
 le:=by intro i x h;simp[SetTable.fresh] at h
 reach:=by intro i x h hi;simp[SetTable.fresh] at hi
theorem rg {h:Heap}{S:Addr} (e:h.get? S=some (bS w)):SP prog w h S []:=by
 refine ⟨⟨_,_,_,_,e,⟨rfl,rfl,rfl⟩,rfl,rfl,ri,rfl,rfl,by simp[SetTable.tooFull,SetTable.fresh,SetTable.fill],by show 7 < 8;decide⟩,fun p hp=>by simp at hp,by simp⟩
theorem tp (a:Value) {Q:Value→yI→Prop} (h:Q (.ref s.heap.objs.size) {s with heap:=s.heap.push (bS w) }):
  CA (model prog w) A (.call (.builtin "set.__new__") ⟨[.type "set",a],[]⟩) (wants Q E) s:=by
 refine Gu ?_
 show wpAny _ A.in1 (do Ge "set.__new__" ⟨[.type "set",a],[]⟩;again (.builtin "set.__new__" ⟨[.type "set",a],[]⟩)) _ _ s
 refine yE (Fd (PySem.F.newCall_set_1 a) (yJ ⟨AF EH _,AB PySem.F.entry_set_new ?_⟩))
 rw[Ag EH _]
 unfold Builtin.«set.__new__» Builtin.Frozenset.newClass
 have hsub:=sub_set_self
 obtain ⟨hp,g,d,tk,os⟩:=s
 dsimp only
 wp_walk
 refine Co (yJ ?_)
 dsimp only
 simp only[newObj]
 exact yE (wpAny_alloc (yJ (yJ h)))
end
section
variable {prog:yT}{w:World}{A:zh}{E:Value→yI→Prop}{s:yI}
set_option maxRecDepth 100000 in
theorem call_set_pts {l:Addr}{items:Array Value}{Q:Value→yI→Prop} (kx:Nat→List Int×Addr) (hh:A.handled=none) (hu:A.in1.in1.in1.units < cLine) (hl:s.heap.IsList l items)
  (hit:∀(i:Nat) (v:Value),items[i]?=some v→v=.ref (kx i).2) (htk:∀i,i < items.size→TK prog w s.heap (kx i).1 (kx i).2) (hn:items.size≤1000)
  (h:∀(h':Heap) (tk:Nat) (kb:List (List Int×Addr)),SP prog w h' s.heap.objs.size kb→Got kx items.size kb→(∀b o,s.heap.get? b=some o→h'.get? b=some o)→Q (.ref s.heap.objs.size) {s with heap:=h',toks:=tk }):
  wpAny (model prog w) A (call (.type "set") [.ref l]) Q E s:=by
 obtain ⟨cc,tl,hmro⟩:=A0.mro
 have hmade:=A0.made
 have hsub:=A0.sub
 refine Hm (Gu ?_)
 show wpAny _ _ (callAny (.type "set") _) _ _ _
 refine yJ ⟨Code.quiet_builtin _ (by decide+kernel),AB PySem.F.entry_type_call ?_⟩
 rw[Around.under_plain (weight_type_call_type "set" [.ref l] []) rfl]
 have g1:=A0.notType
 have g2:=A0.canCreate
 have g3:=PySem.F.typeCall_set_1 (.ref l)
 repeat (any_goals (first |assumption |wp_step))
 refine C7 (tp (w:=w) (.ref l) (E:=E) (Q:=fun obj s₁=>obj=.ref s.heap.objs.size∧s₁={s with heap:=s.heap.push (bS w) }) ⟨rfl,rfl⟩) fun r s₁ hr=>?_
 cases r with
 |error e=>exact hr
 |ok fl=>
  cases fl with
  |ret obj=>
   obtain ⟨rfl,rfl⟩:=hr
   have hS:(s.heap.push (bS w)).get? s.heap.objs.size=some (bS w):=yR _ rfl
   have hT:HA {s with heap:=s.heap.push (bS w) } (.ref s.heap.objs.size) "set":=⟨_,hS,rfl⟩
   have hli:=A0.init.lookup
   have hbi:=A0.init.bind (.ref s.heap.objs.size)
   repeat (any_goals (first |assumption |wp_step))
   refine C7 (codeAny_call_builtin (R:=wants (fun r s₂=>r=.none∧∃h' tk kb,s₂={s with heap:=h',toks:=tk }∧
     SP prog w h' s.heap.objs.size kb∧Got kx items.size kb∧(∀b o,s.heap.get? b=some o→h'.get? b=some o)) E) A0.init.plain PySem.F.entry_set_init (check_set_init_1 hT ?_)) fun r₂ s₂ hr₂=>?_
   ·obtain ⟨ol,hol,hcl,nl,hdl⟩:=hl
    obtain ⟨ocls,odict,odata,oslots⟩:=ol
    simp only at hcl hdl
    subst hcl;subst hdl
    have hol':(s.heap.push (bS w)).get? l=some {cls:=.type "list",dict:=odict,data:=.seq items nl,slots:=oslots }:=yG _ hol
    have k1:=PySem.F.sub_list_set
    have k2:=PySem.F.sub_list_frozenset
    have k3:(AD "list"==AD "dict")=false:=by decide
    have hl1:(s.heap.push (bS w)).IsList l items:=⟨_,hol',rfl,nl,rfl⟩
    unfold Builtin.«set.__init__» noKeywords Builtin.Frozenset.updateFrom
    generalize hPI:HE=PI
    wp_walk
    subst hPI
    refine A8 hl1 (yE (wpAny_runValue ?_))
    have hlS:l < s.heap.objs.size:=yQ hol
    have h3:A.in1.in1.in1.handled=none:=by simp[hh]
    have szI:(s.heap.push (bS w)).objs.size=s.heap.objs.size+1:=z9 ..
    have hneI:l≠(s.heap.push (bS w)).objs.size:=by rw[szI];exact zb (AE hlS)
    have hSf:s.heap.objs.size ∉ [(s.heap.push (bS w)).objs.size,l]:=by
     rw[szI]
     intro z
     rcases yP.mp z with z |z
     ·exact absurd z (zb (Bf _))
     ·exact absurd (zZ.mp z) (A4 hlS)
    refine rq ((Walks.list h3 _ l hneI items).toS) hu hSf kx hit (fun i hi=>?_) hn (items.size - 0) 0 _ [] (by omega) (zW _)
     ⟨⟨_,yR _ rfl,rfl,rfl⟩,(hl1.push _)⟩ ?_ ⟨fun p hp=>by simp at hp,fun j hj=>by omega,by simp⟩ (fun j hj=>?_) fun s' kb m hS' g=>?_
    ·intro z
     have z':=zZ.mp z
     obtain ⟨o,_,_,ho,_⟩:=htk i hi
     have:=yQ ho
     rw[z',szI] at this
     exact zO _ (ED (Bf _) this)
    ·exact rg (yG _ hS)
    ·obtain ⟨o,its,k,ho,r⟩:=htk j hj
     exact ⟨o,its,k,yG _ (yG _ ho),r⟩
    ·obtain ⟨h',g',d',tk',os'⟩:=s'
     obtain rfl:g'=s.gens:=m.gens
     obtain rfl:d'=s.drawn:=m.drawn
     obtain rfl:os'=s.os:=m.os
     refine yJ ?_
     show wpAny _ _ (ret zl) _ _ _
     refine yJ ⟨rfl,h',tk',kb,rfl,hS',g,fun b o e=>?_⟩
     have hb:=yQ e
     refine m.heap b o (fun z=>?_) (yG _ (yG _ e))
     rcases yP.mp z with z |z
     ·exact absurd z (zb hb)
     ·have z':=zZ.mp z
      rw[z',szI] at hb
      exact zO _ (ED (Bf _) hb)
   ·cases r₂ with
    |error e=>exact hr₂
    |ok fl₂=>
     cases fl₂ with
     |ret r=>
      obtain ⟨rfl,h',tk,kb,rfl,hS',g,hk'⟩:=hr₂
      repeat (any_goals (first |assumption |wp_step))
      exact h _ _ kb hS' g hk'
     |_=>exact hr₂.elim
  |_=>exact hr.elim
end
theorem cW:Slot "set_iterator" "__next__" "set_iterator.__next__":=
 .of (owner:="set_iterator") (n:="__next__") (by rw[Dr,B4];kernel_rfl) (by decide+kernel) (by decide+kernel) (by decide+kernel) (by first |exact .inl (by decide+kernel) |exact .inr (by decide+kernel)) (by rw[Cf];kernel_rfl)
theorem i7:entryFor table "set_iterator.__next__"=some Builtin.«set_iterator.__next__»:=entryFor_of_tree (by kernel_rfl)
theorem jR (a:Value):HJ "set_iterator.__next__" ⟨[a],[]⟩:=by unfold HJ;kernel_rfl
theorem me:entryFor table "set.__iter__"=some Builtin.«frozenset.__iter__»:=GY (id':="frozenset.__iter__") (by kernel_rfl) rfl (by decide+kernel) (by kernel_rfl)
theorem mt {α:Type}{l:List α}{i:Nat} (h:i < l.length):(l[i]::l.eraseIdx i).Perm l:=by
 rw[List.eraseIdx_eq_take_drop_succ]
 refine Gd.symm.trans ?_
 rw[←List.drop_eq_getElem_cons h,EG]
theorem m5 {α:Type} (next:Nat→Nat):∀(fuel k:Nat) (left:List α) (out:Array α),left.length=fuel→(pickOrder.go next fuel k left out).toList.Perm (out.toList++left)
 |0,k,left,out,h=>by
  obtain rfl:left=[]:=AZ.mp h
  rw[pickOrder.go,CB]
 |fuel+1,k,left,out,h=>by
  have hi:next k % left.length < left.length:=BK _ (by omega)
  rw[pickOrder.go,yD hi]
  refine (m5 next fuel (k+1) _ _ (by rw[List.length_eraseIdx_of_lt hi];omega)).trans ?_
  rw[Array.toList_push,DU]
  refine List.Perm.append_left _ ?_
  rw[List.singleton_append]
  exact mt hi
theorem qM {α:Type} (next:Nat→Nat) (xs:Array α):(Fx next xs).toList.Perm xs.toList:=by
 unfold Fx
 have:=m5 next xs.size 0 xs.toList #[] (by simp)
 simpa using this
section
variable {prog:yT}{w:World}{A:zh}{E:Value→yI→Prop}{s:yI}
def ca (w:World) (S:Addr) (es:Array (Int×Value)) (ep:Nat):List Value:=(if w.params.followText "set-order"=true then Fx (w.params.setOrder S ep) es else es).toList.map (·.2)
theorem dG (w:World) (S:Addr) (es:Array (Int×Value)) (ep:Nat):(ca w S es ep).Perm (es.toList.map (·.2)):=by
 unfold ca
 refine List.Perm.map _ ?_
 split
 ·exact qM _ es
 ·exact E6 _
def eM (t:SetTable):Nat→Nat
 |0=>0
 |j+1=>t.place.getD j 0+1
def aT (w:World) (t:SetTable) (i:Nat):Nat:=if w.params.followText "set-order"=true then 0 else eM t i
def mq (w:World) (h:Heap) (it S:Addr) (t:SetTable) (i n ep:Nat):Prop:=∃o,h.get? it=some o∧o.cls=.type "set_iterator"∧o.data=.fields #[BZ (aT w t i),BZ i,.ref S,BZ n,BZ ep]
theorem mq.ty {it S:Addr}{t:SetTable}{i n ep:Nat} (x:mq w s.heap it S t i n ep):s.TypeIs (.ref it) "set_iterator":=let ⟨o,ho,hc,_⟩:=x;⟨o,ho,hc⟩
structure SO (prog:yT) (w:World) (o:Obj) (es:Array (Int×Value)) (ep:Nat) (t:SetTable) (hs:List Int):Prop where
 ex:o.ExactSet
 d:o.data=.set es ep t
 T:TOk t hs
 n:hs.length=es.size
 led:t.led=(!w.params.followText "set-order")
 plain:t.plain=true
theorem p_ {S:Addr}{o:Obj}{es ep t hs}{Q:Bool→yI→Prop} (O:SO prog w o es ep t hs) (ho:s.heap.get? S=some o) (h:Q false s):wpAny (model prog w) A (setDrawn S) Q E s:=by
 unfold setDrawn Hq
 refine yE (A_ ho O.d (O.T.fits O.n) (yE (yE (Co (yJ (yJ ?_))))))
 have q:Q (!w.params.followText "set-order" && (!t.plain && decide (es.size >1))) s:=by rw[O.plain];simpa using h
 exact q
theorem rN {S:Addr}{o:Obj}{es ep t hs}{Q:Value→yI→Prop} (O:SO prog w o es ep t hs) (ho:s.heap.get? S=some o)
  (hQ:Q (.ref s.heap.objs.size) {s with heap:=s.heap.push {cls:=.type "set_iterator",data:=.fields #[BZ 0,BZ 0,.ref S,BZ es.size,BZ ep] } }):wpAny (model prog w) A (HE (.ref S)) Q E s:=by
 have hT:s.TypeIs (.ref S) "set":=⟨o,ho,O.ex.1⟩
 refine FG hT EI (AM EI hT me ?_ (PySem.F.args_set_iter_1 _))
 unfold Builtin.«frozenset.__iter__»
 show wpAny _ _ (Builtin.Frozenset.sizeOf S >>=_) _ _ s
 unfold Builtin.Frozenset.sizeOf
 refine yE (yE (Ds ho O.d (O.T.fits O.n) (yJ ?_)))
 refine yE (p_ O ho ?_)
 simp only[yX,if_false]
 refine yE (yJ ?_)
 refine yE (wpAny_setEpoch_of ho O.d (O.T.fits O.n) ?_)
 refine yE (A7 (yJ ⟨_,rfl,"set_iterator",_,⟨_,yR _ rfl,rfl⟩,cW.lookup,?_⟩))
 exact hQ
theorem mw {t:SetTable}{hs:List Int} (T:TOk t hs) {i:Nat} (hi:i≤t.place.size):below t.place (eM t i)=i:=by
 obtain ⟨h1,h2,h3⟩:=dU T.R (eM t i)
 cases i with
 |zero=>
  dsimp only[eM] at *
  rcases DE (below t.place 0) with z |z
  ·exact z
  ·have:=h1 0 _ z (dl (by omega));omega
 |succ j=>
  dsimp only[eM] at *
  have hj:j < t.place.size:=by omega
  have ej:t.place.getD j 0=t.place[j]:=by simp[A9,hj]
  rw[ej] at h1 h2 h3 ⊢
  generalize hb:below t.place (t.place[j]+1)=b at *
  rcases AR b (j+1) with z |z |z
  ·have:=h2 j t.place[j] (by omega) (dl hj);omega
  ·exact z
  ·have q:=h1 (j+1) _ z (dl (by omega))
   have:=T.R j (j+1) _ _ (by omega) (dl hj) (dl (show j+1 < t.place.size by omega))
   omega
theorem i4 {S:Addr}{o:Obj}{es ep t hs}{i:Nat}{Q:Option (Value×Nat)→yI→Prop} (O:SO prog w o es ep t hs) (ho:s.heap.get? S=some o) (hi:i≤es.size)
  (h:Q (((ca w S es ep)[i]?).map fun v=>(v,aT w t (i+1))) s):wpAny (model prog w) A (setNext S (aT w t i) i ep) Q E s:=by
 have hfit:=O.T.fits O.n
 have hpl:t.place.size=es.size:=by rw[O.T.n,O.n]
 unfold setNext Hq
 refine yE (A_ ho O.d hfit (yE (yE (Co (yJ ?_)))))
 by_cases bt:w.params.followText "set-order"=true
 ·dsimp only
  rw[show (model prog w).w.params.followText "set-order"=true from bt,if_pos rfl,if_neg (by simp)]
  unfold setWalk Hq
  refine yE (yE (A_ ho O.d hfit (yE (yE (Co (yJ ?_))))))
  dsimp only
  rw[show (model prog w).w.params.followText "set-order"=true from bt,if_pos rfl]
  refine yE (Co (yJ (yJ ?_)))
  have e:FH (fun (e:Int×Value)=>(e.2,aT w t i)) (Fx (w.params.setOrder S ep) es)[i]?=((ca w S es ep)[i]?).map fun v=>(v,aT w t (i+1)):=by
   unfold ca aT
   rw[if_pos bt,if_pos bt,if_pos bt,yN,zV,Option.map_map]
   rfl
  have q:Q (FH (fun (e:Int×Value)=>(e.2,aT w t i)) (Fx (w.params.setOrder S ep) es)[i]?) s:=by rw[e];exact h
  exact q
 ·have bf:w.params.followText "set-order"=false:=by simpa using bt
  dsimp only
  rw[show (model prog w).w.params.followText "set-order"=false from bf,if_neg (by simp)]
  have e1:aT w t i=eM t i:=by unfold aT;rw[if_neg bt]
  have e2:below t.place (aT w t i)=i:=by rw[e1];exact mw O.T (by omega)
  have e3:(match es[below t.place (aT w t i)]?,t.place[below t.place (aT w t i)]? with
    |some (_,x),some j=>some (x,j+1)
    |_,_=>none)=((ca w S es ep)[i]?).map fun v=>(v,aT w t (i+1)):=by
   rw[e2]
   unfold ca aT
   rw[if_neg bt,if_neg bt,yN,zV]
   rcases AV i es.size with z |z
   ·have z':i < t.place.size:=by omega
    simp[z,z',A9,eM]
   ·have z':t.place.size≤i:=by omega
    simp[z,z']
  split
  ·rename_i hc
   exact absurd (show (!t.plain && decide (es.size >1))=true from hc) (by rw[O.plain];simp)
  ·refine yE ?_
   show wpAny _ _ (if (!t.led && !es.isEmpty)=true then unsupported "set:maker-not-led" else pure ()) _ _ _
   rw[O.led,bf,if_neg (by simp)]
   refine yJ (yJ ?_)
   have q:Q (match es[below t.place (aT w t i)]?,t.place[below t.place (aT w t i)]? with
    |some (_,x),some j=>some (x,j+1)
    |_,_=>none) s:=by rw[e3];exact h
   exact q
theorem o7 {S it:Addr}{o:Obj}{es ep t hs}{i:Nat}{v:Value}{Q:Option Value→yI→Prop} (O:SO prog w o es ep t hs) (ho:s.heap.get? S=some o) (hit:mq w s.heap it S t i es.size ep) (hv:(ca w S es ep)[i]?=some v)
  (hQ:∀h',mq w h' it S t (i+1) es.size ep→Cs it s.heap h'→Q (some v) {s with heap:=h' }):wpAny (model prog w) A (C6 (.ref it)) Q E s:=by
 obtain ⟨oi,hoi,hc,hd⟩:=id hit
 have hfit:=O.T.fits O.n
 unfold C6
 refine yE (D9 (BS (name:=Str.ofString "__next__") hit.ty cW (AM cW hit.ty i7 ?_ (jR _))))
 unfold Builtin.«set_iterator.__next__»
 refine yE (m:=slotArgs "__next__" 0 _) (yJ ?_)
 dsimp only
 refine yE (GZ hoi hd ?_)
 dsimp only[BZ]
 refine yE (Ds ho O.d hfit ?_)
 rw[if_neg (by simp)]
 have hlt:i < es.size:=by
  have q:=(yU.mp hv).1
  rw[(dG w S es ep).length_eq,yK,y4] at q
  exact q
 rw[show ((aT w t i:Nat):Int).toNat=aT w t i from BL _,show ((i:Nat):Int).toNat=i from BL _,show ((ep:Nat):Int).toNat=ep from BL _]
 refine yE (i4 O ho (Af hlt) ?_)
 rw[hv]
 dsimp only[FH]
 refine yE (E7 hoi hd (by simp) ?_)
 have g1:=Ai (Obj.mapFields (·.setIfInBounds 0 (zR ((aT w t (i+1):Nat):Int) 0))) hoi (EJ (BA hd _))
 refine yE (E7 g1 (BA hd _) (by simp) ?_)
 refine yJ ⟨_,rfl,yJ (hQ _ ?_ ((Bo ..).trans (Bo ..)))⟩
 refine ⟨_,Ai _ g1 (EJ (BA (BA hd _) _)),(FI ..).trans ((FI ..).trans hc),?_⟩
 rw[BA (BA hd _)]
 simp[BZ]
theorem r8 {S it:Addr}{o:Obj}{es ep t hs}{Q:Option Value→yI→Prop} (hh:A.handled=none) (O:SO prog w o es ep t hs) (ho:s.heap.get? S=some o) (hit:mq w s.heap it S t es.size es.size ep)
  (hQ:∀h',Heap.ExtBut it s.heap h'→Q none {s with heap:=h' }):wpAny (model prog w) A (C6 (.ref it)) Q E s:=by
 obtain ⟨oi,hoi,hc,hd⟩:=id hit
 have hfit:=O.T.fits O.n
 unfold C6
 refine yE (D9 (BS (name:=Str.ofString "__next__") hit.ty cW (AM cW hit.ty i7 ?_ (jR _))))
 unfold Builtin.«set_iterator.__next__»
 refine yE (m:=slotArgs "__next__" 0 _) (yJ ?_)
 dsimp only
 refine yE (GZ hoi hd ?_)
 dsimp only[BZ]
 refine yE (Ds ho O.d hfit ?_)
 rw[if_neg (by simp)]
 rw[show ((aT w t es.size:Nat):Int).toNat=aT w t es.size from BL _,show ((es.size:Nat):Int).toNat=es.size from BL _,show ((ep:Nat):Int).toNat=ep from BL _]
 refine yE (i4 O ho (yO _) ?_)
 rw[show (ca w S es ep)[es.size]?=none from zN (by rw[(dG w S es ep).length_eq,yK,y4];exact yO _)]
 dsimp only[FH]
 refine yE (E7 hoi hd (by simp) ?_)
 refine yE ?_
 simp only[newExc,newTuple]
 refine yE (A7 ?_ (by size_fits))
 refine yE (m:=G0 _ _) (Fd (a:=zl) (by first |rfl | (simp only[G0];rfl)) ?_)
 refine A7 ?_ (by size_fits)
 simp only[raiseNew]
 refine yE (wpAny_handled ?_)
 rw[show A.in1.handled=none from hh]
 refine yE (yJ (wpAny_throw ?_))
 refine yE (Bw (T:="StopIteration") (b:=true) ⟨_,yR _ rfl,rfl⟩ G3 ?_)
 exact yJ (hQ _ (((Bo ..).extBut.push _).push _))
end
end ST
namespace ST
open PySem PySem.SetTable PySem.W
theorem jF:Slot "set_iterator" "__iter__" "set_iterator.__iter__":=
 .of (owner:="set_iterator") (n:="__iter__") (by rw[Dr,B4];kernel_rfl) (by decide+kernel) (by decide+kernel) (by decide+kernel) (by first |exact .inl (by decide+kernel) |exact .inr (by decide+kernel)) (by rw[Cf];kernel_rfl)
theorem ml:entryFor table "set_iterator.__iter__"=some Builtin.«dict_keyiterator.__iter__»:=GY (id':="dict_keyiterator.__iter__") (by kernel_rfl) rfl (by decide+kernel) (by kernel_rfl)
theorem oU (a:Value):HJ "set_iterator.__iter__" ⟨[a],[]⟩:=by unfold HJ;kernel_rfl
section
variable {prog:yT}{w:World}{A:zh}{E:Value→yI→Prop}{s:yI}
theorem ub {it S:Addr}{t:SetTable}{i n ep:Nat}{Q:Value→yI→Prop} (hit:mq w s.heap it S t i n ep) (h:Q (.ref it) s):wpAny (model prog w) A (HE (.ref it)) Q E s:=by
 refine FG hit.ty jF (AM jF hit.ty ml ?_ (oU _))
 exact yJ ⟨_,rfl,"set_iterator",_,hit.ty,cW.lookup,h⟩
theorem oO (hh:A.handled=none) {it S:Addr} (hne:S≠it) {o:Obj}{es ep t hs} (O:SO prog w o es ep t hs):
  Walks prog w A it [it,S] [it] es.size (fun i v=>(ca w S es ep)[i]?=some v) (fun i h=>mq w h it S t i es.size ep∧h.get? S=some o) where
 sub:=fun b hb=>by simp at hb;simp[hb]
 frame:=fun _ _ _ st hk=>⟨let ⟨x,hx,r⟩:=st.1;⟨x,hk it (by simp) x hx,r⟩,hk S (by simp) o st.2⟩
 item:=fun i s Q E hi st hQ=>by
  obtain ⟨v,hv⟩:∃v,(ca w S es ep)[i]?=some v:=⟨_,yD (by rw[(dG w S es ep).length_eq,yK,y4];exact hi)⟩
  refine o7 O st.2 st.1 hv fun h' hit' sb=>?_
  exact hQ v h' s.toks hv ⟨hit',(sb.2 S hne).trans st.2⟩ fun b x hb e=>sb.extBut b x (fun z=>hb (by simp[z])) e
 done:=fun s Q E st hQ=>r8 hh O st.2 st.1 fun h' xb=>hQ h' s.toks fun b x hb e=>xb b x (fun z=>hb (by simp[z])) e
 self:=fun _ _ _ _ st hQ=>ub st.1 hQ
theorem sC {r:Addr}{Q:Bool→yI→Prop} (hT:s.TypeIs (.ref r) "set") (h:Q false s):wpAny (model prog w) A (Builtin.List.listLengthHint (.ref r)) Q E s:=by
 unfold Builtin.List.listLengthHint
 refine yE (Dq hT PySem.F.slot_set_len.lookup ?_)
 generalize hid:("set.__len__":String)=id0
 wp_delta
 rw[show splitId id0=some ("set","__len__") from by subst hid;decide+kernel]
 subst hid
 refine yE (Bw (T:="set") (b:=true) hT (by rw[Cf];kernel_rfl) ?_)
 refine BN (fun z=>absurd z (by decide)) (fun _=>?_)
 refine BN (fun _=>?_) (fun z=>absurd (by decide+kernel) z)
 exact yE (FT hT (yJ h))
theorem tD {S:Addr}{o:Obj}{es ep t hs} (O:SO prog w o es ep t hs):KdlSrc prog w "set" S S es.size (fun i v=>(ca w S es ep)[i]?=some v) (fun h=>h.get? S=some o) where
 type:=fun _ hm=>⟨o,hm,O.ex.1⟩
 there:=fun _ hm=>⟨yQ hm,yQ hm⟩
 keep:=fun _ _ hm hk=>hk S (.inl rfl) o hm
 notList:=by decide
 notTuple:=by decide
 hint:=fun _ _ _ _ hm hq=>sC ⟨o,hm,O.ex.1⟩ hq
 iter:=fun _ s hh hm=>⟨_,_,(fun _ _ hq=>rN O hm hq),oO hh (zb (yQ hm)) O,⟨⟨_,yR _ rfl,rfl,by simp[aT,eM]⟩,yG _ hm⟩⟩
end
end ST
namespace ST
open PySem PySem.W PyProof.Rows
inductive e9 (lt:Nat→Nat→Bool) (n:Nat) {α:Type}:KasT α→α→Prop
 |ret (a:α):e9 lt n (.ret a) a
 |ask {i j:Nat}{k:Bool→KasT α}{a:α}:i < n→j < n→e9 lt n (k (lt i j)) a→e9 lt n (.ask i j k) a
variable {lt:Nat→Nat→Bool}{n:Nat}
theorem e9.bind {α β:Type}{t:KasT α}{a:α}{f:α→KasT β}{b:β} (h:e9 lt n t a) (h':e9 lt n (f a) b):e9 lt n (t.bind f) b:=by
 induction h with
 |ret a=>exact h'
 |ask hi hj _ ih=>exact e9.ask hi hj (ih h')
theorem e9.wp {α:Type}{t:KasT α}{a:α} (h:e9 lt n t a) {cmp:Nat→Nat→(Bool→yI→Prop)→yI→Prop}{s:yI} (hc:∀i j C,i < n→j < n→C (lt i j) s→cmp i j C s) {Q:α→yI→Prop} (q:Q a s):t.kasWp cmp Q s:=by
 induction h with
 |ret a=>exact q
 |ask hi hj _ ih=>exact hc _ _ _ hi hj (ih q)
structure LtO (n:Nat) (lt:Nat→Nat→Bool):Prop where
 tr:∀i j k,lt i j=true→lt j k=true→lt i k=true
 tot:∀i j,i < n→j < n→i≠j→lt i j=false→lt j i=true
 asy:∀i j,lt i j=true→lt j i=false
abbrev g (p:Array Nat) (k:Nat):Nat:=p.getD k 0
theorem uG {p q:Array Nat}{k l:Nat} (h:p[k]?=q[l]?):g p k=g q l:=by
 unfold g
 rw[Ae,Ae,h]
structure PP (n:Nat) (p:Array Nat):Prop where
 perm:p.toList.Perm (zS n)
theorem PP.size {p:Array Nat} (h:PP n p):p.size=n:=by rw[←y4,h.perm.length_eq,DV]
theorem PP.mem {p:Array Nat} (h:PP n p) {k:Nat} (hk:k < n):g p k < n:=by
 have hk':k < p.size:=by rw[h.size];exact hk
 have e:g p k=p[k]:=by simp[g,A9,hk']
 rw[e]
 exact zK.mp (h.perm.mem_iff.mp (by simp))
theorem PP.inj {p:Array Nat} (h:PP n p) {k l:Nat} (hk:k < n) (hl:l < n) (e:g p k=g p l):k=l:=by
 have hk':k < p.toList.length:=by rw[y4,h.size];exact hk
 have hl':l < p.toList.length:=by rw[y4,h.size];exact hl
 have nd:p.toList.Nodup:=h.perm.nodup_iff.mpr Gc
 have e1:g p k=p.toList[k]:=by simp[g,A9,h.size,hk]
 have e2:g p l=p.toList[l]:=by simp[g,A9,h.size,hl]
 exact (Dc nd).mp (by rw[←e1,←e2,e])
theorem PP.of {p q:Array Nat} (h:PP n p) (hq:q.Perm p):PP n q:=⟨(Array.perm_iff_toList_perm.mp hq).trans h.perm⟩
def Srt (lt:Nat→Nat→Bool) (p:Array Nat) (m:Nat):Prop:=∀i j,i < j→j < m→lt (g p i) (g p j)=true
def Dsc (lt:Nat→Nat→Bool) (p:Array Nat) (m:Nat):Prop:=∀i j,i < j→j < m→lt (g p j) (g p i)=true
theorem Srt.one (p:Array Nat):Srt lt p 1:=fun i j h1 h2=>by omega
theorem Srt.more (O:LtO n lt) {p:Array Nat}{m:Nat} (S:Srt lt p m) (h1:1≤m) (h:lt (g p (m - 1)) (g p m)=true):Srt lt p (m+1):=fun i j hij hj=>by
 rcases zD (AS hj) with z |z
 ·exact S i j hij z
 ·subst z
  rcases zD (show i≤j - 1 by omega) with y |y
  ·exact O.tr _ _ _ (S i (j - 1) y (by omega)) h
  ·subst y;exact h
theorem Dsc.more (O:LtO n lt) {p:Array Nat}{m:Nat} (S:Dsc lt p m) (h1:1≤m) (h:lt (g p m) (g p (m - 1))=true):Dsc lt p (m+1):=fun i j hij hj=>by
 rcases zD (AS hj) with z |z
 ·exact S i j hij z
 ·subst z
  rcases zD (show i≤j - 1 by omega) with y |y
  ·exact O.tr _ _ _ h (S i (j - 1) y (by omega))
  ·subst y;exact h
theorem kg (O:LtO n lt) {p:Array Nat} (P:PP n p):∀(f m:Nat),1≤m→m+f=n→Srt lt p m→∃m',e9 lt n (kas_asc p f m) m'∧m≤m'∧m'≤n∧Srt lt p m'∧(m' < n→lt (g p m') (g p (m' - 1))=true)
 |0,m,h1,hf,S=>⟨m,.ret m,yO _,by omega,S,fun h=>by omega⟩
 |f+1,m,h1,hf,S=>by
  by_cases hc:lt (g p m) (g p (m - 1))=true
  ·refine ⟨m,.ask (P.mem (by omega)) (P.mem (by omega)) ?_,yO _,by omega,S,fun _=>hc⟩
   rw[if_pos hc];exact .ret m
  ·have hc':lt (g p m) (g p (m - 1))=false:=by simpa using hc
   have ht:=O.tot _ _ (P.mem (show m < n by omega)) (P.mem (show m - 1 < n by omega)) (fun e=>by have:=P.inj (by omega) (by omega) e;omega) hc'
   obtain ⟨m',r,a1,a2,a3,a4⟩:=kg O P f (m+1) (by omega) (by omega) (S.more O h1 ht)
   refine ⟨m',.ask (P.mem (by omega)) (P.mem (by omega)) ?_,by omega,a2,a3,a4⟩
   rw[if_neg hc];exact r
theorem lF (O:LtO n lt) {p:Array Nat} (P:PP n p):∀(f m:Nat),1≤m→m+f=n→Dsc lt p m→∃m',e9 lt n (kas_desc f p m 0) (p,m',0)∧m≤m'∧m'≤n∧Dsc lt p m'
 |0,m,h1,hf,S=>⟨m,.ret _,yO _,by omega,S⟩
 |f+1,m,h1,hf,S=>by
  by_cases hc:lt (g p m) (g p (m - 1))=true
  ·obtain ⟨m',r,a1,a2,a3⟩:=lF O P f (m+1) (by omega) (by omega) (S.more O h1 hc)
   refine ⟨m',.ask (P.mem (by omega)) (P.mem (by omega)) ?_,by omega,a2,a3⟩
   rw[if_pos hc,if_neg (by omega)];exact r
  ·have hc':lt (g p m) (g p (m - 1))=false:=by simpa using hc
   have ht:=O.tot _ _ (P.mem (show m < n by omega)) (P.mem (show m - 1 < n by omega)) (fun e=>by have:=P.inj (by omega) (by omega) e;omega) hc'
   refine ⟨m,.ask (P.mem (by omega)) (P.mem (by omega)) ?_,yO _,by omega,S⟩
   rw[if_neg hc]
   refine .ask (P.mem (by omega)) (P.mem (by omega)) ?_
   rw[if_pos ht];exact .ret _
theorem rE {p:Array Nat} (P:PP n p) {m k:Nat} (hm:m≤n) (hk:k < m):g (kas_rev p 0 m) k=g p (m - 1 - k):=by
 refine uG ?_
 unfold kas_rev
 rw[getElem?_mirror (by rw[P.size];exact hm) _ (by omega)]
 split
 ·congr 1;omega
 ·congr 1;omega
theorem qJ {p:Array Nat} (P:PP n p) (i j:Nat):PP n (kas_rev p i j):=P.of (mirror_perm _ _ _ _)
theorem uJ {p:Array Nat} (P:PP n p) {m:Nat} (hm:m≤n) (D:Dsc lt p m):Srt lt (kas_rev p 0 m) m:=fun i j hij hj=>by
 rw[rE P hm (by omega),rE P hm hj]
 exact D _ _ (by omega) (by omega)
theorem pK (O:LtO n lt) {p:Array Nat} (P:PP n p) (h2:2≤n):∃m p',e9 lt n (kas_count n p) (m,p')∧PP n p'∧1≤m∧m≤n∧Srt lt p' m:=by
 obtain ⟨m,r,a1,a2,a3,a4⟩:=kg O P (n - 1) 1 (yO _) (by omega) (Srt.one p)
 by_cases hm:m=n
 ·exact ⟨m,p,r.bind (by rw[if_pos (by simp[hm])];exact .ret _),P,a1,a2,a3⟩
 ·have hne:¬ ((m==n)=true):=by simpa using hm
  by_cases h1:m >1
  ·refine ⟨m,p,r.bind ?_,P,a1,a2,a3⟩
   rw[if_neg hne,if_pos h1]
   refine .ask (P.mem (by omega)) (P.mem (by omega)) ?_
   rw[if_pos (a3 0 (m - 1) (by omega) (by omega))]
   exact .ret _
  ·obtain rfl:m=1:=by omega
   have D2:Dsc lt p 2:=Dsc.more O (fun i j x y=>by omega) (yO _) (a4 (by omega))
   obtain ⟨d,rd,b1,b2,b3⟩:=lF O P (n - 2) 2 (by omega) (by omega) D2
   obtain ⟨e,re,c1,c2,c3,c4⟩:=kg O (qJ P 0 d) (n - d) d (by omega) (by omega) (uJ P b2 b3)
   refine ⟨e,kas_rev p 0 d,r.bind ?_,qJ P 0 d,by omega,c2,c3⟩
   rw[if_neg hne,if_neg h1]
   unfold kas_descPart
   refine e9.bind (a:=(p,d,0)) rd ?_
   rw[if_neg (by simp)]
   unfold kas_tail3
   exact re.bind (.ret _)
theorem gY (O:LtO n lt) {p:Array Nat} (P:PP n p) {k:Nat} (hk:k < n) (S:Srt lt p k):∀(f l r:Nat),l≤r→r≤k→r - l≤f→(∀i,i < l→lt (g p i) (g p k)=true)→(∀i,r≤i→i < k→lt (g p k) (g p i)=true)→
  ∃l',e9 lt n (kas_place p k f l r) l'∧l'≤k∧(∀i,i < l'→lt (g p i) (g p k)=true)∧(∀i,l'≤i→i < k→lt (g p k) (g p i)=true)
 |0,l,r,h1,h2,h3,a,b=>⟨l,.ret l,by omega,a,fun i x y=>b i (by omega) y⟩
 |f+1,l,r,h1,h2,h3,a,b=>by
  unfold kas_place
  by_cases hlr:l ≥ r
  ·rw[if_pos hlr]
   exact ⟨l,.ret l,by omega,a,fun i x y=>b i (by omega) y⟩
  ·rw[if_neg hlr]
   have hm:(l+r) / 2 < k:=by omega
   by_cases hc:lt (g p k) (g p ((l+r) / 2))=true
   ·obtain ⟨l',r',x1,x2,x3⟩:=gY O P hk S f l ((l+r) / 2) (by omega) (by omega) (by omega) a fun i hi hik=>by
     rcases zD hi with z |z
     ·exact O.tr _ _ _ hc (S _ _ z hik)
     ·rw[←z];exact hc
    refine ⟨l',.ask (P.mem hk) (P.mem (by omega)) ?_,x1,x2,x3⟩
    rw[if_pos hc];exact r'
   ·have hc':lt (g p k) (g p ((l+r) / 2))=false:=by simpa using hc
    have ht:=O.tot _ _ (P.mem hk) (P.mem (show (l+r) / 2 < n by omega)) (fun e=>by have:=P.inj hk (by omega) e;omega) hc'
    obtain ⟨l',r',x1,x2,x3⟩:=gY O P hk S f ((l+r) / 2+1) r (by omega) h2 (by omega) (fun i hi=>by
     rcases zD (AS hi) with z |z
     ·exact O.tr _ _ _ (S _ _ z hm) ht
     ·rw[z];exact ht) b
    refine ⟨l',.ask (P.mem hk) (P.mem (by omega)) ?_,x1,x2,x3⟩
    rw[if_neg hc];exact r'
theorem nE (O:LtO n lt):∀(f k:Nat) (p:Array Nat),k+f=n→PP n p→Srt lt p k→∃p',e9 lt n (kas_bin f p k) p'∧PP n p'∧Srt lt p' n
 |0,k,p,hf,P,S=>⟨p,.ret p,P,by rw[←hf];exact S⟩
 |f+1,k,p,hf,P,S=>by
  obtain ⟨l,rl,x1,x2,x3⟩:=gY O P (show k < n by omega) S k 0 k (zW _) (yO _) (by omega) (fun i h=>by omega) (fun i h h'=>by omega)
  have at_:∀j,g (bubble p k (k - l)) j=if j=l then g p k else if l < j∧j≤k then g p (j - 1) else g p j:=fun j=>by
   have e:=getElem?_bubble (xs:=p) (src:=k) (by rw[P.size];omega) (k - l) (by omega) j
   rw[show k - (k - l)=l by omega] at e
   split
   ·rename_i z;rw[if_pos z] at e;exact uG e
   ·rename_i z
    rw[if_neg z] at e
    split
    ·rename_i y;rw[if_pos y] at e;exact uG e
    ·rename_i y;rw[if_neg y] at e;exact uG e
  have e1:g (bubble p k (k - l)) l=g p k:=by rw[at_,if_pos rfl]
  have e2:∀j,l < j→j≤k→g (bubble p k (k - l)) j=g p (j - 1):=fun j y z=>by rw[at_,if_neg (by omega),if_pos ⟨y,z⟩]
  have e3:∀j,j < l→g (bubble p k (k - l)) j=g p j:=fun j y=>by rw[at_,if_neg (by omega),if_neg (by omega)]
  have S':Srt lt (bubble p k (k - l)) (k+1):=fun i j hij hj=>by
   rcases AR j l with y |y |y
   ·rw[e3 i (by omega),e3 j y];exact S _ _ hij (by omega)
   ·rw[y,e1,e3 i (by omega)];exact x2 i (by omega)
   ·rw[e2 j y (by omega)]
    rcases AR i l with z |z |z
    ·rw[e3 i z];exact S _ _ (by omega) (by omega)
    ·rw[z,e1];exact x3 (j - 1) (by omega) (by omega)
    ·rw[e2 i z (by omega)];exact S _ _ (by omega) (by omega)
  obtain ⟨p',r',P',S''⟩:=nE O f (k+1) (bubble p k (k - l)) (by omega) (P.of (bubble_perm _ _ _)) S'
  exact ⟨p',rl.bind r',P',S''⟩
theorem lD (O:LtO n lt) (h2:2≤n):∃p,e9 lt n (kas_sort n) p∧PP n p∧Srt lt p n:=by
 obtain ⟨m,p,r,P,a1,a2,S⟩:=pK O (p:=FU (zS n)) ⟨by simp⟩ h2
 by_cases hm:m < n
 ·obtain ⟨p',r',P',S'⟩:=nE O (n - max m 1) (max m 1) p (by omega) P (by rw[show max m 1=m by omega];exact S)
  exact ⟨p',r.bind (by rw[if_pos hm];exact r'),P',S'⟩
 ·obtain rfl:m=n:=by omega
  exact ⟨p,r.bind (by rw[if_neg hm];exact .ret _),P,S⟩
def ltP (a b:Int×Int):Bool:=decide (a.1 < b.1∨(a.1=b.1∧a.2 < b.2))
theorem ltP_tr {a b c:Int×Int} (h1:ltP a b=true) (h2:ltP b c=true):ltP a c=true:=by
 unfold ltP at *;simp at *;omega
theorem ltP_asy {a b:Int×Int} (h1:ltP a b=true):ltP b a=false:=by
 unfold ltP at *;simp at *;omega
theorem ltP_tot {a b:Int×Int} (h:a≠b) (h1:ltP a b=false):ltP b a=true:=by
 unfold ltP at *
 have:¬ (a.1=b.1∧a.2=b.2):=fun z=>h (CH z.1 z.2)
 simp at *;omega
section
variable {prog:yT}{w:World}{A:zh}{E:Value→yI→Prop}{s:yI}
theorem TK.two {h:Heap}{x y:Int}{b:Addr} (k:TK prog w h [x,y] b):∃o its n t u,h.get? b=some o∧o.cls=.type "tuple"∧o.data=.seq its n∧its.toList=[.int x t,.int y u]:=by
 obtain ⟨o,its,n,ho,hc,hd,hi⟩:=k
 cases hi':its.toList with
 |nil=>rw[hi'] at hi;cases hi
 |cons v1 r=>
  rw[hi'] at hi
  cases hi with
  |cons h1 hr=>
   cases hr with
   |cons h2 hr2=>
    cases hr2
    obtain ⟨t,rfl⟩:=Ah h1
    obtain ⟨u,rfl⟩:=Ah h2
    exact ⟨o,its,n,t,u,ho,hc,hd,hi'⟩
theorem wR {x y:Addr}{a b:Int×Int}{Q:Bool→yI→Prop} (hx:TK prog w s.heap [a.1,a.2] x) (hy:TK prog w s.heap [b.1,b.2] y) (h:Q (ltP a b) s):wpAny (model prog w) A (keyLt' (tuples' true) (.ref x) (.ref y)) Q E s:=by
 obtain ⟨o,its,n,t,u,ho,_,hd,hi⟩:=hx.two
 obtain ⟨o',its',n',t',u',ho',_,hd',hi'⟩:=hy.two
 refine kat_lt ho hd ho' hd' ?_
 rw[hi,hi']
 refine kat_cons ((Bc prog w).eqBool (a:=a.1) (b:=b.1) (Aj _ _ _ _) (Aj _ _ _ _) ?_)
 by_cases e1:a.1=b.1
 ·rw[decide_eq_true e1]
  refine kat_yes (kat_cons ((Bc prog w).eqBool (a:=a.2) (b:=b.2) (Aj _ _ _ _) (Aj _ _ _ _) ?_))
  by_cases e2:a.2=b.2
  ·rw[decide_eq_true e2]
   refine kat_yes (kat_nil ?_)
   have z:ltP a b=false:=by unfold ltP;simp;omega
   rw[z] at h
   have z2:decide (its.size < its'.size)=false:=by
    rw[←y4,←y4,hi,hi'];simp
   rw[z2];exact h
  ·rw[decide_eq_false e2]
   refine kat_no (kat_one _ _ (lt_int ?_))
   have z:ltP a b=decide (a.2 < b.2):=by unfold ltP;rw[e1];simp
   rw[z] at h
   exact h
 ·rw[decide_eq_false e1]
  refine kat_no (oneLt_int ?_)
  have z:ltP a b=decide (a.1 < b.1):=by unfold ltP;simp[e1]
  rw[z] at h
  exact h
abbrev PB:=List ((Int×Int)×Addr)
abbrev refs (pb:PB):List Value:=pb.map fun p=>zY p.2
def dfl:(Int×Int)×Addr:=((0,0),0)
theorem mO (pb:PB):(zS pb.length).map (fun i=>pb.getD i dfl)=pb:=by
 apply Gf
 ·simp
 ·intro i h1 h2
  simp at h1
  simp[h1]
theorem qi {pb:PB}{Q:C3→yI→Prop} (htk:∀p∈pb,TK prog w s.heap [p.1.1,p.1.2] p.2) (h0:0 < pb.length) (h:Q (tuples' true) s):wpAny (model prog w) A (keyKind' (refs pb).toArray) Q E s:=by
 obtain ⟨fs,hf,hl,hi⟩:∃fs,KatTups s.heap (refs pb) fs∧fs.length=pb.length∧∀v∈fs,∃n t,v=zR n t:=by
  clear h h0
  induction pb with
  |nil=>exact ⟨[],.nil,rfl,fun v hv=>by simp at hv⟩
  |cons p r ih=>
   obtain ⟨fs,hf,hl,hi⟩:=ih fun q hq=>htk q (yM _ hq)
   obtain ⟨o,its,n,t,u,ho,hc,hd,hit⟩:=(htk p yV).two
   refine ⟨.int p.1.1 t::fs,.cons ho hc hd (by rw[←zV,hit];rfl) hf,by simp[hl],fun v hv=>?_⟩
   rcases yP.mp hv with z |z
   ·exact ⟨_,_,z⟩
   ·exact hi v z
 refine kat_kind (T:=.type "int") hf (by omega) (fun v hv=>?_) (by decide) h
 obtain ⟨n,t,rfl⟩:=hi v hv
 exact Looks.of_pure rfl
theorem p9 {a:Addr}{pb:PB}{n:Nat}{P:Gv→yI→Prop} (ho:s.heap.get? a=some (BW "list" (refs pb).toArray n)) (htk:∀p∈pb,TK prog w s.heap [p.1.1,p.1.2] p.2) (hnd:(pb.map (·.1)).Nodup) (h64:pb.length < 64)
  (h:∀pb':PB,pb'.Perm pb→(pb'.map (·.1)).Pairwise (fun x y=>ltP x y=true)→P (.done (.ret .none)) {s with heap:=sortedHeap s.heap a (refs pb) (refs pb').toArray }):
  wpAny (model prog w) A (Builtin.«list.sort» ⟨[.ref a],[]⟩) P E s:=by
 have hvl:(refs pb).length=pb.length:=by simp
 have hva:(refs pb).toArray.size=pb.length:=by simp
 rw[Gw]
 have ha:a < s.heap.objs.size:=yQ ho
 refine yE (listItems_at ho rfl (yE (CI ho rfl ?_ (by rw[hva,Az];omega) (zW _))))
 obtain ⟨e1,ho1⟩:∃e1,(s.heap.update a (Au fun _=>(#[]:Array Value))).get? a=some (BW "list" #[] e1):=⟨_,EK ho (fun _=>#[])⟩
 refine yE (Dt ho1 rfl (yE (E8 ?_ (by show (refs pb).length≤_;rw[hvl,Az];omega))))
 refine yE (Dk ?_ (zW _))
 refine Ax ?_
 generalize hh6:((s.heap.update a (Au fun _=>(#[]:Array Value))).push (BW "tuple" (refs pb).toArray 0)).push (BW "list" #[] 0)=h6
 have old6:∀b o,b≠a→s.heap.get? b=some o→h6.get? b=some o:=fun b o hb e=>by
  rw[←hh6]
  exact yG _ (yG _ ((zj _ _ (Ne.symm hb)).trans e))
 have ho6:h6.get? a=some (BW "list" #[] e1):=by rw[←hh6];exact yG _ (yG _ ho1)
 have tk6:∀p∈pb,TK prog w h6 [p.1.1,p.1.2] p.2:=fun p hp=>by
  obtain ⟨o,its,k,hop,hc,r⟩:=htk p hp
  refine ⟨o,its,k,old6 p.2 o (fun z=>?_) hop,hc,r⟩
  rw[z,ho] at hop
  cases hop
  exact absurd hc (by show ¬ (AD "list"=AD "tuple");decide)
 have fin:∀pb':PB,pb'.Perm pb→(pb'.map (·.1)).Pairwise (fun x y=>ltP x y=true)→P (.done (.ret .none)) {s with heap:=h6.update a (Au fun _=>(refs pb').toArray) }:=fun pb' p1 p2=>by
  rw[←hh6];exact h pb' p1 p2
 show wpAny (model prog w) A _ P E {s with heap:=h6 }
 dsimp only
 by_cases h2:(refs pb).toArray.size < 2
 ·rw[if_pos h2,if_pos h2]
  refine yE (yJ ?_)
  rw[StateT.run_pure]
  refine yE (yJ ?_)
  dsimp only
  have eout:(arrOf (SortSt.mk' general' ((refs pb).toArray.zip (refs pb).toArray) #[] 7 none)).map (·.2)=(refs pb).toArray:=by
   show (((refs pb).toArray.zip (refs pb).toArray)).map (·.2)=_
   apply Eg.mp
   have zip2:∀l:List Value,(l.zip l).map (·.2)=l:=fun l=>by
    induction l with
    |nil=>rfl
    |cons x r ih=>rw[B1,Aa,ih]
   rw[Eh,Gg]
   exact zip2 _
  rw[eout]
  refine yE (Dt ho6 rfl (yE (CI ho6 rfl ?_ (zW _) (by rw[hva,Az];omega))))
  show wpAny _ _ (if (e1 !=e1)=true then _ else _) _ _ _
  rw[if_neg (by simp)]
  refine yJ (fin pb (E6 _) ?_)
  match pb,hva,h2 with
  |[],_,_=>simp
  |[_],_,_=>simp
  |_::_::r,hva,h2=>rw[hva] at h2;exact absurd h2 (by simp)
 ·rw[if_neg h2,if_neg h2]
  rw[hva] at h2
  have h2':2≤(refs pb).length:=by rw[hvl];omega
  refine yE (qi (s:={s with heap:=h6 }) tk6 (by omega) ?_)
  have inj:∀i j,i < pb.length→j < pb.length→i≠j→(pb.getD i dfl).1≠(pb.getD j dfl).1:=fun i j hi hj hij e=>by
   refine hij ((Dc (xs:=pb.map (·.1)) (h₀:=by simpa using hi) (h₁:=by simpa using hj) hnd).mp ?_)
   simpa [hi,hj] using e
  have O:LtO pb.length (fun i j=>ltP (pb.getD i dfl).1 (pb.getD j dfl).1):=⟨fun i j k=>ltP_tr,fun i j hi hj hij=>ltP_tot (inj i j hi hj hij),fun i j=>ltP_asy⟩
  obtain ⟨p,R,PP',S⟩:=lD O (by omega)
  have hcmp:∀i j C,i < pb.length→j < pb.length→C (ltP (pb.getD i dfl).1 (pb.getD j dfl).1) {s with heap:=h6 }→kas_ask prog w A (tuples' true) (refs pb) i j C {s with heap:=h6 }:=fun i j C hi hj c=>by
   unfold kas_ask
   have ei:(refs pb).getD i zl=.ref (pb.getD i dfl).2:=by simp[hi]
   have ej:(refs pb).getD j zl=.ref (pb.getD j dfl).2:=by simp[hj]
   rw[ei,ej]
   have mi:pb.getD i dfl∈pb:=by simp[hi]
   have mj:pb.getD j dfl∈pb:=by simp[hj]
   exact wR (s:={s with heap:=h6 }) (tk6 _ mi) (tk6 _ mj) c
  have tree:(kas_sort (refs pb).length).kasWp (kas_ask prog w A (tuples' true) (refs pb)) (fun p' s'=>p'=p∧s'={s with heap:=h6 }) {s with heap:=h6 }:=by
   rw[hvl]
   exact R.wp hcmp ⟨rfl,rfl⟩
  refine yE (AQ (kat_run (Q:=fun st' s'=>s'={s with heap:=h6 }∧failedOf st'=none∧(arrOf st').map (·.2)=FU (p.toList.map fun i=>(refs pb).getD i zl)) rfl h2' (by rw[hvl];exact h64) (fun p' st' s' _ a2 a3 a4=>?_) tree) ?_ fun _ _ e=>e)
  ·obtain ⟨rfl,rfl⟩:=a4
   exact ⟨rfl,a3,kat_snds rfl a2⟩
  ·rintro ⟨⟨⟩,st'⟩ s' ⟨rfl,hf,hout⟩
   dsimp only
   rw[hout]
   have hlt:∀i∈p.toList,i < pb.length:=fun i hi=>zK.mp (PP'.perm.mem_iff.mp hi)
   have er:(p.toList.map fun i=>(refs pb).getD i zl)=refs (p.toList.map fun i=>pb.getD i dfl):=by
    unfold refs
    rw[zX]
    refine Fe fun i hi=>?_
    have:=hlt i hi
    simp[this]
   rw[er]
   have hperm:(p.toList.map fun i=>pb.getD i dfl).Perm pb:=by
    refine (PP'.perm.map _).trans ?_
    rw[mO]
   have hs2:(refs (p.toList.map fun i=>pb.getD i dfl)).toArray.size=pb.length:=by simp[PP'.size]
   refine yE (Dt ho6 rfl (yE (CI ho6 rfl ?_ (zW _) (by rw[hs2,Az];omega))))
   rw[hf]
   show wpAny _ _ (if (e1 !=e1)=true then _ else _) _ _ _
   rw[if_neg (by simp)]
   refine yJ (fin _ hperm ?_)
   rw[zX,Av,zg]
   intro i j hi hj hij
   have hj':j < pb.length:=by rw[y4,PP'.size] at hj;exact hj
   have q:=S i j hij hj'
   have ei:g p i=p.toList[i]:=by simp[g,A9,PP'.size,show i < pb.length by omega]
   have ej:g p j=p.toList[j]:=by simp[g,A9,PP'.size,hj']
   rw[ei,ej] at q
   exact q
end
end ST
namespace ST
open PySem PySem.W PyProof.Rows PySem.Calls
theorem qc {α β:Type} (f:α→β) {l m:List β} (h:l.Perm m):∀kb:List α,m=kb.map f→∃kb':List α,Ig kb' kb∧l=List.map f kb':=by
 induction h with
 |nil=>intro kb e;exact ⟨kb,.refl _,e⟩
 | @cons x l m _ ih=>
  intro kb e
  match kb,e with
  |[],e=>simp at e
  |k::kb,e=>
   rw[Aa,Gx] at e
   obtain ⟨kb',p,e'⟩:=ih kb e.2
   exact ⟨k::kb',p.cons k,by rw[Aa,←e',e.1]⟩
 |swap x y l=>
  intro kb e
  match kb,e with
  |[],e=>simp at e
  |[_],e=>simp at e
  |k::k'::kb,e=>
   simp only[Aa,Gx] at e
   exact ⟨k'::k::kb,.swap k k' kb,by rw[Aa,Aa,←e.2.2,e.1,e.2.1]⟩
 |trans _ _ ih1 ih2=>
  intro kb e
  obtain ⟨kb2,p2,e2⟩:=ih2 kb e
  obtain ⟨kb1,p1,e1⟩:=ih1 kb2 e2
  exact ⟨kb1,p1.trans p2,e1⟩
def ptsOf (kb:List (List Int×Addr)):PB:=kb.map fun p=>((p.1.getD 0 0,p.1.getD 1 0),p.2)
section
variable {prog:yT}{w:World}{A:zh}{E:Value→yI→Prop}{s:yI}
theorem call_sorted_set {S:Addr}{kb:List (List Int×Addr)}{Q:Value→yI→Prop} (hh:A.handled=none) (P:SP prog w s.heap S kb) (h64:kb.length < 64) (h2:∀p∈kb,p.1.length=2)
  (h:∀(h1 h':Heap) (tk:Nat) (pb:PB) (e:Nat),Ig pb (ptsOf kb)→(pb.map (·.1)).Pairwise (fun x y=>ltP x y=true)→(∀b o,s.heap.get? b=some o→h1.get? b=some o)→(∀b o,h1.get? b=some o→h'.get? b=some o)→h'.get? h1.objs.size=some (BW "list" (refs pb).toArray e)→Q (.ref h1.objs.size) {s with heap:=h',toks:=tk }):
  wpAny (model prog w) A (call (.builtin "sorted") [.ref S]) Q E s:=by
 obtain ⟨⟨o,es,ep,t,ho,hex,hd,he,T,hl,hp,_,_⟩,hk,hnd⟩:=P
 have hsz:es.size=kb.length:=by rw[←y4,he];simp[ents]
 have O:SO prog w o es ep t (kb.map fun p=>hsh prog w p.1):=⟨hex,hd,T,by rw[yK,hsz],hl,hp⟩
 have two:∀p∈kb,p.1=[p.1.getD 0 0,p.1.getD 1 0]:=fun p hp'=>by
  have:=h2 p hp'
  match hq:p.1,this with
  |[x,y],_=>rfl
 refine call_function_entry kind_sorted plain_sorted entry_sorted (args_sorted1 _) ?_
 unfold Builtin.«sorted»
 refine yE (m:=checkCount "sorted" 1 1 _) (yJ ?_)
 refine yE (kdu_collect (A:=A.in1) (tD O) hh ho (by rw[hsz,Az];omega) fun h' tk acc keep hacc=>?_)
 have hal:acc.toList=ca w S es ep:=by
  apply BO
  intro i
  rcases AV i acc.size with z |z
  ·rw[zV,BC z]
   exact (hacc.2 i _ (BC z)).symm
  ·rw[zN (by simpa using z),zN]
   rw[(dG w S es ep).length_eq,yK,y4,←hacc.1];exact z
 obtain ⟨kb1,pk,ek⟩:=qc (fun (p:List Int×Addr)=>zY p.2) (dG w S es ep) kb (by rw[he];unfold ents;rw[zX];rfl)
 have hl1:acc.toList=refs (ptsOf kb1):=by
  rw[hal,ek];unfold refs ptsOf;rw[zX];rfl
 have hlen1:(ptsOf kb1).length=kb.length:=by unfold ptsOf;rw[yK,pk.length_eq]
 have hlenA:acc.toList.length=kb.length:=by rw[hl1];simp[hlen1]
 refine yE (Dk ?_ (by rw[hlenA,Az];omega))
 have hD:(h'.push {cls:=.type "list",data:=.seq acc.toList.toArray }).get? h'.objs.size=some (BW "list" (refs (ptsOf kb1)).toArray 0):=by
  rw[←hl1];exact yR _ rfl
 have tk1:∀p∈ptsOf kb1,TK prog w (h'.push {cls:=.type "list",data:=.seq acc.toList.toArray }) [p.1.1,p.1.2] p.2:=fun p hp'=>by
  obtain ⟨q,hq,rfl⟩:=y8.mp hp'
  have hq':=pk.mem_iff.mp hq
  obtain ⟨oq,its,k,hoq,r⟩:=hk q hq'
  have e2:=two q hq'
  refine ⟨oq,its,k,yG _ (keep _ _ hoq),?_⟩
  rw[←e2];exact r
 have nd1:((ptsOf kb1).map (·.1)).Nodup:=by
  have n1:(kb1.map (·.1)).Nodup:=((pk.map (·.1)).nodup_iff).mpr hnd
  unfold ptsOf
  rw[zX]
  refine Av.mpr ((Av.mp n1).imp_of_mem fun {a b} ha hb hab=>?_)
  intro z
  have ea:=two a (pk.mem_iff.mp ha)
  have eb:=two b (pk.mem_iff.mp hb)
  have z':(a.1.getD 0 0,a.1.getD 1 0)=(b.1.getD 0 0,b.1.getD 1 0):=z
  rw[Prod.mk.injEq] at z'
  rw[z'.1,z'.2] at ea
  exact hab (ea.trans eb.symm)
 refine yE (Ax (AM G4 ⟨_,hD,rfl⟩ Gy ?_ (G5 _)))
 refine p9 (s:={s with heap:=h'.push {cls:=.type "list",data:=.seq acc.toList.toArray },toks:=tk }) hD tk1 nd1 (by omega) fun pb' pp so=>⟨_,rfl,yJ ⟨_,rfl,?_⟩⟩
 obtain ⟨e,eD⟩:=sortedHeap_at (out:=(refs pb').toArray) hD
 refine h h' _ tk pb' e (pp.trans ?_) so keep (fun b x hb'=>?_) eD
 ·unfold ptsOf;exact pk.map _
 ·have hlt:=yQ hb'
  rw[G6 (zb hlt) (by rw[z9];exact AE hlt)]
  exact yG _ hb'
end
end ST
namespace ST
open PySem
def ins (x:Int×Int):List (Int×Int)→List (Int×Int)
 |[]=>[x]
 |y::r=>if x=y then y::r else if ltP x y=true then x::y::r else y::ins x r
def srt (pts:List (Int×Int)):List (Int×Int):=pts.foldr ins []
theorem jW (x z:Int×Int):∀l,z∈ins x l↔z=x∨z∈l
 |[]=>by simp[ins]
 |y::r=>by
  unfold ins
  split
  ·rename_i h;subst h;simp
  ·split
   ·simp
   ·rw[yP,jW x z r,yP]
    constructor
    ·rintro (h |h |h)
     ·exact .inr (.inl h)
     ·exact .inl h
     ·exact .inr (.inr h)
    ·rintro (h |h |h)
     ·exact .inr (.inl h)
     ·exact .inl h
     ·exact .inr (.inr h)
abbrev Asc (l:List (Int×Int)):Prop:=l.Pairwise (fun x y=>ltP x y=true)
theorem m_ (x:Int×Int):∀l,Asc l→Asc (ins x l)
 |[],_=>by simp[ins]
 |y::r,h=>by
  unfold ins
  split
  ·exact h
  ·rename_i hne
   obtain ⟨h1,h2⟩:=z7.mp h
   split
   ·rename_i hlt
    refine z7.mpr ⟨fun z hz=>?_,h⟩
    rcases yP.mp hz with e |e
    ·rw[e];exact hlt
    ·exact ltP_tr hlt (h1 z e)
   ·rename_i hlt
    refine z7.mpr ⟨fun z hz=>?_,m_ x r h2⟩
    rcases (jW x z r).mp hz with e |e
    ·rw[e];exact ltP_tot hne (by simpa using hlt)
    ·exact h1 z e
theorem srt_mem (z:Int×Int):∀l,z∈srt l↔z∈l
 |[]=>by simp[srt]
 |y::r=>by
  show z∈ins y (srt r)↔_
  rw[jW,srt_mem z r,yP]
theorem srt_asc:∀l,Asc (srt l)
 |[]=>B_
 |y::r=>m_ y (srt r) (srt_asc r)
theorem nY {x:Int×Int}:ltP x x=false:=by unfold ltP;simp
theorem asc_one:∀{l m:List (Int×Int)},Asc l→Asc m→(∀z,z∈l↔z∈m)→l=m
 |[],[],_,_,_=>rfl
 |[],y::r,_,_,h=>by have:=(h y).mpr yV;simp at this
 |x::l,[],_,_,h=>by have:=(h x).mp yV;simp at this
 |x::l,y::m,hl,hm,h=>by
  obtain ⟨a1,a2⟩:=z7.mp hl
  obtain ⟨b1,b2⟩:=z7.mp hm
  have e:x=y:=by
   rcases yP.mp ((h x).mp yV) with z |z
   ·exact z
   ·rcases yP.mp ((h y).mpr yV) with z' |z'
    ·exact z'.symm
    ·have:=ltP_asy (b1 x z)
     rw[a1 y z'] at this;cases this
  subst e
  congr 1
  refine asc_one a2 b2 fun z=>⟨fun hz=>?_,fun hz=>?_⟩
  ·rcases yP.mp ((h z).mp (yM _ hz)) with e |e
   ·have:=a1 z hz;rw[e,nY] at this;cases this
   ·exact e
  ·rcases yP.mp ((h z).mpr (yM _ hz)) with e |e
   ·have:=b1 z hz;rw[e,nY] at this;cases this
   ·exact e
theorem asc_srt {l:List (Int×Int)} (h:Asc l):srt l=l:=asc_one (srt_asc l) h fun z=>srt_mem z l
theorem nk (x:Int×Int):∀l,(ins x l).length≤l.length+1
 |[]=>by simp[ins]
 |y::r=>by
  have:=nk x r
  unfold ins
  split
  ·simp
  ·split
   ·simp
   ·simp only[zH];omega
theorem srt_len:∀l,(srt l).length≤l.length
 |[]=>yO _
 |y::r=>by
  have h1:=nk y (srt r)
  have h2:=srt_len r
  show (ins y (srt r)).length≤_
  simp only[zH];omega
end ST
namespace L2
open PySem PySem.Spec PyProof.Rows
theorem yq {p:Nat→Addr→Prop}{n:Nat} (h:∀i,i < n→∃b,p i b):∃f:Nat→Addr,∀i,i < n→p i (f i):=by
 refine ⟨fun i=>if k:i < n then Classical.choose (h i k) else 0,fun i hi=>?_⟩
 dsimp only
 rw[dif_pos hi]
 exact Classical.choose_spec (h i hi)
theorem sD:A3 "set"=some (.type "set"):=by decide+kernel
section
variable {X:Cx}{H0:Hp}{O0:List Addr}{ps:PSt}{e:Expr}{pts:List P2}{pos pos' p p':Pos}
theorem gX (hc:X.calm=true) (hu:X.A.units+10 < cLine) (hg:Gl X "sorted") (hm:X.mg "sorted"=none) (hgs:Gl X "set") (hms:X.mg "set"=none) (ha:Ev X H0 O0 ps e (lp pts)) (hl:pts.length < 64)
  (he:yW [e] X.env=(false,eval e X.env)::yW [] X.env:=by rfl):EvN X H0 O0 ps (.Call (.Name "sorted" p) [.Call (.Name "set" p') [e] [] pos'] [] pos) ((ST.srt pts).map pu):=by
 rintro pins s σ H Q I ⟨O,R,q⟩
 have hh:X.A.handled=none:=I.ok.hd hc
 refine Aw (cQ I hg hm boot_sorted ?_)
 refine callWith_builtin1 (e:=.Call (.Name "set" p') [e] [] pos') (rest:=[]) ?_ rfl rfl
 show wpAny _ _ (spliced ((false,eval (.Call (.Name "set" p') [e] [] pos') X.env)::C5 pos (yW [] X.env))) _ _ s
 refine DB ?_
 refine Aw (cQ I hgs hms sD ?_)
 refine callWith_type1 (thn (ci ha dY he pos' pins s σ H (fun vs H1=>∃v,vs=[v]∧ax H H1∧Rp X.K (hid H1 O) v (lp pts)) I ⟨O,R,fun v H1 s1 r1=>⟨v,rfl,s1,r1⟩⟩) fun us s1 hx=>?_) he rfl
 obtain ⟨vs,H1,I1,rv,v,rfl,sm,rp⟩:=hx
 obtain ⟨u,rfl,ru⟩:=gA rv
 cases rp with
 | @lst a ws _ hq hwl hwi=>
  cases ru
  obtain ⟨its,rw',pl,hz⟩:=I1.list (SqL.of (aD _ _ hq))
  have hlp:ws.length=pts.length:=by rw[hwl,yK]
  have hil:its.length=pts.length:=by rw[←rw'.length,hlp]
  have item:∀i,i < pts.length→∃b,its[i]?=some (.ref b)∧Rp X.K (hid H1 O) (.ref b) (pu (pts.getD i (0,0)))∧ST.TK X.prog X.w s1.heap [(pts.getD i (0,0)).1,(pts.getD i (0,0)).2] b:=fun i hi=>by
   have hw:ws[i]?=some ws[i]:=yD (by omega)
   have hp:(pts.map pu)[i]?=some (pu (pts.getD i (0,0))):=by rw[yN,yD hi];simp[hi]
   have r:=hwi i _ _ hw hp
   obtain ⟨u',e1,e2⟩:=rw'.get hw
   generalize ws[i]=z at *
   cases r with
   | @tup b zs _ hs hsl hsi=>
    cases e2
    refine ⟨b,e1,Rp.tup hs hsl hsi,?_⟩
    obtain ⟨jts,rj,ht,_⟩:=I1.tuple (by exact aD.tup hs)
    have z0:zs.length=2:=hsl
    match zs,z0,hsi,rj with
    |[z1,z2],_,hsi,rj=>
     have q1:=hsi 0 z1 _ rfl rfl
     have q2:=hsi 1 z2 _ rfl rfl
     cases q1
     cases q2
     obtain ⟨u1,u2,rfl,r1,r2⟩:=nJ rj
     obtain ⟨t1,rfl⟩:=r1
     obtain ⟨t2,rfl⟩:=r2
     obtain ⟨o,ho,hoc,n,hod⟩:=ht
     exact ⟨o,_,n,ho,hoc,hod,.cons (Aj _ _ _ _) (.cons (Aj _ _ _ _) .nil)⟩
  obtain ⟨ad',adE⟩:=yq item
  have hsz:its.toArray.size=pts.length:=by simp[hil]
  refine ST.call_set_pts (fun i=>([(pts.getD i (0,0)).1,(pts.getD i (0,0)).2],ad' i)) hh (by show X.A.units+1+1+1 < cLine;omega) pl.isList (fun i z ez=>?_) (fun i hi=>?_) (by rw[hsz];omega) fun h2 tk kb sp got keep=>?_
  ·have hi:i < pts.length:=by have:=aC (show its[i]?=some z by simpa using ez);omega
   have:=(adE i hi).1
   rw[show its.toArray[i]?=its[i]? by simp,this] at ez
   cases ez;rfl
  ·exact (adE i (by rw[hsz] at hi;exact hi)).2.2
  ·rw[hsz] at got
   have I2:Inv X pins σ H1 {s1 with heap:=h2,toks:=tk }:=I1.kept (t':=tk) keep
   refine DO ?_
   have hkl:kb.length < 64:=by have:=got.len;omega
   refine ST.call_sorted_set (s:={s1 with heap:=h2,toks:=tk }) hh sp hkl (fun z hz=>by obtain ⟨j,_,rfl⟩:=got.src z hz;rfl) fun h3 h4 tk2 pb ep pm so k1 k2 hD=>?_
   have I3:Inv X pins σ H1 {s1 with heap:=h3,toks:=tk2 }:=I2.kept (t':=tk2) k1
   have src:∀z∈pb,∃j,j < pts.length∧z=(pts.getD j (0,0),ad' j):=fun z hz=>by
    obtain ⟨y,hy,rfl⟩:=y8.mp (pm.mem_iff.mp hz)
    obtain ⟨j,hj,rfl⟩:=got.src y hy
    exact ⟨j,hj,rfl⟩
   have epts:pb.map (·.1)=ST.srt pts:=by
    refine ST.asc_one so (ST.srt_asc pts) fun z=>?_
    rw[ST.srt_mem]
    constructor
    ·intro hz
     obtain ⟨y,hy,rfl⟩:=y8.mp hz
     obtain ⟨j,hj,rfl⟩:=src y hy
     simp[hj]
    ·intro hz
     obtain ⟨j,hj⟩:=AU.mp hz
     have hjl:=aC hj
     have hk:=got.all j hjl
     obtain ⟨y,hy,ey⟩:=y8.mp hk
     have hin:((y.1.getD 0 0,y.1.getD 1 0),y.2)∈ST.ptsOf kb:=y8.mpr ⟨y,hy,rfl⟩
     have hin':=pm.mem_iff.mpr hin
     refine y8.mpr ⟨_,hin',?_⟩
     rw[ey]
     have:pts.getD j (0,0)=z:=by rw[yL,hj];rfl
     show ((pts.getD j (0,0)).1,(pts.getD j (0,0)).2)=z
     rw[this]
   have fr:H1 h3.objs.size=none:=I3.hok.fresh (yO _)
   refine ⟨.ref h3.objs.size,upd H1 h3.objs.size (.lst (pb.map fun z=>V.ref z.2)),?_,rfl,?_⟩
   ·refine I3.laid (t':=tk2) k2 (yO _) ⟨?_,(ST.refs pb),ep,?_,hD⟩
    ·rw[yK,←yK (f:=(·.1)),epts,Az]
     have:=ST.srt_len pts
     omega
    ·have all:∀l:ST.PB,aN (l.map fun z=>V.ref z.2) (ST.refs l):=fun l=>by
      induction l with
      |nil=>exact .nil
      |cons z r ih=>exact .cons rfl ih
     exact all pb
   ·refine q _ _ _ (sm.trans (aU fr _)) (sm.free fr) aS ⟨?_,fun i z x e1 e2=>?_⟩
    ·rw[yK,←epts,yK,yK]
    ·rw[←epts,zX,yN] at e2
     rw[yN] at e1
     cases hpi:pb[i]? with
     |none=>rw[hpi] at e1;cases e1
     |some y=>
      rw[hpi] at e1 e2
      cases e1
      cases e2
      obtain ⟨j,hj,rfl⟩:=src y (zi hpi)
      exact (adE j hj).2.1.same (bJ (aU fr _) fr)
end
end L2
namespace ST
open PySem
section
variable {prog:yT}{w:World}{A:zh}{s:yI}{R:Fj→yI→Prop}{I:Addr}{fp wr:List Addr}{G:Array B9→Array B9→Prop}{n:Nat}{P:Nat→Value→Prop}{St:Nat→yI→Prop}{T:String}
def tN (prog:yT) (w:World) (T:String):Prop:=∀(A:zh) (E:Value→yI→Prop) (s:yI) (r:Addr) (Q:Bool→yI→Prop),s.TypeIs (.ref r) T→(∀b,Q b s)→wpAny (model prog w) A (Builtin.List.listLengthHint (.ref r)) Q E s
theorem pM (W:WalksS prog w A.in1 I fp wr G n P St) (hT:∀i s,St i s→s.TypeIs (.ref I) T) (hl:(AD T==AD "list")=false) (ht:(AD T==AD "tuple")=false) (hint:tN prog w T) (S:Addr) (res:Value) (c₀:Nat) (hst:St 0 s) (hSf:S ∉ fp) (hI:I∈fp)
  (hS:s.heap.get? S=some {cls:=.type "list",data:=.seq #[] c₀ })
  (hR:∀s' acc' c',Moved (S::wr) G s s'→s'.heap.get? S=some {cls:=.type "list",dict:=none,data:=.seq acc' c',slots:=#[] }→ItemsOf P acc' n→R (.ok (.ret res)) s') (hn:n≤sizeLine):
  wpAny (model prog w) A.in1 (Builtin.List.listExtendWith (.ref S) (.ref I) res)
   (fun fin s'=>match fin with | .done f=>R (.ok f) s' | .again c'=>c'.quiet=true∧CA (model prog w) A c' R s') (fun e s'=>R (.error e) s') s:=by
 have hSI:S≠I:=fun e=>hSf (e ▸ hI)
 unfold Builtin.List.listExtendWith
 refine yE (FT (hT 0 _ hst) ?_)
 have k1:Builtin.List.listSameRef (.ref S) (.ref I)=false:=by simp[Builtin.List.listSameRef,hSI]
 simp only[k1,hl,ht,Bool.or_false,yX,if_false]
 refine yE (W.self 0 _ _ _ hst (yE (Ax (hint _ _ _ _ _ (hT 0 _ hst) fun b=>?_))))
 refine BN (fun _=>?_) (fun _=>?_)
 ·refine yE (BH (yE ?_))
  show wpAny _ A.in1 (Du S (·.push .none) >>=fun _=>Du S (·.pop)) _ _ _
  refine yE (A1 hS rfl ?_)
  have g2:=Ai (Au (·.push zl)) hS rfl
  refine A1 (hz:=by seq_fits) g2 rfl ?_
  have g3:=Ai (Au (·.pop)) g2 rfl
  have oth:∀b o,b≠S→s.heap.get? b=some o→((s.heap.update S (Au (·.push zl))).update S (Au (·.pop))).get? b=some o:=fun b o hb e=>(zj _ _ (Ne.symm hb)).trans ((zj _ _ (Ne.symm hb)).trans e)
  refine yJ ⟨AF DJ _,EV W hn _ hSf _ n 0 _ _ _ rfl (zW _) (W.frame 0 s _ s.toks hst (yO _) fun b hb o e=>oth b o (fun z=>hSf (z ▸ hb)) e) g3 (ItemsOf.nil P) fun s' acc' c' m g' it=>?_⟩
  exact hR s' acc' c' (Moved.trans W.gtrans ((Moved.refl W.grefl).then_heap (yO _) fun b o hb e=>oth b o (fun z=>hb (z ▸ yV)) e) m) g' it
 ·exact yJ ⟨AF DJ _,EV W hn _ hSf _ n 0 _ _ _ rfl (zW _) hst hS (ItemsOf.nil P) fun s' acc' c' m g' it=>hR s' acc' c' m g' it⟩
theorem uB (W:WalksS prog w A.in1 I fp wr G n P St) (hT:∀i s,St i s→s.TypeIs (.ref I) T) (hl:(AD T==AD "list")=false) (ht:(AD T==AD "tuple")=false) (hint:tN prog w T) (S:Addr) (hst:St 0 s) (hSf:S ∉ fp) (hI:I∈fp)
  (hS:s.heap.get? S=some {cls:=.type "list",data:=.seq #[] })
  (hR:∀s' acc' c',Moved (S::wr) G s s'→s'.heap.get? S=some {cls:=.type "list",dict:=none,data:=.seq acc' c',slots:=#[] }→ItemsOf P acc' n→R (.ok (.ret .none)) s') (hn:n≤sizeLine):
  wpAny (model prog w) A.in1 (Builtin.«list.__init__» ⟨[.ref S,.ref I],[]⟩)
   (fun fin s'=>match fin with | .done f=>R (.ok f) s' | .again c'=>c'.quiet=true∧CA (model prog w) A c' R s') (fun e s'=>R (.error e) s') s:=by
 show wpAny _ A.in1 (Builtin.List.listItems (.ref S) >>=fun old=>Builtin.List.listUpdate (.ref S) (fun _=>#[]) >>=fun _=>letGo old.toList.reverse >>=fun _=>Builtin.List.listExtendWith (.ref S) (.ref I) .none) _ _ s
 refine yE ?_
 unfold Builtin.List.listItems
 refine yE (Ao hS rfl (yJ ?_))
 show wpAny _ A.in1 (Du S (fun _=>#[]) >>=fun _=>letGo (#[]:Array Value).toList.reverse >>=fun _=>Builtin.List.listExtendWith (.ref S) (.ref I) .none) _ _ s
 refine yE (A1 hS rfl ?_)
 have g2:=Ai (Au (fun _=>(#[]:Array Value))) hS rfl
 have oth:∀b o,b≠S→s.heap.get? b=some o→(s.heap.update S (Au (fun _=>(#[]:Array Value)))).get? b=some o:=fun b o hb e=>(zj _ _ (Ne.symm hb)).trans e
 refine yE (Bp ?_)
 refine pM W hT hl ht hint S .none _ (W.frame 0 s _ s.toks hst (yO _) fun b hb o e=>oth b o (fun z=>hSf (z ▸ hb)) e) hSf hI g2 (fun s' acc' c' m g' it=>?_) hn
 exact hR s' acc' c' (Moved.trans W.gtrans ((Moved.refl W.grefl).then_heap (yO _) fun b o hb e=>oth b o (fun z=>hb (z ▸ yV)) e) m) g' it
end
section
variable {prog:yT}{w:World}{A:zh}{E:Value→yI→Prop}{s:yI}{I:Addr}{fp wr:List Addr}{G:Array B9→Array B9→Prop}{n:Nat}{P:Nat→Value→Prop}{St:Nat→yI→Prop}{T:String}
theorem call_list_it {Q:Value→yI→Prop} (W:WalksS prog w A.in1.in1 I fp wr G n P St) (hT:∀i s,St i s→s.TypeIs (.ref I) T) (hl:(AD T==AD "list")=false) (ht:(AD T==AD "tuple")=false) (hint:tN prog w T) (hst:St 0 s) (hfp:∀b∈fp,b < s.heap.objs.size) (hI:I∈fp)
  (hQ:∀s' acc' c',Moved (s.heap.objs.size::wr) G {s with heap:=s.heap.push {cls:=.type "list",data:=.seq #[] } } s'→
   s'.heap.get? s.heap.objs.size=some {cls:=.type "list",dict:=none,data:=.seq acc' c',slots:=#[] }→ItemsOf P acc' n→Q (.ref s.heap.objs.size) s') (hn:n≤sizeLine):
  wpAny (model prog w) A (call (.type "list") [.ref I]) Q E s:=by
 have hSf:s.heap.objs.size ∉ fp:=fun hm=>zO _ (hfp _ hm)
 refine callType_codes (Q₁:=fun obj s₁=>obj=.ref s.heap.objs.size∧s₁={s with heap:=s.heap.push {cls:=.type "list",data:=.seq #[] } }) PySem.F.called_list (PySem.F.typeCall_list_1 _) PySem.F.entry_list_init (code_list_new _ ⟨rfl,rfl⟩) fun obj s₁ h₁=>?_
 obtain ⟨rfl,rfl⟩:=h₁
 have hS:(s.heap.push {cls:=.type "list",data:=.seq #[] }).get? s.heap.objs.size=some {cls:=.type "list",data:=.seq #[] }:=yR _ rfl
 refine ⟨⟨_,hS,rfl⟩,PySem.F.args_list_init_2 _ _,uB W hT hl ht hint _ (W.frame 0 s _ s.toks hst (yO _) fun b _ o e=>yG _ e) hSf hI hS (fun s' acc' c' m g' it=>?_) hn⟩
 exact ⟨rfl,hQ s' acc' c' m g' it⟩
end
theorem sW:typeLookup (.type "list_reverseiterator") "__len__"=pure none:=by rw[Dr,B4];kernel_rfl
theorem jg:Slot "list_reverseiterator" "__length_hint__" "list_reverseiterator.__length_hint__":=
 .of (owner:="list_reverseiterator") (n:="__length_hint__") (by rw[Dr,B4];kernel_rfl) (by decide+kernel) (by decide+kernel) (by decide+kernel) (by first |exact .inl (by decide+kernel) |exact .inr (by decide+kernel)) (by rw[Cf];kernel_rfl)
theorem hint_rev (prog:yT) (w:World):tN prog w "list_reverseiterator":=fun A E s r Q hT h=>by
 unfold Builtin.List.listLengthHint
 refine yE (Dq hT sW ?_)
 show wpAny _ A (specialOf (zY r) (Str.ofString "__length_hint__") >>=_) _ _ _
 refine yE (Dq hT jg.lookup ?_)
 generalize hid:("list_reverseiterator.__length_hint__":String)=id0
 wp_delta
 rw[show splitId id0=some ("list_reverseiterator","__length_hint__") from by subst hid;decide+kernel]
 subst hid
 refine yE (Bw (T:="list_reverseiterator") (b:=true) hT (by rw[Cf];kernel_rfl) ?_)
 refine BN (fun z=>absurd z (by decide)) (fun _=>?_)
 refine BN (fun _=>?_) (fun z=>absurd (by decide+kernel) z)
 refine BN (fun z=>absurd z (by decide+kernel)) (fun _=>yJ (h _))
end ST
namespace L2
open PySem PySem.Spec PyProof.Rows
theorem jk:A3 "reversed"=some (.type "reversed"):=by decide+kernel
theorem aN.rev:∀{xs:List V}{us:List Value},aN xs us→aN xs.reverse us.reverse:=fun {xs us} r=>by
 induction r with
 |nil=>exact .nil
 | @cons x u xs us r1 r2 ih=>
  rw[FJ,FJ]
  have app:∀{a:List V}{b:List Value},aN a b→aN (a++[x]) (b++[u]):=fun {a b} q=>by
   induction q with
   |nil=>exact .cons r1 .nil
   |cons q1 _ ih'=>exact .cons q1 ih'
  exact app ih
theorem Rps.rev {K:yH}{H:Hp}{vs:List V}{xs:List U} (r:Rps K H vs xs):Rps K H vs.reverse xs.reverse:=⟨by simp[r.len],fun i v x h1 h2=>by
 have hi:i < vs.length:=by have:=aC h1;simpa using this
 have hx:i < xs.length:=by rw[←r.len];exact hi
 rw[AC hi] at h1
 rw[AC hx,←r.len] at h2
 exact r.at_ _ v x h1 h2⟩
section
variable {X:Cx}{H0:Hp}{O0:List Addr}{ps:PSt}{e k:Expr}{x:U}{xs:List U}{pos pos' p p' p2:Pos}
theorem qD {K:yH}{H:Hp}{v:V} (rp:Rp K H v x) (hx:x=.lst xs∨x=.scr xs):∃a vs,v=.ref a∧SqL K H a vs∧Rps K H vs xs:=by
 rcases hx with rfl |rfl
 ·cases rp with
  |lst hq hl hh=>exact ⟨_,_,rfl,SqL.of hq,hl,hh⟩
 ·cases rp with
  |scr hq hl hh=>exact ⟨_,_,rfl,hq,hl,hh⟩
theorem xw (he:Ev X H0 O0 ps e x) (hk:Ev X H0 O0 ps k (.int (-1))) (hx:x=.lst xs∨x=.scr xs):EvN X H0 O0 ps (.Subscript e (.Slice none none (some k) p2) pos) xs.reverse:=by
 rintro pins s σ H Q I ⟨O,R,q⟩
 refine Hn (thn (he pins s σ H (fun v H1=>ax H H1∧Rp X.K (hid H1 O) v x) I ⟨O,R,fun v H1 s1 r1=>⟨s1,r1⟩⟩) fun u s1 ⟨v,H1,I1,r1,sm,rp⟩=>?_)
 obtain ⟨a,vs,rfl,hq,rs⟩:=qD rp hx
 cases r1
 refine wpAny_Slice ?_
 rw[Fl]
 refine yJ (yJ ?_)
 rw[evalPart_some]
 refine thn (hk pins s1 σ H1 (fun v H2=>ax H1 H2∧v=.int (-1)) I1 ⟨O,R.go sm,fun v H2 s2 r2=>⟨s2,by cases r2;rfl⟩⟩) fun uk s2 hy=>?_
 obtain ⟨vk,H2,I2,rk,s12,rfl⟩:=hy
 obtain ⟨t,rfl⟩:=rk
 have I3:Inv X pins σ H2 {s2 with heap:=s2.heap.push {cls:=.type "slice",data:=.fields #[.none,.none,.int (-1) t] } }:=I2.kept (t':=s2.toks) fun b ob z=>yG _ z
 obtain ⟨its,rv,pl,hz⟩:=I3.list (s12.seq (aD.seq hq))
 have hlen:=rv.length
 show wpAny (model X.prog X.w) X.A (Fo e (.Slice none none (some k) p2) (.ref a) (.ref s2.heap.objs.size)) (EP X pins σ Q) X.xe {s2 with heap:=s2.heap.push {cls:=.type "slice",data:=.fields #[.none,.none,.int (-1) t] } }
 refine tail_any (ops:=[.ref a,.ref s2.heap.objs.size]) pl.isList.typeIs slot_list_getitem.lookup ?_ (by with_unfolding_all rfl)
 refine DP pl.isList (Fn ..) .none .none (IsPart.int _ _) (by simp) ?_ (by rw[y_];omega)
 rw[PySem.W.krv_pick]
 generalize hn:(s2.heap.push {cls:=.type "slice",data:=.fields #[.none,.none,.int (-1) t] }).objs.size=D
 have fr:H2 D=none:=I3.hok.fresh (by rw[←hn];exact yO _)
 refine ⟨.ref D,upd H2 D (.lst vs.reverse),I3.laid (t':=s2.toks) (o:=.lst vs.reverse) (fun b ob z=>yG _ z) (by rw[←hn];exact yO _) ⟨by rw[z_];exact hz,its.reverse,0,rv.rev,?_⟩,rfl,?_⟩
 ·rw[←hn];exact yR _ rfl
 ·refine q D _ _ ((sm.trans s12).trans (aU fr _)) ((sm.trans s12).free fr) aS ?_
  exact (rs.rev.same (aI s12)).same (bJ (aU fr _) fr)
theorem oj (hc:X.calm=true) (hg:Gl X "list") (hm:X.mg "list"=none) (hgr:Gl X "reversed") (hmr:X.mg "reversed"=none) (ha:Ev X H0 O0 ps e (.lst xs))
  (he:yW [e] X.env=(false,eval e X.env)::yW [] X.env:=by rfl):EvN X H0 O0 ps (.Call (.Name "list" p) [.Call (.Name "reversed" p') [e] [] pos'] [] pos) xs.reverse:=by
 rintro pins s σ H Q I ⟨O,R,q⟩
 have hh:X.A.handled=none:=I.ok.hd hc
 refine Aw (cQ I hg hm Gz ?_)
 refine callWith_type1 (e:=.Call (.Name "reversed" p') [e] [] pos') (rest:=[]) ?_ cD rfl
 rw[cD]
 show wpAny _ _ (spliced ((false,eval (.Call (.Name "reversed" p') [e] [] pos') X.env)::C5 pos (yW [] X.env))) _ _ s
 refine DB ?_
 refine Aw (cQ I hgr hmr jk ?_)
 refine callWith_type1 (thn (ci ha dY he pos' pins s σ H (fun vs H1=>∃v,vs=[v]∧ax H H1∧Rp X.K (hid H1 O) v (.lst xs)) I ⟨O,R,fun v H1 s1 r1=>⟨v,rfl,s1,r1⟩⟩) fun us s1 hx=>?_) he rfl
 obtain ⟨vs,H1,I1,rv,v,rfl,sm,rp⟩:=hx
 obtain ⟨u,rfl,ru⟩:=gA rv
 obtain ⟨a,ws,rfl,hq,rs⟩:=qD rp (.inl rfl)
 cases ru
 obtain ⟨its,rw',pl,hz⟩:=I1.list (aD.seq hq)
 have hlen:=rw'.length
 have hsz:its.toArray.size=its.length:=by simp
 refine call_reversed_list pl.isList ?_
 have I2:Inv X pins σ H1 {s1 with heap:=s1.heap.push (HZ a ((its.toArray.size:Int) - 1)) }:=I1.kept (t':=s1.toks) fun b ob z=>yG _ z
 refine DO ?_
 have hal:a < s1.heap.objs.size:=by obtain ⟨o,ho,_⟩:=pl.isList;exact yQ ho
 have W:=(Walks.listRev (prog:=X.prog) (w:=X.w) (A:=X.A.in1.in1) hh s1.heap.objs.size a (zb hal) its.toArray).toS
 refine ST.call_list_it (T:="list_reverseiterator") (s:={s1 with heap:=s1.heap.push (HZ a ((its.toArray.size:Int) - 1)) }) W (fun i s' st=>st.2.1.typeIs) (by decide) (by decide) (ST.hint_rev _ _) ⟨zW _,⟨_,yR _ rfl,rfl,by simp[HZ]⟩,pl.isList.push _⟩ (fun b hb=>?_) (by simp) (fun s3 acc c m hD hit=>?_) (by rw[hsz];omega)
 ·show b < (s1.heap.push _).objs.size
  rw[z9]
  simp at hb
  rcases hb with z |z
  ·rw[z];exact Bf _
  ·rw[z];exact AE hal
 ·obtain ⟨h3,g3,d3,tk3,os3⟩:=s3
  obtain rfl:g3=s1.gens:=m.gens
  obtain rfl:d3=s1.drawn:=m.drawn
  obtain rfl:os3=s1.os:=m.os
  have szI:(s1.heap.push (HZ a ((its.toArray.size:Int) - 1))).objs.size=s1.heap.objs.size+1:=z9 ..
  have keep:∀b ob,s1.heap.get? b=some ob→h3.get? b=some ob:=fun b ob z=>by
   have hb:=yQ z
   refine m.heap b ob (fun y=>?_) (yG _ (yG _ z))
   rcases yP.mp y with y |y
   ·rw[y] at hb
    have hb':s1.heap.objs.size+1 < s1.heap.objs.size:=by rw[←szI];exact hb
    exact absurd hb' (by omega)
   ·rw[zZ.mp y] at hb;exact zO _ hb
  have hacc:acc.toList=its.reverse:=by
   apply BO
   intro i
   rcases AV i acc.size with z |z
   ·have y:=hit.2 i _ (BC z)
    have hi:i < its.length:=by rw[hit.1,hsz] at z;exact z
    rw[zV,BC z,AC hi,←y,hsz]
    simp
   ·have hi:its.length≤i:=by rw[hit.1,hsz] at z;exact z
    rw[zN (by simpa using z),zN (by simpa using hi)]
  generalize hn:(s1.heap.push (HZ a ((its.toArray.size:Int) - 1))).objs.size=D at *
  have fr:H1 D=none:=I2.hok.fresh (by rw[←hn];exact yO _)
  have I3:Inv X pins σ (upd H1 D (.lst ws.reverse)) {s1 with heap:=h3,toks:=tk3 }:=I1.laid (t':=tk3) (o:=.lst ws.reverse) keep (by rw[szI];exact HV _) ⟨by rw[z_];exact hz,its.reverse,c,rw'.rev,by rw[←hacc,Array.toArray_toList];exact hD⟩
  refine ⟨.ref D,_,I3,rfl,q D _ _ (sm.trans (aU fr _)) (sm.free fr) aS ?_⟩
  exact rs.rev.same (bJ (aU fr _) fr)
end
section
variable {X:Cx}{H0:Hp}{O0:List Addr}{ps:PSt}{xs:List U}{us:List U}{es:List Expr}{x:Str}{pc p' pos:Pos}
theorem fW (n:Nat) (h:ps[n]?=some (some (.own xs))) (hg:Gl X "len") (hm:X.mg "len"=none) (hN:X.N[n]?=some x:=by rfl) (hv:Vis X.env.scope x:=by first |exact Or.inl rfl |exact Or.inr (Or.inl rfl) |exact Or.inr (Or.inr rfl)) (hd:(x==("__debug__":Str))=false:=by decide)
  (hcd:(x==("__classdict__":Str))=false:=by decide) (hpl:(C5 pos (yW [] X.env)).any (·.1)=false:=by rfl):Ev X H0 O0 ps (.Call (.Name "len" pc) [.Name x p'] [] pos) (.int xs.length):=wo n h hg hm hN hv hd hcd ag hpl
end
end L2
namespace ST
open PySem
abbrev yw (h:Heap) (z TI TO T:Addr) (b:Bool):Prop:=h.get? z=some {cls:=.type "zip",dict:=none,data:=.fields #[BZ T,.bool b,.bool false,.ref TI,.ref TO],slots:=#[] }
section
variable {prog:yT}{w:World}{A:zh}{E:Value→yI→Prop}{s:yI}
end
structure ZL (xs ys:Array Value) (z TI TO i1 i2 l1 l2 S:Addr) (h:Heap) (i:Nat) (ad:List Addr) (c:Nat):Prop where
 ti:IsPair h TI (.ref i1) (.ref i2)
 a1:h.IsListIter i1 l1 i
 a2:h.IsListIter i2 l2 i
 b1:h.IsList l1 xs
 b2:h.IsList l2 ys
 acc:h.get? S=some {cls:=.type "list",dict:=none,data:=.seq (ad.map zY).toArray c,slots:=#[] }
 len:ad.length=i
 tup:∀(j:Nat) (a:Addr),ad[j]?=some a→∃x y,xs[j]?=some x∧ys[j]?=some y∧IsPair h a x y
 far:∀a∈ad,a≠z∧a≠TO∧a≠i1∧a≠i2∧a≠S
 to:∃o,h.get? TO=some o
 nd:ad.Nodup
 zz:(i=0∧IsZip h z TI TO .none∧∃a b,IsPair h TO a b)∨(∃b T,ad[0]?=some T∧yw h z TI TO T b)
section
variable {prog:yT}{w:World}{A:zh}{R:Fj→yI→Prop}
end
section
variable {prog:yT}{w:World}{A:zh}{R:Fj→yI→Prop}
structure ZF (xs ys:Array Value) (S:Addr) (h:Heap) (ad:List Addr) (c:Nat):Prop where
 acc:h.get? S=some {cls:=.type "list",dict:=none,data:=.seq (ad.map zY).toArray c,slots:=#[] }
 len:ad.length=ys.size
 tup:∀(j:Nat) (a:Addr),ad[j]?=some a→∃x y,xs[j]?=some x∧ys[j]?=some y∧IsPair h a x y
 ne:∀a∈ad,a≠S
 nd:ad.Nodup
end
section
variable {prog:yT}{w:World}{A:zh}{E:Value→yI→Prop}{s:yI}
end
section
variable {prog:yT}{w:World}{A:zh}{R:Fj→yI→Prop}{s:yI}
end
section
variable {prog:yT}{w:World}{A:zh}{E:Value→yI→Prop}{s:yI}
end
end ST
namespace L2
open PySem PySem.Spec PyProof.Rows
theorem yk {a b:Nat} (h:a < b∨b < a):@Ne Addr a b:=fun e=>by
 have e':a=b:=e
 omega
theorem qq:A3 "zip"=some (.type "zip"):=by decide+kernel
section
variable {P:yT}{w:World}{H:Hp}{h:Heap}{a:Addr}{o:HO}
end
section
variable {X:Cx}{H0:Hp}{O0:List Addr}{ps:PSt}{e f:Expr}{x y:U}{xs ys:List U}{pos pos' p p':Pos}
end
section
variable {X:Cx}{ns:List Int}{M:Int}
end
end L2
namespace ST
open PySem PyProof.Rows
section
variable {prog:yT}{w:World}{A:zh}{E:Value→yI→Prop}{s:yI}
end
end ST
namespace L2
open PySem PySem.Spec PyProof.Rows
section
variable {X:Cx}{H0:Hp}{O0:List Addr}{ps:PSt}{a b c:Expr}{pos:Pos}{x y z:U}{p q:P2}{k m:Bool}
theorem w6 {pins:List (Addr×Obj)}{σ:List (Option V)}{H:Hp}{s:yI} (I:Inv X pins σ H s) {v:V}{u:Value} (r:Rp X.K H v (pu p)) (e:aR v u):∃b,u=.ref b∧ST.TK X.prog X.w s.heap [p.1,p.2] b:=by
 cases r with
 | @tup b zs _ hs hsl hsi=>
  cases e
  refine ⟨b,rfl,?_⟩
  obtain ⟨jts,rj,ht,_⟩:=I.tuple hs
  have z0:zs.length=2:=hsl
  match zs,z0,hsi,rj with
  |[z1,z2],_,hsi,rj=>
   have q1:=hsi 0 z1 _ rfl rfl
   have q2:=hsi 1 z2 _ rfl rfl
   cases q1
   cases q2
   obtain ⟨u1,u2,rfl,r1,r2⟩:=nJ rj
   obtain ⟨t1,rfl⟩:=r1
   obtain ⟨t2,rfl⟩:=r2
   obtain ⟨o,ho,hoc,n,hod⟩:=ht
   exact ⟨o,_,n,ho,hoc,hod,.cons (Aj _ _ _ _) (.cons (Aj _ _ _ _) .nil)⟩
end
section
variable {X:Cx}{p q:P2}{l:List P2}
end
section
variable {X:Cx}{H0:Hp}{O0:List Addr}{ps:PSt}{e:Expr}{pts:List P2}{pos pos' p p':Pos}
end
end L2
namespace ST
open PySem
def wJ (prog:yT) (w:World) (A:zh) (op:CmpOp) (G:Heap→Prop) (P:Nat→Value→Prop) (bt:Nat→Nat→Bool):Prop:=
 ∀i j vi vj (s:yI) (Q:Value→yI→Prop) (E:Value→yI→Prop),G s.heap→P i vi→P j vj→Q (.bool (bt i j)) s→wpAny (model prog w) A (B5 op vi vj) Q E s
section
variable {prog:yT}{w:World}{A:zh}{R:Fj→yI→Prop}{I S:Addr}{fp wr:List Addr}{n:Nat}{P:Nat→Value→Prop}{St:Nat→Heap→Prop}{G:Heap→Prop}{bt:Nat→Nat→Bool}
theorem oW (W:Walks prog w A.in1 I fp wr n P St) (hc:wJ prog w A.in1 .Lt G P bt) (stay:∀h h':Heap,G h→(∀b o,b ∉ wr→b≠S→h.get? b=some o→h'.get? b=some o)→G h') (hSf:S ∉ fp):
  ∀(k j:Nat) (s:yI) (vb:Value) (c:Nat),n - (j+1)=k→j+1≤n→G s.heap→St (j+1) s.heap→P (CJ bt j) vb→s.heap.get? S=some {cls:=.type "list",dict:=none,data:=.seq #[vb,vb] c,slots:=#[] }→
  (∀v h' tk,P (CJ bt (n - 1)) v→(∀b o,b ∉ wr→b≠S→s.heap.get? b=some o→h'.get? b=some o)→R (.ok (.ret v)) {s with heap:=h',toks:=tk })→
  CA (model prog w) A (.builtin "min.loop" ⟨[.ref I,.none,.ref S],[]⟩) R s:=by
 have nw:S ∉ wr:=fun h=>hSf (W.sub _ h)
 have nm:(Dm "min"++Dm ".loop":String)="min.loop":=by decide
 intro k
 induction k with
 |zero=>
  intro j s vb c hk hj g st pb hS hR
  obtain rfl:j+1=n:=by omega
  refine AB A6 ?_
  rw[Ag zJ _]
  show wpAny _ A.in1 (DT (.ref S) >>=_) _ _ s
  refine yE (Ao hS rfl ?_)
  show wpAny _ A.in1 (Do (C6 (.ref I)) _ >>=_) _ _ s
  refine yE (Bb (W.done s _ _ st fun h' tk kp=>?_))
  show wpAny _ A.in1 (Du S (fun _=>#[]) >>=_) _ _ _
  refine yE (A1 (kp S _ nw hS) rfl (yE (Bp (yJ ?_))))
  exact hR vb _ tk pb fun b o hw hb e=>(zj _ _ (Ne.symm hb)).trans (kp b o hw e)
 |succ k ih=>
  intro j s vb c hk hj g st pb hS hR
  refine AB A6 ?_
  rw[Ag zJ _]
  show wpAny _ A.in1 (DT (.ref S) >>=_) _ _ s
  refine yE (Ao hS rfl ?_)
  show wpAny _ A.in1 (Do (C6 (.ref I)) _ >>=_) _ _ s
  refine yE (Bb (W.item (j+1) s _ _ (by omega) st fun v h' tk pv st' kp=>?_))
  have g':G h':=stay _ _ g fun b o hw _ e=>kp b o hw e
  have hS':=kp S _ nw hS
  show wpAny _ A.in1 (Do (holding [v,v] (B5 .Lt v vb >>=_)) _ >>=_) _ _ _
  refine yE (Bb (Ax (yE (hc (j+1) (CJ bt j) v vb _ _ _ g' pv pb ?_))))
  refine yE (Ax (Bk (yE (Bp (yJ ?_)))))
  by_cases hb:bt (j+1) (CJ bt j)=true
  ·rw[if_pos hb]
   refine yE (A1 hS' rfl (yE (Bp ?_)))
   rw[nm]
   have oth:∀b o,b≠S→h'.get? b=some o→(h'.update S (Au fun _=>#[v,v])).get? b=some o:=fun b o h e=>(zj _ _ (Ne.symm h)).trans e
   refine yJ ⟨AF zJ _,ih (j+1) _ v _ (by omega) (by omega) (stay _ _ g' fun b o _ h e=>oth b o h e) (W.frame _ _ _ st' fun b hf o e=>oth b o (fun h=>hSf (h ▸ hf)) e) (by rw[CJ,if_pos hb];exact pv) (Ai _ hS' rfl) fun v2 h2 t2 p2 k2=>?_⟩
   exact hR v2 h2 t2 p2 fun b o hw h e=>k2 b o hw h (oth b o h (kp b o hw e))
  ·rw[if_neg hb]
   refine yE (Bp ?_)
   rw[nm]
   refine yJ ⟨AF zJ _,ih (j+1) _ vb c (by omega) (by omega) g' st' (by rw[CJ,if_neg hb];exact pb) hS' fun v2 h2 t2 p2 k2=>?_⟩
   exact hR v2 h2 t2 p2 fun b o hw h e=>k2 b o hw h (kp b o hw e)
theorem mJ (W:Walks prog w A.in1 I fp wr n P St) (hc:wJ prog w A.in1 .Lt G P bt) (stay:∀h h':Heap,G h→(∀b o,b ∉ wr→b≠S→h.get? b=some o→h'.get? b=some o)→G h') (hSf:S ∉ fp) (hn:0 < n) {s:yI}{c:Nat} (g:G s.heap) (st:St 0 s.heap)
  (hS:s.heap.get? S=some {cls:=.type "list",dict:=none,data:=.seq #[] c,slots:=#[] })
  (hR:∀v h' tk,P (CJ bt (n - 1)) v→(∀b o,b ∉ wr→b≠S→s.heap.get? b=some o→h'.get? b=some o)→R (.ok (.ret v)) {s with heap:=h',toks:=tk }):
  CA (model prog w) A (.builtin "min.loop" ⟨[.ref I,.none,.ref S],[]⟩) R s:=by
 have nw:S ∉ wr:=fun h=>hSf (W.sub _ h)
 have nm:(Dm "min"++Dm ".loop":String)="min.loop":=by decide
 refine AB A6 ?_
 rw[Ag zJ _]
 show wpAny _ A.in1 (DT (.ref S) >>=_) _ _ s
 refine yE (Ao hS rfl ?_)
 show wpAny _ A.in1 (Do (C6 (.ref I)) _ >>=_) _ _ s
 refine yE (Bb (W.item 0 s _ _ hn st fun v h' tk pv st' kp=>?_))
 have hS':=kp S _ nw hS
 show wpAny _ A.in1 (Du S (fun _=>#[v,v]) >>=_) _ _ _
 refine yE (A1 hS' rfl ?_)
 rw[nm]
 have oth:∀b o,b≠S→h'.get? b=some o→(h'.update S (Au fun _=>#[v,v])).get? b=some o:=fun b o h e=>(zj _ _ (Ne.symm h)).trans e
 refine yJ ⟨AF zJ _,oW W hc stay hSf _ 0 _ v _ rfl hn (stay _ _ g fun b o hw h e=>oth b o h (kp b o hw e)) (W.frame _ _ _ st' fun b hf o e=>oth b o (fun h=>hSf (h ▸ hf)) e) pv (Ai _ hS' rfl) fun v2 h2 t2 p2 k2=>?_⟩
 exact hR v2 h2 t2 p2 fun b o hw h e=>k2 b o hw h (oth b o h (kp b o hw e))
end
section
variable {prog:yT}{w:World}{A:zh}{E:Value→yI→Prop}{s:yI}
theorem call_minG {l:Addr}{items:Array Value}{G:Heap→Prop}{bt:Nat→Nat→Bool}{Q:Value→yI→Prop} (hh:A.handled=none) (hl:s.heap.IsList l items) (hn:0 < items.size) (hc:wJ prog w A.in1 .Lt G (fun i v=>items[i]?=some v) bt)
  (g:G s.heap) (stay:∀h h':Heap,G h→(∀b o,s.heap.get? b=some o→h.get? b=some o)→(∀b o,s.heap.get? b=some o→h'.get? b=some o)→G h')
  (hQ:∀v h' tk,items[CJ bt (items.size - 1)]?=some v→(∀b o,s.heap.get? b=some o→h'.get? b=some o)→Q v {s with heap:=h',toks:=tk }):
  wpAny (model prog w) A (call (.builtin "min") [.ref l]) Q E s:=by
 have nm:(Dm "min"++Dm ".loop":String)="min.loop":=by decide
 refine call_function_tree Gh FK FL (PySem.F.args_min1 _) ?_
 show wpAny _ A.in1 (Builtin.Builtins.bindParams "min" ["key","default"] 0 ⟨[],[]⟩ >>=_) _ _ s
 refine yE (Fd (show Builtin.Builtins.bindParams "min" ["key","default"] 0 ⟨[],[]⟩=pure [none,none] from rfl) ?_)
 refine yE (yJ ?_)
 refine yE (A8 hl ?_)
 have hal:l < s.heap.objs.size:=by obtain ⟨o,e,_⟩:=hl;exact yQ e
 refine yE (A7 ?_)
 rw[nm]
 have W:=Walks.list (prog:=prog) (w:=w) (A:=A.in1) hh s.heap.objs.size l (zb hal) items
 have up:∀b o,s.heap.get? b=some o→((s.heap.push {cls:=.type "list_iterator",data:=.fields #[.ref l,.int 0 0] }).push {cls:=.type "list",data:=.seq #[] }).get? b=some o:=fun b o e=>yG _ (yG _ e)
 have sI:(s.heap.push {cls:=.type "list_iterator",data:=.fields #[.ref l,.int 0 0] }).objs.size=s.heap.objs.size+1:=z9 ..
 have lt:∀b o,s.heap.get? b=some o→b ∉ [s.heap.objs.size]∧b≠(s.heap.push {cls:=.type "list_iterator",data:=.fields #[.ref l,.int 0 0] }).objs.size:=fun b o e=>by
  have h:=yQ e
  refine ⟨fun z=>?_,fun z=>?_⟩
  ·rw[zZ.mp z] at h;exact zO _ h
  ·rw[z,sI] at h;exact zO _ (Nat.lt_of_succ_lt h)
 refine yJ ⟨AF zJ _,mJ (G:=fun h=>G h∧∀b o,s.heap.get? b=some o→h.get? b=some o) W (fun i j vi vj s' Q' E' g'=>hc i j vi vj s' Q' E' g'.1) (fun h h' g' kp=>?_) ?_ hn ⟨stay _ _ g (fun _ _ e=>e) up,up⟩ ⟨⟨_,yG _ (yR _ rfl),rfl,rfl⟩,(hl.push _).push _⟩ (yR _ rfl) fun v h' tk pv kp=>?_⟩
 ·have k2:∀b o,s.heap.get? b=some o→h'.get? b=some o:=fun b o e=>kp b o (lt b o e).1 (lt b o e).2 (g'.2 b o e)
  exact ⟨stay _ _ g'.1 g'.2 k2,k2⟩
 ·intro z
  have z':(s.heap.push {cls:=.type "list_iterator",data:=.fields #[.ref l,.int 0 0] }).objs.size∈[s.heap.objs.size,l]:=z
  rw[sI] at z'
  rcases yP.mp z' with z |z
  ·exact absurd z (Nat.succ_ne_self _)
  ·have e:=zZ.mp z
   rw[←e] at hal;exact absurd hal (Nat.not_lt_of_gt (Bf _))
 ·exact hQ v h' tk pv fun b o e=>kp b o (lt b o e).1 (lt b o e).2 (up b o e)
end
section
variable {prog:yT}{w:World}{A:zh}{R:Fj→yI→Prop}{I S:Addr}{fp wr:List Addr}{n:Nat}{P:Nat→Value→Prop}{St:Nat→Heap→Prop}{G:Heap→Prop}{bt:Nat→Nat→Bool}
end
section
variable {prog:yT}{w:World}{A:zh}{E:Value→yI→Prop}{s:yI}
end
end ST
namespace ST
open PySem PyProof.Rows
section
variable {prog:yT}{w:World}{A:zh}{E:Value→yI→Prop}{s:yI}
theorem dq {x y:Int}{t u:Tok}{Q:Value→yI→Prop} (h:Q (.bool (decide (x < y))) s):wpAny (model prog w) A (B5 .Lt (.int x t) (.int y u)) Q E s:=
 richCompare_gives (op:=.Lt) (Ho s _ t) (Ho s _ u) PySem.F.slot_int_lt PySem.F.entry_int_lt (PySem.F.args_int_lt_2 _ _) (gives_int_lt _ _ t u) (fun x=>nomatch x) h
theorem qT {x y:Addr}{a b:Int×Int}{P:Fin→yI→Prop} (hx:TK prog w s.heap [a.1,a.2] x) (hy:TK prog w s.heap [b.1,b.2] y) (h:P (.done (.ret (.bool (ltP a b)))) s):
  wpAny (model prog w) A (Builtin.«tuple.__lt__» ⟨[.ref x,.ref y],[]⟩) P E s:=by
 have hTb:=hy.typeIs
 obtain ⟨o,its,n,t,u,ho,_,hd,hi⟩:=hx.two
 obtain ⟨o',its',n',t',u',ho',_,hd',hi'⟩:=hy.two
 show wpAny _ _ (Hr (.ref y) (.type "tuple") >>=_) _ _ s
 refine yE (Bw hTb EM ?_)
 simp only[Aq,yX,if_false]
 refine yE (CK ho hd ?_)
 refine yE (CK ho' hd' ?_)
 have sz:its.size=its'.size:=by rw[←y4,←y4,hi,hi'];rfl
 rw[hi,hi']
 refine yE ?_
 simp only[B1,FM,CC,C4]
 refine yE (yE ((Bc prog w).eqBool (a:=a.1) (b:=b.1) (Aj _ _ _ _) (Aj _ _ _ _) ?_))
 by_cases e1:a.1=b.1
 ·rw[decide_eq_true e1]
  simp only[Aq,yX,if_false]
  refine yJ ?_
  refine yE (yE ((Bc prog w).eqBool (a:=a.2) (b:=b.2) (Aj _ _ _ _) (Aj _ _ _ _) ?_))
  by_cases e2:a.2=b.2
  ·rw[decide_eq_true e2]
   simp only[Aq,yX,if_false]
   refine yJ (yJ ?_)
   have z:ltP a b=false:=by unfold ltP;simp;omega
   rw[z] at h
   refine yJ ?_
   show P (.done (.ret (.bool (decide (its.size < its'.size))))) s
   rw[sz,decide_eq_false (zO _)]
   exact h
  ·rw[decide_eq_false e2]
   simp only[Ba,if_true]
   have z:ltP a b=decide (a.2 < b.2):=by unfold ltP;rw[e1];simp
   rw[z] at h
   exact yE (BH (yE (dq (yE (yJ (yJ (yJ (yJ h))))))))
 ·rw[decide_eq_false e1]
  simp only[Ba,if_true]
  have z:ltP a b=decide (a.1 < b.1):=by unfold ltP;simp[e1]
  rw[z] at h
  exact yE (BH (yE (dq (yE (yJ (yJ (yJ (yJ h))))))))
theorem tV {x y:Addr}{a b:Int×Int}{Q:Value→yI→Prop} (hu:A.units < cLine) (hx:TK prog w s.heap [a.1,a.2] x) (hy:TK prog w s.heap [b.1,b.2] y) (h:Q (.bool (ltP a b)) s):
  wpAny (model prog w) A (AJ .Lt (.ref x) (.ref y)) Q E s:=
 Dv (op:=.Lt) hx.typeIs hy.typeIs B6
  (AM B6 hx.typeIs Er (qT hx hy ⟨_,rfl,(fun e=>nomatch e),h⟩) (D_ _ _)) hu
end
end ST
namespace L2
open PySem PySem.Spec PyProof.Rows
section
variable {X:Cx}{pts:List P2}{M:P2}
end
section
variable {X:Cx}{H0:Hp}{O0:List Addr}{ps:PSt}{xs:List U}{x:Str}{pos pc p':Pos}
end
section
variable {X:Cx}{H0:Hp}{O0:List Addr}{ps:PSt}{x:Str}{pos:Pos}{a b:Expr}{i j:Int}
end
section
variable {X:Cx}{H0:Hp}{O0:List Addr}{ps:PSt}{e tg:Expr}{p pos:Pos}{xs:List U}{x:U}
end
section
variable {X:Cx}{H0:Hp}{O0:List Addr}{ps:PSt}{a b:Expr}{pos:Pos}{xs:List U}{u:U}{k:Int}
end
end L2
namespace L2
open PySem PySem.Spec PySem.W PyProof.Rows
section
variable {X:Cx}
end
end L2
namespace L2
open PySem PySem.Spec PyProof.Rows
section
variable {X:Cx}{H0:Hp}{O0:List Addr}{E:XK}{ps ps':PSt}{D:PD}{s:Stmt}{ss body:List Stmt}{a b c e:Expr}{es:List Expr}{pos p:Pos}{u x y:U}{xs ys us:List U}{k:Bool}
 {CX:CXT}{n:Nat}{f C:Addr}{fd:zG}{pn:List Str}{spec:List U→Out→Prop}{nm:Str}
end
theorem Rs.free {K:yH}{H0 H:Hp}{O0 O:List Addr}{ps:PSt}{σ:St}{xs:List U} (n:Nat) (h:ps[n]?=some (some (.own xs))) (R:Rs K H0 O0 ps σ H O):∃O',(∀b∈O',b∈O)∧Rs K H0 O0 (ps.set n (some (.val (.lst xs)))) σ H O':=by
 obtain ⟨v,hv,a,vs,rfl,ha,ha0,hH,rs⟩:=R.at_ n _ h
 have less:∀b∈O.filter (fun b=>decide (b≠a)),b∈O:=fun b hb=>(Ay.mp hb).1
 have keep:∀b∈O,b≠a→b∈O.filter (fun b=>decide (b≠a)):=fun b hb ne=>Ay.mpr ⟨hb,by simpa using ne⟩
 have sm:ax (hid H O) (hid H (O.filter (fun b=>decide (b≠a)))):=dN less
 have na:a ∉ O.filter (fun b=>decide (b≠a)):=fun z=>by have:=(Ay.mp z).2;simp at this
 refine ⟨O.filter (fun b=>decide (b≠a)),less,R.same,fun b hb=>keep b (R.old b hb) fun e=>ha0 (e ▸ hb),fun b hb=>R.new b (less b hb),fun b hb=>R.dom b (less b hb),by rw[R.len,CD],fun i s hs=>?_,fun i j ys zs b h1 h2 h3 h4=>?_⟩
 ·rcases cO hs with ⟨rfl,e⟩ |⟨ne,hs⟩
  ·cases e
   exact ⟨.ref a,hv,.lst (dg hH na) (rs.same sm).len (rs.same sm).at_⟩
  ·obtain ⟨w,hw,ok⟩:=R.at_ i s hs
   refine ⟨w,hw,?_⟩
   cases s with
   |val u=>exact Rp.same sm ok
   |own ys=>
    obtain ⟨b,ws,rfl,hb,hb0,hHb,rsb⟩:=ok
    refine ⟨b,ws,rfl,keep b hb fun e=>?_,hb0,hHb,rsb.same sm⟩
    subst e
    exact ne (R.inj n i _ _ b h hs hv hw)
   |pin z u=>exact ⟨ok.1,Rp.same sm ok.2⟩
 ·rcases cO h1 with ⟨_,e⟩ |⟨_,h1⟩
  ·cases e
  ·rcases cO h2 with ⟨_,e⟩ |⟨_,h2⟩
   ·cases e
   ·exact R.inj i j _ _ b h1 h2 h3 h4
section
variable {X:Cx}{H0:Hp}{O0:List Addr}{E:XK}{ps:PSt}{D:PD}{ss:List Stmt}{e:Expr}{xs:List U}{b:Bool}
theorem iK (n:Nat) (h:ps[n]?=some (some (.own xs))) (w:Ws X H0 O0 E ss D (ps.set n (some (.val (.lst xs))))):Ws X H0 O0 E ss D ps:=
 PSs.mono w fun D' σ H ⟨L,O,R⟩=>by
  obtain ⟨O',_,R'⟩:=R.free n h
  exact ⟨L,O',R'⟩
end
section
variable {X:Cx}{ns:List Int}{M:Int}
end
section
variable {X:Cx}{H0:Hp}{O0:List Addr}{E:XK}{ps:PSt}{D:PD}{e:Expr}{pos:Pos}{xs ys:List U}
end
end L2
namespace L2
open PySem PySem.Spec PySem.W PyProof.Rows
section
variable {X:Cx}
end
section
variable {X:Cx}{H0:Hp}{O0:List Addr}{E:XK}{ps:PSt}{D:PD}{a e:Expr}{es:List Expr}{us:List U}{k:Bool}{n:Nat}{fd:zG}{pn:List Str}{spec:List U→Out→Prop}
end
end L2
namespace L2
open PySem PySem.Spec PyProof.Rows
section
variable {X:Cx}{H0:Hp}{O0:List Addr}{ps:PSt}{a b:Expr}{p:P2}{l:List P2}
end
end L2
namespace ST
open PySem PySem.W PySem.Calls PyProof.Rows
section
variable {prog:yT}{w:World}{A:zh}{E:Value→yI→Prop}{s:yI}
end
end ST
namespace L2
open PySem PySem.Spec PyProof.Rows
section
variable {X:Cx}{H0:Hp}{O0:List Addr}{ps:PSt}{e:Expr}{p pos:Pos}{a b:P2}
end
end L2
namespace ST
open PySem PySem.W PySem.Calls PyProof.Rows
section
variable {prog:yT}{w:World}{A:zh}{E:Value→yI→Prop}{s:yI}
end
end ST
namespace L2
open PySem PySem.Spec PyProof.Rows
section
variable {X:Cx}{H0:Hp}{O0:List Addr}{ps:PSt}{e:Expr}{pts:List P2}{pos p:Pos}
end
end L2
namespace L2
open PySem PySem.Spec PySem.W PyProof.Rows
section
variable {X:Cx}
end
section
variable {X:Cx}{H0:Hp}{O0:List Addr}{E:XK}{ps:PSt}{D:PD}{a e:Expr}{es:List Expr}{us:List U}{k:Bool}{n:Nat}{fd:zG}{pn:List Str}{spec:List U→Out→Prop}
end
structure yC (K:yH) (x qual:Str) (st:Stmt) (f:Addr) (fd:zG) (D:Addr):Prop where
 ex:∃(oc:Value) (od:Option Addr) (kV doc pm:Value) (an:Option Addr) (cdv ct:Value) (osl:Array (Option Value)),
  fd=zr x qual (aH st) (aA st) (af st) (.ref D) kV doc pm an cdv ct∧K.lookup f=some ⟨oc,od,.func fd,osl⟩∧y3 K cdv qual=true
 kp:yZ K (.ref f)=true
section
variable {P:yT}{w:World}{K:yH}{mg:Str→Option Value}{base:Heap}{N pn:List Str}{qual nm:Str}{f D:Addr}
end
section
variable {X:Cx}{H0:Hp}{O0:List Addr}{ps:PSt}{e:Expr}{es:List Expr}{pos p:Pos}{u:U}{us:List U}{xs:List U}{CX:CXT}{n:Nat}{f:Addr}{fd:zG}{pn:List Str}{spec:List U→Out→Prop}{nm:Str}{j:Int}
end
end L2
namespace L2
open PySem PySem.Spec PyProof.Rows
section
variable {X:Cx}{H0:Hp}{O0:List Addr}{ps:PSt}{a b:Expr}{k:Int}{ns:List Int}
end
section
variable {X:Cx}{tg:Expr}
variable {H0:Hp}{O0:List Addr}{ps:PSt}{a b:Expr}{p pos:Pos}
end
section
variable {X:Cx}{H0:Hp}{O0:List Addr}{E:XK}{ps ps':PSt}{D:PD}{tg iter cond:Expr}{pos p:Pos}{xs:List U}
end
section
variable {X:Cx}{H0:Hp}{O0:List Addr}{ps:PSt}{e:Expr}{ns:List Int}{pos p:Pos}
end
section
variable {X:Cx}{H0:Hp}{O0:List Addr}{E:XK}{ps:PSt}{D:PD}{c:Expr}{pos:Pos}{xs:List U}
end
end L2
namespace TS
open PySem PyProof.Rows
abbrev SM:=StateT SortSt Sem
section
variable {prog:yT}{w:World}{A:zh}{E:Value→yI→Prop}{s:yI}
def gt (a:Array Keyed) (i:Nat):Keyed:=a.getD i (zl,zl)
end
section
variable {prog:yT}{w:World}{A:zh}{E:Value→yI→Prop}{s:yI}
end
section
variable {α:Type}{R:α→α→Bool}{A B out:List α}{ia ib:Nat}
structure MI (R:α→α→Bool) (A B out:List α) (ia ib:Nat):Prop where
 perm:out.Perm (A.take ia++B.take ib)
 srt:out.Pairwise fun x y=>R x y=true
 lA:∀x∈out,∀y∈A.drop ia,R x y=true
 lB:∀x∈out,∀y∈B.drop ib,R x y=true
structure MO (R:α→α→Bool) (A B:List α):Prop where
 tr:∀x y z,R x y=true→R y z=true→R x z=true
 sA:A.Pairwise fun x y=>R x y=true
 sB:B.Pairwise fun x y=>R x y=true
 tot:∀x∈A,∀y∈B,R y x=false→R x y=true
end
section
variable {M:Model}{A:zh}{E:Value→yI→Prop}{s:yI}{σ:Type}
end
section
variable {prog:yT}{w:World}{A:zh}{E:Value→yI→Prop}{s:yI}
def mK (prog:yT) (w:World) (A:zh) (E:Value→yI→Prop) (s:yI) (κ:C3) (P:Keyed→Prop) (R:Keyed→Keyed→Bool):Prop:=
 ∀x y st (Q:Option Bool→SortSt→Prop),P x→P y→kindOf st=κ→Q (some (R x y)) st→wpS (model prog w) A E s (lt' x y) Q st
variable {κ:C3}{P:Keyed→Prop}{R:Keyed→Keyed→Bool} (K:mK prog w A E s κ P R)
include K
end
section
variable {α:Type}{R:α→α→Bool}{A B:List α}
end
section
variable {prog:yT}{w:World}{A:zh}{E:Value→yI→Prop}{s:yI}{κ:C3}{P:Keyed→Prop}{R:Keyed→Keyed→Bool} (K:mK prog w A E s κ P R)
include K
end
section
end
section
variable {prog:yT}{w:World}{A:zh}{E:Value→yI→Prop}{s:yI}{κ:C3}{P:Keyed→Prop}{R:Keyed→Keyed→Bool} (K:mK prog w A E s κ P R)
include K
end
section
variable {prog:yT}{w:World}{A:zh}{E:Value→yI→Prop}{s:yI}{κ:C3}{P:Keyed→Prop}{R:Keyed→Keyed→Bool}
structure Ord (P:Keyed→Prop) (R:Keyed→Keyed→Bool) (l:List Keyed):Prop where
 tr:∀x y z,R x y=true→R y z=true→R x z=true
 tot:∀x∈l,∀y∈l,x≠y→R x y=false→R y x=true
 nd:l.Nodup
 hp:∀x∈l,P x
structure Stt (κ:C3) (l:List Keyed) (pd:Array (Nat×Nat×Nat)) (st:SortSt):Prop where
 kind:kindOf st=κ
 failed:failedOf st=none
 perm:(arrOf st).toList.Perm l
 pend:pendingOf st=pd
variable {l:List Keyed}{pd:Array (Nat×Nat×Nat)}
def Kept (a b:Array Keyed) (lo:Nat):Prop:=∀j,j < lo→gt b j=gt a j
variable (K:mK prog w A E s κ P R)
include K
end
section
variable {prog:yT}{w:World}{A:zh}{E:Value→yI→Prop}{s:yI}{κ:C3}{P:Keyed→Prop}{R:Keyed→Keyed→Bool}{l:List Keyed}{pd:Array (Nat×Nat×Nat)}
variable (K:mK prog w A E s κ P R)
include K
end
section
variable {prog:yT}{w:World}{A:zh}{E:Value→yI→Prop}{s:yI}{κ:C3}{P:Keyed→Prop}{R:Keyed→Keyed→Bool}{l:List Keyed}
variable (K:mK prog w A E s κ P R)
include K
end
section
variable {prog:yT}{w:World}{A:zh}{E:Value→yI→Prop}{s:yI}{κ:C3}{P:Keyed→Prop}{R:Keyed→Keyed→Bool}{l:List Keyed}
variable (K:mK prog w A E s κ P R)
include K
end
end TS
namespace ST
open PySem PySem.W PyProof.Rows
abbrev ky (p:(Int×Int)×Addr):Keyed:=(zY p.2,zY p.2)
open Classical in
noncomputable def RP (pb:PB) (x y:Keyed):Bool:=decide (∃p∈pb,∃q∈pb,x=ky p∧y=ky q∧ltP p.1 q.1=true)
section
variable {prog:yT}{w:World}{A:zh}{E:Value→yI→Prop}{s:yI}
end
end ST
namespace ST
open PySem PySem.W PyProof.Rows PySem.Calls
section
variable {prog:yT}{w:World}{A:zh}{E:Value→yI→Prop}{s:yI}
end
end ST
namespace L2
open PySem PySem.Spec PyProof.Rows
section
variable {X:Cx}{H0:Hp}{O0:List Addr}{ps:PSt}{e:Expr}{pts:List P2}{pos pos' p p':Pos}
end
section
variable {X:Cx}{tg:Expr}
variable {H0:Hp}{O0:List Addr}{ps:PSt}{a:Expr}{p pos:Pos}
end
end L2
namespace ST
open PySem PySem.W PySem.Calls PyProof.Rows
section
variable {prog:yT}{w:World}{A:zh}{E:Value→yI→Prop}{s:yI}
end
end ST
namespace L2
open PySem PySem.Spec PyProof.Rows
section
variable {X:Cx}{H0:Hp}{O0:List Addr}{ps:PSt}{e:Expr}{pts:List P2}{pos p:Pos}
end
section
variable {X:Cx}{H0:Hp}{O0:List Addr}{E:XK}{ps ps':PSt}{D:PD}{a b c e:Expr}{es:List Expr}{u:U}{xs ys us:List U}
 {n:Nat}{C:Addr}{fd:zG}{pn:List Str}{spec:List U→Out→Prop}
end
end L2
namespace L2
open PySem PySem.Spec PySem.W PyProof.Rows
section
variable {X:Cx}{H0:Hp}{O0:List Addr}{E:XK}{ps:PSt}{D:PD}{s:Stmt}{pos:Pos}{u:U}{xs:List U}
end
section
variable {P:yT}{w:World}{K:yH}{mg:Str→Option Value}{base:Heap}{N pn:List Str}{qual nm:Str}{f:Addr}
end
section
variable {X:Cx}{H0:Hp}{O0:List Addr}{ps:PSt}{e:Expr}{xs:List U}{us:List U}{x nm:Str}{pc p' pos:Pos}{u:U}
end
section
variable {X:Cx}
def TB (X:Cx) (body:List Stmt) (t:(St→Hp→Prop)→(St→XK)→St→Hp→Prop):Prop:=
 ∀(pins:List (Addr×Obj)) (s:yI) (σ:St) (H:Hp) (N:St→Hp→Prop) (EX:St→XK) (Q:Flow→yI→Prop) (E':Value→yI→Prop),Inv X pins σ H s→t N EX σ H→(∀σ' H' s',Inv X pins σ' H' s'→N σ' H'→Q .next s')→
  (∀σ1 s1 H1 ev s',Inv X pins σ1 H1 s1→CXF X.prog X.w X.stack H1 s1 (EX σ1) ev s'→E' ev s')→wpAny (model X.prog X.w) X.A (execs body X.env) Q E' s
end
section
variable {X:Cx}{H0:Hp}{O0:List Addr}{E:XK}{ps:PSt}{D:PD}{e c:Expr}{es:List Expr}{us:List U}{n:Nat}{fd:zG}{pn:List Str}{spec:List U→Out→Prop}{AA rest:List Stmt}{nx:PSt→Prop}{ex:PSt→Addr→Prop}
end
abbrev T' (l:List Nat):Str:=⟨l.toArray⟩
section
variable {X:Cx}{tg:Expr}
end
abbrev sg (c:Nat):U:=.str ⟨#[c]⟩
section
variable {X:Cx}{H0:Hp}{O0:List Addr}{ps:PSt}{a b e tg:Expr}{es:List Expr}{pos p p2:Pos}{x y:Str}{i:Int}{lo hi:Option Expr}{l h:Option Int}
variable {apos cpos:Pos}
end
inductive Cst:Expr→U→Prop
 |str (x:Str) (j) (p:Pos):Cst (.Constant (.str x) j p) (.str x)
 |int (i:Int) (j) (p:Pos):Cst (.Constant (.int i) j p) (.int i)
 |bl (b:Bool) (j) (p:Pos):Cst (.Constant (.bool b) j p) (.bl b)
 |non (j) (p:Pos):Cst (.Constant .none j p) .non
inductive wI:List Expr→List U→Prop
 |nil:wI [] []
 |cons {e:Expr}{u:U}{es:List Expr}{us:List U}:Cst e u→wI es us→wI (e::es) (u::us)
structure EvD (X:Cx) (H0:Hp) (O0:List Addr) (ps:PSt) (e:Expr) (u:U):Prop where
 ev:Ev X H0 O0 ps e u
section
variable {X:Cx}{H0:Hp}{O0:List Addr}{ps:PSt}{a b e:Expr}{x y:Str}
variable {apos cpos:Pos}
end
section
variable {X:Cx}{H0:Hp}{O0:List Addr}{E:XK}{ps:PSt}{a b e:Expr}{es:List Expr}{y:Str}{l:List Nat}{c:Nat}{apos cpos pos:Pos}{u:U}{C:Addr}
end
section
variable {M:Model}{A:zh}{E:Value→yI→Prop}{s:yI}
end
section
variable {P:yT}{w:World}{K:Frag}{mg:Str→Option Value}{base:Heap}{N:List Str}{qual:Str}{scope:Scope}{f:Addr}{cd:Value}{A:zh}{outer:List Env}{s:yI}{H:Hp}{E:XK}
end
section
variable {X:Cx}{pins:List (Addr×Obj)}{σ:St}{H:Hp}{s:yI}{E:XK}
end
section
variable {X:Cx}{H0:Hp}{O0:List Addr}{E:XK}{ps:PSt}{iter tg elt e:Expr}{es:List Expr}{pos p:Pos}{xs ys us:List U}{C0:Addr}
end
structure EvM (X:Cx) (H0:Hp) (O0:List Addr) (ps:PSt) (e:Expr) (us:List U):Prop where
 ev:EvN X H0 O0 ps e us
theorem vK {X:Cx}{H0:Hp}{O0:List Addr}{ps:PSt}{es:List Expr}{us:List U}{pos:Pos} (h:EvS X H0 O0 ps es us) (hz:us.length≤sizeLine):EvM X H0 O0 ps (.List es pos) us:=⟨gK h hz⟩
end L2
namespace L2
open PySem PySem.Spec PyProof.Rows
section
variable {X:Cx}{H0:Hp}{O0:List Addr}{E:XK}{ps:PSt}{D:PD}{e1 e2:Expr}{xs1 xs2:List U}{pos lpos:Pos}{body:List Stmt}
end
structure Dl (K:yH) (ps:PSt) (j:Nat) (xss:Nat→List U) (H0:Hp) (O0:List Addr) (σ:St) (H:Hp) (O:List Addr) (d:Addr) (as:Nat→Addr):Prop where
 rs:Rs K H0 O0 ps σ H O
 vals:∀(i:Nat) (s:Sl),ps[i]?=some (some s)→∃u,s=.val u
 non:ps[j]?=some none
 at_:σ[j]?=some (some (.ref d))
 dO:d∈O
 dO0:d ∉ O0
 aO:∀r,r < 3→as r∈O∧as r ∉ O0
 da:∀r,r < 3→as r≠d
 inj:∀r t,r < 3→t < 3→as r=as t→r=t
 dh:H d=some (.lst [.ref (as 0),.ref (as 1),.ref (as 2)])
 ah:∀r,r < 3→∃vs,H (as r)=some (.lst vs)∧Rps K (hid H O) vs (xss r)
section
variable {K:yH}{H0 H H':Hp}{O0 O:List Addr}{ps:PSt}{σ:St}{j:Nat}{xss:Nat→List U}{d:Addr}{as:Nat→Addr}
end
section
variable {X:Cx}{H0:Hp}{O0:List Addr}{E:XK}{ps:PSt}{D:PD}{iter e1 e2:Expr}{items:List U}{ss:List Stmt}
end
end L2
namespace ST2
open PySem PySem.SetTable ST
section
variable {prog:yT}{w:World}{A:zh}{E:Value→yI→Prop}{s:yI}
abbrev K4:=(Int×Int)×(Int×Int)
abbrev l1 (k:K4):List Int:=[k.1.1,k.1.2]
abbrev l2 (k:K4):List Int:=[k.2.1,k.2.2]
def TQ (prog:yT) (w:World) (h:Heap) (k:K4) (b:Addr):Prop:=∃o items n a1 a2,h.get? b=some o∧o.cls=.type "tuple"∧o.data=.seq items n∧items.toList=[.ref a1,.ref a2]∧TK prog w h (l1 k) a1∧TK prog w h (l2 k) a2
end
section
variable {prog:yT}{w:World}{A:zh}{E:Value→yI→Prop}{s:yI}{hZ:K4→Int}
def ents (hZ:K4→Int) (kb:List (K4×Addr)):List (Int×Value):=kb.map fun p=>(hZ p.1,.ref p.2)
structure SP (prog:yT) (w:World) (hZ:K4→Int) (h:Heap) (S:Addr) (kb:List (K4×Addr)):Prop where
 ex:∃o es ep t,h.get? S=some o∧o.ExactSet∧o.data=.set es ep t∧es.toList=ents hZ kb∧TOk t (kb.map fun p=>hZ p.1)∧t.led=(!w.params.followText "set-order")∧t.plain=true∧t.tooFull=false∧t.mask < 8*kb.length+8
 keys:∀p∈kb,TQ prog w h p.1 p.2
 nd:(kb.map (·.1)).Nodup
end
section
variable {prog:yT}{w:World}{A:zh}
structure Got (kx:Nat→K4×Addr) (i:Nat) (kb:List (K4×Addr)):Prop where
 src:∀p∈kb,∃j,j < i∧p=kx j
 all:∀j,j < i→(kx j).1∈kb.map (·.1)
 len:kb.length≤i
variable {R:Fj→yI→Prop}{I:Addr}{fp wr:List Addr}{G:Array B9→Array B9→Prop}{n:Nat}{P:Nat→Value→Prop}{St:Nat→yI→Prop}
end
section
variable {prog:yT}{w:World}{A:zh}{E:Value→yI→Prop}{s:yI}
end
end ST2
namespace ST
open PySem PySem.W PySem.Calls PyProof.Rows
section
variable {prog:yT}{w:World}{A:zh}{E:Value→yI→Prop}{s:yI}
end
end ST
namespace L2
open PySem PySem.Spec PyProof.Rows
section
variable {X:Cx}{H0:Hp}{O0:List Addr}{ps:PSt}{e:Expr}{p pos:Pos}{a b:P2}
end
section
variable {X:Cx}{H0:Hp}{O0:List Addr}{ps:PSt}{e:Expr}{pts:List P2}{prs dd:List (P2×P2)}{pos pos' p p':Pos}
end
end L2
namespace HT
open PySem PySem.W PySem.Spec PyProof.Rows L2
section
variable {prog:yT}{w:World}{A:zh}{E:Value→yI→Prop}{s:yI}
end
end HT
namespace L2
open PySem PySem.Spec PyProof.Rows
section
variable {X:Cx}{H0:Hp}{O0:List Addr}{E:XK}{ps:PSt}{D:PD}{e:Expr}{lo hi:Option Expr}{l h:Option Int}{pos p2:Pos}{xs ys:List U}
end
end L2
namespace L2
open PySem PySem.Spec PySem.W PyProof.Rows
open PySem.Builtin.Str in
def yx (x y z:Str):Str:=if ((occurrences x y 0 x.length 1).isEmpty || (y.length==0 && z.length==0))=true then x else glued z (partsBetween x (occurrences x y 0 x.length 1) y.length)
section
variable {prog:yT}{w:World}{A:zh}{E:Value→yI→Prop}{s:yI}{x y z:Str}{t u v k:Tok}{Q:Value→yI→Prop}
end
section
variable {X:Cx}{H0:Hp}{O0:List Addr}{E:XK}{ps:PSt}{D:PD}
end
end L2
namespace ST3
open PySem PySem.W PySem.Calls PyProof.Rows ST
abbrev TR:=(Int×Int)×(Int×Int)×(Int×Int)
def ltT (a b:TR):Bool:=if a.1=b.1 then (if a.2.1=b.2.1 then ltP a.2.2 b.2.2 else ltP a.2.1 b.2.1) else ltP a.1 b.1
section
variable {prog:yT}{w:World}{A:zh}{E:Value→yI→Prop}{s:yI}
abbrev lq (p:Int×Int):List Int:=[p.1,p.2]
def TT (prog:yT) (w:World) (h:Heap) (t:TR) (b:Addr):Prop:=∃o items n a1 a2 a3,h.get? b=some o∧o.cls=.type "tuple"∧o.data=.seq items n∧items.toList=[.ref a1,.ref a2,.ref a3]∧TK prog w h (lq t.1) a1∧TK prog w h (lq t.2.1) a2∧TK prog w h (lq t.2.2) a3
abbrev PT3:=List (TR×Addr)
end
section
variable {prog:yT}{w:World}{A:zh}{E:Value→yI→Prop}{s:yI}
abbrev ky3 (p:TR×Addr):Keyed:=(zY p.2,zY p.2)
open Classical in
noncomputable def RP3 (pb:PT3) (x y:Keyed):Bool:=decide (∃p∈pb,∃q∈pb,x=ky3 p∧y=ky3 q∧ltT p.1 q.1=true)
end
section
variable {prog:yT}{w:World}{A:zh}{E:Value→yI→Prop}{s:yI}
end
end ST3
namespace L2
open PySem PySem.Spec PyProof.Rows
def t0:ST3.TR:=((0,0),(0,0),(0,0))
section
variable {X:Cx}{H0:Hp}{O0:List Addr}{ps:PSt}{e:Expr}{trs:List ST3.TR}{pos p:Pos}
theorem xg {a b c:V}{us:List Value} (h:aN [a,b,c] us):∃u v w,us=[u,v,w]∧aR a u∧aR b v∧aR c w:=by
 cases h with
 |cons h1 r=>
  cases r with
  |cons h2 r=>
   cases r with
   |cons h3 r=>cases r;exact ⟨_,_,_,rfl,h1,h2,h3⟩
end
end L2
namespace ST6
open PySem PySem.W PySem.Calls PyProof.Rows ST
def ltL:List Int→List Int→Bool
 |a::r,b::t=>if a=b then ltL r t else decide (a < b)
 |[],_::_=>true
 |_,[]=>false
theorem ltL_irr:∀x:List Int,ltL x x=false
 |[]=>rfl
 |a::r=>by rw[ltL,if_pos rfl];exact ltL_irr r
theorem ltL_asy:∀{a b:List Int},ltL a b=true→ltL b a=false
 |[],[],_=>rfl
 |[],_::_,_=>rfl
 |_::_,[],h=>by cases h
 |a::r,b::t,h=>by
  rw[ltL] at h ⊢
  by_cases e:a=b
  ·rw[if_pos e] at h
   rw[if_pos e.symm];exact ltL_asy h
  ·rw[if_neg e] at h
   rw[if_neg (Ne.symm e)]
   have:=of_decide_eq_true h
   exact decide_eq_false (by omega)
theorem ltL_tot:∀{a b:List Int},a≠b→ltL a b=false→ltL b a=true
 |[],[],h,_=>absurd rfl h
 |[],_::_,_,h=>by cases h
 |_::_,[],_,_=>rfl
 |a::r,b::t,h,k=>by
  rw[ltL] at k ⊢
  by_cases e:a=b
  ·rw[if_pos e] at k
   rw[if_pos e.symm]
   exact ltL_tot (fun z=>h (by rw[e,z])) k
  ·rw[if_neg e] at k
   rw[if_neg (Ne.symm e)]
   have:=of_decide_eq_false k
   exact decide_eq_true (by omega)
theorem ltL_tr:∀{a b c:List Int},ltL a b=true→ltL b c=true→ltL a c=true
 |[],[],_,h,_=>by cases h
 |[],_::_,[],_,k=>by cases k
 |[],_::_,_::_,_,_=>rfl
 |_::_,[],_,h,_=>by cases h
 |_::_,_::_,[],_,k=>by cases k
 |a::r,b::t,c::u,h,k=>by
  rw[ltL] at h k ⊢
  by_cases e:a=b
  ·rw[if_pos e] at h
   by_cases f:b=c
   ·rw[if_pos f] at k
    rw[if_pos (e.trans f)];exact ltL_tr h k
   ·rw[if_neg f] at k
    rw[if_neg (by rw[e];exact f),e];exact k
  ·rw[if_neg e] at h
   have h1:=of_decide_eq_true h
   by_cases f:b=c
   ·rw[if_neg (by rw[←f];exact e),←f];exact h
   ·rw[if_neg f] at k
    have h2:=of_decide_eq_true k
    rw[if_neg (by omega)]
    exact decide_eq_true (by omega)
def gD (x:(List Int)):List (List Int)→List (List Int)
 |[]=>[x]
 |y::r=>if x=y then y::r else if ltL x y=true then x::y::r else y::gD x r
def srtL (pts:List (List Int)):List (List Int):=pts.foldr gD []
theorem gR (x z:(List Int)):∀l,z∈gD x l↔z=x∨z∈l
 |[]=>by simp[gD]
 |y::r=>by
  unfold gD
  split
  ·rename_i h;subst h;simp
  ·split
   ·simp
   ·rw[yP,gR x z r,yP]
    constructor
    ·rintro (h |h |h)
     ·exact .inr (.inl h)
     ·exact .inl h
     ·exact .inr (.inr h)
    ·rintro (h |h |h)
     ·exact .inr (.inl h)
     ·exact .inl h
     ·exact .inr (.inr h)
abbrev qy (l:List (List Int)):Prop:=l.Pairwise (fun x y=>ltL x y=true)
theorem i5 (x:(List Int)):∀l,qy l→qy (gD x l)
 |[],_=>by simp[gD]
 |y::r,h=>by
  unfold gD
  split
  ·exact h
  ·rename_i hne
   obtain ⟨h1,h2⟩:=z7.mp h
   split
   ·rename_i hlt
    refine z7.mpr ⟨fun z hz=>?_,h⟩
    rcases yP.mp hz with e |e
    ·rw[e];exact hlt
    ·exact ltL_tr hlt (h1 z e)
   ·rename_i hlt
    refine z7.mpr ⟨fun z hz=>?_,i5 x r h2⟩
    rcases (gR x z r).mp hz with e |e
    ·rw[e];exact ltL_tot hne (by simpa using hlt)
    ·exact h1 z e
theorem srtL_mem (z:(List Int)):∀l,z∈srtL l↔z∈l
 |[]=>by simp[srtL]
 |y::r=>by
  show z∈gD y (srtL r)↔_
  rw[gR,srtL_mem z r,yP]
theorem srtL_ascL:∀l,qy (srtL l)
 |[]=>B_
 |y::r=>i5 y (srtL r) (srtL_ascL r)
theorem ascL_irr {x:(List Int)}:ltL x x=false:=ltL_irr x
theorem ascL_one:∀{l m:List (List Int)},qy l→qy m→(∀z,z∈l↔z∈m)→l=m
 |[],[],_,_,_=>rfl
 |[],y::r,_,_,h=>by have:=(h y).mpr yV;simp at this
 |x::l,[],_,_,h=>by have:=(h x).mp yV;simp at this
 |x::l,y::m,hl,hm,h=>by
  obtain ⟨a1,a2⟩:=z7.mp hl
  obtain ⟨b1,b2⟩:=z7.mp hm
  have e:x=y:=by
   rcases yP.mp ((h x).mp yV) with z |z
   ·exact z
   ·rcases yP.mp ((h y).mpr yV) with z' |z'
    ·exact z'.symm
    ·have:=ltL_asy (b1 x z)
     rw[a1 y z'] at this;cases this
  subst e
  congr 1
  refine ascL_one a2 b2 fun z=>⟨fun hz=>?_,fun hz=>?_⟩
  ·rcases yP.mp ((h z).mp (yM _ hz)) with e |e
   ·have:=a1 z hz;rw[e,ascL_irr] at this;cases this
   ·exact e
  ·rcases yP.mp ((h z).mpr (yM _ hz)) with e |e
   ·have:=b1 z hz;rw[e,ascL_irr] at this;cases this
   ·exact e
section
variable {prog:yT}{w:World}{A:zh}{E:Value→yI→Prop}{s:yI}
theorem TK6.grow {h h':Heap}{k:List Int}{b:Addr} (x:TK prog w h k b) (e:∀b o,o.cls=.type "tuple"→h.get? b=some o→h'.get? b=some o):TK prog w h' k b:=by
 obtain ⟨o,it,n,g1,gc,g2⟩:=x
 exact ⟨o,it,n,e _ _ gc g1,gc,g2⟩
theorem lh {Q:Bool→yI→Prop}:∀(ks ls:List Int) (xs ys:List Value) (i:Nat),ItemsAre (Bc prog w) ks xs→ItemsAre (Bc prog w) ls ys→ks.length=ls.length→Q (ltL ks ls) s→KatLex prog w A true false Q (xs.zip ys) i s
 |[],[],xs,ys,i,hx,hy,_,h=>by cases hx;cases hy;exact kat_nil h
 |a::ks,b::ls,xs,ys,i,hx,hy,hl,h=>by
  cases hx with
  | @cons _ v _ xs h1 hx=>
   cases hy with
   | @cons _ u _ ys h2 hy=>
    rw[B1]
    refine kat_cons ((Bc prog w).eqBool (a:=a) (b:=b) h1 h2 ?_)
    rw[ltL] at h
    by_cases e:a=b
    ·rw[decide_eq_true e]
     rw[if_pos e] at h
     exact kat_yes (lh ks ls xs ys (i+1) hx hy (by simpa using hl) h)
    ·rw[decide_eq_false e]
     rw[if_neg e] at h
     obtain ⟨t1,rfl⟩:=Ah h1
     obtain ⟨t2,rfl⟩:=Ah h2
     cases i with
     |zero=>exact kat_no (oneLt_int h)
     |succ i=>exact kat_no (kat_one _ _ (lt_int h))
 |[],_::_,_,_,_,_,_,hl,_=>by simp at hl
 |_::_,[],_,_,_,_,_,hl,_=>by simp at hl
theorem ju {k:List Int}{vs:List Value} (h:ItemsAre (Bc prog w) k vs):vs.length=k.length:=by
 induction h with
 |nil=>rfl
 |cons _ _ ih=>rw[zH,zH,ih]
theorem wE {x y:Addr}{a b:List Int}{Q:Bool→yI→Prop} (la:a.length=6) (lb:b.length=6) (hx:TK prog w s.heap a x) (hy:TK prog w s.heap b y) (h:Q (ltL a b) s):wpAny (model prog w) A (keyLt' (tuples' true) (.ref x) (.ref y)) Q E s:=by
 obtain ⟨o,its,n,ho,_,hd,hi⟩:=hx
 obtain ⟨o',its',n',ho',_,hd',hi'⟩:=hy
 refine kat_lt ho hd ho' hd' ?_
 have z2:decide (its.size < its'.size)=false:=by
  have h1:=ju hi
  have h2:=ju hi'
  rw[←y4,←y4,h1,h2,la,lb];rfl
 rw[z2]
 exact lh a b _ _ 0 hi hi' (by omega) h
abbrev PT6:=List (List Int×Addr)
abbrev refs6 (pb:PT6):List Value:=pb.map fun p=>zY p.2
theorem rM {pb:PT6}{Q:C3→yI→Prop} (hlen:∀p∈pb,p.1.length=6) (htk:∀p∈pb,TK prog w s.heap p.1 p.2) (h0:0 < pb.length) (h:Q (tuples' true) s):wpAny (model prog w) A (keyKind' (refs6 pb).toArray) Q E s:=by
 obtain ⟨fs,hf,hl,hi⟩:∃fs,KatTups s.heap (refs6 pb) fs∧fs.length=pb.length∧∀v∈fs,∃n t,v=zR n t:=by
  clear h h0
  induction pb with
  |nil=>exact ⟨[],.nil,rfl,fun v hv=>by simp at hv⟩
  |cons p r ih=>
   obtain ⟨fs,hf,hl,hi⟩:=ih (fun q hq=>hlen q (yM _ hq)) fun q hq=>htk q (yM _ hq)
   obtain ⟨o,its,n,ho,hc,hd,hit⟩:=htk p yV
   have l6:=hlen p yV
   cases hk:p.1 with
   |nil=>rw[hk] at l6;simp at l6
   |cons a ks=>
    rw[hk] at hit
    generalize hts:its.toList=ts at hit
    cases hit with
    | @cons _ v _ vs h1 hr=>
     obtain ⟨t,rfl⟩:=Ah h1
     refine ⟨.int a t::fs,.cons ho hc hd (by rw[←zV,hts];rfl) hf,by simp[hl],fun v hv=>?_⟩
     rcases yP.mp hv with z |z
     ·exact ⟨_,_,z⟩
     ·exact hi v z
 refine kat_kind (T:=.type "int") hf (by omega) (fun v hv=>?_) (by decide) h
 obtain ⟨n,t,rfl⟩:=hi v hv
 exact Looks.of_pure rfl
end
section
variable {prog:yT}{w:World}{A:zh}{E:Value→yI→Prop}{s:yI}
abbrev ky6 (p:List Int×Addr):Keyed:=(zY p.2,zY p.2)
open Classical in
noncomputable def RP6 (pb:PT6) (x y:Keyed):Bool:=decide (∃p∈pb,∃q∈pb,x=ky6 p∧y=ky6 q∧ltL p.1 q.1=true)
end
section
variable {prog:yT}{w:World}{A:zh}{E:Value→yI→Prop}{s:yI}
end
end ST6
namespace L2
open PySem PySem.Spec PyProof.Rows
abbrev sxU (k:List Int):U:=.tup (k.map U.int)
section
variable {X:Cx}{H0:Hp}{O0:List Addr}{ps:PSt}{e:Expr}{trs:List (List Int)}{pos p:Pos}
end
end L2
namespace ST
open PySem
theorem ql (a b c:Value):checkTypeCall "zip" ⟨[a,b,c],[]⟩=pure ():=by kernel_rfl
theorem qX (a b c:Value):Ge "zip.__new__" ⟨[.type "zip",a,b,c],[]⟩=pure ():=by kernel_rfl
theorem sJ (a b c d:Value):HJ "object.__init__" ⟨[a,b,c,d],[]⟩:=by
 unfold HJ
 rw[signature?_of (n:=['_','_','t','i','n','i','_','_']) (o:=['t','c','e','j','b','o']) (id:="object.__init__") (by kernel_rfl) PySem.F.owner_object]
 kernel_rfl
abbrev IsTri (h:Heap) (T:Addr) (a b c:Value):Prop:=h.get? T=some {cls:=.type "tuple",data:=.seq #[a,b,c] }
structure Z3A (z TI TO i1 i2 i3 l1 l2 l3:Addr):Prop where
 TIz:TI≠z
 TOz:TO≠z
 i1z:i1≠z
 i2z:i2≠z
 i3z:i3≠z
 TITO:TI≠TO
 TIi1:TI≠i1
 TIi2:TI≠i2
 TIi3:TI≠i3
 TOi1:TO≠i1
 TOi2:TO≠i2
 TOi3:TO≠i3
 i12:i1≠i2
 i13:i1≠i3
 i23:i2≠i3
 l1z:l1≠z
 l1TO:l1≠TO
 l1i1:l1≠i1
 l1i2:l1≠i2
 l1i3:l1≠i3
 l2z:l2≠z
 l2TO:l2≠TO
 l2i1:l2≠i1
 l2i2:l2≠i2
 l2i3:l2≠i3
 l3z:l3≠z
 l3TO:l3≠TO
 l3i1:l3≠i1
 l3i2:l3≠i2
 l3i3:l3≠i3
section
variable {prog:yT}{w:World}{A:zh}{E:Value→yI→Prop}{s:yI}
theorem ke {T:Addr}{a b c x:Value}{k:Nat}{Q:Unit→yI→Prop} (hT:IsTri s.heap T a b c)
  (h:∀h',h'.get? T=some {cls:=.type "tuple",data:=.seq ((#[a,b,c]:Array Value).setIfInBounds k x) }→Cs T s.heap h'→Q () {s with heap:=h' }):
  wpAny (model prog w) A (Du T (·.setIfInBounds k x)) Q E s:=by
 refine A1 hT rfl (h _ ?_ (Bo ..))
 rw[Ai _ hT rfl];simp[Au]
theorem ue {z TI TO i1 i2 i3 l1 l2 l3:Addr}{k1 k2 k3:Nat}{xs ys zs:Array Value}{x y v a b c:Value}{Q:Value→yI→Prop} (D:Z3A z TI TO i1 i2 i3 l1 l2 l3)
  (gz:IsZip s.heap z TI TO .none) (gI:IsTri s.heap TI (.ref i1) (.ref i2) (.ref i3)) (gO:IsTri s.heap TO a b c)
  (h1:s.heap.IsListIter i1 l1 k1) (h2:s.heap.IsListIter i2 l2 k2) (h3:s.heap.IsListIter i3 l3 k3) (hl1:s.heap.IsList l1 xs) (hl2:s.heap.IsList l2 ys) (hl3:s.heap.IsList l3 zs)
  (hx:xs[k1]?=some x) (hy:ys[k2]?=some y) (hv:zs[k3]?=some v)
  (hQ:∀h',IsZip h' z TI TO (BZ s.heap.objs.size)→IsTri h' TO x y v→h'.IsListIter i1 l1 (k1+1)→h'.IsListIter i2 l2 (k2+1)→h'.IsListIter i3 l3 (k3+1)→IsTri h' s.heap.objs.size x y v→h'.objs.size=s.heap.objs.size+1→
   (∀d o,d≠z→d≠TO→d≠i1→d≠i2→d≠i3→s.heap.get? d=some o→h'.get? d=some o)→Q (.ref s.heap.objs.size) {s with heap:=h' }):
  wpAny (model prog w) A (Builtin.«zip.__next__» ⟨[.ref z],[]⟩) (fun fin s'=>∃v,fin=.done (.ret v)∧Q v s') E s:=by
 show wpAny _ _ (field (.ref z) 2 >>=_) _ _ _
 refine yE (Cr gz rfl (x:=.bool false) rfl ?_);show wpAny _ _ (field (.ref z) 3 >>=_) _ _ _
 refine yE (Cr gz rfl (x:=.ref TI) rfl ?_);refine yE (Ao gI rfl ?_)
 show wpAny _ _ (Builtin.SmallTypes.ownedTupleIsFree (.ref z) >>=_) _ _ _
 refine yE ?_;unfold Builtin.SmallTypes.ownedTupleIsFree
 refine yE (Cr gz rfl (x:=.none) rfl (yJ ?_));simp only[if_true]
 refine yE (BH ?_);refine yE (Cr gz rfl (x:=.ref TO) rfl ?_)
 refine yE (B2 gz (by simp) fun hp1 gz1 hs1=>?_);replace gz1:IsZip hp1 z TI TO .ellipsis:=gz1
 refine yE ?_
 simp only[Gi,GA,CC,C4]
 refine yE (yE (Ea ?_));show wpAny _ _ (Builtin.SmallTypes.nextOf (.ref i1) >>=_) _ _ _
 refine yE (CO (h1.extBut hs1.extBut D.i1z) (hl1.extBut hs1.extBut D.l1z) hx fun hp2 h12 hs2=>yJ ?_)
 have gO2:IsTri hp2 TO a b c:=hs2.extBut _ _ D.TOi1 (hs1.extBut _ _ D.TOz gO)
 refine yE (Ao gO2 rfl ?_);refine yE (ke gO2 fun hp3 gO3 hs3=>?_)
 replace gO3:IsTri hp3 TO x b c:=gO3
 refine yE (Bp (yJ ?_))
 refine yE (yE (Ea ?_));show wpAny _ _ (Builtin.SmallTypes.nextOf (.ref i2) >>=_) _ _ _
 refine yE (CO (((h2.extBut hs1.extBut D.i2z).extBut hs2.extBut D.i12.symm).extBut hs3.extBut D.TOi2.symm)
  (((hl2.extBut hs1.extBut D.l2z).extBut hs2.extBut D.l2i1).extBut hs3.extBut D.l2TO) hy fun hp4 h24 hs4=>yJ ?_)
 have gO4:IsTri hp4 TO x b c:=hs4.extBut _ _ D.TOi2 gO3
 refine yE (Ao gO4 rfl ?_);refine yE (ke gO4 fun hp5 gO5 hs5=>?_)
 replace gO5:IsTri hp5 TO x y c:=gO5
 refine yE (Bp (yJ ?_))
 refine yE (yE (Ea ?_));show wpAny _ _ (Builtin.SmallTypes.nextOf (.ref i3) >>=_) _ _ _
 refine yE (CO (((((h3.extBut hs1.extBut D.i3z).extBut hs2.extBut D.i13.symm).extBut hs3.extBut D.TOi3.symm).extBut hs4.extBut D.i23.symm).extBut hs5.extBut D.TOi3.symm)
  (((((hl3.extBut hs1.extBut D.l3z).extBut hs2.extBut D.l3i1).extBut hs3.extBut D.l3TO).extBut hs4.extBut D.l3i2).extBut hs5.extBut D.l3TO) hv fun hp6 h36 hs6=>yJ ?_)
 have gO6:IsTri hp6 TO x y c:=hs6.extBut _ _ D.TOi3 gO5
 refine yE (Ao gO6 rfl ?_);refine yE (ke gO6 fun hp7 gO7 hs7=>?_)
 replace gO7:IsTri hp7 TO x y v:=gO7
 refine yE (Bp (yJ (yJ ?_)))
 refine yE (Ao gO7 rfl ?_);refine yE (E8 ?_)
 have hsz:hp7.objs.size=s.heap.objs.size:=by rw[hs7.1,hs6.1,hs5.1,hs4.1,hs3.1,hs2.1,hs1.1]
 have all:∀d o,d≠z→d≠TO→d≠i1→d≠i2→d≠i3→s.heap.get? d=some o→hp7.get? d=some o:=fun d o c1 c2 c3 c4 c5 e=>
  hs7.extBut _ _ c2 (hs6.extBut _ _ c5 (hs5.extBut _ _ c2 (hs4.extBut _ _ c4 (hs3.extBut _ _ c2 (hs2.extBut _ _ c3 (hs1.extBut _ _ c1 e))))))
 have gz7:IsZip hp7 z TI TO .ellipsis:=hs7.extBut _ _ D.TOz.symm (hs6.extBut _ _ D.i3z.symm (hs5.extBut _ _ D.TOz.symm (hs4.extBut _ _ D.i2z.symm (hs3.extBut _ _ D.TOz.symm (hs2.extBut _ _ D.i1z.symm gz1)))))
 have h17:hp7.IsListIter i1 l1 (k1+1):=((((h12.extBut hs3.extBut D.TOi1.symm).extBut hs4.extBut D.i12).extBut hs5.extBut D.TOi1.symm).extBut hs6.extBut D.i13).extBut hs7.extBut D.TOi1.symm
 have h27:hp7.IsListIter i2 l2 (k2+1):=((h24.extBut hs5.extBut D.TOi2.symm).extBut hs6.extBut D.i23).extBut hs7.extBut D.TOi2.symm
 have h37:hp7.IsListIter i3 l3 (k3+1):=h36.extBut hs7.extBut D.TOi3.symm
 have zlt:z < hp7.objs.size:=yQ gz7
 show wpAny _ _ (Builtin.SmallTypes.ownedTupleHandOut (.ref z) (.ref hp7.objs.size) >>=_) _ _ _
 refine yE ?_;unfold Builtin.SmallTypes.ownedTupleHandOut
 have gz8:IsZip (hp7.push {cls:=.type "tuple",data:=.seq #[x,y,v] }) z TI TO .ellipsis:=yG _ gz7
 refine yE (B2 gz8 (by simp) fun hp9 gz9 hs9=>?_);replace gz9:IsZip hp9 z TI TO (BZ hp7.objs.size):=gz9
 refine B2 gz9 (by simp) fun hpA gzA hsA=>?_
 replace gzA:IsZip hpA z TI TO (BZ hp7.objs.size):=gzA
 have up:∀d o,d≠z→hp7.get? d=some o→hpA.get? d=some o:=fun d o c1 e=>hsA.extBut _ _ c1 (hs9.extBut _ _ c1 (yG _ e))
 have gT:IsTri hpA hp7.objs.size x y v:=hsA.extBut _ _ (A4 zlt) (hs9.extBut _ _ (A4 zlt) (yR _ rfl))
 have szA:hpA.objs.size=hp7.objs.size+1:=by rw[hsA.1,hs9.1,z9]
 rw[hsz] at gzA gT szA
 refine yJ ⟨_,rfl,?_⟩;show Q (.ref hp7.objs.size) _;rw[hsz]
 exact hQ hpA gzA (up _ _ D.TOz gO7) (h17.at fun o e=>up _ o D.i1z e) (h27.at fun o e=>up _ o D.i2z e) (h37.at fun o e=>up _ o D.i3z e) gT szA fun d o c1 c2 c3 c4 c5 e=>up d o c1 (all d o c1 c2 c3 c4 c5 e)
theorem wm {z TI TO i1 i2 i3 l1:Addr}{k1:Nat}{xs:Array Value}{Q:Gv→yI→Prop} (hh:A.handled=none) (ne1:i1≠z) (ne2:l1≠z)
  (gz:IsZip s.heap z TI TO .none) (gI:IsTri s.heap TI (.ref i1) (.ref i2) (.ref i3)) (h1:s.heap.IsListIter i1 l1 k1) (hl1:s.heap.IsList l1 xs) (hx:xs[k1]?=none)
  (hE:∀h' e,(∀d o,d≠z→d≠i1→s.heap.get? d=some o→h'.get? d=some o)→(∃o,h'.get? e=some o∧o.cls=.type "StopIteration")→E (.ref e) {s with heap:=h' }):
  wpAny (model prog w) A (Builtin.«zip.__next__» ⟨[.ref z],[]⟩) Q E s:=by
 show wpAny _ _ (field (.ref z) 2 >>=_) _ _ _
 refine yE (Cr gz rfl (x:=.bool false) rfl ?_);show wpAny _ _ (field (.ref z) 3 >>=_) _ _ _
 refine yE (Cr gz rfl (x:=.ref TI) rfl ?_);refine yE (Ao gI rfl ?_)
 show wpAny _ _ (Builtin.SmallTypes.ownedTupleIsFree (.ref z) >>=_) _ _ _
 refine yE ?_;unfold Builtin.SmallTypes.ownedTupleIsFree
 refine yE (Cr gz rfl (x:=.none) rfl (yJ ?_));simp only[if_true]
 refine yE (BH ?_);refine yE (Cr gz rfl (x:=.ref TO) rfl ?_)
 refine yE (B2 gz (by simp) fun hp1 gz1 hs1=>?_);replace gz1:IsZip hp1 z TI TO .ellipsis:=gz1
 refine yE ?_
 simp only[Gi,GA,CC,C4]
 refine yE (yE (Ea ?_));show wpAny _ _ (Builtin.SmallTypes.nextOf (.ref i1) >>=_) _ _ _
 refine yE (wpAny_nextOf_list_end hh (h1.extBut hs1.extBut ne1) (hl1.extBut hs1.extBut ne2) hx fun hp2 e hs2 he=>?_)
 obtain ⟨oe,hoe,hce⟩:=he
 have gz2:IsZip hp2 z TI TO .ellipsis:=hs2 _ _ ne1.symm gz1
 have ez:e≠z:=fun q=>by subst q;rw[gz2] at hoe;cases hoe;simp at hce
 refine B2 gz2 (by simp) fun hp3 _ hs3=>hE hp3 e (fun d o c1 c3 q=>hs3.extBut _ _ c1 (hs2 _ _ c3 (hs1.extBut _ _ c1 q))) ⟨oe,hs3.extBut _ _ ez hoe,hce⟩
theorem next_z3_item {z TI TO i1 i2 i3 l1 l2 l3:Addr}{k1 k2 k3:Nat}{xs ys zs:Array Value}{x y v a b c:Value}{Q:Option Value→yI→Prop} (D:Z3A z TI TO i1 i2 i3 l1 l2 l3)
  (gz:IsZip s.heap z TI TO .none) (gI:IsTri s.heap TI (.ref i1) (.ref i2) (.ref i3)) (gO:IsTri s.heap TO a b c)
  (h1:s.heap.IsListIter i1 l1 k1) (h2:s.heap.IsListIter i2 l2 k2) (h3:s.heap.IsListIter i3 l3 k3) (hl1:s.heap.IsList l1 xs) (hl2:s.heap.IsList l2 ys) (hl3:s.heap.IsList l3 zs)
  (hx:xs[k1]?=some x) (hy:ys[k2]?=some y) (hv:zs[k3]?=some v)
  (hQ:∀h',IsZip h' z TI TO (BZ s.heap.objs.size)→IsTri h' TO x y v→h'.IsListIter i1 l1 (k1+1)→h'.IsListIter i2 l2 (k2+1)→h'.IsListIter i3 l3 (k3+1)→IsTri h' s.heap.objs.size x y v→h'.objs.size=s.heap.objs.size+1→
   (∀d o,d≠z→d≠TO→d≠i1→d≠i2→d≠i3→s.heap.get? d=some o→h'.get? d=some o)→Q (some (.ref s.heap.objs.size)) {s with heap:=h' }):
  wpAny (model prog w) A (C6 (.ref z)) Q E s:=by
 have hT:s.TypeIs (.ref z) "zip":=⟨_,gz,rfl⟩
 unfold C6
 exact yE (D9 (BS (name:=Str.ofString "__next__") hT B7 (AM B7 hT Es
   (ue D gz gI gO h1 h2 h3 hl1 hl2 hl3 hx hy hv fun h' a1 a2 a3 a4 a5 a6 a7 a8=>yJ (hQ h' a1 a2 a3 a4 a5 a6 a7 a8)) (Eb _))))
theorem next_z3_end {z TI TO i1 i2 i3 l1:Addr}{k1:Nat}{xs:Array Value}{Q:Option Value→yI→Prop} (hh:A.handled=none) (ne1:i1≠z) (ne2:l1≠z)
  (gz:IsZip s.heap z TI TO .none) (gI:IsTri s.heap TI (.ref i1) (.ref i2) (.ref i3)) (h1:s.heap.IsListIter i1 l1 k1) (hl1:s.heap.IsList l1 xs) (hx:xs[k1]?=none)
  (hQ:∀h',(∀d o,d≠z→d≠i1→s.heap.get? d=some o→h'.get? d=some o)→Q none {s with heap:=h' }):wpAny (model prog w) A (C6 (.ref z)) Q E s:=by
 have hT:s.TypeIs (.ref z) "zip":=⟨_,gz,rfl⟩
 unfold C6
 refine yE (D9 (BS (name:=Str.ofString "__next__") hT B7 (AM B7 hT Es
  (wm hh ne1 ne2 gz gI h1 hl1 hx fun h' e hk he=>?_) (Eb _))))
 obtain ⟨o,ho,hc⟩:=he
 refine yE (Bw (b:=true) (T:="StopIteration") ⟨o,ho,hc⟩ G3 ?_);exact yJ (hQ _ hk)
end
abbrev oo (h:Heap) (l1:Addr):Heap:=h.push {cls:=.type "list_iterator",data:=.fields #[.ref l1,.int 0 0] }
abbrev ul (h:Heap) (l1 l2:Addr):Heap:=oo (oo h l1) l2
abbrev rP (h:Heap) (l1 l2 l3:Addr):Heap:=oo (ul h l1 l2) l3
abbrev uw (h:Heap) (l1 l2 l3:Addr):Heap:=(rP h l1 l2 l3).push {cls:=.type "tuple",data:=.seq #[.ref h.objs.size,.ref (oo h l1).objs.size,.ref (ul h l1 l2).objs.size] }
abbrev tj (h:Heap) (l1 l2 l3:Addr):Heap:=(uw h l1 l2 l3).push {cls:=.type "tuple",data:=.seq #[.none,.none,.none] }
abbrev kj (h:Heap) (l1 l2 l3:Addr):Heap:=(tj h l1 l2 l3).push {cls:=.type "zip",data:=.fields #[.none,.bool false,.bool false,.ref (rP h l1 l2 l3).objs.size,.ref (uw h l1 l2 l3).objs.size] }
theorem sQ (l1 l2 l3:Addr) (xs ys zs:Array Value):
  Meets (Builtin.«zip.__new__» ⟨[.type "zip",.ref l1,.ref l2,.ref l3],[]⟩) (fun _ R s=>s.heap.IsList l1 xs∧s.heap.IsList l2 ys∧s.heap.IsList l3 zs∧
   R (.ok (.ret (.ref (tj s.heap l1 l2 l3).objs.size))) {s with heap:=kj s.heap l1 l2 l3 }):=
 .of_wp fun prog w A R s h=>by
  obtain ⟨hp,g,d,tk,os⟩:=s;obtain ⟨hl1,hl2,hl3,h⟩:=h
  have hsub:=sub_zip
  have hL1:GB (GC ⟨hp,g,d,tk,os⟩) l1 xs:=hl1
  have hL2:GB (GC ⟨hp.push {cls:=.type "list_iterator",data:=.fields #[.ref l1,.int 0 0] },g,d,tk,os⟩) l2 ys:=Ei hl2 _
  have hL3:GB (GC ⟨(hp.push {cls:=.type "list_iterator",data:=.fields #[.ref l1,.int 0 0] }).push {cls:=.type "list_iterator",data:=.fields #[.ref l2,.int 0 0] },g,d,tk,os⟩) l3 zs:=Ei (Ei hl3 _) _
  wp_walk using A8 hL1,A8 hL2,A8 hL3
  exact ⟨_,rfl,h⟩
section
variable {prog:yT}{w:World}{A:zh}{E:Value→yI→Prop}{s:yI}
theorem call_z3 {l1 l2 l3:Addr}{xs ys zs:Array Value}{Q:Value→yI→Prop} (hl1:s.heap.IsList l1 xs) (hl2:s.heap.IsList l2 ys) (hl3:s.heap.IsList l3 zs)
  (h:∀h',IsZip h' (s.heap.objs.size+5) (s.heap.objs.size+3) (s.heap.objs.size+4) .none→IsTri h' (s.heap.objs.size+3) (.ref s.heap.objs.size) (.ref (s.heap.objs.size+1)) (.ref (s.heap.objs.size+2))→
   IsTri h' (s.heap.objs.size+4) .none .none .none→h'.IsListIter s.heap.objs.size l1 0→h'.IsListIter (s.heap.objs.size+1) l2 0→h'.IsListIter (s.heap.objs.size+2) l3 0→h'.objs.size=s.heap.objs.size+6→
   (∀c o,s.heap.get? c=some o→h'.get? c=some o)→Q (.ref (s.heap.objs.size+5)) {s with heap:=h' }):
  wpAny (model prog w) A (call (.type "zip") [.ref l1,.ref l2,.ref l3]) Q E s:=by
 refine callType_new PySem.F.called_zip (by decide) (ql _ _ _) (qX _ _ _) (fun obj=>sJ obj _ _ _) PySem.F.entry_zip_new (sQ l1 l2 l3 xs ys zs) ⟨hl1,hl2,hl3,?_⟩
 have z1:(oo s.heap l1).objs.size=s.heap.objs.size+1:=z9 ..
 have z2:(ul s.heap l1 l2).objs.size=s.heap.objs.size+2:=by rw[z9,z1]
 have z3:(rP s.heap l1 l2 l3).objs.size=s.heap.objs.size+3:=by rw[z9,z2]
 have z4:(uw s.heap l1 l2 l3).objs.size=s.heap.objs.size+4:=by rw[z9,z3]
 have z5:(tj s.heap l1 l2 l3).objs.size=s.heap.objs.size+5:=by rw[z9,z4]
 have z6:(kj s.heap l1 l2 l3).objs.size=s.heap.objs.size+6:=by rw[z9,z5]
 have up4:∀{c o},(rP s.heap l1 l2 l3).get? c=some o→(kj s.heap l1 l2 l3).get? c=some o:=fun e=>yG _ (yG _ (yG _ e))
 have g6:(kj s.heap l1 l2 l3).get? (tj s.heap l1 l2 l3).objs.size=some _:=yR _ rfl
 have g5:(kj s.heap l1 l2 l3).get? (uw s.heap l1 l2 l3).objs.size=some _:=yG _ (yR _ rfl)
 have g4:(kj s.heap l1 l2 l3).get? (rP s.heap l1 l2 l3).objs.size=some _:=yG _ (yG _ (yR _ rfl))
 have g3:(kj s.heap l1 l2 l3).get? (ul s.heap l1 l2).objs.size=some _:=up4 (yR _ rfl)
 have g2:(kj s.heap l1 l2 l3).get? (oo s.heap l1).objs.size=some _:=up4 (yG _ (yR _ rfl))
 have g1:(kj s.heap l1 l2 l3).get? s.heap.objs.size=some _:=up4 (yG _ (yG _ (yR _ rfl)))
 show _∧_
 rw[z3,z4,z5] at g6;rw[z1,z2,z3] at g4;rw[z4] at g5;rw[z2] at g3;rw[z1] at g2;rw[z5]
 exact ⟨⟨_,g6,rfl⟩,h _ g6 g4 g5 ⟨_,g1,rfl,rfl⟩ ⟨_,g2,rfl,rfl⟩ ⟨_,g3,rfl,rfl⟩ z6 fun c o e=>up4 (yG _ (yG _ (yG _ e)))⟩
end
end ST
namespace L2
open PySem PySem.Spec PyProof.Rows
theorem uj {X:Cx}{pins:List (Addr×Obj)}{σ:List (Option V)}{H:Hp}{s:yI}{h':Heap}{t':Nat}{fp:List Addr}{p:Addr}{xs:List V} (I:Inv X pins σ H s) (hf:∀b∈fp,cR X pins H b)
  (k:∀b o,b ∉ fp→s.heap.get? b=some o→h'.get? b=some o) (hp:s.heap.objs.size≤p) (new:cg X.prog X.w (upd H p (.tup xs)) h' p (.tup xs)):
  Inv X pins σ (upd H p (.tup xs)) {s with heap:=h',toks:=t' }:=by
 have fresh:H p=none:=I.hok.fresh hp
 have np:∀b o,s.heap.get? b=some o→b≠p:=fun b o e z=>absurd (za (yQ e) hp) (by rw[z];exact zO _)
 have nh:∀b u,H b=some u→b≠p:=fun b u e z=>by rw[z,fresh] at e;cases e
 have nf:∀b u,H b=some u→b ∉ fp:=fun b u e z=>by rw[(hf b z).1] at e;cases e
 refine I.step (g':=s.gens) (d':=s.drawn) (ch:=fp) (fun b hb=>?_) (fun b o _ _ hc e _=>k b o hc e) (fun b o _ _ hc e _=>⟨o.slots,k b o hc e⟩) (fun b o _ e n=>by rw[aB (np b o e)];exact n)
  (fun b o hc e=>⟨o,k b o hc e⟩) (fun b xs e=>by rw[aB (nh b _ e)];exact e) (fun b o u e=>by rw[aB (nh b _ e)];exact e) (fun b ps e=>⟨#[],by rw[aB (nh b _ e),e];simp⟩) (fun m hm=>?_) (fun b u e=>?_) I.bare
 ·obtain ⟨f0,f1,f2,f3,f4,f5⟩:=hf b hb
  exact ⟨f3,f1,f4,f5⟩
 ·obtain ⟨o,es,ep,ho,r⟩:=hm
  exact ⟨o,es,ep,k _ o (fun z=>(hf _ z).2.1 rfl) ho,r⟩
 ·by_cases hb:b=p
  ·subst hb;rw[aS] at e;cases e;exact new
  ·rw[aB hb] at e
   refine (I.hok b u e).stay (fun c v hc q=>k c v ?_ q) (fun c q=>by rw[aB (nh c _ q)];exact q) (fun c o' u' q=>by rw[aB (nh c _ q)];exact q) fun c xs q=>by rw[aB (nh c _ q)];exact q
   rcases hc with z |z
   ·rw[z];exact nf b u e
   ·exact nf c _ z
theorem uh {X:Cx}{pins:List (Addr×Obj)}{σ:List (Option V)}{H:Hp}{s:yI}{h':Heap}{t':Nat}{fp:List Addr} (I:Inv X pins σ H s) (hf:∀b∈fp,cR X pins H b)
  (k:∀b o,b ∉ fp→s.heap.get? b=some o→h'.get? b=some o):Inv X pins σ H {s with heap:=h',toks:=t' }:=by
 have nf:∀b u,H b=some u→b ∉ fp:=fun b u e z=>by rw[(hf b z).1] at e;cases e
 refine I.step (g':=s.gens) (d':=s.drawn) (ch:=fp) (fun b hb=>?_) (fun b o _ _ hc e _=>k b o hc e) (fun b o _ _ hc e _=>⟨o.slots,k b o hc e⟩) (fun _ _ _ _ n=>n)
  (fun b o hc e=>⟨o,k b o hc e⟩) (fun _ _ e=>e) (fun _ _ _ e=>e) (fun b ps e=>⟨#[],by rw[e];simp⟩) (fun m hm=>?_) (fun b u e=>?_) I.bare
 ·obtain ⟨f0,f1,f2,f3,f4,f5⟩:=hf b hb
  exact ⟨f3,f1,f4,f5⟩
 ·obtain ⟨o,es,ep,ho,r⟩:=hm
  exact ⟨o,es,ep,k _ o (fun z=>(hf _ z).2.1 rfl) ho,r⟩
 ·refine (I.hok b u e).stay (fun c v hc q=>k c v ?_ q) (fun _ q=>q) (fun _ _ _ q=>q) fun _ _ q=>q
  rcases hc with z |z
  ·rw[z];exact nf b u e
  ·exact nf c _ z
def Itz (K:yH) (l1 l2 l3:Addr):It:=
 ⟨fun i H=>∃xs ys zs x y v,SqL K H l1 xs∧SqL K H l2 ys∧SqL K H l3 zs∧xs[i]?=some x∧ys[i]?=some y∧zs[i]?=some v,
  fun i H u H'=>∃p x y v,u=.ref p∧H p=none∧H'=upd H p (.tup [x,y,v])∧(∀xs,SqL K H l1 xs→xs[i]?=some x)∧(∀ys,SqL K H l2 ys→ys[i]?=some y)∧(∀zs,SqL K H l3 zs→zs[i]?=some v),
  fun i H=>∃xs,SqL K H l1 xs∧xs.length≤i⟩
theorem uK {P:yT}{w:World}{K:yH}{es:List Expr}{ctx pos} (z TI TO i1 i2 i3 l1 l2 l3:Addr) (D:ST.Z3A z TI TO i1 i2 i3 l1 l2 l3):
  o0 P w K (.Tuple es ctx pos) (Itz K l1 l2 l3) [z,TI,TO,i1,i2,i3] z (fun i h=>IsZip h z TI TO .none∧ST.IsTri h TI (.ref i1) (.ref i2) (.ref i3)∧(∃a b c,ST.IsTri h TO a b c)∧h.IsListIter i1 l1 i∧h.IsListIter i2 l2 i∧h.IsListIter i3 l3 i) where
 mem:=by simp
 obj:=fun i h st b hb=>by
  obtain ⟨gz,gI,⟨a,c,d,gO⟩,h1,h2,h3⟩:=st
  have li:∀{it l k},h.IsListIter it l k→∃o,h.get? it=some o∧∀v,o.data≠.cell v:=fun q=>by
   obtain ⟨o,e,_,d⟩:=q
   exact ⟨o,e,fun v z=>by rw[d] at z;cases z⟩
  simp only[yP,Al,or_false] at hb
  rcases hb with e |e |e |e |e |e <;>subst e
  ·exact ⟨_,gz,fun v z=>by cases z⟩
  ·exact ⟨_,gI,fun v z=>by cases z⟩
  ·exact ⟨_,gO,fun v z=>by cases z⟩
  ·exact li h1
  ·exact li h2
  ·exact li h3
 keep:=fun i h h' st k=>by
  obtain ⟨gz,gI,⟨a,c,d,gO⟩,h1,h2,h3⟩:=st
  exact ⟨k z (by simp) _ gz,k TI (by simp) _ gI,⟨a,c,d,k TO (by simp) _ gO⟩,h1.at fun o e=>k i1 (by simp) o e,h2.at fun o e=>k i2 (by simp) o e,h3.at fun o e=>k i3 (by simp) o e⟩
 item:=by
  intro X hP hw hK hc i pins s σ H E I hf st hg
  subst hP hw hK
  obtain ⟨gz,gI,⟨a,b,c,gO⟩,h1,h2,h3⟩:=st
  obtain ⟨xs,ys,zs,x,y,v,q1,q2,q3,e1,e2,e3⟩:=hg
  obtain ⟨n1,r1,p1,_⟩:=I.list q1
  obtain ⟨n2,r2,p2,_⟩:=I.list q2
  obtain ⟨n3,r3,p3,_⟩:=I.list q3
  obtain ⟨u1,k1,t1⟩:=r1.get e1
  obtain ⟨u2,k2,t2⟩:=r2.get e2
  obtain ⟨u3,k3,t3⟩:=r3.get e3
  refine ST.next_z3_item D gz gI gO h1 h2 h3 p1.isList p2.isList p3.isList (x:=u1) (y:=u2) (v:=u3) (by simpa using k1) (by simpa using k2) (by simpa using k3) fun h' a1 a2 a3 a4 a5 a6 a7 kp=>?_
  refine ⟨_,rfl,?_⟩
  refine wpAny_letOwnedTupleGo_zip (s:={s with heap:=h' }) a1 fun hN b1 sb=>?_
  have nz:s.heap.objs.size≠z:=A4 (yQ gz)
  have tri:ST.IsTri hN s.heap.objs.size u1 u2 u3:=(sb.2 _ nz).trans a6
  have fresh:H s.heap.objs.size=none:=I.hok.fresh (yO _)
  have nf:s.heap.objs.size ∉ [z,TI,TO,i1,i2,i3]:=fun hb=>by
   have key:∀{d o},s.heap.get? d=some o→s.heap.objs.size≠d:=fun e=>A4 (yQ e)
   have li:∀{it l k},s.heap.IsListIter it l k→s.heap.objs.size≠it:=fun q=>by obtain ⟨o,e,_⟩:=q;exact key e
   simp only[yP,Al,or_false] at hb
   rcases hb with e |e |e |e |e |e
   ·exact key gz e
   ·exact key gI e
   ·exact key gO e
   ·exact li h1 e
   ·exact li h2 e
   ·exact li h3 e
  refine ⟨.ref s.heap.objs.size,upd H s.heap.objs.size (.tup [x,y,v]),uj (s:=s) (h':=hN) (t':=s.toks) I hf (fun d o hd e=>?_) (yO _) ⟨by show 3≤sizeLine;decide,[u1,u2,u3],.cons t1 (.cons t2 (.cons t3 .nil)),⟨_,tri,rfl,_,rfl⟩⟩,rfl,
   ⟨_,x,y,v,rfl,fresh,rfl,fun zs q=>by rw[I.list_inj q q1];exact e1,fun zs q=>by rw[I.list_inj q q2];exact e2,fun zs q=>by rw[I.list_inj q q3];exact e3⟩,?_,fun d hd=>?_⟩
  ·simp only[yP,Al,or_false,not_or] at hd
   obtain ⟨d1,d2,d3,d4,d5,d6⟩:=hd
   exact (sb.2 d d1).trans (kp d o d1 d3 d4 d5 d6 e)
  ·have up:∀d o,d≠z→h'.get? d=some o→hN.get? d=some o:=fun d o n e=>(sb.2 d n).trans e
   exact ⟨b1,up _ _ D.TIz (kp _ _ D.TIz D.TITO D.TIi1 D.TIi2 D.TIi3 gI),⟨_,_,_,up _ _ D.TOz a2⟩,a3.at fun o e=>up _ o D.i1z e,a4.at fun o e=>up _ o D.i2z e,a5.at fun o e=>up _ o D.i3z e⟩
  ·rw[aB fun e=>nf (by rw[←e];exact hd)]
   exact (hf d hd).1
 done:=by
  intro X hP hw hK hc i pins s σ H E I hf st hg
  subst hP hw hK
  obtain ⟨gz,gI,_,h1,_⟩:=st
  obtain ⟨xs,q1,hl⟩:=hg
  obtain ⟨n1,r1,p1,_⟩:=I.list q1
  have e1:=r1.length
  refine ST.next_z3_end (I.ok.hd hc) D.i1z D.l1z gz gI h1 p1.isList (by simp;omega) fun h' kp=>⟨rfl,uh (t':=s.toks) I hf fun d o hd e=>?_⟩
  simp only[yP,Al,or_false,not_or] at hd
  exact kp d o hd.1 hd.2.2.2.1 e
 self:=fun _ _ _ _ _ st h=>Gj st.1 h
def Yz (K:yH) (J:It) (G:Hp) (xs:List U):Prop:=
 ∀H2,ax G H2→(∀i,i < xs.length→J.go i H2∧∀x H3,J.yld i H2 x H3→ax H2 H3∧∃u,xs[i]?=some u∧∀O2,(∀a∈O2,H2 a≠none)→ax G (hid H2 O2)→Rp K (hid H3 O2) x u)∧J.stop xs.length H2
def EvZ (X:Cx) (H0:Hp) (O0:List Addr) (ps:PSt) (tg iter:Expr) (xs:List U):Prop:=
 PI X tg iter fun σ H R=>∃O,Rs X.K H0 O0 ps σ H O∧∀J H',ax H H'→Yz X.K J (hid H' O) xs→R J H'
section
variable {X:Cx}{H0:Hp}{O0:List Addr}{E:XK}{ps:PSt}{D:PD}{body:List Stmt}{e f g tg iter:Expr}{es:List Expr}{p pos:Pos}{x y z:U}{xs ys zs us:List U}
def hX:List U→List U→List U→List U
 |x::xs,y::ys,z::zs=>.tup [x,y,z]::hX xs ys zs
 |_,_,_=>[]
theorem fA:∀{xs ys zs:List U},xs.length=ys.length→xs.length=zs.length→(hX xs ys zs).length=xs.length
 |[],_,_,_,_=>by simp[hX]
 |_::xs,_::ys,_::zs,h1,h2=>by simp only[hX,zH] at *;rw[fA (by omega) (by omega)]
theorem iD:∀{xs ys zs:List U}{i:Nat}{a b c:U},xs[i]?=some a→ys[i]?=some b→zs[i]?=some c→(hX xs ys zs)[i]?=some (.tup [a,b,c])
 |_::xs,_::ys,_::zs,0,a,b,c,h1,h2,h3=>by simp at h1 h2 h3;simp[hX,h1,h2,h3]
 |_::xs,_::ys,_::zs,i+1,a,b,c,h1,h2,h3=>by rw[BR] at h1 h2 h3;rw[hX,BR];exact iD h1 h2 h3
theorem vW {ctx tpos} (hg:Gl X "zip") (hm:X.mg "zip"=none) (ha:Ev X H0 O0 ps e x) (hx:x=.lst xs∨x=.scr xs) (hb:Ev X H0 O0 ps f y) (hy:y=.lst ys∨y=.scr ys) (hc:Ev X H0 O0 ps g z) (hz:z=.lst zs∨z=.scr zs)
  (l12:xs.length=ys.length) (l13:xs.length=zs.length) (he:yW [e,f,g] X.env=(false,eval e X.env)::yW [f,g] X.env) (hf:yW [f,g] X.env=(false,eval f X.env)::yW [g] X.env) (hgs:yW [g] X.env=(false,eval g X.env)::yW [] X.env):
  EvZ X H0 O0 ps (.Tuple es ctx tpos) (.Call (.Name "zip" p) [e,f,g] [] pos) (hX xs ys zs):=by
 rintro pins s σ H Q I ⟨O,R,q⟩
 refine Aw (cQ I hg hm qq ?_)
 refine callWith_type1 (thn (ci ha (ci hb (ci hc dY hgs) hf) he pos pins s σ H (fun vs H1=>∃v u t,vs=[v,u,t]∧ax H H1∧Rp X.K (hid H1 O) v x∧Rp X.K (hid H1 O) u y∧Rp X.K (hid H1 O) t z) I
  ⟨O,R,fun v H1 s1 r1=>⟨O,R.go s1,fun u H2 s2 r2=>⟨O,(R.go s1).go s2,fun t H3 s3 r3=>⟨v,u,t,rfl,(s1.trans s2).trans s3,(r1.same (aI s2)).same (aI s3),r2.same (aI s3),r3⟩⟩⟩⟩) fun us s1 hx'=>?_) he (by rw[hf,hgs];rfl)
 obtain ⟨vs,H1,I1,rv,v,u,t,rfl,sm,rp1,rp2,rp3⟩:=hx'
 obtain ⟨w1,w2,w3,rfl,ru1,ru2,ru3⟩:=xg rv
 obtain ⟨a,va,rfl,hq1,rs1⟩:=qD rp1 hx
 obtain ⟨b,vb,rfl,hq2,rs2⟩:=qD rp2 hy
 obtain ⟨c,vc,rfl,hq3,rs3⟩:=qD rp3 hz
 cases ru1
 cases ru2
 cases ru3
 obtain ⟨ia,ra,pl1,hz1⟩:=I1.list (aD.seq hq1)
 obtain ⟨ib,rb,pl2,hz2⟩:=I1.list (aD.seq hq2)
 obtain ⟨ic,rc,pl3,hz3⟩:=I1.list (aD.seq hq3)
 have l1:=rs1.len
 have l2:=rs2.len
 have l3:=rs3.len
 have al:@LT.lt Nat instLTNat a s1.heap.objs.size:=by obtain ⟨o,ho,_⟩:=pl1.isList;exact yQ ho
 have bl:@LT.lt Nat instLTNat b s1.heap.objs.size:=by obtain ⟨o,ho,_⟩:=pl2.isList;exact yQ ho
 have cl:@LT.lt Nat instLTNat c s1.heap.objs.size:=by obtain ⟨o,ho,_⟩:=pl3.isList;exact yQ ho
 refine ST.call_z3 pl1.isList pl2.isList pl3.isList fun h' g1 g2 g3 g4 g5 g6 g7 g8=>?_
 have D:ST.Z3A (s1.heap.objs.size+5) (s1.heap.objs.size+3) (s1.heap.objs.size+4) s1.heap.objs.size (s1.heap.objs.size+1) (s1.heap.objs.size+2) a b c:=by constructor <;>exact yk (by omega)
 refine Gj (s:={s1 with heap:=h' }) g1 ?_
 have I2:Inv X pins σ H1 {s1 with heap:=h' }:=I1.kept (t':=s1.toks) g8
 refine ⟨s1.heap.objs.size+5,_,_,_,H1,rfl,I2,uK _ _ _ _ _ _ a b c D,⟨g1,g2,⟨_,_,_,g3⟩,g4,g5,g6⟩,fun d hd=>?_,q _ H1 sm fun H2 s2=>?_⟩
 ·have ge:s1.heap.objs.size≤d:=by
   simp only[yP,Al,or_false] at hd
   rcases hd with e |e |e |e |e |e <;>rw[e]
   ·exact Cp _ _
   ·exact Cp _ _
   ·exact Cp _ _
   ·exact yO _
   ·exact Cp _ _
   ·exact Cp _ _
  exact I1.fpOk ge (I1.hok.fresh ge)
 ·rw[fA l12 l13]
  refine ⟨fun i hi=>?_,⟨va,s2.seq hq1,by omega⟩⟩
  have h1:i < va.length:=by omega
  have h2:i < vb.length:=by omega
  have h3:i < vc.length:=by omega
  refine ⟨⟨va,vb,vc,va[i],vb[i],vc[i],s2.seq hq1,s2.seq hq2,s2.seq hq3,yD h1,yD h2,yD h3⟩,?_⟩
  rintro _ H3 ⟨pp,x1,y1,v1,rfl,nn,rfl,e1,e2,e3⟩
  have sm2:ax H2 (upd H2 pp (.tup [x1,y1,v1])):=aU nn _
  have m1:xs[i]?=some (xs[i]'(by omega)):=yD (by omega)
  have m2:ys[i]?=some (ys[i]'(by omega)):=yD (by omega)
  have m3:zs[i]?=some (zs[i]'(by omega)):=yD (by omega)
  refine ⟨sm2,_,iD m1 m2 m3,fun O2 hO sG=>?_⟩
  have all:Rps X.K (hid (upd H2 pp (.tup [x1,y1,v1])) O2) [x1,y1,v1] [_,_,_]:=
   .cons ((rs1.at_ i _ _ (e1 _ (s2.seq hq1)) m1).same (sG.trans (aI sm2))) (.cons ((rs2.at_ i _ _ (e2 _ (s2.seq hq2)) m2).same (sG.trans (aI sm2))) (.cons ((rs3.at_ i _ _ (e3 _ (s2.seq hq3)) m3).same (sG.trans (aI sm2))) .nil))
  exact .tup (SqT.of (dg aS fun hp=>hO pp hp nn)) all.len all.at_
theorem wn (hc:X.calm=true) (hp:Dp (model X.prog X.w) X.A X.env X.xe) (hi:EvZ X H0 O0 ps tg iter xs) (Iv:Nat→PSt→Prop) (h0:Iv 0 ps)
  (hs:∀(H0:Hp) (i:Nat) (x:U) (ps:PSt),xs[i]?=some x→Iv i ps→∃ps',TgS X H0 O0 tg ps x ps'∧Ws X H0 O0 E body {D with nx:=Iv (i+1),ct:=Iv (i+1),bk:=D.nx } ps') (hd:∀ps,Iv xs.length ps→D.nx ps)
  (hf:∀x,Ab iter X.env x=pure x:=by intro _;rfl):W1 X H0 O0 E (.For tg iter body [] pos) D ps:=by
 have hg:PG X tg fun v σ H Q=>∃H1 ps u ps',TgS X H1 O0 tg ps u ps'∧∃O,Rs X.K H1 O0 ps σ H O∧Rp X.K (hid H O) v u∧∀σ' H',ax H H'→Rs X.K H1 O0 ps' σ' H' O→Q σ' H':=
  fun pins s σ H v u Q I r ⟨H1,ps,w,ps',t,z⟩=>t pins s σ H v u Q I r z
 have hb:PSs X body fun D' σ H=>∃H1 D1 ps',Ws X H1 O0 E body D1 ps'∧Lf X.K H1 O0 E D1 D'∧∃O,Rs X.K H1 O0 ps' σ H O:=fun pins s σ H D' I ⟨H1,D1,ps',w,z⟩=>w pins s σ H D' I z
 refine PS.mono (qk hp hc hi hg hb hf) fun D' σ H ⟨L,O,R⟩=>⟨O,R,fun J H1 s1 Y=>?_⟩
 have R1:=R.go s1
 have base:=R1.base
 refine ⟨fun i m σ H=>m=xs.length - i∧i≤xs.length∧∃ps O',Iv i ps∧Rs X.K (hid H1 (O.filter fun a=>decide (a ∉ O0))) O0 ps σ H O',⟨_,rfl,zW _,ps,O,h0,R1.rebase⟩,?_⟩
 rintro i m σ2 H2 ⟨rfl,hi2,ps2,O2,iv,R2⟩
 have seen:=R1.seen R2
 obtain ⟨y1,y2⟩:=Y H2 (seen.trans aD)
 by_cases hlt:i < xs.length
 ·obtain ⟨g1,g2⟩:=y1 i hlt
  refine .inr ⟨g1,fun σ' H'=>∃ps O',Iv (i+1) ps∧Rs X.K (hid H1 (O.filter fun a=>decide (a ∉ O0))) O0 ps σ' H' O',fun σ' H' z=>⟨xs.length - (i+1),by omega,rfl,hlt,z⟩,fun x H3 y=>?_⟩
  obtain ⟨s3,u,hu,r⟩:=g2 x H3 y
  obtain ⟨ps',t,w⟩:=hs (hid H1 (O.filter fun a=>decide (a ∉ O0))) i u ps2 hu iv
  refine ⟨_,ps2,u,ps',t,O2,R2.go s3,r O2 R2.dom seen,fun σ' H' s' R'=>⟨_,_,ps',w,?_,O2,R'⟩⟩
  exact ⟨fun p σ H O R q=>⟨p,O,q,R⟩,fun p σ H O R q=>L.nx _ _ _ _ (R.unbase base) q,fun p σ H O R q=>⟨p,O,q,R⟩,fun o q=>(L.rt o q).later base⟩
 ·have e:i=xs.length:=by omega
  subst e
  exact .inl ⟨y2,L.nx _ _ _ _ (R2.unbase base) (hd ps2 iv)⟩
theorem uL {α:Type} (st:α→PSt) (Q:Nat→α→Prop) (hc:X.calm=true) (hp:Dp (model X.prog X.w) X.A X.env X.xe) (hi:EvZ X H0 O0 ps tg iter xs) (h0:∃a,Q 0 a∧SubP (st a) ps)
  (hs:∀(H0:Hp) (i:Nat) (x:U) (a:α),xs[i]?=some x→Q i a→∃ps',TgS X H0 O0 tg (st a) x ps'∧Ws X H0 O0 E body {D with nx:=fun p=>∃b,Q (i+1) b∧SubP (st b) p,ct:=fun p=>∃b,Q (i+1) b∧SubP (st b) p,bk:=D.nx } ps')
  (hd:∀a ps,Q xs.length a→SubP (st a) ps→D.nx ps) (hf:∀x,Ab iter X.env x=pure x:=by intro _;rfl):W1 X H0 O0 E (.For tg iter body [] pos) D ps:=
 wn hc hp hi (fun i ps=>∃a,Q i a∧SubP (st a) ps) h0 (fun H0 i x ps hx ⟨a,q,sb⟩=>by
  obtain ⟨ps',t,w⟩:=hs H0 i x a hx q
  exact ⟨ps',t.sub sb,w⟩) (fun ps ⟨a,q,sb⟩=>hd a ps q sb) hf
end
abbrev Ent:=List Int×Addr×Value
def Sd (P:yT) (w:World) (d:Addr) (xs:List Ent) (h:Heap):Prop:=
 (d==G9)=false∧xs.length≤sizeLine∧∃o es ep,h.get? d=some o∧o.ExactDict∧o.data=.dict es ep∧es.toList=xs.map (entryOfKey (Gk (Bc P w)))∧(xs.map (·.1)).Nodup
theorem oa {P:yT}{w:World}:∀{ks:List Int}{us:List Value},aN (ks.map V.int) us→ItemsAre (Bc P w) ks us
 |[],_,r=>by rw[FQ] at r;cases r;exact .nil
 |k::ks,_,r=>by
  rw[Aa] at r
  cases r with
  |cons h t=>
   obtain ⟨t',e⟩:=(show ∃t,_=zR k t from h)
   subst e
   exact .cons (by simp[Bc,HP]) (oa t)
section
variable {X:Cx}{pins:List (Addr×Obj)}{σ:St}{H:Hp}{s:yI}{a b:Addr}{k:List Int}{xs:List Ent}{A:zh}{E:Value→yI→Prop}
theorem wv (I:Inv X pins σ H s) (h:SqT X.K H b (k.map V.int)):(Gk (Bc X.prog X.w)).is s.heap k b:=by
 obtain ⟨its,rv,⟨o,e,c,n,d⟩,_⟩:=I.tuple h
 exact ⟨o,its.toArray,n,e,c,d,by simpa using oa rv⟩
end
section
variable {X:Cx}{o i e value:Expr}{pos pos' tpos:Pos}{td ty tv:TE}
end
structure Sn (P:yT) (w:World) (K:yH) (ps:PSt) (j:Nat) (xs:List Ent) (H0:Hp) (O0:List Addr) (σ:St) (H:Hp) (O:List Addr) (d:Addr):Prop where
 rs:Rs K H0 O0 ps σ H O
 vals:∀(i:Nat) (s:Sl),ps[i]?=some (some s)→∃u,s=.val u
 non:ps[j]?=some none
 at_:σ[j]?=some (some (.ref d))
 dO:d∈O
 dO0:d ∉ O0
 dh:H d=some (.ext (Sd P w d xs))
 ky:∀x∈xs,SqT K (hid H O) x.2.1 (x.1.map V.int)
section
variable {P:yT}{w:World}{K:yH}{H0 H H':Hp}{O0 O:List Addr}{ps:PSt}{σ:St}{j:Nat}{xs:List Ent}{d:Addr}
end
section
variable {X:Cx}{H0:Hp}{O0:List Addr}{E:XK}{ps:PSt}{D:PD}{iter e t1:Expr}{items:List U}{ss b1 b2:List Stmt}
end
end L2
namespace ST6
open PySem PyProof.Rows ST
section
variable {prog:yT}{w:World}{A:zh}{E:Value→yI→Prop}{s:yI}
theorem jO {a b c d e f:Int}{vs:List Value} (h:ItemsAre (Bc prog w) [a,b,c,d,e,f] vs):∃t1 t2 t3 t4 t5 t6,vs=[.int a t1,.int b t2,.int c t3,.int d t4,.int e t5,.int f t6]:=by
 cases h with
 |cons h1 h=>cases h with
  |cons h2 h=>cases h with
   |cons h3 h=>cases h with
    |cons h4 h=>cases h with
     |cons h5 h=>cases h with
      |cons h6 h=>
       cases h
       obtain ⟨t1,rfl⟩:=Ah h1
       obtain ⟨t2,rfl⟩:=Ah h2
       obtain ⟨t3,rfl⟩:=Ah h3
       obtain ⟨t4,rfl⟩:=Ah h4
       obtain ⟨t5,rfl⟩:=Ah h5
       obtain ⟨t6,rfl⟩:=Ah h6
       exact ⟨t1,t2,t3,t4,t5,t6,rfl⟩
theorem gP {a b:Int}{r t:List Int} (e:a=b):ltL (a::r) (b::t)=ltL r t:=by rw[ltL,if_pos e]
theorem gW {a b:Int}{r t:List Int} (e:¬ a=b):ltL (a::r) (b::t)=decide (a < b):=by rw[ltL,if_neg e]
theorem pF {x y:Addr}{a1 a2 a3 a4 a5 a6 b1 b2 b3 b4 b5 b6:Int}{P:Gv→yI→Prop} (hx:TK prog w s.heap [a1,a2,a3,a4,a5,a6] x) (hy:TK prog w s.heap [b1,b2,b3,b4,b5,b6] y)
  (h:P (.done (.ret (.bool (ltL [a1,a2,a3,a4,a5,a6] [b1,b2,b3,b4,b5,b6])))) s):
  wpAny (model prog w) A (Builtin.«tuple.__lt__» ⟨[.ref x,.ref y],[]⟩) P E s:=by
 have hTb:=hy.typeIs
 obtain ⟨o,its,n,ho,_,hd,hi⟩:=hx
 obtain ⟨o',its',n',ho',_,hd',hi'⟩:=hy
 obtain ⟨t1,t2,t3,t4,t5,t6,hi⟩:=jO hi
 obtain ⟨u1,u2,u3,u4,u5,u6,hi'⟩:=jO hi'
 show wpAny _ _ (Hr (.ref y) (.type "tuple") >>=_) _ _ s
 refine yE (Bw hTb EM ?_)
 simp only[Aq,yX,if_false]
 refine yE (CK ho hd ?_)
 refine yE (CK ho' hd' ?_)
 have sz:its.size=its'.size:=by rw[←y4,←y4,hi,hi'];rfl
 rw[hi,hi']
 refine yE ?_
 simp only[B1,FM,CC,C4]
 refine yE (yE ((Bc prog w).eqBool (a:=a1) (b:=b1) (Aj _ _ _ _) (Aj _ _ _ _) ?_))
 by_cases e1:a1=b1
 rotate_left
 ·rw[gW e1] at h
  rw[decide_eq_false e1]
  simp only[Ba,if_true]
  exact yE (BH (yE (dq (yE (yJ (yJ (yJ (yJ h))))))))
 rw[gP e1] at h
 rw[decide_eq_true e1]
 simp only[Aq,yX,if_false]
 refine yJ ?_
 refine yE (yE ((Bc prog w).eqBool (a:=a2) (b:=b2) (Aj _ _ _ _) (Aj _ _ _ _) ?_))
 by_cases e2:a2=b2
 rotate_left
 ·rw[gW e2] at h
  rw[decide_eq_false e2]
  simp only[Ba,if_true]
  exact yE (BH (yE (dq (yE (yJ (yJ (yJ (yJ h))))))))
 rw[gP e2] at h
 rw[decide_eq_true e2]
 simp only[Aq,yX,if_false]
 refine yJ ?_
 refine yE (yE ((Bc prog w).eqBool (a:=a3) (b:=b3) (Aj _ _ _ _) (Aj _ _ _ _) ?_))
 by_cases e3:a3=b3
 rotate_left
 ·rw[gW e3] at h
  rw[decide_eq_false e3]
  simp only[Ba,if_true]
  exact yE (BH (yE (dq (yE (yJ (yJ (yJ (yJ h))))))))
 rw[gP e3] at h
 rw[decide_eq_true e3]
 simp only[Aq,yX,if_false]
 refine yJ ?_
 refine yE (yE ((Bc prog w).eqBool (a:=a4) (b:=b4) (Aj _ _ _ _) (Aj _ _ _ _) ?_))
 by_cases e4:a4=b4
 rotate_left
 ·rw[gW e4] at h
  rw[decide_eq_false e4]
  simp only[Ba,if_true]
  exact yE (BH (yE (dq (yE (yJ (yJ (yJ (yJ h))))))))
 rw[gP e4] at h
 rw[decide_eq_true e4]
 simp only[Aq,yX,if_false]
 refine yJ ?_
 refine yE (yE ((Bc prog w).eqBool (a:=a5) (b:=b5) (Aj _ _ _ _) (Aj _ _ _ _) ?_))
 by_cases e5:a5=b5
 rotate_left
 ·rw[gW e5] at h
  rw[decide_eq_false e5]
  simp only[Ba,if_true]
  exact yE (BH (yE (dq (yE (yJ (yJ (yJ (yJ h))))))))
 rw[gP e5] at h
 rw[decide_eq_true e5]
 simp only[Aq,yX,if_false]
 refine yJ ?_
 refine yE (yE ((Bc prog w).eqBool (a:=a6) (b:=b6) (Aj _ _ _ _) (Aj _ _ _ _) ?_))
 by_cases e6:a6=b6
 rotate_left
 ·rw[gW e6] at h
  rw[decide_eq_false e6]
  simp only[Ba,if_true]
  exact yE (BH (yE (dq (yE (yJ (yJ (yJ (yJ h))))))))
 rw[gP e6] at h
 rw[decide_eq_true e6]
 simp only[Aq,yX,if_false]
 refine yJ (yJ ?_)
 refine yJ ?_
 show P (.done (.ret (.bool (decide (its.size < its'.size))))) s
 rw[sz,decide_eq_false (zO _)]
 exact h
theorem lt_sixR {x y:Addr}{a b:List Int}{Q:Value→yI→Prop} (la:a.length=6) (lb:b.length=6) (hu:A.units < cLine) (hx:TK prog w s.heap a x) (hy:TK prog w s.heap b y) (h:Q (.bool (ltL a b)) s):
  wpAny (model prog w) A (AJ .Lt (.ref x) (.ref y)) Q E s:=by
 match a,la,b,lb,hx,hy,h with
 |[a1,a2,a3,a4,a5,a6],_,[b1,b2,b3,b4,b5,b6],_,hx,hy,h=>
  exact Dv (op:=.Lt) hx.typeIs hy.typeIs B6
   (AM B6 hx.typeIs Er (pF hx hy ⟨_,rfl,(fun e=>nomatch e),h⟩) (D_ _ _)) hu
end
end ST6
namespace L2
open PySem PySem.Spec PyProof.Rows
theorem kM {K:yH}{H:Hp}:∀{k:List Int}{vs:List V},Rps K H vs (k.map U.int)→vs=k.map V.int
 |[],vs,r=>by rw[FQ] at r;exact r.nil_inv
 |a::k,vs,r=>by
  rw[Aa] at r
  obtain ⟨v,ws,rfl,h1,h2⟩:=r.cons_inv
  cases h1
  rw[kM h2];rfl
theorem v9 {X:Cx}{pins:List (Addr×Obj)}{σ:List (Option V)}{H:Hp}{s:yI}{k:List Int} (I:Inv X pins σ H s) {v:V}{u:Value} (r:Rp X.K H v (sxU k)) (e:aR v u):∃b,u=.ref b∧ST.TK X.prog X.w s.heap k b:=by
 cases r with
 | @tup b zs _ hs hsl hsi=>
  cases e
  have e1:=kM (⟨hsl,hsi⟩:Rps X.K H zs (k.map U.int))
  subst e1
  exact ⟨b,rfl,wv I hs⟩
end L2
namespace ST
open PySem PyProof.Rows PySem.SeqAt
def ji (e r:Nat→Bool) (m n:Nat):Nat→Nat→Bool
 |0,_=>decide (m < n)
 |k+1,i=>if e i=true then ji e r m n k (i+1) else r i
def uD (A:zh) (s:yI) (a b:Value) (r:Bool):Prop:=∀(prog:yT) (w:World) (E:Value→yI→Prop) (Q:Value→yI→Prop),Q (.bool r) s→wpAny (model prog w) A (B5 .Lt a b) Q E s
theorem o_ (l b:Addr) (items items2:Array Value) (n n2:Nat) (dd dd2:Option Addr) (sl sl2:Array (Option Value)) (e r:Nat→Bool) (k:Nat):
  ∀i:Nat,min items.size items2.size - i=k→Meets (Builtin.«list.__eq__.loop» ⟨[.ref l,.ref b,BZ i,BZ 0],[]⟩)
   (fun A R s=>s.heap.get? l=some {cls:=.type "list",dict:=dd,data:=.seq items n,slots:=sl }∧s.heap.get? b=some {cls:=.type "list",dict:=dd2,data:=.seq items2 n2,slots:=sl2 }∧
    (∀j (h1:j < items.size) (h2:j < items2.size),EqAt A.in1 s items[j] items2[j] (e j))∧(∀j (h1:j < items.size) (h2:j < items2.size),e j=false→uD A.in1 s items[j] items2[j] (r j))∧
    R (.ok (.ret (.bool (ji e r items.size items2.size k i)))) s):=by
 induction k with
 |zero=>
  intro i hk prog w A R s h
  obtain ⟨hp,g,d,tk,os⟩:=s;obtain ⟨hl,hb,he,hr,h⟩:=h
  wp_walk using A2 hl,A2 hb
  have hi:items[((i:Nat):Int).toNat]?=none∨items2[((i:Nat):Int).toNat]?=none:=by
   rcases AV i items.size with z |z
   ·exact .inr (by simp;omega)
   ·exact .inl (by simpa using z)
  rcases hi with hi |hi
  ·rw[hi]
   wp_walk using A2 hl,A2 hb
   exact h
  ·cases hx:items[((i:Nat):Int).toNat]? <;>rw[hi] <;>wp_walk using A2 hl,A2 hb <;>exact h
 |succ k ih=>
  intro i hk prog w A R s h
  obtain ⟨hp,g,d,tk,os⟩:=s;obtain ⟨hl,hb,he,hr,h⟩:=h
  wp_walk using A2 hl,A2 hb
  have hlt:i < items.size:=by omega
  have hlt2:i < items2.size:=by omega
  have hi1:items[((i:Nat):Int).toNat]?=some items[i]:=by simp[hlt]
  have hi2:items2[((i:Nat):Int).toNat]?=some items2[i]:=by simp[hlt2]
  have hc:((i:Int)+1)=((i+1:Nat):Int):=by push_cast;rfl
  rw[ji] at h
  rw[hi1,hi2]
  refine yE (he i hlt hlt2 prog w _ _ ?_)
  cases hb':e i with
  |true=>
   rw[hb',if_pos rfl] at h
   wp_walk
   rw[hc]
   exact ⟨AF Bg _,AB De (by
    rw[Ag Bg _]
    exact ih (i+1) (by omega) prog w A R _ ⟨hl,hb,he,hr,h⟩)⟩
  |false=>
   rw[hb',if_neg zd] at h
   wp_walk using A2 hl,A2 hb
   rw[hi1,hi2]
   refine yE (hr i hlt hlt2 hb' prog w _ _ ?_)
   wp_walk
   exact h
theorem oY (l b:Addr) (items items2:Array Value) (n n2:Nat) (dd dd2:Option Addr) (sl sl2:Array (Option Value)) (e r:Nat→Bool):
  Meets (Builtin.«list.__lt__» ⟨[.ref l,.ref b],[]⟩)
   (fun A R s=>s.heap.get? l=some {cls:=.type "list",dict:=dd,data:=.seq items n,slots:=sl }∧s.heap.get? b=some {cls:=.type "list",dict:=dd2,data:=.seq items2 n2,slots:=sl2 }∧
    (∀j (h1:j < items.size) (h2:j < items2.size),EqAt A.in1 s items[j] items2[j] (e j))∧(∀j (h1:j < items.size) (h2:j < items2.size),e j=false→uD A.in1 s items[j] items2[j] (r j))∧
    R (.ok (.ret (.bool (ji e r items.size items2.size (min items.size items2.size) 0)))) s):=by
 intro prog w A R s h
 obtain ⟨hp,g,d,tk,os⟩:=s;obtain ⟨hl,hb,he,hr,h⟩:=h
 have hT:HA ⟨hp,g,d,tk,os⟩ (.ref b) "list":=⟨_,hb,rfl⟩
 show wpAny _ _ (Hr (.ref b) (.type "list") >>=_) _ _ _
 refine yE (Bw (b:=true) hT (by rw[Cf];kernel_rfl) ?_)
 simp only[Aq,yX,if_false]
 refine BN (fun z=>absurd z (by decide)) (fun _=>?_)
 refine yJ ⟨AF Bg _,AB De ?_⟩
 rw[Ag Bg _]
 exact o_ l b items items2 n n2 dd dd2 sl sl2 e r _ 0 rfl prog w A R _ ⟨hl,hb,he,hr,h⟩
section
variable {prog:yT}{w:World}{A:zh}{E:Value→yI→Prop}{s:yI}
theorem lt_lists {l b:Addr}{items items2:Array Value}{e r:Nat→Bool}{Q:Value→yI→Prop} (hl:s.heap.IsList l items) (hb:s.heap.IsList b items2) (hu:A.units < cLine)
  (he:∀j (h1:j < items.size) (h2:j < items2.size),EqAt A.in1 s items[j] items2[j] (e j)) (hr:∀j (h1:j < items.size) (h2:j < items2.size),e j=false→uD A.in1 s items[j] items2[j] (r j))
  (h:Q (.bool (ji e r items.size items2.size (min items.size items2.size) 0)) s):wpAny (model prog w) A (B5 .Lt (.ref l) (.ref b)) Q E s:=by
 obtain ⟨⟨cls,dd,data,sl⟩,ho,hc,n,hd⟩:=id hl
 obtain ⟨⟨cls2,dd2,data2,sl2⟩,ho2,hc2,n2,hd2⟩:=id hb
 simp only at hc hd hc2 hd2
 subst hc hd hc2 hd2
 exact richCompare_meets_room (op:=.Lt) ⟨_,ho,rfl⟩ ⟨_,ho2,rfl⟩ PySem.F.slot_list_lt PySem.F.entry_list_lt (PySem.F.args_list_lt_2 _ _) (oY l b items items2 n n2 dd dd2 sl sl2 e r)
  ⟨ho,ho2,he,hr,(fun x=>nomatch x),h⟩ hu
theorem jK {prog':yT}{w':World}:∀{k:List Int}{vs:List Value},ItemsAre (Bc prog w) k vs→ItemsAre (Bc prog' w') k vs
 |_,_,.nil=>.nil
 |_,_,.cons h t=>.cons h (jK t)
theorem TK.any {prog':yT}{w':World}{h:Heap}{k:List Int}{b:Addr} (x:TK prog w h k b):TK prog' w' h k b:=by
 obtain ⟨o,its,n,ho,hc,hd,hi⟩:=x
 exact ⟨o,its,n,ho,hc,hd,jK hi⟩
theorem eqAt_pts {x y:Addr}{k m:List Int} (hu:A.units < cLine) (hx:TK prog w s.heap k x) (hy:TK prog w s.heap m y):EqAt A s (.ref x) (.ref y) (decide (k=m)):=fun prog' w' E Q h=>
 (Gk (Bc prog' w')).eqBool hu (TK.any hx) (TK.any hy) h
theorem ltAt_pts {x y:Addr}{a b:Int×Int} (hu:A.units < cLine) (hx:TK prog w s.heap [a.1,a.2] x) (hy:TK prog w s.heap [b.1,b.2] y):uD A s (.ref x) (.ref y) (ltP a b):=fun prog' w' E Q h=>tV hu (TK.any hx) (TK.any hy) h
end
def ltLs:List (Int×Int)→List (Int×Int)→Bool
 |a::r,b::t=>if a=b then ltLs r t else ltP a b
 |[],_::_=>true
 |_,[]=>false
theorem lexB_pts {e r:Nat→Bool}:∀(ps qs:List (Int×Int)) (i m n:Nat),(∀j (h1:j < ps.length) (h2:j < qs.length),e (i+j)=decide (ps[j]=qs[j])∧r (i+j)=ltP ps[j] qs[j])→m=i+ps.length→n=i+qs.length→ji e r m n (min ps.length qs.length) i=ltLs ps qs
 |[],[],i,m,n,_,hm,hn=>by rw[hm,hn];simp[ji,ltLs]
 |[],b::t,i,m,n,_,hm,hn=>by
  rw[hm,hn]
  simp[ji,ltLs]
 |a::r',[],i,m,n,_,hm,hn=>by
  rw[hm,hn]
  simp[ji,ltLs]
 |a::r',b::t,i,m,n,h,hm,hn=>by
  have h0:=h 0 (by simp) (by simp)
  have ih:=lexB_pts (e:=e) (r:=r) r' t (i+1) m n (fun j h1 h2=>by
   have:=h (j+1) (by simpa using h1) (by simpa using h2)
   rw[show i+1+j=i+(j+1) by omega]
   simpa using this) (by rw[hm,zH];omega) (by rw[hn,zH];omega)
  rw[show min (a::r').length (b::t).length=min r'.length t.length+1 by rw[zH,zH];omega,ji,ltLs,show i=i+0 from rfl,h0.1,h0.2]
  simp only[List.getElem_cons_zero]
  by_cases z:a=b
  ·rw[if_pos z,decide_eq_true z,if_pos rfl]
   exact ih
  ·rw[if_neg z,decide_eq_false z,if_neg zd]
end ST
namespace L2
open PySem PySem.Spec PyProof.Rows
theorem iU {X:Cx}{pins:List (Addr×Obj)}{σ:List (Option V)}{H:Hp}{s:yI}{l:List P2} (I:Inv X pins σ H s) {v:V}{u:Value} (r:Rp X.K H v (lp l)) (e:aR v u):
  ∃a its,u=.ref a∧s.heap.IsList a its∧its.size=l.length∧∀(j:Nat) (h1:j < its.size) (h2:j < l.length),∃b,its[j]=.ref b∧ST.TK X.prog X.w s.heap [l[j].1,l[j].2] b:=by
 cases r with
 | @lst a ws _ hq hwl hwi=>
  cases e
  obtain ⟨its,rv,pl,_⟩:=I.list (SqL.of hq)
  have hl:=rv.length
  have e1:its.toArray.size=l.length:=by simp;rw[←hl,hwl,yK]
  refine ⟨a,its.toArray,rfl,pl.isList,e1,fun j h1 h2=>?_⟩
  have hj:j < ws.length:=by simp at h1;omega
  obtain ⟨u,hu,ru⟩:=rv.get (yD hj)
  have q:=hwi j ws[j] (pu l[j]) (yD hj) (by rw[yN,yD h2];rfl)
  obtain ⟨b,rfl,t⟩:=w6 I q ru
  refine ⟨b,?_,t⟩
  have:its[j]?=some (.ref b):=hu
  simp at h1
  rw[yD h1] at this
  simpa using this
theorem tH {X:Cx}{pins:List (Addr×Obj)}{σ:List (Option V)}{H:Hp}{s:yI}{A:zh}{E:Value→yI→Prop}{l m:List P2}{Q:Value→yI→Prop} (hu:A.units+4 < cLine) (I:Inv X pins σ H s) {v w:V}{u z:Value} (r1:Rp X.K H v (lp l)) (r2:Rp X.K H w (lp m)) (e1:aR v u) (e2:aR w z)
  (h:Q (.bool (ST.ltLs l m)) s):wpAny (model X.prog X.w) A (B5 .Lt u z) Q E s:=by
 obtain ⟨a,its,rfl,h1,n1,k1⟩:=iU I r1 e1
 obtain ⟨b,jts,rfl,h2,n2,k2⟩:=iU I r2 e2
 refine ST.lt_lists (e:=fun j=>decide (l.getD j (0,0)=m.getD j (0,0))) (r:=fun j=>ST.ltP (l.getD j (0,0)) (m.getD j (0,0))) h1 h2 (by omega) (fun j q1 q2=>?_) (fun j q1 q2 _=>?_) ?_
 ·obtain ⟨x,ex,tx⟩:=k1 j q1 (by omega)
  obtain ⟨y,ey,ty⟩:=k2 j q2 (by omega)
  rw[ex,ey]
  have g1:l.getD j (0,0)=l[j]'(by omega):=by rw[yL,yD (by omega)];rfl
  have g2:m.getD j (0,0)=m[j]'(by omega):=by rw[yL,yD (by omega)];rfl
  have:=ST.eqAt_pts (A:=A.in1) (show A.in1.units < cLine by simp[FN];omega) tx ty
  rw[g1,g2]
  have e:decide (l[j]'(by omega)=m[j]'(by omega))=decide ([(l[j]'(by omega)).1,(l[j]'(by omega)).2]=[(m[j]'(by omega)).1,(m[j]'(by omega)).2]):=by
   rw[Bd];simp[HK]
  rw[e];exact this
 ·obtain ⟨x,ex,tx⟩:=k1 j q1 (by omega)
  obtain ⟨y,ey,ty⟩:=k2 j q2 (by omega)
  rw[ex,ey]
  have g1:l.getD j (0,0)=l[j]'(by omega):=by rw[yL,yD (by omega)];rfl
  have g2:m.getD j (0,0)=m[j]'(by omega):=by rw[yL,yD (by omega)];rfl
  rw[g1,g2]
  exact ST.ltAt_pts (A:=A.in1) (show A.in1.units < cLine by simp[FN];omega) tx ty
 ·rw[n1,n2,ST.lexB_pts l m 0 _ _ (fun j q1 q2=>?_) (by omega) (by omega)]
  ·exact h
  ·have g1:l.getD j (0,0)=l[j]:=by rw[yL,yD q1];rfl
   have g2:m.getD j (0,0)=m[j]:=by rw[yL,yD q2];rfl
   rw[show 0+j=j by omega,g1,g2];exact ⟨rfl,rfl⟩
def abK (kf:Nat→List P2):Nat→Nat
 |0=>0
 |j+1=>if ST.ltLs (kf (j+1)) (kf (abK kf j))=true then j+1 else abK kf j
theorem qQ (kf:Nat→List P2):∀j,abK kf j≤j
 |0=>yO _
 |j+1=>by
  have:=qQ kf j
  rw[abK]
  split <;>omega
theorem nU {h:Heap}{b:Addr}{vs:Array Value}{c:Nat} (e:h.get? b=some (BW "list" vs c)) (f:Array Value→Array Value):∃c',(h.update b (Au f)).get? b=some (BW "list" (f vs) c'):=⟨_,EK e f⟩
section
variable {X:Cx}{pins:List (Addr×Obj)}{σ:St}{H:Hp}{l q S Ia:Addr}{ob:Obj}{O:List Addr}{vs:List V}{kf:Nat→List P2}{R:Fj→yI→Prop}
def Turns (X:Cx) (σ:St) (H:Hp) (q:Addr) (ob:Obj) (O:List Addr) (vs:List V) (kf:Nat→List P2):Prop:=
 ∀(pins':List (Addr×Obj)) (s':yI) (H':Hp) (j:Nat) (v:V) (u:Value),(q,ob)∈pins'→Inv X pins' σ H' s'→ax H H'→vs[j]?=some v→aR v u→
  wpAny (model X.prog X.w) X.A.in1 (call (.ref q) [u]) (fun r s2=>∃kv H2,Inv X pins' σ H2 s2∧ax H' H2∧aR kv r∧Rp X.K (hid H2 O) kv (lp (kf j))) (fun _ _=>False) s'
structure Mkk (X:Cx) (pins:List (Addr×Obj)) (σ:St) (H:Hp) (l q S Ia:Addr) (ob:Obj) (O:List Addr) (vs:List V) (kf:Nat→List P2) (j:Nat) (s:yI) (H':Hp) (vb kb:Value):Prop where
 inv:Inv X pins σ H' s
 same:ax H H'
 fp:∀b∈[q,Ia,S],cR X pins H' b
 oq:s.heap.get? q=some ob
 oS:∃c,s.heap.get? S=some (BW "list" #[vb,kb] c)
 it:s.heap.IsListIter Ia l (j+1)
 best:∃v,vs[abK kf j]?=some v∧aR v vb
 key:∃kv,aR kv kb∧Rp X.K (hid H' O) kv (lp (kf (abK kf j)))
theorem sT (hc:X.calm=true) (hu:X.A.units+10 < cLine) (hl:SqL X.K H l vs) (hqS:q≠S) (hqI:q≠Ia) (hSI:S≠Ia) (nc:∀v,ob.data≠.cell v) (turn:Turns X σ H q ob O vs kf)
  (hR:∀(v:V) (u:Value) (s':yI) (H':Hp),vs[abK kf (vs.length - 1)]?=some v→aR v u→Inv X pins σ H' s'→ax H H'→R (.ok (.ret u)) s'):
  ∀(r j:Nat) (s:yI) (H':Hp) (vb kb:Value),vs.length - (j+1)=r→j+1≤vs.length→Mkk X pins σ H l q S Ia ob O vs kf j s H' vb kb→
   CA (model X.prog X.w) X.A (.builtin "min.loop" ⟨[.ref Ia,.ref q,.ref S],[]⟩) R s:=by
 have hname:(Dm "min"++Dm ".loop":String)="min.loop":=by decide
 intro r
 induction r with
 |zero=>
  intro j s H' vb kb hr hj M
  have hin:j+1=vs.length:=by omega
  obtain ⟨c,oS⟩:=M.oS
  obtain ⟨its,rv,pl,_⟩:=M.inv.list (M.same.seq hl)
  have lv:=rv.length
  refine AB A6 ?_
  rw[Ag zJ _]
  show wpAny _ X.A.in1 (DT (.ref S) >>=_) _ _ _
  refine yE (Ao oS rfl ?_)
  show wpAny _ X.A.in1 (Do (C6 (.ref Ia)) _ >>=_) _ _ _
  refine yE (Bb (Ex (M.inv.ok.hd hc) M.it pl.isList (by simp;omega) fun h' eb=>?_))
  obtain ⟨f0,f1,f2,f3,f4,f5⟩:=M.fp Ia (by simp)
  have I1:Inv X pins σ H' {s with heap:=h' }:=M.inv.turned (t':=s.toks) (fun b o hb e=>eb b o hb e) f0 f1 f3 f4 f5
  have hS':=eb S _ hSI oS
  show wpAny _ X.A.in1 (Du S (fun _=>#[]) >>=_) _ _ _
  refine yE ?_
  refine A1 (s:={s with heap:=h' }) hS' rfl (yE (Bp (yJ ?_)))
  obtain ⟨g0,g1,g2,g3,g4,g5⟩:=M.fp S (by simp)
  have I2:Inv X pins σ H' {s with heap:=h'.update S (Au fun _=>#[]) }:=I1.turned (s:={s with heap:=h' }) (t':=s.toks) (fun b o hb e=>(zj _ _ (Ne.symm hb)).trans e) g0 g1 g3 g4 g5
  obtain ⟨v,e1,e2⟩:=M.best
  exact hR v vb _ H' (by rw[←hin];exact e1) e2 I2 M.same
 |succ r ih=>
  intro j s H' vb kb hr hj M
  have hlt:j+1 < vs.length:=by omega
  obtain ⟨c,oS⟩:=M.oS
  obtain ⟨its,rv,pl,_⟩:=M.inv.list (M.same.seq hl)
  obtain ⟨u,hux,ru⟩:=rv.get (yD hlt)
  refine AB A6 ?_
  rw[Ag zJ _]
  show wpAny _ X.A.in1 (DT (.ref S) >>=_) _ _ _
  refine yE (Ao oS rfl ?_)
  show wpAny _ X.A.in1 (Do (C6 (.ref Ia)) _ >>=_) _ _ _
  refine yE (Bb (CL M.it pl.isList (x:=u) (by simpa using hux) fun h' st' sb=>?_))
  obtain ⟨f0,f1,f2,f3,f4,f5⟩:=M.fp Ia (by simp)
  have I1:Inv X pins σ H' {s with heap:=h' }:=M.inv.turned (t':=s.toks) (fun b o hb e=>(sb.2 b hb).trans e) f0 f1 f3 f4 f5
  obtain ⟨oI,gI,cI,dI⟩:=id st'
  have gS:h'.get? S=some (BW "list" #[vb,kb] c):=(sb.2 S hSI).trans oS
  have gq:h'.get? q=some ob:=(sb.2 q hqI).trans M.oq
  have ho:∀b∈[q,Ia,S],∃o,h'.get? b=some o∧∀v,o.data≠.cell v:=fun b hb=>by
   simp only[yP,Al,or_false] at hb
   rcases hb with e |e |e <;>subst e
   ·exact ⟨_,gq,nc⟩
   ·exact ⟨_,gI,fun v z=>by rw[dI] at z;cases z⟩
   ·exact ⟨_,gS,fun v z=>by cases z⟩
  have I1p:=I1.pinned (s:={s with heap:=h' }) M.fp ho
  show wpAny _ X.A.in1 (Do (holding [u] (call (.ref q) [u])) _ >>=_) _ _ _
  refine yE (Bb (Ax (AQ (turn _ _ H' (j+1) _ u (yS _ (bq (by simp) gq)) I1p M.same (yD hlt) ru) (fun kr s2 he=>?_) fun _ _ hF=>hF.elim)))
  obtain ⟨kv,H2,I2p,sm2,rk,rp⟩:=he
  have pin:∀{b o},b∈[q,Ia,S]→h'.get? b=some o→s2.heap.get? b=some o∧H2 b=none:=fun {b o} hb e=>by
   have:=I2p.pin (b,o) (yS _ (yS _ (bq hb e)))
   exact ⟨this.1,this.2.1⟩
  have I2:=I2p.unpinned
  obtain ⟨gS2,nS2⟩:=pin (b:=S) (by simp) gS
  obtain ⟨gI2,nI2⟩:=pin (b:=Ia) (by simp) gI
  obtain ⟨gq2,nq2⟩:=pin (b:=q) (by simp) gq
  have fp2:∀b∈[q,Ia,S],cR X pins H2 b:=fun b hb=>by
   have:=M.fp b hb
   refine ⟨?_,this.2⟩
   simp only[yP,Al,or_false] at hb
   rcases hb with e |e |e <;>subst e
   ·exact nq2
   ·exact nI2
   ·exact nS2
  obtain ⟨kw,rw',rb⟩:=M.key
  have sm:ax H H2:=M.same.trans sm2
  have it2:s2.heap.IsListIter Ia l (j+1+1):=⟨oI,gI2,cI,dI⟩
  show wpAny _ X.A.in1 (Do (holding [u,kr] (B5 .Lt kr kb >>=_)) _ >>=_) _ _ _
  refine yE (Bb (Ax (yE (tH (A:=X.A.in1) (by show X.A.units+1+4 < cLine;omega) I2 rp.out (rb.same (aI sm2)).out rk rw' ?_))))
  refine yE (Ax (Bk ?_))
  refine yE (Bp (yJ ?_))
  cases hb:ST.ltLs (kf (j+1)) (kf (abK kf j)) with
  |true=>
   have eb:abK kf (j+1)=j+1:=by rw[abK,if_pos hb]
   simp only[if_true]
   refine yE ?_
   refine A1 gS2 rfl (yE (Bp ?_))
   rw[hname]
   obtain ⟨c2,hc2⟩:=nU gS2 fun _=>#[u,kr]
   obtain ⟨g0,g1,g2,g3,g4,g5⟩:=fp2 S (by simp)
   have I3:Inv X pins σ H2 {s2 with heap:=s2.heap.update S (Au fun _=>#[u,kr]) }:=I2.turned (t':=s2.toks) (fun b o hb e=>(zj _ _ (Ne.symm hb)).trans e) g0 g1 g3 g4 g5
   refine yJ ⟨AF zJ _,ih (j+1) _ H2 u kr (by omega) hlt ⟨I3,sm,fp2,(zj _ _ hqS.symm).trans gq2,⟨c2,hc2⟩,⟨oI,(zj _ _ hSI).trans gI2,cI,dI⟩,?_,?_⟩⟩
   ·exact ⟨_,by rw[eb];exact yD hlt,ru⟩
   ·exact ⟨kv,rk,by rw[eb];exact rp⟩
  |false=>
   have eb:abK kf (j+1)=abK kf j:=by rw[abK,if_neg (by rw[hb];decide)]
   simp only[yX,if_false]
   refine yE (Bp ?_)
   rw[hname]
   obtain ⟨v,e1,e2⟩:=M.best
   refine yJ ⟨AF zJ _,ih (j+1) _ H2 vb kb (by omega) hlt ⟨I2,sm,fp2,gq2,⟨c,gS2⟩,it2,?_,?_⟩⟩
   ·exact ⟨v,by rw[eb];exact e1,e2⟩
   ·exact ⟨kw,rw',by rw[eb];exact rb.same (aI sm2)⟩
theorem pG {s:yI}{Q:Value→yI→Prop}{E:Value→yI→Prop} (hc:X.calm=true) (hu:X.A.units+10 < cLine) (I:Inv X pins σ H s) (hl:SqL X.K H l vs) (hne:0 < vs.length) (fq:cR X pins H q) (oq:s.heap.get? q=some ob) (nc:∀v,ob.data≠.cell v) (turn:Turns X σ H q ob O vs kf)
  (hQ:∀(v:V) (u:Value) (s':yI) (H':Hp),vs[abK kf (vs.length - 1)]?=some v→aR v u→Inv X pins σ H' s'→ax H H'→Q u s'):
  wpAny (model X.prog X.w) X.A (call (.builtin "min") [.ref l] [(Str.ofString "key",.ref q)]) Q E s:=by
 have hname:(Dm "min"++Dm ".loop":String)="min.loop":=by decide
 obtain ⟨its,rv,pl,_⟩:=I.list hl
 obtain ⟨ol,hol,_⟩:=id pl.isList
 have hll:l < s.heap.objs.size:=yQ hol
 have hql:q < s.heap.objs.size:=yQ oq
 refine kmk_tree Gh FK FL (kmk_min_key _ _) ?_
 show wpAny _ X.A.in1 (Builtin.Builtins.bindParams "min" ["key","default"] 0 ⟨[],[(Str.ofString "key",.ref q)]⟩ >>=_) _ _ s
 refine yE (Fd (show Builtin.Builtins.bindParams "min" ["key","default"] 0 ⟨[],[(Str.ofString "key",.ref q)]⟩=pure [some (.ref q),none] from rfl) ?_)
 refine yE (yJ ?_)
 refine yE (A8 pl.isList ?_)
 refine yE (Dk ?_ (zW _))
 rw[hname]
 generalize hI0:({cls:=.type "list_iterator",data:=.fields #[.ref l,.int 0 0] }:Obj)=oI0
 have hS:(s.heap.push oI0).objs.size=s.heap.objs.size+1:=size_push' ..
 have I0:Inv X pins σ H {s with heap:=(s.heap.push oI0).push (BW "list" #[] 0) }:=I.kept (t':=s.toks) fun b o e=>yG _ (yG _ e)
 have gI:((s.heap.push oI0).push (BW "list" #[] 0)).get? s.heap.objs.size=some oI0:=yG _ (yR _ (by rw[←hI0];rfl))
 have gS:((s.heap.push oI0).push (BW "list" #[] 0)).get? (s.heap.push oI0).objs.size=some (BW "list" #[] 0):=yR _ rfl
 have gq:((s.heap.push oI0).push (BW "list" #[] 0)).get? q=some ob:=yG _ (yG _ oq)
 have hqI:q≠s.heap.objs.size:=zb hql
 have hqS:q≠(s.heap.push oI0).objs.size:=by rw[hS];exact zb (AE hql)
 have hSI:(s.heap.push oI0).objs.size≠s.heap.objs.size:=by rw[hS];exact A4 (Bf _)
 have hlI:l≠s.heap.objs.size:=zb hll
 have fI:cR X pins H s.heap.objs.size:=I.fpOk (yO _) (I.hok.fresh (yO _))
 have sS:s.heap.objs.size≤(s.heap.push oI0).objs.size:=by rw[hS];exact HV _
 have fS:cR X pins H (s.heap.push oI0).objs.size:=I.fpOk sS (I.hok.fresh sS)
 generalize (s.heap.push oI0).objs.size=S at *
 generalize (s.heap.push oI0).push (BW "list" #[] 0)=h0 at *
 generalize s.heap.objs.size=Ia at *
 have it0:h0.IsListIter Ia l 0:=⟨_,gI,by rw[←hI0],by rw[←hI0];rfl⟩
 obtain ⟨its,rv,pl,_⟩:=I0.list hl
 obtain ⟨u,hux,ru⟩:=rv.get (yD hne)
 refine yJ ⟨AF zJ _,?_⟩
 refine AB A6 ?_
 rw[Ag zJ _]
 show wpAny _ X.A.in1 (DT (.ref _) >>=_) _ _ _
 refine yE (Ao (s:={s with heap:=h0 }) gS rfl ?_)
 show wpAny _ X.A.in1 (Do (C6 (.ref Ia)) _ >>=_) _ _ _
 refine yE (Bb (CL (s:={s with heap:=h0 }) it0 pl.isList (x:=u) (by simpa using hux) fun h' st' sb=>?_))
 obtain ⟨f0,f1,f2,f3,f4,f5⟩:=id fI
 have I1:Inv X pins σ H {s with heap:=h' }:=I0.turned (s:={s with heap:=h0 }) (t':=s.toks) (fun b o hb e=>(sb.2 b hb).trans e) f0 f1 f3 f4 f5
 obtain ⟨oI,gI1,cI,dI⟩:=id st'
 have gS1:h'.get? S=some (BW "list" #[] 0):=(sb.2 S hSI).trans gS
 have gq1:h'.get? q=some ob:=(sb.2 q hqI).trans gq
 have fp:∀b∈[q,Ia,S],cR X pins H b:=fun b hb=>by
  simp only[yP,Al,or_false] at hb
  rcases hb with e |e |e <;>subst e
  ·exact fq
  ·exact fI
  ·exact fS
 have ho:∀b∈[q,Ia,S],∃o,h'.get? b=some o∧∀v,o.data≠.cell v:=fun b hb=>by
  simp only[yP,Al,or_false] at hb
  rcases hb with e |e |e <;>subst e
  ·exact ⟨_,gq1,nc⟩
  ·exact ⟨_,gI1,fun v z=>by rw[dI] at z;cases z⟩
  ·exact ⟨_,gS1,fun v z=>by cases z⟩
 have I1p:=I1.pinned (s:={s with heap:=h' }) fp ho
 show wpAny _ X.A.in1 (Do (holding [u] (call (.ref q) [u])) _ >>=_) _ _ _
 refine yE (Bb (Ax (AQ (turn _ _ H 0 _ u (yS _ (bq (by simp) gq1)) I1p (.refl H) (yD hne) ru) (fun kr s2 he=>?_) fun _ _ hF=>hF.elim)))
 obtain ⟨kv,H2,I2p,sm2,rk,rp⟩:=he
 have pin:∀{b o},b∈[q,Ia,S]→h'.get? b=some o→s2.heap.get? b=some o∧H2 b=none:=fun {b o} hb e=>by
  have:=I2p.pin (b,o) (yS _ (yS _ (bq hb e)))
  exact ⟨this.1,this.2.1⟩
 have I2:=I2p.unpinned
 obtain ⟨gS2,nS2⟩:=pin (b:=S) (by simp) gS1
 obtain ⟨gI2,nI2⟩:=pin (b:=Ia) (by simp) gI1
 obtain ⟨gq2,nq2⟩:=pin (b:=q) (by simp) gq1
 have fp2:∀b∈[q,Ia,S],cR X pins H2 b:=fun b hb=>by
  have:=fp b hb
  refine ⟨?_,this.2⟩
  simp only[yP,Al,or_false] at hb
  rcases hb with e |e |e <;>subst e
  ·exact nq2
  ·exact nI2
  ·exact nS2
 show wpAny _ X.A.in1 (Du S (fun _=>#[u,kr]) >>=_) _ _ _
 refine yE ?_
 refine A1 gS2 rfl ?_
 rw[hname]
 obtain ⟨c2,hc2⟩:=nU gS2 fun _=>#[u,kr]
 obtain ⟨g0,g1,g2,g3,g4,g5⟩:=fp2 S (by simp)
 have I3:Inv X pins σ H2 {s2 with heap:=s2.heap.update S (Au fun _=>#[u,kr]) }:=I2.turned (t':=s2.toks) (fun b o hb e=>(zj _ _ (Ne.symm hb)).trans e) g0 g1 g3 g4 g5
 refine yJ ⟨AF zJ _,sT hc hu hl hqS hqI hSI nc turn (fun v u s' H' e1 e2 e3 e4=>hQ v u s' H' e1 e2 e3 e4) _ 0 _ H2 u kr rfl hne ⟨I3,sm2,fp2,(zj _ _ hqS.symm).trans gq2,⟨c2,hc2⟩,⟨oI,(zj _ _ hSI).trans gI2,cI,dI⟩,⟨_,yD hne,ru⟩,⟨kv,rk,rp⟩⟩⟩
end
theorem gf:∀ts,TriplesOk (d8 ts)
 |[]=>trivial
 |_::ts=>gf ts
theorem i_ (l c:Nat) (a:Addr):∀ts,d8 (ts++[(l,c,a)])=d8 ts++[BZ l,BZ c,.ref a]
 |[]=>rfl
 |t::ts=>by
  show BZ t.1::BZ t.2.1::.ref t.2.2::d8 (ts++[(l,c,a)])=_
  rw[i_ l c a ts];rfl
theorem hW (pos:Pos):∀ts,GD pos (d8 ts)=none∨∃t∈ts,GD pos (d8 ts)=some (.ref t.2.2)
 |[]=>.inl rfl
 |t::ts=>by
  have e:GD pos (d8 (t::ts))=if ((t.1:Int)==pos.line && (t.2.1:Int)==pos.col)=true then some (.ref t.2.2) else GD pos (d8 ts):=rfl
  rw[e]
  split
  ·exact .inr ⟨t,by simp,rfl⟩
  ·rcases hW pos ts with h |⟨t',h1,h2⟩
   ·exact .inl h
   ·exact .inr ⟨t',by simp[h1],h2⟩
structure TbF (K:yH) (mg:Str→Option Value) (f c P b:Addr):Prop where
 m:mg "to_form"=some (.ref f)
 lf:∃o fd,K.lookup f=some o∧o.data=.func fd∧fd.code=.ref c
 hd:As K c P=true
 bm:mg "__builtins__"=some (.ref b)
 bn:b≠CQ
 lb:∃o,K.lookup b=some o∧o.cls=.type "module"∧o.dict=some CQ∧o.data=.plain
def pz (H:Hp) (c':Addr):Prop:=∃oc u vs t,H c'=some (.frz oc u)∧oc.data=.fields vs∧vs[1]?=some (.str g_ t)
theorem pz.rec {X:Cx}{pins:List (Addr×Obj)}{σ:St}{H:Hp}{s:yI}{c':Addr} (h:pz H c') (I:Inv X pins σ H s):s.heap.CodeRec (.ref c') g_:=by
 obtain ⟨oc,u,vs,t,e,d,v⟩:=h
 obtain ⟨g,_⟩:=(show cg X.prog X.w H s.heap c' (.frz oc u) from I.hok c' _ e)
 exact ⟨c',oc,vs,t,rfl,g,d,v⟩
theorem pz.same {H H':Hp}{c':Addr} (h:pz H c') (e:ax H H'):pz H' c':=let ⟨oc,u,vs,t,e1,r⟩:=h;⟨oc,u,vs,t,e _ _ e1,r⟩
section
variable {X:Cx}{pins:List (Addr×Obj)}{σ:St}{H:Hp}{s:yI}
theorem rQ {params:Fk}{body:Expr}{scope:Scope}{lpos:Pos}{clos:List (Str×Addr)}{f c P b:Addr}{Q:Value→yI→Prop}{E:Value→yI→Prop} (I:Inv X pins σ H s) (T:TbF X.K X.mg f c P b)
  (hcode:X.env.code=.ref c) (hq:X.env.qual++"<lambda>"=g_) (hcl:DR scope X.env=pure clos) (hdef:defaultsOf params X.env=([],[]))
  (h:∀(q c':Addr) (pm ctv:Value) (s':yI) (H':Hp),Inv X pins σ H' s'→ax H H'→s'.heap.get? q=some (EN "<lambda>" g_ params body scope clos pm c' ctv)→pz H' c'→cR X pins H' q→Q (.ref q) s'):
  wpAny (model X.prog X.w) X.A (eval (.Lambda params body scope lpos) X.env) Q E s:=by
 refine PySem.W.kla_eval hdef ?_
 rw[hq]
 obtain ⟨o1,fd1,l1,l2,l3⟩:=T.lf
 obtain ⟨o2,vs2,m1,_,m3,m4⟩:=gN T.hd
 have KX:=I.kIn
 have kb:X.K.In X.base:=I.mod.kin
 obtain ⟨ps,hP⟩:=I.amb f o1 fd1 c o2 vs2 P T.m (kb _ _ l1) l2 l3 (kb _ _ m1) m3 (by rw[Ae,m4];rfl)
 obtain ⟨ts,e0,hts⟩:=(show t7 H s.heap P from I.hok P _ hP)
 have C:PySem.W.CodeHd s.heap c P:=PySem.W.codeHd_of_K KX T.hd
 have hg:s.heap.Ns yY X.mg:=I.mod.glob.keeps I.bk
 have hgP:yY≠P:=fun z=>by
  obtain ⟨o,es,ep,e,d,_⟩:=hg
  rw[z,e0] at e;cases e;cases d
 obtain ⟨ob,lb1,lb2,lb3,lb4⟩:=T.lb
 have gb:=KX _ _ lb1
 have hB:s.heap.BuiltinsAt X.mg P:=⟨b,ob,T.bm,T.bn,(fun z=>by
   obtain ⟨o,es,ep,e,d,_⟩:=hg
   rw[←z,gb] at e;cases e;rw[lb4] at d;cases d),(fun z=>by
   rw[z,e0] at gb;cases gb;cases lb2),gb,lb2,lb3,lb4⟩
 have nP:∀b,H b=none→b≠P:=fun b n z=>by rw[z,hP] at n;cases n
 rcases hW lpos ts with hnf |⟨t,ht,hhit⟩
 ·refine PySem.W.kla_makeFunction (mg:=X.mg) hcl I.ok.glob hg hcode C e0 (gf ts) hnf hgP hB fun c' ctv h' tk hx hge hlt hrec htb=>?_
  obtain ⟨c2,oc,vs',t',e2,hoc,hdv,hv⟩:=hrec
  cases e2
  have fr:H c'=none:=I.hok.fresh hge
  have nc:∀b u,H b=some u→b≠c':=fun b u e z=>by rw[z,fr] at e;cases e
  have lt':∀b o,s.heap.get? b=some o→b≠c':=fun b o e z=>absurd (za (yQ e) hge) (by rw[z];exact zO _)
  generalize hob:(EN "<lambda>" g_ params body scope clos ((X.mg "__name__").getD .none) c' ctv:Obj)=fo
  have up:∀b o,b≠P→s.heap.get? b=some o→(h'.push fo).get? b=some o:=fun b o n e=>yG _ (hx b o n e)
  have tbl:(h'.push fo).get? P=some {cls:=.none,data:=.fields (d8 (ts++[(lpos.line,lpos.col,c')])).toArray }:=by
   rw[i_]
   have:=yG fo htb
   rw[this]
   simp[PySem.W.tabObj]
  have I2:Inv X pins σ (upd H c' (.frz oc (.own P))) {s with heap:=h'.push fo,toks:=tk }:=by
   refine I.step (g':=s.gens) (d':=s.drawn) (ch:=[]) (fun _ z=>nomatch z) (fun b o _ _ _ e n=>up b o (nP b n) e) (fun b o _ _ _ e n=>⟨o.slots,up b o (nP b n) e⟩) (fun b o _ e n=>by rw[aB (lt' b o e)];exact n)
    (fun b o _ e=>?_) (fun b xs e=>by rw[aB (nc b _ e)];exact e) (fun b o u e=>by rw[aB (nc b _ e)];exact e) (fun b ps e=>⟨#[],by rw[aB (nc b _ e),e];simp⟩) (fun m hm=>?_) (fun b u e=>?_) I.bare
   ·by_cases z:b=P
    ·rw[z];exact ⟨_,tbl⟩
    ·exact ⟨o,up b o z e⟩
   ·obtain ⟨o,es,ep,ho,r⟩:=hm
    exact ⟨o,es,ep,up _ o (nP _ I.free) ho,r⟩
   ·by_cases z:b=c'
    ·subst z
     rw[aS] at e
     cases e
     exact ⟨yG _ hoc,⟨oc,yG _ hoc⟩⟩
    ·rw[aB z] at e
     by_cases zP:b=P
     ·subst zP
      rw[hP] at e
      cases e
      refine ⟨_,tbl,fun t ht=>?_⟩
      rcases AY.mp ht with q |q
      ·obtain ⟨oc1,u1,v1,t1,g1,g2⟩:=hts t q
       exact ⟨oc1,u1,v1,t1,by rw[aB (nc _ _ g1)];exact g1,g2⟩
      ·rw[zZ.mp q]
       exact ⟨oc,.own b,vs',t',aS,hdv,hv⟩
     ·refine (I.hok b u e).stay (fun d v hc q=>up d v ?_ q) (fun d q=>by rw[aB (nc d _ q)];exact q) (fun d o' u' q=>by rw[aB (nc d _ q)];exact q) fun d xs q=>by rw[aB (nc d _ q)];exact q
      rcases hc with y |y
      ·rw[y];exact zP
      ·intro y'
       rw[y',hP] at y;cases y
  have ge':s.heap.objs.size≤h'.objs.size:=AH hge (Af hlt)
  refine h h'.objs.size c' _ ctv _ _ I2 (aU fr _) (by rw[hob];exact yR _ (by rw[←hob];rfl)) ⟨oc,_,vs',t',aS,hdv,hv⟩ ?_
  refine I.fpOk ge' ?_
  rw[aB (A4 hlt)]
  exact I.hok.fresh ge'
 ·refine PySem.W.kla_makeFunctionHit (mg:=X.mg) hcl I.ok.glob hg hcode C e0 (gf ts) hhit hB fun ctv h' tk hk hsz=>?_
  obtain ⟨oc1,u1,v1,t1,g1,g2⟩:=hts t ht
  refine h h'.objs.size t.2.2 _ ctv _ H (I.kept (t':=tk) fun d o e=>yG _ (hk d o e)) (.refl H) (yR _ rfl) ⟨oc1,u1,v1,t1,g1,g2⟩ (I.fpOk hsz (I.hok.fresh hsz))
end
abbrev kq (scope:Scope) (q c' L:Addr) (cl:List (Str×Addr)):Env:=PySem.W.envX g_ scope L q (.ref c') cl
def rL (X:Cx) (A:zh) (s:yI) (H:Hp) (scope:Scope) (N:List Str) (q c':Addr) (cl:List (Str×Addr)):Cx where
 prog:=X.prog
 w:=X.w
 K:=X.K
 mg:=X.mg
 base:=X.base
 A:=A.deeper (kq scope q c' s.heap.objs.size cl)
 N:=N
 s₀:=s
 H₀:=H
 env:=kq scope q c' s.heap.objs.size cl
 outer:=X.stack
 stack:=kq scope q c' s.heap.objs.size cl::X.stack
 ex:=[]
 fn:=fun _=>false
 calm:=true
 pn:=[]
 xe:=fun _ _=>False
structure uO (scope:Scope) (y z:Str):Prop where
 kind:scope.kind=.function
 co:scope.isCoroutine=false
 gen:scope.isGenerator=false
 nc:∀x∈scope.names,x.2≠.cell
 lz:scope.names.lookup z=some .local
 ly:scope.names.lookup y=some .free
 only:∀x∈scope.names,x.2=.free→x.1=y
section
variable {X:Cx}{pins:List (Addr×Obj)}{σ:St}{H:Hp}{s:yI}{O:List Addr}
theorem qE {q c' cy:Addr}{y z:Str}{params:Fk}{body:Expr}{scope:Scope}{pm ctv:Value}{iy:Nat}{landU itemU:U}{vy v:V}{u:Value}{ks:List U}
  (hc:X.calm=true) (hdp:X.A.depth < DI) (I:Inv X pins σ H s) (hq:s.heap.get? q=some (EN "<lambda>" g_ params body scope [(y,cy)] pm c' ctv)) (hrec:s.heap.CodeRec (.ref c') g_)
  (hy:X.env.cells.lookup y=some cy) (hi:X.N[iy]?=some y) (hσ:σ[iy]?=some (some vy)) (ky:X.env.scope.names.lookup y=some .cell) (S:uO scope y z) (hyz:y≠z)
  (hb:Ap (G7 "<lambda>" g_ params body scope [(y,cy)] pm (.ref c') ctv) ⟨[u],[]⟩=pure [(z,u)])
  (dO:∀a∈O,H a≠none) (ry:Rp X.K (hid H O) vy landU) (rv:aR v u) (rz:Rp X.K (hid H O) v itemU)
  (he:EvN (rL X X.A.in1 s H scope [y,z] q c' [(y,cy)]) H O [some (.val landU),some (.val itemU)] body ks):
  wpAny (model X.prog X.w) X.A.in1 (call (.ref q) [u]) (fun r s2=>∃kv H2,Inv X pins σ H2 s2∧ax H H2∧aR kv r∧Rp X.K (hid H2 O) kv (.lst ks)) (fun _ _=>False) s:=by
 refine Hm (PySem.W.kla_callFunE hdp hq rfl S.co S.gen rfl hrec ?_)
 rw[hb]
 refine yJ (Dg S.nc (fun x hx=>by rw[zZ.mp hx];exact S.lz) (fun h1 hns hsb=>⟨I.nolimit.fresh _ hsb,?_⟩) S.kind)
 show CA _ _ (.expr body (kq scope q c' s.heap.objs.size [(y,cy)])) _ _
 have kp:∀b o,s.heap.get? b=some o→h1.get? b=some o:=fun b o e=>hsb.extBut b o (zb (yQ e)) (yG _ e)
 have look1:∀{x c},([(y,cy)]:List (Str×Addr)).lookup x=some c→x=y∧c=cy:=fun {x c} e=>by
  rw[zF] at e
  by_cases z:x=y
  ·rw[z,beq_self_eq_true] at e;cases e;exact ⟨z,rfl⟩
  ·rw[beq_eq_false_iff_ne.mpr z] at e;cases e
 have lookY:([(y,cy)]:List (Str×Addr)).lookup y=some cy:=by rw[zF,beq_self_eq_true]
 have e0:=I.env0.in1
 have J:Inv (rL X X.A.in1 s H scope [y,z] q c' [(y,cy)]) [] [some vy,some v] H {s with heap:=h1,toks:=s.toks+[(z,u)].length }:=by
  refine ⟨⟨I.ok.mod,S.kind,rfl,rfl,yO _,fun a b d p1 p2=>(look1 p1).1.trans (look1 p2).1.symm,fun a p=>?_,fun a d p1 _=>(by cases p1),fun _=>I.ok.hd hc,ES e0.frames,.inr ⟨rfl,rfl⟩,fun a p=>(by cases p),I.bs,AH I.ok.bsz I.sz,fun a b _ p=>(by cases p),fun a p=>(by cases p),I.stack,⟨I.stkFree,I.amb⟩⟩,
   rfl,I.bare,Un.kept kp,⟨_,hns,fun j x v' p1 p2 p3=>?_⟩,fun a d p=>?_,I.hok.fresh (yO _),fun a d p=>?_,fun p hp=>(by cases hp),I.hok.kept kp,rfl⟩
  ·have p':scope.names.lookup a=some .cell∨scope.names.lookup a=some .free:=p
   rcases p' with p' |p'
   ·exact absurd rfl (S.nc _ (zL p'))
   ·have:=S.only _ (zL p') rfl
    dsimp only at this
    rw[this];exact ⟨cy,lookY⟩
  ·obtain ⟨m,hn,hl⟩:=I.loc
   match j,p1,p2 with
   |0,p1,p2=>
    cases p1
    cases p2
    obtain ⟨uy,r1,lk⟩:=hl iy y vy hi hσ (.inr (.inl ky))
    refine ⟨uy,r1,.inr ⟨.inr S.ly,cy,lookY,?_⟩⟩
    rcases lk with ⟨k1,_⟩ |⟨_,d,e1,o,ho,hd⟩
    ·have:X.env.scope.names.lookup y=some .local:=k1
     rw[ky] at this;cases this
    ·rw[hy] at e1
     cases e1
     exact ⟨o,kp _ _ ho,hd⟩
   |1,p1,p2=>
    cases p1
    cases p2
    exact ⟨u,rv,.inl ⟨S.lz,by simp⟩⟩
   |j+2,p1,p2=>cases p1
  ·rw[(look1 p).2]
   obtain ⟨v0,o,ho,hd⟩:=I.cell y cy hy
   exact ⟨v0,o,kp _ _ ho,hd⟩
  ·rw[(look1 p).2];exact I.freeC y cy hy
 have Rl:Rs X.K H O [some (.val landU),some (.val itemU)] [some vy,some v] H O:=by
  refine ⟨.refl H,fun a ha=>ha,fun a ha=>.inl ha,dO,rfl,fun j sl p=>?_,fun j k xs ys a p1=>?_⟩
  ·match j,p with
   |0,p=>cases p;exact ⟨vy,rfl,ry⟩
   |1,p=>cases p;exact ⟨v,rfl,rz⟩
   |j+2,p=>cases p
  ·match j,p1 with
   |0,p1=>cases p1
   |1,p1=>cases p1
   |j+2,p1=>cases p1
 refine PySem.W.kla_codeExpr (AQ (he [] _ _ H (fun w H'=>∃a ws,w=.ref a∧ax H H'∧H a=none∧H' a=some (.lst ws)∧Rps X.K (hid H' (a::O)) ws ks) J ⟨O,Rl,fun a ws H' p1 p2 p3 p4=>⟨a,ws,rfl,p1,p2,p3,p4⟩⟩) (fun r s' hr=>?_) fun _ _ hF=>hF.elim)
 obtain ⟨w,H',J',rw',a,ws,rfl,sm,na,ha,rp⟩:=hr
 have nO:a ∉ O:=fun z=>dO a z na
 have less:ax (hid H' (a::O)) (hid H' O):=dN fun b hb=>yM _ hb
 refine ⟨.ref a,H',I.call' (ch:=[]) J'.os J'.base J'.hok J'.bare (fun b z=>(by cases z)),sm,rw',?_⟩
 exact .lst (dg ha nO) (rp.same less).len (rp.same less).at_
end
section
variable {X:Cx}{H0:Hp}{O0:List Addr}{ps:PSt}
theorem sM {e:Expr}{items:List U}{kf:Nat→List P2}{params:Fk}{body:Expr}{scope:Scope}{lpos kpos pos p:Pos}{f c P b cy:Addr}{y z:Str}{iy:Nat}{landU:U}
  (hc:X.calm=true) (hu:X.A.units+10 < cLine) (hdp:X.A.depth < DI) (hg:Gl X "min") (hm:X.mg "min"=none) (T:TbF X.K X.mg f c P b)
  (ha:Ev X H0 O0 ps e (.lst items)) (hne:0 < items.length) (hi:X.N[iy]?=some y) (hps:ps[iy]?=some (some (.val landU))) (hy:X.env.cells.lookup y=some cy) (ky:X.env.scope.names.lookup y=some .cell)
  (hcode:X.env.code=.ref c) (hq:X.env.qual++"<lambda>"=g_) (hcl:DR scope X.env=pure [(y,cy)]) (hdef:defaultsOf params X.env=([],[]))
  (S:uO scope y z) (hyz:y≠z) (hb:∀(u pm ctv:Value) (c':Addr),Ap (G7 "<lambda>" g_ params body scope [(y,cy)] pm (.ref c') ctv) ⟨[u],[]⟩=pure [(z,u)])
  (he:∀(s:yI) (H:Hp) (q c':Addr) (O:List Addr) (j:Nat) (x:U),items[j]?=some x→EvN (rL X X.A.in1 s H scope [y,z] q c' [(y,cy)]) H O [some (.val landU),some (.val x)] body ((kf j).map pu))
  (hs:yW [e] X.env=(false,eval e X.env)::yW [] X.env:=by rfl):
  Ev X H0 O0 ps (.Call (.Name "min" p) [e] [⟨some "key",.Lambda params body scope lpos,kpos⟩] pos) (items.getD (abK kf (items.length - 1)) .non):=by
 rintro pins s σ H Q I ⟨O,R,q⟩
 refine Aw (cQ I hg hm HB ?_)
 refine callWith_kw (thn (ci ha dY hs pos pins s σ H (fun vs H1=>∃v,vs=[v]∧ax H H1∧Rp X.K (hid H1 O) v (.lst items)) I ⟨O,R,fun v H1 s1 r1=>⟨v,rfl,s1,r1⟩⟩) fun us s1 hx=>?_) (by rw[hs];rfl) (by rw[hs];rfl)
 obtain ⟨vs,H1,I1,rv,v,rfl,sm,rp⟩:=hx
 obtain ⟨u,rfl,ru⟩:=gA rv
 cases rp with
 | @lst a ws _ hq1 hwl hwi=>
  cases ru
  obtain ⟨vy,hσ,ry⟩:=R.at_ iy _ hps
  refine kws_cons (rQ I1 T hcode hq hcl hdef fun lq c' pm ctv s2 H2 I2 sm2 gq lr fq=>kws_nil ?_)
  show wpAny _ _ (call (.builtin "min") [.ref a] [(Str.ofString "key",.ref lq)]) _ _ _
  have hl2:SqL X.K H2 a ws:=sm2.seq (aD.seq (SqL.of hq1))
  have wl:0 < ws.length:=by rw[hwl];exact hne
  refine pG (O:=O) (kf:=kf) hc hu I2 hl2 wl fq gq (fun v z=>by cases z) (fun pins' s' H' j v u hpin I' sm' hj ru=>?_) (fun v u s' H' e1 e2 I' sm'=>?_)
  ·have hj':j < ws.length:=aC hj
   have hx:items[j]?=some (items[j]'(by omega)):=yD (by omega)
   have sH:ax H H':=(sm.trans sm2).trans sm'
   have gq':=(I'.pin _ (yS _ hpin)).1
   refine qE hc hdp I' gq' ((lr.same sm').rec I') hy hi hσ ky S hyz (hb u _ _ _) (fun a' ha' z'=>R.dom a' ha' (sH.free z')) (Rp.same (aI sH) ry) ru ((hwi j v _ hj hx).same (aI (sm2.trans sm'))) (he s' H' lq c' O j _ hx)
  ·have hk:abK kf (ws.length - 1) < ws.length:=aC e1
   rw[hwl] at e1 hk
   have hx:items[abK kf (items.length - 1)]?=some (items[abK kf (items.length - 1)]'hk):=yD hk
   refine ⟨v,H',I',e2,q v H' ((sm.trans sm2).trans sm') ?_⟩
   rw[yL,hx]
   exact (hwi _ v _ e1 hx).same (aI (sm2.trans sm'))
end
theorem wk {P:yT}{w:World}{K:yH}{mg:Str→Option Value}{base:Heap}{nm qual:Str}{f:Addr}{N pn:List Str}{st:Stmt}{fd:zG}{k:Nat}{spec:List U→Out→Prop} (F:Fun K nm qual st f fd) (S:aF N pn (af st)) (len:∀us o,spec us o→us.length=pn.length)
  (hbody:∀(A:zh) (outer:List Env) (s:yI) (H:Hp) (E:XK) (O:List Addr) (us:List U) (o:Out),dk k (A.deeper (E3 qual (af st) s.heap.objs.size f fd.code))→spec us o→
   Ws (kW (CXF P w) P w K mg base N qual (af st) f fd.code A outer s H E) H O E (aA st) ⟨fun _=>o=.val .non,fun o'=>o'=o,fun _=>False,fun _=>False⟩ (fc N us)):bD P w K mg base (CXF P w) (k+1) f fd pn (spU K spec):=by
 obtain ⟨oc,od,kV,doc,pm,an,cdv,ct,osl,rfl,lk,hcd⟩:=F.ex
 refine uS lk hcd S (fun vs H Q E h=>?_) fun A outer s H vs Q E hr h=>?_
 ·obtain ⟨us,O,o,_,r,hsp,_⟩:=h
  rw[r.len];exact len us o hsp
 ·obtain ⟨us,O,o,d,r,hsp,q⟩:=h
  refine ⟨_,hbody A outer s H E O us o hr hsp,⟨fun ps σ H' O' R e=>?_,fun _ _ _ _ _ e=>e.elim,fun _ _ _ _ _ e=>e.elim,fun o' e=>by subst e;exact q⟩,O,?_⟩
  ·subst e;exact q .non H' R.same .non
  ·refine ⟨.refl H,fun a h=>h,fun a h=>.inl h,d,?_,fun i sl e=>?_,fun i j xs ys a e1 e2 _ _=>?_⟩
   ·unfold start fc
    rw[zM,zM,yK,yK,By,By,r.len]
   ·unfold fc at e
    by_cases hi:i < us.length
    ·rw[zE (by simpa using hi),yN,yD hi] at e
     cases e
     obtain ⟨v,h1,h2⟩:=r.get (yD hi)
     refine ⟨v,?_,h2⟩
     unfold start
     rw[zE (by simpa [r.len] using hi),yN,h1];rfl
    ·rw[zm (by simpa using hi),Bi] at e
     split at e <;>cases e
   ·exfalso
    unfold fc at e1
    by_cases hi:i < us.length
    ·rw[zE (by simpa using hi),yN,yD hi] at e1
     cases e1
    ·rw[zm (by simpa using hi),Bi] at e1
     split at e1 <;>cases e1
section
variable {K:yH}{tb:Addr}
theorem n4 (ht:K.lookup tb=some jd) {b:Addr}{o:Obj} (h:K.lookup b=some o) (d:∀vs,o.data≠.fields vs):b≠tb:=fun z=>by
 rw[z,ht] at h
 cases h
 exact d _ rfl
theorem av (ht:K.lookup tb=some jd) {f:Addr}{oc:Value}{od:Option Addr}{fd:zG}{sl:Array (Option Value)} (h:K.lookup f=some ⟨oc,od,.func fd,sl⟩):(bP tb K).lookup f=some ⟨oc,od,.func fd,sl⟩:=gg (n4 ht h fun vs z=>by cases z) h
theorem aw (ht:K.lookup tb=some jd) {cd:Value}{q:Str} (h:y3 K cd q=true):y3 (bP tb K) cd q=true:=by
 unfold y3 at *
 cases cd with
 |ref c=>
  dsimp only at *
  by_cases z:c=tb
  ·rw[z,ht] at h
   cases h
  ·rw[dj,if_neg z];exact h
 |_=>exact h
theorem aP {f:Addr}{oc:Value}{od:Option Addr}{fd:zG}{sl:Array (Option Value)} (h:(bP tb K).lookup f=some ⟨oc,od,.func fd,sl⟩):yZ (bP tb K) (.ref f)=true:=by
 unfold yZ
 dsimp only
 rw[h]
theorem uE {c:Addr} (h:As K c tb=true):As (bP tb K) c tb=true:=by
 have n:c≠tb:=by
  unfold As at h
  split at h
  ·simp only[Ac] at h
   intro z
   rw[z] at h
   simp at h
  ·cases h
 unfold As at *
 rw[dj,if_neg n];exact h
end
section
variable {X:Cx}{H0:Hp}{O0:List Addr}{ps:PSt}{e1 e2 e3:Expr}{xs ys:List U}{pos lp:Pos}{k:Int}
theorem tw (h1:EvN X H0 O0 ps e1 xs) (h2:EvN X H0 O0 ps e2 ys) (h3:Ev X H0 O0 ps e3 (.int k)) (hk:k=0∨k=1) (s1:yW [e1,e2] X.env=(false,eval e1 X.env)::yW [e2] X.env) (s2:yW [e2] X.env=(false,eval e2 X.env)::yW [] X.env) (hs:gm e3:=by intro _ _;rfl):
  EvN X H0 O0 ps (.Subscript (.List [e1,e2] lp) e3 pos) (if k=0 then xs else ys):=
 PE.mono (sE km (rC (pos:=lp) (ci h1 (ci h2 dY s2) s1)) h3 hs) fun σ H Q ⟨O,R,q⟩=>by
  refine ⟨O,R,fun a1 v1 H1 m1 n1 g1 r1=>⟨O,R.go m1,fun a2 v2 H2 m2 n2 g2 r2=>⟨show 2≤sizeLine by decide,fun p hp=>?_⟩⟩⟩
  have m3:ax H2 (upd H2 p (.lst [.ref a1,.ref a2])):=aU hp _
  have gp:(upd H2 p (.lst [.ref a1,.ref a2])) p=some (.lst [.ref a1,.ref a2]):=aS
  generalize upd H2 p (.lst [.ref a1,.ref a2])=G at *
  refine ⟨O,((R.go m1).go m2).go m3,fun z H4 m4 r4=>?_⟩
  cases r4
  have mm:ax H1 H4:=(m2.trans m3).trans m4
  rcases hk with e |e <;>subst e
  ·exact ⟨p,_,0,.ref a1,rfl,rfl,SqL.of (m4 _ _ gp),rfl,by
    rw[if_pos rfl] at q
    exact q a1 v1 H4 (m1.trans mm) n1 (mm _ _ g1) (r1.same (aI mm))⟩
  ·have m24:ax H2 H4:=m3.trans m4
   exact ⟨p,_,1,.ref a2,rfl,rfl,SqL.of (m4 _ _ gp),rfl,by
    rw[if_neg (by decide)] at q
    exact q a2 v2 H4 (m1.trans mm) (m1.free n2) (m24 _ _ g2) (r2.same (aI m24))⟩
theorem wV (h1:EvM X H0 O0 ps e1 xs) (h2:EvM X H0 O0 ps e2 ys) (h3:Ev X H0 O0 ps e3 (.int k)) (hk:k=0∨k=1) (s1:yW [e1,e2] X.env=(false,eval e1 X.env)::yW [e2] X.env) (s2:yW [e2] X.env=(false,eval e2 X.env)::yW [] X.env) (hs:gm e3:=by intro _ _;rfl):
  EvM X H0 O0 ps (.Subscript (.List [e1,e2] lp) e3 pos) (if k=0 then xs else ys):=⟨tw h1.ev h2.ev h3 hk s1 s2 hs⟩
end
theorem hd_one {K:yH}{c tb:Addr}{o:Obj} (h:K.lookup c=some o) (k:As [(c,o)] c tb=true):As K c tb=true:=by
 have e:([(c,o)]:yH).lookup c=some o:=by simp[Fb]
 unfold As at *
 rw[h]
 rw[e] at k
 exact k
end L2
namespace L2
open PySem PySem.W PySem.Calls PySem.Spec PyProof.Rows
theorem xU {K:yH}{h:Heap}{tb b:Addr}{ob:Obj} (X:K.In h) (hP:h.get? tb=some jd) (hb:h.get? b=some ob):∃K2:yH,K2.In h∧(∀a o,K.lookup a=some o→K2.lookup a=some o)∧K2.lookup tb=some jd∧K2.lookup b=some ob:=by
 have one:∀(K:yH) (a:Addr) (o:Obj),K.In h→h.get? a=some o→Ih ((a,o)::K) h∧(∀a' o',K.lookup a'=some o'→((a,o)::K).lookup a'=some o')∧((a,o)::K).lookup a=some o:=fun K a o X e=>by
  refine ⟨fun a' o' q=>?_,fun a' o' q=>?_,by simp[Fb]⟩
  ·rw[zF] at q
   by_cases z:a'=a
   ·rw[z] at q ⊢
    simp at q
    rw[←q];exact e
   ·rw[beq_eq_false_iff_ne.mpr z] at q
    exact X _ _ q
  ·rw[zF]
   by_cases z:a'=a
   ·have:=X _ _ q
    rw[z,e] at this
    rw[z];simpa using this
   ·rw[beq_eq_false_iff_ne.mpr z];exact q
 obtain ⟨a1,a2,a3⟩:=one K tb jd X hP
 obtain ⟨b1,b2,b3⟩:=one _ b ob a1 hb
 exact ⟨_,b1,fun a o q=>b2 _ _ (a2 _ _ q),b2 _ _ a3,b3⟩
theorem aE {K K2:yH} (EL:∀a o,K.lookup a=some o→K2.lookup a=some o) {cd:Value}{q:Str} (h:y3 K cd q=true):y3 K2 cd q=true:=by
 unfold y3 at *
 cases cd with
 |ref c=>
  dsimp only at *
  cases hk:K.lookup c with
  |none=>rw[hk] at h;cases h
  |some o=>rw[EL _ _ hk];rw[hk] at h;exact h
 |_=>exact h
def u9 (mg:Str→Option Value) (h:Heap):Prop:=∃bm ob,mg "__builtins__"=some (.ref bm)∧bm≠CQ∧h.get? bm=some ob∧ob.cls=.type "module"∧ob.dict=some CQ∧ob.data=.plain
theorem walk_ofT2 {l:Gp}{n k:Nat}{q:yT}{loose:List Str}{XP:(Str→Option Value)→Heap→Prop}{YP:World→Heap→Prop}{d:DefRec}{K:Params→yH}{ts:List Addr}{CX:CXT}{sp:yH→Sp}{x:Str}
  (hn:l.most=some n) (hn2:n≤sizeLine) (hdf:d.params.defaults=[]) (hr:dk k FD)
  (hY:∀(w:World) (h:Heap),YP w h→(K w.params).In h∧∀P∈ts,h.get? P=some (tabObj #[]))
  (F:∀(w:World) (mg:Str→Option Value) (fa:Addr) (h:Heap),(K w.params).In h→(∀P∈ts,h.get? P=some jd)→u9 mg h→h.Ns yY mg→mg d.name=some (.ref fa)→
   ∃(K2:yH) (f c tb:Addr) (fd:zG),K2.In h∧lO K2 mg f c tb∧(∀(s:yI) (u:Value),E_ s fd ⟨[u],[]⟩ [(x,u)])∧
    ∀base:Heap,(bP tb K2).In base→base.Ns yY mg→bD l.prog w (bP tb K2) mg base CX k fa fd [x] (sp (bP tb K2)))
  (hsp:∀(K:yH) (H:Hp) (a:Addr) (ns:List Int),ns.length≤n→(∀m∈ns,Sz 1048576 m)→SqL K H a (ns.map V.int)→sp K [.ref a] H (fun v _=>v=.bl true) fun _ _ _=>False)
  (hCX:∀(H:Hp) (s:yI) (e:Value) (s':yI),CX [] H s (fun _ _ _=>False) e s'→False):
  Hx q loose XP YP l.row.toRowW d [] (fun f vs=>Ic f vs):=by
 refine kA hn hdf fun w s₀ s₁ mg mb fa o pm cd doc a vs ns G Y ho hd hcd hmg hobj hints hlen hbits hg=>?_
 obtain ⟨KX,TS⟩:=hY w _ Y
 obtain ⟨K2,f,c,tb,fd,X2,TB,hb,hF⟩:=F w mg fa _ KX TS G.T.bmain G.T.g hmg
 exact pB X2 TB G.T.g G.T.b G.T.builtins G.T.nolimit hg hobj hints (AH hlen hn2) hr hF hb (fun H hS=>hsp _ H a ns hlen hbits hS) fun H e s'=>hCX H s₁ e s'
end L2
namespace L2
open PySem PySem.Spec PyProof.Rows
theorem vT {X:Cx}{H0:Hp}{O0:List Addr}{ps:PSt}{e:Expr}{xs ys:List U} (q:xs=ys) (h:EvN X H0 O0 ps e xs):EvN X H0 O0 ps e ys:=q ▸ h
section
variable {X:Cx}{pins:List (Addr×Obj)}{σ:St}{H:Hp}{s:yI}
end
section
variable {X:Cx}{x:U}{xs:List U}
end
section
variable {X:Cx}{H0:Hp}{O0:List Addr}{ps:PSt}{e:Expr}{pts:List P2}{pos pos' p p':Pos}
end
end L2
namespace ST6
open PySem PySem.W PySem.Calls PyProof.Rows ST
section
variable {prog:yT}{w:World}{A:zh}{E:Value→yI→Prop}{s:yI}
def gB:List Int×Addr:=([],0)
theorem kX (pb:PT6):(zS pb.length).map (fun i=>pb.getD i gB)=pb:=by
 apply Gf
 ·simp
 ·intro i h1 h2
  simp at h1
  simp[h1]
theorem ot {a:Addr}{pb:PT6}{n:Nat}{P:Gv→yI→Prop} (ho:s.heap.get? a=some (BW "list" (refs6 pb).toArray n)) (htk:∀p∈pb,TK prog w s.heap p.1 p.2) (hlen:∀p∈pb,p.1.length=6) (hnd:(pb.map (·.1)).Nodup) (h64:pb.length < 64)
  (h:∀pb':PT6,pb'.Perm pb→(pb'.map (·.1)).Pairwise (fun x y=>ltL x y=true)→P (.done (.ret .none)) {s with heap:=sortedHeap s.heap a (refs6 pb) (refs6 pb').toArray }):
  wpAny (model prog w) A (Builtin.«list.sort» ⟨[.ref a],[]⟩) P E s:=by
 have hvl:(refs6 pb).length=pb.length:=by simp
 have hva:(refs6 pb).toArray.size=pb.length:=by simp
 rw[Gw]
 have ha:a < s.heap.objs.size:=yQ ho
 refine yE (listItems_at ho rfl (yE (CI ho rfl ?_ (by rw[hva,Az];omega) (zW _))))
 obtain ⟨e1,ho1⟩:∃e1,(s.heap.update a (Au fun _=>(#[]:Array Value))).get? a=some (BW "list" #[] e1):=⟨_,EK ho (fun _=>#[])⟩
 refine yE (Dt ho1 rfl (yE (E8 ?_ (by show (refs6 pb).length≤_;rw[hvl,Az];omega))))
 refine yE (Dk ?_ (zW _))
 refine Ax ?_
 generalize hh6:((s.heap.update a (Au fun _=>(#[]:Array Value))).push (BW "tuple" (refs6 pb).toArray 0)).push (BW "list" #[] 0)=h6
 have old6:∀b o,b≠a→s.heap.get? b=some o→h6.get? b=some o:=fun b o hb e=>by
  rw[←hh6]
  exact yG _ (yG _ ((zj _ _ (Ne.symm hb)).trans e))
 have ho6:h6.get? a=some (BW "list" #[] e1):=by rw[←hh6];exact yG _ (yG _ ho1)
 have tk6:∀p∈pb,TK prog w h6 p.1 p.2:=fun p hp=>by
  refine TK6.grow (htk p hp) fun b o hc e=>old6 b o (fun z=>?_) e
  rw[z,ho] at e
  cases e
  exact absurd hc (by show ¬ (AD "list"=AD "tuple");decide)
 have fin:∀pb':PT6,pb'.Perm pb→(pb'.map (·.1)).Pairwise (fun x y=>ltL x y=true)→P (.done (.ret .none)) {s with heap:=h6.update a (Au fun _=>(refs6 pb').toArray) }:=fun pb' p1 p2=>by
  rw[←hh6];exact h pb' p1 p2
 show wpAny (model prog w) A _ P E {s with heap:=h6 }
 dsimp only
 by_cases h2:(refs6 pb).toArray.size < 2
 ·rw[if_pos h2,if_pos h2]
  refine yE (yJ ?_)
  rw[StateT.run_pure]
  refine yE (yJ ?_)
  dsimp only
  have eout:(arrOf (SortSt.mk' general' ((refs6 pb).toArray.zip (refs6 pb).toArray) #[] 7 none)).map (·.2)=(refs6 pb).toArray:=by
   show (((refs6 pb).toArray.zip (refs6 pb).toArray)).map (·.2)=_
   apply Eg.mp
   have zip2:∀l:List Value,(l.zip l).map (·.2)=l:=fun l=>by
    induction l with
    |nil=>rfl
    |cons x r ih=>rw[B1,Aa,ih]
   rw[Eh,Gg]
   exact zip2 _
  rw[eout]
  refine yE (Dt ho6 rfl (yE (CI ho6 rfl ?_ (zW _) (by rw[hva,Az];omega))))
  show wpAny _ _ (if (e1 !=e1)=true then _ else _) _ _ _
  rw[if_neg (by simp)]
  refine yJ (fin pb (E6 _) ?_)
  match pb,hva,h2 with
  |[],_,_=>simp
  |[_],_,_=>simp
  |_::_::r,hva,h2=>rw[hva] at h2;exact absurd h2 (by simp)
 ·rw[if_neg h2,if_neg h2]
  rw[hva] at h2
  have h2':2≤(refs6 pb).length:=by rw[hvl];omega
  refine yE (rM (s:={s with heap:=h6 }) hlen tk6 (by omega) ?_)
  have inj:∀i j,i < pb.length→j < pb.length→i≠j→(pb.getD i gB).1≠(pb.getD j gB).1:=fun i j hi hj hij e=>by
   refine hij ((Dc (xs:=pb.map (·.1)) (h₀:=by simpa using hi) (h₁:=by simpa using hj) hnd).mp ?_)
   simpa [hi,hj] using e
  have O:LtO pb.length (fun i j=>ltL (pb.getD i gB).1 (pb.getD j gB).1):=⟨fun i j k=>ltL_tr,fun i j hi hj hij=>ltL_tot (inj i j hi hj hij),fun i j=>ltL_asy⟩
  obtain ⟨p,R,PP',S⟩:=lD O (by omega)
  have hcmp:∀i j C,i < pb.length→j < pb.length→C (ltL (pb.getD i gB).1 (pb.getD j gB).1) {s with heap:=h6 }→kas_ask prog w A (tuples' true) (refs6 pb) i j C {s with heap:=h6 }:=fun i j C hi hj c=>by
   unfold kas_ask
   have ei:(refs6 pb).getD i zl=.ref (pb.getD i gB).2:=by simp[hi]
   have ej:(refs6 pb).getD j zl=.ref (pb.getD j gB).2:=by simp[hj]
   rw[ei,ej]
   have mi:pb.getD i gB∈pb:=by simp[hi]
   have mj:pb.getD j gB∈pb:=by simp[hj]
   exact wE (s:={s with heap:=h6 }) (hlen _ mi) (hlen _ mj) (tk6 _ mi) (tk6 _ mj) c
  have tree:(kas_sort (refs6 pb).length).kasWp (kas_ask prog w A (tuples' true) (refs6 pb)) (fun p' s'=>p'=p∧s'={s with heap:=h6 }) {s with heap:=h6 }:=by
   rw[hvl]
   exact R.wp hcmp ⟨rfl,rfl⟩
  refine yE (AQ (kat_run (Q:=fun st' s'=>s'={s with heap:=h6 }∧failedOf st'=none∧(arrOf st').map (·.2)=FU (p.toList.map fun i=>(refs6 pb).getD i zl)) rfl h2' (by rw[hvl];exact h64) (fun p' st' s' _ a2 a3 a4=>?_) tree) ?_ fun _ _ e=>e)
  ·obtain ⟨rfl,rfl⟩:=a4
   exact ⟨rfl,a3,kat_snds rfl a2⟩
  ·rintro ⟨⟨⟩,st'⟩ s' ⟨rfl,hf,hout⟩
   dsimp only
   rw[hout]
   have hlt:∀i∈p.toList,i < pb.length:=fun i hi=>zK.mp (PP'.perm.mem_iff.mp hi)
   have er:(p.toList.map fun i=>(refs6 pb).getD i zl)=refs6 (p.toList.map fun i=>pb.getD i gB):=by
    unfold refs6
    rw[zX]
    refine Fe fun i hi=>?_
    have:=hlt i hi
    simp[this]
   rw[er]
   have hperm:(p.toList.map fun i=>pb.getD i gB).Perm pb:=by
    refine (PP'.perm.map _).trans ?_
    rw[kX]
   have hs2:(refs6 (p.toList.map fun i=>pb.getD i gB)).toArray.size=pb.length:=by simp[PP'.size]
   refine yE (Dt ho6 rfl (yE (CI ho6 rfl ?_ (zW _) (by rw[hs2,Az];omega))))
   rw[hf]
   show wpAny _ _ (if (e1 !=e1)=true then _ else _) _ _ _
   rw[if_neg (by simp)]
   refine yJ (fin _ hperm ?_)
   rw[zX,Av,zg]
   intro i j hi hj hij
   have hj':j < pb.length:=by rw[y4,PP'.size] at hj;exact hj
   have q:=S i j hij hj'
   have ei:g p i=p.toList[i]:=by simp[g,A9,PP'.size,show i < pb.length by omega]
   have ej:g p j=p.toList[j]:=by simp[g,A9,PP'.size,hj']
   rw[ei,ej] at q
   exact q
theorem call_sorted6S {l:Addr}{pb:PT6}{Q:Value→yI→Prop} (hl:s.heap.IsList l (refs6 pb).toArray) (htk:∀p∈pb,TK prog w s.heap p.1 p.2) (hlen:∀p∈pb,p.1.length=6) (hnd:(pb.map (·.1)).Nodup) (h64:pb.length < 64)
  (h:∀(h1 h':Heap) (tk:Nat) (pb':PT6) (e:Nat),pb'.Perm pb→(pb'.map (·.1)).Pairwise (fun x y=>ltL x y=true)→(∀c o,s.heap.get? c=some o→h1.get? c=some o)→(∀c o,h1.get? c=some o→h'.get? c=some o)→h'.get? h1.objs.size=some (BW "list" (refs6 pb').toArray e)→Q (.ref h1.objs.size) {s with heap:=h',toks:=tk }):
  wpAny (model prog w) A (call (.builtin "sorted") [.ref l]) Q E s:=by
 have hrl:(refs6 pb).length=pb.length:=by simp
 refine Calls.call_function_entry kind_sorted plain_sorted entry_sorted (args_sorted1 _) ?_
 unfold Builtin.«sorted»
 refine yE (m:=checkCount "sorted" 1 1 _) (yJ ?_)
 refine yE (collect_list hl ?_ (by rw[hrl,Az];omega))
 refine yE (Dk ?_ (by rw[hrl,Az];omega))
 generalize hg:(s.heap.push (BW "list" #[] 0)).update s.heap.objs.size (Au (·++(refs6 pb).toArray))=h1
 have keep:∀c o,s.heap.get? c=some o→h1.get? c=some o:=fun c o e=>by
  rw[←hg,zj _ _ (A4 (yQ e))]
  exact yG _ e
 have hD:(h1.push {cls:=.type "list",data:=.seq (refs6 pb).toArray }).get? h1.objs.size=some (BW "list" (refs6 pb).toArray 0):=yR _ rfl
 have up:∀p∈pb,TK prog w (h1.push {cls:=.type "list",data:=.seq (refs6 pb).toArray }) p.1 p.2:=fun p hp=>by
  exact TK6.grow (htk p hp) fun b o _ e=>yG _ (keep _ _ e)
 refine yE (Ax (AM G4 ⟨_,hD,rfl⟩ Gy ?_ (G5 _)))
 refine ot (s:={s with heap:=h1.push {cls:=.type "list",data:=.seq (refs6 pb).toArray } }) hD up hlen hnd h64 fun pb' pp so=>⟨_,rfl,yJ ⟨_,rfl,?_⟩⟩
 obtain ⟨e,eD⟩:=sortedHeap_at (out:=(refs6 pb').toArray) hD
 refine h h1 _ s.toks pb' e pp so keep (fun c o hb=>?_) eD
 have hlt:=yQ hb
 rw[G6 (zb hlt) (by rw[z9];exact AE hlt)]
 exact yG _ hb
end
end ST6
namespace L2
open PySem PySem.Spec PyProof.Rows
section
variable {X:Cx}{H0:Hp}{O0:List Addr}{ps:PSt}{e:Expr}{trs:List (List Int)}{pos p:Pos}
theorem pW (hg:Gl X "sorted") (hm:X.mg "sorted"=none) (ha:Ev X H0 O0 ps e (.lst (trs.map sxU))) (hl:trs.length < 64∧trs.Nodup∧∀k∈trs,k.length=6)
  (he:yW [e] X.env=(false,eval e X.env)::yW [] X.env:=by rfl):EvN X H0 O0 ps (.Call (.Name "sorted" p) [e] [] pos) ((ST6.srtL trs).map sxU):=by
 obtain ⟨hl,hn,h6⟩:=hl
 rintro pins s σ H Q I ⟨O,R,q⟩
 refine Aw (cQ I hg hm boot_sorted ?_)
 refine callWith_builtin1 (e:=e) (rest:=[]) (thn (ci ha dY he pos pins s σ H (fun vs H1=>∃v,vs=[v]∧ax H H1∧Rp X.K (hid H1 O) v (.lst (trs.map sxU))) I ⟨O,R,fun v H1 s1 r1=>⟨v,rfl,s1,r1⟩⟩) fun us s1 hx=>?_) he rfl
 obtain ⟨vs,H1,I1,rv,v,rfl,sm,rp⟩:=hx
 obtain ⟨u,rfl,ru⟩:=gA rv
 cases rp with
 | @lst a ws _ hq hwl hwi=>
  cases ru
  obtain ⟨its,rw',pl,hz⟩:=I1.list (SqL.of (aD _ _ hq))
  have hlp:ws.length=trs.length:=by rw[hwl,yK]
  have hil:its.length=trs.length:=by rw[←rw'.length,hlp]
  have item:∀i,i < trs.length→∃b,its[i]?=some (.ref b)∧Rp X.K (hid H1 O) (.ref b) (sxU (trs.getD i ([]:List Int)))∧ST.TK X.prog X.w s1.heap (trs.getD i ([]:List Int)) b:=fun i hi=>by
   have hw:ws[i]?=some ws[i]:=yD (by omega)
   have hp:(trs.map sxU)[i]?=some (sxU (trs.getD i ([]:List Int))):=by rw[yN,yD hi];simp[hi]
   have r:=hwi i _ _ hw hp
   obtain ⟨u',e1,e2⟩:=rw'.get hw
   generalize ws[i]=z at *
   generalize trs.getD i ([]:List Int)=g at *
   cases r with
   | @tup b zs _ hs hsl hsi=>
    cases e2
    refine ⟨b,e1,Rp.tup hs hsl hsi,?_⟩
    obtain ⟨jts,rj,ht,_⟩:=I1.tuple (by exact aD.tup hs)
    obtain ⟨o,ho,hoc,n,hod⟩:=ht
    refine ⟨o,_,n,ho,hoc,hod,?_⟩
    have key:∀(g:List Int) (zs:List V) (jts:List Value),zs.length=g.length→(∀(i:Nat) (v:V) (x:U),zs[i]?=some v→(g.map U.int)[i]?=some x→Rp X.K (hid H1 O) v x)→aN zs jts→ItemsAre (Bc X.prog X.w) g jts:=fun g=>by
     induction g with
     |nil=>intro zs jts hl _ rj;cases zs with |nil=>cases rj;exact .nil |cons a r=>simp at hl
     |cons a g ih=>
      intro zs jts hl hi rj
      cases zs with
      |nil=>simp at hl
      |cons z zs=>
       cases rj with
       |cons r1 rj=>
        have q:=hi 0 z _ rfl rfl
        cases q
        obtain ⟨t,rfl⟩:=r1
        exact .cons (Aj _ _ _ _) (ih zs _ (by simpa using hl) (fun i v x e1 e2=>hi (i+1) v x e1 e2) rj)
    have hh:=key g zs jts (by simpa using hsl) hsi rj
    simpa using hh
  let ad:Nat→Addr:=fun i=>match its[i]? with |some (.ref b)=>b |_=>0
  have adE:∀i,i < trs.length→its[i]?=some (.ref (ad i))∧Rp X.K (hid H1 O) (.ref (ad i)) (sxU (trs.getD i ([]:List Int)))∧ST.TK X.prog X.w s1.heap (trs.getD i ([]:List Int)) (ad i):=fun i hi=>by
   obtain ⟨b,e1,e2,e3⟩:=item i hi
   have:ad i=b:=by show (match its[i]? with |some (.ref b)=>b |_=>0)=b;rw[e1]
   rw[this];exact ⟨e1,e2,e3⟩
  generalize ad=ad' at adE
  clear ad
  generalize hpb:((zS trs.length).map fun i=>((trs.getD i ([]:List Int),ad' i):List Int×Addr))=pb
  have hits:its=ST6.refs6 pb:=by
   apply BO
   intro i
   rw[←hpb]
   unfold ST6.refs6
   rcases AV i trs.length with z |z
   ·rw[(adE i z).1];simp[z]
   ·rw[zN (by omega),zN (by simpa using z)]
  have h1p:pb.map (·.1)=trs:=by
   rw[←hpb,zX]
   apply BO
   intro i
   rcases AV i trs.length with z |z
   ·simp[z]
   ·rw[zN (by simpa using z),zN z]
  have srcb:∀z∈pb,∃j,j < trs.length∧z=(trs.getD j ([]:List Int),ad' j):=fun z hz=>by
   rw[←hpb] at hz
   obtain ⟨j,hj,rfl⟩:=y8.mp hz
   exact ⟨j,zK.mp hj,rfl⟩
  have hbl:pb.length=trs.length:=by rw[←h1p,yK]
  rw[hits] at pl
  refine ST6.call_sorted6S (pb:=pb) pl.isList (fun z hz=>?_) (fun z hz=>?_) (by rw[h1p];exact hn) (by omega) fun h3 h4 tk2 pb' ep pm so k1 k2 hD=>?_
  ·obtain ⟨j,hj,rfl⟩:=srcb z hz
   exact (adE j hj).2.2
  ·obtain ⟨j,hj,rfl⟩:=srcb z hz
   refine h6 _ ?_
   show trs.getD j ([]:List Int)∈trs
   rw[yL,yD hj]
   exact Cm hj
  ·have I3:Inv X pins σ H1 {s1 with heap:=h3,toks:=tk2 }:=I1.kept (t':=tk2) k1
   have src:∀z∈pb',∃j,j < trs.length∧z=(trs.getD j ([]:List Int),ad' j):=fun z hz=>srcb z (pm.mem_iff.mp hz)
   have etrs:pb'.map (·.1)=ST6.srtL trs:=by
    refine ST6.ascL_one so (ST6.srtL_ascL trs) fun z=>?_
    rw[ST6.srtL_mem,(pm.map (·.1)).mem_iff,h1p]
   have fr:H1 h3.objs.size=none:=I3.hok.fresh (yO _)
   refine ⟨.ref h3.objs.size,upd H1 h3.objs.size (.lst (pb'.map fun z=>V.ref z.2)),?_,rfl,?_⟩
   ·refine I3.laid (t':=tk2) k2 (yO _) ⟨?_,(ST6.refs6 pb'),ep,?_,hD⟩
    ·rw[yK,pm.length_eq,hbl,Az]
     omega
    ·have all:∀l:ST6.PT6,aN (l.map fun z=>V.ref z.2) (ST6.refs6 l):=fun l=>by
      induction l with
      |nil=>exact .nil
      |cons z r ih=>exact .cons rfl ih
     exact all pb'
   ·refine q _ _ _ (sm.trans (aU fr _)) (sm.free fr) aS ⟨?_,fun i z x e1 e2=>?_⟩
    ·rw[yK,←etrs,yK,yK]
    ·rw[←etrs,zX,yN] at e2
     rw[yN] at e1
     cases hpi:pb'[i]? with
     |none=>rw[hpi] at e1;cases e1
     |some y=>
      rw[hpi] at e1 e2
      cases e1
      cases e2
      obtain ⟨j,hj,rfl⟩:=src y (zi hpi)
      exact (adE j hj).2.1.same (bJ (aU fr _) fr)
end
section
variable {X:Cx}{H0:Hp}{O0:List Addr}{ps:PSt}{e k1 k2 k3:Expr}{x:U}{xs:List U}{pos pos' p p' p2:Pos}{a b c:Int}
end
abbrev bi (X:Cx) (scope:Scope) (cl:List (Str×Addr)) (C:Addr) (s:yI) (H:Hp) (fp:List Addr):Cx:={aG X scope (Am (C+1) scope.names cl) C s H fp with fn:=fun x=>scope.names.contains (x,NameKind.cell) }
structure eO (X:Cx) (scope:Scope) (cl:List (Str×Addr)) (is:List Nat):Prop where
 clos:DR scope X.env=pure cl
 kind:scope.kind=.function
 names:∀y∈scope.names,y.2=.local→scope.names.lookup y.1=some .local
 cls:∀x c,cl.lookup x=some c→X.env.cells.lookup x=some c
 free:∀x,((relabel scope X.env).names.lookup x=some .cell∨(relabel scope X.env).names.lookup x=some .free)→(x,NameKind.cell)∈scope.names∨(Vis X.env.scope x∧X.env.scope.names.lookup x≠some .local∧∃c,cl.lookup x=some c)
 own:∀i x,X.N[i]?=some x→((relabel scope X.env).names.lookup x=some .local∨(x,NameKind.cell)∈scope.names)→i∈is
theorem mh:∀(names:List (Str×BF)) (n:Nat) (acc:List (Str×Addr)),(∀x y c,acc.lookup x=some c→acc.lookup y=some c→x=y)→(∀x c,acc.lookup x=some c→c < n)→∀x y c,(Am n names acc).lookup x=some c→(Am n names acc).lookup y=some c→x=y
 |[],_,_,hi,_,x,y,c,h1,h2=>hi x y c h1 h2
 | (nm,k)::r,n,acc,hi,hb,x,y,c,h1,h2=>by
  unfold Am at h1 h2
  split at h1
  ·rename_i hk
   rw[if_pos hk] at h2
   refine mh r (n+1) _ (fun x y c e1 e2=>?_) (fun x c e=>?_) x y c h1 h2
   ·rw[zF] at e1 e2
    cases hx:x==nm <;>cases hy:y==nm <;>rw[hx] at e1 <;>rw[hy] at e2
    ·exact hi x y c e1 e2
    ·cases e2;exact absurd (hb x _ e1) (zO _)
    ·cases e1;exact absurd (hb y _ e2) (zO _)
    ·rw[beq_iff_eq.mp hx,beq_iff_eq.mp hy]
   ·rw[zF] at e
    cases hx:x==nm <;>rw[hx] at e
    ·exact AE (hb x c e)
    ·cases e;exact Bf _
  ·rename_i hk
   rw[if_neg hk] at h2
   exact mh r n acc hi hb x y c h1 h2
theorem jY:∀(names:List (Str×BF)) (n:Nat) (acc:List (Str×Addr)) (x:Str) (c:Addr),(Am n names acc).lookup x=some c→acc.lookup x=some c∨n≤c
 |[],_,_,x,c,h=>.inl h
 | (nm,k)::r,n,acc,x,c,h=>by
  unfold Am at h
  split at h
  ·rcases jY r (n+1) _ x c h with z |z
   ·rw[zF] at z
    cases hx:x==nm <;>rw[hx] at z
    ·exact .inl z
    ·cases z;exact .inr (yO _)
   ·exact .inr (by omega)
  ·exact jY r n acc x c h
theorem fg:∀(names:List (Str×BF)) (n:Nat) (acc:List (Str×Addr)) (x:Str),(x,NameKind.cell) ∉ names→(Am n names acc).lookup x=acc.lookup x
 |[],_,_,x,_=>rfl
 | (nm,k)::r,n,acc,x,h=>by
  unfold Am
  split
  ·rename_i hk
   rw[fg r _ _ x fun z=>h (yM _ z),zF]
   have:(x==nm)=false:=beq_eq_false_iff_ne.mpr fun e=>h (by rw[e,←beq_iff_eq.mp hk];exact yV)
   rw[this]
  ·exact fg r _ _ x fun z=>h (yM _ z)
theorem mX:∀(names:List (Str×BF)) (n:Nat) (acc:List (Str×Addr)) (x:Str) (c:Addr),((x,NameKind.cell)∈names∨∀c,acc.lookup x=some c→n≤c)→(Am n names acc).lookup x=some c→n≤c
 |[],_,_,x,c,h,e=>by
  rcases h with h |h
  ·cases h
  ·exact h c e
 | (nm,k)::r,n,acc,x,c,h,e=>by
  by_cases hm:(x,NameKind.cell)∈r
  ·unfold Am at e
   split at e
   ·exact DX (mX r (n+1) _ x c (.inl hm) e)
   ·exact mX r n acc x c (.inl hm) e
  ·have e2:(Am n ((nm,k)::r) acc).lookup x=some c:=e
   unfold Am at e2
   split at e2
   ·rw[fg r _ _ x hm,zF] at e2
    cases hx:x==nm <;>rw[hx] at e2
    ·rcases h with h |h
     ·rcases yP.mp h with z |z
      ·cases z;simp at hx
      ·exact absurd z hm
     ·exact h c e2
    ·cases e2;exact yO _
   ·rename_i hk
    rw[fg r _ _ x hm] at e2
    rcases h with h |h
    ·rcases yP.mp h with z |z
     ·cases z;exact absurd rfl hk
     ·exact absurd z hm
    ·exact h c e2
theorem mM:∀(names:List (Str×BF)) (n:Nat) (acc:List (Str×Addr)) (x:Str),((x,NameKind.cell)∈names∨∃c,acc.lookup x=some c)→∃c,(Am n names acc).lookup x=some c
 |[],_,_,x,h=>by
  rcases h with h |h
  ·cases h
  ·exact h
 | (nm,k)::r,n,acc,x,h=>by
  unfold Am
  split
  ·refine mM r _ _ x ?_
   rcases h with h |⟨c,h⟩
   ·rcases yP.mp h with e |e
    ·cases e;right;exact ⟨n,by rw[zF];simp⟩
    ·exact .inl e
   ·right
    rw[zF]
    cases x==nm
    ·exact ⟨c,h⟩
    ·exact ⟨_,rfl⟩
  ·rename_i hk
   refine mM r _ _ x ?_
   rcases h with h |h
   ·rcases yP.mp h with e |e
    ·cases e;exact absurd rfl hk
    ·exact .inl e
   ·exact .inr h
theorem kl:∀(names:List (Str×BF)) (h:Heap) (acc:List (Str×Addr)),(∀x c,acc.lookup x=some c→∃v,h.IsCell c v)→∀x c,(Am h.objs.size names acc).lookup x=some c→∃v,(pushCells h names).IsCell c v
 |[],h,acc,ha,x,c,e=>ha x c e
 | (nm,k)::r,h,acc,ha,x,c,e=>by
  unfold Am at e
  unfold pushCells
  split at e
  ·rename_i hk
   rw[if_pos hk]
   have:=kl r (h.push {cls:=.type "cell",data:=.cell none }) ((nm,h.objs.size)::acc) (fun x c e=>by
    rw[zF] at e
    cases hx:x==nm <;>rw[hx] at e
    ·obtain ⟨v,z⟩:=ha x c e
     exact ⟨v,z.keeps fun b o e=>yG _ e⟩
    ·cases e;exact ⟨none,_,yR _ rfl,rfl⟩) x c
   rw[z9] at this
   exact this e
  ·rename_i hk
   rw[if_neg hk]
   exact kl r h acc ha x c e
section
variable {M:Model}{A:zh}{E:Value→yI→Prop}{s:yI}
theorem tM {scope:Scope}{cl:List (Str×Addr)}{globals:Addr}{qual:Str}{env:Env}{Q:Env→yI→Prop}
  (hQ:∀h₁:Heap,h₁.Ns s.heap.objs.size (fun _=>none)→(∀b o,s.heap.get? b=some o→h₁.get? b=some o)→(∀h:(∀x c,cl.lookup x=some c→∃v,s.heap.IsCell c v),∀x c,(Am (s.heap.objs.size+1) scope.names cl).lookup x=some c→∃v,h₁.IsCell c v)→
   Q (newEnv scope s.heap.objs.size globals (Am (s.heap.objs.size+1) scope.names cl) qual none .none (some env) CQ) {s with heap:=h₁ }):
  wpAny M A (G8 scope globals cl [] qual none .none (some env)) Q E s:=by
 simp only[G8,Option.isSome_some,if_true]
 refine yE (wpAny_alloc ?_)
 refine yE (wpAny_layCells _ (fun name kind cells=>by cases hkc:kind==NameKind.cell <;>simp[hkc]) _ _ _ _ ?_)
 have sz:({s with heap:=s.heap.push {cls:=.type "dict",data:=.dict #[] } }:yI).heap.objs.size=s.heap.objs.size+1:=z9 ..
 rw[sz]
 refine yE ?_
 rw[C4]
 refine yJ (yJ ?_)
 refine hQ _ ((Heap.Ns.new s.heap (.type "dict")).keeps (GE _ _)) (fun b o e=>GE _ _ b o (yG _ e)) fun ha x c e=>?_
 have:=kl scope.names (s.heap.push {cls:=.type "dict",data:=.dict #[] }) cl (fun x c e=>(ha x c e).imp fun v z=>z.keeps fun b o e=>yG _ e) x c
 rw[z9] at this
 exact this e
end
section
variable {X:Cx}{pins:List (Addr×Obj)}{σ:St}{H:Hp}{s:yI}
theorem j3 {scope:Scope}{cl:List (Str×Addr)}{is:List Nat}{fp:List Addr}{h₁:Heap}{m:Str→Option Value}{t':Nat} (I:Inv X pins σ H s) (B:eO X scope cl is) (hf:∀b∈fp,cR X pins H b) (hfl:∀b∈fp,b < s.heap.objs.size)
  (hn:h₁.Ns s.heap.objs.size m) (hk:∀b o,s.heap.get? b=some o→h₁.get? b=some o) (hcl:∀h:(∀x c,cl.lookup x=some c→∃v,s.heap.IsCell c v),∀x c,(Am (s.heap.objs.size+1) scope.names cl).lookup x=some c→∃v,h₁.IsCell c v):
  Inv (bi X scope cl s.heap.objs.size s H fp) [] (mask is σ) H {s with heap:=h₁,toks:=t' }:=by
 have oldc:∀x c,cl.lookup x=some c→∃v,s.heap.IsCell c v:=fun x c e=>I.cell x c (B.cls x c e)
 have lt:∀x c,cl.lookup x=some c→c < s.heap.objs.size+1:=fun x c e=>let ⟨_,z⟩:=oldc x c e;AE z.lt
 have lk:=jY scope.names (s.heap.objs.size+1) cl
 refine ⟨⟨I.ok.mod,B.kind,I.ok.glob,I.ok.blt,yO _,mh _ _ _ (fun x y c h1 h2=>I.ok.inj x y c (B.cls x c h1) (B.cls y c h2)) lt,fun x hx=>?_,fun x c h e=>DX (mX _ _ _ x c (.inl (Bz.mp h)) e),I.ok.hd,I.ok.frames,.inl rfl,fun b hb=>⟨zb (hfl b hb),fun x c e=>?_⟩,
  I.bs,AH I.ok.bsz I.sz,fun b o e hb=>?_,fun b hb z=>?_,I.stack,⟨I.stkFree,I.amb⟩⟩,rfl,I.bare,Un.kept hk,⟨m,hn,fun i x v h1 h2 h3=>?_⟩,hcl oldc,I.hok.fresh (yO _),fun x c e=>?_,fun p hp=>absurd (show p∈([]:List (Addr×Obj)) from hp) (by simp),I.hok.kept hk,?_⟩
 ·refine mM _ _ _ x ?_
  rcases B.free x hx with z |z
  ·exact .inl z
  ·exact .inr z.2.2
 ·rcases lk x c e with z |z
  ·exact (hf b hb).2.2.2.2.1 x c (B.cls x c z)
  ·exact A4 (za (hfl b hb) (DX z))
 ·rcases (hf b hb).2.2.2.1 with z |z
  ·exact I.ok.noex b o e z
  ·exact absurd (za (yQ e) (AH I.ok.bsz z)) (zO _)
 ·rcases yP.mp (I.stkSub b z) with e |e
  ·exact (hf b hb).2.1 e
  ·exact (hf b hb).2.2.1 e
 ·obtain ⟨e2,ni⟩:=eR is σ i v h2
  have h3':(relabel scope X.env).names.lookup x=some .local∨(relabel scope X.env).names.lookup x=some .cell∨(relabel scope X.env).names.lookup x=some .free:=h3
  have nown:(x,NameKind.cell) ∉ scope.names:=fun z=>ni (B.own i x h1 (.inr z))
  rcases h3' with z |z
  ·exact absurd (B.own i x h1 (.inl z)) ni
  ·rcases B.free x z with w |⟨hv,hnl,c,hc⟩
   ·exact absurd w nown
   ·obtain ⟨m0,_,hl⟩:=I.loc
    obtain ⟨u,r,l⟩:=hl i x v h1 e2 hv
    refine ⟨u,r,.inr ⟨z,c,(fg _ _ _ x nown).trans hc,?_⟩⟩
    rcases l with ⟨k,_⟩ |⟨_,c',hc',o,ho,hd⟩
    ·exact absurd k hnl
    ·have ec:=B.cls x c hc
     rw[hc'] at ec
     cases ec
     exact ⟨o,hk _ _ ho,hd⟩
 ·rcases lk x c e with z |z
  ·exact I.freeC x c (B.cls x c z)
  ·exact I.hok.fresh (by omega)
 ·show (mask is σ).length=X.N.length
  rw[cM];exact I.len
theorem oN {elt iter tg:Expr}{scope:Scope}{cl:List (Str×Addr)}{pos pos0:Pos}{is:List Nat}{wi:TI}{g:TG}{te:TE}{use:Option (Value→Sem Unit)}{Q0:VK}{Q:Value→yI→Prop} (hc:X.calm=true) (B:eO X scope cl is)
  (hi:PI X tg iter wi) (hg:∀C s H fp,PG (bi X scope cl C s H fp) tg g) (he:∀C s H fp,PE (bi X scope cl C s H fp) elt te) (hs:∀x,Ab iter X.env x=pure x)
  (I:Inv X pins σ H s) (h:nK is wi g te σ H Q0)
  (fin:∀(l C:Addr) (H':Hp) (s':yI) (m:Str→Option Value),Inv X pins σ H' s'→s'.heap.Ns C m→H' C=none→C≠X.env.locals→C ∉ X.fs→X.s₀.heap.objs.size≤C→(∀x c,X.env.cells.lookup x=some c→c≠C)→(∀p∈X.pn++pins,p.1≠C)→Q0 (.ref l) H'→
   Fp (model X.prog X.w) X.A X.xe use Q (.ref l) C (.ok .next) s'):
  wpAny (model X.prog X.w) X.A (comprehension (.ListComp elt [⟨tg,iter,[],0⟩] scope pos) scope X.env pos0 (newList []) false (eval iter X.env) use) Q X.xe s:=by
 refine Cv rfl hs B.clos B.kind B.names (thn (hi pins s σ H _ I h) fun xv s1 h1=>thn h1 fun itv s2 h2=>?_)
 obtain ⟨it,fp,tn,J,H2,e,I2,T,st2,f2,R⟩:=h2
 subst e
 refine A7 (tM fun h₁ hns kp0 hcl=>?_)
 have hl:H2 s2.heap.objs.size=none:=I2.hok.fresh (yO _)
 obtain ⟨W,⟨m0,w0⟩,turn⟩:=R s2.heap.objs.size hl
 have I3:Inv X pins σ (upd H2 s2.heap.objs.size (.lst [])) {s2 with heap:=s2.heap.push {cls:=.type "list",dict:=none,data:=.seq ([]:List Value).toArray } }:=
  I2.laid (t':=s2.toks) (o:=.lst []) (fun b u e=>yG _ e) (yO _) ⟨zW _,[],0,.nil,yR _ rfl⟩
 have hfl:∀b∈fp,b < s2.heap.objs.size:=fun b hb=>let ⟨o,e,_⟩:=T.obj 0 _ st2 b hb;yQ e
 have f3:∀b∈fp,cR X pins (upd H2 s2.heap.objs.size (.lst [])) b:=fun b hb=>⟨by rw[aB (zb (hfl b hb))];exact (f2 b hb).1,(f2 b hb).2⟩
 have kp:=kp0
 have st4:tn 0 h₁:=T.keep 0 _ _ st2 fun b _ o e=>kp b o (yG _ e)
 have hfl3:∀b∈fp,b < (s2.heap.push {cls:=.type "list",dict:=none,data:=.seq ([]:List Value).toArray }).objs.size:=fun b hb=>by
  rw[z9];exact AE (hfl b hb)
 have I4:=j3 (t':=s2.toks) I3 B f3 hfl3 hns kp hcl
 have loop:CA (model X.prog X.w) X.A (.compLoop (.ListComp elt [⟨tg,iter,[],0⟩] scope pos) 0 (.ref it) (.ref s2.heap.objs.size) (Di scope (Am ((s2.heap.push {cls:=.type "list",dict:=none,data:=.seq ([]:List Value).toArray }).objs.size+1) scope.names cl) (s2.heap.push {cls:=.type "list",dict:=none,data:=.seq ([]:List Value).toArray }).objs.size X.env))
   (Fp (model X.prog X.w) X.A X.xe use Q (.ref s2.heap.objs.size) (s2.heap.push {cls:=.type "list",dict:=none,data:=.seq ([]:List Value).toArray }).objs.size)
   {s2 with heap:=h₁,toks:=s2.toks }:=by
  generalize hs3:({s2 with heap:=s2.heap.push {cls:=.type "list",dict:=none,data:=.seq ([]:List Value).toArray } }:yI)=s3 at *
  have hC:(s2.heap.push {cls:=.type "list",dict:=none,data:=.seq ([]:List Value).toArray }).objs.size=s3.heap.objs.size:=by rw[←hs3]
  rw[hC]
  have hstat:∀{H':Hp},(∀b∈fp,H' b=none)→∀b∈fp,cR (bi X scope cl s3.heap.objs.size s3 (upd H2 s2.heap.objs.size (.lst [])) fp) [] H' b:=fun hn b hb=>
   ⟨hn b hb,(I4.ok.exf b hb).1,I4.ok.exfs b hb,.inl hb,fun x c e=>(I4.ok.exf b hb).2 x c e,fun p hp=>absurd (show p∈([]:List (Addr×Obj)) from hp) (by simp)⟩
  have back:∀{σ':St}{H':Hp}{pp:List (Addr×Obj)}{s':yI},Inv (bi X scope cl s3.heap.objs.size s3 (upd H2 s2.heap.objs.size (.lst [])) fp) pp σ' H' s'→Inv X pins σ H' s':=fun I'=>
   I3.call' (ch:=fp) I'.os I'.base I'.hok I'.bare fun b hb=>⟨(f3 b hb).2.2.2.1,(f3 b hb).2.1,(f3 b hb).2.2.2.2.1,(f3 b hb).2.2.2.2.2⟩
  refine FR rfl (fun n s'=>∃i H',Inv (bi X scope cl s3.heap.objs.size s3 (upd H2 s2.heap.objs.size (.lst [])) fp) [] (mask is σ) H' s'∧tn i s'.heap∧(∀b∈fp,H' b=none)∧W i n H') ?_ m0 ⟨0,_,(by subst hs3;exact I4),st4,fun b hb=>(f3 b hb).1,w0⟩
  rintro n s5 ⟨i,H5,I5,st5,fr5,w5⟩
  show wpAny _ _ ((compTurn (.ListComp elt [⟨tg,iter,[],0⟩] scope pos) 0 (.ref it) (.ref s2.heap.objs.size) (Di scope (Am (s3.heap.objs.size+1) scope.names cl) s3.heap.objs.size X.env)).onRaise (fun x=>do HG x (Di scope (Am (s3.heap.objs.size+1) scope.names cl) s3.heap.objs.size X.env);EB x)) _ _ s5
  refine Gq ?_
  rw[GV]
  refine yE (D5 (yE ?_))
  rcases turn i n H5 w5 with ⟨stop,q⟩ |⟨go,step⟩
  ·refine thn (T.done (bi X scope cl s3.heap.objs.size s3 (upd H2 s2.heap.objs.size (.lst [])) fp) rfl rfl rfl hc i [] s5 _ H5 _ I5 (hstat fr5) st5 stop) fun r s6 ⟨hr,I6⟩=>?_
   subst hr
   refine yJ ?_
   obtain ⟨m6,hn6,_⟩:=I6.loc
   have hCn:∀b,b < s3.heap.objs.size→b≠s3.heap.objs.size:=fun b hb=>zb hb
   refine fin _ s3.heap.objs.size H5 s6 m6 (back I6) hn6 I6.free (A4 I3.lt) (I3.nofs (yO _)) I3.sz (fun x c e=>?_) (fun p hp=>?_) q
   ·obtain ⟨v,z⟩:=I3.cell x c e
    exact zb z.lt
   ·exact zb (yQ (I3.pin p hp).1)
  ·refine thn (T.item (bi X scope cl s3.heap.objs.size s3 (upd H2 s2.heap.objs.size (.lst [])) fp) rfl rfl rfl hc i [] s5 _ H5 _ I5 (hstat fr5) st5 go) fun r s6 ⟨u,hr,h6⟩=>?_
   subst hr
   refine yE (thn h6 fun _ s7 ⟨x,H7,I7,r7,y7,st7,fr7⟩=>?_)
   have I7':=I7.pinned (hstat fr7) (T.obj _ _ st7)
   refine yE (AQ (hg _ _ _ _ _ s7 (mask is σ) H7 x u _ I7' r7 (step x H7 y7)) (fun _ s8 ⟨σ8,H8,I8,q8⟩=>?_) fun _ _ z=>z.elim)
   refine yE (yE (AQ (he _ _ _ _ _ s8 σ8 H8 _ I8 q8) (fun v s9 ⟨y,H9,I9,r9,sub,vs,hl9,hz,m',hm,w'⟩=>?_) fun _ _ z=>z.elim))
   refine yE (AQ (fF (X:=bi X scope cl s3.heap.objs.size s3 (upd H2 s2.heap.objs.size (.lst [])) fp) _ s9 σ8 H9 (.ref s2.heap.objs.size) [y] (.ref s2.heap.objs.size) [v] (fun _ H'=>H'=upd H9 s2.heap.objs.size (.lst (vs++[y]))) I9 rfl (.cons r9 .nil) ⟨_,vs,y,rfl,rfl,hl9,hz,rfl⟩) (fun z s10 ⟨zv,H10,I10,_,e10⟩=>?_) fun _ _ z=>z.elim)
   subst e10
   refine yJ (yJ ⟨rfl,m',hm,i+1,_,(I10.unpinned (pins:=[])).weak (by rw[I10.len,cM,I.len]) sub,T.keep _ _ _ st7 fun b hb o e=>(I10.pin (b,o) (yS _ (yS _ (bq hb e)))).1,fun b hb=>?_,w'⟩)
   obtain ⟨o,e,d⟩:=T.obj _ _ st7 b hb
   exact (I10.pin (b,o) (yS _ (yS _ (bq hb e)))).2.1
 exact CM loop (T.self X.A 0 _ _ _ st4 loop)
theorem p7 {elt iter tg:Expr}{scope:Scope}{cl:List (Str×Addr)}{pos:Pos}{is:List Nat}{wi:TI}{g:TG}{te:TE} (hc:X.calm=true) (B:eO X scope cl is)
  (hi:PI X tg iter wi) (hg:∀C s H fp,PG (bi X scope cl C s H fp) tg g) (he:∀C s H fp,PE (bi X scope cl C s H fp) elt te) (hs:∀x,Ab iter X.env x=pure x:=by intro _;rfl):
  PE X (.ListComp elt [⟨tg,iter,[],0⟩] scope pos) (nK is wi g te):=by
 intro pins s σ H Q I h
 rw[Fq]
 refine oN (use:=none) hc B hi hg he hs I h fun l C H' s' m I' hn h1 h2 h3 h4 h5 h6 q=>⟨m,hn,fun h' hsb=>?_⟩
 exact ⟨.ref l,H',I'.turned (t':=s'.toks) (fun b o hb e=>hsb.extBut b o hb e) h1 (Ne.symm h2.symm) (.inr h4) h5 h6,rfl,q⟩
end
section
variable {X:Cx}
end
section
variable {X:Cx}{H0:Hp}{O0:List Addr}{E:XK}{ps ps':PSt}{D:PD}{s:Stmt}{ss body:List Stmt}{a b c e tg iter:Expr}{es:List Expr}{pos p:Pos}{u x y:U}{xs ys us:List U}{k:Bool}
theorem tR {elt:Expr}{scope:Scope}{cl:List (Str×Addr)}{is:List Nat}{g:TG}{f:PSt→U→PSt}{dom:U→Prop} (hc:X.calm=true) (B:eO X scope cl is) (hi:EvI X H0 O0 ps tg iter xs) (hg:∀C s H fp,PG (bi X scope cl C s H fp) tg g) (gk:GOk g X.K is f dom)
  (hlen:ys.length=xs.length) (hz:xs.length≤sizeLine) (hdom:∀x∈xs,dom x) (he:∀C s H fp (i:Nat) (x y:U),xs[i]?=some x→ys[i]?=some y→Ev (bi X scope cl C s H fp) H0 O0 (f (dM is ps) x) elt y)
  (hs:∀x,Ab iter X.env x=pure x:=by intro _;rfl):EvN X H0 O0 ps (.ListComp elt [⟨tg,iter,[],0⟩] scope pos) ys:=by
 have hte:∀C s H fp,PE (bi X scope cl C s H fp) elt fun σ H Q=>∃i x y,xs[i]?=some x∧ys[i]?=some y∧∃O',Rs X.K H0 O0 (f (dM is ps) x) σ H O'∧∀v H',ax H H'→Rp X.K (hid H' O') v y→Q v H':=
  fun C s H fp pins s' σ H' Q I ⟨i,x,y,h1,h2,z⟩=>he C s H fp i x y h1 h2 pins s' σ H' Q I z
 refine PE.mono (p7 hc B hi hg hte hs) fun σ H Q ⟨O,R,q⟩=>⟨O,R,fun J H1 s1 Y=>?_⟩
 exact jo gk (R.go s1) Y hlen hz hdom (fun i x y σ H O' Q h1 h2 R' z=>⟨i,x,y,h1,h2,O',R',z⟩) fun a vs H' s n h r=>q a vs H' (s1.trans s) (s1.free n) h r
end
def nW (scope fscope:Scope) (N:List Str) (is:List Nat):Bool:=
 scope.names.all (fun y=>y.2 !=.local ||scope.names.lookup y.1==some .local) && scope.names.all (fun y=>y.2 !=.free ||fscope.names.lookup y.1==some .cell) &&
  (zS N.length).all fun i=>match N[i]? with |some x=>(scope.names.lookup x !=some .local && !scope.names.contains (x,.cell)) ||is.contains i |none=>true
theorem yc {X:Cx}{scope:Scope} (fscope:Scope) (N:List Str) (is:List Nat) (hNN:X.N=N) (hs:X.env.scope=fscope) (hcs:X.env.cells=Am (X.env.locals+1) fscope.names []) (hk:scope.kind=.function) (h:nW scope fscope N is=true):eO X scope (goC X.env.cells scope.names []) is:=by
 subst hNN
 unfold nW at h
 simp only[Ac,Ck] at h
 obtain ⟨⟨h2,h3⟩,h4⟩:=h
 have f1:∀y∈scope.names,y.2=.free→fscope.names.lookup y.1=some .cell:=fun y hy e=>by
  have:=h3 y hy
  simp only[Bn,bne_iff_ne,ne_eq,beq_iff_eq] at this
  exact this.resolve_left fun z=>z e
 have f2:∀y∈scope.names,y.2=.free→(X.env.cells.lookup y.1).isSome=true:=fun y hy e=>by
  rw[hcs];exact Bs _ _ _ (.inl (f1 y hy e))
 have fr:∀x,(x,NameKind.free)∈scope.names→Vis X.env.scope x∧X.env.scope.names.lookup x≠some .local∧∃c,(goC X.env.cells scope.names []).lookup x=some c:=fun x hf=>by
  have hc:=f1 _ hf rfl
  exact ⟨.inr (.inl (by rw[hs];exact hc)),(by rw[hs,show fscope.names.lookup x=some .cell from hc];intro z;cases z),iq _ _ (.inl hf)⟩
 refine ⟨fY f2,hk,fun y hy e=>?_,ir _ _ f2 (fun x c e=>by simp at e),fun x hx=>?_,fun i x hi hl=>?_⟩
 ·have:=h2 y hy
  simp only[Bn,bne_iff_ne,ne_eq,beq_iff_eq] at this
  exact this.resolve_left fun z=>z e
 ·rcases hx with hx |hx
  ·rcases aV hx with z |⟨_,z⟩
   ·exact .inl (zL z)
   ·exact .inr (fr x (zL z))
  ·rcases aV hx with z |⟨z,_⟩
   ·exact .inr (fr x (zL z))
   ·cases z
 ·have hi':i < X.N.length:=(yU.mp hi).1
  have:=h4 i (zK.mpr hi')
  rw[hi] at this
  simp only[Bn,Ac,bne_iff_ne,ne_eq,Bool.not_eq_true',Bz] at this
  rcases this with ⟨z1,z2⟩ |z
  ·exfalso
   rcases hl with hl |hl
   ·rcases aV hl with w |⟨w,_⟩
    ·exact z1 w
    ·cases w
   ·have:scope.names.contains (x,NameKind.cell)=true:=Bz.mpr hl
    rw[z2] at this;cases this
  ·exact z
def nM (scope mid fscope:Scope) (N:List Str) (is:List Nat):Bool:=
 scope.names.all (fun y=>y.2 !=.cell) && scope.names.all (fun y=>y.2 !=.local ||scope.names.lookup y.1==some .local) && scope.names.all (fun y=>y.2 !=.free ||mid.names.lookup y.1==some .cell) &&
  (zS N.length).all fun i=>match N[i]? with |some x=>scope.names.lookup x !=some .local ||is.contains i |none=>true
theorem nG {env:Env}{x:Str}:∀{names:List (Str×BF)},names.lookup x=some .cell→(names.map fun (n,k)=>if (k==NameKind.free && env.scope.kind==.function && env.kindOf n==some .cell) then (n,NameKind.cell) else (n,k)).lookup x=some .cell
 |[],h=>by simp at h
 | (n,k)::r,h=>by
  have ih:=@nG env x r
  show Fb x ((if (k==NameKind.free && env.scope.kind==.function && env.kindOf n==some .cell)=true then (n,NameKind.cell) else (n,k))::_)=_
  rw[zF] at h
  by_cases hc:(k==NameKind.free && env.scope.kind==.function && env.kindOf n==some .cell)=true
  ·rw[if_pos hc,zF]
   cases hx:x==n with
   |true=>rfl
   |false=>rw[hx] at h;exact ih h
  ·rw[if_neg hc,zF]
   cases hx:x==n with
   |true=>rw[hx] at h;exact h
   |false=>rw[hx] at h;exact ih h
theorem yg {X:Cx}{mid scope:Scope}{cl:List (Str×Addr)}{C:Addr}{s:yI}{H:Hp}{fp:List Addr} (fscope:Scope) (N:List Str) (is:List Nat) (hNN:X.N=N) (hk:scope.kind=.function) (h:nM scope mid fscope N is=true):cU (bi X mid cl C s H fp) scope (goC (Am (C+1) mid.names cl) scope.names []) is:=by
 subst hNN
 unfold nM at h
 simp only[Ac,Ck] at h
 obtain ⟨⟨⟨h1,h2⟩,h3⟩,h4⟩:=h
 have f1:∀y∈scope.names,y.2=.free→mid.names.lookup y.1=some .cell:=fun y hy e=>by
  have:=h3 y hy
  simp only[Bn,bne_iff_ne,ne_eq,beq_iff_eq] at this
  exact this.resolve_left fun z=>z e
 have f2:∀y∈scope.names,y.2=.free→((bi X mid cl C s H fp).env.cells.lookup y.1).isSome=true:=fun y hy e=>Bs _ _ _ (.inl (f1 y hy e))
 have nc:∀y∈scope.names,y.2≠.cell:=fun y hy=>by have:=h1 y hy;simpa using this
 refine ⟨fY f2,nc,hk,fun y hy e=>?_,ir _ _ f2 (fun x c e=>by simp at e),fun x hx=>?_,fun i x hi hl=>?_⟩
 ·have:=h2 y hy
  simp only[Bn,bne_iff_ne,ne_eq,beq_iff_eq] at this
  exact this.resolve_left fun z=>z e
 ·have hf:(x,NameKind.free)∈scope.names:=by
   rcases hx with hx |hx
   ·rcases aV hx with z |⟨_,z⟩
    ·exact absurd rfl (nc _ (zL z))
    ·exact zL z
   ·rcases aV hx with z |⟨z,_⟩
    ·exact zL z
    ·cases z
  have hc:(bi X mid cl C s H fp).env.scope.names.lookup x=some .cell:=nG (f1 _ hf rfl)
  exact ⟨.inr (.inl hc),(by rw[hc];intro z;cases z),iq _ _ (.inl hf)⟩
 ·have hi':i < X.N.length:=(yU.mp hi).1
  have:=h4 i (zK.mpr hi')
  rw[show X.N[i]?=some x from hi] at this
  have hl':scope.names.lookup x=some .local:=by
   rcases aV hl with z |⟨z,_⟩
   ·exact z
   ·cases z
  simp only[hl',bne_self_eq_false,Hy,Bz] at this
  exact this
theorem lR {α:Type}{lt:α→α→Bool} (irr:∀a,lt a a=false) (tr:∀a b c,lt a b=true→lt b c=true→lt a c=true) (f:Nat→α):∀k,CJ (fun i j=>lt (f i) (f j)) k≤k∧∀j,j≤k→lt (f j) (f (CJ (fun i j=>lt (f i) (f j)) k))=false
 |0=>⟨yO _,fun j hj=>by
  obtain rfl:j=0:=by omega
  exact irr _⟩
 |k+1=>by
  obtain ⟨h1,h2⟩:=lR irr tr f k
  by_cases hb:lt (f (k+1)) (f (CJ (fun i j=>lt (f i) (f j)) k))=true
  ·rw[CJ,if_pos hb]
   refine ⟨yO _,fun j hj=>?_⟩
   rcases AV j (k+1) with z |z
   ·cases q:lt (f j) (f (k+1)) with
    |false=>rfl
    |true=>
     have:=h2 j (by omega)
     rw[tr _ _ _ q hb] at this;cases this
   ·obtain rfl:j=k+1:=by omega
    exact irr _
  ·rw[CJ,if_neg hb]
   refine ⟨by omega,fun j hj=>?_⟩
   rcases AV j (k+1) with z |z
   ·exact h2 j (by omega)
   ·obtain rfl:j=k+1:=by omega
    simpa using hb
section
variable {X:Cx}
theorem pZ {α:Type}{xs:List α}{M:α} (d:α) (uf:α→U) (lt:α→α→Bool) (irr:∀a,lt a a=false) (tr:∀a b c,lt a b=true→lt b c=true→lt a c=true) (one:∀a b,lt a b=false→lt b a=false→a=b)
  (F:Heap→α→Value→Prop) (mono:∀(h h':Heap) (a:α) (y:Value),F h a y→(∀b o,h.get? b=some o→h'.get? b=some o)→F h' a y)
  (get:∀(pins:List (Addr×Obj)) (σ:List (Option V)) (H:Hp) (s:yI) (a:α) (v:V) (y:Value),a∈xs→Inv X pins σ H s→Rp X.K H v (uf a)→aR v y→F s.heap a y)
  (cmp:∀(s':yI) (Q:Value→yI→Prop) (E:Value→yI→Prop) (a b:α) (y z:Value),a∈xs→b∈xs→F s'.heap a y→F s'.heap b z→Q (.bool (lt a b)) s'→wpAny (model X.prog X.w) X.A.in1 (B5 .Lt y z) Q E s')
  (hc:X.calm=true) (hM:M∈xs) (hL:∀q∈xs,lt q M=false):fK X (.builtin "min") [.lst (xs.map uf)] (uf M):=by
 intro pins s σ H vs us Q I r hq
 obtain ⟨O,dm,rs,q⟩:=hq
 obtain ⟨v,rfl,h1⟩:=dX rs
 obtain ⟨p1,rfl,r1⟩:=gA r
 cases h1 with
 | @lst a ws _ hq hl hh=>
  cases r1
  obtain ⟨its,rv,pl,_⟩:=I.list (SqL.of (aD _ _ hq))
  have rs':Rps X.K (hid H O) ws (xs.map uf):=⟨hl,hh⟩
  have hwl:ws.length=xs.length:=by rw[hl,yK]
  have hlen:its.toArray.size=xs.length:=by rw[y_,←rv.length,hwl]
  have mapA:∀{g:Nat},g < xs.length→(xs.map uf)[g]?=some (uf (xs.getD g d)):=fun {g} hg=>by rw[yN,yD hg];simp[hg]
  have memA:∀{g:Nat},g < xs.length→xs.getD g d∈xs:=fun {g} hg=>by simp[hg]
  have hat:∀(i:Nat) (y:Value),its.toArray[i]?=some y→i < xs.length∧F s.heap (xs.getD i d) y∧∃w,ws[i]?=some w∧aR w y:=fun i y hy=>by
   have hy':its[i]?=some y:=by simpa using hy
   have hi:i < xs.length:=by have:=aC hy';rw[←hwl,rv.length];exact this
   obtain ⟨u,e1,e2⟩:=rv.get (yD (show i < ws.length by omega))
   rw[hy'] at e1
   cases e1
   exact ⟨hi,get _ _ _ _ _ _ _ (memA hi) I ((rs'.same aD).at_ i _ _ (yD (show i < ws.length by omega)) (mapA hi)) e2,_,yD (show i < ws.length by omega),e2⟩
  have hn:0 < xs.length:=Bu hM
  refine ST.call_minG (G:=fun h=>∀(i:Nat) (y:Value),its.toArray[i]?=some y→F h (xs.getD i d) y) (bt:=fun i j=>lt (xs.getD i d) (xs.getD j d)) (I.ok.hd hc) pl.isList (by rw[hlen];exact hn) (fun i j vi vj s' Q' E' g hi hj k=>?_) (fun i y hy=>(hat i y hy).2.1) (fun h h' _ _ k2 i y hy=>mono _ _ _ _ (hat i y hy).2.1 k2) fun y h' tk hy kp=>?_
  ·exact cmp s' Q' E' _ _ _ _ (memA (hat i vi hi).1) (memA (hat j vj hj).1) (g i vi hi) (g j vj hj) k
  ·obtain ⟨hg,_,w,hw,rw'⟩:=hat _ y hy
   obtain ⟨b1,b2⟩:=lR irr tr (fun i=>xs.getD i d) (its.toArray.size - 1)
   have e:xs.getD (CJ (fun i j=>lt (xs.getD i d) (xs.getD j d)) (its.toArray.size - 1)) d=M:=by
    rw[hlen] at b1 b2 hg ⊢
    generalize CJ (fun i j=>lt (xs.getD i d) (xs.getD j d)) (xs.length - 1)=g at *
    obtain ⟨j,hj⟩:=AU.mp hM
    have k1:=b2 j (by have:=aC hj;omega)
    rw[show xs.getD j d=M by rw[yL,hj];rfl] at k1
    exact one _ _ (hL _ (memA hg)) k1
   refine ⟨w,H,I.kept (t':=tk) kp,rw',q _ H (.refl H) ?_⟩
   have z:=rs'.at_ _ _ _ hw (mapA hg)
   rw[e] at z
   exact z
theorem TK.keeps {prog:yT}{w:World}{h h':Heap}{k:List Int}{b:Addr} (t:ST.TK prog w h k b) (e:∀b o,h.get? b=some o→h'.get? b=some o):ST.TK prog w h' k b:=by
 obtain ⟨o,its,n,ho,z⟩:=t
 exact ⟨o,its,n,e _ _ ho,z⟩
theorem vR {xs:List (List Int)}{M:List Int} (hc:X.calm=true) (hu:X.A.units+10 < cLine) (h6:∀k∈xs,k.length=6) (hM:M∈xs) (hL:∀q∈xs,ST6.ltL q M=false):fK X (.builtin "min") [.lst (xs.map sxU)] (sxU M):=
 pZ [] sxU ST6.ltL ST6.ltL_irr (fun _ _ _ h k=>ST6.ltL_tr h k) (fun a b h k=>by
   by_cases e:a=b
   ·exact e
   ·rw[ST6.ltL_tot e h] at k;cases k) (fun h k y=>∃b,y=.ref b∧ST.TK X.prog X.w h k b)
  (fun h h' a y ⟨b,e,t⟩ k=>⟨b,e,TK.keeps t k⟩) (fun pins σ H s a v y _ I r e=>v9 I r e)
  (fun s' Q E a b y z ha hb ⟨x1,e1,t1⟩ ⟨x2,e2,t2⟩ k=>by
   subst e1 e2
   exact ST6.lt_sixR (h6 a ha) (h6 b hb) (show X.A.units+1 < cLine by omega) t1 t2 k) hc hM hL
def LTk (X:Cx) (h:Heap) (l:List P2) (u:Value):Prop:=∃a its,u=.ref a∧h.IsList a its∧its.size=l.length∧∀(j:Nat) (h1:j < its.size) (h2:j < l.length),∃b,its[j]=.ref b∧ST.TK X.prog X.w h [l[j].1,l[j].2] b
theorem wP {A:zh}{E:Value→yI→Prop}{s:yI}{l m:List P2}{u z:Value}{Q:Value→yI→Prop} (hu:A.units+4 < cLine) (t1:LTk X s.heap l u) (t2:LTk X s.heap m z) (h:Q (.bool (ST.ltLs l m)) s):wpAny (model X.prog X.w) A (B5 .Lt u z) Q E s:=by
 obtain ⟨a,its,rfl,h1,n1,k1⟩:=t1
 obtain ⟨b,jts,rfl,h2,n2,k2⟩:=t2
 refine ST.lt_lists (e:=fun j=>decide (l.getD j (0,0)=m.getD j (0,0))) (r:=fun j=>ST.ltP (l.getD j (0,0)) (m.getD j (0,0))) h1 h2 (by omega) (fun j q1 q2=>?_) (fun j q1 q2 _=>?_) ?_
 ·obtain ⟨x,ex,tx⟩:=k1 j q1 (by omega)
  obtain ⟨y,ey,ty⟩:=k2 j q2 (by omega)
  rw[ex,ey]
  have g1:l.getD j (0,0)=l[j]'(by omega):=by rw[yL,yD (by omega)];rfl
  have g2:m.getD j (0,0)=m[j]'(by omega):=by rw[yL,yD (by omega)];rfl
  have:=ST.eqAt_pts (A:=A.in1) (show A.in1.units < cLine by simp[FN];omega) tx ty
  rw[g1,g2]
  have e:decide (l[j]'(by omega)=m[j]'(by omega))=decide ([(l[j]'(by omega)).1,(l[j]'(by omega)).2]=[(m[j]'(by omega)).1,(m[j]'(by omega)).2]):=by
   rw[Bd];simp[HK]
  rw[e];exact this
 ·obtain ⟨x,ex,tx⟩:=k1 j q1 (by omega)
  obtain ⟨y,ey,ty⟩:=k2 j q2 (by omega)
  rw[ex,ey]
  have g1:l.getD j (0,0)=l[j]'(by omega):=by rw[yL,yD (by omega)];rfl
  have g2:m.getD j (0,0)=m[j]'(by omega):=by rw[yL,yD (by omega)];rfl
  rw[g1,g2]
  exact ST.ltAt_pts (A:=A.in1) (show A.in1.units < cLine by simp[FN];omega) tx ty
 ·rw[n1,n2,ST.lexB_pts l m 0 _ _ (fun j q1 q2=>?_) (by omega) (by omega)]
  ·exact h
  ·have g1:l.getD j (0,0)=l[j]:=by rw[yL,yD q1];rfl
   have g2:m.getD j (0,0)=m[j]:=by rw[yL,yD q2];rfl
   rw[show 0+j=j by omega,g1,g2];exact ⟨rfl,rfl⟩
theorem tL {xs:List (List P2)}{M:List P2} (irr:∀a,ST.ltLs a a=false) (tr:∀a b c,ST.ltLs a b=true→ST.ltLs b c=true→ST.ltLs a c=true) (one:∀a b,ST.ltLs a b=false→ST.ltLs b a=false→a=b) (hc:X.calm=true) (hu:X.A.units+10 < cLine) (hM:M∈xs) (hL:∀q∈xs,ST.ltLs q M=false):fK X (.builtin "min") [.lst (xs.map lp)] (lp M):=
 pZ [] lp ST.ltLs irr tr one (LTk X)
  (fun h h' a y ⟨c,its,e,hl,n,k⟩ e'=>⟨c,its,e,let ⟨o,ho,z⟩:=hl;⟨o,e' _ _ ho,z⟩,n,fun j h1 h2=>let ⟨b,e1,t⟩:=k j h1 h2;⟨b,e1,TK.keeps t e'⟩⟩) (fun pins σ H s a v y _ I r e=>iU I r e)
  (fun s' Q E a b y z _ _ t1 t2 k=>wP (show X.A.units+1+4 < cLine by omega) t1 t2 k) hc hM hL
end
end L2
local macro_rules | `(tactic|walk_at "sz")=>`(tactic|first |with_reducible assumption | ((with_reducible apply L2.Sz.sub') <;>walk_at "sz") | ((with_reducible apply L2.Sz.add') <;>walk_at "sz") | ((with_reducible apply L2.Sz.mul) <;>walk_at "sz") | ((with_reducible apply L2.Sz.neg) <;>walk_at "sz") | ((with_reducible apply L2.Sz.ediv) <;>walk_at "sz") | ((with_reducible apply L2.Sz.abs) <;>walk_at "sz") |exact L2.Sz.lit (m:=8) (by decide) |exact L2.Sz.emod (m:=250) (by decide) (by decide) |exact L2.Sz.lit (m:=250) (by decide))
local macro_rules | `(tactic|walk_at "mul")=>`(tactic|exact L2.Sz.ok (by walk_at "sz") (by walk_at "sz") (by decide))
local macro_rules | `(tactic|walk_at "div")=>`(tactic|first |exact ⟨by decide,L2.Sz.mono (m:=250) (by decide) (by decide)⟩ |exact ⟨by omega,L2.Sz.mono (by walk_at "sz") (by decide)⟩)
local macro_rules | `(tactic|walk_at "mod")=>`(tactic|first |decide |omega)
local macro_rules | `(tactic|walk_at "szb")=>`(tactic|exact L2.Sz.mono (by walk_at "sz") (by decide))
local macro_rules | `(tactic|walk_at "kit")=>`(tactic|first |exact L2.kit_int_int _ |exact L2.kit_int_bool _ |exact L2.kit_tuple_tuple _ |exact L2.kit_list_list _ |exact L2.kit_bool_int _ |exact L2.kit_list_tuple _ |rfl)
local macro_rules | `(tactic|walk_at "ok")=>`(tactic|first |rfl |decide)
local macro_rules | `(tactic|walk_at "sub")=>`(tactic|first |exact trivial | (refine ⟨rfl,?_⟩;walk_at "sub") | (with_reducible apply L2.SubP.skip;walk_at "sub"))
local macro_rules | `(tactic|walk_at "len")=>`(tactic|first |decide | (simp only[List.length_append,List.length_cons,List.length_nil,List.length_map];decide))
namespace My
open PySem PySem.Spec PyProof.Rows L2
def top (i:Nat):Stmt:=PySem.Challenge.pw_stakefield_k53_form_by_stands.main.body.getD i (.Pass ⟨0,0,0,0⟩)
abbrev cC:Stmt:=top 6
abbrev gF:Stmt:=top 7
abbrev dL:Stmt:=top 8
abbrev gU:Stmt:=top 10
abbrev cB:Stmt:=top 11
abbrev ck:Stmt:=top 12
abbrev dB:Stmt:=top 13
abbrev fE:Stmt:=top 14
abbrev dH:Stmt:=top 15
abbrev fu:Stmt:=top 16
abbrev fB:Stmt:=top 17
abbrev gZ:Stmt:=top 19
abbrev bX:Stmt:=top 20
abbrev fv:Stmt:=top 21
abbrev bH:Stmt:=top 22
abbrev fD:Stmt:=top 24
abbrev dJ:Stmt:=top 25
abbrev cZ:Stmt:=top 26
abbrev gQ:Stmt:=top 27
abbrev bL:Stmt:=top 29
abbrev bZ:Stmt:=top 30
abbrev bY:Stmt:=top 31
abbrev bN:Stmt:=top 32
abbrev cm:Stmt:=top 33
abbrev cA:Stmt:=top 34
abbrev bo:Stmt:=top 35
abbrev cY:Stmt:=top 36
abbrev fQ:Stmt:=top 37
theorem kL:aF ["thing"] ["thing"] (af cC):=⟨rfl,rfl,rfl,by decide+kernel,rfl,by decide+kernel,by decide+kernel⟩
theorem uA:aF ["number"] ["number"] (af gF):=⟨rfl,rfl,rfl,by decide+kernel,rfl,by decide+kernel,by decide+kernel⟩
theorem bA:aF ["a","b","high","high_times","low","low_times","fits","rest","rest_times","s"] ["a","b"] (af dL):=⟨rfl,rfl,rfl,by decide+kernel,rfl,by decide+kernel,by decide+kernel⟩
theorem uH:aF ["move"] ["move"] (af gU):=⟨rfl,rfl,rfl,by decide+kernel,rfl,by decide+kernel,by decide+kernel⟩
theorem iT:aF ["thing","number"] ["thing"] (af cB):=⟨rfl,rfl,rfl,by decide+kernel,rfl,by decide+kernel,by decide+kernel⟩
theorem jS:aF ["thing"] ["thing"] (af ck):=⟨rfl,rfl,rfl,by decide+kernel,rfl,by decide+kernel,by decide+kernel⟩
theorem oA:aF ["P","move"] ["P","move"] (af dB):=⟨rfl,rfl,rfl,by decide+kernel,rfl,by decide+kernel,by decide+kernel⟩
theorem lm:aF ["P","move","place"] ["P","move"] (af fE):=⟨rfl,rfl,rfl,by decide+kernel,rfl,by decide+kernel,by decide+kernel⟩
theorem fG:aF ["first","second","right","up","origin"] ["first","second"] (af dH):=⟨rfl,rfl,rfl,by decide+kernel,rfl,by decide+kernel,by decide+kernel⟩
theorem qY:aF ["P","Q"] ["P","Q"] (af fu):=⟨rfl,rfl,rfl,by decide+kernel,rfl,by decide+kernel,by decide+kernel⟩
theorem di:aF ["P","Q","far","u","v","parts","s","t"] ["P","Q"] (af fB):=⟨rfl,rfl,rfl,by decide+kernel,rfl,by decide+kernel,by decide+kernel⟩
theorem tX:aF ["P","Q","R"] ["P","Q","R"] (af gZ):=⟨rfl,rfl,rfl,by decide+kernel,rfl,by decide+kernel,by decide+kernel⟩
theorem dz:aF ["row","kept","P"] ["row"] (af bX):=⟨rfl,rfl,rfl,by decide+kernel,rfl,by decide+kernel,by decide+kernel⟩
theorem fi:aF ["points","row","there","back"] ["points"] (af fv):=⟨rfl,rfl,rfl,by decide+kernel,rfl,by decide+kernel,by decide+kernel⟩
theorem eL:aF ["land","move","P"] ["land","move"] (af bH):=⟨rfl,rfl,rfl,by decide+kernel,rfl,by decide+kernel,by decide+kernel⟩
theorem ff:aF ["corner","along","aside","move","place"] ["corner","along","aside"] (af fD):=⟨rfl,rfl,rfl,by decide+kernel,rfl,by decide+kernel,by decide+kernel⟩
theorem dE:aF ["land","found","before","corner","after"] ["land"] (af dJ):=⟨rfl,rfl,rfl,by decide+kernel,rfl,by decide+kernel,by decide+kernel⟩
theorem mR:aF ["land"] ["land"] (af cZ):=⟨rfl,rfl,rfl,by decide+kernel,rfl,by decide+kernel,by decide+kernel⟩
theorem tW:aF ["land"] ["land"] (af gQ):=⟨rfl,rfl,rfl,by decide+kernel,rfl,by decide+kernel,by decide+kernel⟩
theorem ii:aF ["script","k"] ["script","k"] (af bL):=⟨rfl,rfl,rfl,by decide+kernel,rfl,by decide+kernel,by decide+kernel⟩
theorem jl:aF ["found"] ["found"] (af bZ):=⟨rfl,rfl,rfl,by decide+kernel,rfl,by decide+kernel,by decide+kernel⟩
theorem fT:aF ["one","two","three","made"] ["one","two","three"] (af bY):=⟨rfl,rfl,rfl,by decide+kernel,rfl,by decide+kernel,by decide+kernel⟩
theorem br:aF ["points","row","found","way","half","spot"] ["points"] (af bN):=⟨rfl,rfl,rfl,by decide+kernel,rfl,by decide+kernel,by decide+kernel⟩
theorem kn:aF ["cell","small"] ["cell","small"] (af cm):=⟨rfl,rfl,rfl,by decide+kernel,rfl,by decide+kernel,by decide+kernel⟩
theorem bF:aF ["spot","script","x","y","shape","right","above"] ["spot","script"] (af cA):=⟨rfl,rfl,rfl,by decide+kernel,rfl,by decide+kernel,by decide+kernel⟩
theorem aL:aF ["script","shape","wide","high","some","kind","cell","k","spot"] ["script"] (af bo):=⟨rfl,rfl,rfl,by decide+kernel,rfl,by decide+kernel,by decide+kernel⟩
theorem iL:aF ["move","spot","x"] ["move","spot"] (af cY):=⟨rfl,rfl,rfl,by decide+kernel,rfl,by decide+kernel,by decide+kernel⟩
theorem cu:aF ["script","ends","handed","some","shapes","move","spot","due","least_move","k","found","number"] ["script"] (af fQ):=⟨rfl,rfl,rfl,by decide+kernel,rfl,by decide+kernel,by decide+kernel⟩
set_option genInjectivity false in
set_option genSizeOf false in
set_option genSizeOfSpec false in
structure Txt (K:yH) (mg:Str→Option Value) where
 a_is_whole:Addr
 d_is_whole:zG
 F_is_whole:Fun K "is_whole" "is_whole" cC a_is_whole d_is_whole
 b_is_whole:bh K d_is_whole ["thing"] []
 m_is_whole:mg "is_whole"=some (.ref a_is_whole)
 a_sign:Addr
 d_sign:zG
 F_sign:Fun K "sign" "sign" gF a_sign d_sign
 b_sign:bh K d_sign ["number"] []
 m_sign:mg "sign"=some (.ref a_sign)
 a_shares:Addr
 d_shares:zG
 F_shares:Fun K "shares" "shares" dL a_shares d_shares
 b_shares:bh K d_shares ["a","b"] []
 m_shares:mg "shares"=some (.ref a_shares)
 a_hand:Addr
 d_hand:zG
 F_hand:Fun K "hand" "hand" gU a_hand d_hand
 b_hand:bh K d_hand ["move"] []
 m_hand:mg "hand"=some (.ref a_hand)
 a_is_move:Addr
 d_is_move:zG
 F_is_move:Fun K "is_move" "is_move" cB a_is_move d_is_move
 b_is_move:bh K d_is_move ["thing"] []
 m_is_move:mg "is_move"=some (.ref a_is_move)
 a_need_move:Addr
 d_need_move:zG
 F_need_move:Fun K "need_move" "need_move" ck a_need_move d_need_move
 b_need_move:bh K d_need_move ["thing"] []
 m_need_move:mg "need_move"=some (.ref a_need_move)
 a_turned:Addr
 d_turned:zG
 F_turned:Fun K "turned" "turned" dB a_turned d_turned
 b_turned:bh K d_turned ["P","move"] []
 m_turned:mg "turned"=some (.ref a_turned)
 a_moved:Addr
 d_moved:zG
 F_moved:Fun K "moved" "moved" fE a_moved d_moved
 b_moved:bh K d_moved ["P","move"] []
 m_moved:mg "moved"=some (.ref a_moved)
 a_behind:Addr
 d_behind:zG
 F_behind:Fun K "behind" "behind" dH a_behind d_behind
 b_behind:bh K d_behind ["first","second"] []
 m_behind:mg "behind"=some (.ref a_behind)
 a_steps:Addr
 d_steps:zG
 F_steps:Fun K "steps" "steps" fu a_steps d_steps
 b_steps:bh K d_steps ["P","Q"] []
 m_steps:mg "steps"=some (.ref a_steps)
 a_level:Addr
 d_level:zG
 F_level:Fun K "level" "level" fB a_level d_level
 b_level:bh K d_level ["P","Q"] []
 m_level:mg "level"=some (.ref a_level)
 a_turn:Addr
 d_turn:zG
 F_turn:Fun K "turn" "turn" gZ a_turn d_turn
 b_turn:bh K d_turn ["P","Q","R"] []
 m_turn:mg "turn"=some (.ref a_turn)
 a_left_bends:Addr
 d_left_bends:zG
 F_left_bends:Fun K "left_bends" "left_bends" bX a_left_bends d_left_bends
 b_left_bends:bh K d_left_bends ["row"] []
 m_left_bends:mg "left_bends"=some (.ref a_left_bends)
 a_field:Addr
 d_field:zG
 F_field:Fun K "field" "field" fv a_field d_field
 b_field:bh K d_field ["points"] []
 m_field:mg "field"=some (.ref a_field)
 a_field_moved:Addr
 d_field_moved:zG
 F_field_moved:Fun K "field_moved" "field_moved" bH a_field_moved d_field_moved
 b_field_moved:bh K d_field_moved ["land","move"] []
 m_field_moved:mg "field_moved"=some (.ref a_field_moved)
 a_stand:Addr
 d_stand:zG
 F_stand:Fun K "stand" "stand" fD a_stand d_stand
 b_stand:bh K d_stand ["corner","along","aside"] []
 m_stand:mg "stand"=some (.ref a_stand)
 a_stands:Addr
 d_stands:zG
 F_stands:Fun K "stands" "stands" dJ a_stands d_stands
 b_stands:bh K d_stands ["land"] []
 m_stands:mg "stands"=some (.ref a_stands)
 a_to_form:Addr
 d_to_form:zG
 F_to_form:Fun K "to_form" "to_form" cZ a_to_form d_to_form
 b_to_form:bh K d_to_form ["land"] []
 m_to_form:mg "to_form"=some (.ref a_to_form)
 a_form:Addr
 d_form:zG
 F_form:Fun K "form" "form" gQ a_form d_form
 b_form:bh K d_form ["land"] []
 m_form:mg "form"=some (.ref a_form)
 a__law_cell_at:Addr
 d__law_cell_at:zG
 F__law_cell_at:Fun K "_law_cell_at" "_law_cell_at" bL a__law_cell_at d__law_cell_at
 b__law_cell_at:bh K d__law_cell_at ["script","k"] []
 m__law_cell_at:mg "_law_cell_at"=some (.ref a__law_cell_at)
 a__law_whole:Addr
 d__law_whole:zG
 F__law_whole:Fun K "_law_whole" "_law_whole" bZ a__law_whole d__law_whole
 b__law_whole:bh K d__law_whole ["found"] []
 m__law_whole:mg "_law_whole"=some (.ref a__law_whole)
 a__law_cross:Addr
 d__law_cross:zG
 F__law_cross:Fun K "_law_cross" "_law_cross" bY a__law_cross d__law_cross
 b__law_cross:bh K d__law_cross ["one","two","three"] []
 m__law_cross:mg "_law_cross"=some (.ref a__law_cross)
 a__law_corners:Addr
 d__law_corners:zG
 F__law_corners:Fun K "_law_corners" "_law_corners" bN a__law_corners d__law_corners
 b__law_corners:bh K d__law_corners ["points"] []
 m__law_corners:mg "_law_corners"=some (.ref a__law_corners)
 a__law_lean:Addr
 d__law_lean:zG
 F__law_lean:Fun K "_law_lean" "_law_lean" cm a__law_lean d__law_lean
 b__law_lean:bh K d__law_lean ["cell","small"] []
 m__law_lean:mg "_law_lean"=some (.ref a__law_lean)
 a__law_put:Addr
 d__law_put:zG
 F__law_put:Fun K "_law_put" "_law_put" cA a__law_put d__law_put
 b__law_put:bh K d__law_put ["spot","script"] []
 m__law_put:mg "_law_put"=some (.ref a__law_put)
 a__law_ends:Addr
 d__law_ends:zG
 F__law_ends:Fun K "_law_ends" "_law_ends" bo a__law_ends d__law_ends
 b__law_ends:bh K d__law_ends ["script"] []
 m__law_ends:mg "_law_ends"=some (.ref a__law_ends)
 a__law_by:Addr
 d__law_by:zG
 F__law_by:Fun K "_law_by" "_law_by" cY a__law_by d__law_by
 b__law_by:bh K d__law_by ["move","spot"] []
 m__law_by:mg "_law_by"=some (.ref a__law_by)
 a_law:Addr
 d_law:zG
 F_law:Fun K "law" "law" fQ a_law d_law
 b_law:bh K d_law ["script"] []
 m_law:mg "law"=some (.ref a_law)
 z_abs:mg "abs"=none
 z_all:mg "all"=none
 z_bool:mg "bool"=none
 z_int:mg "int"=none
 z_isinstance:mg "isinstance"=none
 z_len:mg "len"=none
 z_list:mg "list"=none
 z_min:mg "min"=none
 z_range:mg "range"=none
 z_reversed:mg "reversed"=none
 z_set:mg "set"=none
 z_sorted:mg "sorted"=none
 z_tuple:mg "tuple"=none
 z_zip:mg "zip"=none
 tf_c:Addr
 tf_P:Addr
 tf_b:Addr
 tf:TbF K mg a_to_form tf_c tf_P tf_b
 tf_cd:d_to_form.code=.ref tf_c
section
variable {P:yT}{w:World}{K:yH}{mg:Str→Option Value}{base:Heap}
def sgn (n:Int):Int:=if 0 < n then 1 else if n < 0 then -1 else 0
def bQ (b:Int):Int:=if b < 0 then -b else b
theorem cH (b:Int):bQ b=(b.natAbs:Int):=by unfold bQ;split <;>omega
theorem gC {b:Int} (h:b≠0):0 < bQ b:=by unfold bQ;split <;>omega
theorem cJ (d b:Int):d ∣ bQ b↔d ∣ b:=by
 unfold bQ;split
 ·exact GF
 ·exact Iff.rfl
theorem qb (d b:Int):bQ b ∣ d↔b ∣ d:=by
 unfold bQ;split
 ·exact Int.neg_dvd
 ·exact Iff.rfl
structure h9 (a b high ht low lt:Int):Prop where
 hp:0 < high
 lo0:0≤low
 lolt:low < high
 dv:∀d,(d ∣ high∧d ∣ low)↔(d ∣ a∧d ∣ b)
 ch:b ∣ ht*a - high
 cl:b ∣ lt*a - low
 bd:ht.natAbs*low.natAbs+lt.natAbs*high.natAbs≤b.natAbs
 hi:high.natAbs≤b.natAbs
theorem kO {a b:Int} (hb:b≠0):h9 a b (bQ b) 0 (a % bQ b) 1:=by
 have h0:=gC hb
 refine ⟨h0,Be _ (by omega),AI _ h0,fun d=>?_,?_,?_,?_,by rw[cH];simp⟩
 ·rw[cJ]
  constructor
  ·rintro ⟨h1,h2⟩
   refine ⟨?_,h1⟩
   have e:=BB a (bQ b)
   rw[←e]
   exact Dw h2 (AN ((cJ d b).mpr h1) (Bl _ _))
  ·rintro ⟨h1,h2⟩
   refine ⟨h2,?_⟩
   have e:a % bQ b=a - bQ b*(a / bQ b):=by have:=BB a (bQ b);omega
   rw[e]
   exact GG h1 (AN ((cJ d b).mpr h2) (Bl _ _))
 ·rw[FV,Int.zero_sub,GF]
  exact (cJ b b).mpr (DF b)
 ·have e:1*a - a % bQ b=bQ b*(a / bQ b):=by have:=BB a (bQ b);omega
  rw[e]
  exact AN ((cJ b b).mpr (DF b)) (Bl _ _)
 ·rw[cH];simp
theorem m7 {a b high ht low lt:Int} (I:h9 a b high ht low lt) (h:low≠0):h9 a b low lt (high - high / low*low) (ht - high / low*lt)∧high - high / low*low < low:=by
 obtain ⟨hp,lo0,lolt,dv,ch,cl,bd,hi⟩:=I
 have hl:0 < low:=by omega
 have e:=BB high low
 have r0:=Be high h
 have r1:=AI high hl
 have hf:0≤high / low:=EA (by omega) (by omega)
 have er:high - high / low*low=high % low:=by rw[FW];omega
 rw[er]
 refine ⟨⟨hl,r0,r1,fun d=>?_,cl,?_,?_,by omega⟩,r1⟩
 ·rw[←dv d]
  constructor
  ·rintro ⟨h1,h2⟩
   refine ⟨?_,h1⟩
   rw[←e]
   exact Dw h2 (AN h1 (Bl _ _))
  ·rintro ⟨h1,h2⟩
   refine ⟨h2,?_⟩
   rw[show high % low=high - low*(high / low) by omega]
   exact GG h1 (AN h2 (Bl _ _))
 ·have e2:(ht - high / low*lt) *a - high % low=(ht*a - high) - (high / low) *(lt*a - low):=by grind
  rw[e2]
  exact GG ch (AN cl (Bx _ _))
 ·have n1:(ht - high / low*lt).natAbs≤ht.natAbs+(high / low).natAbs*lt.natAbs:=by
   have:=Int.natAbs_sub_le ht (high / low*lt)
   rw[C1] at this
   exact this
  have n2:high.natAbs=(high % low).natAbs+low.natAbs*(high / low).natAbs:=by
   have:(high.natAbs:Int)=((high % low).natAbs+low.natAbs*(high / low).natAbs:Nat):=by
    push_cast
    rw[Cb r0,Cb hf,Cb (by omega:0≤high),Cb lo0]
    omega
   omega
  have n3:(ht - high / low*lt).natAbs*low.natAbs≤(ht.natAbs+(high / low).natAbs*lt.natAbs) *low.natAbs:=EU _ n1
  rw[n2] at bd
  refine AH ?_ bd
  generalize (ht - high / low*lt).natAbs=A at *
  generalize ht.natAbs=B at *
  generalize lt.natAbs=C at *
  generalize low.natAbs=D at *
  generalize (high / low).natAbs=E at *
  generalize (high % low).natAbs=F at *
  grind
structure eX (a b g s t:Int):Prop where
 g0:0≤g
 eq:s*a+t*b=g
 da:g ∣ a
 db:g ∣ b
 z:b=0→t=0∧s=sgn a∧g=bQ a
 nz:b≠0→0 < g∧0≤s∧s < bQ b / g
theorem jG (a:Int):eX a 0 (bQ a) (sgn a) 0:=by
 refine ⟨by unfold bQ;split <;>omega,?_,(qb a a).mpr (DF a),HL _,fun _=>⟨rfl,rfl,rfl⟩,fun h=>absurd rfl h⟩
 unfold sgn bQ
 split
 ·split <;>omega
 ·split
  ·omega
  ·omega
theorem qg {a b high ht lt:Int} (hb:b≠0) (I:h9 a b high ht 0 lt):eX a b high (ht % (bQ b / high)) ((high - ht % (bQ b / high) *a).fdiv b):=by
 obtain ⟨hp,lo0,lolt,dv,ch,cl,bd,hi⟩:=I
 obtain ⟨ga,gb⟩:=(dv high).mp ⟨DF _,HL _⟩
 obtain ⟨a',rfl⟩:=ga
 have gb2:high ∣ bQ b:=(cJ _ _).mpr gb
 obtain ⟨b',hb'⟩:=gb2
 have hb0:=gC hb
 have hq:bQ b / high=b':=by rw[hb',BP _ (by omega)]
 have hb1:0 < b':=by
  have:0 < high*b':=by omega
  exact Cy this (by omega)
 rw[hq]
 have es:=BB ht b'
 have key:b ∣ high - ht % b'*(high*a'):=by
  have e:high - ht % b'*(high*a')=-(ht*(high*a') - high)+bQ b*(a'*(ht / b')):=by
   rw[hb',show ht % b'=ht - b'*(ht / b') by omega];grind
  rw[e]
  refine Dw (GF.mpr ch) (AN ((cJ b b).mpr (DF b)) (Bl _ _))
 refine ⟨by omega,?_,Bl _ _,gb,fun h=>absurd h hb,fun _=>⟨hp,Be _ (by omega),?_⟩⟩
 ·obtain ⟨c,hc⟩:=key
  rw[hc,Int.mul_fdiv_cancel_left _ hb,FW c b];omega
 ·rw[hq];exact AI _ hb1
theorem xo {a b high ht low lt:Int} (I:h9 a b high ht low lt):lt.natAbs≤b.natAbs:=by
 have h1:1≤high.natAbs:=by have:=I.hp;omega
 have h2:lt.natAbs*1≤lt.natAbs*high.natAbs:=Nat.mul_le_mul_left _ h1
 have:=I.bd
 omega
theorem qR {a b g s t g' s' t':Int} (h:eX a b g s t) (h':eX a b g' s' t'):g=g'∧s=s'∧t=t':=by
 have d1:g ∣ g':=by rw[←h'.eq];exact Dw (AN h.da (Bx _ _)) (AN h.db (Bx _ _))
 have d2:g' ∣ g:=by rw[←h.eq];exact Dw (AN h'.da (Bx _ _)) (AN h'.db (Bx _ _))
 have eg:g=g':=Int.dvd_antisymm h.g0 h'.g0 d1 d2
 subst eg
 by_cases hb:b=0
 ·obtain ⟨h1,h2,_⟩:=h.z hb
  obtain ⟨k1,k2,_⟩:=h'.z hb
  exact ⟨rfl,by omega,by omega⟩
 ·obtain ⟨p,s0,s1⟩:=h.nz hb
  obtain ⟨_,s0',s1'⟩:=h'.nz hb
  obtain ⟨a',ha⟩:=h.da
  obtain ⟨b',hb'⟩:=(cJ g b).mpr h.db
  obtain ⟨b'',hb''⟩:=h.db
  have hq:bQ b / g=b':=by rw[hb',BP _ (by omega)]
  rw[hq] at s1 s1'
  have e1:=h.eq
  have e2:=h'.eq
  have bz:b''≠0:=by intro z;rw[z,HM] at hb'';exact hb hb''
  have k1:s*a'+t*b''=1:=by
   have:g*(s*a'+t*b'')=g*1:=by rw[ha,hb''] at e1;grind
   exact BD (by omega) this
  have k2:s'*a'+t'*b''=1:=by
   have:g*(s'*a'+t'*b'')=g*1:=by rw[ha,hb''] at e2;grind
   exact BD (by omega) this
  have k3:b'' ∣ s - s':=by
   refine ⟨s*(t' - t)+t*(s - s'),?_⟩
   grind
  have k4:b' ∣ s - s':=by
   have:b'.natAbs=b''.natAbs:=by
    have q1:(bQ b).natAbs=b.natAbs:=by rw[cH];simp
    rw[hb',hb''] at q1
    rw[C1,C1] at q1
    exact Nat.eq_of_mul_eq_mul_left (by omega) q1
   exact C9.mp (by rw[this];exact C9.mpr k3)
  have k5:s=s':=by
   have:s - s'=0:=Int.eq_zero_of_dvd_of_natAbs_lt_natAbs k4 (by omega)
   omega
  subst k5
  refine ⟨rfl,rfl,?_⟩
  have:b*t=b*t':=by grind
  exact BD hb this
theorem uR {a b:Int} (hb:b≠0):∀(n:Nat) (high ht low lt:Int),low.toNat≤n→h9 a b high ht low lt→∃high' ht' lt',h9 a b high' ht' 0 lt'
 |0,high,ht,low,lt,hn,I=>by
  have:low=0:=by have:=I.lo0;omega
  subst this
  exact ⟨_,_,_,I⟩
 |n+1,high,ht,low,lt,hn,I=>by
  by_cases h:low=0
  ·subst h;exact ⟨_,_,_,I⟩
  ·obtain ⟨I2,less⟩:=m7 I h
   have:=I2.lo0
   exact uR hb n _ _ _ _ (by have:=I.lo0;omega) I2
theorem nT (a b:Int):∃g s t,eX a b g s t:=by
 by_cases hb:b=0
 ·subst hb;exact ⟨_,_,_,jG a⟩
 ·obtain ⟨h,ht,lt,I⟩:=uR hb _ _ _ _ _ (yO _) (kO (a:=a) hb)
  exact ⟨_,_,_,qg hb I⟩
theorem ku {m:Nat}{a b g s t:Int} (G:eX a b g s t) (sa:Sz m a) (sb:Sz m b):Sz (m+8) g∧Sz (m+8) s∧Sz (2*m+8) t:=by
 by_cases hb:b=0
 ·subst hb
  obtain ⟨h1,h2,h3⟩:=G.z rfl
  rw[h1,h2,h3]
  have s1:Sz 8 (sgn a):=by unfold Sz sgn;split;decide;split <;>decide
  exact ⟨(Sz.abs sa).mono (by omega),s1.mono (by omega),Sz.mono (m:=8) (by decide) (by omega)⟩
 ·obtain ⟨g0,s0,s1⟩:=G.nz hb
  have h1:bQ b / g≤bQ b:=Ee _ (by have:=gC hb;omega)
  have h2:=cH b
  have sg:Sz m g:=by
   refine sb.natle ?_
   exact Nat.le_of_dvd (by omega) (C9.mpr G.db)
  have ss:Sz m s:=sb.natle (by omega)
  refine ⟨sg.mono (by omega),ss.mono (by omega),?_⟩
  have e:t*b=g - s*a:=by have:=G.eq;omega
  have q:Sz (2*m+1) (t*b):=by
   rw[e]
   have:Sz (m+m) (s*a):=ss.mul sa
   have h3:=(sg.mono (show m≤m+m by omega)).sub this
   exact h3.mono (by omega)
  refine (Sz.mono (m:=2*m+1) ?_ (by omega))
  unfold Sz at *
  rw[C1] at q
  have:1≤b.natAbs:=by omega
  exact DC (Nat.le_mul_of_pos_right _ this) q
def pE:List U→Out→Prop:=fun us o=>∃n:Int,us=[.int n]∧o=.val (.int (sgn n))
theorem nL (T:Txt K mg):bD P w K mg base (CXF P w) 1 T.a_sign T.d_sign ["number"] (spU K (pE)):=by
 refine bM T.F_sign uA (fun us o h=>?_) (fun cdv A outer s H E O us o hr h=>?_)
 ·obtain ⟨n,rfl,rfl⟩:=h
  rfl
 obtain ⟨n,rfl,rfl⟩:=h
 refine Ws.nox ?_
 refine ae (lc (ba jc (aa 0 rfl) ab) (fun hT=>?_) (fun hF=>(a_ ?_)))
 ·refine ae (bC ab ?_)
  exact vIO (by unfold sgn;rw[if_pos (dTb hT)])
 ·refine ae (lc (ba oP (aa 0 rfl) ab) (fun hT=>?_) (fun hF=>(a_ ?_)))
  ·refine ae (bC (cF ab) ?_)
   exact vIO (by unfold sgn;rw[if_neg (dFb hF),if_pos (dTb hT)])
  ·rename_i hF2
   refine ae (bC ab ?_)
   exact vIO (by unfold sgn;rw[if_neg (dFb hF),if_neg (dFb hF2)])
def kS:List U→Out→Prop:=fun us o=>∃a b g s t:Int,us=[.int a,.int b]∧Sz 4000 a∧Sz 4000 b∧eX a b g s t∧o=.val (.tup [.int g,.int s,.int t])
theorem lS {a b g s t g' s' t':Int} (G:eX a b g s t) (G':eX a b g' s' t'):Out.val (.tup [.int g,.int s,.int t])=Out.val (.tup [.int g',.int s',.int t']):=by
 obtain ⟨rfl,rfl,rfl⟩:=qR G G'
 rfl
theorem jw (T:Txt K mg):bD P w K mg base (CXF P w) 2 T.a_shares T.d_shares ["a","b"] (spU K (kS)):=by
 refine bM T.F_shares bA (fun us o h=>?_) (fun cdv A outer s H E O us o hr h=>?_)
 ·obtain ⟨a,b,g,s,t,rfl,sa,sb,G,rfl⟩:=h
  rfl
 obtain ⟨a,b,g,s,t,rfl,sa,sb,G,rfl⟩:=h
 refine Ws.nox ?_
 refine ae (lc (ba cx (aa 1 rfl) ab) (fun hT=>?_) (fun hF=>(a_ ?_)))
 ·have hb:b=0:=dTb hT
  subst hb
  refine ae (bC (aY (aj (aX rZ rfl T.z_abs PyProof.Rows.boot_abs (ac (aa 0 rfl) ao ag)) (aj (ar ((nL T).mono (by decide)) hr rfl T.m_sign T.F_sign.kp T.b_sign ay (ac (aa 0 rfl) ao ag) ⟨_,rfl,rfl⟩) (aj ab be au) cD) cD)) ?_)
  exact lS (jG a) G
 ·have hb:b≠0:=dFb hF
  have hp0:=gC hb
  have sab:Sz 4000 (bQ b):=Sz.abs sb
  refine ae (aK (i:=2) bA.nd rfl (Or.inl rfl) (aX rZ rfl T.z_abs PyProof.Rows.boot_abs (ac (aa 1 rfl) ao ag)) ?_)
  refine ae (aK (i:=3) bA.nd rfl (Or.inl rfl) ab ?_)
  refine ae (aK (i:=4) bA.nd rfl (Or.inl rfl) (cr (aa 0 rfl) (aa 2 rfl) hp0) ?_)
  refine ae (aK (i:=5) bA.nd rfl (Or.inl rfl) ab ?_)
  refine ae (iN (fun m:Int×Int×Int×Int=>[some (.val (.int a)),some (.val (.int b)),some (.val (.int m.1)),some (.val (.int m.2.1)),some (.val (.int m.2.2.1)),some (.val (.int m.2.2.2)),none,none,none,none]) (fun n m=>n=m.2.2.1.toNat∧h9 a b m.1 m.2.1 m.2.2.1 m.2.2.2) PassesOwn.never ?h0 ?hs)
  case h0=>exact ⟨_,(_,_,_,_),⟨rfl,kO hb⟩,rfl,rfl,rfl,rfl,rfl,rfl,trivial⟩
  case hs=>
   rintro m ⟨high,ht,low,lt⟩ ⟨rfl,I⟩
   dsimp only at I ⊢
   have hl0:=I.lo0
   have hl1:=I.lolt
   have sh:Sz 4000 high:=sb.natle I.hi
   have sl:Sz 4000 low:=sh.natle (by omega)
   have slt:Sz 4000 lt:=sb.natle (xo I)
   refine ⟨_,(ba vx (aa 4 rfl) ab),fun h=>?_,fun h ps hps=>?_⟩
   ·have hl:low≠0:=nTb h
    obtain ⟨I2,less⟩:=m7 I hl
    have hlt:(high - high / low*low).toNat < low.toNat:=by clear h;omega
    refine ae (aK (i:=6) bA.nd rfl (Or.inl rfl) (dw (aa 2 rfl) (aa 4 rfl) (by walk_at "div")) ?_)
    have sf:Sz 4000 (high / low):=sh.ediv
    refine ae (aK (i:=7) bA.nd rfl (Or.inl rfl) (bB (aa 2 rfl) (bK (aa 6 rfl) (aa 4 rfl) (by walk_at "mul"))) ?_)
    refine ae (aK (i:=8) bA.nd rfl (Or.inl rfl) (bB (aa 3 rfl) (bK (aa 6 rfl) (aa 5 rfl) (by walk_at "mul"))) ?_)
    refine ae (aK (i:=2) bA.nd rfl (Or.inl rfl) (aa 4 rfl) ?_)
    refine ae (aK (i:=3) bA.nd rfl (Or.inl rfl) (aa 5 rfl) ?_)
    refine ae (aK (i:=4) bA.nd rfl (Or.inl rfl) (aa 7 rfl) ?_)
    refine ae (aK (i:=5) bA.nd rfl (Or.inl rfl) (aa 8 rfl) (a_ ?_))
    exact ⟨_,(_,_,_,_),hlt,⟨rfl,I2⟩,rfl,rfl,rfl,rfl,rfl,rfl,trivial⟩
   ·have hl:low=0:=nFb h
    subst hl
    refine d7 ?_ hps
    have G2:=qg hb I
    obtain ⟨g0,s0,s1⟩:=G2.nz hb
    have hm:0 < bQ b / high:=by omega
    have hg:0 < high:=I.hp
    have ss:Sz 4000 (ht % (bQ b / high)):=by
     refine sb.natle ?_
     have h1:bQ b / high≤bQ b:=Ee _ (by omega)
     have h2:=cH b
     omega
    refine ae (aK (i:=9) bA.nd rfl (Or.inl rfl) (cr (aa 3 rfl) (dw (aX rZ rfl T.z_abs PyProof.Rows.boot_abs (ac (aa 1 rfl) ao ag)) (aa 2 rfl) ⟨hg,sh.mono (by decide)⟩) hm) ?_)
    refine ae (bC (aY (aj (aa 2 rfl) (aj (aa 9 rfl) (aj (wd (bB (aa 2 rfl) (bK (aa 9 rfl) (aa 0 rfl) (Sz.ok ss sa (by decide)))) (aa 1 rfl) ⟨hb,sb.mono (by decide)⟩) be bu) ag) ag)) ?_)
    exact lS G2 G
abbrev mv (a b c d e f:Int):U:=.tup [.int a,.int b,.int c,.int d,.int e,.int f]
structure Mv (a b c d e f:Int):Prop where
 u:a*d - b*c=1∨a*d - b*c=-1
 a:Sz 30000 a
 b:Sz 30000 b
 c:Sz 30000 c
 d:Sz 30000 d
 e:Sz 30000 e
 f:Sz 30000 f
def mD:List U→Out→Prop:=fun us o=>∃n:Int,us=[.int n]∧o=.val (.bl true)
theorem kI (T:Txt K mg):bD P w K mg base (CXF P w) 1 T.a_is_whole T.d_is_whole ["thing"] (spU K (mD)):=by
 refine bM T.F_is_whole kL (fun us o h=>?_) (fun cdv A outer s H E O us o hr h=>?_)
 ·obtain ⟨n,rfl,rfl⟩:=h
  rfl
 obtain ⟨n,rfl,rfl⟩:=h
 refine Ws.nox ?_
 refine ae (bC (rK (aX (cL (by intro _ h;cases h) (by walk_at "kit")) rfl T.z_isinstance Bq (ac (aa 0 rfl) (ac (kF rfl T.z_int boot_int) ao ag) ag)) (fun hz=>(pQ (vn (aX (cL (by intro _ h;cases h) (by walk_at "kit")) rfl T.z_isinstance Bq (ac (aa 0 rfl) (ac (kF rfl T.z_bool boot_bool) ao ag) ag)))))) ?_);exact rfl
def oV:List U→Out→Prop:=fun us o=>∃a b c d e f,us=[mv a b c d e f]∧Sz 30000 a∧Sz 30000 b∧Sz 30000 c∧Sz 30000 d∧o=.val (.int (a*d - b*c))
theorem uC (T:Txt K mg):bD P w K mg base (CXF P w) 1 T.a_hand T.d_hand ["move"] (spU K (oV)):=by
 refine bM T.F_hand uH (fun us o h=>?_) (fun cdv A outer s H E O us o hr h=>?_)
 ·obtain ⟨a,b,c,d,e,f,rfl,sa,sb,sc,sd,rfl⟩:=h
  rfl
 obtain ⟨a,b,c,d,e,f,rfl,sa,sb,sc,sd,rfl⟩:=h
 refine Ws.nox ?_
 refine ae (bC (bB (bK (aJ (aa 0 rfl) ab rfl rfl) (aJ (aa 0 rfl) ab rfl rfl) (by walk_at "mul")) (bK (aJ (aa 0 rfl) ab rfl rfl) (aJ (aa 0 rfl) ab rfl rfl) (by walk_at "mul"))) ?_);exact rfl
def jV:List U→Out→Prop:=fun us o=>∃a b c d e f,us=[mv a b c d e f]∧Mv a b c d e f∧o=.val (.bl true)
theorem mG (T:Txt K mg):bD P w K mg base (CXF P w) 2 T.a_is_move T.d_is_move ["thing"] (spU K (jV)):=by
 refine bM T.F_is_move iT (fun us o h=>?_) (fun cdv A outer s H E O us o hr h=>?_)
 ·obtain ⟨a,b,c,d,e,f,rfl,M,rfl⟩:=h
  rfl
 obtain ⟨a,b,c,d,e,f,rfl,M,rfl⟩:=h
 refine Ws.nox ?_
 refine ae (cq (Tw.t (j5 (h_ (eQ (aX (cL (by intro _ h;cases h) rfl) rfl T.z_isinstance Bq (ac (aa 0 rfl) (ac (kF rfl T.z_tuple Hs) ao ag) ag)))) (fun hz=>(jr (ba vx (aX (fL rfl) rfl T.z_len AW (ac (aa 0 rfl) ao ag)) ab))))) rfl (a_ ?_))
 refine ae (cq (h_ (eQ (aX (xx rfl (bs:=[true,true,true,true,true,true])) rfl T.z_all boot_all (ac (EvN.ev (e7  rfl (blk (af cB) ["thing","number"] [1] rfl rfl rfl rfl (by decide+kernel)) (vg (aa 0 rfl)) (fun _ _ _ _=>bE (i:=1) iT.nd rfl (Or.inl rfl)) (bU (by decide)) ?clen ?csz (fun _ _=>trivial) ?celt)) ao dr)))) rfl (a_ ?_))
 case clen=>rfl
 case csz=>show 6≤sizeLine;decide
 case celt=>
  intro C s' H' fp i x y hx hy
  have k:∃n:Int,x=.int n∧y=.bl true:=by
   match i,hx,hy with
   |0,hx,hy=>cases hx;cases hy;exact ⟨a,rfl,rfl⟩
   |1,hx,hy=>cases hx;cases hy;exact ⟨b,rfl,rfl⟩
   |2,hx,hy=>cases hx;cases hy;exact ⟨c,rfl,rfl⟩
   |3,hx,hy=>cases hx;cases hy;exact ⟨d,rfl,rfl⟩
   |4,hx,hy=>cases hx;cases hy;exact ⟨e,rfl,rfl⟩
   |5,hx,hy=>cases hx;cases hy;exact ⟨f,rfl,rfl⟩
   |i+6,hx,hy=>cases hx
  obtain ⟨n,rfl,rfl⟩:=k
  exact (ar ((kI T).mono (by decide)) hr rfl T.m_is_whole T.F_is_whole.kp T.b_is_whole ay (ac (aa 1 rfl) ao ag) ⟨n,rfl,rfl⟩)
 refine ae (bC (lK (tJ rfl rfl rfl) (ar ((uC T).mono (by decide)) hr rfl T.m_hand T.F_hand.kp T.b_hand ay (ac (aa 0 rfl) ao ag) ⟨a,b,c,d,e,f,rfl,M.a,M.b,M.c,M.d,rfl⟩) (aY (aj ab (aj (cF ab) be i6) au))) ?_)
 refine vB ?_
 show inV (fl (.int (a*d - b*c))) ([U.int 1,.int (-1)].map fl)=_
 rcases M.u with h |h <;>rw[h] <;>rfl
def pA:List U→Out→Prop:=fun us o=>∃a b c d e f,us=[mv a b c d e f]∧Mv a b c d e f∧o=.val .non
theorem dS (T:Txt K mg):bD P w K mg base (CXF P w) 3 T.a_need_move T.d_need_move ["thing"] (spU K (pA)):=by
 refine bM T.F_need_move jS (fun us o h=>?_) (fun cdv A outer s H E O us o hr h=>?_)
 ·obtain ⟨a,b,c,d,e,f,rfl,M,rfl⟩:=h
  rfl
 obtain ⟨a,b,c,d,e,f,rfl,M,rfl⟩:=h
 refine Ws.nox ?_
 refine ae (cq (h_ (eQ (ar ((mG T).mono (by decide)) hr rfl T.m_is_move T.F_is_move.kp T.b_is_move ay (ac (aa 0 rfl) ao ag) ⟨a,b,c,d,e,f,rfl,M,rfl⟩))) rfl (a_ (a_ ?_)))
 exact rfl
def lj:List U→Out→Prop:=fun us o=>∃x y a b c d e f,us=[pt x y,mv a b c d e f]∧(Sz 30000 x∧Sz 30000 y∧Sz 30000 a∧Sz 30000 b∧Sz 30000 c∧Sz 30000 d)∧o=.val (pt (a*x+b*y) (c*x+d*y))
theorem g9 (T:Txt K mg):bD P w K mg base (CXF P w) 1 T.a_turned T.d_turned ["P","move"] (spU K (lj)):=by
 refine bM T.F_turned oA (fun us o h=>?_) (fun cdv A outer s H E O us o hr h=>?_)
 ·obtain ⟨x,y,a,b,c,d,e,f,rfl,⟨sx,sy,sa,sb,sc,sd⟩,rfl⟩:=h
  rfl
 obtain ⟨x,y,a,b,c,d,e,f,rfl,⟨sx,sy,sa,sb,sc,sd⟩,rfl⟩:=h
 refine Ws.nox ?_
 refine ae (bC (aY (aj (cw (bK (aJ (aa 1 rfl) ab rfl rfl) (aJ (aa 0 rfl) ab rfl rfl) (by walk_at "mul")) (bK (aJ (aa 1 rfl) ab rfl rfl) (aJ (aa 0 rfl) ab rfl rfl) (by walk_at "mul"))) (aj (cw (bK (aJ (aa 1 rfl) ab rfl rfl) (aJ (aa 0 rfl) ab rfl rfl) (by walk_at "mul")) (bK (aJ (aa 1 rfl) ab rfl rfl) (aJ (aa 0 rfl) ab rfl rfl) (by walk_at "mul"))) be bu) bu)) ?_);exact rfl
def l_:List U→Out→Prop:=fun us o=>∃x y a b c d e f,us=[pt x y,mv a b c d e f]∧Mv a b c d e f∧Sz 30000 x∧Sz 30000 y∧o=.val (pt (a*x+b*y+e) (c*x+d*y+f))
theorem dD (T:Txt K mg):bD P w K mg base (CXF P w) 4 T.a_moved T.d_moved ["P","move"] (spU K (l_)):=by
 refine bM T.F_moved lm (fun us o h=>?_) (fun cdv A outer s H E O us o hr h=>?_)
 ·obtain ⟨x,y,a,b,c,d,e,f,rfl,M,sx,sy,rfl⟩:=h
  rfl
 obtain ⟨x,y,a,b,c,d,e,f,rfl,M,sx,sy,rfl⟩:=h
 refine Ws.nox ?_
 refine ae (mU (ar ((dS T).mono (by decide)) hr rfl T.m_need_move T.F_need_move.kp T.b_need_move ay (ac (aa 1 rfl) ao ag) ⟨a,b,c,d,e,f,rfl,M,rfl⟩) ?_)
 refine ae (aK (i:=2) lm.nd rfl (Or.inl rfl) (ar ((g9 T).mono (by decide)) hr rfl T.m_turned T.F_turned.kp T.b_turned ay (ac (aa 0 rfl) (ac (aa 1 rfl) ao ag) ag) ⟨x,y,a,b,c,d,e,f,rfl,⟨sx,sy,M.a,M.b,M.c,M.d⟩,rfl⟩) ?_)
 refine ae (bC (aY (aj (cw (aJ (aa 2 rfl) ab rfl rfl) (aJ (aa 1 rfl) ab rfl rfl)) (aj (cw (aJ (aa 2 rfl) ab rfl rfl) (aJ (aa 1 rfl) ab rfl rfl)) be bu) bu)) ?_)
 exact rfl
def beh (a b c d e f a' b' c' d' e' f':Int):U:=mv (a'*a+b'*c) (a'*b+b'*d) (c'*a+d'*c) (c'*b+d'*d) (a'*e+b'*f+e') (c'*e+d'*f+f')
def lM:List U→Out→Prop:=fun us o=>∃a b c d e f a' b' c' d' e' f',us=[mv a b c d e f,mv a' b' c' d' e' f']∧Mv a b c d e f∧Mv a' b' c' d' e' f'∧o=.val (beh a b c d e f a' b' c' d' e' f')
theorem gE (T:Txt K mg):bD P w K mg base (CXF P w) 5 T.a_behind T.d_behind ["first","second"] (spU K (lM)):=by
 refine bM T.F_behind fG (fun us o h=>?_) (fun cdv A outer s H E O us o hr h=>?_)
 ·obtain ⟨a,b,c,d,e,f,a',b',c',d',e',f',rfl,M,M',rfl⟩:=h
  rfl
 obtain ⟨a,b,c,d,e,f,a',b',c',d',e',f',rfl,M,M',rfl⟩:=h
 refine Ws.nox ?_
 refine ae (mU (ar ((dS T).mono (by decide)) hr rfl T.m_need_move T.F_need_move.kp T.b_need_move ay (ac (aa 0 rfl) ao ag) ⟨a,b,c,d,e,f,rfl,M,rfl⟩) ?_)
 refine ae (mU (ar ((dS T).mono (by decide)) hr rfl T.m_need_move T.F_need_move.kp T.b_need_move ay (ac (aa 1 rfl) ao ag) ⟨a',b',c',d',e',f',rfl,M',rfl⟩) ?_)
 refine ae (aK (i:=2) fG.nd rfl (Or.inl rfl) (ar ((g9 T).mono (by decide)) hr rfl T.m_turned T.F_turned.kp T.b_turned ay (ac (aY (aj (aJ (aa 0 rfl) ab rfl rfl) (aj (aJ (aa 0 rfl) ab rfl rfl) be bI) bI)) (ac (aa 1 rfl) ao ag) ce) ⟨_,_,_,_,_,_,_,_,rfl,⟨M.a,M.c,M'.a,M'.b,M'.c,M'.d⟩,rfl⟩) ?_)
 refine ae (aK (i:=3) fG.nd rfl (Or.inl rfl) (ar ((g9 T).mono (by decide)) hr rfl T.m_turned T.F_turned.kp T.b_turned ay (ac (aY (aj (aJ (aa 0 rfl) ab rfl rfl) (aj (aJ (aa 0 rfl) ab rfl rfl) be bI) bI)) (ac (aa 1 rfl) ao ag) ce) ⟨_,_,_,_,_,_,_,_,rfl,⟨M.b,M.d,M'.a,M'.b,M'.c,M'.d⟩,rfl⟩) ?_)
 refine ae (aK (i:=4) fG.nd rfl (Or.inl rfl) (ar ((dD T).mono (by decide)) hr rfl T.m_moved T.F_moved.kp T.b_moved ay (ac (aY (aj (aJ (aa 0 rfl) ab rfl rfl) (aj (aJ (aa 0 rfl) ab rfl rfl) be bI) bI)) (ac (aa 1 rfl) ao ag) ce) ⟨_,_,_,_,_,_,_,_,rfl,M',M.e,M.f,rfl⟩) ?_)
 refine ae (bC (aY (aj (aJ (aa 2 rfl) ab rfl rfl) (aj (aJ (aa 3 rfl) ab rfl rfl) (aj (aJ (aa 2 rfl) ab rfl rfl) (aj (aJ (aa 3 rfl) ab rfl rfl) (aj (aJ (aa 4 rfl) ab rfl rfl) (aj (aJ (aa 4 rfl) ab rfl rfl) be bI) bI) bI) bI) bI) bI)) ?_)
 exact rfl
end
section
variable {P:yT}{w:World}{K:yH}{mg:Str→Option Value}{base:Heap}
theorem oC {a b g s t g' s' t':Int} (G:eX a b g s t) (gp:0 < g) (G':eX (a / g) (b / g) g' s' t'):g'=1:=by
 obtain ⟨a',ha⟩:=G.da
 obtain ⟨b',hb⟩:=G.db
 have ea:a / g=a':=by rw[ha,BP _ (by omega)]
 have eb:b / g=b':=by rw[hb,BP _ (by omega)]
 rw[ea,eb] at G'
 have e:=G.eq
 have k1:s*a'+t*b'=1:=by
  have:g*(s*a'+t*b')=g*1:=by rw[ha,hb] at e;grind
  exact BD (by omega) this
 have d:g' ∣ 1:=by rw[←k1];exact Dw (AN G'.da (Bx _ _)) (AN G'.db (Bx _ _))
 have:=Int.le_of_dvd (by decide) d
 have h0:=G'.g0
 rcases DG h0 with h |h
 ·omega
 ·rw[←h] at d;exact absurd (FX.mp d) (by decide)
theorem o3 {x0 y0 x1 y1 g s t:Int} (G:eX (x1 - x0) (y1 - y0) g s t) (h:g=0):x0=x1∧y0=y1:=by
 subst h
 have h1:=FX.mp G.da
 have h2:=FX.mp G.db
 omega
structure tz (x0 y0 x1 y1:Int):Prop where
 s0:Sz 3000 x0
 t0:Sz 3000 y0
 s1:Sz 3000 x1
 t1:Sz 3000 y1
def mS:List U→Out→Prop:=fun us o=>∃x0 y0 x1 y1 g s t:Int,us=[pt x0 y0,pt x1 y1]∧tz x0 y0 x1 y1∧eX (x1 - x0) (y1 - y0) g s t∧o=.val (.int g)
theorem sL (T:Txt K mg):bD P w K mg base (CXF P w) 3 T.a_steps T.d_steps ["P","Q"] (spU K (mS)):=by
 refine bM T.F_steps qY (fun us o h=>?_) (fun cdv A outer s H E O us o hr h=>?_)
 ·obtain ⟨x0,y0,x1,y1,g,s,t,rfl,⟨s0,t0,s1,t1⟩,G,rfl⟩:=h
  rfl
 obtain ⟨x0,y0,x1,y1,g,s,t,rfl,⟨s0,t0,s1,t1⟩,G,rfl⟩:=h
 refine Ws.nox ?_
 refine ae (bC (aJ (ar ((jw T).mono (by decide)) hr rfl T.m_shares T.F_shares.kp T.b_shares ay (ac (bB (aJ (aa 1 rfl) ab rfl rfl) (aJ (aa 0 rfl) ab rfl rfl)) (ac (bB (aJ (aa 1 rfl) ab rfl rfl) (aJ (aa 0 rfl) ab rfl rfl)) ao bu) bu) ⟨_,_,g,s,t,rfl,by walk_at "szb",by walk_at "szb",G,rfl⟩) ab rfl rfl) ?_)
 exact rfl
def mV:List U→Out→Prop:=fun us o=>∃x0 y0 x1 y1 g a b s t:Int,us=[pt x0 y0,pt x1 y1]∧tz x0 y0 x1 y1∧eX (x1 - x0) (y1 - y0) g a b∧g≠0∧eX ((x1 - x0) / g) ((y1 - y0) / g) 1 s t∧
  o=.val (mv s t (-((y1 - y0) / g)) ((x1 - x0) / g) (-s*x0 - t*y0) ((y1 - y0) / g*x0 - (x1 - x0) / g*y0))
theorem sF (T:Txt K mg):bD P w K mg base (CXF P w) 4 T.a_level T.d_level ["P","Q"] (spU K (mV)):=by
 refine bM T.F_level di (fun us o h=>?_) (fun cdv A outer s H E O us o hr h=>?_)
 ·obtain ⟨x0,y0,x1,y1,g,a,b,s,t,rfl,two,G,gn,G1,rfl⟩:=h
  rfl
 obtain ⟨x0,y0,x1,y1,g,a,b,s,t,rfl,two,G,gn,G1,rfl⟩:=h
 refine Ws.nox ?_
 have gp:0 < g:=by have:=G.g0;omega
 obtain ⟨s0,t0,s1,t1⟩:=two
 have two:tz x0 y0 x1 y1:=⟨s0,t0,s1,t1⟩
 have sx:Sz 3001 (x1 - x0):=by walk_at "szb"
 have sy:Sz 3001 (y1 - y0):=by walk_at "szb"
 obtain ⟨sg,_,_⟩:=ku G sx sy
 have su:Sz 3001 ((x1 - x0) / g):=sx.ediv
 have sv:Sz 3001 ((y1 - y0) / g):=sy.ediv
 obtain ⟨_,ss,st⟩:=ku G1 su sv
 refine ae (aK (i:=2) di.nd rfl (Or.inl rfl) (ar ((sL T).mono (by decide)) hr rfl T.m_steps T.F_steps.kp T.b_steps ay (ac (aa 0 rfl) (ac (aa 1 rfl) ao ag) ag) ⟨x0,y0,x1,y1,g,a,b,rfl,two,G,rfl⟩) ?_)
 refine ae (cq (ba cx (aa 2 rfl) ab) (decide_eq_false gn) (a_ ?_))
 refine ae (aK (i:=3) di.nd rfl (Or.inl rfl) (dw (bB (aJ (aa 1 rfl) ab rfl rfl) (aJ (aa 0 rfl) ab rfl rfl)) (aa 2 rfl) ⟨gp,sg.mono (by decide)⟩) ?_)
 refine ae (aK (i:=4) di.nd rfl (Or.inl rfl) (dw (bB (aJ (aa 1 rfl) ab rfl rfl) (aJ (aa 0 rfl) ab rfl rfl)) (aa 2 rfl) ⟨gp,sg.mono (by decide)⟩) ?_)
 refine ae (aK (i:=5) di.nd rfl (Or.inl rfl) (ar ((jw T).mono (by decide)) hr rfl T.m_shares T.F_shares.kp T.b_shares ay (ac (aa 3 rfl) (ac (aa 4 rfl) ao ag) ag) ⟨_,_,1,s,t,rfl,su.mono (by decide),sv.mono (by decide),G1,rfl⟩) ?_)
 refine ae (aK (i:=6) di.nd rfl (Or.inl rfl) (aJ (aa 5 rfl) ab rfl rfl) ?_)
 refine ae (aK (i:=7) di.nd rfl (Or.inl rfl) (aJ (aa 5 rfl) ab rfl rfl) ?_)
 refine ae (bC (aY (aj (aa 6 rfl) (aj (aa 7 rfl) (aj (cF (aa 4 rfl)) (aj (aa 3 rfl) (aj (bB (bK (cF (aa 6 rfl)) (aJ (aa 0 rfl) ab rfl rfl) (by walk_at "mul")) (bK (aa 7 rfl) (aJ (aa 0 rfl) ab rfl rfl) (by walk_at "mul"))) (aj (bB (bK (aa 4 rfl) (aJ (aa 0 rfl) ab rfl rfl) (by walk_at "mul")) (bK (aa 3 rfl) (aJ (aa 0 rfl) ab rfl rfl) (by walk_at "mul"))) be bu) bu) ag) i6) ag) ag)) ?_)
 exact rfl
structure LvG (a b:P2) (g u v s t s1 t1:Int):Prop where
 G:eX (b.1 - a.1) (b.2 - a.2) g s1 t1
 gn:g≠0
 hu:u=(b.1 - a.1) / g
 hv:v=(b.2 - a.2) / g
 G1:eX u v 1 s t
theorem ww {a b:P2} (h:a≠b):∃g u v s t s1 t1,LvG a b g u v s t s1 t1:=by
 obtain ⟨g,s1,t1,G⟩:=nT (b.1 - a.1) (b.2 - a.2)
 have gn:g≠0:=fun e=>h (by
  obtain ⟨h1,h2⟩:=o3 G e
  exact CH h1 h2)
 have gp:0 < g:=by have:=G.g0;omega
 obtain ⟨g',s,t,G'⟩:=nT ((b.1 - a.1) / g) ((b.2 - a.2) / g)
 have:=oC G gp G'
 subst this
 exact ⟨g,_,_,s,t,s1,t1,G,gn,rfl,rfl,G'⟩
end
section
variable {P:yT}{w:World}{K:yH}{mg:Str→Option Value}{base:Heap}
abbrev Pt:=Int×Int
def plt (p q:Pt):Prop:=p.1 < q.1∨(p.1=q.1∧p.2 < q.2)
def aq (a b p:Pt):Int:=(b.1 - a.1) *(p.2 - a.2) - (b.2 - a.2) *(p.1 - a.1)
theorem bW {a b c:Pt} (h1:plt a b) (h2:plt b c):plt a c:=by unfold plt at *;omega
theorem bp (a:Pt):¬ plt a a:=by unfold plt;omega
theorem j7 (a b:Pt):plt a b∨a=b∨plt b a:=by
 unfold plt
 by_cases h1:a.1=b.1
 ·by_cases h2:a.2=b.2
  ·exact .inr (.inl (CH h1 h2))
  ·omega
 ·omega
def lpos (x y:Int):Prop:=0 < x∨(x=0∧0 < y)
theorem bj {a b:Pt} (h:plt a b):lpos (b.1 - a.1) (b.2 - a.2):=by unfold plt lpos at *;omega
theorem e_ {u1 u2 v1 v2 w1 w2:Int} (hu:lpos u1 u2) (hv:lpos v1 v2) (hw:lpos w1 w2) (h1:0≤u1*v2 - u2*v1) (h2:0≤v1*w2 - v2*w1):0≤u1*w2 - u2*w1:=by
 unfold lpos at *
 by_cases hv1:v1=0
 ·subst hv1
  have hv2:0 < v2:=by omega
  have hw1:w1=0:=by
   have:v2*w1≤0:=by rw[FV] at h2;omega
   by_cases hz:0 < w1
   ·have:=Br hv2 hz;omega
   ·omega
  subst hw1
  have hw2:0 < w2:=by omega
  have:=AX (show 0≤u1 by omega) (show 0≤w2 by omega)
  simp;omega
 ·have hv':0 < v1:=by omega
  have e:v1*(u1*w2 - u2*w1)=u1*(v1*w2 - v2*w1)+w1*(u1*v2 - u2*v1):=by grind
  have p1:=AX (show 0≤u1 by omega) h2
  have p2:=AX (show 0≤w1 by omega) h1
  have:0≤v1*(u1*w2 - u2*w1):=by omega
  exact Int.nonneg_of_mul_nonneg_right this hv'
theorem iV {u1 u2 v1 v2 w1 w2:Int} (hu:lpos u1 u2) (hv:lpos v1 v2) (hw:lpos w1 w2) (h1:0 < u1*v2 - u2*v1) (h2:0≤v1*w2 - v2*w1):0 < u1*w2 - u2*w1:=by
 unfold lpos at *
 by_cases hv1:v1=0
 ·subst hv1
  have hv2:0 < v2:=by omega
  have hw1:w1=0:=by
   have:v2*w1≤0:=by rw[FV] at h2;omega
   by_cases hz:0 < w1
   ·have:=Br hv2 hz;omega
   ·omega
  subst hw1
  have hw2:0 < w2:=by omega
  have hu1:0 < u1:=by
   rcases hu with h |⟨h,_⟩
   ·exact h
   ·subst h;simp at h1
  have:=Br hu1 hw2
  simp;omega
 ·have hv':0 < v1:=by omega
  have e:v1*(u1*w2 - u2*w1)=u1*(v1*w2 - v2*w1)+w1*(u1*v2 - u2*v1):=by grind
  have p1:=AX (show 0≤u1 by omega) h2
  by_cases hw1:w1=0
  ·subst hw1
   have hw2:0 < w2:=by omega
   have hu1:0 < u1:=by
    rcases hu with h |⟨h,h'⟩
    ·exact h
    ·subst h
     have:=Br h' hv'
     simp at h1;omega
   have:=Br hu1 hw2
   simp;omega
  ·have p2:=Br (show 0 < w1 by omega) h1
   have:0 < v1*(u1*w2 - u2*w1):=by omega
   exact Cy this (by omega)
def j_:List Pt→Prop
 |b::a::r=>plt a b∧j_ (a::r)
 |_=>True
def Turns:List Pt→Prop
 |c::b::a::r=>0 < aq a b c∧Turns (b::a::r)
 |_=>True
def fM (done:List Pt):List Pt→Prop
 |b::a::r=>(∀q∈done,0≤aq a b q)∧fM done (a::r)
 |_=>True
theorem Turns.tail:∀{b:Pt}{st:List Pt},Turns (b::st)→Turns st
 |_,[],_=>trivial
 |_,[_],_=>trivial
 |_,_::_::_,h=>h.2
theorem j_.tail:∀{b:Pt}{st:List Pt},j_ (b::st)→j_ st
 |_,[],_=>trivial
 |_,_::_,h=>h.2
theorem fM.tail {done:List Pt}:∀{b:Pt}{st:List Pt},fM done (b::st)→fM done st
 |_,[],_=>trivial
 |_,_::_,h=>h.2
def aZ (P:Pt):List Pt→List Pt
 |b::a::r=>if aq a b P≤0 then aZ P (a::r) else b::a::r
 |st=>st
def ai (row:List Pt):List Pt:=row.foldl (fun st P=>P::aZ P st) []
structure Kept (done st:List Pt):Prop where
 ne:st≠[]
 desc:j_ st
 turns:Turns st
 cover:fM done st
 sub:∀p∈st,p∈done
structure oZ (done st:List Pt) (P:Pt):Prop extends Kept done st where
 pend:∀h r,st=h::r→∀q∈done,plt h q→0≤aq h P q
theorem pN {done:List Pt}{P b a:Pt}{r:List Pt} (hP:∀q∈done,plt q P) (D:oZ done (b::a::r) P) (h:aq a b P≤0):oZ done (a::r) P:=by
 refine ⟨⟨by simp,D.desc.tail,D.turns.tail,D.cover.tail,fun p hp=>D.sub p (yM _ hp)⟩,?_⟩
 intro h' r' e q hq hlt
 cases e
 have hab:=D.desc.1
 have hq':=D.cover.1 q hq
 have hbP:=hP b (D.sub b yV)
 have hqP:=hP q hq
 rcases j7 q b with z |z |z
 ·have l1:=bj hlt
  have l2:=bj hab
  have l3:=bj (bW hab hbP)
  have:=e_ (u1:=P.1 - a.1) (u2:=P.2 - a.2) (v1:=b.1 - a.1) (v2:=b.2 - a.2) (w1:=q.1 - a.1) (w2:=q.2 - a.2) l3 l2 l1 (by unfold aq at h;grind) (by unfold aq at hq';grind)
  unfold aq;grind
 ·subst z;unfold aq at *;grind
 ·have p:=D.pend b _ rfl q hq z
  unfold aq at *
  grind
theorem lI {done:List Pt}{P:Pt} (hP:∀q∈done,plt q P):∀st:List Pt,oZ done st P→oZ done (aZ P st) P∧(∀b a r,aZ P st=b::a::r→0 < aq a b P)∧(st.getLast?=(aZ P st).getLast?)
 |[],D=>absurd rfl D.ne
 |[b],D=>⟨D,fun _ _ _ e=>by simp[aZ] at e,rfl⟩
 |b::a::r,D=>by
  by_cases h:aq a b P≤0
  ·rw[aZ,if_pos h]
   obtain ⟨h1,h2,h3⟩:=lI hP (a::r) (pN hP D h)
   exact ⟨h1,h2,by rw[←h3];simp⟩
  ·rw[aZ,if_neg h]
   refine ⟨D,fun b' a' r' e=>?_,rfl⟩
   cases e;omega
theorem oz {done st:List Pt}{P:Pt} (hP:∀q∈done,plt q P) (D:oZ done st P) (ht:∀b a r,st=b::a::r→0 < aq a b P) (hmin:∀x,st=[x]→∀q∈done,q=x∨plt x q):Kept (done++[P]) (P::st):=by
 have up:∀(b:Pt) (r:List Pt),j_ (b::r)→Turns (b::r)→fM done (b::r)→plt b P→(∀a r',r=a::r'→0≤aq a b P)→fM (done++[P]) (b::r):=by
  intro b r
  induction r generalizing b with
  |nil=>intro _ _ _ _ _;trivial
  |cons a r ih=>
   intro hd htn hc hbP hl
   refine ⟨fun q hq=>?_,?_⟩
   ·rcases AY.mp hq with z |z
    ·exact hc.1 q z
    ·rw[zZ.mp z];exact hl a r rfl
   ·refine ih a hd.tail htn.tail hc.tail (bW hd.1 hbP) (fun c r' e=>?_)
    subst e
    have t:=htn.1
    have g:=hl a _ rfl
    have l1:=bj hd.2.1
    have l2:=bj hd.1
    have l3:=bj (bW hd.1 hbP)
    have:=e_ (u1:=a.1 - c.1) (u2:=a.2 - c.2) (v1:=b.1 - a.1) (v2:=b.2 - a.2) (w1:=P.1 - a.1) (w2:=P.2 - a.2) l1 l2 l3 (by unfold aq at t;grind) (by unfold aq at g;grind)
    unfold aq;grind
 obtain ⟨h,r,e⟩:∃h r,st=h::r:=by
  cases hst:st with
  |nil=>exact absurd hst D.ne
  |cons h r=>exact ⟨h,r,rfl⟩
 subst e
 have hhP:=hP h (D.sub h yV)
 refine ⟨by simp,⟨hhP,D.desc⟩,?_,⟨fun q hq=>?_,?_⟩,fun p hp=>?_⟩
 ·cases r with
  |nil=>trivial
  |cons a r'=>exact ⟨ht h a r' rfl,D.turns⟩
 ·rcases AY.mp hq with z |z
  ·rcases j7 q h with y |y |y
   ·cases r with
    |nil=>
     rcases hmin h rfl q z with w |w
     ·subst w;exact absurd y (bp _)
     ·exact absurd (bW y w) (bp _)
    |cons a r'=>
     have t:=ht h a r' rfl
     have c:=D.cover.1 q z
     have l1:=bj D.desc.1
     have l2:=bj y
     have l3:=bj hhP
     have:=e_ (u1:=h.1 - q.1) (u2:=h.2 - q.2) (v1:=h.1 - a.1) (v2:=h.2 - a.2) (w1:=P.1 - h.1) (w2:=P.2 - h.2) l2 l1 l3 (by unfold aq at c;grind) (by unfold aq at t;grind)
     unfold aq;grind
   ·subst y;unfold aq;grind
   ·exact D.pend h r rfl q z y
  ·rw[zZ.mp z];unfold aq;grind
 ·exact up h r D.desc D.turns D.cover hhP (fun a r' e=>Int.le_of_lt (ht h a r' (by rw[e])))
 ·rcases yP.mp hp with z |z
  ·subst z;exact yS _ yV
  ·exact Ak _ (D.sub p z)
theorem iJ (row:List Pt) (P:Pt):ai (row++[P])=P::aZ P (ai row):=by
 unfold ai;rw[List.foldl_append];rfl
theorem iG {row:List Pt} (hs:row.Pairwise plt):∀n,0 < n→n≤row.length→Kept (row.take n) (ai (row.take n))∧(ai (row.take n)).getLast?=row.head?∧(ai (row.take n)).head?=row[n - 1]?
 |0,h,_=>absurd h (by decide)
 |1,_,h=>by
  cases row with
  |nil=>simp at h
  |cons a r=>
   simp only[List.take_succ_cons,E5]
   exact ⟨⟨by simp[ai],trivial,trivial,trivial,fun p hp=>by simpa [ai,aZ] using hp⟩,rfl,rfl⟩
 |n+2,_,h=>by
  obtain ⟨K,hl,hh⟩:=iG hs (n+1) (by omega) (by omega)
  have hn:n+1 < row.length:=by omega
  have et:row.take (n+2)=row.take (n+1)++[row[n+1]]:=by rw[List.take_succ_eq_append_getElem hn]
  have hP:∀q∈row.take (n+1),plt q row[n+1]:=fun q hq=>by
   obtain ⟨i,hi,e⟩:=Cg.mp hq
   subst e
   exact zg.mp hs i (n+1) (by omega) hn (by omega)
  have D:oZ (row.take (n+1)) (ai (row.take (n+1))) row[n+1]:=⟨K,fun h' r e q hq hlt=>by
   exfalso
   rw[e] at hh
   simp only[GH,Fy] at hh
   have hn':n < row.length:=by omega
   rw[yD hn'] at hh
   have hh':=zU hh
   obtain ⟨i,hi,e2⟩:=Cg.mp hq
   subst e2
   rw[hh'] at hlt
   rcases AV i n with z |z
   ·exact bp _ (bW hlt (zg.mp hs i n (by omega) hn' z))
   ·have:i=n:=by omega
    subst this
    exact bp _ hlt⟩
  obtain ⟨D2,ht,hlast⟩:=lI hP _ D
  rw[et,iJ]
  refine ⟨oz hP D2 ht (fun x e q hq=>?_),?_,?_⟩
  ·rw[e,hl] at hlast
   simp at hlast
   obtain ⟨i,hi,e2⟩:=Cg.mp hq
   have h0:0 < row.length:=by omega
   have e3:row[0]=x:=by
    rw[BX,yD h0] at hlast
    exact zU hlast
   subst e2
   rcases DE i with z |z
   ·subst z;exact .inl e3
   ·right;rw[←e3];exact zg.mp hs 0 i h0 (by omega) z
  ·rw[List.getLast?_cons,←hlast,hl]
   cases row with
   |nil=>simp at hn
   |cons a r=>rfl
  ·simp only[GH,Fy]
   rw[show n+2 - 1=n+1 by omega,yD hn]
theorem bV {row:List Pt} (hs:row.Pairwise plt) (h:row≠[]):Kept row (ai row)∧(ai row).getLast?=row.head?∧(ai row).head?=row.getLast?:=by
 have h0:0 < row.length:=Cq.mpr h
 obtain ⟨h1,h2,h3⟩:=iG hs row.length h0 (yO _)
 rw[BV] at h1 h2 h3
 exact ⟨h1,h2,by rw[h3,AL]⟩
theorem ie {u1 u2 v1 v2 w1 w2:Int} (hu:lpos u1 u2) (hv:lpos v1 v2) (hw:lpos w1 w2) (h1:0≤u1*v2 - u2*v1) (h2:0 < v1*w2 - v2*w1):0 < u1*w2 - u2*w1:=by
 unfold lpos at *
 by_cases hv1:v1=0
 ·subst hv1
  have hv2:0 < v2:=by omega
  have:=AX (show 0≤v2 by omega) (show 0≤w1 by omega)
  simp at h2;omega
 ·have hv':0 < v1:=by omega
  have hu1:0 < u1:=by
   rcases hu with h |⟨h,h'⟩
   ·exact h
   ·subst h
    have:=Br h' hv'
    simp at h1;omega
  have e:v1*(u1*w2 - u2*w1)=u1*(v1*w2 - v2*w1)+w1*(u1*v2 - u2*v1):=by grind
  have p1:=Br hu1 h2
  have p2:=AX (show 0≤w1 by omega) h1
  have q:0 < v1*(u1*w2 - u2*w1):=by omega
  exact Cy q hv'
def low (row:List Pt) (p:Pt):Prop:=∀a∈row,∀b∈row,plt a p→plt p b→0 < aq a p b
theorem vf {row:List Pt}{p:Pt}:∀(st:List Pt) (n:Pt),j_ (n::st)→Turns (n::st)→fM row (n::st)→p∈st→(∀l,(n::st).getLast?=some l→plt l p)→
  ∃n' q,0 < aq q p n'∧plt q p∧plt p n'∧(∀x∈row,0≤aq p n' x)∧(∀x∈row,0≤aq q p x)
 |[],n,_,_,_,hp,_=>by simp at hp
 |h::r,n,D,T,C,hp,hl=>by
  by_cases e:h=p
  ·subst e
   cases r with
   |nil=>exact absurd (hl h (by simp)) (bp h)
   |cons q r'=>exact ⟨n,q,T.1,D.2.1,D.1,C.1,C.2.1⟩
  ·have hp':p∈r:=by
    rcases yP.mp hp with z |z
    ·exact absurd z.symm e
    ·exact z
   exact vf r h D.tail T.tail C.tail hp' (fun l hl'=>hl l (by rw[BU];exact hl'))
theorem jZ {row:List Pt} (hs:row.Pairwise plt) {p:Pt} (hp:p∈ai row):low row p:=by
 intro a ha b hb hap hpb
 have hne:row≠[]:=fun z=>by rw[z] at ha;simp at ha
 obtain ⟨K,hlast,hhead⟩:=bV hs hne
 have mn:∀x∈row,∀m,row.head?=some m→x=m∨plt m x:=fun x hx m hm=>by
  cases row with
  |nil=>simp at hx
  |cons y r=>
   cases hm
   rcases yP.mp hx with z |z
   ·exact .inl z
   ·exact .inr ((z7.mp hs).1 x z)
 have mx:∀x∈row,∀m,row.getLast?=some m→x=m∨plt x m:=fun x hx m hm=>by
  obtain ⟨i,hi⟩:=AU.mp hx
  have hil:=(yU.mp hi).1
  rw[AL] at hm
  have hml:=(yU.mp hm).1
  rcases zD (show i≤row.length - 1 by omega) with z |z
  ·right
   have h1:=zg.mp hs i (row.length - 1) hil hml z
   rw[(yU.mp hi).2,(yU.mp hm).2] at h1
   exact h1
  ·left;rw[z,hm] at hi;exact (zU hi).symm
 cases hst:ai row with
 |nil=>exact absurd hst K.ne
 |cons n st=>
  rw[hst] at K hlast hhead hp
  have hn:row.getLast?=some n:=by rw[←hhead];rfl
  have hpn:p∈st:=by
   rcases yP.mp hp with z |z
   ·rcases mx b hb n hn with y |y
    ·rw[y,←z] at hpb;exact absurd hpb (bp p)
    ·rw[z] at hpb;exact absurd (bW hpb y) (bp n)
   ·exact z
  obtain ⟨n',q,t,qp,pn,c1,c2⟩:=vf st n K.desc K.turns K.cover hpn (fun l hl=>by
   rw[hlast] at hl
   rcases mn a ha l hl with y |y
   ·rw[←y];exact hap
   ·exact bW y hap)
  have g1:=c2 a ha
  have g2:=c1 b hb
  unfold aq at *
  have k1:0≤(p.1 - a.1) *(p.2 - q.2) - (p.2 - a.2) *(p.1 - q.1):=by grind
  have k2:0 < (p.1 - q.1) *(n'.2 - p.2) - (p.2 - q.2) *(n'.1 - p.1):=by grind
  have k3:0≤(n'.1 - p.1) *(b.2 - p.2) - (n'.2 - p.2) *(b.1 - p.1):=by grind
  have k4:=iV (bj qp) (bj pn) (bj hpb) k2 k3
  have k5:=ie (bj hap) (bj qp) (bj hpb) k1 k4
  grind
theorem qB {row:List Pt}{p:Pt}:∀(st:List Pt) (h:Pt),j_ (h::st)→fM row (h::st)→p∈row→p ∉ h::st→plt p h→(∀l,(h::st).getLast?=some l→plt l p)→∃a∈h::st,∃b∈h::st,plt a p∧plt p b∧0≤aq a b p
 |[],h,_,_,_,_,hp,hl=>absurd (bW hp (hl h (by simp))) (bp p)
 |a::r,h,D,C,hr,hno,hp,hl=>by
  rcases j7 p a with z |z |z
  ·obtain ⟨x,hx,y,hy,k⟩:=qB r a D.tail C.tail hr (fun w=>hno (yM _ w)) z (fun l hl'=>hl l (by rw[BU];exact hl'))
   exact ⟨x,yM _ hx,y,yM _ hy,k⟩
  ·exact absurd (by rw[z];simp) hno
  ·exact ⟨a,by simp,h,by simp,z,hp,C.1 p hr⟩
theorem gap {row:List Pt} (hs:row.Pairwise plt) {p:Pt} (hp:p∈row) (hno:p ∉ ai row):∃a∈ai row,∃b∈ai row,plt a p∧plt p b∧aq a p b≤0:=by
 have hne:row≠[]:=fun z=>by rw[z] at hp;simp at hp
 obtain ⟨K,hlast,hhead⟩:=bV hs hne
 cases hst:ai row with
 |nil=>exact absurd hst K.ne
 |cons n st=>
  rw[hst] at K hlast hhead hno
  have hn:row.getLast?=some n:=by rw[←hhead];rfl
  have pn:plt p n:=by
   obtain ⟨i,hi⟩:=AU.mp hp
   have hil:=(yU.mp hi).1
   rw[AL] at hn
   have hml:=(yU.mp hn).1
   rcases zD (show i≤row.length - 1 by omega) with z |z
   ·have h1:=zg.mp hs i (row.length - 1) hil hml z
    rw[(yU.mp hi).2,(yU.mp hn).2] at h1
    exact h1
   ·rw[z,hn] at hi;exact absurd (by rw[←zU hi];simp) hno
  obtain ⟨a,ha,b,hb,k1,k2,k3⟩:=qB st n K.desc K.cover hp hno pn (fun l hl=>by
   have hl':=hl
   rw[hlast] at hl
   cases row with
   |nil=>simp at hp
   |cons y r=>
    cases hl
    rcases yP.mp hp with z |z
    ·exact absurd (by rw[z];exact Cc hl') hno
    ·exact (z7.mp hs).1 p z)
  refine ⟨a,ha,b,hb,k1,k2,?_⟩
  unfold aq at *
  grind
theorem oD {row row':List Pt} (hs:row.Pairwise plt) (hs':row'.Pairwise plt) (h1:∀p∈row',p∈row) (h2:∀p∈ai row,p∈row') (sub:∀(r:List Pt) (q:Pt),q∈ai r→q∈r) (p:Pt):p∈ai row'↔p∈ai row:=by
 constructor
 ·intro hp
  refine AK fun hno=>?_
  obtain ⟨a,ha,b,hb,k1,k2,k3⟩:=gap hs (h1 p (sub _ _ hp)) hno
  have:=jZ hs' hp a (h2 a ha) b (h2 b hb) k1 k2
  omega
 ·intro hp
  refine AK fun hno=>?_
  obtain ⟨a,ha,b,hb,k1,k2,k3⟩:=gap hs' (h2 p hp) hno
  have:=jZ hs hp a (h1 a (sub _ _ ha)) b (h1 b (sub _ _ hb)) k1 k2
  omega
abbrev Szp (m:Nat) (p:P2):Prop:=Sz m p.1∧Sz m p.2
theorem vd (b:P2) (r:List P2):atI ((b::r).reverse.map pu) (-1)=some (pu b):=by
 have h:ixN ((b::r).reverse.map pu).length (-1)=some r.length:=by
  unfold ixN
  simp
  omega
 unfold atI
 rw[h]
 simp
theorem u8 (b a:P2) (r:List P2):atI ((b::a::r).reverse.map pu) (-2)=some (pu a):=by
 have h:ixN ((b::a::r).reverse.map pu).length (-2)=some r.length:=by
  unfold ixN
  simp
  omega
 unfold atI
 rw[h]
 simp
theorem il (P:P2):∀st:List P2,(aZ P st).length≤st.length
 |[]=>yO _
 |[_]=>yO _
 |b::a::r=>by
  unfold aZ
  split
  ·have:=il P (a::r);simp only[zH] at *;omega
  ·exact yO _
theorem nV (P:P2):∀(st:List P2) (q:P2),q∈aZ P st→q∈st
 |[],_,h=>h
 |[_],_,h=>h
 |b::a::r,q,h=>by
  unfold aZ at h
  split at h
  ·exact yM _ (nV P (a::r) q h)
  ·exact h
theorem dW {row:List P2}{i:Nat}{P:P2} (h:row[i]?=some P):ai (row.take (i+1))=P::aZ P (ai (row.take i)):=by
 rw[Ce,h];exact iJ _ _
theorem fz (row:List P2):∀i,(ai (row.take i)).length≤i
 |0=>by simp[ai]
 |i+1=>by
  have ih:=fz row i
  cases h:row[i]? with
  |none=>rw[Ce,h];simp;omega
  |some P=>
   rw[dW h]
   have:=il P (ai (row.take i))
   simp only[zH];omega
theorem dP (row:List P2):∀i q,q∈ai (row.take i)→q∈row
 |0,q,h=>by simp[ai] at h
 |i+1,q,h=>by
  cases hi:row[i]? with
  |none=>rw[Ce,hi] at h;exact dP row i q (by simpa using h)
  |some P=>
   rw[dW hi] at h
   rcases yP.mp h with e |e
   ·rw[e];exact zi hi
   ·exact dP row i q (nV P _ q e)
theorem rH (n:Int):decide (sgn n < 1)=decide (n≤0):=by
 have h:sgn n < 1↔n≤0:=by
  unfold sgn
  split
  ·omega
  ·split <;>omega
 exact decide_eq_decide.mpr h
theorem fZ (l:List P2):d9 (l.map pu) none (some (-1))=l.dropLast.map pu:=by
 unfold d9 HT.sIx
 rw[DY,List.dropLast_eq_take]
 simp
 try omega
def ak (pts:List P2):List P2:=if (ST.srt pts).length=1 then ST.srt pts else (ai (ST.srt pts)).reverse.dropLast++(ai (ST.srt pts).reverse).reverse.dropLast
theorem j9 (a b:Pt):plt a b↔ST.ltP a b=true:=by unfold plt ST.ltP;simp
theorem gx {l:List Pt}:ST.Asc l↔l.Pairwise plt:=⟨fun h=>h.imp fun {a b} k=>(j9 a b).mpr k,fun h=>h.imp fun {a b} k=>(j9 a b).mp k⟩
theorem jL:∀{st:List Pt},j_ st→st.Pairwise (fun x y=>plt y x)
 |[],_=>B_
 |[_],_=>by simp
 |b::a::r,h=>by
  have ih:=jL h.2
  refine z7.mpr ⟨fun x hx=>?_,ih⟩
  rcases yP.mp hx with z |z
  ·rw[z];exact h.1
  ·exact bW ((z7.mp ih).1 x z) h.1
theorem bT (row:List Pt) (q:Pt) (h:q∈ai row):q∈row:=by
 have:=dP row row.length q
 rw[BV] at this
 exact this h
theorem c_ {row:List Pt} (hs:row.Pairwise plt):ST.Asc (ai row).reverse:=by
 by_cases hne:row=[]
 ·subst hne;exact B_
 ·exact gx.mpr (C_.mpr (jL (bV hs hne).1.desc))
theorem kU {row row':List Pt} (hs:row.Pairwise plt) (hs':row'.Pairwise plt) (h1:∀p∈row',p∈row) (h2:∀p∈ai row,p∈row'):ai row'=ai row:=by
 have e:=ST.asc_one (c_ hs') (c_ hs) fun z=>by
  rw[y6,y6]
  exact oD hs hs' h1 h2 bT z
 exact List.reverse_inj.mp e
def ng (p:Pt):Pt:=(-p.1,-p.2)
theorem fO (p:Pt):ng (ng p)=p:=by unfold ng;simp
theorem wS (l:List Pt):(l.map ng).map ng=l:=by
 rw[zX,show ng ∘ ng=id from funext fO,List.map_id]
theorem iY (a b c:Pt):aq (ng a) (ng b) (ng c)=aq a b c:=by unfold aq ng;grind
theorem iC {a b:Pt} (h:plt a b):plt (ng b) (ng a):=by unfold plt ng at *;simp;omega
theorem rh (P:Pt):∀st:List Pt,aZ (ng P) (st.map ng)=(aZ P st).map ng
 |[]=>rfl
 |[_]=>rfl
 |b::a::r=>by
  show aZ (ng P) (ng b::ng a::r.map ng)=_
  unfold aZ
  rw[iY]
  split
  ·exact rh P (a::r)
  ·rfl
theorem eI:∀row:List Pt,ai (row.map ng)=(ai row).map ng:=fun row=>by
 have key:∀(l:List Pt) (st:List Pt),(l.map ng).foldl (fun st P=>P::aZ P st) (st.map ng)=(l.foldl (fun st P=>P::aZ P st) st).map ng:=by
  intro l
  induction l with
  |nil=>intro st;rfl
  |cons p r ih=>
   intro st
   rw[Aa,CG,CG,rh]
   exact ih (p::aZ p st)
 exact key row []
theorem cn {row:List Pt} (hs:row.Pairwise plt):(row.reverse.map ng).Pairwise plt:=by
 rw[Av,C_]
 exact hs.imp fun {a b} h=>iC h
theorem bO (row:List Pt):ai row.reverse=(ai (row.reverse.map ng)).map ng:=by rw[eI,wS]
theorem kD {row row':List Pt} (hs:row.Pairwise plt) (hs':row'.Pairwise plt) (h1:∀p∈row',p∈row) (h2:∀p∈ai row.reverse,p∈row'):ai row'.reverse=ai row.reverse:=by
 rw[bO row,bO row']
 congr 1
 refine kU (cn hs) (cn hs') (fun p hp=>?_) (fun p hp=>?_)
 ·obtain ⟨q,hq,rfl⟩:=y8.mp hp
  exact y8.mpr ⟨q,y6.mpr (h1 q (y6.mp hq)),rfl⟩
 ·rw[eI] at hp
  obtain ⟨q,hq,rfl⟩:=y8.mp hp
  exact y8.mpr ⟨q,y6.mpr (h2 q hq),rfl⟩
theorem ends {row:List Pt} (hs:row.Pairwise plt) (h2:2≤row.length):∃mn mx t1 t2,ai row=mx::t1∧ai row.reverse=mn::t2∧mn∈t1∧mx∈t2∧(∀p∈row,p=mn∨plt mn p)∧(∀p∈row,p=mx∨plt p mx)∧mn∈row∧mx∈row:=by
 have hne:row≠[]:=fun z=>by rw[z] at h2;simp at h2
 obtain ⟨K,hl,hh⟩:=bV hs hne
 have hneR:row.reverse.map ng≠[]:=by simpa using hne
 obtain ⟨KR,hlR,hhR⟩:=bV (cn hs) hneR
 have e1:row.head?=some row[0]:=by rw[BX];exact yD (by omega)
 have e2:row.getLast?=some row[row.length - 1]:=by rw[AL];exact yD (by omega)
 have l01:plt row[0] row[row.length - 1]:=zg.mp hs 0 (row.length - 1) (by omega) (by omega) (by omega)
 have mnA:∀p∈row,p=row[0]∨plt row[0] p:=fun p hp=>by
  obtain ⟨i,hi,rfl⟩:=BG.mp hp
  rcases DE i with z |z
  ·left;subst z;rfl
  ·right;exact zg.mp hs 0 i (by omega) hi z
 have mxA:∀p∈row,p=row[row.length - 1]∨plt p row[row.length - 1]:=fun p hp=>by
  obtain ⟨i,hi,rfl⟩:=BG.mp hp
  rcases zD (show i≤row.length - 1 by omega) with z |z
  ·right;exact zg.mp hs i (row.length - 1) hi (by omega) z
  ·left;subst z;rfl
 have ne:row[0]≠row[row.length - 1]:=fun z=>by rw[z] at l01;exact bp _ l01
 generalize row[0]=mn at *
 generalize row[row.length - 1]=mx at *
 have mmn:mn∈row:=List.mem_of_head? e1
 have mmx:mx∈row:=Cc e2
 rw[e1] at hl
 rw[e2] at hh
 have hlR':(ai row.reverse).getLast?=some mx:=by
  rw[bO,CV,hlR,DK,Fz,e2];simp[fO]
 have hhR':(ai row.reverse).head?=some mn:=by
  rw[bO,DK,hhR,CV,Da,e1];simp[fO]
 cases hb:ai row with
 |nil=>rw[hb] at hh;cases hh
 |cons x t1=>
  rw[hb] at hh hl
  cases hh
  cases hbR:ai row.reverse with
  |nil=>rw[hbR] at hhR';cases hhR'
  |cons y t2=>
   rw[hbR] at hhR' hlR'
   cases hhR'
   refine ⟨_,_,t1,t2,rfl,rfl,?_,?_,mnA,mxA,mmn,mmx⟩
   ·cases t1 with
    |nil=>simp at hl;exact absurd hl.symm ne
    |cons z r=>rw[BU] at hl;exact Cc hl
   ·cases t2 with
    |nil=>simp at hlR';exact absurd hlR' ne
    |cons z r=>rw[BU] at hlR';exact Cc hlR'
theorem sq (st:List Pt):st.reverse.dropLast=st.tail.reverse:=by
 cases st with
 |nil=>rfl
 |cons h t=>simp
theorem ft {l:List Pt}:l.reverse.Nodup↔l.Nodup:=by
 unfold List.Nodup
 rw[C_]
 exact ⟨fun h=>h.imp fun k=>Ne.symm k,fun h=>h.imp fun k=>Ne.symm k⟩
theorem gM:∀{l m:List Pt},l.Nodup→(∀x∈l,x∈m)→l.length≤m.length
 |[],_,_,_=>zW _
 |x::l,m,h,hs=>by
  obtain ⟨h1,h2⟩:=Bm.mp h
  have hx:x∈m:=hs x yV
  have ih:=gM (m:=m.erase x) h2 fun y hy=>(EW (fun e=>h1 (by rw[←e];exact hy))).mpr (hs y (yM _ hy))
  rw[DZ hx] at ih
  have:=Bu hx
  simp only[zH];omega
theorem dn (pts:List Pt):(ST.srt pts).Pairwise plt:=gx.mp (ST.srt_asc pts)
theorem d_ {pts:List Pt} (h:2≤(ST.srt pts).length):ak pts=(ai (ST.srt pts)).tail.reverse++(ai (ST.srt pts).reverse).tail.reverse:=by
 unfold ak;rw[if_neg (by omega),sq,sq]
theorem tK {pts:List Pt} (h:pts≠[]):ak pts≠[]:=by
 have hs:ST.srt pts≠[]:=fun z=>by
  obtain ⟨p,r,rfl⟩:=List.exists_cons_of_ne_nil h
  have:=(ST.srt_mem p (p::r)).mpr yV
  rw[z] at this;simp at this
 by_cases h1:(ST.srt pts).length=1
 ·unfold ak;rw[if_pos h1];exact hs
 ·have h2:2≤(ST.srt pts).length:=by have:=Cq.mpr hs;omega
  obtain ⟨mn,mx,t1,t2,e1,e2,m1,m2,_⟩:=ends (dn pts) h2
  rw[d_ h2,e1,e2]
  intro z
  have:t1.reverse=[]:=(List.append_eq_nil_iff.mp z).1
  rw[List.reverse_eq_nil_iff.mp this] at m1
  simp at m1
theorem d0 (pts:List Pt):(ak pts).Nodup:=by
 have nd:∀{l:List Pt},l.Pairwise plt→l.Nodup:=fun h=>h.imp fun {a b} k e=>by rw[e] at k;exact bp b k
 by_cases h2:2≤(ST.srt pts).length
 ·have hs:=dn pts
  obtain ⟨mn,mx,t1,t2,e1,e2,m1,m2,hmn,hmx,i1,i2⟩:=ends hs h2
  have n1:(mx::t1).Nodup:=by rw[←e1];exact ft.mp (nd (gx.mp (c_ hs)))
  have n2:(mn::t2).Nodup:=by
   rw[←e2,bO]
   have:=ft.mp (nd (gx.mp (c_ (cn hs))))
   refine Av.mpr (this.imp fun {a b} hab e=>hab ?_)
   rw[←fO a,e,fO]
  obtain ⟨x1,y1⟩:=Bm.mp n1
  obtain ⟨x2,y2⟩:=Bm.mp n2
  rw[d_ h2,e1,e2,BE,BE,DW]
  refine ⟨ft.mpr y1,ft.mpr y2,fun p hp q hq=>?_⟩
  rintro rfl
  have p1:p∈t1:=y6.mp hp
  have p2:p∈t2:=y6.mp hq
  have b1:p∈ai (ST.srt pts):=by rw[e1];exact yM _ p1
  have b2:p∈ai (ST.srt pts).reverse:=by rw[e2];exact yM _ p2
  have pr:=bT _ _ b1
  have l1:plt mn p:=(hmn p pr).resolve_left fun e=>x2 (by rw[←e];exact p2)
  have l2:plt p mx:=(hmx p pr).resolve_left fun e=>x1 (by rw[←e];exact p1)
  have d1:=jZ hs b1 mn i1 mx i2 l1 l2
  have b3:ng p∈ai ((ST.srt pts).reverse.map ng):=by rw[eI];exact y8.mpr ⟨p,b2,rfl⟩
  have d2:=jZ (cn hs) b3 (ng mx) (y8.mpr ⟨mx,y6.mpr i2,rfl⟩) (ng mn) (y8.mpr ⟨mn,y6.mpr i1,rfl⟩) (iC l2) (iC l1)
  rw[iY] at d2
  unfold aq at d1 d2
  grind
 ·unfold ak
  split
  ·exact nd (dn pts)
  ·have e:ST.srt pts=[]:=AZ.mp (by omega)
   rw[e];exact List.nodup_nil
theorem eu (pts:List Pt):∀p∈ak pts,p∈pts:=fun p hp=>by
 unfold ak at hp
 split at hp
 ·exact (ST.srt_mem p pts).mp hp
 ·rcases AY.mp hp with h |h
  ·exact (ST.srt_mem p pts).mp (bT _ _ (y6.mp (EY _ h)))
  ·exact (ST.srt_mem p pts).mp (y6.mp (bT _ _ (y6.mp (EY _ h))))
theorem o8 (pts:List Pt):ak (ak pts)=ak pts:=by
 by_cases h2:2≤(ST.srt pts).length
 ·have hs:=dn pts
  obtain ⟨mn,mx,t1,t2,e1,e2,m1,m2,hmn,hmx,i1,i2⟩:=ends hs h2
  have ec:=d_ h2
  have mem1:∀p∈ai (ST.srt pts),p∈ak pts:=fun p hp=>by
   rw[ec,e1,e2,BE,BE]
   rw[e1] at hp
   rcases yP.mp hp with z |z
   ·rw[z];exact yS _ (y6.mpr m2)
   ·exact Ak _ (y6.mpr z)
  have mem2:∀p∈ai (ST.srt pts).reverse,p∈ak pts:=fun p hp=>by
   rw[ec,e1,e2,BE,BE]
   rw[e2] at hp
   rcases yP.mp hp with z |z
   ·rw[z];exact Ak _ (y6.mpr m1)
   ·exact yS _ (y6.mpr z)
  have hs':=dn (ak pts)
  have sub:∀p∈ST.srt (ak pts),p∈ST.srt pts:=fun p hp=>(ST.srt_mem p pts).mpr (eu pts p ((ST.srt_mem p _).mp hp))
  have q1:=kU hs hs' sub fun p hp=>(ST.srt_mem p _).mpr (mem1 p hp)
  have q2:=kD hs hs' sub fun p hp=>(ST.srt_mem p _).mpr (mem2 p hp)
  have len:2≤(ST.srt (ak pts)).length:=by
   have a1:mn∈ST.srt (ak pts):=(ST.srt_mem _ _).mpr (mem1 mn (by rw[e1];exact yM _ m1))
   have a2:mx∈ST.srt (ak pts):=(ST.srt_mem _ _).mpr (mem1 mx (by rw[e1];exact yV))
   have ne:mn≠mx:=fun z=>by
    have nd:=d0 pts
    rw[ec,e1,e2,BE,BE,DW] at nd
    exact nd.2.2 mn (y6.mpr m1) mx (y6.mpr m2) z
   have:=gM (l:=[mn,mx]) (m:=ST.srt (ak pts)) (by simp[ne]) (fun x hx=>by
    rcases yP.mp hx with z |z
    ·rw[z];exact a1
    ·rw[zZ.mp z];exact a2)
   exact this
  rw[d_ len,q1,q2,←ec]
 ·have e:ak pts=ST.srt pts:=by
   unfold ak
   split
   ·rfl
   ·have e:ST.srt pts=[]:=AZ.mp (by omega)
    rw[e];rfl
  rw[e]
  have e3:ST.srt (ST.srt pts)=ST.srt pts:=ST.asc_srt (ST.srt_asc pts)
  unfold ak
  rw[e3]
  split
  ·rfl
  ·have e:ST.srt pts=[]:=AZ.mp (by omega)
   rw[e];rfl
end
section
variable {P:yT}{w:World}{K:yH}{mg:Str→Option Value}{base:Heap}
def pD:List U→Out→Prop:=fun us o=>∃P Q R:P2,us=[pu P,pu Q,pu R]∧Szp 5000 P∧Szp 5000 Q∧Szp 5000 R∧o=.val (.int (sgn (aq P Q R)))
theorem ud (T:Txt K mg):bD P w K mg base (CXF P w) 2 T.a_turn T.d_turn ["P","Q","R"] (spU K (pD)):=by
 refine bM T.F_turn tX (fun us o h=>?_) (fun cdv A outer s H E O us o hr h=>?_)
 ·obtain ⟨P,Q,R,rfl,⟨p1,p2⟩,⟨q1,q2⟩,⟨r1,r2⟩,rfl⟩:=h
  rfl
 obtain ⟨P,Q,R,rfl,⟨p1,p2⟩,⟨q1,q2⟩,⟨r1,r2⟩,rfl⟩:=h
 refine Ws.nox ?_
 refine ae (bC (ar ((nL T).mono (by decide)) hr rfl T.m_sign T.F_sign.kp T.b_sign ay (ac (bB (bK (bB (aJ (aa 1 rfl) ab rfl rfl) (aJ (aa 0 rfl) ab rfl rfl)) (bB (aJ (aa 2 rfl) ab rfl rfl) (aJ (aa 0 rfl) ab rfl rfl)) (by walk_at "mul")) (bK (bB (aJ (aa 1 rfl) ab rfl rfl) (aJ (aa 0 rfl) ab rfl rfl)) (bB (aJ (aa 2 rfl) ab rfl rfl) (aJ (aa 0 rfl) ab rfl rfl)) (by walk_at "mul"))) ao bu) ⟨_,rfl,rfl⟩) ?_)
 exact rfl
def mE:List U→Out→Prop:=fun us o=>∃row:List P2,us=[lp row]∧(∀p∈row,Szp 5000 p)∧row.length≤900∧o=.new ((ai row).reverse.map pu)
theorem fV (T:Txt K mg):bD P w K mg base (CXF P w) 3 T.a_left_bends T.d_left_bends ["row"] (spU K (mE)):=by
 refine bM T.F_left_bends dz (fun us o h=>?_) (fun cdv A outer s H E O us o hr h=>?_)
 ·obtain ⟨row,rfl,sz,hl,rfl⟩:=h
  rfl
 obtain ⟨row,rfl,sz,hl,rfl⟩:=h
 refine Ws.nox ?_
 refine ae (jn (i:=1) dz.nd rfl (Or.inl rfl) (gK be) ?_)
 refine ae (i8 (fun st:List P2=>[some (.val (lp row)),some (.own (st.reverse.map pu)),none]) (fun i st=>st=ai (row.take i)) rfl PassesOwn.never (cP (aa 0 rfl) (.inl rfl)) ?h0 ?hs ?hd)
 case h0=>exact ⟨[],rfl,rfl,rfl,trivial⟩
 case hs=>
  rintro H0 i x _ hx rfl
  obtain ⟨P,hP,mP,rfl⟩:=qd hx
  have hi:i < row.length:=aC hP
  have sP:=sz P mP
  refine ⟨_,(iM (i:=2) dz.nd rfl (Or.inl rfl)),?_⟩
  have len0:=fz row i
  refine gL (fun ps=>SubP [some (.val (lp row)),some (.own ((aZ P (ai (row.take i))).reverse.map pu)),some (.val (pu P))] ps) (iN (fun s2:List P2=>[some (.val (lp row)),some (.own (s2.reverse.map pu)),some (.val (pu P))]) (fun m s2=>m=s2.length∧aZ P s2=aZ P (ai (row.take i))∧(∀p∈s2,p∈row)∧s2.length≤i) PassesOwn.never ?h0 ?hs) ?hj
  case h0=>exact ⟨_,_,⟨rfl,rfl,fun q hq=>dP row i q hq,len0⟩,rfl,rfl,rfl,trivial⟩
  case hs=>
   rintro m s2 ⟨rfl,e2,sub,len2⟩
   match s2,e2,sub,len2 with
   |[],e2,sub,len2=>
    refine ⟨false,?_,fun h=>(nomatch h),fun h ps hps=>e2 ▸ hps⟩
    exact (Tw.t (j0 (ba jc (fW 1 rfl rfl T.z_len) ab) rfl))
   |[b],e2,sub,len2=>
    refine ⟨false,?_,fun h=>(nomatch h),fun h ps hps=>e2 ▸ hps⟩
    exact (Tw.t (j0 (ba jc (fW 1 rfl rfl T.z_len) ab) rfl))
   |b::a::r,e2,sub,len2=>
    have sa:=sz a (sub a (by simp))
    have sb:=sz b (sub b (by simp))
    have e1:decide ((1:Int) < ((((b::a::r).reverse.map pu).length:Nat):Int))=true:=decide_eq_true (by simp;omega)
    refine ⟨decide ((1:Int) < ((((b::a::r).reverse.map pu).length:Nat):Int)) && decide (sgn (aq a b P) < 1),?_,fun h=>?_,fun h ps hps=>?_⟩
    ·exact (Tw.t (qo (ba jc (fW 1 rfl rfl T.z_len) ab) (fun hz=>(rS (ba oP (ar ((ud T).mono (by decide)) hr rfl T.m_turn T.F_turn.kp T.b_turn ay (ac (nj 1 rfl (cF ab) (u8 b a r)) (ac (nj 1 rfl (cF ab) (vd b (a::r))) (ac (aa 2 rfl) ao ag) bI) bI) ⟨a,b,P,rfl,sa,sb,sP,rfl⟩) ab)))))
    ·rw[e1,Dj,rH] at h
     have hd:=dTb h
     refine ae (uW 1 rfl (by simp) (a_ ?_))
     refine ⟨_,a::r,?_,⟨rfl,?_,fun q hq=>sub q (yM _ hq),?_⟩,rfl,?_,rfl,trivial⟩
     ·simp
     ·rw[←e2];conv=>rhs;unfold aZ
      rw[if_pos hd]
     ·simp only[zH] at *;omega
     ·exact congrArg (fun l=>some (Sl.own l)) (by simp)
    ·rw[e1,Dj,rH] at h
     have hd:=dFb h
     have e3:aZ P (b::a::r)=b::a::r:=by conv=>lhs;unfold aZ
                                        rw[if_neg hd]
     rw[←e2,e3]
     exact hps
  case hj=>
   intro ps hps
   refine d7 ?_ hps
   have e4:=dW hP
   have len3:=il P (ai (row.take i))
   refine ae (fk 1 rfl (aa 2 rfl) (by rw[yK,z_];exact aM (by omega)) (a_ ?_))
   refine ⟨_,rfl,rfl,?_,trivial⟩
   exact congrArg (fun l=>some (Sl.own l)) (by rw[e4];simp)
 case hd=>
  rintro st ps hst hps
  refine d7 ?_ hps
  refine ae (qW 1 rfl ?_)
  rw[hst]
  simp
theorem iI {pts:List Pt} (h:¬ 2≤(ST.srt pts).length):ak pts=ST.srt pts:=by
 unfold ak
 split
 ·rfl
 ·have e:ST.srt pts=[]:=AZ.mp (by omega)
  rw[e];rfl
section
variable {f:Pt→Pt}
theorem tP (hf:∀a b,plt a b→plt (f a) (f b)) (l:List Pt):ST.srt (l.map f)=(ST.srt l).map f:=by
 refine ST.asc_one (ST.srt_asc _) (gx.mpr (Av.mpr ((dn l).imp fun {a b} h=>hf a b h))) fun z=>?_
 rw[ST.srt_mem,y8,y8]
 exact ⟨fun ⟨x,hx,e⟩=>⟨x,(ST.srt_mem x l).mpr hx,e⟩,fun ⟨x,hx,e⟩=>⟨x,(ST.srt_mem x l).mp hx,e⟩⟩
theorem nN (hd:∀a b c,aq (f a) (f b) (f c)≤0↔aq a b c≤0) (P:Pt):∀st:List Pt,aZ (f P) (st.map f)=(aZ P st).map f
 |[]=>rfl
 |[_]=>rfl
 |b::a::r=>by
  show aZ (f P) (f b::f a::r.map f)=_
  unfold aZ
  by_cases h:aq a b P≤0
  ·rw[if_pos h,if_pos ((hd a b P).mpr h)];exact nN hd P (a::r)
  ·rw[if_neg h,if_neg fun z=>h ((hd a b P).mp z)];rfl
theorem jN (hd:∀a b c,aq (f a) (f b) (f c)≤0↔aq a b c≤0) (row:List Pt):ai (row.map f)=(ai row).map f:=by
 have key:∀(l:List Pt) (st:List Pt),(l.map f).foldl (fun st P=>P::aZ P st) (st.map f)=(l.foldl (fun st P=>P::aZ P st) st).map f:=by
  intro l
  induction l with
  |nil=>intro st;rfl
  |cons p r ih=>
   intro st
   rw[Aa,CG,CG,nN hd]
   exact ih (p::aZ p st)
 exact key row []
theorem q_ (hf:∀a b,plt a b→plt (f a) (f b)) (hd:∀a b c,aq (f a) (f b) (f c)≤0↔aq a b c≤0) (l:List Pt):ak (l.map f)=(ak l).map f:=by
 unfold ak
 rw[tP hf,yK,←A5,jN hd,jN hd]
 split
 ·rfl
 ·rw[An,DY,DY,A5,A5]
end
theorem kP {done:List Pt}:∀{st:List Pt},fM done st→∀(k:Nat) {a b:Pt},st[k]?=some b→st[k+1]?=some a→∀q∈done,0≤aq a b q
 |[],_,k,_,_,h,_=>by simp at h
 |[_],_,k,_,_,_,h=>by simp at h
 |x::y::r,C,0,a,b,h1,h2=>by
  simp at h1 h2
  subst h1;subst h2
  exact C.1
 |x::y::r,C,k+1,a,b,h1,h2=>kP C.2 k (by simpa using h1) (by simpa using h2)
theorem lu:∀{st:List Pt},Turns st→∀(k:Nat) {a b c:Pt},st[k]?=some c→st[k+1]?=some b→st[k+2]?=some a→0 < aq a b c
 |[],_,k,_,_,_,h,_,_=>by simp at h
 |[_],_,k,_,_,_,_,h,_=>by simp at h
 |[_,_],_,k,_,_,_,_,_,h=>by simp at h
 |x::y::z::r,C,0,a,b,c,h1,h2,h3=>by
  simp at h1 h2 h3
  subst h1;subst h2;subst h3
  exact C.1
 |x::y::z::r,C,k+1,a,b,c,h1,h2,h3=>lu C.2 k (by simpa using h1) (by simpa using h2) (by simpa using h3)
theorem rG {st:List Pt}{i:Nat}{a b:Pt} (h1:st.reverse[i]?=some a) (h2:st.reverse[i+1]?=some b):∃k,st[k]?=some b∧st[k+1]?=some a:=by
 have l2:i+1 < st.length:=by have:=(yU.mp h2).1;simpa using this
 rw[AC (by omega)] at h1
 rw[AC l2] at h2
 exact ⟨st.length - 1 - (i+1),h2,by rw[←h1];congr 1;omega⟩
theorem oG {st:List Pt}{i:Nat}{a b c:Pt} (h1:st.reverse[i]?=some a) (h2:st.reverse[i+1]?=some b) (h3:st.reverse[i+2]?=some c):∃k,st[k]?=some c∧st[k+1]?=some b∧st[k+2]?=some a:=by
 have l3:i+2 < st.length:=by have:=(yU.mp h3).1;simpa using this
 rw[AC (by omega)] at h1
 rw[AC (by omega)] at h2
 rw[AC l3] at h3
 exact ⟨st.length - 1 - (i+2),h3,by rw[←h2];congr 1;omega,by rw[←h1];congr 1;omega⟩
theorem eZ {row:List Pt} (hs:row.Pairwise plt) (h:row≠[]) {i:Nat}{a b:Pt} (h1:(ai row).reverse[i]?=some a) (h2:(ai row).reverse[i+1]?=some b):∀q∈row,0≤aq a b q:=by
 obtain ⟨k,e1,e2⟩:=rG h1 h2
 exact kP (bV hs h).1.cover k e1 e2
theorem gi {row:List Pt} (hs:row.Pairwise plt) (h:row≠[]) {i:Nat}{a b c:Pt} (h1:(ai row).reverse[i]?=some a) (h2:(ai row).reverse[i+1]?=some b) (h3:(ai row).reverse[i+2]?=some c):0 < aq a b c:=by
 obtain ⟨k,e1,e2,e3⟩:=oG h1 h2 h3
 exact lu (bV hs h).1.turns k e1 e2 e3
theorem dZ {row:List Pt}{i:Nat}{a:Pt} (h1:(ai row.reverse).reverse[i]?=some a):(ai (row.reverse.map ng)).reverse[i]?=some (ng a):=by
 rw[bO,←A5,yN] at h1
 cases e:(ai (row.reverse.map ng)).reverse[i]? with
 |none=>rw[e] at h1;cases h1
 |some z=>rw[e] at h1;cases h1;rw[fO]
theorem iZ {row:List Pt} (hs:row.Pairwise plt) (h:row≠[]) {i:Nat}{a b:Pt} (h1:(ai row.reverse).reverse[i]?=some a) (h2:(ai row.reverse).reverse[i+1]?=some b):∀q∈row,0≤aq a b q:=fun q hq=>by
 have:=eZ (cn hs) (by simpa using h) (dZ h1) (dZ h2) (ng q) (Ff (y6.mpr hq))
 rwa [iY] at this
theorem jP {row:List Pt} (hs:row.Pairwise plt) (h:row≠[]) {i:Nat}{a b c:Pt} (h1:(ai row.reverse).reverse[i]?=some a) (h2:(ai row.reverse).reverse[i+1]?=some b) (h3:(ai row.reverse).reverse[i+2]?=some c):0 < aq a b c:=by
 have:=gi (cn hs) (by simpa using h) (dZ h1) (dZ h2) (dZ h3)
 rwa [iY] at this
theorem qZ {u1 u2 v1 v2 w1 w2:Int} (hu:lpos u1 u2) (hv:lpos v1 v2) (h0:u1*v2 - u2*v1=0) (h1:u1*w2 - u2*w1≤0) (h2:0≤v1*w2 - v2*w1):u1*w2 - u2*w1=0∧v1*w2 - v2*w1=0:=by
 have e1:v1*(u1*w2 - u2*w1)=u1*(v1*w2 - v2*w1):=by grind
 have e2:v2*(u1*w2 - u2*w1)=u2*(v1*w2 - v2*w1):=by grind
 have fin:∀{s t A B:Int},0 < s→0 < t→s*A=t*B→A≤0→0≤B→A=0∧B=0:=fun {s t A B} hs ht e ha hb=>by
  have k1:s*A≤0:=Int.mul_nonpos_of_nonneg_of_nonpos (by omega) ha
  have k2:0≤t*B:=AX (by omega) hb
  have z1:s*A=0:=by omega
  have z2:t*B=0:=by omega
  refine ⟨(B8.mp z1).resolve_left (by omega),(B8.mp z2).resolve_left (by omega)⟩
 rcases hu with hu |⟨hu,hu2⟩
 ·rcases hv with hv |⟨hv,hv2⟩
  ·exact fin hv hu e1 h1 h2
  ·rw[hv] at h0
   have:=Br hu hv2
   omega
 ·rcases hv with hv |⟨hv,hv2⟩
  ·rw[hu] at h0
   have:=Br hu2 hv
   omega
  ·exact fin hv2 hu2 e2 h1 h2
theorem pL {a m c:Pt} (ha:plt a m) (hc:plt c m) (h:aq a m c=0) {q:Pt} (h1:0≤aq a m q) (h2:0≤aq m c q):aq a m q=0∧aq m c q=0:=by
 have k:=qZ (w1:=m.1 - q.1) (w2:=m.2 - q.2) (bj ha) (bj hc) (by unfold aq at h;grind) (by unfold aq at h1;grind) (by unfold aq at h2;grind)
 unfold aq
 exact ⟨by grind,by grind⟩
theorem sZ (a b c:Pt):aq a b c=aq b c a:=by unfold aq;grind
theorem xO {row:List Pt} (hs:row.Pairwise plt) (hne:row≠[]) {i:Nat}{a m c:Pt} (h1:(ai row).reverse[i]?=some a) (h2:(ai row).reverse[i+1]?=some m) (hl:(ai row).length=i+2)
  (h3:(ai row.reverse).reverse[0]?=some m) (h4:(ai row.reverse).reverse[1]?=some c) (ha:plt a m) (hc:plt c m) (big:2 < (ai row).length∨2 < (ai row.reverse).length):0 < aq a m c:=by
 have mem:∀{j:Nat}{p:Pt},(ai row).reverse[j]?=some p→p∈row:=fun h=>bT row _ (y6.mp (zi h))
 have memR:∀{j:Nat}{p:Pt},(ai row.reverse).reverse[j]?=some p→p∈row:=fun h=>y6.mp (bT _ _ (y6.mp (zi h)))
 have cv:=eZ hs hne h1 h2
 have cb:=iZ hs hne h3 h4
 have h0:=cv c (memR h4)
 rcases DG h0 with z |z
 ·exact z
 ·exfalso
  have flat:∀q∈row,aq a m q=0∧aq m c q=0:=fun q hq=>pL ha hc z.symm (cv q hq) (cb q hq)
  rcases big with b |b
  ·have hi:0 < i:=by omega
   have hx:i - 1 < (ai row).reverse.length:=by simp;omega
   have e:=yD hx
   have t:=gi hs hne e (by rw[Nat.sub_add_cancel hi];exact h1) (by rw[show i - 1+2=i+1 by omega];exact h2)
   rw[sZ,(flat _ (mem e)).1] at t
   omega
  ·have hx:2 < (ai row.reverse).reverse.length:=by simpa using b
   have e:=yD hx
   have t:=jP hs hne h3 h4 e
   rw[(flat _ (memR e)).2] at t
   omega
structure vX (row T B:List Pt) (mn mx:Pt):Prop where
 t0:T[0]?=some mn
 t1:T[T.length - 1]?=some mx
 b0:B[0]?=some mx
 b1:B[B.length - 1]?=some mn
 lt:2≤T.length
 lb:2≤B.length
 least:∀p∈row,p=mn∨plt mn p
 most:∀p∈row,p=mx∨plt p mx
theorem u_ {l:List Pt}:l.reverse[0]?=l.getLast?:=by rw[List.getLast?_eq_head?_reverse,BX]
theorem vp {l:List Pt}:l.reverse[l.reverse.length - 1]?=l.head?:=by rw[←AL,Da]
theorem ye {row:List Pt} (hs:row.Pairwise plt) (h2:2≤row.length):∃mn mx,vX row (ai row).reverse (ai row.reverse).reverse mn mx:=by
 have hne:row≠[]:=fun z=>by rw[z] at h2;simp at h2
 obtain ⟨mn,mx,t1,t2,e1,e2,m1,m2,least,most,_,_⟩:=ends hs h2
 obtain ⟨K,hl,hh⟩:=bV hs hne
 obtain ⟨KR,hlR,hhR⟩:=bV (cn hs) (by simpa using hne)
 have l1:2≤(ai row).length:=by rw[e1];have:=Bu m1;simp;omega
 have l2:2≤(ai row.reverse).length:=by rw[e2];have:=Bu m2;simp;omega
 have hd:row.head?=some row[0]:=by rw[BX];exact yD (by omega)
 have ld:row.getLast?=some row[row.length - 1]:=by rw[AL];exact yD (by omega)
 have q1:row[0]=mn:=by
  have hb:=hhR
  rw[CV,Da,hd] at hb
  have:(ai row.reverse).head?=some row[0]:=by rw[bO,DK,hb];simp[fO]
  rw[e2] at this
  exact (zU this).symm
 have q2:row[row.length - 1]=mx:=by
  rw[ld,e1] at hh
  exact (zU hh).symm
 refine ⟨mn,mx,?_,?_,?_,?_,by simpa using l1,by simpa using l2,least,most⟩
 ·rw[u_,hl,hd,q1]
 ·rw[vp,hh,ld,q2]
 ·rw[u_,bO,CV,hlR,DK,Fz,ld,q2];simp[fO]
 ·rw[vp,e2];rfl
section
variable {row T B:List Pt}{mn mx:Pt}
theorem eV (W:vX row T B mn mx) {k:Nat} (hk:k≤T.length - 1):(T.dropLast++B.dropLast)[k % (T.dropLast++B.dropLast).length]?=T[k]?:=by
 have h1:=W.lt
 have h2:=W.lb
 have hn:(T.dropLast++B.dropLast).length=T.length - 1+(B.length - 1):=by simp
 rw[hn,zQ (by omega)]
 by_cases h:k < T.length - 1
 ·rw[zE (by simpa using h),Bt,if_pos h]
 ·obtain rfl:k=T.length - 1:=by omega
  rw[zm (by simp),Bh,Nat.sub_self,Bt,if_pos (by omega),W.b0,W.t1]
theorem iw (W:vX row T B mn mx) {k:Nat} (h0:T.length - 1≤k) (hk:k≤T.length - 1+(B.length - 1)):(T.dropLast++B.dropLast)[k % (T.dropLast++B.dropLast).length]?=B[k - (T.length - 1)]?:=by
 have h1:=W.lt
 have h2:=W.lb
 have hn:(T.dropLast++B.dropLast).length=T.length - 1+(B.length - 1):=by simp
 by_cases h:k < T.length - 1+(B.length - 1)
 ·rw[hn,zQ h,zm (by simpa using h0),Bh,Bt,if_pos (by omega)]
 ·obtain rfl:k=T.length - 1+(B.length - 1):=by omega
  have:=eV W (k:=0) (by omega)
  rw[Nat.zero_mod] at this
  rw[hn,EO,this,W.t0,show T.length - 1+(B.length - 1) - (T.length - 1)=B.length - 1 by omega,W.b1]
end
theorem du {l:List Pt}{i:Nat} (h:i < l.length):∃a,l[i]?=some a:=⟨_,yD h⟩
theorem gj {pts:List Pt} (h2:2≤(ST.srt pts).length) {i:Nat} (hi:i < (ak pts).length):∃a b,(ak pts)[i]?=some a∧(ak pts)[(i+1) % (ak pts).length]?=some b∧(∀p∈pts,0≤aq a b p)∧(2 < (ak pts).length→∃c,(ak pts)[(i+2) % (ak pts).length]?=some c∧0 < aq a b c):=by
 have hs:=dn pts
 have hne:ST.srt pts≠[]:=fun z=>by rw[z] at h2;simp at h2
 obtain ⟨mn,mx,W⟩:=ye hs h2
 have hmem:∀p∈pts,p∈ST.srt pts:=fun p hp=>(ST.srt_mem p pts).mpr hp
 have hc:ak pts=(ai (ST.srt pts)).reverse.dropLast++(ai (ST.srt pts).reverse).reverse.dropLast:=by
  unfold ak;rw[if_neg (by omega)]
 have tc:∀{j:Nat}{a b:Pt},(ai (ST.srt pts)).reverse[j]?=some a→(ai (ST.srt pts)).reverse[j+1]?=some b→∀q∈ST.srt pts,0≤aq a b q:=fun h h'=>eZ hs hne h h'
 have tt:∀{j:Nat}{a b c:Pt},(ai (ST.srt pts)).reverse[j]?=some a→(ai (ST.srt pts)).reverse[j+1]?=some b→(ai (ST.srt pts)).reverse[j+2]?=some c→0 < aq a b c:=fun h h' h''=>gi hs hne h h' h''
 have bc:∀{j:Nat}{a b:Pt},(ai (ST.srt pts).reverse).reverse[j]?=some a→(ai (ST.srt pts).reverse).reverse[j+1]?=some b→∀q∈ST.srt pts,0≤aq a b q:=fun h h'=>iZ hs hne h h'
 have bt:∀{j:Nat}{a b c:Pt},(ai (ST.srt pts).reverse).reverse[j]?=some a→(ai (ST.srt pts).reverse).reverse[j+1]?=some b→(ai (ST.srt pts).reverse).reverse[j+2]?=some c→0 < aq a b c:=fun h h' h''=>jP hs hne h h' h''
 have memT:∀{j:Nat}{p:Pt},(ai (ST.srt pts)).reverse[j]?=some p→p∈ST.srt pts:=fun h=>bT _ _ (y6.mp (zi h))
 have memB:∀{j:Nat}{p:Pt},(ai (ST.srt pts).reverse).reverse[j]?=some p→p∈ST.srt pts:=fun h=>y6.mp (bT _ _ (y6.mp (zi h)))
 have ndT:(ai (ST.srt pts)).reverse.Nodup:=(c_ hs).imp fun {a b} h e=>by subst e;exact bp _ ((j9 _ _).mpr h)
 have ndB:(ai (ST.srt pts).reverse).reverse.Nodup:=by
  rw[bO,←A5]
  have ndR:(ai ((ST.srt pts).reverse.map ng)).reverse.Nodup:=(c_ (cn hs)).imp fun {a b} h e=>by subst e;exact bp _ ((j9 _ _).mpr h)
  exact FO _ (fun a b (h:a≠b) e=>h (by have:=congrArg ng e;rwa [fO,fO] at this)) ndR
 have m1:∀{j:Nat}{a m c:Pt},(ai (ST.srt pts)).reverse[j]?=some a→(ai (ST.srt pts)).reverse[j+1]?=some m→(ai (ST.srt pts)).length=j+2→(ai (ST.srt pts).reverse).reverse[0]?=some m→(ai (ST.srt pts).reverse).reverse[1]?=some c→plt a m→plt c m→2 < (ai (ST.srt pts)).length∨2 < (ai (ST.srt pts).reverse).length→0 < aq a m c:=fun a1 a2 a3 a4 a5 a6 a7 a8=>xO hs hne a1 a2 a3 a4 a5 a6 a7 a8
 have m2:∀{j:Nat}{a m c:Pt},(ai (ST.srt pts).reverse).reverse[j]?=some a→(ai (ST.srt pts).reverse).reverse[j+1]?=some m→(ai (ST.srt pts).reverse).length=j+2→(ai (ST.srt pts)).reverse[0]?=some m→(ai (ST.srt pts)).reverse[1]?=some c→plt m a→plt m c→2 < (ai (ST.srt pts)).length∨2 < (ai (ST.srt pts).reverse).length→0 < aq a m c:=fun {j a m c} a1 a2 a3 a4 a5 a6 a7 a8=>by
  have er:((ST.srt pts).reverse.map ng).reverse=(ST.srt pts).map ng:=by rw[←A5,List.reverse_reverse]
  have fw:∀{k:Nat}{p:Pt},(ai (ST.srt pts)).reverse[k]?=some p→(ai ((ST.srt pts).reverse.map ng).reverse).reverse[k]?=some (ng p):=fun {k p} h=>by
   rw[er,eI,←A5,yN,h];rfl
  have lb:(ai ((ST.srt pts).reverse.map ng)).length=(ai (ST.srt pts).reverse).length:=by rw[bO,yK]
  have lt:(ai ((ST.srt pts).reverse.map ng).reverse).length=(ai (ST.srt pts)).length:=by rw[er,eI,yK]
  have:=xO (cn hs) (by simpa using hne) (dZ a1) (dZ a2) (by rw[lb];exact a3) (fw a4) (fw a5) (iC a6) (iC a7) (by rw[lb,lt];exact a8.symm)
  rwa [iY] at this
 rw[hc] at hi ⊢
 have lT:(ai (ST.srt pts)).reverse.length=(ai (ST.srt pts)).length:=z_
 have lB:(ai (ST.srt pts).reverse).reverse.length=(ai (ST.srt pts).reverse).length:=z_
 generalize (ai (ST.srt pts)).reverse=T at *
 generalize (ai (ST.srt pts).reverse).reverse=B at *
 have h1:=W.lt
 have h3:=W.lb
 have hn:(T.dropLast++B.dropLast).length=T.length - 1+(B.length - 1):=by simp
 have own:∀k,k < (T.dropLast++B.dropLast).length→(T.dropLast++B.dropLast)[k]?=(T.dropLast++B.dropLast)[k % (T.dropLast++B.dropLast).length]?:=fun k hk=>by rw[zQ hk]
 have tne:∀{j k:Nat}{p q:Pt},T[j]?=some p→T[k]?=some q→j≠k→p≠q:=fun {j k p q} a1 a2 a3 e=>a3 ((FP (aC a1) ndT).mp (by rw[a1,a2,e]))
 have bne:∀{j k:Nat}{p q:Pt},B[j]?=some p→B[k]?=some q→j≠k→p≠q:=fun {j k p q} a1 a2 a3 e=>a3 ((FP (aC a1) ndB).mp (by rw[a1,a2,e]))
 by_cases c1:i < T.length - 1
 ·obtain ⟨a,ea⟩:=du (l:=T) (i:=i) (by omega)
  obtain ⟨b,eb⟩:=du (l:=T) (i:=i+1) (by omega)
  refine ⟨a,b,by rw[own i hi,eV W (by omega)];exact ea,by rw[eV W (by omega)];exact eb,fun p hp=>tc ea eb p (hmem p hp),fun big=>?_⟩
  by_cases c2:i+2≤T.length - 1
  ·obtain ⟨c,ec⟩:=du (l:=T) (i:=i+2) (by omega)
   exact ⟨c,by rw[eV W c2];exact ec,tt ea eb ec⟩
  ·have e:i+1=T.length - 1:=by omega
   obtain ⟨c,ec⟩:=du (l:=B) (i:=1) (by omega)
   have emx:b=mx:=by have:=W.t1;rw[←e,eb] at this;exact zU this
   subst emx
   refine ⟨c,by rw[iw W (by omega) (by omega),show i+2 - (T.length - 1)=1 by omega];exact ec,m1 ea eb (by omega) W.b0 ec ?_ ?_ (by omega)⟩
   ·exact (W.most a (memT ea)).resolve_left (tne ea eb (by omega))
   ·exact (W.most c (memB ec)).resolve_left (bne ec W.b0 (by omega))
 ·obtain ⟨a,ea⟩:=du (l:=B) (i:=i - (T.length - 1)) (by omega)
  obtain ⟨b,eb⟩:=du (l:=B) (i:=i - (T.length - 1)+1) (by omega)
  refine ⟨a,b,by rw[own i hi,iw W (by omega) (by omega)];exact ea,by rw[iw W (by omega) (by omega),show i+1 - (T.length - 1)=i - (T.length - 1)+1 by omega];exact eb,fun p hp=>bc ea eb p (hmem p hp),fun big=>?_⟩
  by_cases c2:i+2≤T.length - 1+(B.length - 1)
  ·obtain ⟨c,ec⟩:=du (l:=B) (i:=i - (T.length - 1)+2) (by omega)
   exact ⟨c,by rw[iw W (by omega) c2,show i+2 - (T.length - 1)=i - (T.length - 1)+2 by omega];exact ec,bt ea eb ec⟩
  ·have e:i - (T.length - 1)+1=B.length - 1:=by omega
   obtain ⟨c,ec⟩:=du (l:=T) (i:=1) (by omega)
   have emn:b=mn:=by have:=W.b1;rw[←e,eb] at this;exact zU this
   subst emn
   refine ⟨c,?_,m2 ea eb (by omega) W.t0 ec ?_ ?_ (by omega)⟩
   ·have:=eV W (k:=1) (by omega)
    rw[show (i+2) % (T.dropLast++B.dropLast).length=1 % (T.dropLast++B.dropLast).length by rw[hn,show i+2=1+(T.length - 1+(B.length - 1)) by omega,CW],this]
    exact ec
   ·exact (W.least a (memB ea)).resolve_left (bne ea eb (by omega))
   ·exact (W.least c (memT ec)).resolve_left (tne ec W.t0 (by omega))
abbrev gp (l:List P2) (i:Nat):P2:=l.getD i (0,0)
theorem lw {l:List P2}{i:Nat} (h:i < l.length):l[i]?=some (gp l i):=by simp[gp,h]
theorem gH {l:List P2}{i:Nat} (h:i < l.length):gp l i∈l:=zi (lw h)
theorem xT (l:List U):d9 l (some 1) none=l.drop 1:=by
 unfold d9 HT.sIx
 cases l with
 |nil=>simp
 |cons a l=>simp
theorem xi (l:List U):d9 l none (some 1)=l.take 1:=by
 unfold d9 HT.sIx
 cases l with
 |nil=>simp
 |cons a l=>simp
def nxt (l:List P2) (i:Nat):P2:=gp l ((i+1) % l.length)
def sdl (l:List P2):List (P2×P2):=(zS l.length).map fun i=>(gp l i,nxt l i)
def wth (a b:Int) (p:Pt):Int:=a*p.1+b*p.2
theorem wt {a b:Int}{u p v:Pt} (hb:b≤0) (h1:plt u p) (h2:plt p v) (h:aq u p v≤0):wth a b p≤wth a b u∨wth a b p≤wth a b v:=by
 rcases FY (wth a b u) (wth a b p) with c1 |c1
 ·rcases FY (wth a b v) (wth a b p) with c2 |c2
  ·exfalso
   have e:(v.1 - p.1) *(wth a b p - wth a b u)+(p.1 - u.1) *(wth a b p - wth a b v)=-((-b) *(-(aq u p v))):=by unfold wth aq;grind
   have n1:0≤(-b) *(-(aq u p v)):=AX (by omega) (by omega)
   have d1:0≤p.1 - u.1:=by unfold plt at h1;omega
   have d2:0≤v.1 - p.1:=by unfold plt at h2;omega
   have m1:0≤(v.1 - p.1) *(wth a b p - wth a b u):=AX d2 (by omega)
   have m2:0≤(p.1 - u.1) *(wth a b p - wth a b v):=AX d1 (by omega)
   rcases FY 0 (p.1 - u.1) with d |d
   ·have:=Br d (show 0 < wth a b p - wth a b v by omega)
    omega
   ·have ex:u.1=p.1:=by omega
    have ey:u.2 < p.2:=by unfold plt at h1;omega
    have:0≤(-b) *(p.2 - u.2):=AX (by omega) (by omega)
    have e2:wth a b p - wth a b u=-((-b) *(p.2 - u.2)):=by unfold wth;rw[ex];grind
    omega
  ·exact .inr c2
 ·exact .inl c1
theorem m8 {row:List Pt} (hs:row.Pairwise plt) {a b:Int} (hb:b≤0) {p:Pt} (hp:p∈row):∃c∈ai row,wth a b p≤wth a b c:=by
 by_cases h:p∈ai row
 ·exact ⟨p,h,HW _⟩
 ·obtain ⟨u,hu,v,hv,k1,k2,k3⟩:=gap hs hp h
  rcases wt (a:=a) hb k1 k2 k3 with e |e
  ·exact ⟨u,hu,e⟩
  ·exact ⟨v,hv,e⟩
theorem v8 (a b:Int) (p:Pt):wth (-a) (-b) (ng p)=wth a b p:=by unfold wth ng;grind
theorem ux (a b:Int) (p:Pt):wth a b (ng p)=wth (-a) (-b) p:=by unfold wth ng;grind
theorem rJ {row:List Pt} (hs:row.Pairwise plt) {a b:Int} (hb:0≤b) {p:Pt} (hp:p∈row):∃c∈ai row.reverse,wth a b p≤wth a b c:=by
 obtain ⟨c,hc,k⟩:=m8 (cn hs) (a:=-a) (b:=-b) (by omega) (p:=ng p) (y8.mpr ⟨p,y6.mpr hp,rfl⟩)
 refine ⟨ng c,by rw[bO];exact y8.mpr ⟨c,hc,rfl⟩,?_⟩
 rw[v8] at k
 rw[ux]
 exact k
theorem iX {pts:List Pt} (a b:Int) {p:Pt} (hp:p∈pts):∃c∈ak pts,wth a b p≤wth a b c:=by
 have hp':p∈ST.srt pts:=(ST.srt_mem p pts).mpr hp
 by_cases h2:2≤(ST.srt pts).length
 ·have hs:=dn pts
  obtain ⟨mn,mx,t1,t2,e1,e2,m1,m2,_⟩:=ends hs h2
  have big:=d_ h2
  rw[e1,e2] at big
  rcases Int.le_total b 0 with hb |hb
  ·obtain ⟨c,hc,k⟩:=m8 hs (a:=a) hb hp'
   refine ⟨c,?_,k⟩
   rw[big]
   rw[e1] at hc
   rcases yP.mp hc with rfl |hc
   ·exact yS _ (y6.mpr m2)
   ·exact Ak _ (y6.mpr hc)
  ·obtain ⟨c,hc,k⟩:=rJ hs (a:=a) hb hp'
   refine ⟨c,?_,k⟩
   rw[big]
   rw[e2] at hc
   rcases yP.mp hc with rfl |hc
   ·exact Ak _ (y6.mpr m1)
   ·exact yS _ (y6.mpr hc)
 ·exact ⟨p,by rw[iI h2];exact hp',HW _⟩
theorem dC {l:List P2} (h3:3≤(ak l).length):2≤(ST.srt l).length:=by
 rcases AV (ST.srt l).length 2 with h |h
 ·rw[iI (by omega)] at h3;omega
 ·exact h
theorem uX {l:List P2}{i:Nat} (h:i < l.length):(gp l i,gp l ((i+1) % l.length))∈sdl l:=y8.mpr ⟨i,zK.mpr h,rfl⟩
theorem iQ {l:List P2}{i:Nat}{a:P2} (h:l[i]?=some a):gp l i=a:=by simp[gp,h]
theorem sj {n i:Nat}:((i+1) % n+1) % n=(i+2) % n:=by rw[EE]
theorem kG {l:List P2} (h3:3≤(ak l).length) {s:P2×P2} (hs:s∈sdl (ak l)):∀q∈l,0≤aq s.1 s.2 q:=by
 obtain ⟨i,hi,rfl⟩:=y8.mp hs
 obtain ⟨a,b,e1,e2,cov,_⟩:=gj (dC h3) (zK.mp hi)
 show ∀q∈l,0≤aq (gp (ak l) i) (gp (ak l) ((i+1) % (ak l).length)) q
 rw[iQ e1,iQ e2];exact cov
theorem sX {l:List P2} (h3:3≤(ak l).length) {A B:P2} (hs:(A,B)∈sdl (ak l)):∃C,(B,C)∈sdl (ak l)∧0 < aq A B C:=by
 obtain ⟨i,hi,e⟩:=y8.mp hs
 have hi':=zK.mp hi
 obtain ⟨a,b,e1,e2,_,tu⟩:=gj (dC h3) hi'
 obtain ⟨c,e3,pos⟩:=tu (by omega)
 have ea:A=a:=by rw[←iQ e1];exact (congrArg H_ e).symm
 have eb:B=b:=by rw[←iQ e2];exact (congrArg Ib e).symm
 refine ⟨c,?_,by rw[ea,eb];exact pos⟩
 have:=uX (l:=ak l) (i:=(i+1) % (ak l).length) (BK _ (by omega))
 rw[sj,iQ e2,iQ e3] at this
 rw[eb];exact this
theorem xB {l:List P2}{A:P2} (h:A∈l):∃Z,(Z,A)∈sdl l:=by
 obtain ⟨i,hi⟩:=AU.mp h
 have hi':=(yU.mp hi).1
 have hj:(i+l.length - 1) % l.length < l.length:=BK _ (by omega)
 have:=uX hj
 have e:((i+l.length - 1) % l.length+1) % l.length=i:=by
  rw[EE,show i+l.length - 1+1=i+l.length by omega,CW,zQ hi']
 rw[e,iQ hi] at this
 exact ⟨_,this⟩
theorem vI {u1 u2 v1 v2 w1 w2:Int} (hd:0 < u1*v2 - u2*v1) (h1:u1*w2 - u2*w1=0) (h2:v1*w2 - v2*w1=0):w1=0∧w2=0:=by
 have e1:(u1*v2 - u2*v1) *w1=0:=by
  have:(u1*v2 - u2*v1) *w1=v1*(u1*w2 - u2*w1) - u1*(v1*w2 - v2*w1):=by grind
  rw[this,h1,h2];simp
 have e2:(u1*v2 - u2*v1) *w2=0:=by
  have:(u1*v2 - u2*v1) *w2=v2*(u1*w2 - u2*w1) - u2*(v1*w2 - v2*w1):=by grind
  rw[this,h1,h2];simp
 refine ⟨?_,?_⟩
 ·rcases B8.mp e1 with h |h
  ·omega
  ·exact h
 ·rcases B8.mp e2 with h |h
  ·omega
  ·exact h
def tG (l:List P2) (p:P2):Prop:=p∈l∧∃a b:Int,∀q∈l,q≠p→wth a b q < wth a b p
theorem kY {l:List P2}{p:P2} (h:tG l p):p∈ak l:=by
 obtain ⟨hp,a,b,k⟩:=h
 obtain ⟨c,hc,e⟩:=iX a b hp
 by_cases hcp:c=p
 ·rw[←hcp];exact hc
 ·have:=k c (eu _ c hc) hcp
  omega
theorem kT {l:List P2} (h3:3≤(ak l).length) {p:P2} (hp:p∈ak l):tG l p:=by
 obtain ⟨Z,hZ⟩:=xB hp
 obtain ⟨B,hB,pos⟩:=sX h3 hZ
 refine ⟨eu _ p hp,B.2 - Z.2,Z.1 - B.1,fun q hq hne=>?_⟩
 have c1:=kG h3 hZ q hq
 have c2:=kG h3 hB q hq
 dsimp only at c1 c2
 have e:wth (B.2 - Z.2) (Z.1 - B.1) q - wth (B.2 - Z.2) (Z.1 - B.1) p=-(aq Z p q+aq p B q):=by unfold wth aq;grind
 rcases DG (Int.add_nonneg c1 c2) with h |h
 ·omega
 ·exfalso
  have z1:aq Z p q=0:=by omega
  have z2:aq p B q=0:=by omega
  have:=vI (u1:=p.1 - Z.1) (u2:=p.2 - Z.2) (v1:=B.1 - p.1) (v2:=B.2 - p.2) (w1:=q.1 - p.1) (w2:=q.2 - p.2) (by rw[←(show aq Z p B=(p.1 - Z.1) *(B.2 - p.2) - (p.2 - Z.2) *(B.1 - p.1) by unfold aq;grind)];exact pos) (by rw[←z1];unfold aq;grind) (by rw[←z2];unfold aq;grind)
  exact hne (CH (by omega) (by omega))
structure Lin (f:P2→P2) (d:Int):Prop where
 one:d=1∨d=-1
 ex:∃a b c e:Int,a*e - b*c=d∧∀p,f p=(a*p.1+b*p.2,c*p.1+e*p.2)
theorem jX {f:P2→P2}{d:Int} (L:Lin f d) (x y:Int):∃x' y':Int,∀p,wth x' y' (f p)=wth x y p:=by
 obtain ⟨a,b,c,e,h,k⟩:=L.ex
 refine ⟨d*(x*e - y*c),d*(y*a - x*b),fun p=>?_⟩
 rw[k]
 have dd:d*d=1:=by rcases L.one with z |z <;>rw[z] <;>rfl
 have:wth (d*(x*e - y*c)) (d*(y*a - x*b)) (a*p.1+b*p.2,c*p.1+e*p.2)=d*(a*e - b*c) *wth x y p:=by unfold wth;grind
 rw[this,h,dd,Ec]
theorem Lin.inj {f:P2→P2}{d:Int} (L:Lin f d) {p q:P2} (e:f p=f q):p=q:=by
 obtain ⟨x,y,h⟩:=jX L 1 0
 obtain ⟨x',y',h'⟩:=jX L 0 1
 have h1:wth 1 0 p=wth 1 0 q:=by rw[←h,←h,e]
 have h2:wth 0 1 p=wth 0 1 q:=by rw[←h',←h',e]
 unfold wth at h1 h2
 exact CH (by omega) (by omega)
theorem uc {f:P2→P2}{d:Int} (L:Lin f d) {l:List P2}{p:P2} (h:tG l p):tG (l.map f) (f p):=by
 obtain ⟨hp,a,b,k⟩:=h
 obtain ⟨x,y,e⟩:=jX L a b
 refine ⟨Ff hp,x,y,fun q hq hne=>?_⟩
 obtain ⟨r,hr,rfl⟩:=y8.mp hq
 rw[e,e]
 exact k r hr fun z=>hne (by rw[z])
theorem oB {f:P2→P2}{d:Int} (L:Lin f d) {l:List P2} (h3:3≤(ak l).length):3≤(ak (l.map f)).length:=by
 have nd:((ak l).map f).Nodup:=FO _ (fun a b (h:a≠b) e=>h (L.inj e)) (d0 l)
 have:=gM nd (m:=ak (l.map f)) fun x hx=>by
  obtain ⟨p,hp,rfl⟩:=y8.mp hx
  exact kY (uc L (kT h3 hp))
 rw[yK] at this
 omega
end
section
variable {P:yT}{w:World}{K:yH}{mg:Str→Option Value}{base:Heap}
def ap (a b c d e f:Int) (p:P2):P2:=(a*p.1+b*p.2+e,c*p.1+d*p.2+f)
structure Stn (C A B:P2) (a b c d e f:Int):Prop where
 dt:a*d - b*c=1∨a*d - b*c=-1
 at0:ap a b c d e f C=(0,0)
 nx:0 < (ap a b c d e f A).1
 ny:(ap a b c d e f A).2=0
 f0:0≤(ap a b c d e f B).1
 f1:(ap a b c d e f B).1 < (ap a b c d e f B).2
theorem wj {C A B:P2}{g u v s t k q x y:Int} (g0:0 < g) (e1:A.1 - C.1=g*u) (e2:A.2 - C.2=g*v) (h:s*u+t*v=1)
  (hx:x=s*B.1+t*B.2+(-s*C.1 - t*C.2)) (hy:y=-v*B.1+u*B.2+(v*C.1 - u*C.2)) (hk:k=1∨k=-1) (ky:0 < k*y) (hq:q=x / (k*y)):
  Stn C A B (s - q*(k* -v)) (t - q*(k*u)) (k* -v) (k*u) ((-s*C.1 - t*C.2) - q*(k*(v*C.1 - u*C.2))) (k*(v*C.1 - u*C.2)):=by
 have a1:A.1=C.1+g*u:=by omega
 have a2:A.2=C.2+g*v:=by omega
 have dv:=Int.mul_ediv_add_emod x (k*y)
 have m0:=Be x (show k*y≠0 by omega)
 have m1:=AI x ky
 rw[←hq] at dv
 have bx:(ap (s - q*(k* -v)) (t - q*(k*u)) (k* -v) (k*u) ((-s*C.1 - t*C.2) - q*(k*(v*C.1 - u*C.2))) (k*(v*C.1 - u*C.2)) B).1=x - q*(k*y):=by
  unfold ap;dsimp only;rw[hx,hy];grind
 have b2:(ap (s - q*(k* -v)) (t - q*(k*u)) (k* -v) (k*u) ((-s*C.1 - t*C.2) - q*(k*(v*C.1 - u*C.2))) (k*(v*C.1 - u*C.2)) B).2=k*y:=by
  unfold ap;dsimp only;rw[hy];grind
 have c1:k*y*q=q*(k*y):=FW _ _
 refine ⟨?_,?_,?_,?_,by rw[bx];omega,by rw[bx,b2];omega⟩
 ·have:(s - q*(k* -v)) *(k*u) - (t - q*(k*u)) *(k* -v)=k*(s*u+t*v):=by grind
  rw[this,h,HR];exact hk
 ·unfold ap;exact CH (by dsimp only;grind) (by dsimp only;grind)
 ·have:(ap (s - q*(k* -v)) (t - q*(k*u)) (k* -v) (k*u) ((-s*C.1 - t*C.2) - q*(k*(v*C.1 - u*C.2))) (k*(v*C.1 - u*C.2)) A).1=g*(s*u+t*v):=by
   unfold ap;dsimp only;rw[a1,a2];grind
  rw[this,h];omega
 ·unfold ap;dsimp only;rw[a1,a2];grind
theorem vY {a b c d e f:Int} (h:a*d - b*c=1∨a*d - b*c=-1) {p q:P2} (k:ap a b c d e f p=ap a b c d e f q):p=q:=by
 unfold ap at k
 have k1:=congrArg H_ k
 have k2:=congrArg Ib k
 dsimp only at k1 k2
 have e1:(a*d - b*c) *(p.1 - q.1)=0:=by grind
 have e2:(a*d - b*c) *(p.2 - q.2)=0:=by grind
 rcases h with h |h <;>rw[h] at e1 e2 <;>exact CH (by omega) (by omega)
def pI (n k:Nat):Nat:=(k+n - 1) % n
def nI (n k:Nat):Nat:=(k+1) % n
theorem nu {n k:Nat} (h:k < n):pI n k=if k=0 then n - 1 else k - 1:=by
 unfold pI
 split
 ·rename_i z;rw[z,Nat.zero_add];exact zQ (by omega)
 ·rw[show k+n - 1=(k - 1)+n by omega,CW];exact zQ (by omega)
theorem qa {n k:Nat} (h:k < n):nI n k=if k+1=n then 0 else k+1:=by
 unfold nI
 split
 ·rename_i z;rw[z,EO]
 ·exact zQ (by omega)
theorem rT {n k:Nat} (h:k < n):pI n k < n:=BK _ (by omega)
theorem vw {n k:Nat} (h:k < n):nI n k < n:=BK _ (by omega)
theorem wW {n k:Nat} (h3:3≤n) (h:k < n):pI n k≠nI n k:=by
 rw[nu h,qa h]
 split <;>split <;>omega
structure Pr (l:List P2) (a b c d e f:Int) (i j:Nat):Prop where
 hi:i < l.length
 nd:l.Nodup
 n3:3≤l.length
 st:(j=pI l.length i∧Stn (gp l i) (gp l (pI l.length i)) (gp l (nI l.length i)) a b c d e f)∨(j=nI l.length i∧Stn (gp l i) (gp l (nI l.length i)) (gp l (pI l.length i)) a b c d e f)
section
variable {l:List P2}{a b c d e f:Int}{i j i' j':Nat}
theorem Pr.dt (P:Pr l a b c d e f i j):a*d - b*c=1∨a*d - b*c=-1:=by
 rcases P.st with ⟨_,S⟩ |⟨_,S⟩ <;>exact S.dt
theorem Pr.at0 (P:Pr l a b c d e f i j):ap a b c d e f (gp l i)=(0,0):=by
 rcases P.st with ⟨_,S⟩ |⟨_,S⟩ <;>exact S.at0
theorem xG (nd:l.Nodup) (hi:i < l.length) (hj:j < l.length) (h:gp l i=gp l j):i=j:=by
 have e1:gp l i=l[i]:=by simp[gp,hi]
 have e2:gp l j=l[j]:=by simp[gp,hj]
 rw[e1,e2] at h
 rcases AR i j with z |z |z
 ·exact absurd h (zg.mp nd i j hi hj z)
 ·exact z
 ·exact absurd h.symm (zg.mp nd j i hj hi z)
theorem Pr.only (P:Pr l a b c d e f i j) {k:Nat} (hk:k < l.length) (h:ap a b c d e f (gp l k)=(0,0)):k=i:=xG P.nd hk P.hi (vY P.dt (h.trans P.at0.symm))
theorem Pr.one (P:Pr l a b c d e f i j) (P':Pr l a b c d e f i' j'):i=i'∧j=j':=by
 have e:=P'.only P.hi P.at0
 subst e
 refine ⟨rfl,?_⟩
 rcases P.st with ⟨h1,S⟩ |⟨h1,S⟩ <;>rcases P'.st with ⟨h2,S'⟩ |⟨h2,S'⟩
 ·rw[h1,h2]
 ·have:=S.ny;have:=S'.f0;have:=S'.f1;omega
 ·have:=S.ny;have:=S'.f0;have:=S'.f1;omega
 ·rw[h1,h2]
end
def PrL (l:List P2) (m:List Int) (p:Nat×Nat):Prop:=∃a b c d e f,m=[a,b,c,d,e,f]∧Pr l a b c d e f p.1 p.2
theorem PrL.one {l:List P2}{m:List Int}{p p':Nat×Nat} (h:PrL l m p) (h':PrL l m p'):p=p':=by
 obtain ⟨a,b,c,d,e,f,rfl,P⟩:=h
 obtain ⟨a',b',c',d',e',f',q,P'⟩:=h'
 cases q
 obtain ⟨h1,h2⟩:=P.one P'
 exact CH h1 h2
def prs (n x:Nat):Nat×Nat:=(x / 2,if x % 2=0 then pI n (x / 2) else nI n (x / 2))
theorem tm {n x y:Nat} (h3:3≤n) (hx:x < 2*n) (hy:y < 2*n) (h:prs n x=prs n y):x=y:=by
 unfold prs at h
 have h1:x / 2=y / 2:=congrArg H_ h
 have h2:=congrArg Ib h
 dsimp only at h2
 have ne:=wW h3 (show x / 2 < n by omega)
 rw[←h1] at h2
 split at h2 <;>split at h2
 ·omega
 ·exact absurd h2 ne
 ·exact absurd h2.symm ne
 ·omega
structure All (l:List P2) (ms:List (List Int)):Prop where
 n3:3≤l.length
 len:ms.length=2*l.length
 at_:∀x,(h:x < ms.length)→PrL l ms[x] (prs l.length x)
theorem All.six {l:List P2}{ms:List (List Int)} (A:All l ms):∀m∈ms,m.length=6:=fun m hm=>by
 obtain ⟨x,hx,rfl⟩:=BG.mp hm
 obtain ⟨a,b,c,d,e,f,h,_⟩:=A.at_ x hx
 rw[h];rfl
theorem All.inj {l:List P2}{ms:List (List Int)} (A:All l ms) {x y:Nat} (hx:x < ms.length) (hy:y < ms.length) (h:prs l.length x=prs l.length y):x=y:=tm A.n3 (by rw[←A.len];exact hx) (by rw[←A.len];exact hy) h
theorem All.nodup {l:List P2}{ms:List (List Int)} (A:All l ms):ms.Nodup:=by
 refine zg.mpr fun x y hx hy hlt e=>?_
 have h1:=A.at_ x hx
 rw[e] at h1
 have:=A.inj hx hy (h1.one (A.at_ y hy))
 omega
open Classical in
noncomputable def pf (l:List P2) (m:List Int):Nat×Nat:=if h:∃p,PrL l m p then h.choose else (0,0)
theorem vM {l:List P2} (nd:l.Nodup) (h3:3≤l.length) (F G:Nat→List Int)
  (hF:∀i,i < l.length→∃a b c d e f,F i=[a,b,c,d,e,f]∧Stn (gp l i) (gp l (pI l.length i)) (gp l (nI l.length i)) a b c d e f)
  (hG:∀i,i < l.length→∃a b c d e f,G i=[a,b,c,d,e,f]∧Stn (gp l i) (gp l (nI l.length i)) (gp l (pI l.length i)) a b c d e f):
  All l ((zS (2*l.length)).map fun x=>if x % 2=0 then F (x / 2) else G (x / 2)):=by
 refine ⟨h3,by simp,fun x hx=>?_⟩
 have hx':x < 2*l.length:=by simpa using hx
 have hi:x / 2 < l.length:=by omega
 rw[List.getElem_map,List.getElem_range]
 unfold prs
 split
 ·obtain ⟨a,b,c,d,e,f,h,S⟩:=hF _ hi
  exact ⟨a,b,c,d,e,f,h,hi,nd,h3,.inl ⟨rfl,S⟩⟩
 ·obtain ⟨a,b,c,d,e,f,h,S⟩:=hG _ hi
  exact ⟨a,b,c,d,e,f,h,hi,nd,h3,.inr ⟨rfl,S⟩⟩
theorem ox {pts:List P2} (h3:3≤(ak pts).length) (h2:2≤(ST.srt pts).length) {i:Nat} (hi:i < (ak pts).length):0 < aq (gp (ak pts) (pI (ak pts).length i)) (gp (ak pts) i) (gp (ak pts) (nI (ak pts).length i)):=by
 obtain ⟨a,b,e1,e2,_,h⟩:=gj h2 (rT hi)
 obtain ⟨c,e3,h⟩:=h (by omega)
 have k1:(pI (ak pts).length i+1) % (ak pts).length=i:=by
  rw[nu hi]
  split
  ·rename_i z;rw[show (ak pts).length - 1+1=(ak pts).length by omega,EO,z]
  ·rw[show i - 1+1=i by omega];exact zQ hi
 have k2:(pI (ak pts).length i+2) % (ak pts).length=nI (ak pts).length i:=by
  rw[nu hi,qa hi]
  split
  ·rename_i z;rw[show (ak pts).length - 1+2=1+(ak pts).length by omega,CW,z,zQ (by omega),if_neg (by omega)]
  ·rw[show i - 1+2=i+1 by omega]
   split
   ·rename_i z;rw[z,EO]
   ·exact zQ (by omega)
 rw[k1] at e2
 rw[k2] at e3
 have g:∀{j:Nat}{p:P2},(ak pts)[j]?=some p→gp (ak pts) j=p:=fun h=>by simp[gp,h]
 rw[g e1,g e2,g e3];exact h
def trn (e f:Int) (p:P2):P2:=(p.1+e,p.2+f)
def lnr (a b c d:Int) (p:P2):P2:=(a*p.1+b*p.2,c*p.1+d*p.2)
theorem vU (a b c d e f:Int) (l:List P2):l.map (ap a b c d e f)=(l.map (lnr a b c d)).map (trn e f):=by
 rw[zX];rfl
theorem rm (e f:Int) (l:List P2):ak (l.map (trn e f))=(ak l).map (trn e f):=
 q_ (fun a b h=>by unfold plt trn at *;dsimp only;omega) (fun a b c=>by
  have:aq (trn e f a) (trn e f b) (trn e f c)=aq a b c:=by unfold aq trn;dsimp only;grind
  rw[this]) l
theorem wH {a b c d:Int} (h:a*d - b*c=1∨a*d - b*c=-1):Lin (lnr a b c d) (a*d - b*c):=⟨h,a,b,c,d,rfl,fun _=>rfl⟩
section
variable {a b c d e f:Int}{l:List P2}
theorem rW (h:a*d - b*c=1∨a*d - b*c=-1) (h3:3≤(ak l).length):3≤(ak (l.map (ap a b c d e f))).length:=by
 rw[vU,rm,yK];exact oB (wH h) h3
end
def Cn (l:List P2) (C A B:P2):Prop:=(A,C)∈sdl l∧(C,B)∈sdl l
def Nb (l:List P2) (C A B:P2):Prop:=Cn l C A B∨Cn l C B A
section
variable {a b c d e f:Int}{l:List P2}
end
def apL (m:List Int) (p:P2):P2:=ap (m.getD 0 0) (m.getD 1 0) (m.getD 2 0) (m.getD 3 0) (m.getD 4 0) (m.getD 5 0) p
structure yA (l:List P2) (ms:List (List Int)):Prop where
 mem:∀m∈ms,∃C A B a b c d e f,Nb l C A B∧m=[a,b,c,d,e,f]∧Stn C A B a b c d e f
 all:∀C A B,Nb l C A B→∃a b c d e f,[a,b,c,d,e,f]∈ms∧Stn C A B a b c d e f
section
variable {a b c d e f:Int}
variable {l:List P2}
end
theorem fj:∀l,ST.ltLs l l=false
 |[]=>rfl
 |a::l=>by rw[ST.ltLs,if_pos rfl];exact fj l
theorem iz:∀{x y z:List P2},ST.ltLs x y=true→ST.ltLs y z=true→ST.ltLs x z=true
 |[],[],_,h,_=>by cases h
 |[],_::_,[],_,k=>by cases k
 |[],_::_,_::_,_,_=>rfl
 |_::_,[],_,h,_=>by cases h
 |_::_,_::_,[],_,k=>by cases k
 |a::r,b::t,c::u,h,k=>by
  rw[ST.ltLs] at h k ⊢
  by_cases e:a=b
  ·rw[if_pos e] at h
   by_cases g:b=c
   ·rw[if_pos g] at k
    rw[if_pos (e.trans g)];exact iz h k
   ·rw[if_neg g] at k
    rw[if_neg (by rw[e];exact g),e];exact k
  ·rw[if_neg e] at h
   by_cases g:b=c
   ·rw[if_neg (by rw[←g];exact e),←g];exact h
   ·rw[if_neg g] at k
    have q:=ST.ltP_tr h k
    rw[if_neg (fun z=>by rw[z] at q;have:=ST.ltP_asy q;rw[q] at this;cases this)];exact q
theorem iO:∀{x y:List P2},ST.ltLs x y=false→ST.ltLs y x=false→x=y
 |[],[],_,_=>rfl
 |[],_::_,h,_=>by cases h
 |_::_,[],_,k=>by cases k
 |a::r,b::t,h,k=>by
  rw[ST.ltLs] at h k
  by_cases e:a=b
  ·rw[if_pos e] at h
   rw[if_pos e.symm] at k
   rw[e,iO h k]
  ·rw[if_neg e] at h
   rw[if_neg (Ne.symm e)] at k
   have:=ST.ltP_tot e h
   rw[k] at this;cases this
theorem im (kf:Nat→List P2):∀n j,j≤n→ST.ltLs (kf j) (kf (L2.abK kf n))=false
 |0,j,h=>by
  obtain rfl:j=0:=by omega
  exact fj _
 |n+1,j,h=>by
  rw[L2.abK]
  by_cases e:ST.ltLs (kf (n+1)) (kf (L2.abK kf n))=true
  ·rw[if_pos e]
   rcases AV j (n+1) with z |z
   ·have ih:=im kf n j (by omega)
    cases q:ST.ltLs (kf j) (kf (n+1)) with
    |false=>rfl
    |true=>rw[iz q e] at ih;cases ih
   ·obtain rfl:j=n+1:=by omega
    exact fj _
  ·rw[if_neg e]
   rcases AV j (n+1) with z |z
   ·exact im kf n j (by omega)
   ·obtain rfl:j=n+1:=by omega
    simpa using e
structure Fm (l:List P2) (ms:List (List Int)) (x:List P2):Prop where
 mem:∃m∈ms,x=ak (l.map (apL m))
 low:∀m∈ms,ST.ltLs (ak (l.map (apL m))) x=false
theorem p0 {pts:List P2}{A B C:P2} (hA:A∈pts) (hB:B∈pts) (hC:C∈pts) (hd:aq A B C≠0):3≤(ak pts).length:=by
 have key:∀c1 c2:P2,(∀c∈ak pts,c=c1∨c=c2)→∀a b:Int,wth a b c1=wth a b c2→∀p∈pts,wth a b p=wth a b c1:=fun c1 c2 hc a b e p hp=>by
  obtain ⟨x,hx,l1⟩:=iX a b hp
  obtain ⟨y,hy,l2⟩:=iX (-a) (-b) hp
  have n:∀q:P2,wth (-a) (-b) q=-wth a b q:=fun q=>by unfold wth;grind
  rw[n,n] at l2
  have wx:wth a b x=wth a b c1:=by rcases hc x hx with z |z <;>rw[z];exact e.symm
  have wy:wth a b y=wth a b c1:=by rcases hc y hy with z |z <;>rw[z];exact e.symm
  omega
 have flat:∀c1 c2:P2,(∀c∈ak pts,c=c1∨c=c2)→aq A B C=0:=fun c1 c2 hc=>by
  by_cases z:c1=c2
  ·subst z
   have e:∀p∈pts,p=c1:=fun p hp=>by
    have h1:=key c1 c1 hc 1 0 rfl p hp
    have h2:=key c1 c1 hc 0 1 rfl p hp
    unfold wth at h1 h2
    exact CH (by omega) (by omega)
   rw[e A hA,e B hB]
   unfold aq;grind
  ·have h:=key c1 c2 hc (c1.2 - c2.2) (c2.1 - c1.1) (by unfold wth;grind)
   have hA':=h A hA
   have hB':=h B hB
   have hC':=h C hC
   unfold wth at hA' hB' hC'
   unfold aq
   have u:c1.2 - c2.2≠0∨c2.1 - c1.1≠0:=by
    by_cases w:c1.2 - c2.2=0
    ·right;intro w'
     exact z (CH (by omega) (by omega))
    ·exact .inl w
   generalize c1.2 - c2.2=s at *
   generalize c2.1 - c1.1=t at *
   have k1:s*(B.1 - A.1)+t*(B.2 - A.2)=0:=by grind
   have k2:s*(C.1 - A.1)+t*(C.2 - A.2)=0:=by grind
   generalize B.1 - A.1=b1 at *
   generalize B.2 - A.2=b2 at *
   generalize C.1 - A.1=c1' at *
   generalize C.2 - A.2=c2' at *
   rcases u with u |u
   ·have:s*(b1*c2' - b2*c1')=0:=by grind
    exact (B8.mp this).resolve_left u
   ·have:t*(b1*c2' - b2*c1')=0:=by grind
    exact (B8.mp this).resolve_left u
 refine Ci fun z=>hd ?_
 match h:ak pts,z with
 |[],_=>exact absurd h (tK (fun w=>by rw[w] at hA;cases hA))
 |[c1],_=>exact flat c1 c1 (fun c hc=>by rw[h] at hc;simp at hc;exact .inl hc)
 |[c1,c2],_=>exact flat c1 c2 (fun c hc=>by rw[h] at hc;simpa using hc)
 |_::_::_::_,z=>simp at z;omega
end
section
variable {P:yT}{w:World}{K:yH}{mg:Str→Option Value}{base:Heap}
theorem ro {m:Nat}{pts:List P2} (h:∀p∈pts,Szp m p):∀p∈ST.srt pts,Szp m p:=fun p hp=>h p ((ST.srt_mem p pts).mp hp)
theorem eT (row:List P2):(ai row).length≤row.length:=by
 have:=fz row row.length
 rwa [BV] at this
def mB:List U→Out→Prop:=fun us o=>∃pts:List P2,us=[lp pts]∧(∀p∈pts,Szp 5000 p)∧pts.length < 64∧pts≠[]∧o=.new ((ak pts).map pu)
theorem sO (T:Txt K mg):bD P w K mg base (CXF P w) 4 T.a_field T.d_field ["points"] (spU K (mB)):=by
 refine bM T.F_field fi (fun us o h=>?_) (fun cdv A outer s H E O us o hr h=>?_)
 ·obtain ⟨pts,rfl,sz,hl,hne,rfl⟩:=h
  rfl
 obtain ⟨pts,rfl,sz,hl,hne,rfl⟩:=h
 refine Ws.nox ?_
 have hml:((pts.map pu).length:Int)=(pts.length:Int):=by rw[yK]
 have hpos:0 < pts.length:=Cq.mpr hne
 refine ae (cq (ba cx (aX (fL rfl) rfl T.z_len AW (ac (aa 0 rfl) ao ag)) ab) (by rw[hml];exact decide_eq_false (by omega)) (a_ ?_))
 have sl:=ST.srt_len pts
 have hms:(((ST.srt pts).map pu).length:Int)=((ST.srt pts).length:Int):=by rw[yK]
 have szs:=ro sz
 by_cases h1:(ST.srt pts).length=1
 ·refine ae (jn (i:=1) fi.nd rfl (Or.inl rfl) (gX rfl (jh hr) rfl T.z_sorted rfl T.z_set (aa 0 rfl) hl ag) ?_)
  refine ae (jQ (ba cx (fW 1 rfl rfl T.z_len) ab) (by rw[hms];exact decide_eq_true (by omega)) ?_)
  refine ae (qW 1 rfl ?_)
  show Out.new _=Out.new _
  unfold ak
  rw[if_pos h1]
 ·refine ae (aK (i:=1) fi.nd rfl (Or.inl rfl) (EvN.ev (gX rfl (jh hr) rfl T.z_sorted rfl T.z_set (aa 0 rfl) hl ag)) ?_)
  refine ae (cq (ba cx (aX (fL rfl) rfl T.z_len AW (ac (aa 1 rfl) ao ag)) ab) (by rw[hms];exact decide_eq_false (by omega)) (a_ ?_))
  have b1:=eT (ST.srt pts)
  have b2:=eT (ST.srt pts).reverse
  rw[z_] at b2
  refine ae (aK (i:=2) fi.nd rfl (Or.inl rfl) (EvN.ev (fh ((fV T).mono (by decide)) hr rfl T.m_left_bends T.F_left_bends.kp T.b_left_bends ay (ac (aa 1 rfl) ao ag) ⟨ST.srt pts,rfl,szs,by omega,rfl⟩)) ?_)
  refine ae (aK (i:=3) fi.nd rfl (Or.inl rfl) (EvN.ev (fh ((fV T).mono (by decide)) hr rfl T.m_left_bends T.F_left_bends.kp T.b_left_bends ay (ac (EvN.ev (xw (aa 1 rfl) (cF ab) (.inl rfl))) ao bI) ⟨(ST.srt pts).reverse,by rw[lp,A5],fun p hp=>szs p (y6.mp hp),by rw[z_];omega,rfl⟩)) ?_)
  refine ae (kB (jD (EvN.ev (cT (aa 2 rfl) gh (dc (cF ab)) (.inl rfl))) (EvN.ev (cT (aa 3 rfl) gh (dc (cF ab)) (.inl rfl))) (by rw[fZ,fZ,yK,yK,Bh,Bh,z_,z_];exact Af (aM (by omega)))) ?_)
  show Out.new _=Out.new _
  unfold ak
  rw[if_neg h1,fZ,fZ,←An]
def n8:List U→Out→Prop:=fun us o=>∃(pts:List P2) (a b c d e f:Int),us=[lp pts,mv a b c d e f]∧Mv a b c d e f∧(∀p∈pts,Szp 3000 p)∧(∀p∈pts,Szp 5000 (ap a b c d e f p))∧pts≠[]∧pts.length < 64∧o=.new ((ak (pts.map (ap a b c d e f))).map pu)
theorem eU (T:Txt K mg):bD P w K mg base (CXF P w) 5 T.a_field_moved T.d_field_moved ["land","move"] (spU K (n8)):=by
 refine bM T.F_field_moved eL (fun us o h=>?_) (fun cdv A outer s H E O us o hr h=>?_)
 ·obtain ⟨pts,a,b,c,d,e,f,rfl,M,sz,sy,hne,hl,rfl⟩:=h
  rfl
 obtain ⟨pts,a,b,c,d,e,f,rfl,M,sz,sy,hne,hl,rfl⟩:=h
 refine Ws.nox ?_
 refine ae (kB (fh ((sO T).mono (by decide)) hr rfl T.m_field T.F_field.kp T.b_field ay (ac (EvN.ev (e7 (ys:=(pts.map fun p=>pu (ap a b c d e f p))) rfl (blk (af bH) ["land","move","P"] [2] rfl rfl rfl rfl (by decide+kernel)) (cP (aa 0 rfl) (.inl rfl)) (fun _ _ _ _=>bE (i:=2) eL.nd rfl (Or.inl rfl)) (bU (by decide)) ?clen ?csz (fun _ _=>trivial) ?celt)) ao dr) ⟨pts.map (ap a b c d e f),by rw[lp,zX];rfl,fun p hp=>by obtain ⟨q,hq,rfl⟩:=y8.mp hp;exact sy q hq,by rw[yK];exact hl,by simpa using hne,rfl⟩) ?_)
 case clen=>simp
 case csz=>rw[yK];exact Af (aM (by omega))
 case celt=>
  intro C s' H' fp j x y hx hy
  obtain ⟨p,hp,mp,rfl,rfl⟩:=gr hx hy
  exact (ar ((dD T).mono (by decide)) hr rfl T.m_moved T.F_moved.kp T.b_moved ay (ac (aa 2 rfl) (ac (aa 1 rfl) ao ag) ag) ⟨p.1,p.2,a,b,c,d,e,f,rfl,M,(sz p mp).1.mono (by decide),(sz p mp).2.mono (by decide),rfl⟩)
 exact rfl
end
section
variable {P:yT}{w:World}{K:yH}{mg:Str→Option Value}{base:Heap}
structure SM (C A B:P2) (a b c d e f:Int) (g u v s t s1 t1 k q x y:Int):Prop where
 L:LvG C A g u v s t s1 t1
 hx:x=s*B.1+t*B.2+(-s*C.1 - t*C.2)
 hy:y=-v*B.1+u*B.2+(v*C.1 - u*C.2)
 hk:(k=1∧0 < y)∨(k=-1∧y < 0)
 hq:q=x / (k*y)
 ea:a=s - q*(k* -v)
 eb:b=t - q*(k*u)
 ec:c=k* -v
 ed:d=k*u
 ee:e=(-s*C.1 - t*C.2) - q*(k*(v*C.1 - u*C.2))
 ef:f=k*(v*C.1 - u*C.2)
def SMx (C A B:P2) (a b c d e f:Int):Prop:=∃g u v s t s1 t1 k q x y,SM C A B a b c d e f g u v s t s1 t1 k q x y
theorem uN {C A B:P2} (h:C≠A) (hd:aq C A B≠0):∃a b c d e f,SMx C A B a b c d e f:=by
 obtain ⟨g,u,v,s,t,s1,t1,L⟩:=ww h
 have gp:0 < g:=by have:=L.G.g0;have:=L.gn;omega
 have e1:A.1 - C.1=g*u:=by rw[L.hu];exact (Cd L.G.da).symm
 have e2:A.2 - C.2=g*v:=by rw[L.hv];exact (Cd L.G.db).symm
 have yn:-v*B.1+u*B.2+(v*C.1 - u*C.2)≠0:=fun z=>hd (by
  unfold aq
  rw[e1,e2]
  have:g*u*(B.2 - C.2) - g*v*(B.1 - C.1)=g*(-v*B.1+u*B.2+(v*C.1 - u*C.2)):=by grind
  rw[this,z,HM])
 by_cases yp:0 < -v*B.1+u*B.2+(v*C.1 - u*C.2)
 ·exact ⟨_,_,_,_,_,_,g,u,v,s,t,s1,t1,1,_,_,_,L,rfl,rfl,.inl ⟨rfl,yp⟩,rfl,rfl,rfl,rfl,rfl,rfl,rfl⟩
 ·exact ⟨_,_,_,_,_,_,g,u,v,s,t,s1,t1,-1,_,_,_,L,rfl,rfl,.inr ⟨rfl,by omega⟩,rfl,rfl,rfl,rfl,rfl,rfl,rfl⟩
section
variable {C A B:P2}{a b c d e f g u v s t s1 t1 k q x y:Int}
theorem SM.stn (h:SM C A B a b c d e f g u v s t s1 t1 k q x y):Stn C A B a b c d e f:=by
 have gp:0 < g:=by have:=h.L.G.g0;have:=h.L.gn;omega
 have e1:A.1 - C.1=g*u:=by rw[h.L.hu];exact (Cd h.L.G.da).symm
 have e2:A.2 - C.2=g*v:=by rw[h.L.hv];exact (Cd h.L.G.db).symm
 rw[h.ea,h.eb,h.ec,h.ed,h.ee,h.ef]
 refine wj gp e1 e2 h.L.G1.eq h.hx h.hy ?_ ?_ h.hq
 ·rcases h.hk with ⟨z,_⟩ |⟨z,_⟩
  ·exact .inl z
  ·exact .inr z
 ·rcases h.hk with ⟨z,w⟩ |⟨z,w⟩ <;>rw[z] <;>omega
structure SMz (m:Nat) (u v s t x y e0 f0 q:Int):Prop where
 u:Sz (m+1) u
 v:Sz (m+1) v
 s:Sz (m+9) s
 t:Sz (2*m+10) t
 e0:Sz (3*m+11) e0
 f0:Sz (2*m+2) f0
 x:Sz (3*m+13) x
 y:Sz (2*m+4) y
 q:Sz (3*m+13) q
theorem SM.sz {m:Nat} (h:SM C A B a b c d e f g u v s t s1 t1 k q x y) (zC:Szp m C) (zA:Szp m A) (zB:Szp m B):SMz m u v s t x y (-s*C.1 - t*C.2) (v*C.1 - u*C.2) q:=by
 have zu:Sz (m+1) u:=by rw[h.L.hu];exact ((L2.Sz.sub' zA.1 zC.1).mono (by omega):Sz (m+1) _).ediv
 have zv:Sz (m+1) v:=by rw[h.L.hv];exact ((L2.Sz.sub' zA.2 zC.2).mono (by omega):Sz (m+1) _).ediv
 obtain ⟨_,zs,zt⟩:=ku h.L.G1 zu zv
 have ze:Sz (3*m+11) (-s*C.1 - t*C.2):=(L2.Sz.sub' (L2.Sz.mul (L2.Sz.neg zs) zC.1) (L2.Sz.mul zt zC.2)).mono (by omega)
 have zf:Sz (2*m+2) (v*C.1 - u*C.2):=(L2.Sz.sub' (L2.Sz.mul zv zC.1) (L2.Sz.mul zu zC.2)).mono (by omega)
 have zx:Sz (3*m+13) x:=by rw[h.hx];exact (L2.Sz.add' (L2.Sz.add' (L2.Sz.mul zs zB.1) (L2.Sz.mul zt zB.2)) ze).mono (by omega)
 have zy:Sz (2*m+4) y:=by rw[h.hy];exact (L2.Sz.add' (L2.Sz.add' (L2.Sz.mul (L2.Sz.neg zv) zB.1) (L2.Sz.mul zu zB.2)) zf).mono (by omega)
 exact ⟨zu,zv,zs.mono (by omega),zt.mono (by omega),ze,zf,zx,zy,by rw[h.hq];exact zx.ediv⟩
theorem SM.k1 (h:SM C A B a b c d e f g u v s t s1 t1 k q x y):Sz 1 k:=by
 rcases h.hk with ⟨z,_⟩ |⟨z,_⟩ <;>rw[z] <;>decide
structure Mz (m:Nat) (a b c d e f:Int):Prop where
 u:a*d - b*c=1∨a*d - b*c=-1
 a:Sz (4*m+16) a
 b:Sz (4*m+16) b
 c:Sz (m+2) c
 d:Sz (m+2) d
 e:Sz (5*m+17) e
 f:Sz (2*m+3) f
theorem SM.mz {m:Nat} (h:SM C A B a b c d e f g u v s t s1 t1 k q x y) (zC:Szp m C) (zA:Szp m A) (zB:Szp m B):Mz m a b c d e f:=by
 have Z:=h.sz zC zA zB
 have zk:=h.k1
 refine ⟨h.stn.dt,?_,?_,?_,?_,?_,?_⟩
 ·rw[h.ea];exact (L2.Sz.sub' Z.s (L2.Sz.mul Z.q (L2.Sz.mul zk (L2.Sz.neg Z.v)))).mono (by omega)
 ·rw[h.eb];exact (L2.Sz.sub' Z.t (L2.Sz.mul Z.q (L2.Sz.mul zk Z.u))).mono (by omega)
 ·rw[h.ec];exact (L2.Sz.mul zk (L2.Sz.neg Z.v)).mono (by omega)
 ·rw[h.ed];exact (L2.Sz.mul zk Z.u).mono (by omega)
 ·rw[h.ee];exact (L2.Sz.sub' Z.e0 (L2.Sz.mul Z.q (L2.Sz.mul zk Z.f0))).mono (by omega)
 ·rw[h.ef];exact (L2.Sz.mul zk Z.f0).mono (by omega)
theorem Mz.mv {m:Nat} (h:Mz m a b c d e f) (hm:m≤1000):Mv a b c d e f:=
 ⟨h.u,h.a.mono (by omega),h.b.mono (by omega),h.c.mono (by omega),h.d.mono (by omega),h.e.mono (by omega),h.f.mono (by omega)⟩
theorem Mz.ap {m:Nat} (h:Mz m a b c d e f) {p:P2} (z:Szp m p):Szp (5*m+30) (ap a b c d e f p):=
 ⟨(L2.Sz.add' (L2.Sz.add' (L2.Sz.mul h.a z.1) (L2.Sz.mul h.b z.2)) h.e).mono (by omega),(L2.Sz.add' (L2.Sz.add' (L2.Sz.mul h.c z.1) (L2.Sz.mul h.d z.2)) h.f).mono (by omega)⟩
end
theorem wK (a b c d e f:Int):beh a b c d e f 1 0 0 (-1) 0 0=mv a b (-c) (-d) e (-f):=by
 unfold beh
 rw[show (1*a+0*c:Int)=a by omega,show (1*b+0*d:Int)=b by omega,show (0*a+-1*c:Int)=-c by omega,show (0*b+-1*d:Int)=-d by omega,show (1*e+0*f+0:Int)=e by omega,show (0*e+-1*f+0:Int)=-f by omega]
theorem q0 (a b c d e f q:Int):beh a b c d e f 1 (-q) 0 1 0 0=mv (a - q*c) (b - q*d) c d (e - q*f) f:=by
 unfold beh
 rw[show (1*a+-q*c:Int)=a - q*c by grind,show (1*b+-q*d:Int)=b - q*d by grind,show (0*a+1*c:Int)=c by omega,show (0*b+1*d:Int)=d by omega,show (1*e+-q*f+0:Int)=e - q*f by grind,show (0*e+1*f+0:Int)=f by omega]
theorem vO:Mv 1 0 0 (-1) 0 0:=by
 have k:∀{x:Int},Sz 8 x→Sz 30000 x:=fun h=>h.mono (by decide)
 exact ⟨.inr (by decide),k (by decide),k (by decide),k (by decide),k (by decide),k (by decide),k (by decide)⟩
theorem sn {q:Int} (z:Sz 4000 q):Mv 1 (-q) 0 1 0 0:=by
 have k:∀{x:Int},Sz 8 x→Sz 30000 x:=fun h=>h.mono (by decide)
 exact ⟨.inl (by omega),k (by decide),(L2.Sz.neg z).mono (by decide),k (by decide),k (by decide),k (by decide),k (by decide)⟩
def mC:List U→Out→Prop:=fun us o=>∃(C A B:P2) (a b c d e f:Int),us=[pu C,pu A,pu B]∧Szp 400 C∧Szp 400 A∧Szp 400 B∧SMx C A B a b c d e f∧o=.val (mv a b c d e f)
theorem kK (T:Txt K mg):bD P w K mg base (CXF P w) 6 T.a_stand T.d_stand ["corner","along","aside"] (spU K (mC)):=by
 refine bM T.F_stand ff (fun us o h=>?_) (fun cdv A outer s H E O us o hr h=>?_)
 ·obtain ⟨C,A,B,a,b,c,d,e,f,rfl,zC,zA,zB,⟨g,u,v,s',t,s1,t1,k,q,x,y,S⟩,rfl⟩:=h
  rfl
 obtain ⟨C,A,B,a,b,c,d,e,f,rfl,zC,zA,zB,⟨g,u,v,s',t,s1,t1,k,q,x,y,S⟩,rfl⟩:=h
 refine Ws.nox ?_
 have Z:=S.sz zC zA zB
 have L:=S.L
 have e1:=L.G1
 rw[L.hu,L.hv] at e1
 have two:tz C.1 C.2 A.1 A.2:=⟨zC.1.mono (by decide),zC.2.mono (by decide),zA.1.mono (by decide),zA.2.mono (by decide)⟩
 have M0:Mv s' t (-v) u (-s'*C.1 - t*C.2) (v*C.1 - u*C.2):=⟨.inl (by have:=L.G1.eq;grind),Z.s.mono (by decide),Z.t.mono (by decide),(L2.Sz.neg Z.v).mono (by decide),Z.u.mono (by decide),Z.e0.mono (by decide),Z.f0.mono (by decide)⟩
 have b1:Sz 30000 B.1:=zB.1.mono (by decide)
 have b2:Sz 30000 B.2:=zB.2.mono (by decide)
 have hx:=S.hx
 have hy:=S.hy
 have hq:=S.hq
 have zy:=Z.y
 have zq:=Z.q
 have key:=S
 refine ae (aK (i:=3) ff.nd rfl (Or.inl rfl) (ar ((sF T).mono (by decide)) hr rfl T.m_level T.F_level.kp T.b_level ay (ac (aa 0 rfl) (ac (aa 1 rfl) ao ag) ag) ⟨C.1,C.2,A.1,A.2,g,s1,t1,s',t,rfl,two,L.G,L.gn,e1,rfl⟩) ?_)
 rw[←L.hu,←L.hv]
 rcases S.hk with ⟨hk,yp⟩ |⟨hk,yn⟩
 ·subst hk
  refine ae (cq (ba oP (aJ (ar ((dD T).mono (by decide)) hr rfl T.m_moved T.F_moved.kp T.b_moved ay (ac (aa 2 rfl) (ac (aa 3 rfl) ao ag) ag) ⟨B.1,B.2,s',t,-v,u,_,_,rfl,M0,b1,b2,rfl⟩) ab rfl rfl) ab) (decide_eq_false (show ¬ (-v*B.1+u*B.2+(v*C.1 - u*C.2) < 0) by rw[←hy];omega)) (a_ ?_))
  refine ae (aK (i:=4) ff.nd rfl (Or.inl rfl) (ar ((dD T).mono (by decide)) hr rfl T.m_moved T.F_moved.kp T.b_moved ay (ac (aa 2 rfl) (ac (aa 3 rfl) ao ag) ag) ⟨B.1,B.2,s',t,-v,u,_,_,rfl,M0,b1,b2,rfl⟩) ?_)
  rw[←hx,←hy]
  rw[Ec] at hq
  refine ae (bC (ar ((gE T).mono (by decide)) hr rfl T.m_behind T.F_behind.kp T.b_behind ay (ac (aa 3 rfl) (ac (aY (aj ab (aj (cF (dw (aJ (aa 4 rfl) ab rfl rfl) (aJ (aa 4 rfl) ab rfl rfl) ⟨yp,zy.mono (by decide)⟩)) (aj ab (aj ab (aj ab (aj ab be au) au) au) au) i6) au)) ao ce) ag) ⟨s',t,-v,u,_,_,1,-(x / y),0,1,0,0,rfl,M0,sn (by rw[←hq];exact zq.mono (by decide)),rfl⟩) ?_)
  rw[←hq]
  refine congrArg Out.val ((q0 _ _ _ _ _ _ _).trans ?_)
  rw[S.ea,S.eb,S.ec,S.ed,S.ee,S.ef,Ec,Ec,Ec]
 ·subst hk
  have yy:-1*y=-y:=by omega
  rw[yy] at hq
  have M1:Mv s' t (- -v) (-u) (-s'*C.1 - t*C.2) (-(v*C.1 - u*C.2)):=⟨.inr (by have:=L.G1.eq;grind),M0.a,M0.b,L2.Sz.neg M0.c,L2.Sz.neg M0.d,M0.e,L2.Sz.neg M0.f⟩
  refine ae (jQ (ba oP (aJ (ar ((dD T).mono (by decide)) hr rfl T.m_moved T.F_moved.kp T.b_moved ay (ac (aa 2 rfl) (ac (aa 3 rfl) ao ag) ag) ⟨B.1,B.2,s',t,-v,u,_,_,rfl,M0,b1,b2,rfl⟩) ab rfl rfl) ab) (decide_eq_true (show -v*B.1+u*B.2+(v*C.1 - u*C.2) < 0 by rw[←hy];exact yn)) ?_)
  refine ae (aK (i:=3) ff.nd rfl (Or.inl rfl) (ar ((gE T).mono (by decide)) hr rfl T.m_behind T.F_behind.kp T.b_behind ay (ac (aa 3 rfl) (ac (aY (aj ab (aj ab (aj ab (aj (cF ab) (aj ab (aj ab be au) au) i6) au) au) au)) ao ce) ag) ⟨s',t,-v,u,_,_,1,0,0,-1,0,0,rfl,M0,vO,(congrArg Out.val (wK _ _ _ _ _ _)).symm⟩) (a_ ?_))
  have hy2:- -v*B.1+-u*B.2+-(v*C.1 - u*C.2)=-y:=by rw[hy];grind
  refine ae (aK (i:=4) ff.nd rfl (Or.inl rfl) (ar ((dD T).mono (by decide)) hr rfl T.m_moved T.F_moved.kp T.b_moved ay (ac (aa 2 rfl) (ac (aa 3 rfl) ao ag) ag) ⟨B.1,B.2,s',t,- -v,-u,_,_,rfl,M1,b1,b2,rfl⟩) ?_)
  rw[←hx,hy2]
  refine ae (bC (ar ((gE T).mono (by decide)) hr rfl T.m_behind T.F_behind.kp T.b_behind ay (ac (aa 3 rfl) (ac (aY (aj ab (aj (cF (dw (aJ (aa 4 rfl) ab rfl rfl) (aJ (aa 4 rfl) ab rfl rfl) ⟨(by omega),(L2.Sz.neg zy).mono (by decide)⟩)) (aj ab (aj ab (aj ab (aj ab be au) au) au) au) i6) au)) ao ce) ag) ⟨s',t,- -v,-u,_,_,1,-(x / -y),0,1,0,0,rfl,M1,sn (by rw[←hq];exact zq.mono (by decide)),rfl⟩) ?_)
  rw[←hq]
  refine congrArg Out.val ((q0 _ _ _ _ _ _ _).trans ?_)
  rw[S.ea,S.eb,S.ec,S.ed,S.ee,S.ef,show -1* -v=- -v by omega,show -1*u=-u by omega,show -1*(v*C.1 - u*C.2)=-(v*C.1 - u*C.2) by omega]
end
section
variable {P:yT}{w:World}{K:yH}{mg:Str→Option Value}{base:Heap}
theorem qj {l:List P2} (h:0 < l.length):d9 (l.map pu) (some (-1)) none++d9 (l.map pu) none (some (-1))=((zS l.length).map fun i=>gp l (pI l.length i)).map pu:=by
 rw[fZ]
 have e:d9 (l.map pu) (some (-1)) none=[pu (gp l (l.length - 1))]:=by
  unfold d9 HT.sIx
  have e2:l=l.dropLast++[gp l (l.length - 1)]:=by
   have hne:l≠[]:=fun z=>by rw[z] at h;simp at h
   have:=(List.dropLast_concat_getLast hne).symm
   rw[List.getLast_eq_getElem] at this
   have g:gp l (l.length - 1)=l[l.length - 1]:=by
    show l.getD (l.length - 1) (0,0)=_
    rw[yL,yD (by omega)];rfl
   rw[g];exact this
  have e3:((-1:Int)+((l.map pu).length:Int)).toNat=l.length - 1:=by rw[yK];omega
  simp only[show ((-1:Int) < 0)=True by simp,if_true,e3]
  rw[yK,←Fw]
  have e4:l.drop (l.length - 1)=[gp l (l.length - 1)]:=by
   have:=congrArg (List.drop (l.length - 1)) e2
   rw[this,List.drop_append_of_le_length (by simp),CP (by simp)];rfl
  rw[e4]
  show List.take (l.length - (l.length - 1)) [pu (gp l (l.length - 1))]=_
  rw[show l.length - (l.length - 1)=1 by omega];rfl
 rw[e]
 apply BO
 intro i
 by_cases hi:i < l.length
 ·rw[zX,yN,BQ hi]
  show _=some (pu (gp l (pI l.length i)))
  rw[nu hi]
  match i,hi with
  |0,hi=>rfl
  |i+1,hi=>
   rw[if_neg (by omega)]
   show (List.map pu l.dropLast)[i]?=_
   rw[yN,Bt,if_pos (by omega)]
   rw[show i+1 - 1=i by omega,lw (show i < l.length by omega)];rfl
 ·rw[zN (by simp;omega),zN (by simp;omega)]
theorem qe {l:List P2} (h:0 < l.length):d9 (l.map pu) (some 1) none++d9 (l.map pu) none (some 1)=((zS l.length).map fun i=>gp l (nI l.length i)).map pu:=by
 rw[xT,xi]
 apply BO
 intro i
 by_cases hi:i < l.length
 ·rw[zX,yN,BQ hi]
  show _=some (pu (gp l (nI l.length i)))
  rw[qa hi]
  by_cases k:i+1=l.length
  ·rw[if_pos k,zm (by simp;omega),Ga,yK,show i - (l.length - 1)=0 by omega,List.getElem?_take,if_pos (by decide),yN,lw h];rfl
  ·rw[if_neg k,zE (by simp;omega),B0,yN,show 1+i=i+1 by omega,lw (show i+1 < l.length by omega)];rfl
 ·rw[zN (by simp;omega),zN (by simp;omega)]
structure Gen (l:List P2) (F G:Nat→List Int):Prop where
 n3:3≤l.length
 n64:l.length≤31
 nd:l.Nodup
 sz:∀p∈l,Szp 400 p
 F:∀i,i < l.length→∃a b c d e f,F i=[a,b,c,d,e,f]∧SMx (gp l i) (gp l (pI l.length i)) (gp l (nI l.length i)) a b c d e f
 G:∀i,i < l.length→∃a b c d e f,G i=[a,b,c,d,e,f]∧SMx (gp l i) (gp l (nI l.length i)) (gp l (pI l.length i)) a b c d e f
def msU (n:Nat) (F G:Nat→List Int):List (List Int):=(zS (2*n)).map fun x=>if x % 2=0 then F (x / 2) else G (x / 2)
theorem Gen.all {l:List P2}{F G:Nat→List Int} (h:Gen l F G):All l (msU l.length F G):=by
 refine vM h.nd h.n3 F G (fun i hi=>?_) (fun i hi=>?_)
 ·obtain ⟨a,b,c,d,e,f,e1,g,u,v,s,t,s1,t1,k,q,x,y,S⟩:=h.F i hi
  exact ⟨a,b,c,d,e,f,e1,S.stn⟩
 ·obtain ⟨a,b,c,d,e,f,e1,g,u,v,s,t,s1,t1,k,q,x,y,S⟩:=h.G i hi
  exact ⟨a,b,c,d,e,f,e1,S.stn⟩
theorem sK (n:Nat) (F G:Nat→List Int):msU (n+1) F G=msU n F G++[F n]++[G n]:=by
 unfold msU
 rw[show 2*(n+1)=2*n+1+1 by omega,ER,ER,An,An]
 congr 1
 ·congr 1
  show [if 2*n % 2=0 then F (2*n / 2) else G (2*n / 2)]=_
  rw[if_pos (by omega),show 2*n / 2=n by omega]
 ·show [if (2*n+1) % 2=0 then F ((2*n+1) / 2) else G ((2*n+1) / 2)]=_
  rw[if_neg (by omega),show (2*n+1) / 2=n by omega]
theorem ip (n:Nat) (F G:Nat→List Int):(msU n F G).length=2*n:=by unfold msU;simp
def ll:List U→Out→Prop:=fun us o=>∃(l:List P2) (F G:Nat→List Int),us=[lp l]∧Gen l F G∧o=.new ((ST6.srtL (msU l.length F G)).map sxU)
theorem jI (T:Txt K mg):bD P w K mg base (CXF P w) 7 T.a_stands T.d_stands ["land"] (spU K (ll)):=by
 refine bM T.F_stands dE (fun us o h=>?_) (fun cdv A outer s H E O us o hr h=>?_)
 ·obtain ⟨l,F,G,rfl,W,rfl⟩:=h
  rfl
 obtain ⟨l,F,G,rfl,W,rfl⟩:=h
 refine Ws.nox ?_
 have n3:=W.n3
 have n64:=W.n64
 have n0:0 < l.length:=by omega
 have q1:=qj n0
 have q2:=qe n0
 refine ae (cq (ba oP (aX (fL rfl) rfl T.z_len AW (ac (aa 0 rfl) ao ag)) ab) (by rw[yK];exact decide_eq_false (by omega)) (a_ ?_))
 refine ae (jn (i:=1) dE.nd rfl (Or.inl rfl) (gK be) ?_)
 refine ae (uL (fun i:Nat=>[some (.val (lp l)),some (.own ((msU i F G).map sxU)),none,none,none]) (fun i j=>i=j) rfl PassesOwn.never (vW rfl T.z_zip (EvN.ev (jD (EvN.ev (cT (aa 0 rfl) (dc (cF ab)) gh (.inl rfl))) (EvN.ev (cT (aa 0 rfl) gh (dc (cF ab)) (.inl rfl))) (by rw[←zM,q1];simp;exact Af (aM (by omega))))) (.inl rfl) (aa 0 rfl) (.inl rfl) (EvN.ev (jD (EvN.ev (cT (aa 0 rfl) (dc ab) gh (.inl rfl))) (EvN.ev (cT (aa 0 rfl) gh (dc ab) (.inl rfl))) (by rw[←zM,q2];simp;exact Af (aM (by omega))))) (.inl rfl) (by rw[q1];simp) (by rw[q1,q2];simp) bu ag bu) ?h0 ?hs ?hd)
 case h0=>exact ⟨0,rfl,rfl,rfl,trivial⟩
 case hs=>
  rintro H0 i x _ hx rfl
  rw[q1,q2] at hx
  have hi:i < l.length:=by
   have:=aC hx
   rwa [fA (by simp) (by simp),yK,yK,DV] at this
  have at1:∀(f:Nat→P2),(((zS l.length).map f).map pu)[i]?=some (pu (f i)):=fun f=>by rw[zX,yN,BQ hi];rfl
  have at2:(l.map pu)[i]?=some (pu (gp l i)):=by rw[yN,lw hi];rfl
  rw[iD (at1 _) at2 (at1 _)] at hx
  cases hx
  have zc:=W.sz _ (gH hi)
  have zp:=W.sz _ (gH (rT hi))
  have zn:=W.sz _ (gH (vw hi))
  obtain ⟨a,b,c,d,e,f,eF,SF⟩:=W.F i hi
  obtain ⟨a',b',c',d',e',f',eG,SG⟩:=W.G i hi
  refine ⟨_,(ve [2,3,4] rfl (eC (bE (i:=2) dE.nd rfl (Or.inl rfl)) (eC (bE (i:=3) dE.nd rfl (Or.inl rfl)) (eC (bE (i:=4) dE.nd rfl (Or.inl rfl)) nS))) rfl),?_⟩
  refine ae (fk 1 rfl (ar ((kK T).mono (by decide)) hr rfl T.m_stand T.F_stand.kp T.b_stand ay (ac (aa 3 rfl) (ac (aa 2 rfl) (ac (aa 4 rfl) ao ag) ag) ag) ⟨_,_,_,a,b,c,d,e,f,rfl,zc,zp,zn,SF,rfl⟩) (by rw[yK,ip];exact aM (by omega)) ?_)
  refine ae (fk 1 rfl (ar ((kK T).mono (by decide)) hr rfl T.m_stand T.F_stand.kp T.b_stand ay (ac (aa 3 rfl) (ac (aa 4 rfl) (ac (aa 2 rfl) ao ag) ag) ag) ⟨_,_,_,a',b',c',d',e',f',rfl,zc,zn,zp,SG,rfl⟩) (by rw[zM,yK,ip];exact aM (by simp;omega)) (a_ ?_))
  refine ⟨i+1,rfl,rfl,?_,trivial⟩
  refine congrArg (fun z=>some (Sl.own z)) ?_
  rw[sK,An,An,eF,eG];rfl
 case hd=>
  rintro q ps hq hps
  refine d7 ?_ hps
  have:q=l.length:=by rw[←hq,q1,q2,fA (by simp) (by simp)];simp
  subst this
  have A:=W.all
  refine iK 1 rfl ?_
  refine ae (kB (pW rfl T.z_sorted (aa 1 rfl) ⟨by rw[ip];omega,A.nodup,A.six⟩ ag) ?_)
  exact rfl
end
section
variable {P:yT}{w:World}{K:yH}{mg:Str→Option Value}{base:Heap}
def stL (l:List P2) (F G:Nat→List Int):List (List Int):=ST6.srtL (msU l.length F G)
def shK (l:List P2) (F G:Nat→List Int) (j:Nat):List P2:=ak (l.map (apL ((stL l F G).getD j [])))
def cN (l:List P2) (F G:Nat→List Int):Nat:=abK (shK l F G) ((stL l F G).length - 1)
def fR (l:List P2) (F G:Nat→List Int):List Int:=(stL l F G).getD (cN l F G) []
theorem kC {α:Type} [DecidableEq α]:∀{l m:List α},l.Nodup→(∀x∈l,x∈m)→l.length≤m.length
 |[],m,_,_=>zW _
 |a::l,m,h,s=>by
  obtain ⟨h1,h2⟩:=Bm.mp h
  have hm:=s a (by simp)
  have e:=kC (l:=l) (m:=m.erase a) h2 fun x hx=>(EW (a:=x) (b:=a) (fun z=>h1 (by rw[←z];exact hx))).mpr (s x (yM _ hx))
  rw[DZ hm] at e
  have:=Bu hm
  rw[zH];omega
theorem qz {ms:List (List Int)} (nd:ms.Nodup):(ST6.srtL ms).length=ms.length:=by
 have n2:(ST6.srtL ms).Nodup:=(ST6.srtL_ascL ms).imp fun {a b} h e=>by subst e;rw[ST6.ascL_irr] at h;cases h
 exact Nat.le_antisymm (kC n2 fun x hx=>(ST6.srtL_mem x ms).mp hx) (kC nd fun x hx=>(ST6.srtL_mem x ms).mpr hx)
theorem Gen.len {l:List P2}{F G:Nat→List Int} (W:Gen l F G):(stL l F G).length=2*l.length:=by
 unfold stL
 rw[qz W.all.nodup,ip]
theorem Gen.mz {m:Nat}{l:List P2}{F G:Nat→List Int} (W:Gen l F G) (sz:∀p∈l,Szp m p) {x:List Int} (h:x∈msU l.length F G):∃a b c d e f,x=[a,b,c,d,e,f]∧Mz m a b c d e f:=by
 unfold msU at h
 obtain ⟨x,hx,rfl⟩:=y8.mp h
 have hi:x / 2 < l.length:=by have:=zK.mp hx;omega
 have zc:=sz _ (gH hi)
 have zp:=sz _ (gH (rT hi))
 have zn:=sz _ (gH (vw hi))
 split
 ·obtain ⟨a,b,c,d,e,f,e1,g,u,v,s,t,s1,t1,k,q,x,y,S⟩:=W.F _ hi
  exact ⟨a,b,c,d,e,f,e1,S.mz zc zp zn⟩
 ·obtain ⟨a,b,c,d,e,f,e1,g,u,v,s,t,s1,t1,k,q,x,y,S⟩:=W.G _ hi
  exact ⟨a,b,c,d,e,f,e1,S.mz zc zn zp⟩
theorem Gen.at_ {l:List P2}{F G:Nat→List Int} (W:Gen l F G) {j:Nat} (h:j < (stL l F G).length):(stL l F G).getD j []∈msU l.length F G:=by
 rw[yL,yD h]
 exact (ST6.srtL_mem _ _).mp (Cm h)
theorem Gen.fm {l:List P2}{F G:Nat→List Int} (W:Gen l F G) {j:Nat} (h:j < (stL l F G).length):n8 [lp l,sxU ((stL l F G).getD j [])] (.new ((shK l F G j).map pu)):=by
 obtain ⟨a,b,c,d,e,f,e1,M⟩:=W.mz W.sz (W.at_ h)
 unfold shK
 rw[e1]
 have n3:=W.n3
 have n60:=W.n64
 refine ⟨l,a,b,c,d,e,f,rfl,M.mv (by decide),fun p hp=>⟨(W.sz p hp).1.mono (by decide),(W.sz p hp).2.mono (by decide)⟩,fun p hp=>?_,fun z=>by rw[z] at n3;simp at n3,by omega,rfl⟩
 have:=M.ap (W.sz p hp)
 exact ⟨this.1.mono (by decide),this.2.mono (by decide)⟩
theorem Gen.best {l:List P2}{F G:Nat→List Int} (W:Gen l F G):cN l F G < (stL l F G).length:=by
 have:=qQ (shK l F G) ((stL l F G).length - 1)
 have n3:=W.n3
 have e:=W.len
 unfold cN
 omega
def hJ:List U→Out→Prop:=fun us o=>∃(l:List P2) (F G:Nat→List Int),us=[lp l]∧Gen l F G∧o=.val (sxU (fR l F G))
theorem iA (T:Txt K mg):bD P w K mg base (CXF P w) 8 T.a_to_form T.d_to_form ["land"] (spU K (hJ)):=by
 refine wk T.F_to_form mR (fun us o h=>?_) (fun A outer s H E O us o hr h=>?_)
 ·obtain ⟨l,F,G,rfl,W,rfl⟩:=h
  rfl
 obtain ⟨l,F,G,rfl,W,rfl⟩:=h
 refine Ws.nox ?_
 have n3:=W.n3
 have hm:((l.map pu).length:Int)=(l.length:Int):=by rw[yK]
 have hlen:=W.len
 refine ae (cq (ba cx (aX (fL rfl) rfl T.z_len AW (ac (aa 0 rfl) ao ag)) ab) (by rw[hm];exact decide_eq_false (by omega)) (a_ ?_))
 refine ae (cq (ba cx (aX (fL rfl) rfl T.z_len AW (ac (aa 0 rfl) ao ag)) ab) (by rw[hm];exact decide_eq_false (by omega)) (a_ ?_))
 refine ae (bC (sM (items:=(stL l F G).map sxU) (kf:=shK l F G) (y:="land") (z:="move") (iy:=0) (landU:=lp l) rfl (jh hr) hr.depth rfl T.z_min T.tf (EvN.ev (fh ((jI T).mono (by decide)) hr rfl T.m_stands T.F_stands.kp T.b_stands ay (ac (aa 0 rfl) ao ag) ⟨l,F,G,rfl,W,rfl⟩)) (by rw[yK];omega) rfl rfl rfl rfl T.tf_cd (show (("to_form":Str)++".<locals>.")++"<lambda>"=g_ by decide+kernel) rfl rfl ⟨rfl,rfl,rfl,by decide,rfl,rfl,by decide⟩ (by decide) (fun _ _ _ _=>rfl) (fun s' H' q c' O' j x hx=>?he)) ?_)
 case he=>
  rw[yN] at hx
  obtain ⟨m,hm',rfl⟩:=BY.mp hx
  have hj:j < (stL l F G).length:=aC hm'
  have e:(stL l F G).getD j []=m:=by rw[yL,hm'];rfl
  rw[←e]
  exact fh ((eU T).mono (by decide)) (hr.in1.deeper _) rfl T.m_field_moved T.F_field_moved.kp T.b_field_moved ay (ac (aa 0 rfl) (ac (aa 1 rfl) ao ag) ag) (W.fm hj)
 show Out.val _=Out.val _
 unfold fR cN
 rw[yK]
 have hb:=W.best
 unfold cN at hb
 rw[yL,yN,yD hb,yL,yD hb]
 rfl
def jz:List U→Out→Prop:=fun us o=>∃(l:List P2) (F G:Nat→List Int),us=[lp l]∧Gen l F G∧o=.new ((shK l F G (cN l F G)).map pu)
theorem sV (T:Txt K mg):bD P w K mg base (CXF P w) 9 T.a_form T.d_form ["land"] (spU K (jz)):=by
 refine bM T.F_form tW (fun us o h=>?_) (fun cdv A outer s H E O us o hr h=>?_)
 ·obtain ⟨l,F,G,rfl,W,rfl⟩:=h
  rfl
 obtain ⟨l,F,G,rfl,W,rfl⟩:=h
 refine Ws.nox ?_
 refine ae (kB (fh ((eU T).mono (by decide)) hr rfl T.m_field_moved T.F_field_moved.kp T.b_field_moved ay (ac (aa 0 rfl) (ac (ar ((iA T).mono (by decide)) hr rfl T.m_to_form T.F_to_form.kp T.b_to_form ay (ac (aa 0 rfl) ao ag) ⟨l,F,G,rfl,W,rfl⟩) ao cD) ag) (W.fm W.best)) ?_)
 exact rfl
end
section
variable {P:yT}{w:World}{K:yH}{mg:Str→Option Value}{base:Heap}
def cel (ns:List Int) (k:Int):Int:=if k < (ns.length:Int) then ns.getD k.toNat 0 else 0
theorem rf {ns:List Int} (h:∀m∈ns,Sz 1048576 m) (k:Int):Sz 1048576 (cel ns k):=by
 unfold cel
 split
 ·exact ko h _
 ·exact Sz.mono (m:=8) (by decide) (by decide)
def pi:List U→Out→Prop:=fun us o=>∃(ns:List Int) (k:Int),us=[.scr (ns.map U.int),.int k]∧0≤k∧o=.val (.int (cel ns k))
theorem bv (T:Txt K mg):bD P w K mg base (CXF P w) 1 T.a__law_cell_at T.d__law_cell_at ["script","k"] (spU K (pi)):=by
 refine bM T.F__law_cell_at ii (fun us o h=>?_) (fun cdv A outer s H E O us o hr h=>?_)
 ·obtain ⟨ns,k,rfl,h0,rfl⟩:=h
  rfl
 obtain ⟨ns,k,rfl,h0,rfl⟩:=h
 refine Ws.nox ?_
 have hm:((ns.map U.int).length:Int)=(ns.length:Int):=by rw[yK]
 refine ae (lc (ba oP (aa 1 rfl) (aX (fL rfl) rfl T.z_len AW (ac (aa 0 rfl) ao ag))) (fun hT=>?_) (fun hF=>(a_ ?_)))
 ·rw[hm] at hT
  have hk:=dTb hT
  refine ae (bC (aJ (aa 0 rfl) (aa 1 rfl) rfl (iB h0 hk)) ?_)
  exact vIO (by unfold cel;rw[if_pos hk])
 ·rw[hm] at hF
  have hk:=dFb hF
  refine ae (bC ab ?_)
  exact vIO (by unfold cel;rw[if_neg hk])
def ut:List U→Out→Prop:=fun us o=>∃n:Int,us=[.int n]∧o=.val (.bl true)
theorem dy (T:Txt K mg):bD P w K mg base (CXF P w) 1 T.a__law_whole T.d__law_whole ["found"] (spU K (ut)):=by
 refine bM T.F__law_whole jl (fun us o h=>?_) (fun cdv A outer s H E O us o hr h=>?_)
 ·obtain ⟨n,rfl,rfl⟩:=h
  rfl
 obtain ⟨n,rfl,rfl⟩:=h
 refine Ws.nox ?_
 refine ae (bC (rK (aX (cL (by intro _ h;cases h) (by walk_at "kit")) rfl T.z_isinstance Bq (ac (aa 0 rfl) (ac (kF rfl T.z_int boot_int) ao ag) ag)) (fun hz=>(pQ (vn (aX (cL (by intro _ h;cases h) (by walk_at "kit")) rfl T.z_isinstance Bq (ac (aa 0 rfl) (ac (kF rfl T.z_bool boot_bool) ao ag) ag)))))) ?_)
 exact rfl
def md:List U→Out→Prop:=fun us o=>∃P Q R:P2,us=[pu P,pu Q,pu R]∧Szp 5000 P∧Szp 5000 Q∧Szp 5000 R∧o=.val (.int (aq P Q R))
theorem jj (T:Txt K mg):bD P w K mg base (CXF P w) 1 T.a__law_cross T.d__law_cross ["one","two","three"] (spU K (md)):=by
 refine bM T.F__law_cross fT (fun us o h=>?_) (fun cdv A outer s H E O us o hr h=>?_)
 ·obtain ⟨P,Q,R,rfl,⟨p1,p2⟩,⟨q1,q2⟩,⟨r1,r2⟩,rfl⟩:=h
  rfl
 obtain ⟨P,Q,R,rfl,⟨p1,p2⟩,⟨q1,q2⟩,⟨r1,r2⟩,rfl⟩:=h
 refine Ws.nox ?_
 refine ae (aK (i:=3) fT.nd rfl (Or.inl rfl) (bK (bB (aJ (aa 1 rfl) ab rfl rfl) (aJ (aa 0 rfl) ab rfl rfl)) (bB (aJ (aa 2 rfl) ab rfl rfl) (aJ (aa 0 rfl) ab rfl rfl)) (by walk_at "mul")) ?_)
 refine ae (bC (bB (aa 3 rfl) (bK (bB (aJ (aa 1 rfl) ab rfl rfl) (aJ (aa 0 rfl) ab rfl rfl)) (bB (aJ (aa 2 rfl) ab rfl rfl) (aJ (aa 0 rfl) ab rfl rfl)) (by walk_at "mul"))) ?_)
 exact rfl
def gv (row:List P2) (j:Nat):List P2:=if j=0 then [] else if j=1 then (ai row).reverse.dropLast else (ai row).reverse.dropLast++(ai row.reverse).reverse.dropLast
def fP:List U→Out→Prop:=fun us o=>∃pts:List P2,us=[lp pts]∧(∀p∈pts,Szp 5000 p)∧pts.length < 64∧2≤(ST.srt pts).length∧o=.val (lp (ak pts))
theorem cj (T:Txt K mg):bD P w K mg base (CXF P w) 2 T.a__law_corners T.d__law_corners ["points"] (spU K (fP)):=by
 refine bM T.F__law_corners br (fun us o h=>?_) (fun cdv A outer s H E O us o hr h=>?_)
 ·obtain ⟨pts,rfl,sz,hl,h2,rfl⟩:=h
  rfl
 obtain ⟨pts,rfl,sz,hl,h2,rfl⟩:=h
 refine Ws.nox ?_
 have sl:=ST.srt_len pts
 have szs:=ro sz
 have b1:=eT (ST.srt pts)
 have b2:=eT (ST.srt pts).reverse
 rw[z_] at b2
 refine ae (aK (i:=1) br.nd rfl (Or.inl rfl) (EvN.ev (gX rfl (jh hr) rfl T.z_sorted rfl T.z_set (aa 0 rfl) hl ag)) ?_)
 have ec:ak pts=gv (ST.srt pts) 2:=by unfold ak gv;rw[if_neg (by omega)];rfl
 rw[ec]
 generalize ST.srt pts=row at *
 refine ae (aK (i:=2) br.nd rfl (Or.inl rfl) (EvN.ev (gK be)) ?_)
 refine ae (i8 (fun j:Nat=>[some (.val (lp pts)),some (.val (lp row)),some (.val (lp (gv row j))),none,none,none]) (fun i j=>i=j) rfl PassesOwn.never (cP (EvN.ev (gK (aj (aa 1 rfl) (aj (EvN.ev (oj rfl rfl T.z_list rfl T.z_reversed (aa 1 rfl) ag)) be cD) ag))) (.inl rfl)) ?h0 ?hs ?hd)
 case h0=>exact ⟨0,rfl,rfl,rfl,rfl,trivial⟩
 case hs=>
  rintro H0 j x _ hx rfl
  have hz:∃w:List P2,x=lp w∧(∀p∈w,Szp 5000 p)∧w.length≤63∧gv row (j+1)=gv row j++(ai w).reverse.dropLast∧(gv row j).length≤63:=by
   match j,hx with
   |0,hx=>
    cases hx
    exact ⟨row,rfl,szs,by omega,by simp[gv],by simp[gv]⟩
   |1,hx=>
    have e:x=U.lst ((row.map pu).reverse):=by cases hx;rfl
    subst e
    exact ⟨row.reverse,by rw[lp,A5],fun p hp=>szs p (y6.mp hp),by rw[z_];omega,by simp[gv],by simp[gv];omega⟩
   |j+2,hx=>simp at hx
  obtain ⟨w,rfl,wz,wl,hacc,hal⟩:=hz
  refine ⟨_,(iM (i:=3) br.nd rfl (Or.inl rfl)),?_⟩
  have bw:=eT w
  refine ae (jn (i:=4) br.nd rfl (Or.inl rfl) (gK be) ?_)
  refine gL (fun ps=>SubP [some (.val (lp pts)),some (.val (lp row)),some (.val (lp (gv row j))),some (.val (lp w)),some (.own ((ai w).reverse.map pu)),none] ps) (i8 (fun st:List P2=>[some (.val (lp pts)),some (.val (lp row)),some (.val (lp (gv row j))),some (.val (lp w)),some (.own (st.reverse.map pu)),none]) (fun i st=>st=ai (w.take i)) rfl PassesOwn.never (cP (aa 3 rfl) (.inl rfl)) ?h02 ?hs2 ?hd2) ?hj
  case h02=>exact ⟨[],rfl,rfl,rfl,rfl,rfl,rfl,trivial⟩
  case hs2=>
   rintro H0 i x _ hx rfl
   obtain ⟨P,hP,mP,rfl⟩:=qd hx
   have hi:i < w.length:=aC hP
   have sP:=wz P mP
   refine ⟨_,(iM (i:=5) br.nd rfl (Or.inl rfl)),?_⟩
   have len0:=fz w i
   refine gL (fun ps=>SubP [some (.val (lp pts)),some (.val (lp row)),some (.val (lp (gv row j))),some (.val (lp w)),some (.own ((aZ P (ai (w.take i))).reverse.map pu)),some (.val (pu P))] ps) (iN (fun s2:List P2=>[some (.val (lp pts)),some (.val (lp row)),some (.val (lp (gv row j))),some (.val (lp w)),some (.own (s2.reverse.map pu)),some (.val (pu P))]) (fun m s2=>m=s2.length∧aZ P s2=aZ P (ai (w.take i))∧(∀p∈s2,p∈w)∧s2.length≤i) PassesOwn.never ?h03 ?hs3) ?hj3
   case h03=>exact ⟨_,_,⟨rfl,rfl,fun q hq=>dP w i q hq,len0⟩,rfl,rfl,rfl,rfl,rfl,rfl,trivial⟩
   case hs3=>
    rintro m s2 ⟨rfl,e2,sub,len2⟩
    match s2,e2,sub,len2 with
    |[],e2,sub,len2=>
     refine ⟨false,?_,fun h=>(nomatch h),fun h ps hps=>e2 ▸ hps⟩
     exact (Tw.t (j0 (ba jc (fW 4 rfl rfl T.z_len) ab) rfl))
    |[b],e2,sub,len2=>
     refine ⟨false,?_,fun h=>(nomatch h),fun h ps hps=>e2 ▸ hps⟩
     exact (Tw.t (j0 (ba jc (fW 4 rfl rfl T.z_len) ab) rfl))
    |b::a::r,e2,sub,len2=>
     have sa:=wz a (sub a (by simp))
     have sb:=wz b (sub b (by simp))
     have e1:decide ((1:Int) < ((((b::a::r).reverse.map pu).length:Nat):Int))=true:=decide_eq_true (by simp;omega)
     refine ⟨decide ((1:Int) < ((((b::a::r).reverse.map pu).length:Nat):Int)) && decide (aq a b P≤0),?_,fun h=>?_,fun h ps hps=>?_⟩
     ·exact (Tw.t (qo (ba jc (fW 4 rfl rfl T.z_len) ab) (fun hz=>(rS (ba x4 (ar ((jj T).mono (by decide)) hr rfl T.m__law_cross T.F__law_cross.kp T.b__law_cross ay (ac (nj 4 rfl (cF ab) (u8 b a r)) (ac (nj 4 rfl (cF ab) (vd b (a::r))) (ac (aa 5 rfl) ao ag) bI) bI) ⟨a,b,P,rfl,sa,sb,sP,rfl⟩) ab)))))
     ·rw[e1,Dj] at h
      have hd:=dTb h
      refine ae (uW 4 rfl (by simp) (a_ ?_))
      refine ⟨_,a::r,?_,⟨rfl,?_,fun q hq=>sub q (yM _ hq),?_⟩,rfl,rfl,rfl,rfl,?_,rfl,trivial⟩
      ·simp
      ·rw[←e2];conv=>rhs;unfold aZ
       rw[if_pos hd]
      ·simp only[zH] at *;omega
      ·exact congrArg (fun l=>some (Sl.own l)) (by simp)
     ·rw[e1,Dj] at h
      have hd:=dFb h
      have e3:aZ P (b::a::r)=b::a::r:=by conv=>lhs;unfold aZ
                                         rw[if_neg hd]
      rw[←e2,e3]
      exact hps
   case hj3=>
    intro ps hps
    refine d7 ?_ hps
    have e4:=dW hP
    have len3:=il P (ai (w.take i))
    refine ae (fk 4 rfl (aa 5 rfl) (by rw[yK,z_];exact aM (by omega)) (a_ ?_))
    refine ⟨_,rfl,rfl,rfl,rfl,rfl,?_,trivial⟩
    exact congrArg (fun l=>some (Sl.own l)) (by rw[e4];simp)
  case hd2=>
   rintro st ps hst hps
   rw[hst] at hps
   rw[yK,BV] at hps
   exact hps
  case hj=>
   intro ps hps
   refine d7 ?_ hps
   refine iK 4 rfl ?_
   refine ae (aK (i:=2) br.nd rfl (Or.inl rfl) (EvN.ev (jD (aa 2 rfl) (EvN.ev (cT (aa 4 rfl) gh (dc (cF ab)) (.inl rfl))) (by rw[fZ,yK,yK,Bh,z_];exact Af (aM (by omega))))) (a_ ?_))
   rw[fZ,←An,←hacc]
   exact ⟨j+1,rfl,rfl,rfl,rfl,trivial⟩
 case hd=>
  rintro q ps hq hps
  refine d7 ?_ hps
  have:q=2:=by rw[←hq];rfl
  subst this
  refine ae (bC (aa 2 rfl) ?_)
  exact rfl
end
section
variable {P:yT}{w:World}{K:yH}{mg:Str→Option Value}{base:Heap}
theorem Szp.mono {m n:Nat}{p:P2} (h:Szp m p) (le:m≤n):Szp n p:=⟨h.1.mono le,h.2.mono le⟩
theorem wu {pts:List P2} (h3:3≤(ak pts).length) (cl:(ak pts).length≤31) (hz:∀p∈ak pts,Szp 400 p):∃F G,Gen (ak pts) F G:=by
 have h2:=dC h3
 have nd:=d0 pts
 have key:∀i,i < (ak pts).length→∃m m',(∃a b c d e f,m=[a,b,c,d,e,f]∧SMx (gp (ak pts) i) (gp (ak pts) (pI (ak pts).length i)) (gp (ak pts) (nI (ak pts).length i)) a b c d e f)∧
   ∃a b c d e f,m'=[a,b,c,d,e,f]∧SMx (gp (ak pts) i) (gp (ak pts) (nI (ak pts).length i)) (gp (ak pts) (pI (ak pts).length i)) a b c d e f:=fun i hi=>by
  have bd:=ox h3 h2 hi
  have n1:gp (ak pts) i≠gp (ak pts) (pI (ak pts).length i):=fun z=>by
   rw[←z] at bd;unfold aq at bd;rw[HN,HN] at bd;simp at bd
  have n2:gp (ak pts) i≠gp (ak pts) (nI (ak pts).length i):=fun z=>by
   rw[←z] at bd;unfold aq at bd
   generalize gp (ak pts) i=p at *
   generalize gp (ak pts) (pI (ak pts).length i)=q at *
   have:(p.1 - q.1) *(p.2 - q.2) - (p.2 - q.2) *(p.1 - q.1)=0:=by grind
   omega
  obtain ⟨a,b,c,d,e,f,S⟩:=uN (B:=gp (ak pts) (nI (ak pts).length i)) n1 (fun z=>by
   unfold aq at bd z;grind)
  obtain ⟨a',b',c',d',e',f',S'⟩:=uN (B:=gp (ak pts) (pI (ak pts).length i)) n2 (fun z=>by
   unfold aq at bd z;grind)
  exact ⟨_,_,⟨a,b,c,d,e,f,rfl,S⟩,a',b',c',d',e',f',rfl,S'⟩
 refine ⟨fun i=>if h:i < (ak pts).length then (key i h).choose else [],fun i=>if h:i < (ak pts).length then (key i h).choose_spec.choose else [],h3,cl,nd,hz,fun i hi=>?_,fun i hi=>?_⟩
 ·rw[dif_pos hi];exact (key i hi).choose_spec.choose_spec.1
 ·rw[dif_pos hi];exact (key i hi).choose_spec.choose_spec.2
theorem Gen.f {l:List P2}{F G:Nat→List Int} (W:Gen l F G):Fm l (msU l.length F G) (shK l F G (cN l F G)):=by
 refine ⟨⟨_,W.at_ W.best,rfl⟩,fun m hm=>?_⟩
 have hm':m∈stL l F G:=(ST6.srtL_mem m _).mpr hm
 obtain ⟨j,hj,rfl⟩:=BG.mp hm'
 have:=im (shK l F G) ((stL l F G).length - 1) j (by omega)
 unfold cN
 have e:shK l F G j=ak (l.map (apL (stL l F G)[j])):=by
  unfold shK
  rw[yL,yD hj];rfl
 rw[←e];exact this
end
section
variable {P:yT}{w:World}{K:yH}{mg:Str→Option Value}{base:Heap}
def lnF (c:Int) (b:Bool):Int:=if b=true then c % 9 - 4 else c % (2*10 ^ (20:Int).toNat+1) - 10 ^ (20:Int).toNat
theorem gJ (c:Int) (b:Bool):Sz 67 (lnF c b):=by
 unfold lnF
 split
 ·exact Sz.mono (m:=8) (by unfold Sz;omega) (by decide)
 ·have h1:=Be c (show (2*10 ^ (20:Int).toNat+1:Int)≠0 by decide+kernel)
  have h2:=AI c (show (0:Int) < 2*10 ^ (20:Int).toNat+1 by decide+kernel)
  have z:Sz 67 ((10:Int) ^ (20:Int).toNat):=by decide+kernel
  exact z.natle (by omega)
def pq:List U→Out→Prop:=fun us o=>∃(c:Int) (b:Bool),us=[.int c,.bl b]∧Sz 1048576 c∧o=.val (.int (lnF c b))
theorem cV (T:Txt K mg):bD P w K mg base (CXF P w) 1 T.a__law_lean T.d__law_lean ["cell","small"] (spU K (pq)):=by
 refine bM T.F__law_lean kn (fun us o h=>?_) (fun cdv A outer s H E O us o hr h=>?_)
 ·obtain ⟨c,b,rfl,sc,rfl⟩:=h
  rfl
 obtain ⟨c,b,rfl,sc,rfl⟩:=h
 refine Ws.nox ?_
 unfold lnF
 cases b with
 |true=>
  refine ae (jQ (eQ (aa 1 rfl)) rfl ?_)
  refine ae (bC (bB (cr (aa 0 rfl) ab (by walk_at "mod")) ab) ?_)
  exact rfl
 |false=>
  refine ae (cq (eQ (aa 1 rfl)) rfl (a_ ?_))
  refine ae (bC (bB (cr (aa 0 rfl) (cw (bK ab (jx ab ab ⟨by decide,by decide,by decide⟩) (by walk_at "mul")) ab) (by decide+kernel)) (jx ab ab ⟨by decide,by decide,by decide⟩)) ?_)
  exact rfl
def oF (ns:List Int):Int:=cel ns 0 / 64
def lA (ns:List Int):Int:=lnF (cel ns 1) (decide (oF ns / 2 % 2=1))
def lB (ns:List Int):Int:=lnF (cel ns 2) (decide (oF ns / 4 % 2=1))
def sR (ns:List Int):Int:=cel ns 3 % (2*10 ^ (40:Int).toNat+1) - 10 ^ (40:Int).toNat
def sU (ns:List Int):Int:=cel ns 4 % (2*10 ^ (40:Int).toNat+1) - 10 ^ (40:Int).toNat
def swF (ns:List Int) (p:P2):P2:=if oF ns % 2=1 then (p.2,p.1) else p
def yF (ns:List Int) (p:P2):Int:=(swF ns p).2+lA ns*(swF ns p).1
def putF (ns:List Int) (p:P2):P2:=((swF ns p).1+lB ns*yF ns p+sR ns,yF ns p+sU ns)
theorem s40 (c:Int):Sz 134 (c % (2*10 ^ (40:Int).toNat+1) - 10 ^ (40:Int).toNat):=by
 have h1:=Be c (show (2*10 ^ (40:Int).toNat+1:Int)≠0 by decide+kernel)
 have h2:=AI c (show (0:Int) < 2*10 ^ (40:Int).toNat+1 by decide+kernel)
 have z:Sz 134 ((10:Int) ^ (40:Int).toNat):=by decide+kernel
 exact z.natle (by omega)
theorem nv {ns:List Int}{p:P2} (h:Szp 68 p):Szp 68 (swF ns p):=by
 unfold swF
 split
 ·exact ⟨h.2,h.1⟩
 ·exact h
theorem qr {ns:List Int}{p:P2} (h:Szp 68 p):Sz 136 (yF ns p):=(L2.Sz.add' ((nv (ns:=ns) h).2.mono (n:=135) (by decide)) (L2.Sz.mul (gJ _ _) (nv (ns:=ns) h).1)).mono (by decide)
theorem vF {ns:List Int}{p:P2} (h:Szp 68 p):Szp 210 (putF ns p):=
 ⟨(L2.Sz.add' (L2.Sz.add' ((nv (ns:=ns) h).1.mono (n:=203) (by decide)) (L2.Sz.mul (gJ _ _) (qr h))) ((s40 _).mono (n:=204) (by decide))).mono (by decide),(L2.Sz.add' ((qr h).mono (n:=136) (by decide)) (s40 _)).mono (by decide)⟩
def lE:List U→Out→Prop:=fun us o=>∃(p:P2) (ns:List Int),us=[pu p,.scr (ns.map U.int)]∧(∀m∈ns,Sz 1048576 m)∧Szp 68 p∧o=.val (pu (putF ns p))
theorem fe (T:Txt K mg):bD P w K mg base (CXF P w) 2 T.a__law_put T.d__law_put ["spot","script"] (spU K (lE)):=by
 refine bM T.F__law_put bF (fun us o h=>?_) (fun cdv A outer s H E O us o hr h=>?_)
 ·obtain ⟨p,ns,rfl,hB,sp,rfl⟩:=h
  rfl
 obtain ⟨p,ns,rfl,hB,sp,rfl⟩:=h
 refine Ws.nox ?_
 have c1:=rf hB 1
 have c2:=rf hB 2
 have w:=nv (ns:=ns) sp
 have w1:=w.1
 have w2:=w.2
 have yz:=qr (ns:=ns) sp
 have az:Sz 67 (lA ns):=gJ _ _
 have bz:Sz 67 (lB ns):=gJ _ _
 refine ae (xy (aa 0 rfl) (ve [2,3] rfl (eC (bE (i:=2) bF.nd rfl (Or.inl rfl)) (eC (bE (i:=3) bF.nd rfl (Or.inl rfl)) nS)) rfl) ?_)
 refine ae (aK (i:=4) bF.nd rfl (Or.inl rfl) (dw (ar ((bv T).mono (by decide)) hr rfl T.m__law_cell_at T.F__law_cell_at.kp T.b__law_cell_at ay (ac (aa 1 rfl) (ac ab ao au) ag) ⟨ns,_,rfl,by decide,rfl⟩) ab (by walk_at "div")) ?_)
 rw[show cel ns 0 / 64=oF ns from rfl]
 refine gL (fun ps=>SubP [some (.val (pu p)),some (.val (.scr (ns.map U.int))),some (.val (.int (swF ns p).1)),some (.val (.int (swF ns p).2)),some (.val (.int (oF ns))),none,none] ps) (lc (ba cx (cr (aa 4 rfl) ab (by walk_at "mod")) ab) (fun hT=>?_) (fun hF=>(a_ ?_))) ?hj
 ·have e:swF ns p=(p.2,p.1):=by unfold swF;rw[if_pos (dTb hT)]
  refine ae (xN (i:=2) (j:=3) rfl bF.nd rfl rfl (by decide) rfl rfl (ac (aa 3 rfl) (ac (aa 2 rfl) ao ag) ag) rfl (a_ ?_))
  rw[e]
  exact ⟨rfl,rfl,rfl,rfl,rfl,trivial⟩
 ·have e:swF ns p=p:=by unfold swF;rw[if_neg (dFb hF)]
  rw[e]
  exact ⟨rfl,rfl,rfl,rfl,rfl,trivial⟩
 case hj=>
  intro ps hps
  refine d7 ?_ hps
  refine ae (aK (i:=3) bF.nd rfl (Or.inl rfl) (cw (aa 3 rfl) (bK (ar ((cV T).mono (by decide)) hr rfl T.m__law_lean T.F__law_lean.kp T.b__law_lean ay (ac (ar ((bv T).mono (by decide)) hr rfl T.m__law_cell_at T.F__law_cell_at.kp T.b__law_cell_at ay (ac (aa 1 rfl) (ac ab ao au) ag) ⟨ns,_,rfl,by decide,rfl⟩) (ac (lK cx (cr (dw (aa 4 rfl) ab (by walk_at "div")) ab (by walk_at "mod")) ab) ao sk) cD) ⟨_,_,rfl,c1,rfl⟩) (aa 2 rfl) (L2.Sz.ok az w1 (by decide)))) ?_)
  refine ae (aK (i:=2) bF.nd rfl (Or.inl rfl) (cw (aa 2 rfl) (bK (ar ((cV T).mono (by decide)) hr rfl T.m__law_lean T.F__law_lean.kp T.b__law_lean ay (ac (ar ((bv T).mono (by decide)) hr rfl T.m__law_cell_at T.F__law_cell_at.kp T.b__law_cell_at ay (ac (aa 1 rfl) (ac ab ao au) ag) ⟨ns,_,rfl,by decide,rfl⟩) (ac (lK cx (cr (dw (aa 4 rfl) ab (by walk_at "div")) ab (by walk_at "mod")) ab) ao sk) cD) ⟨_,_,rfl,c2,rfl⟩) (aa 3 rfl) (L2.Sz.ok bz yz (by decide)))) ?_)
  refine ae (aK (i:=5) bF.nd rfl (Or.inl rfl) (bB (cr (ar ((bv T).mono (by decide)) hr rfl T.m__law_cell_at T.F__law_cell_at.kp T.b__law_cell_at ay (ac (aa 1 rfl) (ac ab ao au) ag) ⟨ns,_,rfl,by decide,rfl⟩) (cw (bK ab (jx ab ab ⟨by decide,by decide,by decide⟩) (by walk_at "mul")) ab) (by decide+kernel)) (jx ab ab ⟨by decide,by decide,by decide⟩)) ?_)
  refine ae (aK (i:=6) bF.nd rfl (Or.inl rfl) (bB (cr (ar ((bv T).mono (by decide)) hr rfl T.m__law_cell_at T.F__law_cell_at.kp T.b__law_cell_at ay (ac (aa 1 rfl) (ac ab ao au) ag) ⟨ns,_,rfl,by decide,rfl⟩) (cw (bK ab (jx ab ab ⟨by decide,by decide,by decide⟩) (by walk_at "mul")) ab) (by decide+kernel)) (jx ab ab ⟨by decide,by decide,by decide⟩)) ?_)
  refine ae (bC (aY (aj (cw (aa 2 rfl) (aa 5 rfl)) (aj (cw (aa 3 rfl) (aa 6 rfl)) be bu) bu)) ?_)
  exact rfl
theorem wC (ns:List Int):∃a b c d e f:Int,(a*d - b*c=1∨a*d - b*c=-1)∧putF ns=ap a b c d e f:=by
 by_cases h:oF ns % 2=1
 ·refine ⟨lB ns,1+lA ns*lB ns,1,lA ns,sR ns,sU ns,.inr (by grind),funext fun p=>?_⟩
  unfold putF yF swF ap
  rw[if_pos h]
  refine CH ?_ ?_ <;>dsimp only <;>grind
 ·refine ⟨1+lA ns*lB ns,lB ns,lA ns,1,sR ns,sU ns,.inl (by grind),funext fun p=>?_⟩
  unfold putF yF swF ap
  rw[if_neg h]
  refine CH ?_ ?_ <;>dsimp only <;>grind
end
section
variable {P:yT}{w:World}{K:yH}{mg:Str→Option Value}{base:Heap}
theorem vA (l:List U):d9 l (some 5) (some 60)=(l.drop 5).take 55:=by
 unfold d9
 rw[show HT.sIx l.length 0 (some 5)=min 5 l.length from rfl,show HT.sIx l.length l.length (some 60)=min 60 l.length from rfl]
 by_cases h5:5≤l.length
 ·rw[GI h5]
  by_cases h60:60≤l.length
  ·rw[GI h60]
  ·rw[Nat.min_eq_right (by omega),CN (by simp),CN (by simp;omega)]
 ·rw[CP (by omega),CP (by omega)];simp
def eW (ns:List Int):Int:=2+cel ns 0 % 4
def eH (ns:List Int):Int:=2+cel ns 0 / 4 % 4
def eK (ns:List Int):Int:=cel ns 3 % 12
def e0 (ns:List Int):List P2:=if cel ns 0 / 16 % 2=0 then [(0,0),(1,0),(0,1)] else [(1,1),(1,0),(0,1)]
def e1 (ns:List Int):List P2:=if cel ns 0 / 32 % 2=1 then [(eW ns - 1,0),(0,eH ns - 1),(eW ns / 2 - 1,0),(eW ns - 1,eH ns - 1)] else e0 ns
def cS (ns:List Int):List Int:=(ns.drop 5).take 55
def eA (ns:List Int) (n:Nat):List P2:=(zS n).map fun i:Nat=>(lnF (ns.getD ((5:Int)+(i:Int) *2).toNat 0) false,lnF (ns.getD ((5:Int)+(i:Int) *2+1).toNat 0) false)
def eJ (ns:List Int):Int:=(if (13:Int) < (ns.length:Int) then 13 else (ns.length:Int)) - 1
def eN (ns:List Int):Nat:=e8 5 (eJ ns) 2
def eS (ns:List Int):List P2:=(cS ns).map fun c=>(c % 10,c % 10*(c % 10))
def eB (ns:List Int):List P2:=(cS ns).map fun c=>(c % eW ns,c / eW ns % eH ns)
def eP (ns:List Int):List P2:=if eK ns=1 then e1 ns++eS ns else if 2≤eK ns∧eK ns≤4 then e1 ns++eA ns (eN ns) else e1 ns++eB ns
theorem xr (ns:List Int):0≤eK ns∧eK ns < 12:=by unfold eK;omega
theorem sw {k:Int} (h:0≤k∧k < 12):inV (fl (.int k)) ([U.int 2,.int 3,.int 4].map fl)=decide (2≤k∧k≤4):=by
 have:k=0∨k=1∨k=2∨k=3∨k=4∨k=5∨k=6∨k=7∨k=8∨k=9∨k=10∨k=11:=by omega
 rcases this with e |e |e |e |e |e |e |e |e |e |e |e <;>subst e <;>rfl
theorem qC (ns:List Int):(e1 ns).length≤4∧(∀p∈e1 ns,Szp 8 p)∧∃A B C,A∈e1 ns∧B∈e1 ns∧C∈e1 ns∧aq A B C≠0:=by
 have w:2≤eW ns∧eW ns≤5:=by unfold eW;omega
 have h:2≤eH ns∧eH ns≤5:=by unfold eH;omega
 unfold e1
 split
 ·refine ⟨by simp,fun p hp=>?_,(eW ns - 1,0),(eW ns - 1,eH ns - 1),(0,eH ns - 1),by simp,by simp,by simp,?_⟩
  ·simp only[yP,Al,or_false] at hp
   rcases hp with e |e |e |e <;>rw[e] <;>constructor <;>unfold Sz <;>dsimp only <;>omega
  ·unfold aq
   dsimp only
   have:0 < (eW ns - 1) *(eH ns - 1):=Br (by omega) (by omega)
   have e:(eW ns - 1 - (eW ns - 1)) *(eH ns - 1 - 0) - (eH ns - 1 - 0) *(0 - (eW ns - 1))=(eW ns - 1) *(eH ns - 1):=by grind
   rw[e];omega
 ·unfold e0
  split
  ·refine ⟨by decide,fun p hp=>?_,(0,0),(1,0),(0,1),by simp,by simp,by simp,by decide⟩
   simp only[yP,Al,or_false] at hp
   rcases hp with e |e |e <;>rw[e] <;>constructor <;>decide
  ·refine ⟨by decide,fun p hp=>?_,(1,1),(1,0),(0,1),by simp,by simp,by simp,by decide⟩
   simp only[yP,Al,or_false] at hp
   rcases hp with e |e |e <;>rw[e] <;>constructor <;>decide
theorem vv (ns:List Int):eN ns≤4∧∀i:Nat,i < eN ns→(5:Int)+(i:Int) *2+1 < (ns.length:Int):=by
 unfold eN e8 eJ
 split <;>split <;>exact ⟨by omega,fun i hi=>by omega⟩
def tF:List P2:=[0,1,2,3,4].flatMap fun x=>[0,1,2,3,4].map fun y=>(x,y)
theorem wN {p:P2} (h:0≤p.1∧p.1≤4∧0≤p.2∧p.2≤4):p∈tF:=by
 obtain ⟨x,y⟩:=p
 dsimp only at h
 have hx:x=0∨x=1∨x=2∨x=3∨x=4:=by omega
 have hy:y=0∨y=1∨y=2∨y=3∨y=4:=by omega
 rcases hx with e |e |e |e |e <;>rcases hy with f |f |f |f |f <;>subst e <;>subst f <;>decide
def sqs:List P2:=[0,1,2,3,4,5,6,7,8,9].map fun x=>(x,x*x)
theorem r_ (c:Int):(c % 10,c % 10*(c % 10))∈sqs:=by
 have:c % 10=0∨c % 10=1∨c % 10=2∨c % 10=3∨c % 10=4∨c % 10=5∨c % 10=6∨c % 10=7∨c % 10=8∨c % 10=9:=by omega
 rcases this with e |e |e |e |e |e |e |e |e |e <;>rw[e] <;>decide
theorem uV (ns:List Int) (c:Int):(c % eW ns,c / eW ns % eH ns)∈tF:=by
 have w:2≤eW ns∧eW ns≤5:=by unfold eW;omega
 have h:2≤eH ns∧eH ns≤5:=by unfold eH;omega
 have a1:=Be c (show eW ns≠0 by omega)
 have a2:=AI c (show 0 < eW ns by omega)
 have b1:=Be (c / eW ns) (show eH ns≠0 by omega)
 have b2:=AI (c / eW ns) (show 0 < eH ns by omega)
 exact wN (by dsimp only;omega)
theorem vh (ns:List Int):(eP ns).length≤59∧(∀p∈eP ns,Szp 68 p)∧(∀p∈e1 ns,p∈eP ns)∧∃V:List P2,V.length≤29∧∀p∈eP ns,p∈V:=by
 obtain ⟨l1,z1,_⟩:=qC ns
 have n1:=(vv ns).1
 have cl:(cS ns).length≤55:=by unfold cS;simp;omega
 have zw:∀p∈tF,Szp 8 p:=by decide
 have zs:∀p∈sqs,Szp 8 p:=by decide
 have al:(eA ns (eN ns)).length=eN ns:=by unfold eA;simp
 have app:∀(L V:List P2),L.length≤55→(∀p∈L,Szp 68 p)→V.length≤25→(∀p∈L,p∈V)→(e1 ns++L).length≤59∧(∀p∈e1 ns++L,Szp 68 p)∧(∀p∈e1 ns,p∈e1 ns++L)∧∃V:List P2,V.length≤29∧∀p∈e1 ns++L,p∈V:=fun L V hL hz hV hs=>by
  refine ⟨by rw[zM];omega,fun p hp=>?_,fun p hp=>Ak _ hp,e1 ns++V,by rw[zM];omega,fun p hp=>?_⟩
  ·rcases AY.mp hp with q |q
   ·exact Szp.mono (z1 p q) (by decide)
   ·exact hz p q
  ·rcases AY.mp hp with q |q
   ·exact Ak _ q
   ·exact yS _ (hs p q)
 unfold eP
 split
 ·refine app _ sqs (by unfold eS;rw[yK];exact cl) (fun p hp=>?_) (by decide) fun p hp=>?_
  ·unfold eS at hp
   obtain ⟨c,_,rfl⟩:=y8.mp hp
   exact Szp.mono (zs _ (r_ c)) (by decide)
  ·unfold eS at hp
   obtain ⟨c,_,rfl⟩:=y8.mp hp
   exact r_ c
 ·split
  ·refine app _ _ (by omega) (fun p hp=>?_) (show (eA ns (eN ns)).length≤25 by omega) fun p hp=>hp
   obtain ⟨i,_,rfl⟩:=y8.mp hp
   dsimp only[Szp]
   exact ⟨(gJ _ _).mono (by decide),(gJ _ _).mono (by decide)⟩
  ·refine app _ tF (by unfold eB;rw[yK];exact cl) (fun p hp=>?_) (by decide) fun p hp=>?_
   ·unfold eB at hp
    obtain ⟨c,_,rfl⟩:=y8.mp hp
    exact Szp.mono (zw _ (uV ns c)) (by decide)
   ·unfold eB at hp
    obtain ⟨c,_,rfl⟩:=y8.mp hp
    exact uV ns c
theorem uq {ns:List Int}{A B C:P2} (h:aq A B C≠0):aq (putF ns A) (putF ns B) (putF ns C)≠0:=by
 obtain ⟨a,b,c,d,e,f,u,ep⟩:=wC ns
 have:aq (putF ns A) (putF ns B) (putF ns C)=(a*d - b*c) *aq A B C:=by rw[ep];unfold ap aq;dsimp only;grind
 rw[this]
 rcases u with q |q <;>rw[q] <;>omega
theorem nZ (ns:List Int):(∀p∈(eP ns).map (putF ns),Szp 210 p)∧3≤(ak ((eP ns).map (putF ns))).length∧(ak ((eP ns).map (putF ns))).length≤29:=by
 obtain ⟨a,b,c,V,v1,v2⟩:=vh ns
 obtain ⟨_,_,A,B,C,hA,hB,hC,hd⟩:=qC ns
 have hm:∀p∈e1 ns,putF ns p∈(eP ns).map (putF ns):=fun p hp=>y8.mpr ⟨p,c p hp,rfl⟩
 refine ⟨fun p hp=>?_,p0 (hm A hA) (hm B hB) (hm C hC) (uq hd),?_⟩
 ·obtain ⟨q,hq,rfl⟩:=y8.mp hp
  exact vF (b q hq)
 ·have:=kC (d0 ((eP ns).map (putF ns))) (m:=V.map (putF ns)) fun x hx=>by
   obtain ⟨q,hq,rfl⟩:=y8.mp (eu _ x hx)
   exact y8.mpr ⟨q,v2 q hq,rfl⟩
  rw[yK] at this
  omega
def pP:List U→Out→Prop:=fun us o=>∃ns:List Int,us=[.scr (ns.map U.int)]∧(∀m∈ns,Sz 1048576 m)∧o=.val (lp (ak ((eP ns).map (putF ns))))
theorem jT (T:Txt K mg):bD P w K mg base (CXF P w) 3 T.a__law_ends T.d__law_ends ["script"] (spU K (pP)):=by
 refine bM T.F__law_ends aL (fun us o h=>?_) (fun cdv A outer s H E O us o hr h=>?_)
 ·obtain ⟨ns,rfl,hB,rfl⟩:=h
  rfl
 obtain ⟨ns,rfl,hB,rfl⟩:=h
 refine Ws.nox ?_
 have w:2≤eW ns∧eW ns≤5:=by unfold eW;omega
 have h:2≤eH ns∧eH ns≤5:=by unfold eH;omega
 have wz:Sz 9000 (eW ns):=Sz.mono (m:=8) (by unfold Sz;omega) (by decide)
 obtain ⟨p1,p2,_⟩:=vh ns
 obtain ⟨ez,e3,_⟩:=nZ ns
 obtain ⟨q1,_,_⟩:=qC ns
 obtain ⟨n1,n2⟩:=vv ns
 obtain ⟨kk1,kk2⟩:=xr ns
 have hlen:((ns.map U.int).length:Int)=(ns.length:Int):=by rw[yK]
 have cut:d9 (ns.map U.int) (some 5) (some 60)=(cS ns).map U.int:=by rw[vA,←Fw,←Hz];rfl
 have cl:(cS ns).length≤55:=by unfold cS;simp;omega
 have cor:fP [lp ((eP ns).map (putF ns))] (.val (lp (ak ((eP ns).map (putF ns))))):=⟨_,rfl,fun p hp=>Szp.mono (ez p hp) (by decide),by rw[yK];omega,dC e3,rfl⟩
 have put1:∀p∈eP ns,lE [pu p,.scr (ns.map U.int)] (.val (pu (putF ns p))):=fun p hp=>⟨p,ns,rfl,hB,p2 p hp,rfl⟩
 refine ae (aK (i:=1) aL.nd rfl (Or.inl rfl) (ar ((bv T).mono (by decide)) hr rfl T.m__law_cell_at T.F__law_cell_at.kp T.b__law_cell_at ay (ac (aa 0 rfl) (ac ab ao au) ag) ⟨ns,_,rfl,by decide,rfl⟩) ?_)
 refine ae (aK (i:=2) aL.nd rfl (Or.inr rfl) (cw ab (cr (aa 1 rfl) ab (by walk_at "mod"))) ?_)
 refine ae (aK (i:=3) aL.nd rfl (Or.inr rfl) (cw ab (cr (dw (aa 1 rfl) ab (by walk_at "div")) ab (by walk_at "mod"))) ?_)
 rw[show 2+cel ns 0 % 4=eW ns from rfl,show 2+cel ns 0 / 4 % 4=eH ns from rfl]
 have s0:(if cel ns 0 / 16 % 2=0 then [U.tup [.int 0,.int 0],.tup [.int 1,.int 0],.tup [.int 0,.int 1]] else [U.tup [.int 1,.int 1],.tup [.int 1,.int 0],.tup [.int 0,.int 1]])=(e0 ns).map pu:=by unfold e0;split <;>rfl
 refine ae ?_
 generalize hE:(Expr.Subscript _ _ _)=E0
 refine jn (i:=4) (xs:=(e0 ns).map pu) aL.nd rfl (Or.inl rfl) ?_ ?_ (by subst hE;rfl) (.inl rfl)
 ·subst hE
  rw[←s0]
  refine EvM.ev ?_
  refine wV ?_ ?_ (cr (dw (aa 1 rfl) ab (by walk_at "div")) ab (by walk_at "mod")) (by omega) p5 p5
  ·refine vK ?_ (show 3≤sizeLine by decide)
   refine aj (aY (aj ab (aj ab be au) au)) ?_ ce
   refine aj (aY (aj ab (aj ab be au) au)) ?_ ce
   exact aj (aY (aj ab (aj ab be au) au)) be ce
  ·refine vK ?_ (show 3≤sizeLine by decide)
   refine aj (aY (aj ab (aj ab be au) au)) ?_ ce
   refine aj (aY (aj ab (aj ab be au) au)) ?_ ce
   exact aj (aY (aj ab (aj ab be au) au)) be ce
 clear hE
 refine gL (fun ps=>SubP [some (.val (.scr (ns.map U.int))),some (.val (.int (cel ns 0))),some (.val (.int (eW ns))),some (.val (.int (eH ns))),some (.own ((e1 ns).map pu)),none,none,none,none] ps) (lc (ba cx (cr (dw (aa 1 rfl) ab (by walk_at "div")) ab (by walk_at "mod")) ab) (fun hT=>?_) (fun hF=>(a_ ?_))) ?hj
 ·have e:e1 ns=[(eW ns - 1,0),(0,eH ns - 1),(eW ns / 2 - 1,0),(eW ns - 1,eH ns - 1)]:=by unfold e1;rw[if_pos (dTb hT)]
  rw[e]
  show Ws _ _ _ _ _ _ [some (.val (.scr (ns.map U.int))),some (.val (.int (cel ns 0))),some (.val (.int (eW ns))),some (.val (.int (eH ns))),some (.own ((e0 ns).map pu)),none,none,none,none]
  refine ae ?_
  generalize hE:(Expr.List _ _)=E0
  refine jn (i:=4) (xs:=[pu (eW ns - 1,0),pu (0,eH ns - 1),pu (eW ns / 2 - 1,0),pu (eW ns - 1,eH ns - 1)]) aL.nd rfl (Or.inl rfl) ?_ ?_ (by subst hE;rfl) (.inl rfl)
  ·subst hE
   refine EvM.ev ?_
   refine vK ?_ (show 4≤sizeLine by decide)
   refine aj (aY (aj (bB (aa 2 rfl) ab) (aj ab be au) bu)) ?_ ce
   refine aj (aY (aj ab (aj (bB (aa 3 rfl) ab) be bu) au)) ?_ ce
   refine aj (aY (aj (bB (dw (aa 2 rfl) ab (by walk_at "div")) ab) (aj ab be au) bu)) ?_ ce
   exact aj (aY (aj (bB (aa 2 rfl) ab) (aj (bB (aa 3 rfl) ab) be bu) bu)) be ce
  clear hE
  refine a_ ?_
  exact ⟨rfl,rfl,rfl,rfl,rfl,trivial⟩
 ·have e:e1 ns=e0 ns:=by unfold e1;rw[if_neg (dFb hF)]
  rw[e]
  exact ⟨rfl,rfl,rfl,rfl,rfl,trivial⟩
 case hj=>
  intro ps hps
  refine d7 ?_ hps
  refine ae (aK (i:=5) aL.nd rfl (Or.inl rfl) (cr (ar ((bv T).mono (by decide)) hr rfl T.m__law_cell_at T.F__law_cell_at.kp T.b__law_cell_at ay (ac (aa 0 rfl) (ac ab ao au) ag) ⟨ns,_,rfl,by decide,rfl⟩) ab (by walk_at "mod")) ?_)
  rw[show cel ns 3 % 12=eK ns from rfl]
  by_cases k1:eK ns=1
  ·have eE:eP ns=e1 ns++eS ns:=by unfold eP;rw[if_pos k1]
   rw[eE] at cor put1 ⊢
   have sl:(eS ns).length≤55:=by unfold eS;rw[yK];exact cl
   refine iK 4 rfl ?_
   refine ae (jQ (ba cx (aa 5 rfl) ab) (decide_eq_true k1) ?_)
   refine ae (aK (i:=4) aL.nd rfl (Or.inl rfl) (EvN.ev (jD (aa 4 rfl) (EvN.ev (e7 (ys:=((eS ns).map pu)) rfl (blk (af bo) ["script","shape","wide","high","some","kind","cell","k","spot"] [6] rfl rfl rfl rfl (by decide+kernel)) (cP (EvN.ev (cT (aa 0 rfl) (dc ab) (dc ab) (.inr rfl))) (.inl rfl)) (fun _ _ _ _=>bE (i:=6) aL.nd rfl (Or.inl rfl)) (bU (by decide)) ?clen ?csz (fun _ _=>trivial) ?celt)) (by simp only[yK];exact Af (aM (by omega))))) (a_ ?_))
   case clen=>rw[cut];unfold eS;simp
   case csz=>rw[cut,yK];exact Af (aM (by omega))
   case celt=>
    intro C s' H' fp j x y hx hy
    rw[cut,yN] at hx
    obtain ⟨c,hc,rfl⟩:=BY.mp hx
    unfold eS at hy
    rw[zX,yN,hc] at hy
    cases hy
    have cz:=hB c (EZ (E1 (zi hc)))
    have c10:Sz 8 (c % 10):=by unfold Sz;omega
    exact (aY (aj (cr (aa 6 rfl) ab (by walk_at "mod")) (aj (bK (cr (aa 6 rfl) ab (by walk_at "mod")) (cr (aa 6 rfl) ab (by walk_at "mod")) (by walk_at "mul")) be bu) bu))
   rw[←An]
   show Ws _ _ _ _ _ _ [some (.val (.scr (ns.map U.int))),some (.val (.int (cel ns 0))),some (.val (.int (eW ns))),some (.val (.int (eH ns))),some (.val (lp (e1 ns++eS ns))),some (.val (.int (eK ns))),none,none,none]
   refine ae (cq (ba (tJ rfl rfl rfl) (aa 5 rfl) (aY (aj ab (aj ab (aj ab be au) au) au))) (by rw[sw ⟨kk1,kk2⟩];exact decide_eq_false (by omega)) (a_ ?_))
   refine ae (cq (Tw.t (j5 (ba cx (aa 5 rfl) ab) (fun hz=>(jr (ba jc (aa 5 rfl) ab))))) (by rw[decide_eq_false (show ¬ eK ns=0 by omega),decide_eq_false (show ¬ (4:Int) < eK ns by omega)];rfl) (a_ ?_))
   refine ae (bC (ar ((cj T).mono (by decide)) hr rfl T.m__law_corners T.F__law_corners.kp T.b__law_corners ay (ac (EvN.ev (e7 (ys:=(((e1 ns++eS ns).map (putF ns)).map pu)) rfl (blk (af bo) ["script","shape","wide","high","some","kind","cell","k","spot"] [8] rfl rfl rfl rfl (by decide+kernel)) (cP (aa 4 rfl) (.inl rfl)) (fun _ _ _ _=>bE (i:=8) aL.nd rfl (Or.inl rfl)) (bU (by decide)) ?clen ?csz (fun _ _=>trivial) ?celt)) ao dr) cor) ?_)
   case clen=>simp
   case csz=>rw[yK,zM];exact Af (aM (by omega))
   case celt=>
    intro C s' H' fp j x y hx hy
    rw[zX] at hy
    obtain ⟨p,hp,mp,rfl,rfl⟩:=gr hx hy
    exact (ar ((fe T).mono (by decide)) hr rfl T.m__law_put T.F__law_put.kp T.b__law_put ay (ac (aa 8 rfl) (ac (aa 0 rfl) ao ag) ag) (put1 p mp))
   exact rfl
  ·by_cases k2:2≤eK ns∧eK ns≤4
   ·have eE:eP ns=e1 ns++eA ns (eN ns):=by unfold eP;rw[if_neg k1,if_pos k2]
    rw[eE] at cor put1 ⊢
    have al:(eA ns (eN ns)).length=eN ns:=by unfold eA;simp
    refine ae (cq (ba cx (aa 5 rfl) ab) (decide_eq_false k1) (a_ ?_))
    refine gL (fun ps=>SubP [some (.val (.scr (ns.map U.int))),some (.val (.int (cel ns 0))),some (.val (.int (eW ns))),some (.val (.int (eH ns))),some (.own ((e1 ns++eA ns (eN ns)).map pu)),some (.val (.int (eK ns))),none,none,none] ps) (jQ (ba (tJ rfl rfl rfl) (aa 5 rfl) (aY (aj ab (aj ab (aj ab be au) au) au))) (by rw[sw ⟨kk1,kk2⟩];exact decide_eq_true k2) ?_) ?hj
    ·refine ae (i8 (fun i:Nat=>[some (.val (.scr (ns.map U.int))),some (.val (.int (cel ns 0))),some (.val (.int (eW ns))),some (.val (.int (eH ns))),some (.own ((e1 ns++eA ns i).map pu)),some (.val (.int (eK ns))),none,none,none]) (fun i j=>i=j) rfl PassesOwn.never (rO rfl T.z_range (ac ab (ac (bB (aX (xS rfl) rfl T.z_min HB (ac (aX (fL rfl) rfl T.z_len AW (ac (aa 0 rfl) ao ag)) (ac ab ao au) cD)) ab) (ac ab ao au) bu) au) (by rw[hlen];split <;>omega)) ?h02 ?hs2 ?hd2)
     case h02=>
      refine ⟨0,rfl,rfl,rfl,rfl,rfl,?_,rfl,trivial⟩
      exact congrArg (fun z=>some (Sl.own z)) (show _=(e1 ns++([]:List P2)).map pu by rw[CB])
     case hs2=>
      rintro H0 i x _ hx rfl
      obtain ⟨hi,rfl⟩:=lP hx
      rw[hlen] at hi
      have hi':=n2 i hi
      have hi3:i < 4:=za hi n1
      refine ⟨_,(iM (i:=7) aL.nd rfl (Or.inl rfl)),?_⟩
      have z1:Sz 1048576 (ns.getD ((5:Int)+(i:Int) *2).toNat 0):=ko hB _
      have z2:Sz 1048576 (ns.getD ((5:Int)+(i:Int) *2+1).toNat 0):=ko hB _
      refine ae (fk 4 rfl (aY (aj (ar ((cV T).mono (by decide)) hr rfl T.m__law_lean T.F__law_lean.kp T.b__law_lean ay (ac (aJ (aa 0 rfl) (aa 7 rfl) rfl (iB (by omega) (by omega))) (ac xJ ao au) bI) ⟨_,false,rfl,z1,rfl⟩) (aj (ar ((cV T).mono (by decide)) hr rfl T.m__law_lean T.F__law_lean.kp T.b__law_lean ay (ac (aJ (aa 0 rfl) (cw (aa 7 rfl) ab) rfl (iB (by omega) (by omega))) (ac xJ ao au) bI) ⟨_,false,rfl,z2,rfl⟩) be cD) cD)) (by unfold eA;simp;exact aM (by omega)) (a_ ?_))
      refine ⟨i+1,rfl,rfl,rfl,rfl,rfl,?_,rfl,trivial⟩
      refine congrArg (fun z=>some (Sl.own z)) ?_
      unfold eA
      rw[ER,An (l₁:=zS i),←DU];simp only[An];rfl
     case hd2=>
      rintro q ps hq hps
      have:q=eN ns:=by rw[←hq,eY,hlen];rfl
      subst this
      exact a_ hps
    case hj=>
     intro ps hps
     refine d7 ?_ hps
     refine iK 4 rfl ?_
     refine ae (cq (Tw.t (j5 (ba cx (aa 5 rfl) ab) (fun hz=>(jr (ba jc (aa 5 rfl) ab))))) (by rw[decide_eq_false (show ¬ eK ns=0 by omega),decide_eq_false (show ¬ (4:Int) < eK ns by omega)];rfl) (a_ ?_))
     refine ae (bC (ar ((cj T).mono (by decide)) hr rfl T.m__law_corners T.F__law_corners.kp T.b__law_corners ay (ac (EvN.ev (e7 (ys:=(((e1 ns++eA ns (eN ns)).map (putF ns)).map pu)) rfl (blk (af bo) ["script","shape","wide","high","some","kind","cell","k","spot"] [8] rfl rfl rfl rfl (by decide+kernel)) (cP (aa 4 rfl) (.inl rfl)) (fun _ _ _ _=>bE (i:=8) aL.nd rfl (Or.inl rfl)) (bU (by decide)) ?clen ?csz (fun _ _=>trivial) ?celt)) ao dr) cor) ?_)
     case clen=>simp
     case csz=>rw[yK,zM];exact Af (aM (by omega))
     case celt=>
      intro C s' H' fp j x y hx hy
      rw[zX] at hy
      obtain ⟨p,hp,mp,rfl,rfl⟩:=gr hx hy
      exact (ar ((fe T).mono (by decide)) hr rfl T.m__law_put T.F__law_put.kp T.b__law_put ay (ac (aa 8 rfl) (ac (aa 0 rfl) ao ag) ag) (put1 p mp))
     exact rfl
   ·have eE:eP ns=e1 ns++eB ns:=by unfold eP;rw[if_neg k1,if_neg k2]
    rw[eE] at cor put1 ⊢
    have bl:(eB ns).length≤55:=by unfold eB;rw[yK];exact cl
    refine iK 4 rfl ?_
    refine ae (cq (ba cx (aa 5 rfl) ab) (decide_eq_false k1) (a_ ?_))
    refine ae (cq (ba (tJ rfl rfl rfl) (aa 5 rfl) (aY (aj ab (aj ab (aj ab be au) au) au))) (by rw[sw ⟨kk1,kk2⟩];exact decide_eq_false k2) (a_ ?_))
    have t0:(decide (eK ns=0) ||decide ((4:Int) < eK ns))=true:=by
     by_cases z:eK ns=0
     ·rw[decide_eq_true z];rfl
     ·rw[decide_eq_true (show (4:Int) < eK ns by omega),Bool.or_true]
    refine ae (jQ (Tw.t (j5 (ba cx (aa 5 rfl) ab) (fun hz=>(jr (ba jc (aa 5 rfl) ab))))) t0 ?_)
    refine ae (aK (i:=4) aL.nd rfl (Or.inl rfl) (EvN.ev (jD (aa 4 rfl) (EvN.ev (e7 (ys:=((eB ns).map pu)) rfl (blk (af bo) ["script","shape","wide","high","some","kind","cell","k","spot"] [6] rfl rfl rfl rfl (by decide+kernel)) (cP (EvN.ev (cT (aa 0 rfl) (dc ab) (dc ab) (.inr rfl))) (.inl rfl)) (fun _ _ _ _=>bE (i:=6) aL.nd rfl (Or.inl rfl)) (bU (by decide)) ?clen ?csz (fun _ _=>trivial) ?celt)) (by simp only[yK];exact Af (aM (by omega))))) (a_ ?_))
    case clen=>rw[cut];unfold eB;simp
    case csz=>rw[cut,yK];exact Af (aM (by omega))
    case celt=>
     intro C s' H' fp j x y hx hy
     rw[cut,yN] at hx
     obtain ⟨c,hc,rfl⟩:=BY.mp hx
     unfold eB at hy
     rw[zX,yN,hc] at hy
     cases hy
     have cz:=hB c (EZ (E1 (zi hc)))
     exact (aY (aj (cr (aa 6 rfl) (aa 2 rfl) (by omega)) (aj (cr (dw (aa 6 rfl) (aa 2 rfl) ⟨by omega,wz⟩) (aa 3 rfl) (by omega)) be bu) bu))
    rw[←An]
    show Ws _ _ _ _ _ _ [some (.val (.scr (ns.map U.int))),some (.val (.int (cel ns 0))),some (.val (.int (eW ns))),some (.val (.int (eH ns))),some (.val (lp (e1 ns++eB ns))),some (.val (.int (eK ns))),none,none,none]
    refine ae (bC (ar ((cj T).mono (by decide)) hr rfl T.m__law_corners T.F__law_corners.kp T.b__law_corners ay (ac (EvN.ev (e7 (ys:=(((e1 ns++eB ns).map (putF ns)).map pu)) rfl (blk (af bo) ["script","shape","wide","high","some","kind","cell","k","spot"] [8] rfl rfl rfl rfl (by decide+kernel)) (cP (aa 4 rfl) (.inl rfl)) (fun _ _ _ _=>bE (i:=8) aL.nd rfl (Or.inl rfl)) (bU (by decide)) ?clen ?csz (fun _ _=>trivial) ?celt)) ao dr) cor) ?_)
    case clen=>simp
    case csz=>rw[yK,zM];exact Af (aM (by omega))
    case celt=>
     intro C s' H' fp j x y hx hy
     rw[zX] at hy
     obtain ⟨p,hp,mp,rfl,rfl⟩:=gr hx hy
     exact (ar ((fe T).mono (by decide)) hr rfl T.m__law_put T.F__law_put.kp T.b__law_put ay (ac (aa 8 rfl) (ac (aa 0 rfl) ao ag) ag) (put1 p mp))
    exact rfl
end
section
variable {P:yT}{w:World}{K:yH}{mg:Str→Option Value}{base:Heap}
def uM:List U→Out→Prop:=fun us o=>∃(a b c d e f:Int) (p:P2),us=[mv a b c d e f,pu p]∧Mv a b c d e f∧Szp 30000 p∧o=.val (pu (ap a b c d e f p))
theorem ma (T:Txt K mg):bD P w K mg base (CXF P w) 1 T.a__law_by T.d__law_by ["move","spot"] (spU K (uM)):=by
 refine bM T.F__law_by iL (fun us o h=>?_) (fun cdv A outer s H E O us o hr h=>?_)
 ·obtain ⟨a,b,c,d,e,f,p,rfl,M,⟨s1,s2⟩,rfl⟩:=h
  rfl
 obtain ⟨a,b,c,d,e,f,p,rfl,M,⟨s1,s2⟩,rfl⟩:=h
 refine Ws.nox ?_
 obtain ⟨hd,sa,sb,sc,sd,se,sf⟩:=M
 refine ae (aK (i:=2) iL.nd rfl (Or.inl rfl) (cw (cw (bK (aJ (aa 0 rfl) ab rfl rfl) (aJ (aa 1 rfl) ab rfl rfl) (by walk_at "mul")) (bK (aJ (aa 0 rfl) ab rfl rfl) (aJ (aa 1 rfl) ab rfl rfl) (by walk_at "mul"))) (aJ (aa 0 rfl) ab rfl rfl)) ?_)
 refine ae (bC (aY (aj (aa 2 rfl) (aj (cw (cw (bK (aJ (aa 0 rfl) ab rfl rfl) (aJ (aa 1 rfl) ab rfl rfl) (by walk_at "mul")) (bK (aJ (aa 0 rfl) ab rfl rfl) (aJ (aa 1 rfl) ab rfl rfl) (by walk_at "mul"))) (aJ (aa 0 rfl) ab rfl rfl)) be bu) ag)) ?_)
 exact rfl
theorem mZ {a b c d e f:Int}{i:Nat}{x:U}{o:Option U} (h1:[U.int a,.int b,.int c,.int d,.int e,.int f][i]?=some x) (h2:[some (U.int a),some (.int b),some (.int c),some (.int d),some (.int e),some (.int f)][i]?=some o):∃n:Int,x=.int n∧o=some (.int n):=by
 match i,h1,h2 with
 |0,h1,h2=>cases h1;cases h2;exact ⟨a,rfl,rfl⟩
 |1,h1,h2=>cases h1;cases h2;exact ⟨b,rfl,rfl⟩
 |2,h1,h2=>cases h1;cases h2;exact ⟨c,rfl,rfl⟩
 |3,h1,h2=>cases h1;cases h2;exact ⟨d,rfl,rfl⟩
 |4,h1,h2=>cases h1;cases h2;exact ⟨e,rfl,rfl⟩
 |5,h1,h2=>cases h1;cases h2;exact ⟨f,rfl,rfl⟩
 |i+6,h1,h2=>cases h1
theorem pX {α β:Type} (P:α→Prop) [DecidablePred P] (g:α→β):∀L:List α,(L.map fun k=>if P k then some (g k) else none).filterMap id=(L.filter fun k=>decide (P k)).map g
 |[]=>rfl
 |a::L=>by
  rw[Aa,Dd]
  by_cases h:P a
  ·rw[if_pos h,AO]
   show g a::(L.map fun k=>if P k then some (g k) else none).filterMap id=_
   rw[pX P g L,if_pos (decide_eq_true h),Aa]
  ·rw[if_neg h,AO]
   show (L.map fun k=>if P k then some (g k) else none).filterMap id=_
   rw[pX P g L,if_neg (by simp[h])]
theorem jq (kf:Nat→List P2):∀n j,j < L2.abK kf n→ST.ltLs (kf (L2.abK kf n)) (kf j)=true
 |0,j,h=>by rw[L2.abK] at h;omega
 |n+1,j,h=>by
  rw[L2.abK] at h ⊢
  by_cases e:ST.ltLs (kf (n+1)) (kf (L2.abK kf n))=true
  ·rw[if_pos e] at h ⊢
   have mn:=im kf n j (by omega)
   cases q:ST.ltLs (kf (L2.abK kf n)) (kf j) with
   |true=>exact iz e q
   |false=>rw[←iO q mn];exact e
  ·rw[if_neg e] at h ⊢
   exact jq kf n j h
theorem Gen.least {l:List P2}{F G:Nat→List Int} (W:Gen l F G) {q:List Int} (hq:q∈stL l F G) (hs:ak (l.map (apL q))=shK l F G (cN l F G)):ST6.ltL q (fR l F G)=false:=by
 obtain ⟨j,hj,rfl⟩:=BG.mp hq
 have hb:=W.best
 have asc:(stL l F G).Pairwise fun x y=>ST6.ltL x y=true:=ST6.srtL_ascL _
 have eb:fR l F G=(stL l F G)[cN l F G]:=by
  unfold fR
  rw[yL,yD hb];rfl
 have ej:shK l F G j=ak (l.map (apL (stL l F G)[j])):=by
  unfold shK
  rw[yL,yD hj];rfl
 rw[eb]
 rcases AR j (cN l F G) with z |z |z
 ·have:=jq (shK l F G) ((stL l F G).length - 1) j z
  have e2:shK l F G (L2.abK (shK l F G) ((stL l F G).length - 1))=shK l F G (cN l F G):=rfl
  rw[e2,ej,hs,fj] at this
  cases this
 ·subst z;exact ST6.ltL_irr _
 ·exact ST6.ltL_asy (zg.mp asc _ _ hb hj z)
end
section
variable {P:yT}{w:World}{K:yH}{mg:Str→Option Value}{base:Heap}
theorem vP (T:Txt K mg):bD P w K mg base (CXF P w) 10 T.a_law T.d_law ["script"] (spU K (gs)):=by
 refine bM T.F_law cu (fun us o h=>?_) (fun cdv A outer s H E O us o hr h=>?_)
 ·obtain ⟨ns,rfl,h63,hB,rfl⟩:=h
  rfl
 obtain ⟨ns,rfl,h63,hB,rfl⟩:=h
 refine Ws.nox ?_
 obtain ⟨ez,e3,e29⟩:=nZ ns
 have cz:∀p∈ak ((eP ns).map (putF ns)),Szp 400 p:=fun p hp=>Szp.mono (ez p (eu _ p hp)) (by decide)
 obtain ⟨F,G,W⟩:=wu e3 (by omega) cz
 have kc:=o8 ((eP ns).map (putF ns))
 refine ae (aK (i:=1) cu.nd rfl (Or.inr rfl) (ar ((jT T).mono (by decide)) hr rfl T.m__law_ends T.F__law_ends.kp T.b__law_ends ay (ac (aa 0 rfl) ao ag) ⟨ns,rfl,hB,rfl⟩) ?_)
 generalize ak ((eP ns).map (putF ns))=l at *
 have l3:3≤(ak l).length:=by rw[kc];exact e3
 have len:=W.len
 have all:∀k∈stL l F G,∃a b c d e f,k=[a,b,c,d,e,f]∧Mv a b c d e f∧(∀p∈l,Szp 5000 (ap a b c d e f p))∧2≤(ST.srt (l.map (ap a b c d e f))).length:=fun k hk=>by
  obtain ⟨a,b,c,d,e,f,e1,M⟩:=W.mz W.sz ((ST6.srtL_mem k _).mp hk)
  exact ⟨a,b,c,d,e,f,e1,M.mv (by decide),fun p hp=>Szp.mono (M.ap (W.sz p hp)) (by decide),dC (rW M.u l3)⟩
 have low:=W.f.low
 have bm:fR l F G∈stL l F G:=by
  unfold fR
  rw[yL,yD W.best]
  exact Cm W.best
 have bs:ak (l.map (apL (fR l F G)))=shK l F G (cN l F G):=rfl
 have six6:∀k∈stL l F G,k.length=6:=fun k hk=>by
  obtain ⟨a,b,c,d,e,f,e1,_⟩:=all k hk
  rw[e1];rfl
 have lst:=fun {q:List Int} (hq:q∈stL l F G) (hs:ak (l.map (apL q))=shK l F G (cN l F G))=>W.least hq hs
 obtain ⟨a,b,c,d,e,f,em,_⟩:=all _ bm
 refine ae (aK (i:=2) cu.nd rfl (Or.inl rfl) (EvN.ev (m9 (si rfl) rfl T.z_list Gz (ac (aa 1 rfl) ao ag))) ?_)
 refine ae (aK (i:=3) cu.nd rfl (Or.inr rfl) (EvN.ev (fh ((jI T).mono (by decide)) hr rfl T.m_stands T.F_stands.kp T.b_stands ay (ac (EvN.ev (m9 (si rfl) rfl T.z_list Gz (ac (aa 1 rfl) ao ag))) ao cD) ⟨l,F,G,rfl,W,rfl⟩)) ?_)
 show Ws _ _ _ _ _ _ [some (.val (.scr (ns.map U.int))),some (.val (lp l)),some (.val (lp l)),some (.val (.lst ((stL l F G).map sxU))),none,none,none,none,none,none,none,none]
 have fm0:jz [lp l] (.new ((shK l F G (cN l F G)).map pu)):=⟨l,F,G,rfl,W,rfl⟩
 have tf1:hJ [lp l] (.val (sxU (fR l F G))):=⟨l,F,G,rfl,W,rfl⟩
 have hlow:∀q∈(stL l F G).map fun k=>ak (l.map (apL k)),ST.ltLs q (shK l F G (cN l F G))=false:=fun q hq=>by
  obtain ⟨k,hk,rfl⟩:=y8.mp hq
  exact low k ((ST6.srtL_mem k _).mp hk)
 clear W low
 generalize stL l F G=S at *
 generalize shK l F G (cN l F G)=x at *
 generalize fR l F G=M at *
 have SN:∀i k,S[i]?=some k→k∈S:=fun i k h=>zi h
 refine ae (aK (i:=4) cu.nd rfl (by first |exact Or.inl rfl |exact Or.inr rfl) (EvN.ev (tR (ys:=S.map fun k=>lp (ak (l.map (apL k)))) rfl (yc (af fQ) ["script","ends","handed","some","shapes","move","spot","due","least_move","k","found","number"] [5] rfl rfl rfl rfl (by decide+kernel)) (cP (aa 3 rfl) (.inl rfl)) (fun _ _ _ _=>bE (i:=5) cu.nd rfl (by first |exact Or.inl rfl |exact Or.inr rfl)) (bU (by decide)) ?clen ?csz (fun _ _=>trivial) ?celt)) ?hnx)
 case clen=>simp
 case csz=>rw[yK];exact Af (aM (by omega))
 case celt=>
  intro C s' H' fp j y z hy hz
  rw[yN] at hy hz
  obtain ⟨k,hk,rfl⟩:=BY.mp hy
  rw[hk] at hz
  cases hz
  obtain ⟨a,b,c,d,e,f,e1,MV,sz5,s2⟩:=all k (SN _ _ hk)
  subst e1
  refine ar ((cj T).mono (by decide)) hr rfl T.m__law_corners T.F__law_corners.kp T.b__law_corners ay (ac (EvN.ev (e7 (ys:=(l.map (ap a b c d e f)).map pu) rfl (yg (af fQ) ["script","ends","handed","some","shapes","move","spot","due","least_move","k","found","number"] [6] rfl rfl (by decide+kernel)) (cP (aa 1 rfl) (.inl rfl)) (fun _ _ _ _=>bE (i:=6) cu.nd rfl (by first |exact Or.inl rfl |exact Or.inr rfl)) (bU (by decide)) ?clen2 ?csz2 (fun _ _=>trivial) ?celt2)) ao dr) ⟨l.map (ap a b c d e f),rfl,fun p hp=>by
   obtain ⟨q,hq,rfl⟩:=y8.mp hp
   exact sz5 q hq,by rw[yK];omega,s2,rfl⟩
  case clen2=>simp
  case csz2=>rw[yK];exact Af (aM (by omega))
  case celt2=>
   intro C2 s2 H2 fp2 i y2 z2 hy2 hz2
   rw[zX] at hz2
   obtain ⟨p,hp,mp,rfl,rfl⟩:=gr hy2 hz2
   exact (ar ((ma T).mono (by decide)) hr rfl T.m__law_by T.F__law_by.kp T.b__law_by ay (ac (aa 5 rfl) (ac (aa 6 rfl) ao ag) ag) ⟨a,b,c,d,e,f,p,rfl,MV,Szp.mono (cz p mp) (by decide),rfl⟩)
 case hnx=>
  show Ws _ _ _ _ _ _ [some (.val (.scr (ns.map U.int))),some (.val (lp l)),some (.val (lp l)),some (.val (.lst (S.map sxU))),some (.val (.lst (S.map fun k=>lp (ak (l.map (apL k)))))),none,none,none,none,none,none,none]
  have eS:(S.map fun k=>lp (ak (l.map (apL k))))=(S.map fun k=>ak (l.map (apL k))).map lp:=by rw[zX];rfl
  have hxm:x∈S.map fun k=>ak (l.map (apL k)):=y8.mpr ⟨M,bm,bs⟩
  refine ae (aK (i:=7) cu.nd rfl (Or.inr rfl) (aX (show fK _ _ [U.lst (S.map fun k=>lp (ak (l.map (apL k))))] _ from eS ▸ tL fj (fun _ _ _ h k=>iz h k) (fun _ _ h k=>iO h k) rfl (jh hr) hxm hlow) rfl T.z_min HB (ac (aa 4 rfl) ao ag)) ?_)
  have ML:M∈S.filter fun k=>decide (ak (l.map (apL k))=x):=Ay.mpr ⟨bm,decide_eq_true bs⟩
  have hSl:((S.map sxU).length:Int)=(S.length:Int):=by rw[yK]
  refine ae (aK (i:=8) cu.nd rfl (Or.inl rfl) (aX (vR (xs:=S.filter fun k=>decide (ak (l.map (apL k))=x)) rfl (jh hr) (fun k hk=>six6 k (Ay.mp hk).1) ML (fun q hq=>lst (Ay.mp hq).1 (of_decide_eq_true (Ay.mp hq).2))) rfl T.z_min HB (ac (EvN.ev ?hcomp) ao dr)) ?_)
  case hcomp=>
   refine (vT (pX (fun k=>ak (l.map (apL k))=x) sxU _) (nF (S.map fun k=>if ak (l.map (apL k))=x then some (sxU k) else none) rfl (blk (af fQ) ["script","ends","handed","some","shapes","move","spot","due","least_move","k","found","number"] [9] rfl rfl rfl rfl (by decide+kernel)) (sr rfl T.z_range (ac (aX (fL rfl) rfl T.z_len AW (ac (aa 3 rfl) ao ag)) ao cD) (by rw[hSl];omega) (by rw[hSl];omega)) (fun _ _ _ _=>bE (i:=9) cu.nd rfl (Or.inl rfl)) (bU (by decide)) ?clen ?csz (fun _ _=>trivial) ?ctest ?celt))
   case clen=>rw[dR,yK,hSl];omega
   case csz=>rw[dR,hSl];exact Af (aM (by omega))
   case ctest=>
    intro C s' H' fp i y o h1 h2
    obtain ⟨hi,rfl⟩:=iF h1
    rw[hSl] at hi
    have hi':i < S.length:=by omega
    rw[show (0:Int)+(i:Int)=(i:Int) by omega]
    rw[yN,yD hi'] at h2
    have h3:(if ak (l.map (apL S[i]))=x then some (sxU S[i]) else none)=o:=by cases h2;rfl
    have a1:atI (S.map fun k=>lp (ak (l.map (apL k)))) (i:Int)=some (lp (ak (l.map (apL S[i])))):=qm rfl (by rw[yN,yD hi'];rfl)
    have eo:o.isSome=decide (ak (l.map (apL S[i]))=x):=by
     rw[←h3]
     by_cases c:ak (l.map (apL S[i]))=x
     ·rw[if_pos c,decide_eq_true c];rfl
     ·rw[if_neg c,decide_eq_false c];rfl
    rw[eo,←show eqW (lp (ak (l.map (apL S[i])))) (lp x)=decide (ak (l.map (apL S[i]))=x) from qV _ _]
    exact (ba (xA (jh hr) (jp _) (jp _)) (aJ (aa 4 rfl) (aa 9 rfl) rfl a1) (aa 7 rfl))
   case celt=>
    intro C s' H' fp i y z h1 h2
    obtain ⟨hi,rfl⟩:=iF h1
    rw[hSl] at hi
    have hi':i < S.length:=by omega
    rw[show (0:Int)+(i:Int)=(i:Int) by omega]
    rw[yN,yD hi'] at h2
    have a1:atI (S.map sxU) (i:Int)=some (sxU S[i]):=qm rfl (by rw[yN,yD hi'];rfl)
    have ez':z=sxU S[i]:=by
     have h3:(if ak (l.map (apL S[i]))=x then some (sxU S[i]) else none)=some z:=by simpa using h2
     by_cases c:ak (l.map (apL S[i]))=x
     ·rw[if_pos c] at h3;cases h3;rfl
     ·rw[if_neg c] at h3;cases h3
    rw[ez']
    exact (aJ (aa 3 rfl) (aa 9 rfl) rfl a1)
  subst em
  show Ws _ _ _ _ _ _ [some (.val (.scr (ns.map U.int))),some (.val (lp l)),some (.val (lp l)),some (.val (.lst (S.map sxU))),some (.val (.lst (S.map fun k=>lp (ak (l.map (apL k)))))),none,none,some (.val (lp x)),some (.val (mv a b c d e f)),none,none,none]
  refine ae (aK (i:=10) cu.nd rfl (Or.inl rfl) (EvN.ev (fh ((sV T).mono (by decide)) hr rfl T.m_form T.F_form.kp T.b_form ay (ac (aa 2 rfl) ao ag) fm0)) ?_)
  refine ae (aK (i:=5) cu.nd rfl (by first |exact Or.inl rfl |exact Or.inr rfl) (ar ((iA T).mono (by decide)) hr rfl T.m_to_form T.F_to_form.kp T.b_to_form ay (ac (aa 2 rfl) ao ag) tf1) ?_)
  have okm:okU 9 (mv a b c d e f)=true:=rfl
  have eqm:eqW (mv a b c d e f) (mv a b c d e f)=true:=kJ 9 _ okm
  have sm:∀y:List P2,eqW (lp y) (lp y)=true:=fun y=>by rw[qV];simp
  show Ws _ _ _ _ _ _ [some (.val (.scr (ns.map U.int))),some (.val (lp l)),some (.val (lp l)),some (.val (.lst (S.map sxU))),some (.val (.lst (S.map fun k=>lp (ak (l.map (apL k)))))),some (.val (mv a b c d e f)),none,some (.val (lp x)),some (.val (mv a b c d e f)),none,some (.val (lp x)),none]
  refine ae (cq (Tw.t (j5 (h_ (eQ (aX (cL (by intro _ h;cases h) rfl) rfl T.z_isinstance Bq (ac (aa 10 rfl) (ac (kF rfl T.z_list Gz) ao ag) ag)))) (fun hz=>(j5 (ba (wT (jh hr) (jp _) (jp _)) (aa 10 rfl) (aa 7 rfl)) (fun hz=>(j5 (h_ (eQ (aX (cL (by intro _ h;cases h) rfl) rfl T.z_isinstance Bq (ac (aa 5 rfl) (ac (kF rfl T.z_tuple Hs) ao ag) ag)))) (fun hz=>(jr (ba (wT (jh hr) okm okm) (aa 5 rfl) (aa 8 rfl)))))))))) (by rw[sm x,eqm];rfl) (a_ ?_))
  refine ae (i8 (fun _:Unit=>[some (.val (.scr (ns.map U.int))),some (.val (lp l)),some (.val (lp l)),none,none,some (.val (mv a b c d e f)),none,none,none,none,none,none]) (fun _ _=>True) rfl PassesOwn.never (cP (aa 10 rfl) (.inl rfl)) ?h0 ?hs ?hd)
  case h0=>exact ⟨(),trivial,rfl,rfl,rfl,rfl,trivial⟩
  case hs=>
   rintro H0 i y _ hy _
   obtain ⟨p,hp,mp,rfl⟩:=qd hy
   refine ⟨_,(iM (i:=6) cu.nd rfl (by first |exact Or.inl rfl |exact Or.inr rfl)),?_⟩
   refine ae (cq (Tw.t (j5 (h_ (eQ (aX (cL (by intro _ h;cases h) rfl) rfl T.z_isinstance Bq (ac (aa 6 rfl) (ac (kF rfl T.z_tuple Hs) ao ag) ag)))) (fun hz=>(j5 (h_ (eQ (ar ((dy T).mono (by decide)) hr rfl T.m__law_whole T.F__law_whole.kp T.b__law_whole ay (ac (aJ (aa 6 rfl) ab rfl rfl) ao bI) ⟨p.1,rfl,rfl⟩))) (fun hz=>(jr (h_ (eQ (ar ((dy T).mono (by decide)) hr rfl T.m__law_whole T.F__law_whole.kp T.b__law_whole ay (ac (aJ (aa 6 rfl) ab rfl rfl) ao bI) ⟨p.2,rfl,rfl⟩))))))))) rfl (a_ (a_ ?_)))
   exact ⟨(),trivial,rfl,rfl,rfl,rfl,trivial⟩
  case hd=>
   rintro _ ps _ hps
   refine d7 ?_ hps
   refine ae (bC (rK (lK cx (aX (fL rfl) rfl T.z_len AW (ac (EvN.ev (nF [some (U.int a),some (.int b),some (.int c),some (.int d),some (.int e),some (.int f)] rfl (blk (af fQ) ["script","ends","handed","some","shapes","move","spot","due","least_move","k","found","number"] [11] rfl rfl rfl rfl (by decide+kernel)) (vg (aa 5 rfl)) (fun _ _ _ _=>bE (i:=11) cu.nd rfl (Or.inl rfl)) (bU (by decide)) ?clen ?csz (fun _ _=>trivial) ?ctest ?celt)) ao dr)) ab) (fun hz=>(pQ (lK (xA (jh hr) (jp _) (jp _)) (aa 2 rfl) (aa 1 rfl))))) ?_)
   case clen=>rfl
   case csz=>show 6≤sizeLine;decide
   case ctest=>
    intro C s' H' fp i y o h1 h2
    obtain ⟨n,rfl,rfl⟩:=mZ h1 h2
    exact (eQ (ar ((dy T).mono (by decide)) hr rfl T.m__law_whole T.F__law_whole.kp T.b__law_whole ay (ac (aa 11 rfl) ao ag) ⟨n,rfl,rfl⟩))
   case celt=>
    intro C s' H' fp i y z h1 h2
    obtain ⟨n,rfl,e2⟩:=mZ h1 h2
    cases e2
    exact (aa 11 rfl)
   refine vB ?_
   rw[sm l];rfl
end
theorem ar1 {p:List Value→Prop}{us:List Value} (h:us.length=1) (q:∀a0,p [a0]):p us:=match us,h with |[a0],_=>q a0
theorem ar2 {p:List Value→Prop}{us:List Value} (h:us.length=2) (q:∀a0 a1,p [a0,a1]):p us:=match us,h with |[a0,a1],_=>q a0 a1
theorem ar3 {p:List Value→Prop}{us:List Value} (h:us.length=3) (q:∀a0 a1 a2,p [a0,a1,a2]):p us:=match us,h with |[a0,a1,a2],_=>q a0 a1 a2
theorem txt_mk {K:yH}{h:Heap}{mg:Str→Option Value}{fa f0 f1 f2 f3 f4 f5 f6 f7 f8 f9 f10 f11 f12 f13 f14 f15 f16 f17 f18 f19 f20 f21 f22 f23 f24 f25 f26 f27:Addr} (X:K.In h) {ts:List Addr} (TS:∀P∈ts,h.get? P=some jd) (BM:u9 mg h) (G:h.Ns yY mg) (hfa:mg "law"=some (.ref fa))
  {od0 an0 od1 an1 od2 an2 od3 an3 od4 an4 od5 an5 od6 an6 od7 an7 od8 an8 od9 an9 od10 an10 od11 an11 od12 an12 od13 an13 od14 an14 od15 an15 od16 an16 od17 an17 od18 an18 od19 an19 od20 an20 od21 an21 od22 an22 od23 an23 od24 an24 od25 an25 od26 an26 od27 an27:Option Addr}{sl0 sl1 sl2 sl3 sl4 sl5 sl6 sl7 sl8 sl9 sl10 sl11 sl12 sl13 sl14 sl15 sl16 sl17 sl18 sl19 sl20 sl21 sl22 sl23 sl24 sl25 sl26 sl27:Array (Option Value)}{oc0 kV0 dc0 pm0 cd0 ct0 oc1 kV1 dc1 pm1 cd1 ct1 oc2 kV2 dc2 pm2 cd2 ct2 oc3 kV3 dc3 pm3 cd3 ct3 oc4 kV4 dc4 pm4 cd4 ct4 oc5 kV5 dc5 pm5 cd5 ct5 oc6 kV6 dc6 pm6 cd6 ct6 oc7 kV7 dc7 pm7 cd7 ct7 oc8 kV8 dc8 pm8 cd8 ct8 oc9 kV9 dc9 pm9 cd9 ct9 oc10 kV10 dc10 pm10 cd10 ct10 oc11 kV11 dc11 pm11 cd11 ct11 oc12 kV12 dc12 pm12 cd12 ct12 oc13 kV13 dc13 pm13 cd13 ct13 oc14 kV14 dc14 pm14 cd14 ct14 oc15 kV15 dc15 pm15 cd15 ct15 oc16 kV16 dc16 pm16 cd16 ct16 oc17 kV17 dc17 pm17 cd17 ct17 oc18 kV18 dc18 pm18 cd18 ct18 oc19 kV19 dc19 pm19 cd19 ct19 oc20 kV20 dc20 pm20 cd20 ct20 oc21 kV21 dc21 pm21 cd21 ct21 oc22 kV22 dc22 pm22 cd22 ct22 oc23 kV23 dc23 pm23 cd23 ct23 oc24 kV24 dc24 pm24 cd24 ct24 oc25 kV25 dc25 pm25 cd25 ct25 oc26 kV26 dc26 pm26 cd26 ct26 oc27 kV27 dc27 pm27 cd27 ct27:Value}
  (a0:y9 K yY "is_whole"=some (some (.ref f0))) (l0:K.lookup f0=some ⟨oc0,od0,.func (zr "is_whole" "is_whole" (aH cC) (aA cC) (af cC) .none kV0 dc0 pm0 an0 cd0 ct0),sl0⟩) (c0:y3 K cd0 "is_whole"=true) (k0:yZ K (.ref f0)=true)
  (a1:y9 K yY "sign"=some (some (.ref f1))) (l1:K.lookup f1=some ⟨oc1,od1,.func (zr "sign" "sign" (aH gF) (aA gF) (af gF) .none kV1 dc1 pm1 an1 cd1 ct1),sl1⟩) (c1:y3 K cd1 "sign"=true) (k1:yZ K (.ref f1)=true)
  (a2:y9 K yY "shares"=some (some (.ref f2))) (l2:K.lookup f2=some ⟨oc2,od2,.func (zr "shares" "shares" (aH dL) (aA dL) (af dL) .none kV2 dc2 pm2 an2 cd2 ct2),sl2⟩) (c2:y3 K cd2 "shares"=true) (k2:yZ K (.ref f2)=true)
  (a3:y9 K yY "hand"=some (some (.ref f3))) (l3:K.lookup f3=some ⟨oc3,od3,.func (zr "hand" "hand" (aH gU) (aA gU) (af gU) .none kV3 dc3 pm3 an3 cd3 ct3),sl3⟩) (c3:y3 K cd3 "hand"=true) (k3:yZ K (.ref f3)=true)
  (a4:y9 K yY "is_move"=some (some (.ref f4))) (l4:K.lookup f4=some ⟨oc4,od4,.func (zr "is_move" "is_move" (aH cB) (aA cB) (af cB) .none kV4 dc4 pm4 an4 cd4 ct4),sl4⟩) (c4:y3 K cd4 "is_move"=true) (k4:yZ K (.ref f4)=true)
  (a5:y9 K yY "need_move"=some (some (.ref f5))) (l5:K.lookup f5=some ⟨oc5,od5,.func (zr "need_move" "need_move" (aH ck) (aA ck) (af ck) .none kV5 dc5 pm5 an5 cd5 ct5),sl5⟩) (c5:y3 K cd5 "need_move"=true) (k5:yZ K (.ref f5)=true)
  (a6:y9 K yY "turned"=some (some (.ref f6))) (l6:K.lookup f6=some ⟨oc6,od6,.func (zr "turned" "turned" (aH dB) (aA dB) (af dB) .none kV6 dc6 pm6 an6 cd6 ct6),sl6⟩) (c6:y3 K cd6 "turned"=true) (k6:yZ K (.ref f6)=true)
  (a7:y9 K yY "moved"=some (some (.ref f7))) (l7:K.lookup f7=some ⟨oc7,od7,.func (zr "moved" "moved" (aH fE) (aA fE) (af fE) .none kV7 dc7 pm7 an7 cd7 ct7),sl7⟩) (c7:y3 K cd7 "moved"=true) (k7:yZ K (.ref f7)=true)
  (a8:y9 K yY "behind"=some (some (.ref f8))) (l8:K.lookup f8=some ⟨oc8,od8,.func (zr "behind" "behind" (aH dH) (aA dH) (af dH) .none kV8 dc8 pm8 an8 cd8 ct8),sl8⟩) (c8:y3 K cd8 "behind"=true) (k8:yZ K (.ref f8)=true)
  (a9:y9 K yY "steps"=some (some (.ref f9))) (l9:K.lookup f9=some ⟨oc9,od9,.func (zr "steps" "steps" (aH fu) (aA fu) (af fu) .none kV9 dc9 pm9 an9 cd9 ct9),sl9⟩) (c9:y3 K cd9 "steps"=true) (k9:yZ K (.ref f9)=true)
  (a10:y9 K yY "level"=some (some (.ref f10))) (l10:K.lookup f10=some ⟨oc10,od10,.func (zr "level" "level" (aH fB) (aA fB) (af fB) .none kV10 dc10 pm10 an10 cd10 ct10),sl10⟩) (c10:y3 K cd10 "level"=true) (k10:yZ K (.ref f10)=true)
  (a11:y9 K yY "turn"=some (some (.ref f11))) (l11:K.lookup f11=some ⟨oc11,od11,.func (zr "turn" "turn" (aH gZ) (aA gZ) (af gZ) .none kV11 dc11 pm11 an11 cd11 ct11),sl11⟩) (c11:y3 K cd11 "turn"=true) (k11:yZ K (.ref f11)=true)
  (a12:y9 K yY "left_bends"=some (some (.ref f12))) (l12:K.lookup f12=some ⟨oc12,od12,.func (zr "left_bends" "left_bends" (aH bX) (aA bX) (af bX) .none kV12 dc12 pm12 an12 cd12 ct12),sl12⟩) (c12:y3 K cd12 "left_bends"=true) (k12:yZ K (.ref f12)=true)
  (a13:y9 K yY "field"=some (some (.ref f13))) (l13:K.lookup f13=some ⟨oc13,od13,.func (zr "field" "field" (aH fv) (aA fv) (af fv) .none kV13 dc13 pm13 an13 cd13 ct13),sl13⟩) (c13:y3 K cd13 "field"=true) (k13:yZ K (.ref f13)=true)
  (a14:y9 K yY "field_moved"=some (some (.ref f14))) (l14:K.lookup f14=some ⟨oc14,od14,.func (zr "field_moved" "field_moved" (aH bH) (aA bH) (af bH) .none kV14 dc14 pm14 an14 cd14 ct14),sl14⟩) (c14:y3 K cd14 "field_moved"=true) (k14:yZ K (.ref f14)=true)
  (a15:y9 K yY "stand"=some (some (.ref f15))) (l15:K.lookup f15=some ⟨oc15,od15,.func (zr "stand" "stand" (aH fD) (aA fD) (af fD) .none kV15 dc15 pm15 an15 cd15 ct15),sl15⟩) (c15:y3 K cd15 "stand"=true) (k15:yZ K (.ref f15)=true)
  (a16:y9 K yY "stands"=some (some (.ref f16))) (l16:K.lookup f16=some ⟨oc16,od16,.func (zr "stands" "stands" (aH dJ) (aA dJ) (af dJ) .none kV16 dc16 pm16 an16 cd16 ct16),sl16⟩) (c16:y3 K cd16 "stands"=true) (k16:yZ K (.ref f16)=true)
  (a17:y9 K yY "to_form"=some (some (.ref f17))) (l17:K.lookup f17=some ⟨oc17,od17,.func (zr "to_form" "to_form" (aH cZ) (aA cZ) (af cZ) .none kV17 dc17 pm17 an17 cd17 ct17),sl17⟩) (c17:y3 K cd17 "to_form"=true) (k17:yZ K (.ref f17)=true)
  (a18:y9 K yY "form"=some (some (.ref f18))) (l18:K.lookup f18=some ⟨oc18,od18,.func (zr "form" "form" (aH gQ) (aA gQ) (af gQ) .none kV18 dc18 pm18 an18 cd18 ct18),sl18⟩) (c18:y3 K cd18 "form"=true) (k18:yZ K (.ref f18)=true)
  (a19:y9 K yY "_law_cell_at"=some (some (.ref f19))) (l19:K.lookup f19=some ⟨oc19,od19,.func (zr "_law_cell_at" "_law_cell_at" (aH bL) (aA bL) (af bL) .none kV19 dc19 pm19 an19 cd19 ct19),sl19⟩) (c19:y3 K cd19 "_law_cell_at"=true) (k19:yZ K (.ref f19)=true)
  (a20:y9 K yY "_law_whole"=some (some (.ref f20))) (l20:K.lookup f20=some ⟨oc20,od20,.func (zr "_law_whole" "_law_whole" (aH bZ) (aA bZ) (af bZ) .none kV20 dc20 pm20 an20 cd20 ct20),sl20⟩) (c20:y3 K cd20 "_law_whole"=true) (k20:yZ K (.ref f20)=true)
  (a21:y9 K yY "_law_cross"=some (some (.ref f21))) (l21:K.lookup f21=some ⟨oc21,od21,.func (zr "_law_cross" "_law_cross" (aH bY) (aA bY) (af bY) .none kV21 dc21 pm21 an21 cd21 ct21),sl21⟩) (c21:y3 K cd21 "_law_cross"=true) (k21:yZ K (.ref f21)=true)
  (a22:y9 K yY "_law_corners"=some (some (.ref f22))) (l22:K.lookup f22=some ⟨oc22,od22,.func (zr "_law_corners" "_law_corners" (aH bN) (aA bN) (af bN) .none kV22 dc22 pm22 an22 cd22 ct22),sl22⟩) (c22:y3 K cd22 "_law_corners"=true) (k22:yZ K (.ref f22)=true)
  (a23:y9 K yY "_law_lean"=some (some (.ref f23))) (l23:K.lookup f23=some ⟨oc23,od23,.func (zr "_law_lean" "_law_lean" (aH cm) (aA cm) (af cm) .none kV23 dc23 pm23 an23 cd23 ct23),sl23⟩) (c23:y3 K cd23 "_law_lean"=true) (k23:yZ K (.ref f23)=true)
  (a24:y9 K yY "_law_put"=some (some (.ref f24))) (l24:K.lookup f24=some ⟨oc24,od24,.func (zr "_law_put" "_law_put" (aH cA) (aA cA) (af cA) .none kV24 dc24 pm24 an24 cd24 ct24),sl24⟩) (c24:y3 K cd24 "_law_put"=true) (k24:yZ K (.ref f24)=true)
  (a25:y9 K yY "_law_ends"=some (some (.ref f25))) (l25:K.lookup f25=some ⟨oc25,od25,.func (zr "_law_ends" "_law_ends" (aH bo) (aA bo) (af bo) .none kV25 dc25 pm25 an25 cd25 ct25),sl25⟩) (c25:y3 K cd25 "_law_ends"=true) (k25:yZ K (.ref f25)=true)
  (a26:y9 K yY "_law_by"=some (some (.ref f26))) (l26:K.lookup f26=some ⟨oc26,od26,.func (zr "_law_by" "_law_by" (aH cY) (aA cY) (af cY) .none kV26 dc26 pm26 an26 cd26 ct26),sl26⟩) (c26:y3 K cd26 "_law_by"=true) (k26:yZ K (.ref f26)=true)
  (a27:y9 K yY "law"=some (some (.ref f27))) (l27:K.lookup f27=some ⟨oc27,od27,.func (zr "law" "law" (aH fQ) (aA fQ) (af fQ) .none kV27 dc27 pm27 an27 cd27 ct27),sl27⟩) (c27:y3 K cd27 "law"=true) (k27:yZ K (.ref f27)=true)
  (z_abs:y9 K yY "abs"=some none)
  (z_all:y9 K yY "all"=some none)
  (z_bool:y9 K yY "bool"=some none)
  (z_int:y9 K yY "int"=some none)
  (z_isinstance:y9 K yY "isinstance"=some none)
  (z_len:y9 K yY "len"=some none)
  (z_list:y9 K yY "list"=some none)
  (z_min:y9 K yY "min"=some none)
  (z_range:y9 K yY "range"=some none)
  (z_reversed:y9 K yY "reversed"=some none)
  (z_set:y9 K yY "set"=some none)
  (z_sorted:y9 K yY "sorted"=some none)
  (z_tuple:y9 K yY "tuple"=some none)
  (z_zip:y9 K yY "zip"=some none)
  {tfc tfP:Addr} (u0:cd17=.ref tfc) {odc:Option Addr}{vsc:Array Value}{slc:Array (Option Value)} (w1:K.lookup tfc=some ⟨.type "code",odc,.fields vsc,slc⟩) (w2:vsc[11]?=some (.ref tfP)) (w3:As [(tfc,⟨.type "code",odc,.fields vsc,slc⟩)] tfc tfP=true) (u2:tfP∈ts)
  :∃K2:yH,∃f c tb,K2.In h∧lO K2 mg f c tb∧∃T:Txt (bP tb K2) mg,T.a_law=fa∧(∀(s:yI) (v:Value),E_ s T.d_law ⟨[v],[]⟩ [("script",v)]):=by
 have e:=hfa.symm.trans (zo X G a27)
 cases e
 obtain ⟨tfb,ob,bm1,bm2,bm3,bm4,bm5,bm6⟩:=BM
 obtain ⟨K2,X2,EL,v2,u4⟩:=xU X (TS _ u2) bm3
 have u1:=L2.hd_one (EL _ _ w1) w3
 have TA:lO K2 mg f17 tfc tfP:=⟨zo X G a17,⟨_,_,EL _ _ l17,rfl,u0⟩,u1,v2⟩
 replace l0:=av v2 (EL _ _ l0)
 replace c0:=aw v2 (aE EL c0)
 replace k0:=aP l0
 replace l1:=av v2 (EL _ _ l1)
 replace c1:=aw v2 (aE EL c1)
 replace k1:=aP l1
 replace l2:=av v2 (EL _ _ l2)
 replace c2:=aw v2 (aE EL c2)
 replace k2:=aP l2
 replace l3:=av v2 (EL _ _ l3)
 replace c3:=aw v2 (aE EL c3)
 replace k3:=aP l3
 replace l4:=av v2 (EL _ _ l4)
 replace c4:=aw v2 (aE EL c4)
 replace k4:=aP l4
 replace l5:=av v2 (EL _ _ l5)
 replace c5:=aw v2 (aE EL c5)
 replace k5:=aP l5
 replace l6:=av v2 (EL _ _ l6)
 replace c6:=aw v2 (aE EL c6)
 replace k6:=aP l6
 replace l7:=av v2 (EL _ _ l7)
 replace c7:=aw v2 (aE EL c7)
 replace k7:=aP l7
 replace l8:=av v2 (EL _ _ l8)
 replace c8:=aw v2 (aE EL c8)
 replace k8:=aP l8
 replace l9:=av v2 (EL _ _ l9)
 replace c9:=aw v2 (aE EL c9)
 replace k9:=aP l9
 replace l10:=av v2 (EL _ _ l10)
 replace c10:=aw v2 (aE EL c10)
 replace k10:=aP l10
 replace l11:=av v2 (EL _ _ l11)
 replace c11:=aw v2 (aE EL c11)
 replace k11:=aP l11
 replace l12:=av v2 (EL _ _ l12)
 replace c12:=aw v2 (aE EL c12)
 replace k12:=aP l12
 replace l13:=av v2 (EL _ _ l13)
 replace c13:=aw v2 (aE EL c13)
 replace k13:=aP l13
 replace l14:=av v2 (EL _ _ l14)
 replace c14:=aw v2 (aE EL c14)
 replace k14:=aP l14
 replace l15:=av v2 (EL _ _ l15)
 replace c15:=aw v2 (aE EL c15)
 replace k15:=aP l15
 replace l16:=av v2 (EL _ _ l16)
 replace c16:=aw v2 (aE EL c16)
 replace k16:=aP l16
 replace l17:=av v2 (EL _ _ l17)
 replace c17:=aw v2 (aE EL c17)
 replace k17:=aP l17
 replace l18:=av v2 (EL _ _ l18)
 replace c18:=aw v2 (aE EL c18)
 replace k18:=aP l18
 replace l19:=av v2 (EL _ _ l19)
 replace c19:=aw v2 (aE EL c19)
 replace k19:=aP l19
 replace l20:=av v2 (EL _ _ l20)
 replace c20:=aw v2 (aE EL c20)
 replace k20:=aP l20
 replace l21:=av v2 (EL _ _ l21)
 replace c21:=aw v2 (aE EL c21)
 replace k21:=aP l21
 replace l22:=av v2 (EL _ _ l22)
 replace c22:=aw v2 (aE EL c22)
 replace k22:=aP l22
 replace l23:=av v2 (EL _ _ l23)
 replace c23:=aw v2 (aE EL c23)
 replace k23:=aP l23
 replace l24:=av v2 (EL _ _ l24)
 replace c24:=aw v2 (aE EL c24)
 replace k24:=aP l24
 replace l25:=av v2 (EL _ _ l25)
 replace c25:=aw v2 (aE EL c25)
 replace k25:=aP l25
 replace l26:=av v2 (EL _ _ l26)
 replace c26:=aw v2 (aE EL c26)
 replace k26:=aP l26
 replace l27:=av v2 (EL _ _ l27)
 replace c27:=aw v2 (aE EL c27)
 replace k27:=aP l27
 have u4':=gg (n4 v2 u4 fun vs z=>by rw[bm6] at z;cases z) u4
 have TF:TbF (bP tfP K2) mg f17 tfc tfP tfb:=⟨zo X G a17,⟨_,_,l17,rfl,u0⟩,uE u1,bm1,bm2,⟨_,u4',bm4,bm5,bm6⟩⟩
 have F0:=bg (st:=cC) l0 c0 k0
 have b0:=F0.binds (ps:=["thing"]) fun _ _ _ _ _ _ us hl=>ar1 (p:=fun us=>Ap _ ⟨us,[]⟩=pure (AG _ us)) hl fun _=>rfl
 have F1:=bg (st:=gF) l1 c1 k1
 have b1:=F1.binds (ps:=["number"]) fun _ _ _ _ _ _ us hl=>ar1 (p:=fun us=>Ap _ ⟨us,[]⟩=pure (AG _ us)) hl fun _=>rfl
 have F2:=bg (st:=dL) l2 c2 k2
 have b2:=F2.binds (ps:=["a","b"]) fun _ _ _ _ _ _ us hl=>ar2 (p:=fun us=>Ap _ ⟨us,[]⟩=pure (AG _ us)) hl fun _ _=>rfl
 have F3:=bg (st:=gU) l3 c3 k3
 have b3:=F3.binds (ps:=["move"]) fun _ _ _ _ _ _ us hl=>ar1 (p:=fun us=>Ap _ ⟨us,[]⟩=pure (AG _ us)) hl fun _=>rfl
 have F4:=bg (st:=cB) l4 c4 k4
 have b4:=F4.binds (ps:=["thing"]) fun _ _ _ _ _ _ us hl=>ar1 (p:=fun us=>Ap _ ⟨us,[]⟩=pure (AG _ us)) hl fun _=>rfl
 have F5:=bg (st:=ck) l5 c5 k5
 have b5:=F5.binds (ps:=["thing"]) fun _ _ _ _ _ _ us hl=>ar1 (p:=fun us=>Ap _ ⟨us,[]⟩=pure (AG _ us)) hl fun _=>rfl
 have F6:=bg (st:=dB) l6 c6 k6
 have b6:=F6.binds (ps:=["P","move"]) fun _ _ _ _ _ _ us hl=>ar2 (p:=fun us=>Ap _ ⟨us,[]⟩=pure (AG _ us)) hl fun _ _=>rfl
 have F7:=bg (st:=fE) l7 c7 k7
 have b7:=F7.binds (ps:=["P","move"]) fun _ _ _ _ _ _ us hl=>ar2 (p:=fun us=>Ap _ ⟨us,[]⟩=pure (AG _ us)) hl fun _ _=>rfl
 have F8:=bg (st:=dH) l8 c8 k8
 have b8:=F8.binds (ps:=["first","second"]) fun _ _ _ _ _ _ us hl=>ar2 (p:=fun us=>Ap _ ⟨us,[]⟩=pure (AG _ us)) hl fun _ _=>rfl
 have F9:=bg (st:=fu) l9 c9 k9
 have b9:=F9.binds (ps:=["P","Q"]) fun _ _ _ _ _ _ us hl=>ar2 (p:=fun us=>Ap _ ⟨us,[]⟩=pure (AG _ us)) hl fun _ _=>rfl
 have F10:=bg (st:=fB) l10 c10 k10
 have b10:=F10.binds (ps:=["P","Q"]) fun _ _ _ _ _ _ us hl=>ar2 (p:=fun us=>Ap _ ⟨us,[]⟩=pure (AG _ us)) hl fun _ _=>rfl
 have F11:=bg (st:=gZ) l11 c11 k11
 have b11:=F11.binds (ps:=["P","Q","R"]) fun _ _ _ _ _ _ us hl=>ar3 (p:=fun us=>Ap _ ⟨us,[]⟩=pure (AG _ us)) hl fun _ _ _=>rfl
 have F12:=bg (st:=bX) l12 c12 k12
 have b12:=F12.binds (ps:=["row"]) fun _ _ _ _ _ _ us hl=>ar1 (p:=fun us=>Ap _ ⟨us,[]⟩=pure (AG _ us)) hl fun _=>rfl
 have F13:=bg (st:=fv) l13 c13 k13
 have b13:=F13.binds (ps:=["points"]) fun _ _ _ _ _ _ us hl=>ar1 (p:=fun us=>Ap _ ⟨us,[]⟩=pure (AG _ us)) hl fun _=>rfl
 have F14:=bg (st:=bH) l14 c14 k14
 have b14:=F14.binds (ps:=["land","move"]) fun _ _ _ _ _ _ us hl=>ar2 (p:=fun us=>Ap _ ⟨us,[]⟩=pure (AG _ us)) hl fun _ _=>rfl
 have F15:=bg (st:=fD) l15 c15 k15
 have b15:=F15.binds (ps:=["corner","along","aside"]) fun _ _ _ _ _ _ us hl=>ar3 (p:=fun us=>Ap _ ⟨us,[]⟩=pure (AG _ us)) hl fun _ _ _=>rfl
 have F16:=bg (st:=dJ) l16 c16 k16
 have b16:=F16.binds (ps:=["land"]) fun _ _ _ _ _ _ us hl=>ar1 (p:=fun us=>Ap _ ⟨us,[]⟩=pure (AG _ us)) hl fun _=>rfl
 have F17:=bg (st:=cZ) l17 c17 k17
 have b17:=F17.binds (ps:=["land"]) fun _ _ _ _ _ _ us hl=>ar1 (p:=fun us=>Ap _ ⟨us,[]⟩=pure (AG _ us)) hl fun _=>rfl
 have F18:=bg (st:=gQ) l18 c18 k18
 have b18:=F18.binds (ps:=["land"]) fun _ _ _ _ _ _ us hl=>ar1 (p:=fun us=>Ap _ ⟨us,[]⟩=pure (AG _ us)) hl fun _=>rfl
 have F19:=bg (st:=bL) l19 c19 k19
 have b19:=F19.binds (ps:=["script","k"]) fun _ _ _ _ _ _ us hl=>ar2 (p:=fun us=>Ap _ ⟨us,[]⟩=pure (AG _ us)) hl fun _ _=>rfl
 have F20:=bg (st:=bZ) l20 c20 k20
 have b20:=F20.binds (ps:=["found"]) fun _ _ _ _ _ _ us hl=>ar1 (p:=fun us=>Ap _ ⟨us,[]⟩=pure (AG _ us)) hl fun _=>rfl
 have F21:=bg (st:=bY) l21 c21 k21
 have b21:=F21.binds (ps:=["one","two","three"]) fun _ _ _ _ _ _ us hl=>ar3 (p:=fun us=>Ap _ ⟨us,[]⟩=pure (AG _ us)) hl fun _ _ _=>rfl
 have F22:=bg (st:=bN) l22 c22 k22
 have b22:=F22.binds (ps:=["points"]) fun _ _ _ _ _ _ us hl=>ar1 (p:=fun us=>Ap _ ⟨us,[]⟩=pure (AG _ us)) hl fun _=>rfl
 have F23:=bg (st:=cm) l23 c23 k23
 have b23:=F23.binds (ps:=["cell","small"]) fun _ _ _ _ _ _ us hl=>ar2 (p:=fun us=>Ap _ ⟨us,[]⟩=pure (AG _ us)) hl fun _ _=>rfl
 have F24:=bg (st:=cA) l24 c24 k24
 have b24:=F24.binds (ps:=["spot","script"]) fun _ _ _ _ _ _ us hl=>ar2 (p:=fun us=>Ap _ ⟨us,[]⟩=pure (AG _ us)) hl fun _ _=>rfl
 have F25:=bg (st:=bo) l25 c25 k25
 have b25:=F25.binds (ps:=["script"]) fun _ _ _ _ _ _ us hl=>ar1 (p:=fun us=>Ap _ ⟨us,[]⟩=pure (AG _ us)) hl fun _=>rfl
 have F26:=bg (st:=cY) l26 c26 k26
 have b26:=F26.binds (ps:=["move","spot"]) fun _ _ _ _ _ _ us hl=>ar2 (p:=fun us=>Ap _ ⟨us,[]⟩=pure (AG _ us)) hl fun _ _=>rfl
 have F27:=bg (st:=fQ) l27 c27 k27
 have b27:=F27.binds (ps:=["script"]) fun _ _ _ _ _ _ us hl=>ar1 (p:=fun us=>Ap _ ⟨us,[]⟩=pure (AG _ us)) hl fun _=>rfl
 exact ⟨K2,_,_,_,X2,TA,⟨_,_,F0,b0,zo X G a0,_,_,F1,b1,zo X G a1,_,_,F2,b2,zo X G a2,_,_,F3,b3,zo X G a3,_,_,F4,b4,zo X G a4,_,_,F5,b5,zo X G a5,_,_,F6,b6,zo X G a6,_,_,F7,b7,zo X G a7,_,_,F8,b8,zo X G a8,_,_,F9,b9,zo X G a9,_,_,F10,b10,zo X G a10,_,_,F11,b11,zo X G a11,_,_,F12,b12,zo X G a12,_,_,F13,b13,zo X G a13,_,_,F14,b14,zo X G a14,_,_,F15,b15,zo X G a15,_,_,F16,b16,zo X G a16,_,_,F17,b17,zo X G a17,_,_,F18,b18,zo X G a18,_,_,F19,b19,zo X G a19,_,_,F20,b20,zo X G a20,_,_,F21,b21,zo X G a21,_,_,F22,b22,zo X G a22,_,_,F23,b23,zo X G a23,_,_,F24,b24,zo X G a24,_,_,F25,b25,zo X G a25,_,_,F26,b26,zo X G a26,_,_,F27,b27,zo X G a27,z8 X G z_abs,z8 X G z_all,z8 X G z_bool,z8 X G z_int,z8 X G z_isinstance,z8 X G z_len,z8 X G z_list,z8 X G z_min,z8 X G z_range,z8 X G z_reversed,z8 X G z_set,z8 X G z_sorted,z8 X G z_tuple,z8 X G z_zip,_,_,_,TF,u0⟩,rfl,fun s v=>.of_eq rfl⟩
abbrev spLaw (K:yH):Sp:=spU K gs
theorem law_start (K:yH) (H:Hp) (a:Addr) (ns:List Int) (h1:ns.length≤63) (h2:∀m∈ns,Sz 1048576 m) (h3:SqL K H a (ns.map V.int)):spLaw K [.ref a] H (fun v _=>v=.bl true) fun _ _ _=>False:=o4 h1 h2 h3
theorem law_ok {P:yT}{w:World}{mg:Str→Option Value}{fa:Addr}{h:Heap} (h':∃K2:yH,∃f c tb,K2.In h∧lO K2 mg f c tb∧∃T:Txt (bP tb K2) mg,T.a_law=fa∧(∀(s:yI) (v:Value),E_ s T.d_law ⟨[v],[]⟩ [("script",v)])):
  ∃(K2:yH) (f c tb:Addr) (fd:zG),K2.In h∧lO K2 mg f c tb∧(∀(s:yI) (u:Value),E_ s fd ⟨[u],[]⟩ [("script",u)])∧∀base:Heap,(bP tb K2).In base→base.Ns yY mg→bD P w (bP tb K2) mg base CX0 10 fa fd ["script"] (spLaw (bP tb K2)):=by
 obtain ⟨K2,f,c,tb,X2,TA,T,rfl,hb⟩:=h'
 exact ⟨K2,f,c,tb,T.d_law,X2,TA,hb,fun base _ _=>(vP T).calm qG⟩
end My
namespace PySem.W.Fast
def tw6312659693788480091:Unit:=()
def tw5349462950361090082:Unit:=()
def tw5901429861181911647:Unit:=()
def tw15181533737317762125:Unit:=()
def tw10719215838736678919:Unit:=()
def tw9996689882045909567:Unit:=()
def tw2224003588361711047:Unit:=()
def tw13054454240646913523:Unit:=()
def tw5969747517949973766:Unit:=()
def tw10487358838469563203:Unit:=()
def tw15173009132197258286:Unit:=()
def tw12103540979365318406:Unit:=()
def tw6303382461318098848:Unit:=()
def tw16381380785536032797:Unit:=()
def tw10113912096855185716:Unit:=()
def tw4664043695878773427:Unit:=()
end PySem.W.Fast
open PySem PySem.W PyProof.Rows L2
set_option maxRecDepth 100000 in
set_option maxHeartbeats 0 in
set_option maxHeartbeats 0 in
theorem PySem.Challenge.cw_stakefield_k53_form_by_stands_holds : PySem.Challenge.rw_stakefield_k53_form_by_stands.Holds := by
 w_on;o_law;k_head;(case hw=>w_witness2)
 k_fill
 refine L2.walk_ofT2 (l:=PySem.Challenge.rw_stakefield_k53_form_by_stands) (n:=63) (k:=10) (x:="script") (CX:=CX0) (sp:=My.spLaw) rfl (by decide) rfl ⟨rfl,by decide,by decide⟩ (fun w h Y=>⟨PySem.W.km_in_of Y,PySem.W.km_tabs_of Y⟩) ?F My.law_start (fun _ _ _ _ z=>z)
 case F=>
  intro w mg fa h KX TS BM G hmg
  refine My.law_ok ?T
  refine' My.txt_mk KX TS BM G hmg ?a0 ?l0 ?c0 ?k0 ?a1 ?l1 ?c1 ?k1 ?a2 ?l2 ?c2 ?k2 ?a3 ?l3 ?c3 ?k3 ?a4 ?l4 ?c4 ?k4 ?a5 ?l5 ?c5 ?k5 ?a6 ?l6 ?c6 ?k6 ?a7 ?l7 ?c7 ?k7 ?a8 ?l8 ?c8 ?k8 ?a9 ?l9 ?c9 ?k9 ?a10 ?l10 ?c10 ?k10 ?a11 ?l11 ?c11 ?k11 ?a12 ?l12 ?c12 ?k12 ?a13 ?l13 ?c13 ?k13 ?a14 ?l14 ?c14 ?k14 ?a15 ?l15 ?c15 ?k15 ?a16 ?l16 ?c16 ?k16 ?a17 ?l17 ?c17 ?k17 ?a18 ?l18 ?c18 ?k18 ?a19 ?l19 ?c19 ?k19 ?a20 ?l20 ?c20 ?k20 ?a21 ?l21 ?c21 ?k21 ?a22 ?l22 ?c22 ?k22 ?a23 ?l23 ?c23 ?k23 ?a24 ?l24 ?c24 ?k24 ?a25 ?l25 ?c25 ?k25 ?a26 ?l26 ?c26 ?k26 ?a27 ?l27 ?c27 ?k27  ?z_abs ?z_all ?z_bool ?z_int ?z_isinstance ?z_len ?z_list ?z_min ?z_range ?z_reversed ?z_set ?z_sorted ?z_tuple ?z_zip   ?u0 ?w1 ?w2 ?w3 ?u2
  (case a0=>k_is);(case l0=>k_is);(case c0=>k_is);(case k0=>k_is)
  (case a1=>k_is);(case l1=>k_is);(case c1=>k_is);(case k1=>k_is)
  (case a2=>k_is);(case l2=>k_is);(case c2=>k_is);(case k2=>k_is)
  (case a3=>k_is);(case l3=>k_is);(case c3=>k_is);(case k3=>k_is)
  (case a4=>k_is);(case l4=>k_is);(case c4=>k_is);(case k4=>k_is)
  (case a5=>k_is);(case l5=>k_is);(case c5=>k_is);(case k5=>k_is)
  (case a6=>k_is);(case l6=>k_is);(case c6=>k_is);(case k6=>k_is)
  (case a7=>k_is);(case l7=>k_is);(case c7=>k_is);(case k7=>k_is)
  (case a8=>k_is);(case l8=>k_is);(case c8=>k_is);(case k8=>k_is)
  (case a9=>k_is);(case l9=>k_is);(case c9=>k_is);(case k9=>k_is)
  (case a10=>k_is);(case l10=>k_is);(case c10=>k_is);(case k10=>k_is)
  (case a11=>k_is);(case l11=>k_is);(case c11=>k_is);(case k11=>k_is)
  (case a12=>k_is);(case l12=>k_is);(case c12=>k_is);(case k12=>k_is)
  (case a13=>k_is);(case l13=>k_is);(case c13=>k_is);(case k13=>k_is)
  (case a14=>k_is);(case l14=>k_is);(case c14=>k_is);(case k14=>k_is)
  (case a15=>k_is);(case l15=>k_is);(case c15=>k_is);(case k15=>k_is)
  (case a16=>k_is);(case l16=>k_is);(case c16=>k_is);(case k16=>k_is)
  (case a17=>k_is);(case l17=>k_is);(case c17=>k_is);(case k17=>k_is)
  (case a18=>k_is);(case l18=>k_is);(case c18=>k_is);(case k18=>k_is)
  (case a19=>k_is);(case l19=>k_is);(case c19=>k_is);(case k19=>k_is)
  (case a20=>k_is);(case l20=>k_is);(case c20=>k_is);(case k20=>k_is)
  (case a21=>k_is);(case l21=>k_is);(case c21=>k_is);(case k21=>k_is)
  (case a22=>k_is);(case l22=>k_is);(case c22=>k_is);(case k22=>k_is)
  (case a23=>k_is);(case l23=>k_is);(case c23=>k_is);(case k23=>k_is)
  (case a24=>k_is);(case l24=>k_is);(case c24=>k_is);(case k24=>k_is)
  (case a25=>k_is);(case l25=>k_is);(case c25=>k_is);(case k25=>k_is)
  (case a26=>k_is);(case l26=>k_is);(case c26=>k_is);(case k26=>k_is)
  (case a27=>k_is);(case l27=>k_is);(case c27=>k_is);(case k27=>k_is)
  (case z_abs=>k_is)
  (case z_all=>k_is)
  (case z_bool=>k_is)
  (case z_int=>k_is)
  (case z_isinstance=>k_is)
  (case z_len=>k_is)
  (case z_list=>k_is)
  (case z_min=>k_is)
  (case z_range=>k_is)
  (case z_reversed=>k_is)
  (case z_set=>k_is)
  (case z_sorted=>k_is)
  (case z_tuple=>k_is)
  (case z_zip=>k_is)
  (case u0=>exact rfl);(case w1=>k_is);(case w2=>exact rfl);(case w3=>exact rfl);(case u2=>decide)
