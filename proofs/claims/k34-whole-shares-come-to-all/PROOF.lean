import PyProof.Rows.All
import Wide.All
import OpenK.AllK
import Wide.FinOn
import Lean
import PyProof.EqAt
import PyProof.EqKinds
import PyProof.NeKinds
import PyProof.TupleCall
import KE.KDictSum
import KE.KSortTup
import KE.KRevIter
import KE.KRevSl
import PySem.Challenge.RW_stakefield_k34_whole_shares_come_to_all
open List renaming getElem?_eq_getElem → Cm, length_map → Co, mem_cons_of_mem → Cp, mem_map → Cr, getElem?_map → Ct, mem_cons → Cu, mem_cons_self → Cy, getElem?_eq_some_iff → Cz, getD_eq_getElem?_getD → CB, mem_range → CF, size_toArray → CH, mem_reverse → CI, pairwise_cons → CL, mem_of_getElem? → CM, mem_map_of_mem → CO, getElem?_append_left → CP, getElem?_append_right → CQ, mem_append_right → CS, mem_singleton → CT, mem_filter → CY, map_cons → CZ, getElem?_set_ne → C3, pairwise_iff_getElem → C4, zip → C7, filter_cons_of_neg → C9, filter_cons_of_pos → C_, range → Df, map_append → Di, getLast?_cons_cons → Dj, length_reverse → Do, getElem?_eq_none → Dr, mem_iff_getElem? → Ds, length_append → Dv, pairwise_map → Dw, length_cons → Dy, map_map → Dz, length_pos_iff → DM, getElem?_reverse → DT, length_eq_zero_iff → DU, perm_ext_iff_of_nodup → DX, mem_append_left → DY, zip_cons_cons → D3, length_pos_of_mem → D4, getLast?_eq_getElem? → D8, filterMap_cons → D_, getElem?_take_of_lt → Eb, sum_cons → Eh, length_dropLast → Ei, map_reverse → Ek, mem_append → Es, foldl_cons → Ew, nodup_range → Ey, getElem?_zipWith_eq_some → Ez, getElem?_replicate → EA, append_nil → EF, nodup_cons → EG, getElem?_range → EH, map_congr_left → EI, length_replicate → EM, getElem?_drop → EN, tail_cons → EV, mem_of_getLast? → EW, length_range → EX, take_length → E3, mem_flatten → E5, cons_append → E6, take_succ → E8, take_of_length_le → E9, getElem?_dropLast → E_, head?_eq_getElem? → Fb, filter_eq_nil_iff → Fc, getElem?_toArray → Ff, pairwise_flatten → Fj, ext_getElem? → Fm, mem_take_iff_getElem → Fp, getElem_mem → Fq, mem_filterMap → Fu, of_mem_zip → Fv, all_cons → Fw, length_set → Fy, length_nil → Fz, getElem?_cons_succ → FA, range_succ → FD, nodup_append → FJ, getLast?_map → FK, getElem?_inj → FL, pairwise_reverse → FT, getLast?_reverse → FU, length_take → FW, lookup_cons → FY, all_eq_true → FZ, forIn_cons → Gh, getElem_of_mem → Gi, nodup_iff_pairwise_ne → Gu, exists_cons_of_ne_nil → Gw, drop_eq_getElem_cons → GE, head?_map → GH, exists_mem_of_ne_nil → GI, getElem?_set → GL, append_assoc → GO, Perm → GP, map_dropLast → GS, getElem_inj → GY, filter_cons → G1, getElem?_set_self → G4, pairwise_lt_range → G7, length_singleton → Hb, map_nil → Hc, filterMap_append → He, take_append_drop → Hh, length_filter_le → Ho, mem_iff_getElem → Ht, dropLast_subset → Hu, take_zero → Hx, forIn_nil → Hy, take_succ_cons → Hz, head?_reverse → HH, filter_append → HJ, reverse_cons → HP, flatten_cons → HQ, filter_congr → HS, zipWith → HV, perm_middle → Ia, head?_cons → Ip, replicate → IE, nodup_nil → IK, any_cons → I0, map_take → Jb, map_drop → Jc, all_map → Jj, toArray → Jm, map_id → Jw
open PySem.W renaming Frag → Cn, keepIn → CA, nsIn → CC, codeIn → CD, fnOf → CJ, mg_of → CK, mg_none_of → Dk, kia_one → DN, kitOne → E7, cellsFrom_some → FE, findIn → FN, excIn → Gd, methodObj → GJ, kitx_list → GK, instObj → Ha, lookIn → Hv, kitx_tuple → HC, specialIn → HK, kitx_dict → HL, plainGet → HZ, OpenLaw → Ih, kIn_of → IF, WalkO → I_, isFn → Ji
open PySem.Heap renaming get?_push_of_some → Cq, lt_size → Cw, get?_push_size → CG, get?_update_other → Dc, get?_update_self → Dt, size_push → Er, SameBut → Fe, get?_none_of_le → F_, ExtBut → Ju
open Int renaming mul_nonneg → Cs, emod_lt_of_pos → C6, dvd_trans → C8, mul_eq_zero → Da, eq_of_mul_eq_mul_left → Dd, lt_or_eq_of_le → De, dvd_mul_left → Dp, emod_add_mul_ediv → Du, emod_nonneg → DA, mul_zero → DD, mul_pos → DH, mul_ediv_cancel' → DI, dvd_mul_right → DJ, lt_or_le → DL, pos_of_mul_pos_right → DR, ediv_eq_zero_of_lt → D6, mul_le_mul_of_nonneg_left → D9, mul_comm → Ed, mul_ediv_cancel_left → Ee, le_refl → Eg, add_zero → El, le_ediv_iff_mul_le → En, mul_le_mul_of_nonneg_right → Ex, lt_ediv_add_one_mul_self → EB, toNat_natCast → EE, fdiv_eq_ediv_of_nonneg → EJ, dvd_add → ET, gcd → EU, gcd_dvd_right → EY, dvd_of_emod_eq_zero → E2, gcd_dvd_left → E4, dvd_refl → Fg, add_mul_ediv_left → Fh, natAbs_of_nonneg → Fo, ediv_nonneg → Fx, dvd_coe_gcd → FC, mul_one → FH, natAbs_mul → FO, natAbs_dvd_natAbs → FR, le_of_lt → FS, zero_dvd → FV, dvd_neg → Gj, dvd_sub → Gk, toNat_of_nonneg → Gm, gcd_eq_zero_iff → Gn, one_mul → Gp, fmod_eq_emod_of_nonneg → Gr, add_mul_emod_self_left → Gv, mul_lt_mul_of_pos_left → Gx, zero_mul → GC, le_total → GD, emod_eq_of_lt → GR, mul_assoc → GX, ediv_le_self → G0, dvd_antisymm → G3, add_mul_ediv_right → G9, zero_add → Hn, lt_or_lt_of_ne → HI, lt_trichotomy → HR, le_trans → HW, dvd_zero → HX, sub_zero → HY, neg_fdiv_neg → Ie, neg_dvd → Im, mul_add → Io, add_nonneg → IL, ofNat_dvd → Jf, add_comm → Jo, mul_neg → Jx
open Nat renaming le_refl → Cv, mod_eq_of_lt → CU, lt_or_eq_of_le → CW, ne_of_lt → C1, lt_of_lt_of_le → C5, lt_irrefl → Dh, le_of_lt → DF, zero_le → DG, le_trans → DK, mod_lt → DV, le_of_lt_succ → Ec, lt_succ_self → Ej, lt_succ_of_lt → Eo, lt_trichotomy → Ep, pow_succ → EC, lt_or_ge → EO, mod_self → Fi, pow_le_pow_right → Fn, add_mod_right → FM, le_of_not_lt → FX, ne_of_gt → Gy, lt_of_le_of_lt → Gz, mod_eq_sub_mod → GA, eq_zero_or_pos → GB, div_div_eq_div_mul → G6, lt_trans → Hf, mod_add_mod → Hg, mul_le_mul_right → Hs, mod_mod_of_dvd → HF, add_sub_cancel → HG, le_max_right → H_, le_max_left → Ig, not_lt_zero → Ii, strongRecOn → Ij, le_succ → Il, add_assoc → Ja, min_self → Jk, add_zero → Jl, sub_self → Jn, zero_mod → Jp, gcd_comm → Jr, add_mod → Jv
open Bool renaming false_eq_true → CN, false_ne_true → C0, and_eq_true → Dx, eq_iff_iff → Et, not_true → EZ, beq_eq_decide_eq → FQ, and_true → Gc, true_and → Gf, not_false → GF, or_eq_true → Hd, and_eq_true_iff → Hr, and_false → Hw, or_false → Je
open Array renaming length_toList → CV, getElem?_toList → DB, getD_eq_getD_getElem? → DS, getElem?_eq_getElem → D7, getD → ED, getElem?_eq_some_iff → EK, getElem?_replicate → Ft, forIn_toList → FB, mem_toList_iff → Ga, append_assoc → HB, toList_inj → Ib, toList_map → Ic, size_map → II, toList → Jh
open PySem.Value renaming none → C2, ref → Dl, int → Dm, bool → Dn, str → DC, type → DO, isInt_shape → FG, float → Js
open Option.some renaming inj → Dg
open PySem renaming boot_len → Dq, mem_of_lookup → Ea, Within → Jg, call → JA, Fin → JB
open PySem.Obj renaming mapSeq → DE, data_mapFields → ER, putSet → FI, isFreed_of_fields → Hk, cls_mapFields → HN
open Classical renaming byContradiction → DP, em → Jq
open PySem.F renaming plain_extend_loop → DQ, plain_max_loop → D5, called_set → Ef, slot_zip_next → ES, entry_max_loop → FF, excBase_ValueError → Gs, entry_extend_loop → GG, args_list_init_2 → GQ, plainAttrs_list → GT, typeCall_list_1 → GU, entry_list_init → GV, args_zip_next_1 → GW, entry_zip_next → G8, plain_set_new → Hi, slot_set_iter → Hj, slot_zip_iter → Hl, slot_tuple_gt → Hm, called_list → HA
open List.Pairwise renaming map → DW, nil → Fl, filter → Gb, imp_of_mem → GN
open PySem.Around renaming under_plainId → DZ
open Prod renaming ext → Em, snd → FP, fst → Gg
open Option renaming getD_some → EL, isSome_iff_exists → Fs, getD_none → GZ, map_eq_some_iff → G_, toList_some → HE, map → HM, none → Jt
open PySem.Heap.SameBut renaming update → E1, refl → GM
open PySem.Calls renaming spliced_cons → Fd, spliced_nil → Fk, Name_function_global → Gq, callWith_builtin → G5, evalArgs_plain → Hq
open PySem.Heap.IsSliceOf renaming new → HD
open List.Nodup renaming length_le_of_subset → HU
open List.cons renaming injEq → Ik
open PySem.EqNone renaming eq_none_none → Iq, eq_none_bool → Ir, eq_bool_none → Iu, ne_none_none → Iz, ne_none_bool → IA, ne_bool_none → IB, eq_none_int → IM, eq_none_str → IP, eq_int_none → IQ, eq_str_none → IS, ne_none_int → IU, ne_none_str → IV, ne_int_none → IW, ne_str_none → IY
open PySem.EqMixed renaming eq_bool_str → Iw, eq_str_bool → Iy, ne_bool_str → IC, ne_str_bool → ID, eq_int_str → IR, eq_str_int → IT, ne_int_str → IX, ne_str_int → IZ
open PySem.Value.type renaming inj → IG
open List.Perm renaming refl → IJ
open Prod.mk renaming injEq → Jd
open PySem.W.Dflts renaming none → Jy, noKw → Jz
set_option Elab.async false
set_option linter.all false
set_option maxRecDepth 100000
namespace L2
open PySem PySem.Spec PyProof.Rows
abbrev Key:=Sum Int Str
def zw:Key→Value→Bool
 | .inl k,v=> Value.isInt k v
 | .inr x,v=> Value.isStrOf x v
def BU (w:World):Key→Int
 | .inl k=> hashInt k
 | .inr x=> hashStr w x
theorem bK:∀ {k:Key} {v:Value},zw k v=true→(∃ i t,k=Sum.inl i∧v=Dm i t)∨(∃ x t,k=Sum.inr x∧v=DC x t)
 | .inl i,v,h=> by
  obtain ⟨t,e⟩:=FG (k:=i) (v:=v) h
  exact .inl ⟨i,t,rfl,e⟩
 | .inr x,v,h=> by
  obtain ⟨t,e⟩:=Value.isStrOf_shape (x:=x) (v:=v) h
  exact .inr ⟨x,t,rfl,e⟩
theorem AW (a b:Int):decide ((Sum.inl a:Key)=Sum.inl b)=(a==b):=by
 by_cases e:a=b
 ·subst e; simp
 ·have h:¬ (Sum.inl a:Key)=Sum.inl b:=fun q=> e (Sum.inl.inj q)
  rw [decide_eq_false h]
  exact (beq_eq_false_iff_ne.mpr e).symm
theorem AA (a b:Str):decide ((Sum.inr a:Key)=Sum.inr b)=decide (a=b):=by
 by_cases e:a=b
 ·subst e; simp
 ·have h:¬ (Sum.inr a:Key)=Sum.inr b:=fun q=> e (Sum.inr.inj q)
  rw [decide_eq_false h,decide_eq_false e]
theorem An (a:Int) (b:Str):decide ((Sum.inl a:Key)=Sum.inr b)=false:=decide_eq_false (fun q=> nomatch q)
theorem AN (a:Str) (b:Int):decide ((Sum.inr a:Key)=Sum.inl b)=false:=decide_eq_false (fun q=> nomatch q)
def rH (prog:Program) (w:World):PySem.KeyKind prog w Key where
 is:=zw
 hash:=BU w
 inj:=fun v a b ha hb=> by
  rcases bK ha with ⟨i,t,rfl,rfl⟩ | ⟨x,t,rfl,rfl⟩
  ·rcases bK hb with ⟨j,u,rfl,e⟩ | ⟨y,u,rfl,e⟩
   ·injection e with e1 _; rw [e1]
   ·exact nomatch e
  ·rcases bK hb with ⟨j,u,rfl,e⟩ | ⟨y,u,rfl,e⟩
   ·exact nomatch e
   ·injection e with e1 _; rw [e1]
 byValue:=fun k v h=> by
  rcases bK h with ⟨i,t,rfl,rfl⟩ | ⟨x,t,rfl,rfl⟩ <;> rfl
 pyHash:=fun hv h=> by
  rcases bK hv with ⟨i,t,rfl,rfl⟩ | ⟨x,t,rfl,rfl⟩
  ·exact wpAny_pyHash_int h
  ·exact wpAny_pyHash_str h
 eqBool:=fun hu hv h=> by
  rcases bK hu with ⟨i,t,rfl,rfl⟩ | ⟨x,t,rfl,rfl⟩
  ·rcases bK hv with ⟨j,u,rfl,rfl⟩ | ⟨y,u,rfl,rfl⟩
   ·rw [AW] at h; exact wpAny_eqBool_int h
   ·rw [An] at h; exact SeqAt.EqAt.int_str i t y u _ _ _ _ h
  ·rcases bK hv with ⟨j,u,rfl,rfl⟩ | ⟨y,u,rfl,rfl⟩
   ·rw [AN] at h; exact SeqAt.EqAt.str_int x t j u _ _ _ _ h
   ·rw [AA] at h; exact wpAny_eqBool_str h
 «strs»:=fun k x t v h=> by
  rcases bK h with ⟨i,u,rfl,e⟩ | ⟨y,u,rfl,e⟩
  ·exact nomatch e
  ·injection e with e1 _
   subst e1
   cases v <;> rfl
end L2
namespace L2
open PySem PySem.Spec PyProof.Rows
inductive V where
 | non | bl (b:Bool) | int (i:Int) | str (x:Str) | byt (b:Array UInt8) | flt (b:UInt64) | ref (a:Addr) | ty (n:String)
 deriving DecidableEq
def bp:V→Value→Prop
 | .non,u=> u=C2
 | .bl b,u=> u=Dn b
 | .int i,u=> ∃ t,u=Dm i t
 | .str x,u=> ∃ t,u=DC x t
 | .byt b,u=> ∃ t,u=Value.bytes b t
 | .flt b,u=> ∃ t,u=Js b t
 | .ref a,u=> u=Dl a
 | .ty n,u=> u=DO n
abbrev aY:List V→List Value→Prop:=Paired bp
theorem aY.length {xs:List V} {us:List Value} (r:aY xs us):xs.length=us.length:=Paired.length r
theorem aY.get:∀ {xs:List V} {us:List Value} {i:Nat} {x:V},aY xs us→xs[i]?=some x→∃ u,us[i]?=some u∧bp x u
 | _,_,_,_,.nil,e=> by simp at e
 | _,_,0,_,.cons r _,e=> by simp at e; subst e; exact ⟨_,rfl,r⟩
 | _,_,i+1,x,.cons _ t,e=> by
  obtain ⟨u,h1,h2⟩:=aY.get (i:=i) (x:=x) t (by simpa using e)
  exact ⟨u,by simpa using h1,h2⟩
theorem aY.append:∀ {xs ys:List V} {us ws:List Value},aY xs us→aY ys ws→aY (xs++ys) (us++ws)
 | _,_,_,_,.nil,s=> s
 | _,_,_,_,.cons r t,s=> .cons r (aY.append t s)
theorem aY.take:∀ {xs:List V} {us:List Value} (n:Nat),aY xs us→aY (xs.take n) (us.take n)
 | _,_,0,_=> .nil
 | _,_,_+1,.nil=> .nil
 | _,_,n+1,.cons r t=> .cons r (aY.take n t)
theorem aY.drop:∀ {xs:List V} {us:List Value} (n:Nat),aY xs us→aY (xs.drop n) (us.drop n)
 | _,_,0,r=> r
 | _,_,_+1,.nil=> .nil
 | _,_,n+1,.cons _ t=> aY.drop n t
def zG:Option V→Option Value→Prop
 | some v,some u=> bp v u
 | none,none=> True
 | _,_=> False
def KV {κ:Type}:List (κ×V)→List (κ×Value)→Prop:=Paired fun (p:κ×V) (q:κ×Value)=> p.1=q.1∧bp p.2 q.2
def kV:Key→V
 | .inl i=> .int i
 | .inr x=> .str x
inductive HO where
 /-- a list -/
 | lst (xs:List V)
 /-- a tuple (never changes) -/
 | tup (xs:List V)
 /-- a dict whose keys are ints and texts; one whose keys are tuples of ints and texts (the empty one is both) -/
 | dK (kvs:List (Key×V)) | dT (kvs:List (List Key×V))
 /-- a set of ints:its members,its size -/
 | set (S:Int→Bool) (n:Nat)
 /-- an instance of the class at C,its dict at dx,its attributes -/
 | ins (C dx:Addr) (fs:List (Str×V))
 /-- the dict of the instance at x -/
 | own (x:Addr)
 /-- the dict of an exception -/
 | xd (fs:List (Str×V))
 /-- a bound method,f of x -/
 | met (f x:Addr)
 /-- a range object lo,lo+1,.. below hi -/
 | rng (lo hi:Int)
 /-- a thing that is known to the object (the script; a dict while a loop walks it):read,never written while it is so -/
 | frz (o:Obj) (u:HO)
 /-- a code object's table -/
 | tbl (ps:Array Value)
 /-- any other thing,by what is true of its one object (a def of one's own:SetO a S n:=HO.ext fun h=> ..) -/
 | ext (φ:Heap→Prop)
abbrev Hp:=Addr→Option HO
def upd (H:Hp) (a:Addr) (o:HO):Hp:=fun b=> if b=a then some o else H b
theorem bi {H:Hp} {a:Addr} {o:HO}:upd H a o a=some o:=by unfold upd; rw [if_pos rfl]
theorem bv {H:Hp} {a b:Addr} {o:HO} (h:b≠a):upd H a o b=H b:=by unfold upd; rw [if_neg h]
theorem cP {H:Hp} {a b:Addr} {o:HO} (h:H a=some o) (h':H b=none):a≠b:=by
 intro e; subst e; rw [h] at h'; cases h'
section
variable (P:Program) (w:World)
def cG (H:Hp) (h:Heap) (a:Addr):HO→Prop
 | .lst xs=> xs.length≤sizeLine∧∃ (its:List Value) (n:Nat),aY xs its∧h.get? a=some { cls:=.type "list",data:=.seq its.toArray n }
 | .tup xs=> xs.length≤sizeLine∧∃ its:List Value,aY xs its∧IsTup h a its.toArray
 | .dK kvs=> kvs.length≤sizeLine∧(a==sysModules)=false∧∃ vs,KV kvs vs∧h.DictOf (rH P w) a vs
 | .dT kvs=> kvs.length≤sizeLine∧(a==sysModules)=false∧∃ xs:List (List Key×Addr×Value),
   Paired (fun (p:List Key×V) (q:List Key×Addr×Value)=> p.1=q.1∧H q.2.1=some (.tup (p.1.map kV))∧bp p.2 q.2.2) kvs xs∧
   ∃ o es ep,h.get? a=some o∧o.ExactDict∧o.data=.dict es ep∧es.toList=xs.map (entryOfKey (tupleKind (rH P w)))∧(xs.map (·.1)).Nodup
 | .set S n=> h.SetOf (intKind P w) a S n
 | .ins C dx fs=> H dx=some (.own a)∧fs.length≤1000∧dx≠a∧h.get? a=some (Ha C dx)∧
   ∃ mA,h.Ns1 dx mA∧(∀ f,zG (fs.lookup f) (mA f))∧Jg mA (fs.map (·.1))
 | .own _=> ∃ o,h.get? a=some o
 | .xd fs=> ∃ mA,h.Ns1 a mA∧∀ f,zG (fs.lookup f) (mA f)
 | .rng lo hi=> ∃ t u v,h.get? a=some { cls:=.type "range",data:=.fields #[.int lo t,.int hi u,.int 1 v] }
 | .frz o u=> h.get? a=some o∧cG H h a u
 | .tbl ps=> h.get? a=some { cls:=.none,data:=.fields ps }
 | .met f x=> h.get? a=some (GJ (.ref f) (.ref x))
 | .ext φ=> φ h∧(∃ o,h.get? a=some o)∧∀ h1 h2:Heap,φ h1→(∀ o,h1.get? a=some o→h2.get? a=some o)→φ h2
def HOk (H:Hp) (h:Heap):Prop:=∀ a o,H a=some o→cG P w H h a o
end
section
variable {P:Program} {w:World} {H H':Hp} {h h':Heap} {a:Addr} {o:HO}
theorem cG.lt (x:cG P w H h a o):a < h.objs.size:=by
 cases o with
 | lst xs=> obtain ⟨_,_,_,_,e⟩:=x; exact Cw e
 | tup xs=> obtain ⟨_,_,_,p⟩:=x; exact p.lt
 | dK kvs=> obtain ⟨_,_,_,_,o,_,_,e,_⟩:=x; exact Cw e
 | dT kvs=> obtain ⟨_,_,_,_,o,_,_,e,_⟩:=x; exact Cw e
 | set S n=> obtain ⟨o,_,_,_,e,_⟩:=x; exact Cw e
 | ins C dx fs=> obtain ⟨_,_,_,e,_⟩:=x; exact Cw e
 | own y=> obtain ⟨_,e⟩:=x; exact Cw e
 | xd fs=> obtain ⟨_,⟨_,_,_,e,_⟩,_⟩:=x; exact Cw e
 | rng lo hi=> obtain ⟨_,_,_,e⟩:=x; exact Cw e
 | frz ob u=> obtain ⟨e,_⟩:=x; exact Cw e
 | tbl ps=> exact Cw (show h.get? a=some _ from x)
 | met f y=> exact Cw (show h.get? a=some _ from x)
 | ext φ=> obtain ⟨_,⟨_,e⟩,_⟩:=x; exact Cw e
theorem Paired.mapP {α β:Type} {F G:α→β→Prop}:∀ {l₁:List α} {l₂:List β},Paired F l₁ l₂→(∀ a b,F a b→G a b)→Paired G l₁ l₂
 | _,_,.nil,_=> .nil
 | _,_,.cons r t,f=> .cons (f _ _ r) (Paired.mapP t f)
theorem cG.stay (x:cG P w H h a o) (k:∀ b u,(b=a∨H b=some (.own a))→h.get? b=some u→h'.get? b=some u)
  (ho:∀ b,H b=some (.own a)→H' b=some (.own a)) (ht:∀ b xs,H b=some (.tup xs)→H' b=some (.tup xs)):cG P w H' h' a o:=by
 induction o with
 | lst xs=> obtain ⟨z,its,n,r,e⟩:=x; exact ⟨z,its,n,r,k _ _ (.inl rfl) e⟩
 | tup xs=> obtain ⟨z,its,r,ob,e,c⟩:=x; exact ⟨z,its,r,ob,k _ _ (.inl rfl) e,c⟩
 | dK kvs=> obtain ⟨z,y,vs,r,ob,es,ep,e,c⟩:=x; exact ⟨z,y,vs,r,ob,es,ep,k _ _ (.inl rfl) e,c⟩
 | dT kvs=>
  obtain ⟨z,y,xs,r,ob,es,ep,e,c⟩:=x
  exact ⟨z,y,xs,Paired.mapP r fun p q z=> ⟨z.1,ht _ _ z.2.1,z.2.2⟩,ob,es,ep,k _ _ (.inl rfl) e,c⟩
 | set S n=> obtain ⟨ob,es,ep,t,e,c⟩:=x; exact ⟨ob,es,ep,t,k _ _ (.inl rfl) e,c⟩
 | ins C dx fs=>
  obtain ⟨d,z,ne,e,mA,⟨od,es,ep,e2,c⟩,r⟩:=x
  exact ⟨ho _ d,z,ne,k _ _ (.inl rfl) e,mA,⟨od,es,ep,k _ _ (.inr d) e2,c⟩,r⟩
 | own y=> obtain ⟨ob,e⟩:=x; exact ⟨ob,k _ _ (.inl rfl) e⟩
 | xd fs=> obtain ⟨mA,⟨od,es,ep,e,c⟩,r⟩:=x; exact ⟨mA,⟨od,es,ep,k _ _ (.inl rfl) e,c⟩,r⟩
 | rng lo hi=> obtain ⟨t,u,v,e⟩:=x; exact ⟨t,u,v,k _ _ (.inl rfl) e⟩
 | frz ob u ih=> obtain ⟨e,q⟩:=x; exact ⟨k _ _ (.inl rfl) e,ih q⟩
 | tbl ps=>
  have e:h.get? a=some { cls:=.none,data:=.fields ps }:=x
  show h'.get? a=some { cls:=.none,data:=.fields ps }
  exact k a _ (.inl rfl) e
 | met f y=>
  have e:h.get? a=some (GJ (.ref f) (.ref y)):=x
  show h'.get? a=some (GJ (.ref f) (.ref y))
  exact k a _ (.inl rfl) e
 | ext φ=> obtain ⟨p,⟨o,e⟩,st⟩:=x; exact ⟨st _ _ p fun o q=> k _ _ (.inl rfl) q,⟨o,k _ _ (.inl rfl) e⟩,st⟩
theorem HOk.lt (x:HOk P w H h) (e:H a=some o):a < h.objs.size:=(x a o e).lt
theorem HOk.fresh (x:HOk P w H h) (e:h.objs.size≤a):H a=none:=by
 cases q:H a with
 | none=> rfl
 | some u=> exact absurd (C5 (x.lt q) e) (Dh _)
theorem HOk.kept (x:HOk P w H h) (k:∀ b u,h.get? b=some u→h'.get? b=some u):HOk P w H h':=fun a o e=>
 (x a o e).stay (fun b u _ q=> k b u q) (fun _ q=> q) fun _ _ q=> q
theorem HOk.laid (x:HOk P w H h) (k:∀ b u,h.get? b=some u→h'.get? b=some u) (hp:h.objs.size≤a) (new:cG P w (upd H a o) h' a o):HOk P w (upd H a o) h':=fun b u e=> by
 have hn:=x.fresh hp
 by_cases hb:b=a
 ·subst hb; rw [bi] at e; cases e; exact new
 ·rw [bv hb] at e
  exact (x b u e).stay (fun c v _ q=> k c v q) (fun c q=> by rw [bv (cP q hn)]; exact q) fun c xs q=> by rw [bv (cP q hn)]; exact q
end
def Rd (H:Hp) (a:Addr) (u:HO):Prop:=H a=some u∨∃ o,H a=some (.frz o u)
theorem Rd.ok {P:Program} {w:World} {H:Hp} {h:Heap} {a:Addr} {u:HO} (r:Rd H a u) (x:HOk P w H h):cG P w H h a u:=by
 rcases r with r | ⟨o,r⟩
 ·exact x a u r
 ·obtain ⟨_,q⟩:=x a _ r
  exact q
def Mut:Option HO→Prop
 | some (.lst _)=> True
 | some (.dK _)=> True
 | some (.dT _)=> True
 | some (.set _ _)=> True
 | some (.ins _ _ _)=> True
 | some (.ext _)=> True
 | _=> False
section
variable {P:Program} {w:World} {H:Hp} {h h':Heap} {x e:Addr} {o':HO}
theorem HOk.write (ok:HOk P w H h) (mu:Mut (H x)) (he:e=x∨H e=some (.own x)) (k:∀ b u,b≠e→h.get? b=some u→h'.get? b=some u) (heo:∃ u,h'.get? e=some u)
  (new:cG P w (upd H x o') h' x o'):HOk P w (upd H x o') h':=fun b u q=> by
 have nown:∀ c y,H c=some (.own y)→c≠x:=fun c y r z=> by subst z; rw [r] at mu; exact mu
 have ntup:∀ c xs,H c=some (.tup xs)→c≠x:=fun c xs r z=> by subst z; rw [r] at mu; exact mu
 by_cases hb:b=x
 ·subst hb; rw [bi] at q; cases q; exact new
 ·rw [bv hb] at q
  by_cases hbe:b=e
  ·have q':H b=some (.own x):=by
    rcases he with z | z
    ·exact absurd (hbe.trans z) hb
    ·rw [hbe]; exact z
   rw [q] at q'; cases q'
   obtain ⟨v,hv⟩:=heo
   exact ⟨v,by rw [hbe]; exact hv⟩
  ·refine (ok b u q).stay (fun c v hc r=> k c v ?_ r) (fun c r=> by rw [bv (nown c b r)]; exact r) fun c xs r=> by rw [bv (ntup c xs r)]; exact r
   rcases hc with rfl | hc
   ·exact hbe
   ·rintro rfl
    rcases he with z | z
    ·exact nown c b hc z
    ·rw [hc] at z; cases z; exact hb rfl
end
structure Un (fs ex:List Addr) (H H':Hp) (h h':Heap):Prop where
 keep:∀ b o,h.get? b=some o→H b=none→b ∉ fs→b ∉ ex→h'.get? b=some o
 slot:∀ b o,h.get? b=some o→H b=none→b∈fs→b ∉ ex→∃ sl,h'.get? b=some { o with slots:=sl }
 free:∀ b o,h.get? b=some o→H b=none→b ∉ ex→H' b=none
 there:∀ b o,h.get? b=some o→b ∉ ex→∃ o',h'.get? b=some o'
 tups:∀ b xs,H b=some (.tup xs)→H' b=some (.tup xs)
 frzs:∀ b o u,H b=some (.frz o u)→H' b=some (.frz o u)
 tbls:∀ b ps,H b=some (.tbl ps)→∃ more,H' b=some (.tbl (ps++more))
section
variable {fs fs' ex ex':List Addr} {H H1 H2:Hp} {h h1 h2 h':Heap} {a x e:Addr} {o:HO}
theorem Un.any (u:Un fs ex H H1 h h1) {b:Addr} {ob:Obj} (q:h.get? b=some ob) (n:H b=none) (hx:b ∉ ex):∃ sl,h1.get? b=some { ob with slots:=sl }:=by
 by_cases hb:b∈fs
 ·exact u.slot b ob q n hb hx
 ·exact ⟨ob.slots,u.keep b ob q n hb hx⟩
theorem Un.kept (k:∀ b u,h.get? b=some u→h'.get? b=some u):Un fs ex H H h h':=
 ⟨fun b ob q _ _ _=> k b ob q,fun b ob q _ _ _=> ⟨ob.slots,k b ob q⟩,fun _ _ _ n _=> n,fun b ob q _=> ⟨ob,k b ob q⟩,fun _ _ q=> q,fun _ _ _ q=> q,fun _ ps q=> ⟨#[],by rw [q]; simp⟩⟩
theorem Un.refl:Un fs ex H H h h:=Un.kept fun _ _ q=> q
theorem Un.laid (k:∀ b u,h.get? b=some u→h'.get? b=some u) (hp:h.objs.size≤a) (hn:H a=none):Un fs ex H (upd H a o) h h' where
 keep:=fun b u q _ _ _=> k b u q
 slot:=fun b u q _ _ _=> ⟨u.slots,k b u q⟩
 free:=fun b u q n _=> by rw [bv (C1 (C5 (Cw q) hp))]; exact n
 there:=fun b u q _=> ⟨u,k b u q⟩
 tups:=fun b xs q=> by rw [bv (cP q hn)]; exact q
 frzs:=fun b u xs q=> by rw [bv (cP q hn)]; exact q
 tbls:=fun b ps q=> ⟨#[],by rw [bv (cP q hn),q]; simp⟩
theorem Un.write (mu:Mut (H x)) (he:e=x∨H e=some (.own x)) (k:∀ b u,b≠e→h.get? b=some u→h'.get? b=some u) (heo:∃ u,h'.get? e=some u):Un fs ex H (upd H x o) h h':=by
 have hx:∀ b,H b=none→b≠x:=fun b n z=> by subst z; rw [n] at mu; exact mu
 have hb:∀ b,H b=none→b≠e:=fun b n z=> by
  subst z
  rcases he with r | r
  ·exact hx b n r
  ·rw [n] at r; cases r
 have hm:∀ b u,H b=some u→¬ Mut (some u)→b≠x:=fun b u q nm z=> by subst z; rw [q] at mu; exact nm mu
 refine ⟨fun b u q n _ _=> k b u (hb b n) q,fun b u q n _ _=> ⟨u.slots,k b u (hb b n) q⟩,fun b u q n _=> by rw [bv (hx b n)]; exact n,fun b u q _=> ?_,
  fun b xs q=> by rw [bv (hm b _ q fun z=> z)]; exact q,fun b u xs q=> by rw [bv (hm b _ q fun z=> z)]; exact q,fun b ps q=> ⟨#[],by rw [bv (hm b _ q fun z=> z),q]; simp⟩⟩
 by_cases hbe:b=e
 ·subst hbe; exact heo
 ·exact ⟨u,k b u hbe q⟩
end
def trk (h:Heap) (H:Hp):List Addr:=(Df h.objs.size).filter fun a=> (H a).isSome
def lM (h:Heap) (H:Hp):Heap:=PySem.W.hideAll h (trk h H)
theorem tJ (h:Heap) (H:Hp):(lM h H).objs.size=h.objs.size:=PySem.W.hideAll_size _ _
theorem vn {h:Heap} {H:Hp} {b:Addr} {o:Obj} (e:h.get? b=some o) (n:H b=none):(lM h H).get? b=some o:=
 PySem.W.hideAll_get _ e fun hm=> by
  have q:(H b).isSome=true:=(CY.mp hm).2
  rw [n] at q; simp at q
theorem yd {h:Heap} {H:Hp} {b:Addr} {o:Obj} (e:(lM h H).get? b=some o):h.get? b=some o∧H b=none:=by
 have e':h.get? b=some o:=PySem.W.of_hideAll (trk h H) e
 refine ⟨e',?_⟩
 cases q:H b with
 | none=> rfl
 | some x=>
  have hm:b∈trk h H:=CY.mpr ⟨CF.mpr (Cw e'),by simp [q]⟩
  have z:(lM h H).get? b=none:=PySem.W.hideAll_none (trk h H) hm
  rw [z] at e; cases e
def xo (g h:Heap) (L:Addr):List (Addr×Obj):=(Df h.objs.size).filterMap fun a=> if a=L∨(g.get? a).isSome=true then none else (h.get? a).map fun o=> (a,o)
def rest (g h:Heap) (L d:Addr):List (Addr×Obj):=(xo g h L).filter fun p=> decide (p.1≠d)
end L2
namespace L2
open PySem PySem.Spec PyProof.Rows
structure Mod (K:Cn) (mg:Str→Option Value) (base:Heap):Prop where
 kin:K.In base
 glob:base.Ns mainGlobals mg
 blt:∃ mb,base.Ns builtinsNs mb∧∀ x:Str,x≠"__name__"→mb x=bootBuiltins x
 nolimit:base.NoLimit
structure Cx where
 prog:Program
 w:World
 K:Cn
 mg:Str→Option Value
 base:Heap
 A:Around
 N:List Str
 s₀:Shared
 H₀:Hp
 env:Env
 outer:List Env
 stack:List Env
 ex:List Addr
 fn:Str→Bool
 calm:Bool
 pn:List (Addr×Obj)
 xe:Value→Shared→Prop
def frs (l:List Env):List Addr:=l.filterMap (·.frame)
abbrev Cx.fs (X:Cx):List Addr:=frs X.outer
def Vis (sc:Scope) (x:Str):Prop:=sc.names.lookup x=some .local∨sc.names.lookup x=some .cell∨sc.names.lookup x=some .free
def Loc (sc:Scope) (x:Str):Prop:=sc.names.lookup x=some .local∨sc.names.lookup x=some .cell
def Ch (env:Env) (h:Heap) (m:Str→Option Value) (x:Str) (u:Value):Prop:=
 (env.kindOf x=some .local∧m x=some u)∨((env.kindOf x=some .cell∨env.kindOf x=some .free)∧∃ c,env.cells.lookup x=some c∧h.IsCell c (some u))
structure Cx.Ok (X:Cx):Prop where
 mod:Mod X.K X.mg X.base
 kind:X.env.scope.kind=.function
 glob:X.env.globals=mainGlobals
 blt:X.env.builtins=builtinsNs
 above:X.s₀.heap.objs.size≤X.env.locals
 inj:∀ x y c,X.env.cells.lookup x=some c→X.env.cells.lookup y=some c→x=y
 has:∀ x,(X.env.kindOf x=some .cell∨X.env.kindOf x=some .free)→∃ c,X.env.cells.lookup x=some c
 cab:∀ x c,X.fn x=true→X.env.cells.lookup x=some c→X.s₀.heap.objs.size≤c
 hd:X.calm=true→X.A.handled=none
 frames:X.A.frames=some X.stack
 stk:X.stack=X.outer∨(X.stack=X.env::X.outer∧X.env.frame=some X.env.locals)
 exf:∀ b∈X.ex,b≠X.env.locals∧∀ x c,X.env.cells.lookup x=some c→c≠b
 bs:∀ b o,X.base.get? b=some o→X.s₀.heap.get? b=some o∧X.H₀ b=none
 bsz:X.base.objs.size≤X.s₀.heap.objs.size
 noex:∀ b o,X.base.get? b=some o→b ∉ X.ex
 exfs:∀ b∈X.ex,b ∉ X.fs
 funs:X.s₀.heap.FunFrames X.base X.outer
 frf:∀ b∈X.fs,X.H₀ b=none
structure Inv (X:Cx) (pins:List (Addr×Obj)) (σ:List (Option V)) (H:Hp) (s:Shared):Prop where
 ok:X.Ok
 os:s.os=X.s₀.os
 bare:AllBare s.gens
 base:Un X.fs X.ex X.H₀ H X.s₀.heap s.heap
 loc:∃ m,s.heap.Ns X.env.locals m∧∀ (i:Nat) (x:Str) (v:V),X.N[i]?=some x→σ[i]?=some (some v)→Vis X.env.scope x→∃ u,bp v u∧Ch X.env s.heap m x u
 cell:∀ x c,X.env.cells.lookup x=some c→∃ v,s.heap.IsCell c v
 free:H X.env.locals=none
 freeC:∀ x c,X.env.cells.lookup x=some c→H c=none
 pin:∀ p∈X.pn++pins,s.heap.get? p.1=some p.2∧H p.1=none∧p.1≠X.env.locals∧p.1 ∉ X.fs∧∀ v,p.2.data≠.cell v
 hok:HOk X.prog X.w H s.heap
 len:σ.length=X.N.length
section
variable {X:Cx} {pins:List (Addr×Obj)} {σ:List (Option V)} {H H':Hp} {s:Shared} {h':Heap}
theorem Cx.Ok.nofr (ok:X.Ok) {b:Addr} {o:Obj} (e:X.base.get? b=some o):b ∉ X.fs:=fun hb=> by
 have:=(ok.funs.mem hb).1
 rw [e] at this; cases this
theorem Inv.bs (I:Inv X pins σ H s):∀ b o,X.base.get? b=some o→s.heap.get? b=some o∧H b=none:=fun b o e=>
 ⟨I.base.keep b o (I.ok.bs b o e).1 (I.ok.bs b o e).2 (I.ok.nofr e) (I.ok.noex b o e),I.base.free b o (I.ok.bs b o e).1 (I.ok.bs b o e).2 (I.ok.noex b o e)⟩
theorem Inv.bk (I:Inv X pins σ H s):∀ b o,X.base.get? b=some o→s.heap.get? b=some o:=fun b o e=> (I.bs b o e).1
theorem Inv.mod (I:Inv X pins σ H s):Mod X.K X.mg X.base:=I.ok.mod
theorem Inv.kIn (I:Inv X pins σ H s):X.K.In s.heap:=I.ok.mod.kin.keeps I.bk
theorem Inv.lt (I:Inv X pins σ H s):X.env.locals < s.heap.objs.size:=let ⟨_,hn,_⟩:=I.loc; hn.lt
theorem Inv.sz (I:Inv X pins σ H s):X.s₀.heap.objs.size≤s.heap.objs.size:=DK I.ok.above (DF I.lt)
theorem Inv.nofs (I:Inv X pins σ H s) {a:Addr} (h:s.heap.objs.size≤a):a ∉ X.fs:=fun hb=> by
 obtain ⟨_,o,ho,_⟩:=I.ok.funs.mem hb
 exact absurd (C5 (Cw ho) (DK I.sz h)) (Dh _)
theorem Inv.cne (I:Inv X pins σ H s):∀ x c,X.env.cells.lookup x=some c→c≠X.env.locals:=fun x c e z=> by
 obtain ⟨v,o,ho,hd⟩:=I.cell x c e
 obtain ⟨m,⟨o',es,ep,ho',hd',_⟩,_⟩:=I.loc
 rw [z,ho'] at ho; cases ho; rw [hd'] at hd; cases hd
theorem Inv.funs (I:Inv X pins σ H s):s.heap.FunFrames X.base X.outer:=by
 have all:∀ (l:List Env),(∀ b∈frs l,b∈X.fs)→X.s₀.heap.FunFrames X.base l→s.heap.FunFrames X.base l:=by
  intro l
  induction l with
  | nil=> intro _ _; trivial
  | cons env r ih=>
   intro hs hl
   obtain ⟨hk,⟨L,o,hf,hn,ho,hd⟩,hr⟩:=hl
   have hL:L∈X.fs:=hs L (by unfold frs; rw [D_,hf]; exact Cy)
   obtain ⟨sl,e⟩:=I.base.slot L o ho (I.ok.frf L hL) hL fun z=> I.ok.exfs L z hL
   exact ⟨hk,⟨L,_,hf,hn,e,hd⟩,ih (fun b hb=> hs b (by unfold frs; rw [D_,hf]; exact Cp _ hb)) hr⟩
 exact all X.outer (fun _ hb=> hb) I.ok.funs
theorem Inv.stack (I:Inv X pins σ H s):s.heap.FunFrames X.base X.stack:=by
 rcases I.ok.stk with e | ⟨e,hf⟩
 ·rw [e]; exact I.funs
 ·rw [e]
  obtain ⟨m,hn,_⟩:=I.loc
  refine .cons (by rw [I.ok.kind]; decide) hf hn ?_ I.funs
  exact F_ (DK I.ok.bsz I.ok.above)
theorem Inv.stkSub (I:Inv X pins σ H s):∀ b∈frs X.stack,b∈X.env.locals::X.fs:=fun b hb=> by
 rcases I.ok.stk with e | ⟨e,hf⟩
 ·rw [e] at hb; exact Cp _ hb
 ·rw [e] at hb
  unfold frs at hb
  rw [D_,hf] at hb
  exact hb
theorem Inv.stkFree (I:Inv X pins σ H s):∀ b∈frs X.stack,H b=none:=fun b hb=> by
 rcases Cu.mp (I.stkSub b hb) with e | hb
 ·rw [e]; exact I.free
 ·obtain ⟨_,o,ho,_⟩:=I.ok.funs.mem hb
  exact I.base.free b o ho (I.ok.frf b hb) fun z=> I.ok.exfs b z hb
theorem Inv.step {g':Array GenState} {t':Nat} {d':Drawn} {ch:List Addr} (I:Inv X pins σ H s)
  (hch:∀ b∈ch,(b∈X.ex∨X.s₀.heap.objs.size≤b)∧b≠X.env.locals∧(∀ x c,X.env.cells.lookup x=some c→c≠b)∧∀ p∈X.pn++pins,p.1≠b)
  (keep:∀ b o,b≠X.env.locals→b ∉ X.fs→b ∉ ch→s.heap.get? b=some o→H b=none→h'.get? b=some o)
  (slot:∀ b o,b≠X.env.locals→b∈X.fs→b ∉ ch→s.heap.get? b=some o→H b=none→∃ sl,h'.get? b=some { o with slots:=sl }) (free:∀ b o,b ∉ ch→s.heap.get? b=some o→H b=none→H' b=none)
  (there:∀ b o,b ∉ ch→s.heap.get? b=some o→∃ o',h'.get? b=some o')
  (tups:∀ b xs,H b=some (.tup xs)→H' b=some (.tup xs)) (frzs:∀ b o u,H b=some (.frz o u)→H' b=some (.frz o u)) (tbls:∀ b ps,H b=some (.tbl ps)→∃ more,H' b=some (.tbl (ps++more)))
  (ns:∀ m,s.heap.Ns X.env.locals m→h'.Ns X.env.locals m) (hok:HOk X.prog X.w H' h') (hg:AllBare g'):
  Inv X pins σ H' { s with heap:=h',gens:=g',drawn:=d',toks:=t' }:=by
 have neL:∀ b o,X.s₀.heap.get? b=some o→b≠X.env.locals:=fun b o e=> C1 (C5 (Cw e) I.ok.above)
 have neC:∀ b o,X.s₀.heap.get? b=some o→b ∉ X.ex→b ∉ ch:=fun b o e hx hb=> by
  rcases (hch b hb).1 with z | z
  ·exact hx z
  ·exact absurd (C5 (Cw e) z) (Dh _)
 have cellK:∀ x c,X.env.cells.lookup x=some c→∀ v,s.heap.IsCell c v→h'.IsCell c v:=fun x c e v ⟨o,ho,hd⟩=> by
  have nch:c ∉ ch:=fun z=> (hch c z).2.2.1 x c e rfl
  by_cases hc:c∈X.fs
  ·obtain ⟨sl,q⟩:=slot c o (I.cne x c e) hc nch ho (I.freeC x c e)
   exact ⟨_,q,hd⟩
  ·exact ⟨o,keep c o (I.cne x c e) hc nch ho (I.freeC x c e),hd⟩
 refine ⟨I.ok,I.os,hg,⟨fun b o e n hb hx=> ?_,fun b o e n hb hx=> ?_,fun b o e n hx=> ?_,fun b o e hx=> ?_,fun b xs e=> tups b xs (I.base.tups b xs e),fun b o xs e=> frzs b o xs (I.base.frzs b o xs e),fun b ps e=> ?_⟩,?_,fun x c e=> ?_,?_,fun x c e=> ?_,fun p hp=> ?_,hok,I.len⟩
 ·exact keep b o (neL b o e) hb (neC b o e hx) (I.base.keep b o e n hb hx) (I.base.free b o e n hx)
 ·obtain ⟨sl,e1⟩:=I.base.slot b o e n hb hx
  obtain ⟨sl',e2⟩:=slot b _ (neL b o e) hb (neC b o e hx) e1 (I.base.free b o e n hx)
  exact ⟨sl',e2⟩
 ·obtain ⟨o',e1⟩:=I.base.there b o e hx
  exact free b o' (neC b o e hx) e1 (I.base.free b o e n hx)
 ·obtain ⟨o',e1⟩:=I.base.there b o e hx
  exact there b o' (neC b o e hx) e1
 ·obtain ⟨m1,e1⟩:=I.base.tbls b ps e
  obtain ⟨m2,e2⟩:=tbls b _ e1
  exact ⟨m1++m2,by rw [e2,HB]⟩
 ·obtain ⟨m,hn,hl⟩:=I.loc
  refine ⟨m,ns m hn,fun i x v e1 e2 e3=> ?_⟩
  obtain ⟨u,r,l⟩:=hl i x v e1 e2 e3
  refine ⟨u,r,?_⟩
  rcases l with l | ⟨k,c,e,z⟩
  ·exact .inl l
  ·exact .inr ⟨k,c,e,cellK x c e _ z⟩
 ·obtain ⟨v,z⟩:=I.cell x c e
  exact ⟨v,cellK x c e v z⟩
 ·obtain ⟨m,⟨o,_,_,ho,_⟩,_⟩:=I.loc
  exact free _ o (fun z=> (hch _ z).2.1 rfl) ho I.free
 ·obtain ⟨v,o,ho,hd⟩:=I.cell x c e
  exact free c o (fun z=> (hch c z).2.2.1 x c e rfl) ho (I.freeC x c e)
 ·obtain ⟨e,n,ne,nf,d⟩:=I.pin p hp
  have nch:p.1 ∉ ch:=fun z=> (hch p.1 z).2.2.2 p hp rfl
  exact ⟨keep p.1 p.2 ne nf nch e n,free p.1 p.2 nch e n,ne,nf,d⟩
theorem Inv.un {t':Nat} (I:Inv X pins σ H s) (u:Un X.fs [] H H' s.heap h') (hok:HOk X.prog X.w H' h'):Inv X pins σ H' { s with heap:=h',toks:=t' }:=by
 obtain ⟨m,⟨o,es,ep,ho,r⟩,_⟩:=id I.loc
 obtain ⟨sl,hL⟩:=u.any ho I.free (by simp)
 exact I.step (g':=s.gens) (d':=s.drawn) (ch:=[]) (fun _ z=> nomatch z) (fun b o _ hb _ e n=> u.keep b o e n hb (by simp)) (fun b o _ hb _ e n=> u.slot b o e n hb (by simp)) (fun b o _ e n=> u.free b o e n (by simp)) (fun b o _ e=> u.there b o e (by simp)) u.tups u.frzs u.tbls (fun m' hm=> by
  obtain ⟨o',es',ep',ho',r'⟩:=hm
  rw [ho] at ho'; cases ho'
  exact ⟨_,es',ep',hL,r'⟩) hok I.bare
theorem Inv.call {g':Array GenState} {t':Nat} {d':Drawn} {ch:List Addr} (I:Inv X pins σ H s) (u:Un (frs X.stack) ch H H' s.heap h') (hok:HOk X.prog X.w H' h') (hg:AllBare g')
  (hch:∀ b∈ch,(b∈X.ex∨X.s₀.heap.objs.size≤b)∧b≠X.env.locals∧(∀ x c,X.env.cells.lookup x=some c→c≠b)∧∀ p∈X.pn++pins,p.1≠b):
  Inv X pins σ H' { s with heap:=h',gens:=g',drawn:=d',toks:=t' }:=by
 obtain ⟨m,⟨o,es,ep,ho,r⟩,_⟩:=id I.loc
 obtain ⟨sl,hL⟩:=u.any ho I.free fun z=> (hch _ z).2.1 rfl
 exact I.step (ch:=ch) hch (fun b o hL hb hc e n=> u.keep b o e n (fun z=> (Cu.mp (I.stkSub b z)).elim hL hb) hc) (fun b o _ _ hc e n=> u.any e n hc) (fun b o hc e n=> u.free b o e n hc) (fun b o hc e=> u.there b o e hc) u.tups u.frzs u.tbls (fun m' hm=> by
  obtain ⟨o',es',ep',ho',r'⟩:=hm
  rw [ho] at ho'; cases ho'
  exact ⟨_,es',ep',hL,r'⟩) hok hg
theorem Inv.turned {t':Nat} {it:Addr} (I:Inv X pins σ H s) (k:∀ b o,b≠it→s.heap.get? b=some o→h'.get? b=some o) (hn:H it=none) (hL:it≠X.env.locals)
  (h1:it∈X.ex∨X.s₀.heap.objs.size≤it) (h2:∀ x c,X.env.cells.lookup x=some c→c≠it) (h3:∀ p∈X.pn++pins,p.1≠it):Inv X pins σ H { s with heap:=h',toks:=t' }:=by
 have nit:∀ b u,H b=some u→b≠it:=fun b u e z=> by rw [z,hn] at e; cases e
 refine I.step (g':=s.gens) (d':=s.drawn) (ch:=[it]) (fun b hb=> ?_) (fun b o _ _ hc e _=> k b o (fun z=> hc (by simp [z])) e) (fun b o _ _ hc e _=> ⟨o.slots,k b o (fun z=> hc (by simp [z])) e⟩) (fun _ _ _ _ n=> n)
  (fun b o hc e=> ⟨o,k b o (fun z=> hc (by simp [z])) e⟩) (fun _ _ e=> e) (fun _ _ _ e=> e) (fun b ps e=> ⟨#[],by rw [e]; simp⟩) (fun m hm=> ?_) (fun b u e=> ?_) I.bare
 ·have e:b=it:=by simpa using hb
  subst e
  exact ⟨h1,hL,h2,h3⟩
 ·obtain ⟨o,es,ep,ho,r⟩:=hm
  exact ⟨o,es,ep,k _ o (Ne.symm hL) ho,r⟩
 ·refine (I.hok b u e).stay (fun c v hc q=> k c v ?_ q) (fun _ q=> q) fun _ _ q=> q
  rcases hc with z | z
  ·rw [z]; exact nit b u e
  ·exact nit c _ z
theorem Inv.tok (I:Inv X pins σ H s) (t:Nat):Inv X pins σ H { s with toks:=t }:=I.un (h':=s.heap) (t':=t) Un.refl I.hok
theorem Inv.kept {t':Nat} (I:Inv X pins σ H s) (k:∀ b u,s.heap.get? b=some u→h'.get? b=some u):Inv X pins σ H { s with heap:=h',toks:=t' }:=I.un (Un.kept k) (I.hok.kept k)
theorem Inv.laid {a:Addr} {o:HO} {t':Nat} (I:Inv X pins σ H s) (k:∀ b u,s.heap.get? b=some u→h'.get? b=some u) (hp:s.heap.objs.size≤a) (new:cG X.prog X.w (upd H a o) h' a o):
  Inv X pins σ (upd H a o) { s with heap:=h',toks:=t' }:=I.un (Un.laid k hp (I.hok.fresh hp)) (I.hok.laid k hp new)
theorem Inv.write {x e:Addr} {o:HO} {t':Nat} (I:Inv X pins σ H s) (mu:Mut (H x)) (he:e=x∨H e=some (.own x)) (k:∀ b u,b≠e→s.heap.get? b=some u→h'.get? b=some u) (heo:∃ u,h'.get? e=some u)
  (new:cG X.prog X.w (upd H x o) h' x o):Inv X pins σ (upd H x o) { s with heap:=h',toks:=t' }:=I.un (Un.write mu he k heo) (I.hok.write mu he k heo new)
theorem Inv.weak {σ':List (Option V)} (I:Inv X pins σ H s) (hl:σ'.length=σ.length) (w:∀ (i:Nat) v,σ'[i]?=some (some v)→σ[i]?=some (some v)):Inv X pins σ' H s:=
 ⟨I.ok,I.os,I.bare,I.base,let ⟨m,hn,hl'⟩:=I.loc; ⟨m,hn,fun i x v e1 e2 e3=> hl' i x v e1 (w i v e2) e3⟩,I.cell,I.free,I.freeC,I.pin,I.hok,hl.trans I.len⟩
theorem Inv.pins_of {pins':List (Addr×Obj)} (I:Inv X pins σ H s) (h:∀ p∈pins',s.heap.get? p.1=some p.2∧H p.1=none∧p.1≠X.env.locals∧p.1 ∉ X.fs∧∀ v,p.2.data≠.cell v):Inv X pins' σ H s:=
 ⟨I.ok,I.os,I.bare,I.base,I.loc,I.cell,I.free,I.freeC,fun p hp=> (Es.mp hp).elim (fun z=> I.pin p (DY _ z)) (h p),I.hok,I.len⟩
theorem n5 {N:List Str} (hN:N.Nodup) {i j:Nat} {x:Str} (a:N[i]?=some x) (b:N[j]?=some x):i=j:=by
 obtain ⟨h1,e1⟩:=Cz.mp a
 obtain ⟨h2,e2⟩:=Cz.mp b
 exact (GY hN).mp (e1.trans e2.symm)
theorem iI {M:Model} {A:Around} {E:Value→Shared→Prop} {i:Nat} {x:Str} {v:V} {u:Value} {Q:Unit→Shared→Prop} (I:Inv X pins σ H s) (hN:X.N.Nodup) (hi:X.N[i]?=some x) (hx:Loc X.env.scope x) (r:bp v u)
  (h:∀ s',Inv X pins (σ.set i (some v)) H s'→(∃ a,Fe a s.heap s'.heap∧(a=X.env.locals∨X.env.cells.lookup x=some a))→Q () s') (hf:X.fn x=true∨X.env.scope.names.lookup x=some .local:=by first | exact .inl rfl | exact .inr rfl | assumption):wpAny M A (storeName X.env x u) Q E s:=by
 obtain ⟨m,hn,hl⟩:=id I.loc
 have hcls:(X.env.scope.kind==.class || (X.env.scope.kind==.module && X.env.locals !=X.env.globals))=false:=by rw [I.ok.kind]; rfl
 have hiσ:i < σ.length:=by rw [I.len]; exact (Cz.mp hi).1
 have cne:=I.cne
 have tracked:∀ {a:Addr} {h':Heap},(∃ o,s.heap.get? a=some o∧H a=none)→Fe a s.heap h'→HOk X.prog X.w H h':=fun {a h'} ha hs b ob e=> by
  obtain ⟨_,_,hfree⟩:=ha
  refine (I.hok b ob e).stay (fun c w' hc q=> (hs.2 c ?_).trans q) (fun _ q=> q) fun _ _ q=> q
  rintro rfl
  rcases hc with rfl | hc
  ·rw [hfree] at e; cases e
  ·rw [hfree] at hc; cases hc
 rcases hx with hk | hk
 ·refine wpAny_storeName_local hk hn (fun h' hn' hs=> ?_) hcls
  obtain ⟨oL,_,_,hoL,_⟩:=id hn
  refine h _ ⟨I.ok,I.os,I.bare,⟨fun b o e n hb hx=> ?_,fun b o e n hb hx=> ?_,I.base.free,fun b o e hx=> ?_,I.base.tups,I.base.frzs,I.base.tbls⟩,⟨_,hn',fun j y v' e1 e2 e3=> ?_⟩,fun y c e=> ?_,I.free,I.freeC,fun p hp=> ?_,tracked ⟨oL,hoL,I.free⟩ hs,by simpa using I.len⟩ ⟨_,hs,.inl rfl⟩
  ·exact (hs.2 b (C1 (C5 (Cw e) I.ok.above))).trans (I.base.keep b o e n hb hx)
  ·obtain ⟨sl,e1⟩:=I.base.slot b o e n hb hx
   exact ⟨sl,(hs.2 b (C1 (C5 (Cw e) I.ok.above))).trans e1⟩
  ·obtain ⟨o',e1⟩:=I.base.there b o e hx
   exact ⟨o',(hs.2 b (C1 (C5 (Cw e) I.ok.above))).trans e1⟩
  ·by_cases hj:j=i
   ·subst hj
    rw [hi] at e1; cases e1
    rw [G4 hiσ] at e2
    cases e2
    exact ⟨u,r,.inl ⟨hk,by simp⟩⟩
   ·rw [C3 (Ne.symm hj)] at e2
    obtain ⟨u',r',q⟩:=hl j y v' e1 e2 e3
    refine ⟨u',r',?_⟩
    rcases q with ⟨k,e⟩ | ⟨k,c,e,z⟩
    ·refine .inl ⟨k,?_⟩
     have:y≠x:=fun e=> hj (n5 hN e1 (e ▸ hi))
     simp [this,e]
    ·exact .inr ⟨k,c,e,z.sameBut hs (cne y c e)⟩
  ·obtain ⟨w',z⟩:=I.cell y c e
   exact ⟨w',z.sameBut hs (cne y c e)⟩
  ·obtain ⟨e,n,ne,nf,d⟩:=I.pin p hp
   exact ⟨(hs.2 p.1 ne).trans e,n,ne,nf,d⟩
 ·have hfn:X.fn x=true:=by
   rcases hf with z | z
   ·exact z
   ·rw [z] at hk; cases hk
  obtain ⟨c,hc⟩:=I.ok.has x (.inl hk)
  obtain ⟨w',z⟩:=I.cell x c hc
  refine wpAny_storeName_cell I.ok.kind hk hc z (fun h' hc' hs=> ?_)
  obtain ⟨oc,hoc,hocd⟩:=id z
  refine h { s with heap:=h' } ⟨I.ok,I.os,I.bare,⟨fun b o e n hb hx=> ?_,fun b o e n hb hx=> ?_,I.base.free,fun b o e hx=> ?_,I.base.tups,I.base.frzs,I.base.tbls⟩,⟨m,hn.sameBut hs (Ne.symm (cne x c hc)),fun j y v' e1 e2 e3=> ?_⟩,fun y c' e=> ?_,I.free,I.freeC,fun p hp=> ?_,tracked ⟨oc,hoc,I.freeC x c hc⟩ hs,by simpa using I.len⟩ ⟨c,hs,.inr hc⟩
  ·exact (hs.2 b (C1 (C5 (Cw e) (I.ok.cab x c hfn hc)))).trans (I.base.keep b o e n hb hx)
  ·obtain ⟨sl,e1⟩:=I.base.slot b o e n hb hx
   exact ⟨sl,(hs.2 b (C1 (C5 (Cw e) (I.ok.cab x c hfn hc)))).trans e1⟩
  ·obtain ⟨o',e1⟩:=I.base.there b o e hx
   exact ⟨o',(hs.2 b (C1 (C5 (Cw e) (I.ok.cab x c hfn hc)))).trans e1⟩
  ·by_cases hj:j=i
   ·subst hj
    rw [hi] at e1; cases e1
    rw [G4 hiσ] at e2
    cases e2
    exact ⟨u,r,.inr ⟨.inl hk,c,hc,hc'⟩⟩
   ·rw [C3 (Ne.symm hj)] at e2
    obtain ⟨u',r',q⟩:=hl j y v' e1 e2 e3
    refine ⟨u',r',?_⟩
    rcases q with q | ⟨k,c',e,z'⟩
    ·exact .inl q
    ·refine .inr ⟨k,c',e,z'.sameBut hs ?_⟩
     rintro rfl
     exact hj (n5 hN e1 (I.ok.inj _ _ _ e hc ▸ hi))
  ·by_cases hcc:c'=c
   ·subst hcc; exact ⟨_,hc'⟩
   ·obtain ⟨w2,z2⟩:=I.cell y c' e
    exact ⟨w2,z2.sameBut hs hcc⟩
  ·obtain ⟨e,n,ne,nf,d⟩:=I.pin p hp
   refine ⟨(hs.2 p.1 ?_).trans e,n,ne,nf,d⟩
   intro q
   rw [q,hoc] at e
   have q':oc=p.2:=Dg e
   exact d w' (by rw [← q']; exact hocd)
theorem fS {M:Model} {A:Around} {E:Value→Shared→Prop} {i:Nat} {x:Str} {v:V} {u:Value} {Q:Unit→Shared→Prop} (I:Inv X pins σ H s) (hN:X.N.Nodup) (hi:X.N[i]?=some x) (hx:Loc X.env.scope x) (r:bp v u)
  (h:∀ s',Inv X pins (σ.set i (some v)) H s'→Q () s') (hf:X.fn x=true∨X.env.scope.names.lookup x=some .local:=by first | exact .inl rfl | exact .inr rfl | assumption):wpAny M A (storeName X.env x u) Q E s:=
 iI I hN hi hx r (fun s' I' _=> h s' I') hf
theorem Inv.call' {s':Shared} {ch:List Addr} (I:Inv X pins σ H s) (ho:s'.os=s.os) (u:Un (frs X.stack) ch H H' s.heap s'.heap) (hok:HOk X.prog X.w H' s'.heap) (hg:AllBare s'.gens)
  (hch:∀ b∈ch,(b∈X.ex∨X.s₀.heap.objs.size≤b)∧b≠X.env.locals∧(∀ x c,X.env.cells.lookup x=some c→c≠b)∧∀ p∈X.pn++pins,p.1≠b):Inv X pins σ H' s':=by
 obtain ⟨h',g',d',t',o'⟩:=s'
 have e:o'=s.os:=ho
 subst e
 exact I.call (g':=g') (t':=t') (d':=d') u hok hg hch
end
abbrev XK:=Value→Option Addr→Hp→Prop
abbrev St:=List (Option V)
abbrev VK:=V→Hp→Prop
abbrev TE:=St→Hp→VK→Prop
abbrev TT:=St→Hp→(Bool→Hp→Prop)→Prop
abbrev TA:=St→Hp→(List V→Hp→Prop)→Prop
structure m7 where
 nx:St→Hp→Prop
 rt:VK
 bk:St→Hp→Prop:=fun _ _=> False
 ct:St→Hp→Prop:=fun _ _=> False
abbrev TS:=m7→St→Hp→Prop
def EP (X:Cx) (pins:List (Addr×Obj)) (σ:St) (Q:VK) (u:Value) (s':Shared):Prop:=∃ v H',Inv X pins σ H' s'∧bp v u∧Q v H'
def TP (X:Cx) (pins:List (Addr×Obj)) (σ:St) (Q:Bool→Hp→Prop) (b:Bool) (s':Shared):Prop:=∃ H',Inv X pins σ H' s'∧Q b H'
def AP (X:Cx) (pins:List (Addr×Obj)) (σ:St) (Q:List V→Hp→Prop) (us:List Value) (s':Shared):Prop:=∃ vs H',Inv X pins σ H' s'∧aY vs us∧Q vs H'
def SP (X:Cx) (pins:List (Addr×Obj)) (D:m7) (f:Flow) (s':Shared):Prop:=
 match f with
 | .next=> ∃ σ' H',Inv X pins σ' H' s'∧D.nx σ' H'
 | .brk=> ∃ σ' H',Inv X pins σ' H' s'∧D.bk σ' H'
 | .cont=> ∃ σ' H',Inv X pins σ' H' s'∧D.ct σ' H'
 | .ret u=> ∃ v σ' H',Inv X pins σ' H' s'∧bp v u∧D.rt v H'
def PE (X:Cx) (e:Expr) (t:TE):Prop:=
 ∀ (pins:List (Addr×Obj)) (s:Shared) (σ:St) (H:Hp) (Q:VK),Inv X pins σ H s→t σ H Q→wpAny (model X.prog X.w) X.A (eval e X.env) (EP X pins σ Q) X.xe s
def PT (X:Cx) (e:Expr) (t:TT):Prop:=
 ∀ (pins:List (Addr×Obj)) (s:Shared) (σ:St) (H:Hp) (Q:Bool→Hp→Prop),Inv X pins σ H s→t σ H Q→wpAny (model X.prog X.w) X.A (isTrue e X.env (eval e X.env)) (TP X pins σ Q) X.xe s
def PW (X:Cx) (e:Expr) (t:TT):Prop:=
 ∀ (whole:Sem Value) (pins:List (Addr×Obj)) (s:Shared) (σ:St) (H:Hp) (Q:Bool→Hp→Prop),Inv X pins σ H s→t σ H Q→wpAny (model X.prog X.w) X.A (isTrue e X.env whole) (TP X pins σ Q) X.xe s
theorem PW.pt {X:Cx} {e:Expr} {t:TT} (h:PW X e t):PT X e t:=h _
def PA (X:Cx) (es:List Expr) (t:TA):Prop:=
 ∀ (pos:Pos) (pins:List (Addr×Obj)) (s:Shared) (σ:St) (H:Hp) (Q:List V→Hp→Prop),Inv X pins σ H s→t σ H Q→wpAny (model X.prog X.w) X.A (spliced (backTo pos (starEach es X.env))) (AP X pins σ Q) X.xe s
def PS (X:Cx) (st:Stmt) (t:TS):Prop:=
 ∀ (pins:List (Addr×Obj)) (s:Shared) (σ:St) (H:Hp) (D:m7),Inv X pins σ H s→t D σ H→wpAny (model X.prog X.w) X.A (exec st X.env) (SP X pins D) X.xe s
def PSs (X:Cx) (st:List Stmt) (t:TS):Prop:=
 ∀ (pins:List (Addr×Obj)) (s:Shared) (σ:St) (H:Hp) (D:m7),Inv X pins σ H s→t D σ H→wpAny (model X.prog X.w) X.A (execs st X.env) (SP X pins D) X.xe s
theorem thn {α:Type} {t:Sem α} {Q Q':α→Shared→Prop} {M:Model} {A:Around} {E:Value→Shared→Prop} {s:Shared} (h:wpAny M A t Q E s) (hQ:∀ a s,Q a s→Q' a s):wpAny M A t Q' E s:=wpAny_mono h hQ fun _ _ x=> x
end L2
namespace L2
open PySem PySem.Spec PyProof.Rows
section
variable {X:Cx}
def B9 (i:Nat):TE:=fun σ H Q=> ∃ v,σ[i]?=some (some v)∧Q v H
def tC (v:V):TE:=fun _ H Q=> Q v H
theorem iK {i:Nat} {x:Str} {pos:Pos} (hN:X.N[i]?=some x) (hv:Vis X.env.scope x) (hd:(x==("__debug__":Str))=false:=by decide) (hcd:(x==("__classdict__":Str))=false:=by decide):PE X (.Name x pos) (B9 i):=by
 intro pins s σ H Q I h
 obtain ⟨v,e,h⟩:=h
 obtain ⟨m,hn,hl⟩:=I.loc
 obtain ⟨u,r,l⟩:=hl i x v hN e hv
 have fin:EP X pins σ Q u s:=⟨v,H,I,r,h⟩
 rcases l with ⟨hk,hm⟩ | ⟨hk,c,hc,hcell⟩
 ·exact wpAny_Name (wpAny_loadName_local I.ok.kind hk hn hm fin) hd
 ·rcases hk with hk | hk
  ·exact wpAny_Name (wpAny_loadName_cell I.ok.kind hk hc hcell fin) hd
  ·exact wpAny_Name (wpAny_loadName_free I.ok.kind hk hc hcell fin hcd) hd
theorem Ai {i j pos}:PE X (.Constant (.int i) j pos) (tC (.int i)):=fun _ _ _ H _ I h=> wpAny_Constant_int ⟨.int i,H,I.tok _,⟨_,rfl⟩,h⟩
theorem Bo {b j pos}:PE X (.Constant (.bool b) j pos) (tC (.bl b)):=fun _ _ _ H _ I h=> Constant_bool ⟨.bl b,H,I,rfl,h⟩
theorem Aw {x j pos}:PE X (.Constant (.str x) j pos) (tC (.str x)):=fun _ _ _ H _ I h=> Calls.Constant_str ⟨.str x,H,I.tok _,⟨_,rfl⟩,h⟩
def Gl (X:Cx) (x:Str):Prop:=X.env.kindOf x=some .globalImplicit
theorem rW {E:Value→Shared→Prop} {pins:List (Addr×Obj)} {s:Shared} {σ:St} {H:Hp} {x:Str} {u:Value} {pos:Pos} {Q:Value→Shared→Prop} (I:Inv X pins σ H s) (hg:Gl X x) (hm:X.mg x=some u) (h:Q u s)
  (hd:(x==("__debug__":Str))=false:=by decide):wpAny (model X.prog X.w) X.A (eval (.Name x pos) X.env) Q E s:=
 Gq I.ok.kind hg (Calls.loadGlobal_global (by rw [I.ok.glob]; exact I.mod.glob.keeps I.bk) hm h) hd
theorem dQ {E:Value→Shared→Prop} {pins:List (Addr×Obj)} {s:Shared} {σ:St} {H:Hp} {x:Str} {u:Value} {pos:Pos} {Q:Value→Shared→Prop} (I:Inv X pins σ H s) (hg:Gl X x) (hm:X.mg x=none) (hv:bootBuiltins x=some u) (h:Q u s)
  (hn:x≠"__name__":=by decide) (hd:(x==("__debug__":Str))=false:=by decide):wpAny (model X.prog X.w) X.A (eval (.Name x pos) X.env) Q E s:=by
 obtain ⟨mb,h1,h2⟩:=I.mod.blt
 exact Gq I.ok.kind hg (Calls.loadGlobal_builtin (by rw [I.ok.glob]; exact I.mod.glob.keeps I.bk) hm (by rw [I.ok.blt]; exact h1.keeps I.bk) ((h2 x hn).trans hv) h) hd
theorem xT {x:Str} {v:V} {u:Value} {pos:Pos} (hg:Gl X x) (hm:X.mg x=none) (hv:bootBuiltins x=some u) (r:bp v u) (hn:x≠"__name__":=by decide) (hd:(x==("__debug__":Str))=false:=by decide):PE X (.Name x pos) (tC v):=
 fun _ _ _ H _ I h=> dQ I hg hm hv ⟨v,H,I,r,h⟩ hn hd
variable {a b:Expr} {ta tb:TE} {pos:Pos}
def tB (t:TE):TT:=fun σ H Q=> t σ H fun x H1=> ∃ c,x=.bl c∧Q c H1
theorem Am {e:Expr} {t:TE} (h:PE X e t) (he:∀ whole,isTrue e X.env whole=(do let v ← whole; standAt e.pos; holding [v] (truthy v)):=by intro _; rfl):PT X e (tB t):=by
 intro pins s σ H Q I hw
 refine isTrue_plain (thn (h pins s σ H _ I hw) fun v s1 ⟨x,H1,I1,r1,q1⟩=> ?_) (he _)
 obtain ⟨d,rfl,q⟩:=q1
 cases r1
 exact wpAny_truthy_bool ⟨H1,I1,q⟩
variable {tA tB':TT} {rest:List Expr}
def B_ (t u:TT):TT:=fun σ H Q=> t σ H fun c H1=> if c=true then u σ H1 Q else Q false H1
def tOr (t u:TT):TT:=fun σ H Q=> t σ H fun c H1=> if c=true then Q true H1 else u σ H1 Q
def BR (t:TT):TT:=fun σ H Q=> t σ H fun c H1=> Q (!c) H1
theorem yz (ha:PT X a tA):PW X (.BoolOp .And [a] pos) tA:=by
 intro wh pins s σ H Q I h
 refine isTrue_and (thn (ha pins s σ H Q I h) fun c s1 e=> ?_)
 cases c with
 | true=> exact isTrue_and_nil e
 | false=> exact e
theorem Au (ha:PT X a tA):PW X (.BoolOp .Or [a] pos) tA:=by
 intro wh pins s σ H Q I h
 refine isTrue_or (thn (ha pins s σ H Q I h) fun c s1 e=> ?_)
 cases c with
 | false=> exact isTrue_or_nil e
 | true=> exact e
theorem vf (ha:PT X a tA) (hb:PW X (.BoolOp .And (b::rest) pos) tB'):PW X (.BoolOp .And (a::b::rest) pos) (B_ tA tB'):=by
 intro wh pins s σ H Q I h
 refine isTrue_and (thn (ha pins s σ H _ I h) fun c s1 ⟨H1,I1,q1⟩=> ?_)
 cases c with
 | true=> exact hb wh pins s1 σ H1 Q I1 q1
 | false=> exact ⟨H1,I1,q1⟩
theorem zd (ha:PT X a tA) (hb:PW X (.BoolOp .Or (b::rest) pos) tB'):PW X (.BoolOp .Or (a::b::rest) pos) (tOr tA tB'):=by
 intro wh pins s σ H Q I h
 refine isTrue_or (thn (ha pins s σ H _ I h) fun c s1 ⟨H1,I1,q1⟩=> ?_)
 cases c with
 | true=> exact ⟨H1,I1,q1⟩
 | false=> exact hb wh pins s1 σ H1 Q I1 q1
theorem zN (ha:PT X a tA):PT X (.UnaryOp .Not a pos) (BR tA):=by
 intro pins s σ H Q I h
 exact isTrue_not (ha pins s σ H (fun c H1=> Q (!c) H1) I h)
def A_ (ta tb:TE):TE:=fun σ H Q=> ta σ H fun x H1=> ∃ c,x=.bl c∧if c=true then tb σ H1 Q else Q (.bl false) H1
def Bm (ta:TE):TE:=fun σ H Q=> ta σ H fun x H1=> ∃ c,x=.bl c∧Q (.bl (!c)) H1
theorem AM {op} {t:TE} (h:PE X a t):PE X (.BoolOp op [a] pos) t:=fun pins s σ H Q I hw=> BoolOp_one (h pins s σ H Q I hw)
theorem vh (ha:PE X a ta) (hb:PE X (.BoolOp .And (b::rest) pos) tb):PE X (.BoolOp .And (a::b::rest) pos) (A_ ta tb):=by
 intro pins s σ H Q I h
 refine BoolOp_and (thn (ha pins s σ H _ I h) fun v s1 ⟨x,H1,I1,r1,q1⟩=> ?_)
 obtain ⟨c,rfl,q1⟩:=q1
 cases r1
 refine wpAny_truthy_bool ?_
 cases c with
 | true=> exact hb pins s1 σ H1 Q I1 q1
 | false=> exact ⟨.bl false,H1,I1,rfl,q1⟩
theorem zL (ha:PE X a ta):PE X (.UnaryOp .Not a pos) (Bm ta):=by
 intro pins s σ H Q I h
 refine UnaryOp_ (thn (ha pins s σ H _ I h) fun v s1 ⟨x,H1,I1,r1,q1⟩=> ?_)
 obtain ⟨c,rfl,q1⟩:=q1
 cases r1
 exact not_of (wpAny_truthy_bool ⟨.bl (!c),H1,I1,rfl,q1⟩)
def tIf (t:TT) (ta tb:TE):TE:=fun σ H Q=> t σ H fun c H1=> if c=true then ta σ H1 Q else tb σ H1 Q
theorem nB {c:Expr} (hc:PT X c tA) (ha:PE X a ta) (hb:PE X b tb):PE X (.IfExp c a b pos) (tIf tA ta tb):=by
 intro pins s σ H Q I h
 refine wpAny_IfExp (thn (hc pins s σ H _ I h) fun d s1 ⟨H1,I1,q1⟩=> ?_)
 cases d with
 | true=> exact ha pins s1 σ H1 Q I1 q1
 | false=> exact hb pins s1 σ H1 Q I1 q1
end
end L2
namespace L2
open PySem PySem.Spec PyProof.Rows
def SqL (K:Cn) (H:Hp) (a:Addr) (xs:List V):Prop:=
 Rd H a (.lst xs)∨
  ∃ (o:Obj) (its:Array Value) (n:Nat),K.lookup a=some o∧o.cls=.type "list"∧o.dict=none∧o.data=.seq its n∧its.size≤sizeLine∧aY xs its.toList
def SqT (K:Cn) (H:Hp) (a:Addr) (xs:List V):Prop:=
 Rd H a (.tup xs)∨
  ∃ (o:Obj) (its:Array Value) (n:Nat),K.lookup a=some o∧o.cls=.type "tuple"∧o.data=.seq its n∧its.size≤sizeLine∧aY xs its.toList
def B1:Value→Option V
 | .none=> some .non
 | .bool b=> some (.bl b)
 | .int i _=> some (.int i)
 | .str x _=> some (.str x)
 | .bytes b _=> some (.byt b)
 | .float b _=> some (.flt b)
 | .ref a=> some (.ref a)
 | .type n=> some (.ty n)
 | _=> none
theorem bp.abs {x:V} {u:Value} (r:bp x u):B1 u=some x:=by
 cases x with
 | non=> cases r; rfl
 | bl _=> cases r; rfl
 | int _=> obtain ⟨t,rfl⟩:=r; rfl
 | str _=> obtain ⟨t,rfl⟩:=r; rfl
 | byt _=> obtain ⟨t,rfl⟩:=r; rfl
 | flt _=> obtain ⟨t,rfl⟩:=r; rfl
 | ref _=> cases r; rfl
 | ty _=> cases r; rfl
theorem bp.inj {x y:V} {u:Value} (r:bp x u) (q:bp y u):x=y:=Dg (r.abs.symm.trans q.abs)
theorem aY.inj:∀ {xs ys:List V} {us:List Value},aY xs us→aY ys us→xs=ys
 | _,_,_,.nil,.nil=> rfl
 | _,_,_,.cons r t,.cons r' t'=> by rw [r.inj r',aY.inj t t']
section
variable {X:Cx} {pins:List (Addr×Obj)} {σ:St} {H:Hp} {s:Shared} {a:Addr} {xs ys:List V}
theorem SqL.of {K:Cn} (h:H a=some (.lst xs)):SqL K H a xs:=.inl (.inl h)
theorem SqT.of {K:Cn} (h:H a=some (.tup xs)):SqT K H a xs:=.inl (.inl h)
theorem Inv.list (I:Inv X pins σ H s) (h:SqL X.K H a xs):∃ its:List Value,aY xs its∧PlainL s.heap a its.toArray∧xs.length≤sizeLine:=by
 rcases h with h | ⟨o,its,n,hk,hc,hd,hs,hz,r⟩
 ·obtain ⟨z,its,n,r,e⟩:=h.ok I.hok
  exact ⟨its,r,⟨_,n,e,rfl,rfl,rfl⟩,z⟩
 ·refine ⟨its.toList,r,⟨o,n,I.kIn a o hk,hc,hd,by simpa using hs⟩,?_⟩
  have e:=r.length
  simp only [CV] at e
  omega
theorem Inv.tuple (I:Inv X pins σ H s) (h:SqT X.K H a xs):∃ its:List Value,aY xs its∧IsTup s.heap a its.toArray∧xs.length≤sizeLine:=by
 rcases h with h | ⟨o,its,n,hk,hc,hs,hz,r⟩
 ·obtain ⟨z,its,r,p⟩:=h.ok I.hok
  exact ⟨its,r,p,z⟩
 ·refine ⟨its.toList,r,⟨o,I.kIn a o hk,hc,n,by simpa using hs⟩,?_⟩
  have e:=r.length
  simp only [CV] at e
  omega
theorem Inv.list_inj (I:Inv X pins σ H s) (h:SqL X.K H a xs) (h':SqL X.K H a ys):xs=ys:=by
 obtain ⟨its,r,⟨o,n,e,_,_,d⟩,_⟩:=I.list h
 obtain ⟨its',r',⟨o',n',e',_,_,d'⟩,_⟩:=I.list h'
 rw [e] at e'; cases e'
 rw [d] at d'
 injection d' with d1 _
 have:its=its':=by simpa using congrArg Jh d1
 subst this
 exact r.inj r'
theorem Inv.tuple_inj (I:Inv X pins σ H s) (h:SqT X.K H a xs) (h':SqT X.K H a ys):xs=ys:=by
 obtain ⟨its,r,⟨o,e,_,n,d⟩,_⟩:=I.tuple h
 obtain ⟨its',r',⟨o',e',_,n',d'⟩,_⟩:=I.tuple h'
 rw [e] at e'; cases e'
 rw [d] at d'
 injection d' with d1 _
 have:its=its':=by simpa using congrArg Jh d1
 subst this
 exact r.inj r'
end
abbrev Cx.wish (X:Cx) (E:Value→Shared→Prop):Cx:={ X with xe:=E }
abbrev Cx.nox (X:Cx):Cx:=X.wish fun _ _=> False
theorem Cx.Ok.wish {X:Cx} (ok:X.Ok) (E:Value→Shared→Prop):(X.wish E).Ok:=
 ⟨ok.mod,ok.kind,ok.glob,ok.blt,ok.above,ok.inj,ok.has,ok.cab,ok.hd,ok.frames,ok.stk,ok.exf,ok.bs,ok.bsz,ok.noex,ok.exfs,ok.funs,ok.frf⟩
theorem Cx.Ok.unwish {X:Cx} {E:Value→Shared→Prop} (ok:(X.wish E).Ok):X.Ok:=
 ⟨ok.mod,ok.kind,ok.glob,ok.blt,ok.above,ok.inj,ok.has,ok.cab,ok.hd,ok.frames,ok.stk,ok.exf,ok.bs,ok.bsz,ok.noex,ok.exfs,ok.funs,ok.frf⟩
section
variable {X:Cx} {pins:List (Addr×Obj)} {σ:St} {H:Hp} {s:Shared} {E:Value→Shared→Prop}
theorem Inv.wish (I:Inv X pins σ H s) (E:Value→Shared→Prop):Inv (X.wish E) pins σ H s:=⟨I.ok.wish E,I.os,I.bare,I.base,I.loc,I.cell,I.free,I.freeC,I.pin,I.hok,I.len⟩
theorem Inv.unwish (I:Inv (X.wish E) pins σ H s):Inv X pins σ H s:=⟨I.ok.unwish,I.os,I.bare,I.base,I.loc,I.cell,I.free,I.freeC,I.pin,I.hok,I.len⟩
theorem SP.unwish {D:m7} {f:Flow} {s':Shared} (h:SP (X.wish E) pins D f s'):SP X pins D f s':=by
 cases f with
 | next=> obtain ⟨σ',H',I,q⟩:=h; exact ⟨σ',H',I.unwish,q⟩
 | brk=> obtain ⟨σ',H',I,q⟩:=h; exact ⟨σ',H',I.unwish,q⟩
 | cont=> obtain ⟨σ',H',I,q⟩:=h; exact ⟨σ',H',I.unwish,q⟩
 | ret u=> obtain ⟨v,σ',H',I,r,q⟩:=h; exact ⟨v,σ',H',I.unwish,r,q⟩
theorem PSs.nox {st:List Stmt} {t:TS} (h:PSs X.nox st t):PSs X st t:=fun pins s σ H D I hw=>
 wpAny_mono (h pins s σ H D (I.wish _) hw) (fun _ _ q=> q.unwish) fun _ _ z=> False.elim z
end
section
variable {X:Cx} {st:Stmt} {rest:List Stmt} {t u:TS} {e:Expr} {te:TE} {pos:Pos}
def Br:TS:=fun D σ H=> D.nx σ H
def BX (t u:TS):TS:=fun D σ H=> t { D with nx:=u D } σ H
theorem xL:PSs X [] Br:=fun _ _ σ H _ I h=> wpAny_execs_nil ⟨σ,H,I,h⟩
theorem uO (h1:PS X st t) (h2:PSs X rest u):PSs X (st::rest) (BX t u):=by
 intro pins s σ H D I h
 refine wpAny_execs_cons (thn (h1 pins s σ H { D with nx:=u D } I h) fun f s1 q=> ?_)
 cases f with
 | next=>
  obtain ⟨σ',H',I',q⟩:=q
  exact h2 pins s1 σ' H' D I' q
 | ret v=> exact q
 | brk=> exact q
 | cont=> exact q
theorem Inv.quiet {pins:List (Addr×Obj)} {σ:St} {H:Hp} {s:Shared} (I:Inv X pins σ H s):interactive X.env=false:=by simp [interactive,I.ok.kind]
def A6 (te:TE):TS:=fun D σ H=> te σ H fun _ H1=> D.nx σ H1
theorem jo (he:PE X e te) (hs:swapsWith e none pos.line X.env=pure false:=by rfl):PS X (.Expr e pos) (A6 te):=by
 intro pins s σ H D I h
 exact wpAny_Expr_any (thn (he pins s σ H _ I h) fun v s1 ⟨x,H1,I1,r1,q1⟩=> ⟨σ,H1,I1,q1⟩) I.quiet hs
def BT (te:TE):TS:=fun D σ H=> te σ H D.rt
theorem pj (he:PE X e te):PS X (.Return (some e) pos) (BT te):=by
 intro pins s σ H D I h
 exact wpAny_Return_some (thn (he pins s σ H _ I h) fun v s1 ⟨x,H1,I1,r1,q1⟩=> ⟨x,σ,H1,I1,r1,q1⟩)
def Ci (c:TT) (t u:TS):TS:=fun D σ H=> c σ H fun b H1=> if b=true then t D σ H1 else u D σ H1
theorem zy {c:Expr} {a b:List Stmt} {tc:TT} (hc:PT X c tc) (ha:PSs X a t) (hb:PSs X b u):PS X (.If c a b pos) (Ci tc t u):=by
 intro pins s σ H D I h
 refine wpAny_If (thn (hc pins s σ H _ I h) fun d s1 ⟨H1,I1,q1⟩=> ?_)
 cases d with
 | true=> exact ha pins s1 σ H1 D I1 q1
 | false=> exact hb pins s1 σ H1 D I1 q1
end
abbrev TG:=V→St→Hp→(St→Hp→Prop)→Prop
abbrev TGs:=List V→St→Hp→(St→Hp→Prop)→Prop
def PG (X:Cx) (target:Expr) (t:TG):Prop:=
 ∀ (pins:List (Addr×Obj)) (s:Shared) (σ:St) (H:Hp) (v:V) (u:Value) (Q:St→Hp→Prop),Inv X pins σ H s→bp v u→t v σ H Q→
  wpAny (model X.prog X.w) X.A (assign target X.env u) (fun _ s'=> ∃ σ' H',Inv X pins σ' H' s'∧Q σ' H') X.xe s
def PGs (X:Cx) (ts:List Expr) (t:TGs):Prop:=
 ∀ (pins:List (Addr×Obj)) (s:Shared) (σ:St) (H:Hp) (vs:List V) (us:List Value) (Q:St→Hp→Prop),Inv X pins σ H s→aY vs us→t vs σ H Q→
  wpAny (model X.prog X.w) X.A (assignInOrder ((assignEach ts X.env).map (·.2)) us) (fun _ s'=> ∃ σ' H',Inv X pins σ' H' s'∧Q σ' H') X.xe s
abbrev TIp:=V→V→Hp→VK→Prop
def PIp (X:Cx) (op:Operator) (t:TIp):Prop:=
 ∀ (pins:List (Addr×Obj)) (s:Shared) (σ:St) (H:Hp) (x y:V) (v u:Value) (Q:VK),Inv X pins σ H s→bp x v→bp y u→t x y H Q→
  wpAny (model X.prog X.w) X.A (inplaceOp op v u) (EP X pins σ Q) X.xe s
section
variable {X:Cx} {pos:Pos}
def kW (i:Nat):TG:=fun v σ H Q=> Q (σ.set i (some v)) H
theorem aT {i:Nat} {x:Str} (hN:X.N.Nodup) (hi:X.N[i]?=some x) (hx:Loc X.env.scope x) (hf:X.fn x=true∨X.env.scope.names.lookup x=some .local:=by first | exact .inl rfl | exact .inr rfl | assumption):PG X (.Name x pos) (kW i):=by
 intro pins s σ H v u Q I r h
 exact wpAny_assign_Name (fS I hN hi hx r (fun s' I'=> ⟨_,H,I',h⟩) hf)
def Bk:TGs:=fun vs σ H Q=> vs=[]∧Q σ H
def y6 (t:TG) (u:TGs):TGs:=fun vs σ H Q=> ∃ v r,vs=v::r∧t v σ H fun σ' H'=> u r σ' H' Q
theorem cO:PGs X [] Bk:=by
 intro pins s σ H vs us Q I r h
 obtain ⟨e,h⟩:=h
 subst e
 cases r
 exact assignInOrder_nil ⟨σ,H,I,h⟩
theorem aW {e:Expr} {es:List Expr} {t:TG} {u:TGs} (h1:PG X e t) (h2:PGs X es u)
  (hs:(assignEach (e::es) X.env).map (·.2)=assign e X.env::(assignEach es X.env).map (·.2):=by rfl):PGs X (e::es) (y6 t u):=by
 intro pins s σ H vs us Q I r h
 obtain ⟨v,vr,e1,h⟩:=h
 subst e1
 cases r with
 | cons r rr=>
  rw [hs]
  refine assignInOrder_cons (thn (h1 pins s σ H _ _ _ I r h) fun _ s1 ⟨σ1,H1,I1,q1⟩=> ?_)
  exact h2 pins s1 σ1 H1 _ _ Q I1 rr q1
def AZ (K:Cn) (n:Nat) (t:TGs):TG:=fun v σ H Q=> ∃ a xs,v=.ref a∧SqT K H a xs∧xs.length=n∧t xs σ H Q
theorem eQ {es:List Expr} {k:Nat} {t:TGs} {n:Nat} (hc:X.calm=true) (h:PGs X es t)
  (hn:(assignEach es X.env).length=n:=by rfl) (hst:(assignEach es X.env).findIdx? (·.1)=none:=by rfl):PG X (.Tuple es k pos) (AZ X.K n t):=by
 intro pins s σ H v u Q I r hw
 obtain ⟨a,xs,e1,hq,hl,hw⟩:=hw
 subst e1
 cases r
 obtain ⟨its,rv,ht,hz⟩:=I.tuple hq
 refine assign_Tuple_tuple (I.ok.hd hc) ht (by simp [hn,← hl,rv.length]) hst fun h' hx=> ?_
 have I1:Inv X pins σ H { s with heap:=h' }:=I.kept (t':=s.toks) fun b o e=> hx b o (C1 (Cw e)) e
 exact h pins _ σ H xs _ Q I1 (by simpa using rv) hw
def yP (te:TE) (g:TG):TS:=fun D σ H=> te σ H fun x H1=> g x σ H1 D.nx
theorem zS {tg e:Expr} {te:TE} {g:TG} (he:PE X e te) (hg:PG X tg g) (hs:swapsWithSole [tg] e pos.line X.env=pure false:=by rfl) (hw:swappedStores [tg] e X.env=pure none:=by rfl)
  (h1:(assignEach [tg] X.env).map (·.2)=[assign tg X.env]:=by rfl):PS X (.Assign [tg] e pos) (yP te g):=by
 intro pins s σ H D I h
 refine wpAny_Assign_stores (thn (he pins s σ H _ I h) fun v s1 ⟨x,H1,I1,r1,q1⟩=> ?_) hs hw
 rw [h1]
 exact thn (hg pins s1 σ H1 x v _ I1 r1 q1) fun _ s2 q=> q
theorem ux {i:Nat} {x:Str} {e:Expr} {te:TE} {pos':Pos} (hN:X.N.Nodup) (hi:X.N[i]?=some x) (hx:Loc X.env.scope x) (he:PE X e te) (hs:swapsWith e (some (.Name x pos')) pos.line X.env=pure false:=by rfl) (hf:X.fn x=true∨X.env.scope.names.lookup x=some .local:=by first | exact .inl rfl | exact .inr rfl | assumption):
  PS X (.Assign [.Name x pos'] e pos) (yP te (kW i)):=by
 intro pins s σ H D I h
 refine wpAny_Assign_Name (thn (he pins s σ H _ I h) fun v s1 ⟨y,H1,I1,r1,q1⟩=> ?_) hs
 exact fS I1 hN hi hx r1 (fun s2 I2=> ⟨_,H1,I2,q1⟩) hf
def BW (i j:Nat) (ta:TA):TS:=fun D σ H=> ta σ H fun vs H1=> ∃ v w,vs=[v,w]∧D.nx ((σ.set i (some v)).set j (some w)) H1
theorem AY {i j:Nat} {x y:Str} {a b:Expr} {ta:TA} {px py pt:Pos} {kt k2 pt2} (hc:X.calm=true) (hN:X.N.Nodup) (hi:X.N[i]?=some x) (hj:X.N[j]?=some y) (hij:i≠j)
  (hx:X.env.scope.names.lookup x=some .local) (hy:X.env.scope.names.lookup y=some .local) (ha:PA X [a,b] ta)
  (hw:swappedStores [.Tuple [.Name x px,.Name y py] kt pt] (.Tuple [a,b] k2 pt2) X.env=pure (some [x,y]))
  (hs:swapsWithSole [.Tuple [.Name x px,.Name y py] kt pt] (.Tuple [a,b] k2 pt2) pos.line X.env=pure false:=by rfl):
  PS X (.Assign [.Tuple [.Name x px,.Name y py] kt pt] (.Tuple [a,b] k2 pt2) pos) (BW i j ta):=by
 intro pins s σ H D I h
 rw [exec_Assign_arm]
 refine wpAny_bind (wpAny_standAt ?_)
 rw [hs]
 refine wpAny_bind (wpAny_pure ?_)
 rw [if_neg (by decide)]
 refine wpAny_bind (Tuple_ (thn (ha _ pins s σ H _ I h) fun us s1 ⟨vs,H1,I1,r1,q1⟩=> ?_))
 obtain ⟨v,w,e1,q1⟩:=q1
 subst e1
 obtain ⟨u1,u2,rfl,rv,rw'⟩:∃ u1 u2,us=[u1,u2]∧bp v u1∧bp w u2:=by
  cases r1 with
  | cons p q=>
   cases q with
   | cons p' q'=>
    cases q'
    exact ⟨_,_,rfl,p,p'⟩
 refine wpAny_newObj_type ?_ (by show 2≤sizeLine; decide)
 have I2:Inv X pins σ H1 { s1 with heap:=s1.heap.push { cls:=.type "tuple",data:=.seq [u1,u2].toArray } }:=I1.kept (t':=s1.toks) fun b o e=> Cq _ e
 rw [hw]
 refine wpAny_bind (wpAny_pure ?_)
 show wpAny (model X.prog X.w) X.A (do rule "assign.swapped-stores"; let items ← unpackItems (.ref s1.heap.objs.size) 2 none; assignInOrder [fun v=> bindName X.env y v,fun v=> bindName X.env x v] items.reverse; pure Flow.next) _ _ _
 refine wpAny_bind (wpAny_rule (wpAny_bind (unpackItems_tuple (items:=#[u1,u2]) (I.ok.hd hc) (IsTup.new s1.heap _) fun h' hx'=> ?_)))
 have I3:=I2.kept (h':=h') (t':=s1.toks) fun b o e=> hx' b o (C1 (Cw e)) e
 show wpAny _ _ (assignInOrder [fun v=> bindName X.env y v,fun v=> bindName X.env x v] [u2,u1] >>=fun _=> pure Flow.next) _ _ _
 refine wpAny_bind (assignInOrder_cons (wpAny_bindName (fS I3 hN hj (.inl hy) rw' (fun s2 I4=> ?_) (.inr hy))))
 refine assignInOrder_cons (wpAny_bindName (fS I4 hN hi (.inl hx) rv (fun s3 I5=> assignInOrder_nil (wpAny_pure ?_)) (.inr hx)))
 rw [List.set_comm _ _ (Ne.symm hij)] at I5
 exact ⟨_,H1,I5,q1⟩
def BS (i:Nat) (te:TE) (ti:TIp):TS:=fun D σ H=> ∃ x,σ[i]?=some (some x)∧te σ H fun y H1=> ti x y H1 fun z H2=> D.nx (σ.set i (some z)) H2
theorem zT {i:Nat} {x:Str} {e:Expr} {te:TE} {op:Operator} {ti:TIp} {pos':Pos} (hN:X.N.Nodup) (hi:X.N[i]?=some x) (hx:Loc X.env.scope x) (he:PE X e te) (ho:PIp X op ti) (hf:X.fn x=true∨X.env.scope.names.lookup x=some .local:=by first | exact .inl rfl | exact .inr rfl | assumption):
  PS X (.AugAssign (.Name x pos') op e pos) (BS i te ti):=by
 intro pins s σ H D I h
 obtain ⟨v,e1,h⟩:=h
 obtain ⟨m,hn,hl⟩:=I.loc
 have vis:Vis X.env.scope x:=by rcases hx with k | k; exact .inl k; exact .inr (.inl k)
 obtain ⟨u,r,l⟩:=hl i x v hi e1 vis
 refine wpAny_AugAssign_Name ?_
 have go:wpAny (model X.prog X.w) X.A (eval e X.env) (fun w s₂=> wpAny (model X.prog X.w) X.A (inplaceOp op u w) (fun r s₃=> wpAny (model X.prog X.w) X.A (storeName X.env x r) (fun _=> SP X pins D .next) X.xe s₃) X.xe s₂) X.xe s:=by
  refine thn (he pins s σ H _ I h) fun w s1 ⟨y,H1,I1,r1,q1⟩=> ?_
  refine thn (ho pins s1 σ H1 v y u w _ I1 r r1 q1) fun z s2 ⟨zv,H2,I2,r2,q2⟩=> ?_
  exact fS I2 hN hi hx r2 (fun s3 I3=> ⟨_,H2,I3,q2⟩) hf
 rcases l with ⟨hk,hm⟩ | ⟨hk,c,hc,hcell⟩
 ·exact wpAny_loadName_local I.ok.kind hk hn hm go
 ·rcases hk with hk | hk
  ·exact wpAny_loadName_cell I.ok.kind hk hc hcell go
  ·rcases hx with k | k
   ·have:X.env.scope.names.lookup x=some .free:=hk
    rw [k] at this; cases this
   ·have:X.env.scope.names.lookup x=some .free:=hk
    rw [k] at this; cases this
def ipI (f:Int→Int→Int):TIp:=fun x y H Q=> ∃ i j,x=.int i∧y=.int j∧Q (.int (f i j)) H
theorem Ao:PIp X .Add (ipI fun i j=> i+j):=by
 intro pins s σ H x y v u Q I r1 r2 h
 obtain ⟨i,j,e1,e2,q⟩:=h
 subst e1; subst e2
 obtain ⟨t,rfl⟩:=r1
 obtain ⟨t',rfl⟩:=r2
 exact iadd_int ⟨.int _,H,I.tok _,⟨_,rfl⟩,q⟩
end
section
variable {X:Cx} {pos:Pos}
def Av (c:TT) (tb:TS):TS:=fun D σ H=> ∃ W:Nat→St→Hp→Prop,(∃ m,W m σ H)∧∀ m σ H,W m σ H→
 c σ H fun b H1=> if b=true then ∃ N:St→Hp→Prop,(∀ σ' H',N σ' H'→∃ m',m' < m∧W m' σ' H')∧tb { D with nx:=N,ct:=N,bk:=D.nx } σ H1 else D.nx σ H1
theorem vF {c:Expr} {body:List Stmt} {tc:TT} {tb:TS} (hp:PassesOwn (model X.prog X.w) X.A X.env X.xe) (hc:PT X c tc) (hb:PSs X body tb):PS X (.While c body [] pos) (Av tc tb):=by
 intro pins s σ H D I h
 obtain ⟨W,⟨m0,w0⟩,turn⟩:=h
 refine wpAny_While (codeAny_whileLoop (fun n s'=> ∃ σ' H',Inv X pins σ' H' s'∧W n σ' H') ?_ m0 ⟨σ,H,I,w0⟩)
 rintro n s1 ⟨σ1,H1,I1,w1⟩
 refine wpAny_passesOwn hp (thn (hc pins s1 σ1 H1 _ I1 (turn n σ1 H1 w1)) fun b s2 ⟨H2,I2,q2⟩=> ?_)
 cases b with
 | true=>
  obtain ⟨N,hN,q2⟩:=q2
  rw [if_pos rfl]
  refine wpAny_passesOwn hp (thn (hb pins s2 σ1 H2 _ I2 q2) fun f s3 q3=> ?_)
  cases f with
  | next=>
   obtain ⟨σ3,H3,I3,n3⟩:=q3
   obtain ⟨m',hm,w3⟩:=hN σ3 H3 n3
   exact ⟨m',hm,σ3,H3,I3,w3⟩
  | cont=>
   obtain ⟨σ3,H3,I3,n3⟩:=q3
   obtain ⟨m',hm,w3⟩:=hN σ3 H3 n3
   exact ⟨m',hm,σ3,H3,I3,w3⟩
  | brk=> exact q3
  | ret v=> exact q3
 | false=>
  rw [if_neg C0]
  exact wpAny_execs_nil ⟨σ1,H2,I2,q2⟩
end
structure It where
 go:Nat→Hp→Prop
 yld:Nat→Hp→V→Hp→Prop
 stop:Nat→Hp→Prop
def jF (X:Cx) (pins:List (Addr×Obj)) (H:Hp) (b:Addr):Prop:=
 H b=none∧b≠X.env.locals∧b ∉ X.fs∧(b∈X.ex∨X.s₀.heap.objs.size≤b)∧(∀ x c,X.env.cells.lookup x=some c→c≠b)∧∀ p∈X.pn++pins,p.1≠b
theorem Inv.fpOk {X:Cx} {pins:List (Addr×Obj)} {σ:St} {H H':Hp} {s:Shared} {b:Addr} (I:Inv X pins σ H s) (hb:s.heap.objs.size≤b) (hn:H' b=none):jF X pins H' b:=by
 refine ⟨hn,Gy (C5 I.lt hb),I.nofs hb,.inr (DK I.sz hb),fun x c e z=> ?_,fun p hp z=> ?_⟩
 ·obtain ⟨v,q⟩:=I.cell x c e
  exact absurd (C5 q.lt (by rw [z]; exact hb)) (Dh _)
 ·exact absurd (C5 (Cw (I.pin p hp).1) (by rw [z]; exact hb)) (Dh _)
structure vc (P:Program) (w:World) (K:Cn) (tg:Expr) (J:It) (fp:List Addr) (it:Addr) (tn:Nat→Heap→Prop):Prop where
 mem:it∈fp
 obj:∀ i h,tn i h→∀ b∈fp,∃ o,h.get? b=some o∧∀ v,o.data≠.cell v
 keep:∀ i h h',tn i h→(∀ b∈fp,∀ o,h.get? b=some o→h'.get? b=some o)→tn i h'
 item:∀ (X:Cx),X.prog=P→X.w=w→X.K=K→X.calm=true→∀ (i:Nat) (pins:List (Addr×Obj)) (s:Shared) (σ:St) (H:Hp) (E:Value→Shared→Prop),Inv X pins σ H s→(∀ b∈fp,jF X pins H b)→tn i s.heap→J.go i H→
  wpAny (model P w) X.A (pyNext (.ref it)) (fun r s1=> ∃ u,r=some u∧
   wpAny (model P w) X.A (letOwnedTupleGo tg (.ref it) u) (fun _ s2=> ∃ x H',Inv X pins σ H' s2∧bp x u∧J.yld i H x H'∧tn (i+1) s2.heap∧∀ b∈fp,H' b=none) E s1) E s
 done:∀ (X:Cx),X.prog=P→X.w=w→X.K=K→X.calm=true→∀ (i:Nat) (pins:List (Addr×Obj)) (s:Shared) (σ:St) (H:Hp) (E:Value→Shared→Prop),Inv X pins σ H s→(∀ b∈fp,jF X pins H b)→tn i s.heap→J.stop i H→
  wpAny (model P w) X.A (pyNext (.ref it)) (fun r s1=> r=none∧Inv X pins σ H s1) E s
 self:∀ (A:Around) (i:Nat) (s:Shared) (Q:Value→Shared→Prop) (E:Value→Shared→Prop),tn i s.heap→Q (.ref it) s→wpAny (model P w) A (pyIter (.ref it)) Q E s
abbrev TI:=St→Hp→(It→Hp→Prop)→Prop
def PIE (X:Cx) (pins:List (Addr×Obj)) (σ:St) (tg:Expr) (R:It→Hp→Prop) (itv:Value) (s2:Shared):Prop:=
 ∃ (it:Addr) (fp:List Addr) (tn:Nat→Heap→Prop) (J:It) (H':Hp),itv=.ref it∧Inv X pins σ H' s2∧vc X.prog X.w X.K tg J fp it tn∧tn 0 s2.heap∧(∀ b∈fp,jF X pins H' b)∧R J H'
def PI (X:Cx) (tg iter:Expr) (wi:TI):Prop:=
 ∀ (pins:List (Addr×Obj)) (s:Shared) (σ:St) (H:Hp) (R:It→Hp→Prop),Inv X pins σ H s→wi σ H R→
  wpAny (model X.prog X.w) X.A (eval iter X.env) (fun v s1=> wpAny (model X.prog X.w) X.A (pyIter v) (PIE X pins σ tg R) X.xe s1) X.xe s
theorem qX {M:Model} {A:Around} {E:Value→Shared→Prop} {s:Shared} {tg:Expr} {it:Addr} {u:Value} {o:Obj} {n:String} {vs:Array Value} {Q:Unit→Shared→Prop} (ho:s.heap.get? it=some o) (hc:o.cls=.type n) (hd:o.data=.fields vs)
  (hn:["enumerate","zip","dict_itemiterator","dict_reverseitemiterator","odict_iterator","itertools.zip_longest","itertools.pairwise"].contains n=false) (hQ:Q () s):wpAny M A (letOwnedTupleGo tg (.ref it) u) Q E s:=by
 unfold letOwnedTupleGo
 cases tg <;> first
  | exact wpAny_pure hQ
  | (cases u <;> first
    | exact wpAny_pure hQ
    | (refine wpAny_bind (wpAny_load ho ?_)
       rw [hc,hd]
       show wpAny M A (if (["enumerate","zip","dict_itemiterator","dict_reverseitemiterator","odict_iterator","itertools.zip_longest","itertools.pairwise"].contains n && vs[0]?==some (rawInt _))=true then _ else _) Q E s
       rw [if_neg (by intro h; rw [hn,Bool.false_and] at h; cases h)]
       exact wpAny_pure hQ))
def Itl (K:Cn) (a:Addr):It:=
 ⟨fun i H=> ∃ xs x,SqL K H a xs∧xs[i]?=some x,fun i H x H'=> H'=H∧∀ xs,SqL K H a xs→xs[i]?=some x,fun i H=> ∃ xs,SqL K H a xs∧xs.length≤i⟩
def Itt (K:Cn) (a:Addr):It:=
 ⟨fun i H=> ∃ xs x,SqT K H a xs∧xs[i]?=some x,fun i H x H'=> H'=H∧∀ xs,SqT K H a xs→xs[i]?=some x,fun i H=> ∃ xs,SqT K H a xs∧xs.length≤i⟩
def Itr (lo:Int) (n:Nat):It:=⟨fun i _=> i < n,fun i H x H'=> H'=H∧x=.int (lo+i),fun i _=> n≤i⟩
theorem sR {P:Program} {w:World} {K:Cn} {tg:Expr} (a it:Addr):vc P w K tg (Itl K a) [it] it (fun i h=> h.IsListIter it a i) where
 mem:=by simp
 obj:=fun i h st b hb=> by
  have e:b=it:=by simpa using hb
  subst e
  obtain ⟨o,e,c,d⟩:=st
  exact ⟨o,e,fun v z=> by rw [d] at z; cases z⟩
 keep:=fun i h h' st k=> st.at fun o e=> k it (by simp) o e
 item:=by
  intro X hP hw hK hc i pins s σ H E I hf st hg
  subst hP hw hK
  obtain ⟨xs,x,hq,hx⟩:=hg
  obtain ⟨its,rv,p,hz⟩:=I.list hq
  obtain ⟨u,hu,ru⟩:=rv.get hx
  obtain ⟨f0,f1,f2,f3,f4,f5⟩:=hf it (by simp)
  refine wpAny_pyNext_list_item st p.isList (x:=u) (by simpa using hu) fun h' st' sb=> ?_
  have I1:Inv X pins σ H { s with heap:=h' }:=I.turned (t':=s.toks) (fun b o hb e=> (sb.2 b hb).trans e) f0 f1 f3 f4 f5
  obtain ⟨o,e,c,d⟩:=id st'
  exact ⟨u,rfl,qX (s:={ s with heap:=h' }) e c d (by decide) ⟨x,H,I1,ru,⟨rfl,fun ys hy=> by rw [I.list_inj hy hq]; exact hx⟩,st',fun b hb=> (hf b hb).1⟩⟩
 done:=by
  intro X hP hw hK hc i pins s σ H E I hf st hg
  subst hP hw hK
  obtain ⟨xs,hq,hx⟩:=hg
  obtain ⟨its,rv,p,hz⟩:=I.list hq
  obtain ⟨f0,f1,f2,f3,f4,f5⟩:=hf it (by simp)
  have hl:=rv.length
  exact wpAny_pyNext_list_end (I.ok.hd hc) st p.isList (by simp; omega) fun h' eb=> ⟨rfl,I.turned (t':=s.toks) (fun b o hb e=> eb b o hb e) f0 f1 f3 f4 f5⟩
 self:=fun _ _ _ _ _ st h=> wpAny_pyIter_listiter st h
theorem p_ {P:Program} {w:World} {K:Cn} {tg:Expr} (a it:Addr):vc P w K tg (Itt K a) [it] it (fun i h=> h.IsTupleIter it a i) where
 mem:=by simp
 obj:=fun i h st b hb=> by
  have e:b=it:=by simpa using hb
  subst e
  obtain ⟨o,e,c,d⟩:=st
  exact ⟨o,e,fun v z=> by rw [d] at z; cases z⟩
 keep:=fun i h h' st k=> st.at fun o e=> k it (by simp) o e
 item:=by
  intro X hP hw hK hc i pins s σ H E I hf st hg
  subst hP hw hK
  obtain ⟨xs,x,hq,hx⟩:=hg
  obtain ⟨its,rv,p,hz⟩:=I.tuple hq
  obtain ⟨u,hu,ru⟩:=rv.get hx
  obtain ⟨f0,f1,f2,f3,f4,f5⟩:=hf it (by simp)
  refine wpAny_pyNext_tuple_item st (show s.heap.IsTuple a its.toArray from p) (x:=u) (by simpa using hu) fun h' st' sb=> ?_
  have I1:Inv X pins σ H { s with heap:=h' }:=I.turned (t':=s.toks) (fun b o hb e=> (sb.2 b hb).trans e) f0 f1 f3 f4 f5
  obtain ⟨o,e,c,d⟩:=id st'
  exact ⟨u,rfl,qX (s:={ s with heap:=h' }) e c d (by decide) ⟨x,H,I1,ru,⟨rfl,fun ys hy=> by rw [I.tuple_inj hy hq]; exact hx⟩,st',fun b hb=> (hf b hb).1⟩⟩
 done:=by
  intro X hP hw hK hc i pins s σ H E I hf st hg
  subst hP hw hK
  obtain ⟨xs,hq,hx⟩:=hg
  obtain ⟨its,rv,p,hz⟩:=I.tuple hq
  obtain ⟨f0,f1,f2,f3,f4,f5⟩:=hf it (by simp)
  have hl:=rv.length
  exact wpAny_pyNext_tuple_end (I.ok.hd hc) st (show s.heap.IsTuple a its.toArray from p) (by simp; omega) fun h' eb=> ⟨rfl,I.turned (t':=s.toks) (fun b o hb e=> eb b o hb e) f0 f1 f3 f4 f5⟩
 self:=fun _ _ _ _ _ st h=> wpAny_pyIter_tupleiter st h
theorem qo {P:Program} {w:World} {K:Cn} {tg:Expr} (it:Addr) (lo:Int) (n:Nat):vc P w K tg (Itr lo n) [it] it (fun i h=> IsRangeIter h it (lo+(i:Nat) * 1) ((n:Int) - (i:Nat)) 1) where
 mem:=by simp
 obj:=fun i h st b hb=> by
  have e:b=it:=by simpa using hb
  subst e
  exact ⟨_,st,fun v z=> by
   have z':Data.fields _=Data.cell v:=z
   cases z'⟩
 keep:=fun i h h' st k=> k it (by simp) _ st
 item:=by
  intro X hP hw hK hc i pins s σ H E I hf st hg
  subst hP hw hK
  obtain ⟨f0,f1,f2,f3,f4,f5⟩:=hf it (by simp)
  have W:=Walks.range (prog:=X.prog) (w:=X.w) (I.ok.hd hc) it lo 1 n
  refine W.item i s _ _ hg st fun v h' tk hv st' kk=> ?_
  obtain ⟨t,rfl⟩:=hv
  have I1:Inv X pins σ H { s with heap:=h',toks:=tk }:=I.turned (fun b o hb e=> kk b o (by simpa using hb) e) f0 f1 f3 f4 f5
  refine ⟨_,rfl,qX (s:={ s with heap:=h',toks:=tk }) (n:="range_iterator") st' rfl rfl (by decide) ⟨.int (lo+i),H,I1,⟨t,?_⟩,⟨rfl,rfl⟩,st',fun b hb=> (hf b hb).1⟩⟩
  rw [FH]
 done:=by
  intro X hP hw hK hc i pins s σ H E I hf st hg
  subst hP hw hK
  obtain ⟨f0,f1,f2,f3,f4,f5⟩:=hf it (by simp)
  exact wpAny_pyNext_range_end (I.ok.hd hc) st (by have:n≤i:=hg; omega) fun h' eb=> ⟨rfl,I.turned (t':=s.toks) (fun b o hb e=> eb b o hb e) f0 f1 f3 f4 f5⟩
 self:=fun _ _ _ _ _ st h=> wpAny_pyIter_rangeiter st h
end L2
namespace L2
open PySem PySem.Spec PyProof.Rows
section
variable {X:Cx} {tg:Expr}
def A0 (K:Cn) (tl:TE):TI:=fun σ H R=> tl σ H fun x H1=> ∃ a,x=.ref a∧(∃ xs,SqL K H1 a xs)∧R (Itl K a) H1
def Cj (K:Cn) (tl:TE):TI:=fun σ H R=> tl σ H fun x H1=> ∃ a,x=.ref a∧(∃ xs,SqT K H1 a xs)∧R (Itt K a) H1
theorem xY {l:Expr} {tl:TE} (hl:PE X l tl):PI X tg l (A0 X.K tl):=by
 intro pins s σ H R I h
 refine thn (hl pins s σ H _ I h) fun v s1 ⟨x,H1,I1,r1,q1⟩=> ?_
 obtain ⟨a,e,⟨xs,hq⟩,q⟩:=q1
 subst e
 cases r1
 obtain ⟨its,rv,p,hz⟩:=I1.list hq
 refine wpAny_pyIter_list p.isList ?_
 refine ⟨s1.heap.objs.size,[s1.heap.objs.size],_,_,H1,rfl,I1.kept (t':=s1.toks) fun b o e=> Cq _ e,sR a _,⟨_,CG _ rfl,rfl,rfl⟩,fun b hb=> ?_,q⟩
 have e:b=s1.heap.objs.size:=by simpa using hb
 subst e
 exact I1.fpOk (Cv _) (I1.hok.fresh (Cv _))
theorem AR {l:Expr} {tl:TE} (hl:PE X l tl):PI X tg l (Cj X.K tl):=by
 intro pins s σ H R I h
 refine thn (hl pins s σ H _ I h) fun v s1 ⟨x,H1,I1,r1,q1⟩=> ?_
 obtain ⟨a,e,⟨xs,hq⟩,q⟩:=q1
 subst e
 cases r1
 obtain ⟨its,rv,p,hz⟩:=I1.tuple hq
 refine wpAny_pyIter_tuple (show s1.heap.IsTuple a its.toArray from p) ?_
 refine ⟨s1.heap.objs.size,[s1.heap.objs.size],_,_,H1,rfl,I1.kept (t':=s1.toks) fun b o e=> Cq _ e,p_ a _,⟨_,CG _ rfl,rfl,rfl⟩,fun b hb=> ?_,q⟩
 have e:b=s1.heap.objs.size:=by simpa using hb
 subst e
 exact I1.fpOk (Cv _) (I1.hok.fresh (Cv _))
theorem wF {pins:List (Addr×Obj)} {σ:St} {H:Hp} {s:Shared} {R:It→Hp→Prop} {E:Value→Shared→Prop} {lo hi:Int} {t u v:Tok} {tk:Nat} (I:Inv X pins σ H s) (h1:-(2 ^ 62)≤lo) (h2:lo < 2 ^ 62) (h3:-(2 ^ 62)≤hi) (h4:hi < 2 ^ 62)
  (q:R (Itr lo (hi - lo).toNat) H):wpAny (model X.prog X.w) X.A (pyIter (.ref s.heap.objs.size)) (PIE X pins σ tg R) E { s with heap:=s.heap.push { cls:=.type "range",data:=.fields #[.int lo t,.int hi u,.int 1 v] },toks:=tk }:=by
 refine wpAny_pyIter_range (IsRange.new ..) (small_one h1 h2 h3 h4) ?_
 have I1:Inv X pins σ H { s with heap:=s.heap.push { cls:=.type "range",data:=.fields #[.int lo t,.int hi u,.int 1 v] },toks:=tk }:=I.kept fun b o e=> Cq _ e
 refine ⟨(s.heap.push { cls:=.type "range",data:=.fields #[.int lo t,.int hi u,.int 1 v] }).objs.size,[(s.heap.push { cls:=.type "range",data:=.fields #[.int lo t,.int hi u,.int 1 v] }).objs.size],_,_,H,rfl,
  I1.kept (t':=tk) fun b o e=> Cq _ e,qo _ lo (hi - lo).toNat,?_,fun b hb=> ?_,q⟩
 ·have e1:lo+((0:Nat):Int) * 1=lo:=by simp
  have e2:(((hi - lo).toNat:Nat):Int) - ((0:Nat):Int)=Builtin.Range.rangeSize lo hi 1:=by rw [rangeSize_one]; split <;> omega
  show IsRangeIter _ _ (lo+((0:Nat):Int) * 1) ((((hi - lo).toNat:Nat):Int) - ((0:Nat):Int)) 1
  rw [e1,e2]
  exact CG _ rfl
 ·have e:b=(s.heap.push { cls:=.type "range",data:=.fields #[.int lo t,.int hi u,.int 1 v] }).objs.size:=by simpa using hb
  subst e
  exact I1.fpOk (Cv _) (I1.hok.fresh (Cv _))
def BO (ta:TA):TI:=fun σ H R=> ta σ H fun vs H1=> ∃ j:Int,vs=[.int j]∧-(2 ^ 62)≤j∧j < 2 ^ 62∧R (Itr 0 j.toNat) H1
theorem tX {a:Expr} {ta:TA} {p pos:Pos} (hg:Gl X "range") (hm:X.mg "range"=none) (ha:PA X [a] ta) (hs:starEach [a] X.env=[(false,eval a X.env)]:=by rfl):PI X tg (.Call (.Name "range" p) [a] [] pos) (BO ta):=by
 intro pins s σ H R I h
 refine Call_ (dQ I hg hm boot_range (PyProof.Rows.callWith_type1 (thn (ha pos pins s σ H _ I h) fun us s1 ⟨vs,H1,I1,r1,q1⟩=> ?_) hs rfl))
 obtain ⟨j,e,q1,q2,q⟩:=q1
 subst e
 cases r1 with
 | cons r rr=>
  cases rr
  obtain ⟨t,rfl⟩:=r
  exact call_range_1 (wF I1 (by omega) (by omega) q1 q2 (by simpa using q))
def Cb (wi:TI) (g:TG) (tb:TS):TS:=fun D σ H=> wi σ H fun J H1=> ∃ W:Nat→Nat→St→Hp→Prop,(∃ m,W 0 m σ H1)∧∀ i m σ H,W i m σ H→
 (J.stop i H∧D.nx σ H)∨(J.go i H∧∃ N:St→Hp→Prop,(∀ σ' H',N σ' H'→∃ m',m' < m∧W (i+1) m' σ' H')∧∀ x H',J.yld i H x H'→g x σ H' fun σ2 H2=> tb { D with nx:=N,ct:=N,bk:=D.nx } σ2 H2)
def kg (fp:List Addr) (h:Heap):List (Addr×Obj):=fp.filterMap fun b=> (h.get? b).map fun o=> (b,o)
theorem dq {fp:List Addr} {h:Heap} {b:Addr} {o:Obj} (hb:b∈fp) (e:h.get? b=some o):(b,o)∈kg fp h:=Fu.mpr ⟨b,hb,by rw [e]; rfl⟩
theorem sH {fp:List Addr} {h:Heap} {p:Addr×Obj} (hp:p∈kg fp h):p.1∈fp∧h.get? p.1=some p.2:=by
 obtain ⟨b,hb,e⟩:=Fu.mp hp
 cases q:h.get? b with
 | none=> rw [q] at e; cases e
 | some o=>
  rw [q] at e
  have e':(b,o)=p:=Dg e
  subst e'
  exact ⟨hb,q⟩
theorem Inv.pinned {pins:List (Addr×Obj)} {σ:St} {H:Hp} {s:Shared} {fp:List Addr} (I:Inv X pins σ H s) (hf:∀ b∈fp,jF X pins H b) (ho:∀ b∈fp,∃ o,s.heap.get? b=some o∧∀ v,o.data≠.cell v):Inv X (pins++kg fp s.heap) σ H s:=
 I.pins_of fun p hp=> (Es.mp hp).elim (fun z=> I.pin p (CS _ z)) fun z=> by
  obtain ⟨hb,e⟩:=sH z
  obtain ⟨f0,f1,f2,_⟩:=hf p.1 hb
  obtain ⟨o,e',d⟩:=ho p.1 hb
  rw [e] at e'; cases e'
  exact ⟨e,f0,f1,f2,d⟩
theorem Inv.unpinned {pins pl:List (Addr×Obj)} {σ:St} {H:Hp} {s:Shared} (I:Inv X (pins++pl) σ H s):Inv X pins σ H s:=I.pins_of fun p hp=> I.pin p (CS _ (DY _ hp))
theorem As {iter:Expr} {body:List Stmt} {wi:TI} {g:TG} {tb:TS} {pos:Pos} (hp:PassesOwn (model X.prog X.w) X.A X.env X.xe) (hc:X.calm=true) (hi:PI X tg iter wi) (hg:PG X tg g) (hb:PSs X body tb)
  (hs:∀ x,foldedSetIterable iter X.env x=pure x:=by intro _; rfl):PS X (.For tg iter body [] pos) (Cb wi g tb):=by
 intro pins s σ H D I h
 refine wpAny_For (thn (hi pins s σ H _ I h) fun v s1 h1=> thn h1 fun itv s2 h2=> ?_) hs
 obtain ⟨it,fp,tn,J,H2,e,I2,T,st2,f2,W,⟨m0,w0⟩,turn⟩:=h2
 subst e
 have stat:∀ {H':Hp},(∀ b∈fp,H' b=none)→∀ b∈fp,jF X pins H' b:=fun hn b hb=> ⟨hn b hb,(f2 b hb).2⟩
 refine codeAny_forLoop_any (fun n s'=> ∃ i σ' H',Inv X pins σ' H' s'∧tn i s'.heap∧(∀ b∈fp,H' b=none)∧W i n σ' H') ?_ m0 ⟨0,σ,H2,I2,st2,fun b hb=> (f2 b hb).1,w0⟩
 rintro n s3 ⟨i,σ3,H3,I3,st3,fr3,w3⟩
 rcases turn i n σ3 H3 w3 with ⟨stop,qn⟩ | ⟨go,N,hN,step⟩
 ·refine wpAny_passesOwn hp (thn (T.done X rfl rfl rfl hc i pins s3 σ3 H3 X.xe I3 (stat fr3) st3 stop) fun r s4 ⟨hr,I4⟩=> ?_)
  subst hr
  exact wpAny_execs_nil ⟨σ3,H3,I4,qn⟩
 ·refine wpAny_passesOwn hp (thn (T.item X rfl rfl rfl hc i pins s3 σ3 H3 X.xe I3 (stat fr3) st3 go) fun r s4 ⟨u,hr,h4⟩=> ?_)
  subst hr
  refine wpAny_passesOwn hp (thn h4 fun _ s5 ⟨x,H5,I5,r5,y5,st5,fr5⟩=> ?_)
  have I5':=I5.pinned (stat fr5) (T.obj _ _ st5)
  refine wpAny_passesOwn hp (thn (hg _ s5 σ3 H5 x u _ I5' r5 (step x H5 y5)) fun _ s6 ⟨σ6,H6,I6,q6⟩=> ?_)
  refine wpAny_passesOwn hp (thn (hb _ s6 σ6 H6 _ I6 q6) fun f s7 q7=> ?_)
  have again:∀ {σ7:St} {H7:Hp},Inv X (pins++kg fp s5.heap) σ7 H7 s7→N σ7 H7→∃ m,m < n∧∃ i σ' H',Inv X pins σ' H' s7∧tn i s7.heap∧(∀ b∈fp,H' b=none)∧W i m σ' H':=fun {σ7 H7} I7 n7=> by
   obtain ⟨m',hm,w7⟩:=hN σ7 H7 n7
   refine ⟨m',hm,i+1,σ7,H7,I7.unpinned,T.keep _ _ _ st5 fun b hb o e=> (I7.pin (b,o) (CS _ (CS _ (dq hb e)))).1,fun b hb=> ?_,w7⟩
   obtain ⟨o,e,d⟩:=T.obj _ _ st5 b hb
   exact (I7.pin (b,o) (CS _ (CS _ (dq hb e)))).2.1
  cases f with
  | next=> obtain ⟨σ7,H7,I7,n7⟩:=q7; exact again I7 n7
  | cont=> obtain ⟨σ7,H7,I7,n7⟩:=q7; exact again I7 n7
  | brk=> obtain ⟨σ7,H7,I7,q7⟩:=q7; exact ⟨σ7,H7,I7.unpinned,q7⟩
  | ret v=> obtain ⟨x7,σ7,H7,I7,r7,q7⟩:=q7; exact ⟨x7,σ7,H7,I7.unpinned,r7,q7⟩
end
end L2
namespace L2
open PySem PySem.Spec PyProof.Rows
abbrev R2:=V→V→Hp→VK→Prop
def OpR (X:Cx) (f:Value→Value→Sem Value) (r:R2):Prop:=
 ∀ (pins:List (Addr×Obj)) (s:Shared) (σ:St) (H:Hp) (x y:V) (v u:Value) (Q:VK),Inv X pins σ H s→bp x v→bp y u→r x y H Q→
  wpAny (model X.prog X.w) X.A (f v u) (EP X pins σ Q) X.xe s
def UnR (X:Cx) (f:Value→Sem Value) (r:V→Hp→VK→Prop):Prop:=
 ∀ (pins:List (Addr×Obj)) (s:Shared) (σ:St) (H:Hp) (x:V) (v:Value) (Q:VK),Inv X pins σ H s→bp x v→r x H Q→
  wpAny (model X.prog X.w) X.A (f v) (EP X pins σ Q) X.xe s
def cS (X:Cx) (f:Value) (r:List V→Hp→VK→Prop):Prop:=
 ∀ (pins:List (Addr×Obj)) (s:Shared) (σ:St) (H:Hp) (xs:List V) (us:List Value) (Q:VK),Inv X pins σ H s→aY xs us→r xs H Q→
  wpAny (model X.prog X.w) X.A (call f us) (EP X pins σ Q) X.xe s
def tOp (r:R2) (ta tb:TE):TE:=fun σ H Q=> ta σ H fun x H1=> tb σ H1 fun y H2=> r x y H2 Q
def tUn (r:V→Hp→VK→Prop) (ta:TE):TE:=fun σ H Q=> ta σ H fun x H1=> r x H1 Q
def rI (C:Int→Int→Prop) (g:Int→Int→V):R2:=fun x y H Q=> ∃ i j,x=.int i∧y=.int j∧C i j∧Q (g i j) H
def rI0 (g:Int→Int→V):R2:=fun x y H Q=> ∃ i j,x=.int i∧y=.int j∧Q (g i j) H
def rU (g:Int→V):V→Hp→VK→Prop:=fun x H Q=> ∃ i,x=.int i∧Q (g i) H
section
variable {X:Cx} {a b c:Expr} {ta tb tc:TE} {pos:Pos}
theorem zI (ha:PE X a ta) (hb:PE X b tb) {pins:List (Addr×Obj)} {s:Shared} {σ:St} {H:Hp} {R:V→V→Hp→Prop} (I:Inv X pins σ H s)
  (h:ta σ H fun x H1=> tb σ H1 fun y H2=> R x y H2) {Q:Value→Shared→Prop} {f:Value→Value→Sem Value}
  (hf:∀ v u s2 x y H2,Inv X pins σ H2 s2→bp x v→bp y u→R x y H2→wpAny (model X.prog X.w) X.A (f v u) Q X.xe s2):
  wpAny (model X.prog X.w) X.A (eval a X.env) (fun v s₁=> wpAny (model X.prog X.w) X.A (eval b X.env) (fun u s₂=> wpAny (model X.prog X.w) X.A (f v u) Q X.xe s₂) X.xe s₁) X.xe s:=by
 refine thn (ha pins s σ H _ I h) fun v s1 ⟨x,H1,I1,r1,q1⟩=> ?_
 refine thn (hb pins s1 σ H1 _ I1 q1) fun u s2 ⟨y,H2,I2,r2,q2⟩=> ?_
 exact hf v u s2 x y H2 I2 r1 r2 q2
theorem uv {op:Operator} {r:R2} (ho:OpR X (binaryOp op) r) (ha:PE X a ta) (hb:PE X b tb):PE X (.BinOp a op b pos) (tOp r ta tb):=by
 intro pins s σ H Q I h
 exact wpAny_BinOp (zI ha hb I h fun v u s2 x y H2 I2 rx ry q=> ho pins s2 σ H2 x y v u Q I2 rx ry q)
theorem Bg {op:UnaryOp} {r:V→Hp→VK→Prop} (ho:UnR X (unaryOp op) r) (ha:PE X a ta):PE X (.UnaryOp op a pos) (tUn r ta):=by
 intro pins s σ H Q I h
 exact UnaryOp_ (thn (ha pins s σ H _ I h) fun v s1 ⟨x,H1,I1,r1,q1⟩=> ho pins s1 σ H1 x v Q I1 r1 q1)
theorem opI {f:Value→Value→Sem Value} {C:Int→Int→Prop} {g:Int→Int→Int}
  (rule:∀ (i j:Int) (t u:Tok) (s:Shared) (Q:Value→Shared→Prop) (E:Value→Shared→Prop),C i j→Q (.int (g i j) s.toks) { s with toks:=s.toks+1 }→wpAny (model X.prog X.w) X.A (f (.int i t) (.int j u)) Q E s):
  OpR X f (rI C fun i j=> .int (g i j)):=by
 intro pins s σ H x y v u Q I rx ry h
 obtain ⟨i,j,rfl,rfl,hc,q⟩:=h
 obtain ⟨t,rfl⟩:=rx
 obtain ⟨t',rfl⟩:=ry
 exact rule i j t t' s _ _ hc ⟨.int (g i j),H,I.tok _,⟨_,rfl⟩,q⟩
theorem BK {f:Value→Value→Sem Value} {g:Int→Int→Int}
  (rule:∀ (i j:Int) (t u:Tok) (s:Shared) (Q:Value→Shared→Prop) (E:Value→Shared→Prop),Q (.int (g i j) s.toks) { s with toks:=s.toks+1 }→wpAny (model X.prog X.w) X.A (f (.int i t) (.int j u)) Q E s):
  OpR X f (rI0 fun i j=> .int (g i j)):=by
 intro pins s σ H x y v u Q I rx ry h
 obtain ⟨i,j,rfl,rfl,q⟩:=h
 obtain ⟨t,rfl⟩:=rx
 obtain ⟨t',rfl⟩:=ry
 exact rule i j t t' s _ _ ⟨.int (g i j),H,I.tok _,⟨_,rfl⟩,q⟩
theorem xK {f:Value→Value→Sem Value} {g:Int→Int→Bool}
  (rule:∀ (i j:Int) (t u:Tok) (s:Shared) (Q:Value→Shared→Prop) (E:Value→Shared→Prop),Q (.bool (g i j)) s→wpAny (model X.prog X.w) X.A (f (.int i t) (.int j u)) Q E s):
  OpR X f (rI0 fun i j=> .bl (g i j)):=by
 intro pins s σ H x y v u Q I rx ry h
 obtain ⟨i,j,rfl,rfl,q⟩:=h
 obtain ⟨t,rfl⟩:=rx
 obtain ⟨t',rfl⟩:=ry
 exact rule i j t t' s _ _ ⟨.bl (g i j),H,I,rfl,q⟩
def Bx (i j:Int):Prop:=0≤j∧j≤1000000∧i.natAbs < 2 ^ 64
theorem AS:OpR X (binaryOp .Add) (rI0 fun i j=> .int (i+j)):=BK fun _ _ _ _ _ _ _ q=> add_int q
theorem AD:OpR X (binaryOp .Sub) (rI0 fun i j=> .int (i - j)):=BK fun _ _ _ _ _ _ _ q=> sub_int q
theorem z_:OpR X (binaryOp .Mod) (rI (fun _ j=> 0 < j) fun i j=> .int (i % j)):=opI fun i j _ _ _ _ _ hc q=> by
 have h1:(0:Int) < j:=hc
 exact mod_int' (by omega) (by rw [Gr i (by omega)]; exact q)
theorem zW:OpR X (binaryOp .Pow) (rI Bx fun i j=> .int (i ^ j.toNat)):=opI fun _ _ _ _ _ _ _ hc q=> pow_int_small hc.1 hc.2.1 hc.2.2 q
theorem unI {f:Value→Sem Value} {g:Int→Int}
  (rule:∀ (i:Int) (t:Tok) (s:Shared) (Q:Value→Shared→Prop) (E:Value→Shared→Prop),Q (.int (g i) s.toks) { s with toks:=s.toks+1 }→wpAny (model X.prog X.w) X.A (f (.int i t)) Q E s):
  UnR X f (rU fun i=> .int (g i)):=by
 intro pins s σ H x v Q I rx h
 obtain ⟨i,rfl,q⟩:=h
 obtain ⟨t,rfl⟩:=rx
 exact rule i t s _ _ ⟨.int (g i),H,I.tok _,⟨_,rfl⟩,q⟩
theorem AI:UnR X (unaryOp .USub) (rU fun i=> .int (-i)):=unI fun _ _ _ _ _ q=> neg_int q
end
def BP:V→V→Bool
 | .non,.non=> true | .non,.int _=> true | .int _,.non=> true | .non,.bl _=> true | .bl _,.non=> true | .non,.str _=> true | .str _,.non=> true
 | .int _,.int _=> true | .bl _,.bl _=> true | .str _,.str _=> true | .byt _,.byt _=> true
 | .int _,.str _=> true | .str _,.int _=> true | .bl _,.str _=> true | .str _,.bl _=> true
 | _,_=> false
def rEq:R2:=fun x y H Q=> BP x y=true∧Q (.bl (decide (x=y))) H
def rNe:R2:=fun x y H Q=> BP x y=true∧Q (.bl (!decide (x=y))) H
theorem jv {i j:Int}:decide (V.int i=V.int j)=(i==j):=by
 rw [Et]
 simp
theorem uS {i j:Bool}:decide (V.bl i=V.bl j)=(i==j):=by
 rw [Et]
 simp
theorem qE {i j:Str}:decide (V.str i=V.str j)=(i==j):=by
 rw [Et]
 simp
theorem rm {i j:Array UInt8}:decide (V.byt i=V.byt j)=(i.toList==j.toList):=by
 rw [Et]
 cases i
 cases j
 simp
section
variable {X:Cx} {a b c:Expr} {ta tb tc:TE} {pos:Pos}
theorem bh {pins:List (Addr×Obj)} {σ:St} {H:Hp} {s:Shared} {Q:VK} {k k':Bool} (I:Inv X pins σ H s) (q:Q (.bl k) H) (e:k=k'):EP X pins σ Q (.bool k') s:=by
 subst e
 exact ⟨.bl k,H,I,rfl,q⟩
theorem Bv:OpR X (compareOp .Eq) rEq:=by
 intro pins s σ H x y v u Q I rx ry h
 obtain ⟨hs,q⟩:=h
 cases x with
 | non=>
  cases rx
  cases y with
  | non=> cases ry; exact Iq (bh I q (by simp))
  | bl j=> cases ry; exact Ir (bh I q (by simp))
  | int j=> obtain ⟨t',rfl⟩:=ry; exact IM (bh I q (by simp))
  | str j=> obtain ⟨t',rfl⟩:=ry; exact IP (bh I q (by simp))
  | _=> exact absurd (show false=true from hs) C0
 | bl i=>
  cases rx
  cases y with
  | non=> cases ry; exact Iu (bh I q (by simp))
  | bl j=> cases ry; exact eq_bool (bh I q uS)
  | str j=> obtain ⟨t',rfl⟩:=ry; exact Iw (bh I q (by simp))
  | _=> exact absurd (show false=true from hs) C0
 | int i=>
  obtain ⟨t,rfl⟩:=rx
  cases y with
  | non=> cases ry; exact IQ (bh I q (by simp))
  | int j=> obtain ⟨t',rfl⟩:=ry; exact eq_int (bh I q jv)
  | str j=> obtain ⟨t',rfl⟩:=ry; exact IR (bh I q (by simp))
  | _=> exact absurd (show false=true from hs) C0
 | str i=>
  obtain ⟨t,rfl⟩:=rx
  cases y with
  | non=> cases ry; exact IS (bh I q (by simp))
  | bl j=> cases ry; exact Iy (bh I q (by simp))
  | int j=> obtain ⟨t',rfl⟩:=ry; exact IT (bh I q (by simp))
  | str j=> obtain ⟨t',rfl⟩:=ry; exact eq_str (bh I q qE)
  | _=> exact absurd (show false=true from hs) C0
 | byt i=>
  obtain ⟨t,rfl⟩:=rx
  cases y with
  | byt j=> obtain ⟨t',rfl⟩:=ry; exact PySem.W.eq_bytes (bh I q rm)
  | _=> exact absurd (show false=true from hs) C0
 | _=> cases y <;> exact absurd (show false=true from hs) C0
theorem Bi:OpR X (compareOp .NotEq) rNe:=by
 intro pins s σ H x y v u Q I rx ry h
 obtain ⟨hs,q⟩:=h
 cases x with
 | non=>
  cases rx
  cases y with
  | non=> cases ry; exact Iz (bh I q (by simp))
  | bl j=> cases ry; exact IA (bh I q (by simp))
  | int j=> obtain ⟨t',rfl⟩:=ry; exact IU (bh I q (by simp))
  | str j=> obtain ⟨t',rfl⟩:=ry; exact IV (bh I q (by simp))
  | _=> exact absurd (show false=true from hs) C0
 | bl i=>
  cases rx
  cases y with
  | non=> cases ry; exact IB (bh I q (by simp))
  | bl j=> cases ry; exact ne_bool (bh I q (congrArg not uS))
  | str j=> obtain ⟨t',rfl⟩:=ry; exact IC (bh I q (by simp))
  | _=> exact absurd (show false=true from hs) C0
 | int i=>
  obtain ⟨t,rfl⟩:=rx
  cases y with
  | non=> cases ry; exact IW (bh I q (by simp))
  | int j=> obtain ⟨t',rfl⟩:=ry; exact ne_int (bh I q (congrArg not jv))
  | str j=> obtain ⟨t',rfl⟩:=ry; exact IX (bh I q (by simp))
  | _=> exact absurd (show false=true from hs) C0
 | str i=>
  obtain ⟨t,rfl⟩:=rx
  cases y with
  | non=> cases ry; exact IY (bh I q (by simp))
  | bl j=> cases ry; exact ID (bh I q (by simp))
  | int j=> obtain ⟨t',rfl⟩:=ry; exact IZ (bh I q (by simp))
  | str j=> obtain ⟨t',rfl⟩:=ry; exact ne_str (bh I q (congrArg not qE))
  | _=> exact absurd (show false=true from hs) C0
 | byt i=>
  obtain ⟨t,rfl⟩:=rx
  cases y with
  | byt j=> obtain ⟨t',rfl⟩:=ry; exact PySem.W.ne_bytes (bh I q (congrArg not rm))
  | _=> exact absurd (show false=true from hs) C0
 | _=> cases y <;> exact absurd (show false=true from hs) C0
theorem BN:OpR X (compareOp .Lt) (rI0 fun i j=> .bl (decide (i < j))):=xK fun _ _ _ _ _ _ _ q=> lt_int q
theorem Bf:OpR X (compareOp .LtE) (rI0 fun i j=> .bl (decide (i≤j))):=xK fun _ _ _ _ _ _ _ q=> le_int q
theorem BF:OpR X (compareOp .Gt) (rI0 fun i j=> .bl (decide (j < i))):=xK fun _ _ _ _ _ _ _ q=> gt_int q
theorem Bn:OpR X (compareOp .GtE) (rI0 fun i j=> .bl (decide (j≤i))):=xK fun _ _ _ _ _ _ _ q=> ge_int q
theorem xa (b:Expr) {op:CmpOp} (h:op≠.In:=by decide) (h2:op≠.NotIn:=by decide):behindInMarks op b=false:=by
 have e1:(op==CmpOp.In)=false:=by cases op <;> first | rfl | exact absurd rfl h
 have e2:(op==CmpOp.NotIn)=false:=by cases op <;> first | rfl | exact absurd rfl h2
 cases b <;> simp [behindInMarks,e1,e2]
theorem ya {op:CmpOp} {r:R2} (ho:OpR X (compareOp op) r) (ha:PE X a ta) (hb:PE X b tb) (hm:behindInMarks op b=false):PE X (.Compare a [op] [b] pos) (tOp r ta tb):=by
 intro pins s σ H Q I h
 exact wpAny_Compare1 (zI ha hb I h fun v u s2 x y H2 I2 rx ry q=> ho pins s2 σ H2 x y v u Q I2 rx ry q) hm
def Bt (t:TE):TT:=fun σ H Q=> t σ H fun x H'=> ∃ k,x=.bl k∧Q k H'
theorem xy {op:CmpOp} {r:R2} (ho:OpR X (compareOp op) r) (ha:PE X a ta) (hb:PE X b tb) (hm:behindInMarks op b=false):PT X (.Compare a [op] [b] pos) (Bt (tOp r ta tb)):=by
 intro pins s σ H Q I h
 refine wpAny_isTrue_Compare1 (thn (ha pins s σ H _ I h) fun v s1 ⟨x,H1,I1,r1,q1⟩=> thn (hb pins s1 σ H1 _ I1 q1) fun u s2 ⟨y,H2,I2,r2,q2⟩=>
  thn (ho pins s2 σ H2 x y v u _ I2 r1 r2 q2) fun c s3 ⟨z,H3,I3,r3,k,e,q3⟩=> ?_) hm
 subst e
 cases r3
 exact wpAny_truthy_bool ⟨H3,I3,q3⟩
theorem qe:(sizeLine:Nat) < 2 ^ 63:=by rw [sizeLine_eq]; decide
theorem fe {x:V} {us:List Value} (r:aY [x] us):∃ u,us=[u]∧bp x u:=by
 cases r with
 | cons r1 r2=> cases r2; exact ⟨_,rfl,r1⟩
theorem lv {x y:V} {us:List Value} (r:aY [x,y] us):∃ u w',us=[u,w']∧bp x u∧bp y w':=by
 cases r with
 | cons r1 r2=>
  cases r2 with
  | cons r3 r4=> cases r4; exact ⟨_,_,rfl,r1,r3⟩
theorem v5:cS X (.builtin "abs") (fun xs H Q=> ∃ i,xs=[.int i]∧Q (.int (if i < 0 then -i else i)) H):=by
 intro pins s σ H xs us Q I r h
 obtain ⟨i,rfl,q⟩:=h
 obtain ⟨u,rfl,t,rfl⟩:=fe r
 exact call_abs_int fun u tk=> ⟨.int (if i < 0 then -i else i),H,I.tok _,⟨_,rfl⟩,q⟩
theorem sV (hc:X.calm=true):cS X (.builtin "max") (fun xs H Q=> ∃ i j,xs=[.int i,.int j]∧Q (.int (if j > i then j else i)) H):=by
 intro pins s σ H xs us Q I r h
 obtain ⟨i,j,rfl,q⟩:=h
 obtain ⟨u,w',rfl,⟨t,rfl⟩,⟨t',rfl⟩⟩:=lv r
 refine max_two_ints (I.ok.hd hc) fun h' tk k=> ⟨_,H,I.kept k,?_,q⟩
 by_cases hj:j > i
 ·rw [if_pos hj,if_pos hj]; exact ⟨_,rfl⟩
 ·rw [if_neg hj,if_neg hj]; exact ⟨_,rfl⟩
theorem tj (hc:X.calm=true):cS X (.builtin "min") (fun xs H Q=> ∃ i j,xs=[.int i,.int j]∧Q (.int (if j < i then j else i)) H):=by
 intro pins s σ H xs us Q I r h
 obtain ⟨i,j,rfl,q⟩:=h
 obtain ⟨u,w',rfl,⟨t,rfl⟩,⟨t',rfl⟩⟩:=lv r
 refine min_two_ints (I.ok.hd hc) fun h' tk k=> ⟨_,H,I.kept k,?_,q⟩
 by_cases hj:j < i
 ·rw [if_pos hj,if_pos hj]; exact ⟨_,rfl⟩
 ·rw [if_neg hj,if_neg hj]; exact ⟨_,rfl⟩
theorem sq:cS X (.type "int") (fun xs H Q=> (∃ i,xs=[.int i]∧Q (.int i) H)∨∃ k,xs=[.bl k]∧Q (.int (if k then 1 else 0)) H):=by
 intro pins s σ H xs us Q I r h
 rcases h with ⟨i,rfl,q⟩ | ⟨k,rfl,q⟩
 ·obtain ⟨u,rfl,t,rfl⟩:=fe r
  exact call_int_int ⟨.int i,H,I,⟨_,rfl⟩,q⟩
 ·obtain ⟨u,rfl,r1⟩:=fe r
  cases r1
  exact call_int_bool ⟨.int (if k then 1 else 0),H,I.tok _,⟨_,rfl⟩,q⟩
end
end L2
namespace L2
open PySem PySem.Spec PyProof.Rows
structure zP (h:Heap) (x dx C:Addr) (mA:Str→Option Value):Prop where
 obj:h.get? x=some (Ha C dx)
 ns:h.Ns1 dx mA
 ne:dx≠x
theorem sC {h:Heap} {dx:Addr} {mA:Str→Option Value} (n:h.Ns1 dx mA):∃ od,h.get? dx=some od∧∀ name,Hv name od=some (mA name):=by
 obtain ⟨o,es,ep,ho,hd,hk,_,hm⟩:=n
 refine ⟨o,ho,fun name=> ?_⟩
 have e:=hm name
 unfold nsFind findBy at e
 rw [← Array.find?_toList] at e
 unfold Hv
 rw [hd]
 dsimp only
 split
 ·rename_i y q
  rw [q] at e
  exact congrArg some e
 ·rename_i q
  rw [q] at e
  have a:es.toList.any (·.refKey)=false:=by
   rw [List.any_eq_false]
   intro y hy
   obtain ⟨z,t,hkey⟩:=hk y (Ga.mp hy)
   simp [DictEntry.refKey,hkey]
  have a':¬ es.toList.any (·.refKey)=true:=by rw [a]; exact C0
  rw [if_neg a']
  exact congrArg some e
theorem zP.look {h:Heap} {x dx C:Addr} {mA:Str→Option Value} (I:zP h x dx C mA):∃ od,PySem.W.InstAt h x (Ha C dx) C (some od)∧∀ name,Hv name od=some (mA name):=
 let ⟨od,ho,hl⟩:=sC I.ns
 ⟨od,⟨I.obj,rfl,rfl,ho⟩,hl⟩
section
variable {prog:Program} {w:World} {A:Around} {E:Value→Shared→Prop} {s:Shared} {K:Cn} {x dx C f:Addr} {mA:Str→Option Value} {name:Str} {v:Value}
end
section
variable {P:Program} {w:World} {H H':Hp} {h h':Heap} {a C dx:Addr} {fs fs':List (Str×V)}
theorem xS (hok:HOk P w H h) (e:H a=some (.ins C dx fs)):∃ mA,zP h a dx C mA∧(∀ f,zG (fs.lookup f) (mA f))∧Jg mA (fs.map (·.1))∧fs.length≤1000∧H dx=some (.own a):=by
 obtain ⟨d,z,ne,ob,mA,n,r,q⟩:=(show cG P w H h a (.ins C dx fs) from hok a _ e)
 exact ⟨mA,⟨ob,n,ne⟩,r,q,z,d⟩
end
structure Cls (K:Cn) (C:Addr):Prop where
 pg:HZ K C Str.empty=true
 hd:PySem.W.hasDictIn K C=true
 po:PySem.W.plainOver K C=true
 sa:FN K (.ref C) "__setattr__"=some (some (.builtin "object.__setattr__"))
theorem Cls.get {K:Cn} {C:Addr} (c:Cls K C) (f:Str):HZ K C f=true:=c.pg
structure Con (K:Cn) (C:Addr) (f:Str) (v:V) (u:Value):Prop where
 at_:FN K (.ref C) f=some (some u)
 rel:bp v u
 get:HK K u "__get__"=some none
 cp:PySem.W.copiedNames.contains f=false
structure Ck (K:Cn) (C:Addr) (m:Str) (f:Addr):Prop where
 at_:FN K (.ref C) m=some (some (.ref f))
 fn:Ji K (.ref f)=true
 kp:CA K (.ref f)=true
section
variable {X:Cx} {pins:List (Addr×Obj)} {σ:St} {H:Hp} {s:Shared} {a C dx:Addr} {fs:List (Str×V)} {f:Str} {v:V} {A:Around} {E:Value→Shared→Prop}
end
section
variable {X:Cx} {o e value:Expr} {f:Str} {pos pos' tpos:Pos} {ta tv:TE}
end
section
variable {X:Cx} {pins:List (Addr×Obj)} {σ:St} {H:Hp} {s:Shared} {A:Around} {E:Value→Shared→Prop} {Q:Value→Shared→Prop} {c:Value} {b:Bool}
inductive i8 (K:Cn) (H:Hp):V→Value→Prop where
 | non:i8 K H .non (.type "NoneType")
 | bl (x:Bool):i8 K H (.bl x) (.type "bool")
 | int (i:Int):i8 K H (.int i) (.type "int")
 | str (x:Str):i8 K H (.str x) (.type "str")
 | flt (x:UInt64):i8 K H (.flt x) (.type "float")
 | lst {a:Addr} {xs:List V} (e:H a=some (.lst xs)):i8 K H (.ref a) (.type "list")
 | frz {a:Addr} {o:Obj} {xs:List V} (e:H a=some (.frz o (.lst xs))):i8 K H (.ref a) (.type "list")
 | tup {a:Addr} {xs:List V} (e:H a=some (.tup xs)):i8 K H (.ref a) (.type "tuple")
 | dK {a:Addr} {kvs:List (Key×V)} (e:H a=some (.dK kvs)):i8 K H (.ref a) (.type "dict")
 | dT {a:Addr} {kvs:List (List Key×V)} (e:H a=some (.dT kvs)):i8 K H (.ref a) (.type "dict")
 | ins {a C dx:Addr} {fs:List (Str×V)} (e:H a=some (.ins C dx fs)) (cl:Cls K C) (ha:FN K (.ref C) "__class__"=some (some (.builtin "object.__class__")))
   (hn:HK K (.builtin "object.__class__") "__get__"=some (some (.builtin "getset_descriptor.__get__"))) (htk:PySem.W.takesIn K (.builtin "object.__class__")=some true)
   (hm:PySem.W.mroIn K C (.type "object")=some true):i8 K H (.ref a) (.ref C)
theorem d4 {x:V} {u t:Value} (I:Inv X pins σ H s) (rx:bp x u) (ty:i8 X.K H x t) (e:E7 X.K t c=some b) (h:∀ tk,Q (.bool b) { s with toks:=tk }):
  wpAny (model X.prog X.w) A (call (.builtin "isinstance") [u,c]) Q E s:=by
 cases ty with
 | non=> cases (show u=C2 from rx); exact DN PySem.W.kitx_none I.kIn True.intro e (fun z=> nomatch z) h
 | bl y=> cases (show u=Dn y from rx); exact DN PySem.W.kitx_bool I.kIn True.intro e (fun z=> nomatch z) h
 | int i=> obtain ⟨t,q⟩:=(show ∃ t,u=Dm i t from rx); cases q; exact DN PySem.W.kitx_int I.kIn True.intro e (fun z=> nomatch z) h
 | str y=> obtain ⟨t,q⟩:=(show ∃ t,u=DC y t from rx); cases q; exact DN PySem.W.kitx_str I.kIn True.intro e (fun z=> nomatch z) h
 | flt y=> obtain ⟨t,q⟩:=(show ∃ t,u=Js y t from rx); cases q; exact DN PySem.W.kitx_float I.kIn True.intro e (fun z=> nomatch z) h
 | @lst a xs ea=>
  cases (show u=Dl a from rx)
  obtain ⟨_,_,n,_,h1⟩:=(show cG X.prog X.w H s.heap a (.lst xs) from I.hok a _ ea)
  exact DN GK I.kIn ⟨_,h1,rfl⟩ e (fun z=> nomatch z) h
 | @frz a ob xs ea=>
  cases (show u=Dl a from rx)
  obtain ⟨_,_,_,n,_,h1⟩:=(show cG X.prog X.w H s.heap a (.frz ob (.lst xs)) from I.hok a _ ea)
  exact DN GK I.kIn ⟨_,h1,rfl⟩ e (fun z=> nomatch z) h
 | @tup a xs ea=>
  cases (show u=Dl a from rx)
  obtain ⟨_,_,_,p⟩:=(show cG X.prog X.w H s.heap a (.tup xs) from I.hok a _ ea)
  obtain ⟨o,h1,h2,_⟩:=p
  exact DN HC I.kIn ⟨o,h1,h2⟩ e (fun z=> nomatch z) h
 | @dK a kvs ea=>
  cases (show u=Dl a from rx)
  obtain ⟨_,_,vs,_,p⟩:=(show cG X.prog X.w H s.heap a (.dK kvs) from I.hok a _ ea)
  obtain ⟨o,es,ep,h1,h2,_⟩:=p
  exact DN HL I.kIn ⟨o,h1,h2.1⟩ e (fun z=> nomatch z) h
 | @dT a kvs ea=>
  cases (show u=Dl a from rx)
  obtain ⟨_,_,xs,_,o,es,ep,h1,h2,_⟩:=(show cG X.prog X.w H s.heap a (.dT kvs) from I.hok a _ ea)
  exact DN HL I.kIn ⟨o,h1,h2.1⟩ e (fun z=> nomatch z) h
 | @ins a C dx fs ea cl ha hn htk hm=>
  cases (show u=Dl a from rx)
  obtain ⟨mA,O,_⟩:=xS I.hok ea
  obtain ⟨od,J,_⟩:=O.look
  exact DN (PySem.W.kitx_own (cl.get _) cl.hd ha hn htk hm) I.kIn J e (fun z=> nomatch z) h
end
end L2
namespace L2
open PySem PySem.Spec PyProof.Rows
structure d_ (k:Nat) (A:Around):Prop where
 hd:A.handled=none
 dp:A.depth+3 * k+5 < recursionLimit
 un:A.units+16 * k+200 < cLine
theorem d_.mono {j k:Nat} {A:Around} (r:d_ k A) (h:j≤k):d_ j A:=⟨r.hd,by have:=r.dp; omega,by have:=r.un; omega⟩
theorem d_.deeper {k:Nat} {A:Around} (r:d_ (k+1) A) (env:Env):d_ k (A.deeper env):=
 ⟨r.hd,by have:=r.dp; show A.depth+1+3 * k+5 < _; omega,by have:=r.un; show A.units+3+16 * k+200 < _; omega⟩
theorem d_.depth {k:Nat} {A:Around} (r:d_ k A):A.depth < recursionLimit:=by have:=r.dp; omega
def B7:TA:=fun _ H Q=> Q [] H
def BE (ta:TE) (tr:TA):TA:=fun σ H Q=> ta σ H fun x H1=> tr σ H1 fun xs H2=> Q (x::xs) H2
section
variable {X:Cx} {e:Expr} {es:List Expr} {te:TE} {t:TA} {pos:Pos}
theorem g6:PA X [] B7:=fun _ _ _ _ H Q I h=> Fk ⟨[],H,I,.nil,h⟩
theorem eL (ha:PE X e te) (hr:PA X es t) (hs:starEach (e::es) X.env=(false,eval e X.env)::starEach es X.env:=by rfl):PA X (e::es) (BE te t):=by
 intro pos pins s σ H Q I h
 rw [hs]
 show wpAny _ _ (spliced ((false,eval e X.env)::backTo pos (starEach es X.env))) _ _ s
 refine Fd (thn (ha pins s σ H _ I h) fun u s1 ⟨x,H1,I1,r1,q1⟩=> ?_)
 exact thn (hr pos pins s1 σ H1 _ I1 q1) fun us s2 ⟨xs,H2,I2,r2,q2⟩=> ⟨x::xs,H2,I2,.cons r1 r2,q2⟩
def Ce (t:TA):TE:=fun σ H Q=> t σ H fun xs H1=> xs.length≤sizeLine∧∀ p,H1 p=none→Q (.ref p) (upd H1 p (.tup xs))
def B0 (t:TA):TE:=fun σ H Q=> t σ H fun xs H1=> xs.length≤sizeLine∧∀ p,H1 p=none→Q (.ref p) (upd H1 p (.lst xs))
theorem Ab {x1} (h:PA X es t):PE X (.Tuple es x1 pos) (Ce t):=by
 intro pins s σ H Q I hq
 refine wpAny_Tuple_spliced (thn (h pos pins s σ H _ I hq) fun us s1 ⟨xs,H1,I1,r,z,q⟩=> ⟨by rw [← r.length]; exact z,?_⟩)
 have hf:H1 s1.heap.objs.size=none:=I1.hok.fresh (Cv _)
 refine ⟨.ref s1.heap.objs.size,upd H1 s1.heap.objs.size (.tup xs),I1.laid (t':=s1.toks) (fun b u e=> Cq _ e) (Cv _) ?_,rfl,q _ hf⟩
 exact ⟨z,us,r,⟨_,CG _ rfl,rfl,_,rfl⟩⟩
theorem Al (h:PA X es t):PE X (.List es pos) (B0 t):=by
 intro pins s σ H Q I hq
 refine wpAny_List_spliced (thn (h pos pins s σ H _ I hq) fun us s1 ⟨xs,H1,I1,r,z,q⟩=> ⟨by rw [← r.length]; exact z,?_⟩)
 have hf:H1 s1.heap.objs.size=none:=I1.hok.fresh (Cv _)
 refine ⟨.ref s1.heap.objs.size,upd H1 s1.heap.objs.size (.lst xs),I1.laid (t':=s1.toks) (fun b u e=> Cq _ e) (Cv _) ?_,rfl,q _ hf⟩
 exact ⟨z,us,0,r,CG _ rfl⟩
end
abbrev Sp:=List V→Hp→VK→XK→Prop
abbrev CXT:=List Env→Hp→Shared→XK→Value→Shared→Prop
structure x8 (P:Program) (w:World) (K:Cn) (mg:Str→Option Value) (base:Heap) (A:Around) (outer:List Env) (s:Shared) (H:Hp):Prop where
 frames:A.frames=some outer
 mod:Mod K mg base
 bs:∀ b o,base.get? b=some o→s.heap.get? b=some o∧H b=none
 bsz:base.objs.size≤s.heap.objs.size
 funs:s.heap.FunFrames base outer
 frf:∀ b∈frs outer,H b=none
 hok:HOk P w H s.heap
 bare:AllBare s.gens
def CE (outer:List Env) (P:Program) (w:World) (H:Hp) (s:Shared) (Q:VK) (u:Value) (s':Shared):Prop:=
 ∃ v H',s'.os=s.os∧AllBare s'.gens∧Un (frs outer) [] H H' s.heap s'.heap∧HOk P w H' s'.heap∧bp v u∧Q v H'
def CR (CX:CXT) (outer:List Env) (P:Program) (w:World) (H:Hp) (s:Shared) (Q:VK) (E:XK) (r:Result) (s':Shared):Prop:=
 match r with
 | .ok (.ret u)=> CE outer P w H s Q u s'
 | .ok _=> False
 | .error e=> CX outer H s E e s'
structure bo (P:Program) (w:World) (K:Cn) (mg:Str→Option Value) (base:Heap) (CX:CXT) (k:Nat) (f:Addr) (fd:FuncData) (ps:List Str) (sp:Sp):Prop where
 len:∀ vs H Q E,sp vs H Q E→vs.length=ps.length
 run:∀ (A:Around) (outer:List Env) (s:Shared) (H:Hp) (args:Args) (us:List Value) (vs:List V) (Q:VK) (E:XK),d_ k A→x8 P w K mg base A outer s H→BindsTo s fd args (ps.zip us)→aY vs us→sp vs H Q E→
  codeAny (model P w) A (.call (.ref f) args) (CR CX outer P w H s Q E) s
theorem bo.mono {P:Program} {w:World} {K:Cn} {mg:Str→Option Value} {base:Heap} {CX:CXT} {j k:Nat} {f:Addr} {fd:FuncData} {ps:List Str} {sp:Sp} (F:bo P w K mg base CX j f fd ps sp) (h:j≤k):
  bo P w K mg base CX k f fd ps sp:=⟨F.len,fun A outer s H args us vs Q E hr=> F.run A outer s H args us vs Q E (hr.mono h)⟩
section
variable {X:Cx} {pins:List (Addr×Obj)} {σ:St} {H:Hp} {s s':Shared}
theorem Inv.env0 (I:Inv X pins σ H s):x8 X.prog X.w X.K X.mg X.base X.A X.stack s H:=
 ⟨I.ok.frames,I.ok.mod,I.bs,DK I.ok.bsz I.sz,I.stack,I.stkFree,I.hok,I.bare⟩
theorem Inv.after {Q:VK} {u:Value} (I:Inv X pins σ H s) (h:CE X.stack X.prog X.w H s Q u s'):EP X pins σ Q u s':=by
 obtain ⟨v,H',os,bare,un,hok,r,q⟩:=h
 obtain ⟨hh,g,d,t,os'⟩:=s'
 obtain rfl:os'=s.os:=os
 exact ⟨v,H',I.call (h':=hh) (g':=g) (d':=d) (t':=t) (ch:=[]) un hok bare (fun b z=> absurd z (by simp)),r,q⟩
end
def A8 (sp:Sp) (dvs:List V) (E:XK) (t:TA):TE:=fun σ H Q=> t σ H fun vs H1=> sp (vs++dvs) H1 Q E
def aP (K:Cn) (fd:FuncData) (ps:List Str) (ds:List Value):Prop:=
 ∀ (s:Shared) (us:List Value),K.In s.heap→(us++ds).length=ps.length→BindsTo s fd ⟨us,[]⟩ (ps.zip (us++ds))
theorem aP.all {K:Cn} {fd:FuncData} {ps:List Str} (h:∀ us:List Value,us.length=ps.length→bindArgs fd ⟨us,[]⟩=pure (ps.zip us)):aP K fd ps []:=fun s us _ hl=> by
 rw [EF] at hl ⊢
 exact .of_eq (h us hl)
def fM (CX:CXT) (X:Cx) (E:XK):Prop:=∀ (pins:List (Addr×Obj)) (σ:St) (H:Hp) (s:Shared) (e:Value) (s':Shared),Inv X pins σ H s→CX X.stack H s E e s'→X.xe e s'
section
variable {X:Cx} {CX:CXT} {k:Nat} {f C:Addr} {fd:FuncData} {ps:List Str} {sp:Sp} {dvs:List V} {ds:List Value} {E:XK} {x m:Str} {p pos apos:Pos} {e o:Expr} {es:List Expr} {ta:TE} {t:TA}
theorem zQ {pins:List (Addr×Obj)} {σ:St} {H:Hp} {s:Shared} {Q:VK} {us:List Value} {vs:List V} (F:bo X.prog X.w X.K X.mg X.base CX k f fd ps sp) (hr:d_ k X.A) (hb:aP X.K fd ps ds) (hd:aY dvs ds) (hx:fM CX X E)
  (I:Inv X pins σ H s) (r:aY vs us) (h:sp (vs++dvs) H Q E):wpAny (model X.prog X.w) X.A (call (.ref f) us) (EP X pins σ Q) X.xe s:=by
 have r2:aY (vs++dvs) (us++ds):=r.append hd
 have hl:(us++ds).length=ps.length:=by rw [← r2.length]; exact F.len _ _ _ _ h
 refine wpAny_call (codeAny_mono (F.run X.A X.stack s H ⟨us,[]⟩ (us++ds) (vs++dvs) Q E hr I.env0 (hb s us I.kIn hl) r2 h) fun r s' hq=> ?_)
 cases r with
 | error e=> exact hx pins σ H s e s' I hq
 | ok fl=>
  cases fl with
  | ret u=> exact I.after hq
  | next=> exact False.elim hq
  | brk=> exact False.elim hq
  | cont=> exact False.elim hq
theorem jf (F:bo X.prog X.w X.K X.mg X.base CX k f fd ps sp) (hr:d_ k X.A) (hg:Gl X x) (hm:X.mg x=some (.ref f)) (hk:CA X.K (.ref f)=true) (hb:aP X.K fd ps ds) (hd:aY dvs ds) (hx:fM CX X E)
  (ha:PA X (e::es) t) (hdb:(x==("__debug__":Str))=false:=by decide) (he:starEach (e::es) X.env=(false,eval e X.env)::starEach es X.env:=by rfl) (hpl:(backTo pos (starEach es X.env)).any (·.1)=false:=by rfl):
  PE X (.Call (.Name x p) (e::es) [] pos) (A8 sp dvs E t):=by
 intro pins s σ H Q I h
 refine wpAny_Call_Name_kw (rW I hg hm ?_ hdb)
 refine PySem.W.callWith_K (h₀:=X.base) I.ok.mod.kin hk (thn (ha pos pins s σ H _ I h) fun us s1 ⟨vs,H1,I1,r,q⟩=> ⟨I1.kIn,?_⟩) he hpl
 exact zQ F hr hb hd hx I1 r q
structure Mk (K:Cn) (C f:Addr):Prop where
 makes:PySem.W.makesIn K C=true
 init:FN K (.ref C) "__init__"=some (some (.ref f))
 fn:Ji K (.ref f)=true
 kp:CA K (.ref C)=true
end
section
variable {X:Cx} {CX:CXT} {k:Nat} {f C:Addr} {fd:FuncData} {ps ks:List Str} {sp:Sp} {E:XK} {x m:Str} {p pos apos kpos:Pos} {e o:Expr} {es:List Expr} {kws:List Keyword} {te ta:TE} {t tk:TA} {nm:Option Str}
structure B4 (K:Cn) (fd:FuncData) (ps ks:List Str) (g:List Value→List Value→List Value) (gV:List V→List V→List V):Prop where
 to:∀ (s:Shared) (us ws:List Value),K.In s.heap→(g us ws).length=ps.length→BindsTo s fd ⟨us,ks.zip ws⟩ (ps.zip (g us ws))
 rel:∀ {vs:List V} {us:List Value} {zs:List V} {ws:List Value},aY vs us→aY zs ws→aY (gV vs zs) (g us ws)
variable {g:List Value→List Value→List Value} {gV:List V→List V→List V}
end
structure aw (N P:List Str) (sc:Scope):Prop where
 kind:sc.kind=.function
 co:sc.isCoroutine=false
 gen:sc.isGenerator=false
 nd:N.Nodup
 pre:N.take P.length=P
 par:∀ x∈P,sc.names.lookup x=some .local∨sc.names.lookup x=some .cell
 nofree:∀ y∈sc.names,y.2≠.free
theorem lz {kindOf:Str→Option NameKind} {x:Str}:∀ {binds:List (Str×Value)} {m:Str→Option Value},(∀ v,(x,v) ∉ binds)→bindL kindOf binds m x=m x
 | [],_,_=> rfl
 | (n,v)::r,m,h=> by
  unfold bindL
  rw [lz fun w hw=> h w (Cp _ hw)]
  split
  ·have:x≠n:=by rintro rfl; exact h v Cy
   simp [this]
  ·rfl
theorem lF {kindOf:Str→Option NameKind} {x:Str}:∀ {binds:List (Str×Value)} {m:Str→Option Value},(∀ v,(x,v) ∉ binds)→bindC kindOf binds m x=m x
 | [],_,_=> rfl
 | (n,v)::r,m,h=> by
  unfold bindC
  rw [lF fun w hw=> h w (Cp _ hw)]
  split
  ·rfl
  ·have:x≠n:=by rintro rfl; exact h v Cy
   simp [this]
theorem lE {kindOf:Str→Option NameKind} {x:Str} {v:Value}:∀ {P:List Str} {vs:List Value} {i:Nat} {m:Str→Option Value},P.Nodup→P[i]?=some x→vs[i]?=some v→kindOf x=some .local→
  bindL kindOf (P.zip vs) m x=some v
 | [],_,_,_,_,h,_,_=> by simp at h
 | _::_,[],_,_,_,_,h,_=> by simp at h
 | p::P,w::vs,0,m,nd,h1,h2,hk=> by
  simp at h1 h2; subst h1; subst h2
  show bindL kindOf ((p,w)::P.zip vs) m p=_
  unfold bindL
  rw [lz fun v hv=> (EG.mp nd).1 (Fv hv).1,if_pos hk]
  simp
 | p::P,w::vs,i+1,m,nd,h1,h2,hk=> by
  show bindL kindOf ((p,w)::P.zip vs) m x=_
  unfold bindL
  exact lE (i:=i) (EG.mp nd).2 (by simpa using h1) (by simpa using h2) hk
theorem kO {kindOf:Str→Option NameKind} {x:Str} {v:Value}:∀ {P:List Str} {vs:List Value} {i:Nat} {m:Str→Option Value},P.Nodup→P[i]?=some x→vs[i]?=some v→kindOf x≠some .local→
  bindC kindOf (P.zip vs) m x=some v
 | [],_,_,_,_,h,_,_=> by simp at h
 | _::_,[],_,_,_,_,h,_=> by simp at h
 | p::P,w::vs,0,m,nd,h1,h2,hk=> by
  simp at h1 h2; subst h1; subst h2
  show bindC kindOf ((p,w)::P.zip vs) m p=_
  unfold bindC
  rw [lF fun v hv=> (EG.mp nd).1 (Fv hv).1,if_neg hk]
  simp
 | p::P,w::vs,i+1,m,nd,h1,h2,hk=> by
  show bindC kindOf ((p,w)::P.zip vs) m x=_
  unfold bindC
  exact kO (i:=i) (EG.mp nd).2 (by simpa using h1) (by simpa using h2) hk
def start (N:List Str) (vs:List V):St:=vs.map some++IE (N.length - vs.length) none
def eF (CX:CXT) (P:Program) (w:World) (K:Cn) (mg:Str→Option Value) (base:Heap) (N:List Str) (qual:Str) (scope:Scope) (f:Addr) (cd:Value) (A:Around) (outer:List Env) (s:Shared) (H:Hp) (E:XK):Cx where
 prog:=P
 w:=w
 K:=K
 mg:=mg
 base:=base
 A:=A.deeper (envOfC qual scope s.heap.objs.size f cd)
 N:=N
 s₀:=s
 H₀:=H
 env:=envOfC qual scope s.heap.objs.size f cd
 outer:=outer
 stack:=envOfC qual scope s.heap.objs.size f cd::outer
 ex:=[]
 calm:=true
 fn:=fun _=> true
 pn:=[]
 xe:=fun e s'=> wpAny (model P w) (A.deeper (envOfC qual scope s.heap.objs.size f cd)) (leaving (envOfC qual scope s.heap.objs.size f cd) e) (fun _ s''=> CX outer H s E e s'') (fun e' s''=> CX outer H s E e' s'') s'
theorem oG {sc:Scope} {n:Nat} {x:Str} (h:sc.names.lookup x=some .cell):∃ c,(cellsFrom n sc.names []).lookup x=some c:=by
 have q:=FE sc.names n [] (.inl h)
 exact Fs.mp q
theorem t5 {CX:CXT} {P:Program} {w:World} {K:Cn} {mg:Str→Option Value} {base:Heap} {N ps:List Str} {qual:Str} {scope:Scope} {f:Addr} {cd:Value} {A:Around} {outer:List Env} {s s1:Shared} {H:Hp} {E:XK} {us:List Value} {vs:List V}
  (S:aw N ps scope) (hd:A.handled=none) (e0:x8 P w K mg base A outer s H) (hl:vs.length=ps.length) (r:aY vs us)
  (x:InCallC s s.heap.objs.size (bindL (envOfC qual scope s.heap.objs.size f cd).kindOf (ps.zip us) fun _=> none) (cellsFrom (s.heap.objs.size+1) scope.names []) (bindC (envOfC qual scope s.heap.objs.size f cd).kindOf (ps.zip us) fun _=> none) s1):
  Inv (eF CX P w K mg base N qual scope f cd A outer s H E) [] (start N vs) H s1:=by
 have hpl:ps.length≤N.length:=by have:=congrArg List.length S.pre; rw [FW] at this; omega
 obtain ⟨h1,tk,rfl,hk⟩:=x.done
 have noA:∀ b:Addr,b ∉ (eF CX P w K mg base N qual scope f cd A outer s H E).ex:=fun b z=> absurd (show b∈([]:List Addr) from z) (by simp)
 refine ⟨⟨e0.mod,S.kind,rfl,rfl,Cv _,fun y z c h1 h2=> ?_,fun y hy=> ?_,fun y c _ h=> ?_,fun _=> hd,Around.frames_deeper e0.frames,.inr ⟨rfl,rfl⟩,fun b z=> absurd z (noA b),e0.bs,e0.bsz,fun b _ _=> noA b,fun b z=> absurd z (noA b),e0.funs,e0.frf⟩,
  rfl,e0.bare,Un.kept hk,⟨_,x.toInCall.ns,fun i y v h1 h2 h3=> ?_⟩,fun y c h=> ⟨_,x.cell y c h⟩,e0.hok.fresh (Cv _),fun y c h=> ?_,fun p hp=> absurd (show p∈([]:List (Addr×Obj)) from hp) (by simp),e0.hok.kept hk,?_⟩
 ·exact name_of_addr x.apart (Ea h1) (Ea h2)
 ·have hy:scope.names.lookup y=some .cell∨scope.names.lookup y=some .free:=hy
  rcases hy with hy | hy
  ·exact oG hy
  ·exact absurd rfl (S.nofree _ (Ea hy))
 ·exact DF (x.above y c (Ea h))
 ·have hi:i < vs.length:=by
   unfold start at h2
   by_cases hi:i < vs.length
   ·exact hi
   ·rw [CQ (by simpa using hi)] at h2
    rw [EA] at h2
    split at h2 <;> cases h2
  have ha:vs[i]?=some v:=by
   unfold start at h2
   rw [CP (by simpa using hi),Ct] at h2
   cases e:vs[i]? with
   | none=> rw [e] at h2; cases h2
   | some a=> rw [e] at h2; cases h2; rfl
  obtain ⟨u,hu,rv⟩:=r.get ha
  have hp:ps[i]?=some y:=by
   rw [← S.pre,Eb (by omega)]; exact h1
  have ndP:ps.Nodup:=by rw [← S.pre]; exact S.nd.sublist (List.take_sublist _ _)
  refine ⟨u,rv,?_⟩
  rcases S.par y (CM hp) with k | k
  ·exact .inl ⟨k,lE ndP hp hu k⟩
  ·obtain ⟨c,e⟩:=oG (n:=s.heap.objs.size+1) k
   refine .inr ⟨.inl k,c,e,?_⟩
   have q:=x.cell y c e
   rw [kO ndP hp hu (by show scope.names.lookup y≠_; rw [k]; decide)] at q
   exact q
 ·exact e0.hok.fresh (DF (x.above y c (Ea h)))
 ·unfold start
  show _=N.length
  rw [Dv,Co,EM]
  omega
theorem zf {CX:CXT} {P:Program} {w:World} {K:Cn} {mg:Str→Option Value} {base:Heap} {k:Nat} {f:Addr} {name qual:Str} {params:Arguments} {body:List Stmt} {scope:Scope} {dV kV doc pm cdv ct oc:Value} {an od:Option Addr}
  {osl:Array (Option Value)} {N ps:List Str} {sp:Sp} (lk:K.lookup f=some ⟨oc,od,.func (CJ name qual params body scope dV kV doc pm an cdv ct),osl⟩) (hcd:CD K cdv qual=true) (S:aw N ps scope)
  (len:∀ vs H Q E,sp vs H Q E→vs.length=ps.length)
  (hbody:∀ (A:Around) (outer:List Env) (s:Shared) (H:Hp) (vs:List V) (Q:VK) (E:XK),d_ k (A.deeper (envOfC qual scope s.heap.objs.size f cdv))→sp vs H Q E→
   ∃ t,PSs (eF CX P w K mg base N qual scope f cdv A outer s H E) body t∧t { nx:=fun _ H'=> Q .non H',rt:=Q } (start N vs) H):
  bo P w K mg base CX (k+1) f (CJ name qual params body scope dV kV doc pm an cdv ct) ps sp:=by
 refine ⟨len,fun A outer s H args us vs Q E hr e0 hb r hsp=> ?_⟩
 have hl:=len _ _ _ _ hsp
 have KX:K.In s.heap:=e0.mod.kin.keeps fun b o e=> (e0.bs b o e).1
 have lim:s.heap.NoLimit:=e0.mod.nolimit.keeps fun b o e=> (e0.bs b o e).1
 have hkind:∀ y∈ps.zip us,scope.names.lookup y.1=some .local∨(scope.names.lookup y.1=some .cell∧((cellsFrom (s.heap.objs.size+1) scope.names []).lookup y.1).isSome=true):=fun ⟨n,v⟩ hy=> by
  rcases S.par n (Fv hy).1 with q | q
  ·exact .inl q
  ·exact .inr ⟨q,FE _ _ _ (.inl q)⟩
 refine codeAny_call_function hr.depth (KX _ _ lk) rfl S.co S.gen rfl (PySem.W.codeRec_of KX hcd) (hb _ _ _ _ ?_)
 refine wpAny_newFunctionEnv_cells S.kind hkind fun env he s1 x=> ?_
 subst he
 refine ⟨lim.keeps x.toInCall.keep,codeAny_func ?_⟩
 obtain ⟨t,ht,hq⟩:=hbody A outer s H vs Q E (hr.deeper _) hsp
 have I:Inv (eF CX P w K mg base N qual scope f cdv A outer s H E) [] (start N vs) H s1:=t5 S hr.hd e0 hl r x
 refine wpAny_mono (ht [] s1 (start N vs) H _ I hq) (fun fl s' hs=> ?_) fun e s' hs=> hs
 have fin:∀ {σ':St} {H':Hp} {v:V} {u:Value},Inv (eF CX P w K mg base N qual scope f cdv A outer s H E) [] σ' H' s'→bp v u→Q v H'→CE outer P w H s Q u s':=
  fun {σ' H' v u} J rv q=> ⟨v,H',J.os,J.bare,J.base,J.hok,rv,q⟩
 cases fl with
 | ret u=>
  obtain ⟨v,σ',H',J,rv,q⟩:=hs
  exact fin J rv q
 | next=>
  obtain ⟨σ',H',J,q⟩:=hs
  exact fin (v:=V.non) (u:=C2) J rfl q
 | brk=>
  obtain ⟨_,_,_,q⟩:=hs
  exact False.elim q
 | cont=>
  obtain ⟨_,_,_,q⟩:=hs
  exact False.elim q
end L2
namespace L2
open PySem PySem.Spec PyProof.Rows
section
variable {X:Cx} {x:Str} {p pos:Pos} {e:Expr} {es:List Expr} {t:TA} {id T:String} {r:List V→Hp→VK→Prop}
def tCB (r:List V→Hp→VK→Prop) (t:TA):TE:=fun σ H Q=> t σ H fun vs H1=> r vs H1 Q
theorem oS (hc:cS X (.builtin id) r) (hg:Gl X x) (hm:X.mg x=none) (hv:bootBuiltins x=some (.builtin id)) (ha:PA X (e::es) t) (hn:x≠"__name__":=by decide) (hdb:(x==("__debug__":Str))=false:=by decide)
  (he:starEach (e::es) X.env=(false,eval e X.env)::starEach es X.env:=by rfl) (hpl:(backTo pos (starEach es X.env)).any (·.1)=false:=by rfl):PE X (.Call (.Name x p) (e::es) [] pos) (tCB r t):=by
 intro pins s σ H Q I h
 refine wpAny_Call_Name_kw (dQ I hg hm hv ?_ hn hdb)
 exact PyProof.Rows.callWith_builtin1 (thn (ha pos pins s σ H _ I h) fun us s1 ⟨vs,H1,I1,r1,q1⟩=> hc pins s1 σ H1 vs us Q I1 r1 q1) he hpl
theorem kR (hc:cS X (.type T) r) (hg:Gl X x) (hm:X.mg x=none) (hv:bootBuiltins x=some (.type T)) (ha:PA X (e::es) t) (hn:x≠"__name__":=by decide) (hdb:(x==("__debug__":Str))=false:=by decide)
  (he:starEach (e::es) X.env=(false,eval e X.env)::starEach es X.env:=by rfl) (hpl:(backTo pos (starEach es X.env)).any (·.1)=false:=by rfl):PE X (.Call (.Name x p) (e::es) [] pos) (tCB r t):=by
 intro pins s σ H Q I h
 refine wpAny_Call_Name_kw (dQ I hg hm hv ?_ hn hdb)
 exact PyProof.Rows.callWith_type1 (thn (ha pos pins s σ H _ I h) fun us s1 ⟨vs,H1,I1,r1,q1⟩=> hc pins s1 σ H1 vs us Q I1 r1 q1) he hpl
end
end L2
namespace HT
open PySem PyProof.Rows
section
open PySem.SeqAt
open PySem.AutoSeq1 (wpAny_loadPart')
open PySem.MeetsSeq PySem.MeetsSeq2 PySem.MeetsSeq3
end
section
variable {prog:Program} {w:World} {A:Around} {E:Value→Shared→Prop} {s:Shared}
def sIx (n d:Nat):Option Int→Nat
 | none=> d
 | some v=> if v < 0 then (v+(n:Int)).toNat else min v.toNat n
end
end HT
namespace L2
open PySem PySem.Spec PyProof.Rows
abbrev TO:=St→Hp→(Option Int→Hp→Prop)→Prop
def PO (X:Cx) (e:Option Expr) (t:TO):Prop:=
 ∀ (pins:List (Addr×Obj)) (s:Shared) (σ:St) (H:Hp) (Q:Option Int→Hp→Prop),Inv X pins σ H s→t σ H Q→
  wpAny (model X.prog X.w) X.A (evalPart e X.env) (fun u s'=> ∃ o H',Inv X pins σ H' s'∧IsPart u o∧Q o H') X.xe s
def yg:TO:=fun _ H Q=> Q none H
def BB (t:TE):TO:=fun σ H Q=> t σ H fun x H1=> ∃ i,x=.int i∧Q (some i) H1
section
variable {X:Cx} {e:Expr} {te:TE} {lo hi:Option Expr} {tl th:TO} {pos p2:Pos}
theorem xQ:PO X none yg:=by
 intro pins s σ H Q I h
 rw [evalPart_none]
 exact wpAny_pure ⟨none,H,I,.none,h⟩
theorem ym (h:PE X e te):PO X (some e) (BB te):=by
 intro pins s σ H Q I hw
 rw [evalPart_some]
 refine thn (h pins s σ H _ I hw) fun u s1 ⟨x,H1,I1,r1,q1⟩=> ?_
 obtain ⟨i,rfl,q⟩:=q1
 obtain ⟨t,rfl⟩:=r1
 exact ⟨some i,H1,I1,.int i t,q⟩
def SlR (X:Cx) (r:V→Option Int→Option Int→Hp→VK→Prop):Prop:=
 ∀ (pins:List (Addr×Obj)) (s:Shared) (σ:St) (H:Hp) (x:V) (v vl vu:Value) (lo hi:Option Int) (sl:Addr) (Q:VK),Inv X pins σ H s→bp x v→s.heap.IsSliceOf sl vl vu .none→IsPart vl lo→IsPart vu hi→r x lo hi H Q→
  ∃ T id,typeLookup (.type T) "__getitem__"=pure (some (.builtin id))∧s.TypeIs v T∧wpAny (model X.prog X.w) X.A (getItem v (.ref sl)) (EP X pins σ Q) X.xe s
def tSl (r:V→Option Int→Option Int→Hp→VK→Prop) (te:TE) (tl th:TO):TE:=fun σ H Q=> te σ H fun x H1=> tl σ H1 fun l H2=> th σ H2 fun u H3=> r x l u H3 Q
theorem vL {r:V→Option Int→Option Int→Hp→VK→Prop} (hr:SlR X r) (he:PE X e te) (hl:PO X lo tl) (hu:PO X hi th):PE X (.Subscript e (.Slice lo hi none p2) pos) (tSl r te tl th):=by
 intro pins s σ H Q I h
 refine Subscript_ (thn (he pins s σ H _ I h) fun v s1 ⟨x,H1,I1,r1,q1⟩=> ?_)
 refine wpAny_Slice (thn (hl pins s1 σ H1 _ I1 q1) fun vl s2 ⟨l,H2,I2,pl,q2⟩=> thn (hu pins s2 σ H2 _ I2 q2) fun vu s3 ⟨u,H3,I3,pu,q3⟩=> ?_)
 rw [evalPart_none]
 refine wpAny_pure ?_
 have I4:Inv X pins σ H3 { s3 with heap:=s3.heap.push { cls:=.type "slice",data:=.fields #[vl,vu,.none] } }:=I3.kept (t':=s3.toks) fun b ob q=> Cq _ q
 obtain ⟨T,id,hT,ht,hg⟩:=hr pins { s3 with heap:=s3.heap.push { cls:=.type "slice",data:=.fields #[vl,vu,.none] } } σ H3 x v vl vu l u s3.heap.objs.size Q I4 r1 (HD ..) pl pu q3
 show wpAny (model X.prog X.w) X.A (subscriptTail e (.Slice lo hi none p2) v (.ref s3.heap.objs.size)) (EP X pins σ Q) X.xe { s3 with heap:=s3.heap.push { cls:=.type "slice",data:=.fields #[vl,vu,.none] } }
 exact tail_any (ops:=[.ref s3.heap.objs.size,v]) ht hT hg (by with_unfolding_all rfl)
def td (xs:List V) (lo hi:Option Int):List V:=(xs.drop (HT.sIx xs.length 0 lo)).take (HT.sIx xs.length xs.length hi - HT.sIx xs.length 0 lo)
theorem nU (xs:List V) (lo hi:Option Int):(td xs lo hi).length≤xs.length:=by
 unfold td
 rw [FW,List.length_drop]
 omega
end
end L2
namespace L2
open PySem PySem.Spec PyProof.Rows
def ixN (n:Nat) (i:Int):Option Nat:=if 0≤i then (if i < n then some i.toNat else none) else if -(n:Int)≤i then some (i+n).toNat else none
def atI {α:Type} (xs:List α) (i:Int):Option α:=(ixN xs.length i).bind fun j=> xs[j]?
theorem yT {n:Nat} {i:Int} {j:Nat} (h:ixN n i=some j):seqIndex? i n=some j∧j < n∧-(n:Int)≤i∧i < n:=by
 unfold ixN at h
 by_cases h0:0≤i
 ·rw [if_pos h0] at h
  by_cases h1:i < n
  ·rw [if_pos h1] at h
   have e:i.toNat=j:=Dg h
   exact ⟨by rw [seqIndex_of h0 h1,e],by omega,by omega,h1⟩
  ·rw [if_neg h1] at h; cases h
 ·rw [if_neg h0] at h
  by_cases h1:-(n:Int)≤i
  ·rw [if_pos h1] at h
   have e:(i+n).toNat=j:=Dg h
   exact ⟨by rw [seqIndex_neg (by omega) h1,e],by omega,h1,by omega⟩
  ·rw [if_neg h1] at h; cases h
theorem rM {α:Type} {xs:List α} {i:Int} {v:α} (h:atI xs i=some v):∃ j,seqIndex? i xs.length=some j∧xs[j]?=some v∧j < xs.length∧-(xs.length:Int)≤i∧i < xs.length:=by
 unfold atI at h
 cases e:ixN xs.length i with
 | none=> rw [e] at h; cases h
 | some j=>
  rw [e] at h
  obtain ⟨h1,h2,h3,h4⟩:=yT e
  exact ⟨j,h1,h,h2,h3,h4⟩
theorem qJ {α:Type} {xs:List α} {j:Nat} {v:α} (h:xs[j]?=some v):atI xs (j:Int)=some v:=by
 have hj:j < xs.length:=(Cz.mp h).1
 have e:ixN xs.length (j:Int)=some j:=by
  unfold ixN
  rw [if_pos (by omega),if_pos (by omega)]; simp
 unfold atI; rw [e]; exact h
def lZ (b:Expr):Prop:=∀ o i,subscripted b false o i=operate [o,i] (getItem o i)
def IxR (X:Cx) (r:R2):Prop:=
 ∀ (value slice:Expr) (pins:List (Addr×Obj)) (s:Shared) (σ:St) (H:Hp) (x y:V) (v u:Value) (Q:VK),Inv X pins σ H s→bp x v→bp y u→r x y H Q→
  subscripted slice false v u=operate [v,u] (getItem v u)→wpAny (model X.prog X.w) X.A (subscriptTail value slice v u) (EP X pins σ Q) X.xe s
def MtR (X:Cx) (id:String) (r:V→List V→Hp→VK→Prop):Prop:=
 ∀ (pins:List (Addr×Obj)) (s:Shared) (σ:St) (H:Hp) (x:V) (xs:List V) (v:Value) (us:List Value) (Q:VK),Inv X pins σ H s→bp x v→aY xs us→r x xs H Q→
  wpAny (model X.prog X.w) X.A (call (.builtin id) (v::us)) (EP X pins σ Q) X.xe s
section
variable {X:Cx} {a b:Expr} {ta tb:TE} {pos:Pos}
theorem IxR.or {r r':R2} (h:IxR X r) (h':IxR X r'):IxR X (fun x y H Q=> r x y H Q∨r' x y H Q):=by
 intro value slice pins s σ H x y v u Q I rx ry q hs
 rcases q with q | q
 ·exact h value slice pins s σ H x y v u Q I rx ry q hs
 ·exact h' value slice pins s σ H x y v u Q I rx ry q hs
theorem yW {r:R2} (hr:IxR X r) (ha:PE X a ta) (hb:PE X b tb) (hs:lZ b):PE X (.Subscript a b pos) (tOp r ta tb):=by
 intro pins s σ H Q I h
 exact Subscript_ (zI ha hb I h fun v u s2 x y H2 I2 rx ry q=> hr a b pins s2 σ H2 x y v u Q I2 rx ry q (hs _ _))
def BY (K:Cn):R2:=fun x y H Q=> ∃ p xs i v,x=.ref p∧y=.int i∧SqL K H p xs∧atI xs i=some v∧Q v H
def Cd (K:Cn):R2:=fun x y H Q=> ∃ p xs i v,x=.ref p∧y=.int i∧SqT K H p xs∧atI xs i=some v∧Q v H
theorem rG:IxR X (BY X.K):=by
 intro value slice pins s σ H x y v u Q I rx ry h hs
 obtain ⟨p,xs,i,z,rfl,rfl,hq,he,q⟩:=h
 cases rx
 obtain ⟨t,rfl⟩:=ry
 obtain ⟨its,r,pl,hz⟩:=I.list hq
 obtain ⟨j,h1,h2,h3,h4,h5⟩:=rM he
 obtain ⟨w,ew,rw'⟩:=r.get h2
 have hl:=r.length
 have hn:=qe
 have fin:EP X pins σ Q w s:=⟨z,H,I,rw',q⟩
 by_cases h0:0≤i
 ·have hj:i.toNat=j:=by
   rw [seqIndex_of h0 h5] at h1
   exact Dg h1
  exact item_listR pl.isList h0 (by omega) (by rw [hj]; simpa using ew) fin hs
 ·have hj:(i+(its.toArray.size:Int)).toNat=j:=by
   rw [seqIndex_neg (by omega) h4] at h1
   rw [CH,← hl]
   exact Dg h1
  exact subscriptTail_builtinR (x:=w) pl.isList.typeIs slot_list_getitem.lookup
   (wpAny_getItem_list_neg (Q:=fun r s'=> r=w∧EP X pins σ Q r s') pl.isList (by omega) (by rw [CH] <;> omega) (by omega) (by rw [hj]; simpa using ew) ⟨rfl,fin⟩) hs
theorem AB:IxR X (Cd X.K):=by
 intro value slice pins s σ H x y v u Q I rx ry h hs
 obtain ⟨p,xs,i,z,rfl,rfl,hq,he,q⟩:=h
 cases rx
 obtain ⟨t,rfl⟩:=ry
 obtain ⟨its,r,pl,hz⟩:=I.tuple hq
 obtain ⟨j,h1,h2,h3,h4,h5⟩:=rM he
 obtain ⟨w,ew,rw'⟩:=r.get h2
 have hl:=r.length
 have hn:=qe
 have fin:EP X pins σ Q w s:=⟨z,H,I,rw',q⟩
 exact subscriptTail_builtinR (x:=w) pl.typeIs slot_tuple_getitem.lookup
  (getItem_tuple (j:=j) (Q:=fun r s'=> r=w∧EP X pins σ Q r s') pl (by omega) (by omega) (by rw [CH,← hl]; exact h1) (by simpa using ew) ⟨rfl,fin⟩) hs
theorem mH (lo hi:Option Int) (n:Nat):(sliceBounds lo hi none n).1=((HT.sIx n 0 lo:Nat):Int)∧(sliceBounds lo hi none n).2.1=((HT.sIx n n hi:Nat):Int)∧(sliceBounds lo hi none n).2.2=1:=by
 refine ⟨?_,?_,rfl⟩
 ·cases lo with
  | none=> simp [sliceBounds,HT.sIx]
  | some i=>
   simp only [sliceBounds,HT.sIx,GZ,show (1:Int) > 0 by decide,if_true]
   by_cases h:i < 0
   ·simp only [h,if_true] <;> omega
   ·simp only [h,if_false] <;> omega
 ·cases hi with
  | none=> simp [sliceBounds,HT.sIx]
  | some i=>
   simp only [sliceBounds,HT.sIx,GZ,show (1:Int) > 0 by decide,if_true]
   by_cases h:i < 0
   ·simp only [h,if_true] <;> omega
   ·simp only [h,if_false] <;> omega
theorem kM (its:List Value) (lo hi:Option Int):slicePick its.toArray lo hi none=((its.drop (HT.sIx its.length 0 lo)).take (HT.sIx its.length its.length hi - HT.sIx its.length 0 lo)).toArray:=by
 obtain ⟨h1,h2,h3⟩:=mH lo hi its.toArray.size
 unfold slicePick
 rw [h1,h2,h3]
 simp only [sliceRange_one,pick_run,CH] <;> rfl
def B8 (K:Cn):V→Option Int→Option Int→Hp→VK→Prop:=fun x lo hi H Q=> ∃ a xs,x=.ref a∧SqL K H a xs∧∀ p,H p=none→Q (.ref p) (upd H p (.lst (td xs lo hi)))
theorem yy:SlR X (B8 X.K):=by
 intro pins s σ H x v vl vu lo hi sl Q I rx hs pl pu h
 obtain ⟨a,xs,rfl,hx,q⟩:=h
 cases rx
 obtain ⟨its,r,ht,hz⟩:=I.list hx
 have hlen:=r.length
 refine ⟨"list",_,slot_list_getitem.lookup,ht.isList.typeIs,?_⟩
 refine wpAny_getItem_list_slice ht.isList hs pl pu .none (by simp) ?_ (by rw [CH] <;> omega)
 rw [kM,← hlen]
 refine ⟨.ref s.heap.objs.size,_,I.laid (t':=s.toks) (o:=.lst (td xs lo hi)) (fun b ob q=> Cq _ q) (Cv _) ?_,rfl,q _ (I.hok.fresh (Cv _))⟩
 exact ⟨DK (nU xs lo hi) hz,_,0,(r.drop (HT.sIx xs.length 0 lo)).take (HT.sIx xs.length xs.length hi - HT.sIx xs.length 0 lo),CG _ rfl⟩
def gH:V→Bool
 | .non=> true
 | .bl _=> true
 | .int _=> true
 | .str _=> true
 | _=> false
def eqV:V→V→Bool
 | .non,.non=> true
 | .bl a,.bl b=> a==b
 | .bl a,.int b=> (if a then 1 else 0)==b
 | .int a,.bl b=> a==(if b then 1 else 0)
 | .int a,.int b=> a==b
 | .str a,.str b=> a==b
 | _,_=> false
theorem zX {A:Around} {s:Shared} {y x:V} {u v:Value} (ry:bp y u) (rx:bp x v) (fy:gH y=true) (fx:gH x=true):SeqAt.EqAt A s u v (eqV y x):=by
 cases y with
 | non=>
  cases ry
  cases x with
  | non=> cases rx; exact SeqAt.EqAt.same _
  | bl b=> cases rx; exact SeqAt.EqAt.none_bool b
  | int b=> obtain ⟨t,rfl⟩:=rx; exact SeqAt.EqAt.none_int b t
  | str b=> obtain ⟨t,rfl⟩:=rx; exact SeqAt.EqAt.none_str b t
  | _=> exact absurd (show false=true from fx) C0
 | bl a=>
  cases ry
  cases x with
  | non=> cases rx; exact SeqAt.EqAt.bool_none a
  | bl b=> cases rx; exact SeqAt.EqAt.bool_bool a b
  | int b=> obtain ⟨t,rfl⟩:=rx; exact SeqAt.EqAt.bool_int a b t
  | str b=> obtain ⟨t,rfl⟩:=rx; exact SeqAt.EqAt.bool_str a b t
  | _=> exact absurd (show false=true from fx) C0
 | int a=>
  obtain ⟨t',rfl⟩:=ry
  cases x with
  | non=> cases rx; exact SeqAt.EqAt.int_none a t'
  | bl b=> cases rx; exact SeqAt.EqAt.int_bool a t' b
  | int b=> obtain ⟨t,rfl⟩:=rx; exact SeqAt.EqAt.int_int a t' b t
  | str b=> obtain ⟨t,rfl⟩:=rx; exact SeqAt.EqAt.int_str a t' b t
  | _=> exact absurd (show false=true from fx) C0
 | str a=>
  obtain ⟨t',rfl⟩:=ry
  cases x with
  | non=> cases rx; exact SeqAt.EqAt.str_none a t'
  | bl b=> cases rx; exact SeqAt.EqAt.str_bool a t' b
  | int b=> obtain ⟨t,rfl⟩:=rx; exact SeqAt.EqAt.str_int a t' b t
  | str b=> obtain ⟨t,rfl⟩:=rx; exact SeqAt.EqAt.str_str a t' b t
  | _=> exact absurd (show false=true from fx) C0
 | _=> exact absurd (show false=true from fy) C0
def eqU (x:V) (u:Value):Bool:=match u with
 | .none=> eqV .non x
 | .bool b=> eqV (.bl b) x
 | .int i _=> eqV (.int i) x
 | .str z _=> eqV (.str z) x
 | _=> false
theorem vJ {x y:V} {u:Value} (r:bp y u) (f:gH y=true):eqU x u=eqV y x:=by
 cases y with
 | non=> cases r; rfl
 | bl b=> cases r; rfl
 | int i=> obtain ⟨t,rfl⟩:=r; rfl
 | str z=> obtain ⟨t,rfl⟩:=r; rfl
 | _=> exact absurd (show false=true from f) C0
theorem mZ {x:V}:∀ {xs:List V} {us:List Value},aY xs us→xs.all gH=true→us.any (eqU x)=xs.any fun y=> eqV y x
 | _,_,.nil,_=> rfl
 | y::xs,u::us,.cons r t,f=> by
  rw [Fw,Dx] at f
  rw [I0,I0,vJ r f.1,mZ t f.2]
theorem jD {A:Around} {s:Shared} {x:V} {v:Value} (rx:bp x v) (fx:gH x=true):∀ {xs:List V} {us:List Value},aY xs us→xs.all gH=true→∀ u∈us,SeqAt.EqAt A s u v (eqU x u)
 | _,_,.nil,_=> fun u hu=> by cases hu
 | y::xs,u::us,.cons r t,f=> fun u' hu=> by
  rw [Fw,Dx] at f
  rcases Cu.mp hu with rfl | hu
  ·rw [vJ r f.1]; exact zX r rx f.1 fx
  ·exact jD rx fx t f.2 u' hu
def inV (x:V) (xs:List V):Bool:=xs.any fun y=> eqV y x
def rIn (K:Cn) (neg:Bool):R2:=fun x y H Q=> ∃ p xs,y=.ref p∧(SqL K H p xs∨SqT K H p xs)∧gH x=true∧xs.all gH=true∧Q (.bl (if neg then !inV x xs else inV x xs)) H
theorem sW:OpR X (compareOp .In) (rIn X.K false):=by
 intro pins s σ H x y v u Q I rx ry h
 obtain ⟨p,xs,rfl,hq,fx,fs,q⟩:=h
 cases ry
 rcases hq with hq | hq
 ·obtain ⟨its,r,pl,hz⟩:=I.list hq
  refine SeqAt.in_listAt (eqU x) pl.isList (fun w hw=> jD rx fx r fs w (by simpa using hw)) ⟨.bl _,H,I,rfl,?_⟩
  rw [show its.toArray.any (eqU x)=its.any (eqU x) by simp,mZ r fs]
  exact q
 ·obtain ⟨its,r,pl,hz⟩:=I.tuple hq
  refine SeqAt.in_tupleAt (eqU x) pl (fun w hw=> jD rx fx r fs w (by simpa using hw)) ⟨.bl _,H,I,rfl,?_⟩
  rw [show its.toArray.any (eqU x)=its.any (eqU x) by simp,mZ r fs]
  exact q
theorem iw:cS X (.builtin "len") (fun xs H Q=> ∃ p ys,xs=[.ref p]∧(SqL X.K H p ys∨SqT X.K H p ys)∧Q (.int ys.length) H):=by
 intro pins s σ H xs us Q I r h
 obtain ⟨p,ys,rfl,hq,q⟩:=h
 obtain ⟨u,rfl,rx⟩:=fe r
 cases rx
 have hn:=qe
 rcases hq with hq | hq
 ·obtain ⟨its,r',pl,hz⟩:=I.list hq
  have hlen:=r'.length
  exact Calls.call_len_list pl.isList (by simp only [CH] <;> omega) ⟨.int ys.length,H,I.tok _,⟨s.toks+1,by rw [CH,hlen]⟩,q⟩
 ·obtain ⟨its,r',pl,hz⟩:=I.tuple hq
  have hlen:=r'.length
  exact len_tuple pl (by simp only [CH] <;> omega) ⟨.int ys.length,H,I.tok _,⟨s.toks+1,by rw [CH,hlen]⟩,q⟩
theorem lO:cS X (.type "list") (fun xs H Q=> ∃ p ys,xs=[.ref p]∧(SqL X.K H p ys∨SqT X.K H p ys)∧∀ l,H l=none→Q (.ref l) (upd H l (.lst ys))):=by
 intro pins s σ H xs us Q I r h
 obtain ⟨p,ys,rfl,hq,q⟩:=h
 obtain ⟨u,rfl,rx⟩:=fe r
 cases rx
 have fin:∀ (its:List Value),aY ys its→ys.length≤sizeLine→∀ (h':Heap) (c':Nat),(∀ b o',s.heap.get? b=some o'→h'.get? b=some o')→
   h'.get? s.heap.objs.size=some { cls:=.type "list",dict:=none,data:=.seq its.toArray c',slots:=#[] }→EP X pins σ Q (.ref s.heap.objs.size) { s with heap:=h' }:=fun its r' hz h' c' kp e=>
  ⟨.ref s.heap.objs.size,_,I.laid (t':=s.toks) kp (Cv _) (show cG X.prog X.w _ h' _ (.lst ys) from ⟨hz,its,c',r',e⟩),rfl,q _ (I.hok.fresh (Cv _))⟩
 rcases hq with hq | hq
 ·obtain ⟨its,r',pl,hz⟩:=I.list hq
  have hlen:=r'.length
  obtain ⟨o,ho,hc,n,hd⟩:=pl.isList
  exact call_list_seq p (.inl rfl) ho hc hd (fun h' c' kp e=> fin its r' hz h' c' kp e) (by simp only [CH] <;> omega)
 ·obtain ⟨its,r',pl,hz⟩:=I.tuple hq
  have hlen:=r'.length
  obtain ⟨o,ho,hc,n,hd⟩:=pl
  exact call_list_seq p (.inr rfl) ho hc hd (fun h' c' kp e=> fin its r' hz h' c' kp e) (by simp only [CH] <;> omega)
def tyV (K:Cn) (T:String) (x:V) (H:Hp):Prop:=match x with
 | .str _=> T="str"
 | .int _=> T="int"
 | .ref p=> (T="list"∧∃ xs,SqL K H p xs)∨(T="tuple"∧∃ o,K.lookup p=some o∧o.cls=.type "tuple"∧o.dict=none)∨
   (T="dict"∧((∃ kvs,H p=some (.dK kvs))∨∃ kvs,H p=some (.dT kvs)))∨(T="set"∧∃ S n,H p=some (.set S n))
 | _=> False
theorem vY {pins:List (Addr×Obj)} {σ:St} {H:Hp} {s:Shared} {T:String} {x:V} {v:Value} (I:Inv X pins σ H s) (r:bp x v) (ty:tyV X.K T x H):
  s.TypeIs v T∧∀ a,v=.ref a→∃ ob,s.heap.get? a=some ob∧ob.dict=none:=by
 cases x with
 | str z=>
  obtain ⟨t,rfl⟩:=r
  cases (show T="str" from ty)
  exact ⟨typeIs_str s z t,fun _ e=> nomatch e⟩
 | int i=>
  obtain ⟨t,rfl⟩:=r
  cases (show T="int" from ty)
  exact ⟨typeIs_int s i t,fun _ e=> nomatch e⟩
 | ref p=>
  cases r
  rcases ty with ⟨rfl,xs,hq⟩ | ⟨rfl,o,hk,hc,hd⟩ | ⟨rfl,hk⟩ | ⟨rfl,S,n,hk⟩
  ·obtain ⟨its,_,pl,_⟩:=I.list hq
   refine ⟨pl.isList.typeIs,fun a e=> ?_⟩
   cases e
   obtain ⟨o,n,e,c,hd,_⟩:=pl
   exact ⟨o,e,hd⟩
  ·refine ⟨⟨o,I.kIn p o hk,hc⟩,fun a e=> ?_⟩
   cases e
   exact ⟨o,I.kIn _ o hk,hd⟩
  ·have z:∃ o,s.heap.get? p=some o∧o.ExactDict:=by
    rcases hk with ⟨kvs,hk⟩ | ⟨kvs,hk⟩
    ·obtain ⟨_,_,_,_,o,_,_,e,ex,_⟩:=I.hok p _ hk
     exact ⟨o,e,ex⟩
    ·obtain ⟨_,_,_,_,o,_,_,e,ex,_⟩:=I.hok p _ hk
     exact ⟨o,e,ex⟩
   obtain ⟨o,e,ex⟩:=z
   refine ⟨⟨o,e,ex.1⟩,fun a e2=> ?_⟩
   cases e2
   exact ⟨o,e,ex.2.1⟩
  ·obtain ⟨o,_,_,_,e,ex,_⟩:=I.hok p _ hk
   refine ⟨⟨o,e,ex.1⟩,fun a e2=> ?_⟩
   cases e2
   exact ⟨o,e,ex.2.1⟩
 | _=> exact False.elim ty
def BQ (K:Cn) (T:String) (r:V→List V→Hp→VK→Prop) (to:TE):TE:=fun σ H Q=> to σ H fun x H1=> tyV K T x H1∧r x [] H1 Q
def tBM (K:Cn) (T:String) (r:V→List V→Hp→VK→Prop) (to:TE) (t:TA):TE:=fun σ H Q=> to σ H fun x H1=> tyV K T x H1∧t σ H1 fun xs H2=> r x xs H2 Q
variable {o e:Expr} {es:List Expr} {to:TE} {t:TA} {name:Str} {apos cpos:Pos} {T id:String} {r:V→List V→Hp→VK→Prop}
theorem zK (pa:PlainAttrs T) (slot:Slot T name id) (hty:typeOf (.builtin id)=pure (.type "method_descriptor")) (hm:MtR X id r) (ho:PE X o to)
  (hbase:attributeBase o name X.env (eval o X.env)=eval o X.env:=by rfl) (hline:(apos.endLine==cpos.line)=true:=by rfl):PE X (.Call (.Attribute o name apos) [] [] cpos) (BQ X.K T r to):=by
 intro pins s σ H Q I h
 refine wpAny_Call_method0_late hbase hline (thn (ho pins s σ H _ I h) fun v s1 ⟨x,H1,I1,r1,ty,q1⟩=> ?_)
 obtain ⟨h1,h2⟩:=vY I1 r1 ty
 exact ⟨T,id,pa,slot,hty,h1,h2,G5 rfl (PySem.evalArgs_none (hm pins s1 σ H1 x [] v [] Q I1 r1 .nil q1))⟩
theorem By (pa:PlainAttrs T) (slot:Slot T name id) (hty:typeOf (.builtin id)=pure (.type "method_descriptor")) (hm:MtR X id r) (ho:PE X o to) (ha:PA X (e::es) t)
  (hbase:attributeBase o name X.env (eval o X.env)=eval o X.env:=by rfl)
  (hfew:((backTo cpos (starEach (e::es) X.env)).all (fun x=> !x.1) && (backToKw cpos (keywordEach [] X.env)).all (fun x=> x.1.isSome)
   && decide ((e::es).length+([]:List Keyword).length+(if ([]:List Keyword).isEmpty then 0 else 1) < 30))=true:=by rfl)
  (hline:(apos.endLine==cpos.line)=true:=by rfl) (hs:starEach (e::es) X.env=(false,eval e X.env)::starEach es X.env:=by rfl) (hplain:(backTo cpos (starEach es X.env)).any (·.1)=false:=by rfl):
  PE X (.Call (.Attribute o name apos) (e::es) [] cpos) (tBM X.K T r to t):=by
 intro pins s σ H Q I h
 refine wpAny_Call_method_late hbase hfew hline rfl (thn (ho pins s σ H _ I h) fun v s1 ⟨x,H1,I1,r1,ty,q1⟩=> ?_)
 obtain ⟨h1,h2⟩:=vY I1 r1 ty
 refine ⟨T,id,pa,slot,hty,h1,h2,?_⟩
 have hA:=ha cpos pins s1 σ H1 _ I1 q1
 rw [hs] at hA ⊢
 refine G5 (by show (false || (backTo cpos (starEach es X.env)).any (·.1))=false; rw [hplain] <;> rfl) (Hq ?_)
 exact thn hA fun us s2 ⟨vs,H2,I2,r2,q2⟩=> hm pins s2 σ H2 x vs v us Q I2 r1 r2 q2
/- xs.append(e),list.index on a module's tuple .. are MtR facts of 06m -/
end
end L2
namespace L2
open PySem PySem.Spec PyProof.Rows
def MtM (X:Cx) (id:String) (r:V→List V→Hp→VK→Prop):Prop:=
 ∀ (pins:List (Addr×Obj)) (s:Shared) (σ:St) (H:Hp) (x:V) (xs:List V) (v:Value) (us:List Value) (Q:VK),Inv X pins σ H s→bp x v→aY xs us→r x xs H Q→
  wpAny (model X.prog X.w) X.A (call (.builtin id) (v::us)) (EP X pins σ Q) X.xe s
theorem aY.one:∀ {x:V} {us:List Value},aY [x] us→∃ u,us=[u]∧bp x u
 | _,_,.cons r .nil=> ⟨_,rfl,r⟩
theorem aY.zero:∀ {us:List Value},aY [] us→us=[]
 | _,.nil=> rfl
theorem aY.dropLast {xs:List V} {us:List Value} (h:aY xs us):aY xs.dropLast us.dropLast:=by
 induction h with
 | nil=> exact .nil
 | cons r t ih=>
  cases t with
  | nil=> exact .nil
  | cons q t'=> exact .cons r ih
theorem qb {α:Type} (l:List α):l.eraseIdx (l.length - 1)=l.dropLast:=by
 induction l with
 | nil=> rfl
 | cons a r ih=>
  cases r with
  | nil=> rfl
  | cons b r=>
   have e:(a::b::r).length - 1=((b::r).length - 1)+1:=by
    have h1:(a::b::r).length=r.length+2:=rfl
    have h2:(b::r).length=r.length+1:=rfl
    omega
   rw [e,List.eraseIdx_cons_succ,ih]
   all_goals rfl
section
variable {X:Cx} {pins:List (Addr×Obj)} {σ:St} {H:Hp} {s:Shared} {l b:Addr} {xs ys zs:List V}
theorem Inv.lset {its its':List Value} {n:Nat} {f:Array Value→Array Value} {t':Nat} (I:Inv X pins σ H s) (hH:H l=some (.lst xs))
  (e:s.heap.get? l=some { cls:=.type "list",data:=.seq its.toArray n }) (hf:f its.toArray=its'.toArray) (hv:aY ys its') (hz:ys.length≤sizeLine):
  Inv X pins σ (upd H l (.lst ys)) { s with heap:=s.heap.update l (DE f),toks:=t' }:=by
 have q:=PySem.IsL.update e f
 rw [hf] at q
 refine I.write (x:=l) (e:=l) (by rw [hH]; exact trivial) (.inl rfl) (fun b' u hb hu=> (Dc s.heap (DE f) (Ne.symm hb)).trans hu) ⟨_,q⟩ ?_
 exact ⟨hz,its',_,hv,q⟩
theorem Inv.lnew {its:List Value} {t':Nat} (I:Inv X pins σ H s) (hv:aY ys its) (hz:ys.length≤sizeLine):
  Inv X pins σ (upd H s.heap.objs.size (.lst ys)) { s with heap:=s.heap.push { cls:=.type "list",data:=.seq its.toArray },toks:=t' }:=
 I.laid (fun _ _ q=> Cq _ q) (Cv _) ⟨hz,its,0,hv,CG _ rfl⟩
theorem Inv.fresh (I:Inv X pins σ H s):H s.heap.objs.size=none:=I.hok.fresh (Cv _)
theorem Inv.lstM (I:Inv X pins σ H s) (hH:H l=some (.lst xs)):xs.length≤sizeLine∧∃ (its:List Value) (n:Nat),aY xs its∧xs.length=its.length∧s.heap.get? l=some { cls:=.type "list",data:=.seq its.toArray n }:=by
 obtain ⟨z,its,n,r,e⟩:=I.hok l _ hH
 exact ⟨z,its,n,r,r.length,e⟩
theorem A3 {n:Nat} (h:n≤sizeLine):Builtin.List.listTooLong n=false:=by
 unfold Builtin.List.listTooLong
 exact decide_eq_false (by omega)
end
section
variable {X:Cx}
def yC:V→List V→Hp→VK→Prop:=fun x vs H Q=> ∃ l xs y,x=.ref l∧vs=[y]∧H l=some (.lst xs)∧xs.length < sizeLine∧Q .non (upd H l (.lst (xs++[y])))
theorem iQ:MtM X "list.append" yC:=by
 intro pins s σ H x vs v us Q I rx rv h
 obtain ⟨l,xs,y,rfl,rfl,hH,hz,q⟩:=h
 cases rx
 obtain ⟨u,rfl,ru⟩:=rv.one
 obtain ⟨z,its,n,r,hl,e⟩:=I.lstM hH
 refine call_meets F.slot_list_append ⟨_,e,rfl⟩ F.entry_list_append (F.args_list_append_2 _ _) (PySem.list_append l its.toArray n u (by rw [CH]; omega)) ⟨e,?_⟩
 refine ⟨.non,_,I.lset (its':=its++[u]) hH e (by simp) (r.append (.cons ru .nil)) ?_,rfl,q⟩
 rw [Dv,Hb]
 omega
def B6:V→List V→Hp→VK→Prop:=fun x vs H Q=> ∃ l xs y,x=.ref l∧vs=[]∧H l=some (.lst xs)∧xs[xs.length - 1]?=some y∧Q y (upd H l (.lst xs.dropLast))
theorem AC:MtM X "list.pop" B6:=by
 intro pins s σ H x vs v us Q I rx rv h
 obtain ⟨l,xs,y,rfl,rfl,hH,hy,q⟩:=h
 cases rx
 have hus:=rv.zero
 subst hus
 obtain ⟨z,its,n,r,hl,e⟩:=I.lstM hH
 obtain ⟨u,hu,ru⟩:=r.get hy
 have hy':its.toArray[its.toArray.size - 1]?=some u:=by
  show its.toArray[its.length - 1]?=some u
  rw [← DB,← hl]
  exact hu
 refine call_meets F.slot_list_pop ⟨_,e,rfl⟩ F.entry_list_pop (F.args_list_pop_1 _) (MeetsSeq.list_pop_last l its.toArray n u hy' (by rw [CH]; omega)) ⟨e,?_⟩
 refine ⟨y,_,I.lset (its':=its.dropLast) hH e ?_ r.dropLast ?_,ru,q⟩
 ·show its.toArray.eraseIdxIfInBounds (its.toArray.size - 1)=its.dropLast.toArray
  rw [CH,List.eraseIdxIfInBounds_toArray,qb]
 ·rw [Ei]
  omega
def Cf:R2:=fun x y H Q=> ∃ l b xs zs,x=.ref l∧y=.ref b∧H l=some (.lst xs)∧H b=some (.lst zs)∧xs.length+zs.length≤sizeLine∧∀ p,H p=none→Q (.ref p) (upd H p (.lst (xs++zs)))
theorem zO:OpR X (binaryOp .Add) Cf:=by
 intro pins s σ H x y v u Q I rx ry h
 obtain ⟨l,b,xs,zs,rfl,rfl,hH,hB,hz,q⟩:=h
 cases rx
 cases ry
 obtain ⟨z,its,n,r,hl,e⟩:=I.lstM hH
 obtain ⟨z2,its2,n2,r2,hl2,e2⟩:=I.lstM hB
 refine PySem.P.add_list e e2 ?_ (by rw [CH,CH]; omega)
 have ea:its.toArray++its2.toArray=(its++its2).toArray:=by simp
 rw [ea]
 exact ⟨.ref _,_,I.lnew (t':=s.toks) (r.append r2) (by rw [Dv]; omega),rfl,q _ I.fresh⟩
end
section
variable {prog:Program} {w:World} {A:Around} {E:Value→Shared→Prop} {s:Shared}
end
section
variable {X:Cx}
end
end L2
namespace Att
open PySem PySem.W PySem.Calls PyProof.Rows
theorem i_ {P:Params} {h:Heap}:∀ (ns:List Int) (vs:List Value),WellAll P h vs (ns.map WData.int)→IntsAre vs ns:=by
 intro ns
 induction ns with
 | nil=>
  intro vs w
  rw [Hc] at w
  cases w
  exact .nil
 | cons n ns ih=>
  intro vs w
  rw [CZ] at w
  cases w with
  | cons a b=>
   cases a
   exact .cons _ _ (ih _ b)
theorem script_of {l:OpenLaw} {n:Nat} (hn:l.most=some n) {P:Params} {h:Heap} {args:List WData} {vals:List Value}
  (hpre:l.row.toRowW.claim.pre args=true) (hwl:WellAll P h vals args):
  ∃ a vs ns,vals=[Dl a]∧args=[WData.list (ns.map WData.int)]∧h.get? a=some { cls:=.type "list",data:=.seq vs.toArray }∧IntsAre vs ns∧ns.length≤n:=by
 have hsh:WShape.hasAll [] args [.list .int]=true:=(pre_splitW hpre).1
 have hc:l.pre.holds [] { args:=args }=true:=(pre_splitW hpre).2
 obtain ⟨d,r,rfl,h1,h2⟩:=hasAllW_cons hsh
 obtain rfl:=hasAllW_nil h2
 obtain ⟨xs,rfl,h3⟩:=hasW_list h1
 obtain ⟨ns,rfl⟩:=items_int h3
 have hlen:ns.length≤n:=by
  unfold OpenLaw.pre at hc
  have h4:(WTm.not (.lt (.lit (.int (n:Int))) (.len (.arg 0)))).holds [] { args:=[.list (ns.map .int)] }=true:=by
   have h4:=(holds_andW hc).1
   rw [hn] at h4
   exact h4
  have h5:=condW_of h4 (w_not (w_lt w_lit (w_len_list (w_arg rfl))))
  rw [Co] at h5
  refine FX fun q=> ?_
  have q':(n:Int) < ((ns.length:Nat):Int):=by omega
  first
   | (rw [decide_eq_true q'] at h5; exact absurd h5 (by decide))
   | (simp at h5; omega)
 cases hwl with
 | cons w1 w2=>
  cases w2
  cases w1 with
  | list ho hall=> exact ⟨_,_,ns,rfl,rfl,ho,i_ ns _ hall,hlen⟩
theorem post_true (l:OpenLaw) (args:List WData):l.row.toRowW.claim.post args (.bool true) args=true:=
 postW_of (r:=l.row.toRowW) (X:=(true==true))
  (show WShape.has [] (.bool true) .bool=true by first | rfl | decide | simp [WShape.has,WShape.arms,WShape.armsAll])
  (show (WTm.eq .res (.lit (.bool true))).value [] { args:=args,res:=some (.bool true),after:=args }=some (.bool (true==true)) from w_eq_bool (w_res rfl) w_lit) rfl
section
variable {prog:Program} {w:World} {A:Around} {E:Value→Shared→Prop} {s:Shared} {K:Frag}
end
end Att
namespace L2
open PySem PySem.Spec PyProof.Rows
theorem kS:∀ {vs:List Value} {ns:List Int},IntsAre vs ns→aY (ns.map V.int) vs
 | _,_,.nil=> .nil
 | _,_,.cons n t h=> .cons ⟨t,rfl⟩ (kS h)
def xH (H:Hp):Prop:=∀ b,H b=none∨∃ o xs,H b=some (.frz o (.lst xs))
theorem w_ {P:Program} {w:World} {K:Cn} {mg mb:Str→Option Value} {CX:CXT} {k:Nat} {fa a:Addr} {fd:FuncData} {x:Str} {sp:Sp} {s₁:Shared} {vs:List Value} {ns:List Int}
  (KX:K.In s₁.heap) (hns:s₁.heap.Ns mainGlobals mg) (hb:s₁.heap.Ns builtinsNs mb) (hbb:∀ x:Str,x≠"__name__"→mb x=bootBuiltins x) (hlim:s₁.heap.NoLimit) (hg:s₁.gens=#[])
  (ha:s₁.heap.get? a=some { cls:=.type "list",data:=.seq vs.toArray }) (hi:IntsAre vs ns) (hl:ns.length≤sizeLine) (hr:d_ k callerA)
  (F:∀ base:Heap,K.In base→base.Ns mainGlobals mg→bo P w K mg base CX k fa fd [x] sp) (hbind:∀ (s:Shared) (u:Value),BindsTo s fd ⟨[u],[]⟩ [(x,u)])
  (hsp:∀ H:Hp,xH H→SqL K H a (ns.map V.int)→sp [.ref a] H (fun v _=> v=.bl true) fun _ _ _=> False)
  (hCX:∀ H e s',CX [] H s₁ (fun _ _ _=> False) e s'→False):
  codeAny (model P w) callerA (.call (.ref fa) ⟨[.ref a],[]⟩) (fun r s'=> r=.ok (.ret (.bool true))∧OldK s₁.heap s'.heap∧s'.os=s₁.os∧AllBare s'.gens) s₁:=by
 have rv:=kS hi
 have lenV:=hi.length
 have core:∀ H:Hp,xH H→SqL K H a (ns.map V.int)→HOk P w H s₁.heap→(∀ b,H b≠none→b=a)→(H a≠none→K.lookup a=none)→
   codeAny (model P w) callerA (.call (.ref fa) ⟨[.ref a],[]⟩) (fun r s'=> r=.ok (.ret (.bool true))∧OldK s₁.heap s'.heap∧s'.os=s₁.os∧AllBare s'.gens) s₁:=by
  intro H hO hS hok hA hK
  have base_of:∀ {b:Addr} {o:Obj},s₁.heap.get? b=some o→H b=none→(lM s₁.heap H).get? b=some o:=fun e n=> vn e n
  have noA:∀ {b:Addr} {o:Obj} {es:Array DictEntry} {ep:Nat},s₁.heap.get? b=some o→o.data=.dict es ep→H b=none:=fun {b o es ep} e d=> by
   cases q:H b with
   | none=> rfl
   | some u=>
    have e':b=a:=hA b (by rw [q]; simp)
    subst e'
    rw [ha] at e; cases e
    have d':Data.seq vs.toArray _=Data.dict es ep:=d
    cases d'
  have nsK:∀ {b:Addr} {m:Str→Option Value},s₁.heap.Ns b m→(lM s₁.heap H).Ns b m:=fun {b m} ⟨o,es,ep,e,d,r⟩=> ⟨o,es,ep,base_of e (noA e d),d,r⟩
  have hKb:K.In (lM s₁.heap H):=fun b o e=> base_of (KX b o e) (by
   cases q:H b with
   | none=> rfl
   | some u=>
    have e':b=a:=hA b (by rw [q]; simp)
    subst e'
    rw [hK (by rw [q]; simp)] at e; cases e)
  have hM:Mod K mg (lM s₁.heap H):=⟨hKb,nsK hns,⟨mb,nsK hb,hbb⟩,let ⟨mc,h1,h2⟩:=hlim; ⟨mc,nsK h1,h2⟩⟩
  have e0:x8 P w K mg (lM s₁.heap H) callerA [] s₁ H:=⟨rfl,hM,fun b o e=> yd e,Nat.le_of_eq (tJ _ _),trivial,fun b hb=> absurd (show b∈([]:List Addr) from hb) (by simp),hok,.of_eq hg⟩
  refine codeAny_mono ((F _ hKb (nsK hns)).run callerA [] s₁ H ⟨[.ref a],[]⟩ [.ref a] [.ref a] _ _ hr e0 (hbind s₁ (.ref a)) (.cons rfl .nil) (hsp H hO hS)) fun r s' h=> ?_
  cases r with
  | error e=> exact (hCX H e s' h).elim
  | ok fl=>
   cases fl with
   | next=> exact False.elim h
   | brk=> exact False.elim h
   | cont=> exact False.elim h
   | ret u=>
    obtain ⟨v,H',os,bare,un,hok',r',q⟩:=h
    have q':v=.bl true:=q
    subst q'
    obtain rfl:u=Dn true:=r'
    refine ⟨rfl,OldK.of_keep fun b o e=> ?_,os,bare⟩
    cases q:H b with
    | none=> exact un.keep b o e q (by intro z; exact absurd (show b∈([]:List Addr) from z) (by simp)) (by simp)
    | some u=>
     rcases hO b with z | ⟨ob,xs,z⟩
     ·rw [q] at z; cases z
     ·have z2:=un.frzs b ob _ z
      obtain ⟨e1,_⟩:=hok b _ z
      obtain ⟨e2,_⟩:=hok' b _ z2
      rw [e] at e1; cases e1
      exact e2
 cases hk:K.lookup a with
 | some o=>
  have e:=KX a o hk
  rw [ha] at e
  cases e
  refine core (fun _=> none) (fun _=> .inl rfl) (.inr ⟨_,vs.toArray,_,hk,rfl,rfl,rfl,by rw [CH,lenV]; exact hl,by simpa using rv⟩) (fun b u z=> by have z':(none:Option HO)=some u:=z; cases z') (fun b z=> absurd rfl z) fun z=> absurd rfl z
 | none=>
  refine core (fun b=> if b=a then some (.frz { cls:=.type "list",data:=.seq vs.toArray } (.lst (ns.map V.int))) else none) (fun b=> ?_) (.inl (.inr ⟨{ cls:=.type "list",data:=.seq vs.toArray },if_pos rfl⟩)) (fun b u z=> ?_) (fun b z=> ?_) fun _=> hk
  ·by_cases hb:b=a
   ·exact .inr ⟨_,_,if_pos hb⟩
   ·exact .inl (if_neg hb)
  ·by_cases hb:b=a
   ·have z':=(if_pos hb).symm.trans z
    cases z'
    subst hb
    exact ⟨ha,by rw [Co]; exact hl,vs,_,rv,ha⟩
   ·have z':=(if_neg hb).symm.trans z
    cases z'
  ·by_cases hb:b=a
   ·exact hb
   ·exact absurd (if_neg hb) z
end L2
namespace L2
open PySem PySem.Spec PyProof.Rows
abbrev KOf {K:Cn} {h:Heap} (_:K.In h):Cn:=K
end L2
/- THE LAST THEOREM (shape; LID,My.* are yours):
   My.Adr:a structure of the addresses that your layer names (classes,functions); My.Txt K t:a structure (Prop) of the equations over K;
   My.txt_mk:{K} {implicit addresses ..} (e1:nsIn K mainGlobals "law"=some (some (.ref f))) (e2:K.lookup f=some ⟨oc,od,.func (fnOf "law" "law" params body scope dV kV doc pm an cdv ct),sl⟩) (e3:codeIn K cdv "law"=true) ..:∃ t,My.Txt K t
set_option maxRecDepth 100000 in
set_option maxHeartbeats 0 in
theorem PySem.Challenge.cw_LID_holds : PySem.Challenge.rw_LID.Holds := by
 w_on; o_law; k_head; (case hw=> w_witness2)
 k_fill
 refine L2.walk_of (l:=PySem.Challenge.rw_LID) (n:=63) (k:=40) (x:="script") (CX:=fun w=> ..) (sp:=fun _=> My.sp_law) rfl (by decide) rfl ⟨rfl,by decide,by decide⟩ (fun w h Y=> IF Y) ?F ?S ?C
 case F=>
  intro w mg fa h KX G hmg
  have T:∃ t,My.Txt (L2.KOf KX) t:=by
   dsimp only [L2.KOf]                          -- K must stand as «<heap const> w.params» for k_is
   refine' My.txt_mk ?e1 ?e2 ?e3 ..
   (case e1=> PySem.W.k_is)                    -- in the order:a name -> its address -> its object -> its parts
   (case e2=> PySem.W.k_is)
   ..
  obtain ⟨t,T⟩:=T
  have e0:=hmg.symm.trans (CK KX G T.law)
  cases e0                                       -- fa is the law's own address
  exact ⟨_,fun s u=> .of_eq rfl,fun base kb nb=> My.law_fn T kb nb⟩     -- if «.of_eq rfl» comes too early:refine' ⟨_,?b,fun base kb nb=> My.law_fn T kb nb⟩; exact fun s u=> .of_eq rfl
 case S=> exact fun w H a ns hl hO hS=> ..
 case C=> exact ..
(the tactic k_is has no namespace:write k_is) -/
namespace L2
open PySem PySem.Spec PyProof.Rows
def au (s:Stmt):Arguments:=match s with
 | .FunctionDef _ a _ _ _ _ _ _ _ _=> a
 | _=> { posonlyargs:=[],args:=[],vararg:=none,kwonlyargs:=[],kw_defaults:=[],kwarg:=none,defaults:=[] }
def aq (s:Stmt):List Stmt:=match s with
 | .FunctionDef _ _ b _ _ _ _ _ _ _=> b
 | _=> []
def ai (s:Stmt):Scope:=match s with
 | .FunctionDef _ _ _ _ _ _ sc _ _ _=> sc
 | _=> { kind:=.function,names:=[],isGenerator:=false,isCoroutine:=false }
abbrev CX0:CXT:=fun _ _ _ _ _ _=> False
abbrev E0:XK:=fun _ _ _=> False
structure Fun (K:Cn) (x qual:Str) (st:Stmt) (f:Addr) (fd:FuncData):Prop where
 ex:∃ (oc:Value) (od:Option Addr) (kV doc pm:Value) (an:Option Addr) (cdv ct:Value) (osl:Array (Option Value)),
  fd=CJ x qual (au st) (aq st) (ai st) .none kV doc pm an cdv ct∧K.lookup f=some ⟨oc,od,.func fd,osl⟩∧CD K cdv qual=true
 kp:CA K (.ref f)=true
section
variable {P:Program} {w:World} {K:Cn} {mg:Str→Option Value} {base:Heap}
theorem Fun.binds {x qual:Str} {st:Stmt} {f:Addr} {fd:FuncData} {ps:List Str} (F:Fun K x qual st f fd)
  (h:∀ (kV doc pm:Value) (an:Option Addr) (cdv ct:Value) (us:List Value),us.length=ps.length→bindArgs (CJ x qual (au st) (aq st) (ai st) .none kV doc pm an cdv ct) ⟨us,[]⟩=pure (ps.zip us)):aP K fd ps []:=by
 obtain ⟨oc,od,kV,doc,pm,an,cdv,ct,osl,rfl,lk,hcd⟩:=F.ex
 exact .all (h kV doc pm an cdv ct)
theorem aR {x qual:Str} {st:Stmt} {f:Addr} {oc:Value} {od an:Option Addr} {osl:Array (Option Value)} {kV doc pm cdv ct:Value} (l:K.lookup f=some ⟨oc,od,.func (CJ x qual (au st) (aq st) (ai st) .none kV doc pm an cdv ct),osl⟩)
  (c:CD K cdv qual=true) (k:CA K (.ref f)=true):Fun K x qual st f (CJ x qual (au st) (aq st) (ai st) .none kV doc pm an cdv ct):=⟨⟨oc,od,kV,doc,pm,an,cdv,ct,osl,rfl,l,c⟩,k⟩
end
theorem aO {n:Nat} (h:n≤1000):n < sizeLine:=Gz h (by decide)
section
variable {X:Cx}
end
theorem pS {A B:Prop} (h:B):if false=true then A else B:=by
 rw [if_neg C0]
 exact h
theorem p6 {A B:Prop} (h:A):if true=true then A else B:=by
 rw [if_pos rfl]
 exact h
def aQ (H H':Hp):Prop:=∀ b o,H b=some o→H' b=some o
theorem aQ.refl (H:Hp):aQ H H:=fun _ _ h=> h
theorem aQ.trans {H H1 H2:Hp} (a:aQ H H1) (b:aQ H1 H2):aQ H H2:=fun c o h=> b c o (a c o h)
theorem aQ.free {H H':Hp} (e:aQ H H') {l:Addr} (h:H' l=Jt):H l=Jt:=by
 cases q:H l with
 | none=> rfl
 | some o=>
  rw [e l o q] at h
  cases h
theorem aQ.seq {K:Cn} {H H':Hp} {a:Addr} {xs:List V} (e:aQ H H') (h:SqL K H a xs):SqL K H' a xs:=by
 rcases h with (h | ⟨o,h⟩) | h
 ·exact .inl (.inl (e _ _ h))
 ·exact .inl (.inr ⟨o,e _ _ h⟩)
 ·exact .inr h
end L2
namespace L2
open PySem PySem.Spec PyProof.Rows
def Sz (m:Nat) (x:Int):Prop:=x.natAbs < 2 ^ m
theorem Sz.mono {m n:Nat} {x:Int} (h:Sz m x) (hmn:m≤n):Sz n x:=C5 h (Fn (by decide) hmn)
theorem Sz.neg {m:Nat} {x:Int} (h:Sz m x):Sz m (-x):=by unfold Sz at *; rw [Int.natAbs_neg]; exact h
theorem Sz.add {m:Nat} {x y:Int} (hx:Sz m x) (hy:Sz m y):Sz (m+1) (x+y):=by
 unfold Sz at *
 have:=Int.natAbs_add_le x y
 rw [EC]; omega
theorem Sz.sub {m:Nat} {x y:Int} (hx:Sz m x) (hy:Sz m y):Sz (m+1) (x - y):=by
 rw [Int.sub_eq_add_neg]; exact hx.add hy.neg
theorem Sz.mul {m n:Nat} {x y:Int} (hx:Sz m x) (hy:Sz n y):Sz (m+n) (x * y):=by
 unfold Sz at *
 rw [FO,Nat.pow_add]
 exact Nat.mul_lt_mul'' hx hy
theorem Sz.le {m:Nat} {x y:Int} (h:x.natAbs≤y.natAbs) (hy:Sz m y):Sz m x:=Gz h hy
theorem Sz.ediv {m:Nat} {x y:Int} (hx:Sz m x):Sz m (x / y):=Sz.le (Int.natAbs_ediv_le_natAbs x y) hx
theorem Sz.abs {m:Nat} {x:Int} (hx:Sz m x):Sz m (if x < 0 then -x else x):=by split; exact hx.neg; exact hx
instance (m:Nat) (x:Int):Decidable (Sz m x):=inferInstanceAs (Decidable (x.natAbs < 2 ^ m))
theorem Sz.add' {m n:Nat} {x y:Int} (hx:Sz m x) (hy:Sz n y):Sz (max m n+1) (x+y):=(hx.mono (Ig m n)).add (hy.mono (H_ m n))
theorem Sz.sub' {m n:Nat} {x y:Int} (hx:Sz m x) (hy:Sz n y):Sz (max m n+1) (x - y):=(hx.mono (Ig m n)).sub (hy.mono (H_ m n))
theorem Sz.lit {m:Nat} {x:Int} (h:Sz m x):Sz m x:=h
theorem Sz.ok {m n:Nat} {x y:Int} (hx:Sz m x) (hy:Sz n y) (h:m+n≤134217728):IntMulOk x y:=
 PyProof.Rows.mulOk_of_bits (intBits_le_iff.mpr hx) (intBits_le_iff.mpr hy) h
theorem Sz.log {m:Nat} {x:Int} (h:Sz m x) (hm:m≤9000) (h0:x≠0):x.natAbs.log2 < 9000:=by
 have q:=(Nat.log2_lt (by omega)).mpr (show x.natAbs < 2 ^ m from h)
 omega
def zD (_ j:Int):Prop:=0 < j∧Sz 9000 j
def zB (_ j:Int):Prop:=j≠0∧Sz 9000 j
section
variable {X:Cx} {a b c:Expr} {ta tb tc:TE} {pos:Pos}
theorem xU:OpR X (binaryOp .Mult) (rI IntMulOk fun i j=> .int (i * j)):=opI fun _ _ _ _ _ _ _ hc q=> mul_int q hc
theorem vU:OpR X (binaryOp .FloorDiv) (rI zD fun i j=> .int (i / j)):=opI fun i j _ _ _ _ _ hc q=> by
 have h1:(0:Int) < j:=hc.1
 exact floordiv_int (by omega) (by rw [EJ i (by omega)]; exact q) (.inl (PyProof.noPylong_of_log2 (hc.2.log (by decide) (by omega))))
theorem wH:OpR X (binaryOp .FloorDiv) (rI zB fun i j=> .int (i.fdiv j)):=opI fun i j _ _ _ _ _ hc q=>
 floordiv_int hc.1 q (.inl (PyProof.noPylong_of_log2 (hc.2.log (by decide) hc.1)))
theorem BC {x:Str} {n:String} {pos:Pos} (hg:Gl X x) (hm:X.mg x=none) (hv:bootBuiltins x=some (.type n)) (hn:x≠"__name__":=by decide) (hd:(x==("__debug__":Str))=false:=by decide):PE X (.Name x pos) (tC (.ty n)):=
 xT hg hm hv rfl hn hd
end
section
variable {X:Cx}
theorem qm:cS X (.type "int") (fun xs H Q=> ∃ k,xs=[.bl k]∧Q (.int (if k then 1 else 0)) H):=by
 intro pins s σ H xs us Q I r h
 obtain ⟨k,rfl,q⟩:=h
 exact sq pins s σ H _ us Q I r (.inr ⟨k,rfl,q⟩)
end
theorem kit_int_int (K:Cn):E7 K (.type "int") (.type "int")=some true:=rfl
theorem kit_int_bool (K:Cn):E7 K (.type "int") (.type "bool")=some false:=rfl
theorem kit_bool_int (K:Cn):E7 K (.type "bool") (.type "int")=some true:=rfl
theorem kit_tuple_tuple (K:Cn):E7 K (.type "tuple") (.type "tuple")=some true:=rfl
theorem kit_list_tuple (K:Cn):E7 K (.type "list") (.type "tuple")=some false:=rfl
def Its (lo c:Int) (n:Nat):It:=⟨fun i _=> i < n,fun i H x H'=> H'=H∧x=.int (lo+(i:Nat) * c),fun i _=> n≤i⟩
theorem nX {P:Program} {w:World} {K:Cn} {tg:Expr} (it:Addr) (lo c:Int) (n:Nat):vc P w K tg (Its lo c n) [it] it (fun i h=> IsRangeIter h it (lo+(i:Nat) * c) ((n:Int) - (i:Nat)) c) where
 mem:=by simp
 obj:=fun i h st b hb=> by
  have e:b=it:=by simpa using hb
  subst e
  exact ⟨_,st,fun v z=> by
   have z':Data.fields _=Data.cell v:=z
   cases z'⟩
 keep:=fun i h h' st k=> k it (by simp) _ st
 item:=by
  intro X hP hw hK hc i pins s σ H E I hf st hg
  subst hP hw hK
  obtain ⟨f0,f1,f2,f3,f4,f5⟩:=hf it (by simp)
  have W:=Walks.range (prog:=X.prog) (w:=X.w) (I.ok.hd hc) it lo c n
  refine W.item i s _ _ hg st fun v h' tk hv st' kk=> ?_
  obtain ⟨t,rfl⟩:=hv
  have I1:Inv X pins σ H { s with heap:=h',toks:=tk }:=I.turned (fun b o hb e=> kk b o (by simpa using hb) e) f0 f1 f3 f4 f5
  exact ⟨_,rfl,qX (s:={ s with heap:=h',toks:=tk }) (n:="range_iterator") st' rfl rfl (by decide) ⟨.int (lo+(i:Nat) * c),H,I1,⟨t,rfl⟩,⟨rfl,rfl⟩,st',fun b hb=> (hf b hb).1⟩⟩
 done:=by
  intro X hP hw hK hc i pins s σ H E I hf st hg
  subst hP hw hK
  obtain ⟨f0,f1,f2,f3,f4,f5⟩:=hf it (by simp)
  exact wpAny_pyNext_range_end (I.ok.hd hc) st (by have:n≤i:=hg; omega) fun h' eb=> ⟨rfl,I.turned (t':=s.toks) (fun b o hb e=> eb b o hb e) f0 f1 f3 f4 f5⟩
 self:=fun _ _ _ _ _ st h=> wpAny_pyIter_rangeiter st h
def fU (i j c:Int):Nat:=if i < j then ((j - i - 1) / c+1).toNat else 0
theorem pM {a b c:Int} (ha:-(2 ^ 60)≤a) (ha':a < 2 ^ 60) (hb:-(2 ^ 60)≤b) (hb':b < 2 ^ 60) (hc:0 < c) (hc':c < 2 ^ 60):Builtin.Range.small a b c=true:=by
 have q1:a < b→(b - a - 1) / c≤b - a - 1:=fun h=> G0 _ (by omega)
 have q2:a < b→0≤(b - a - 1) / c:=fun h=> Fx (by omega) (by omega)
 unfold Builtin.Range.small Builtin.Range.rangeSize
 simp only [Builtin.Range.rangeFitsLong,Dx,Hd,decide_eq_true_eq,beq_iff_eq,show c > 0 from hc,if_true]
 split
 ·have:=q1 (by assumption); have:=q2 (by assumption); omega
 ·omega
section
variable {X:Cx} {tg:Expr}
def BM (ta:TA):TI:=fun σ H R=> ta σ H fun vs H1=> ∃ i j c:Int,vs=[.int i,.int j,.int c]∧(-(2 ^ 60)≤i∧i < 2 ^ 60∧-(2 ^ 60)≤j∧j < 2 ^ 60∧0 < c∧c < 2 ^ 30)∧R (Its i c (fU i j c)) H1
theorem sM {a b c:Expr} {ta:TA} {p pos:Pos} (hg:Gl X "range") (hm:X.mg "range"=none) (ha:PA X [a,b,c] ta) (hs:starEach [a,b,c] X.env=[(false,eval a X.env),(false,eval b X.env),(false,eval c X.env)]:=by rfl)
  (hs2:starEach [b,c] X.env=[(false,eval b X.env),(false,eval c X.env)]:=by rfl):
  PI X tg (.Call (.Name "range" p) [a,b,c] [] pos) (BM ta):=by
 intro pins s σ H R I h
 refine Call_ (dQ I hg hm boot_range (PyProof.Rows.callWith_type1 (thn (ha pos pins s σ H _ I h) fun us s1 ⟨vs,H1,I1,r1,q1⟩=> ?_) (by rw [hs,hs2]) (by rw [hs2]; rfl)))
 obtain ⟨i,j,k,e,⟨q1,q2,q3,q4,q5,q6⟩,q⟩:=q1
 subst e
 cases r1 with
 | cons r rr=>
  cases rr with
  | cons r' rr=>
   cases rr with
   | cons r'' rr=>
    cases rr
    obtain ⟨t,rfl⟩:=r
    obtain ⟨t',rfl⟩:=r'
    obtain ⟨t'',rfl⟩:=r''
    refine call_range_3 (by omega) ?_ (.inl (PyProof.noPylong_small (by omega)))
    refine wpAny_pyIter_range (IsRange.new ..) (pM q1 q2 q3 q4 q5 (by omega)) ?_
    have I2:Inv X pins σ H1 { s1 with heap:=s1.heap.push { cls:=.type "range",data:=.fields #[.int i t,.int j t',.int k t''] },toks:=s1.toks }:=I1.kept fun b o e=> Cq _ e
    refine ⟨(s1.heap.push { cls:=.type "range",data:=.fields #[.int i t,.int j t',.int k t''] }).objs.size,[(s1.heap.push { cls:=.type "range",data:=.fields #[.int i t,.int j t',.int k t''] }).objs.size],_,_,H1,rfl,
     I2.kept (t':=s1.toks) fun b o e=> Cq _ e,nX _ i k (fU i j k),?_,fun b hb=> ?_,q⟩
    ·have e1:i+((0:Nat):Int) * k=i:=by simp
     have e2:((fU i j k:Nat):Int) - ((0:Nat):Int)=Builtin.Range.rangeSize i j k:=by
      unfold fU Builtin.Range.rangeSize
      rw [if_pos (show k > 0 from q5)]
      by_cases hij:i < j
      ·rw [if_pos hij,if_pos hij]
       have:0≤(j - i - 1) / k:=Fx (by omega) (by omega)
       omega
      ·rw [if_neg hij,if_neg hij] <;> omega
     show IsRangeIter _ _ (i+((0:Nat):Int) * k) (((fU i j k:Nat):Int) - ((0:Nat):Int)) k
     rw [e1,e2]
     exact CG _ rfl
    ·have e:b=(s1.heap.push { cls:=.type "range",data:=.fields #[.int i t,.int j t',.int k t''] }).objs.size:=by simpa using hb
     subst e
     exact I2.fpOk (Cv _) (I2.hok.fresh (Cv _))
end
theorem bu {H:Hp} {p:Addr} (h:H p=none) (o:HO):aQ H (upd H p o):=fun b u q=> by rw [bv (cP q h)]; exact q
theorem aQ.put {H H':Hp} {l:Addr} (e:aQ H H') (h:H l=none) (o:HO):aQ H (upd H' l o):=fun b u q=> by rw [bv (cP q h)]; exact e b u q
theorem aQ.tup {K:Cn} {H H':Hp} {a:Addr} {xs:List V} (e:aQ H H') (h:SqT K H a xs):SqT K H' a xs:=by
 rcases h with (h | ⟨o,h⟩) | h
 ·exact .inl (.inl (e _ _ h))
 ·exact .inl (.inr ⟨o,e _ _ h⟩)
 ·exact .inr h
end L2
namespace L2
open PySem PySem.W PySem.Calls PySem.Spec PyProof.Rows
theorem oA {ns:List Int} (h:WData.layableAll [WData.list (ns.map WData.int)]=true):∀ n∈ns,Sz 1048576 n:=by
 intro n hn
 have h1:=(PySem.W.layableW_arg h) _ (CT.mpr rfl)
 have h2:=PySem.W.layableW_item h1 (WData.int n) (Cr.mpr ⟨n,hn,rfl⟩)
 have h3:=(PySem.W.layableW_iff.mp h2).2.2
 have h4:Builtin.Int.intBits n≤1048576:=by simpa only [WData.weight,Builtin.Int.intBits] using h3
 exact intBits_le_iff.mp h4
theorem mh {l:Ih} {n:Nat} {q:Program} {loose:List Str} {XP:(Str→Option Value)→Heap→Prop} {YP:World→Heap→Prop} {d:DefRec}
  (hn:l.most=some n) (hdf:d.params.defaults=[])
  (call:∀ (w:World) (s₀ s₁:Shared) (mg mb:Str→Option Value) (fa:Addr) (o:Obj) (pm cd doc:Value) (a:Addr) (vs:List Value) (ns:List Int),
   PySem.W.Ground q loose [] XP w s₀ mg mb s₁.heap→YP w s₁.heap→
   s₁.heap.get? fa=some o→o.data=.func (docDef d.name d.params d.body d.scope pm cd doc)→s₁.heap.CodeRec cd d.name→mg d.name=some (.ref fa)→
   s₁.heap.get? a=some { cls:=.type "list",data:=.seq vs.toArray }→IntsAre vs ns→ns.length≤n→(∀ m∈ns,Sz 1048576 m)→s₁.gens=#[]→
   codeAny (model l.prog w) callerA (.call (.ref fa) ⟨[.ref a],[]⟩) (fun r s'=> r=.ok (.ret (.bool true))∧OldK s₁.heap s'.heap∧s'.os=s₁.os∧AllBare s'.gens) s₁):
  I_ q loose XP YP l.row.toRowW d [] (fun f vs=> JA f vs):=by
 intro w s₀ s₁ mg mb G Y fa o pm cd doc dV kV ho hd hcd hD hmg hg args vals as hpre hlay hrd hwl hlo
 obtain rfl:dV=.none:=Jy hD hdf
 obtain rfl:kV=.none:=Jz hD
 obtain ⟨a,vs,ns,rfl,rfl,hobj,hints,hlen⟩:=Att.script_of hn hpre hwl
 refine PySem.W.enter_call (codeAny_mono (call w s₀ s₁ mg mb fa o pm cd doc a vs ns G Y ho (PySem.W.fd_plain hd) hcd hmg hobj hints hlen (oA hlay) hg) fun r s' hq=> ?_)
 obtain ⟨rfl,h2,h3,h4⟩:=hq
 exact ⟨.inl ⟨.bool true,.bool true,[],rfl,fun _=> rfl,.bool true,Att.post_true l _,fun _=> ⟨Fl,fun _ hm=> (nomatch hm)⟩⟩,h2,h3,h4⟩
theorem walk_ofB {l:Ih} {n k:Nat} {q:Program} {loose:List Str} {XP:(Str→Option Value)→Heap→Prop} {YP:World→Heap→Prop} {d:DefRec} {K:Params→Cn} {CX:CXT} {sp:Cn→Sp} {x:Str}
  (hn:l.most=some n) (hn2:n≤sizeLine) (hdf:d.params.defaults=[]) (hr:d_ k callerA)
  (hY:∀ (w:World) (h:Heap),YP w h→(K w.params).In h)
  (F:∀ (w:World) (mg:Str→Option Value) (fa:Addr) (h:Heap),(K w.params).In h→h.Ns mainGlobals mg→mg d.name=some (.ref fa)→
   ∃ fd:FuncData,(∀ (s:Shared) (u:Value),BindsTo s fd ⟨[u],[]⟩ [(x,u)])∧
    ∀ base:Heap,(K w.params).In base→base.Ns mainGlobals mg→bo l.prog w (K w.params) mg base CX k fa fd [x] (sp (K w.params)))
  (hsp:∀ (K:Cn) (H:Hp) (a:Addr) (ns:List Int),ns.length≤n→(∀ m∈ns,Sz 1048576 m)→xH H→SqL K H a (ns.map V.int)→sp K [.ref a] H (fun v _=> v=.bl true) fun _ _ _=> False)
  (hCX:∀ (H:Hp) (s:Shared) (e:Value) (s':Shared),CX [] H s (fun _ _ _=> False) e s'→False):
  I_ q loose XP YP l.row.toRowW d [] (fun f vs=> JA f vs):=by
 refine mh hn hdf fun w s₀ s₁ mg mb fa o pm cd doc a vs ns G Y ho hd hcd hmg hobj hints hlen hbits hg=> ?_
 have KX:=hY w _ Y
 obtain ⟨fd,hb,hF⟩:=F w mg fa _ KX G.T.g hmg
 exact w_ KX G.T.g G.T.b G.T.builtins G.T.nolimit hg hobj hints (DK hlen hn2) hr hF hb (fun H hO hS=> hsp _ H a ns hlen hbits hO hS) fun H e s'=> hCX H s₁ e s'
end L2
namespace L2
theorem lP {α:Type} {xs:List α} {k:Int} {i:Nat} {v:α} (e:k=(i:Int)) (h:xs[i]?=some v):atI xs k=some v:=by subst e; exact qJ h
end L2
namespace L2
theorem Sz.natle {m:Nat} {x y:Int} (hy:Sz m y) (h:x.natAbs≤y.natAbs):Sz m x:=Sz.le h hy
end L2
namespace L2
open PySem PySem.Spec PyProof.Rows
abbrev aD (X:Cx) (scope:Scope) (cl:List (Str×Addr)) (C:Addr) (s:Shared) (H:Hp) (fp:List Addr):Cx:=
 { X with s₀:=s,H₀:=H,env:=compEnvC scope cl C X.env,outer:=X.stack,ex:=fp,fn:=fun _=> false,pn:=[],xe:=fun _ _=> False }
def mask:List Nat→St→St
 | [],σ=> σ
 | i::is,σ=> mask is (σ.set i none)
theorem fh:∀ (is:List Nat) (σ:St),(mask is σ).length=σ.length
 | [],_=> rfl
 | i::is,σ=> by rw [mask,fh is]; simp
theorem ie:∀ (is:List Nat) (σ:St) (j:Nat) (v:V),(mask is σ)[j]?=some (some v)→σ[j]?=some (some v)∧j ∉ is
 | [],σ,j,v,h=> ⟨h,by simp⟩
 | i::is,σ,j,v,h=> by
  obtain ⟨h1,h2⟩:=ie is _ j v h
  by_cases e:i=j
  ·subst e
   rw [GL] at h1
   simp at h1
  ·rw [C3 e] at h1
   exact ⟨h1,by simp [Ne.symm e,h2]⟩
structure dC (X:Cx) (scope:Scope) (cl:List (Str×Addr)) (is:List Nat):Prop where
 clos:closureFor scope X.env=pure cl
 cell:∀ y∈scope.names,y.2≠.cell
 kind:scope.kind=.function
 names:∀ y∈scope.names,y.2=.local→scope.names.lookup y.1=some .local
 cls:∀ x c,cl.lookup x=some c→X.env.cells.lookup x=some c
 free:∀ x,((relabel scope X.env).names.lookup x=some .cell∨(relabel scope X.env).names.lookup x=some .free)→Vis X.env.scope x∧X.env.scope.names.lookup x≠some .local∧∃ c,cl.lookup x=some c
 own:∀ i x,X.N[i]?=some x→(relabel scope X.env).names.lookup x=some .local→i∈is
def v_ (J:It) (is:List Nat) (g:TG) (te:TE) (σ:St) (H1:Hp) (l:Addr) (Q:VK):Prop:=
 ∃ W:Nat→Nat→Hp→Prop,(∃ m,W 0 m (upd H1 l (.lst [])))∧∀ i m H2,W i m H2→
  (J.stop i H2∧Q (.ref l) H2)∨(J.go i H2∧∀ x H3,J.yld i H2 x H3→g x (mask is σ) H3 fun σ4 H4=> te σ4 H4 fun y H5=>
   (∀ (j:Nat) (v:V),(mask is σ)[j]?=some (some v)→σ4[j]?=some (some v))∧∃ vs,H5 l=some (.lst vs)∧vs.length < sizeLine∧∃ m',m' < m∧W (i+1) m' (upd H5 l (.lst (vs++[y]))))
def y8 (is:List Nat) (g:TG) (te:TE) (σ:St) (Q:VK) (J:It) (H1:Hp):Prop:=∀ l,H1 l=none→v_ J is g te σ H1 l Q
def wC (is:List Nat) (wi:TI) (g:TG) (te:TE):TE:=fun σ H Q=> wi σ H (y8 is g te σ Q)
section
variable {X:Cx} {pins:List (Addr×Obj)} {σ:St} {H:Hp} {s:Shared}
theorem i5 {scope:Scope} {cl:List (Str×Addr)} {is:List Nat} {fp:List Addr} {h₁:Heap} {m:Str→Option Value} {t':Nat} (I:Inv X pins σ H s) (B:dC X scope cl is) (hf:∀ b∈fp,jF X pins H b) (hfl:∀ b∈fp,b < s.heap.objs.size)
  (hn:h₁.Ns s.heap.objs.size m) (hk:∀ b o,s.heap.get? b=some o→h₁.get? b=some o):
  Inv (aD X scope cl s.heap.objs.size s H fp) [] (mask is σ) H { s with heap:=h₁,toks:=t' }:=by
 refine ⟨⟨I.ok.mod,B.kind,I.ok.glob,I.ok.blt,Cv _,fun x y c h1 h2=> I.ok.inj x y c (B.cls x c h1) (B.cls y c h2),fun x hx=> (B.free x hx).2.2,fun x c h=> (by cases h),I.ok.hd,I.ok.frames,.inl rfl,fun b hb=> ⟨C1 (hfl b hb),fun x c e=> (hf b hb).2.2.2.2.1 x c (B.cls x c e)⟩,
  I.bs,DK I.ok.bsz I.sz,fun b o e hb=> ?_,fun b hb z=> ?_,I.stack,I.stkFree⟩,rfl,I.bare,Un.kept hk,⟨m,hn,fun i x v h1 h2 h3=> ?_⟩,fun x c e=> ?_,I.hok.fresh (Cv _),fun x c e=> I.freeC x c (B.cls x c e),fun p hp=> absurd (show p∈([]:List (Addr×Obj)) from hp) (by simp),I.hok.kept hk,?_⟩
 ·rcases (hf b hb).2.2.2.1 with z | z
  ·exact I.ok.noex b o e z
  ·exact absurd (C5 (Cw e) (DK I.ok.bsz z)) (Dh _)
 ·rcases Cu.mp (I.stkSub b z) with e | e
  ·exact (hf b hb).2.1 e
  ·exact (hf b hb).2.2.1 e
 ·obtain ⟨e2,ni⟩:=ie is σ i v h2
  have h3':(relabel scope X.env).names.lookup x=some .local∨(relabel scope X.env).names.lookup x=some .cell∨(relabel scope X.env).names.lookup x=some .free:=h3
  rcases h3' with z | z
  ·exact absurd (B.own i x h1 z) ni
  ·obtain ⟨hv,hnl,c,hc⟩:=B.free x z
   obtain ⟨m0,_,hl⟩:=I.loc
   obtain ⟨u,r,l⟩:=hl i x v h1 e2 hv
   refine ⟨u,r,.inr ⟨z,c,hc,?_⟩⟩
   rcases l with ⟨k,_⟩ | ⟨_,c',hc',o,ho,hd⟩
   ·exact absurd k hnl
   ·have ec:=B.cls x c hc
    rw [hc'] at ec
    cases ec
    exact ⟨o,hk _ _ ho,hd⟩
 ·obtain ⟨v,o,ho,hd⟩:=I.cell x c (B.cls x c e)
  exact ⟨v,o,hk _ _ ho,hd⟩
 ·show (mask is σ).length=X.N.length
  rw [fh]; exact I.len
theorem nO {elt iter tg:Expr} {scope:Scope} {cl:List (Str×Addr)} {pos pos0:Pos} {is:List Nat} {wi:TI} {g:TG} {te:TE} {use:Option (Value→Sem Unit)} {Q0:VK} {Q:Value→Shared→Prop} (hc:X.calm=true) (B:dC X scope cl is)
  (hi:PI X tg iter wi) (hg:∀ C s H fp,PG (aD X scope cl C s H fp) tg g) (he:∀ C s H fp,PE (aD X scope cl C s H fp) elt te) (hs:∀ x,foldedSetIterable iter X.env x=pure x)
  (I:Inv X pins σ H s) (h:wC is wi g te σ H Q0)
  (fin:∀ (l C:Addr) (H':Hp) (s':Shared) (m:Str→Option Value),Inv X pins σ H' s'→s'.heap.Ns C m→H' C=none→C≠X.env.locals→C ∉ X.fs→X.s₀.heap.objs.size≤C→(∀ x c,X.env.cells.lookup x=some c→c≠C)→(∀ p∈X.pn++pins,p.1≠C)→Q0 (.ref l) H'→
   compPost (model X.prog X.w) X.A X.xe use Q (.ref l) C (.ok .next) s'):
  wpAny (model X.prog X.w) X.A (comprehension (.ListComp elt [⟨tg,iter,[],0⟩] scope pos) scope X.env pos0 (newList []) false (eval iter X.env) use) Q X.xe s:=by
 refine wpAny_comprehension_free rfl hs B.clos B.kind B.names (thn (hi pins s σ H _ I h) fun xv s1 h1=> thn h1 fun itv s2 h2=> ?_)
 obtain ⟨it,fp,tn,J,H2,e,I2,T,st2,f2,R⟩:=h2
 subst e
 refine wpAny_newObj_type (wpAny_newFunctionEnv B.cell (by intro y hy; simp at hy) (fun h₁ hns hsb=> ?_) B.kind)
 have hl:H2 s2.heap.objs.size=none:=I2.hok.fresh (Cv _)
 obtain ⟨W,⟨m0,w0⟩,turn⟩:=R s2.heap.objs.size hl
 have I3:Inv X pins σ (upd H2 s2.heap.objs.size (.lst [])) { s2 with heap:=s2.heap.push { cls:=.type "list",dict:=none,data:=.seq ([]:List Value).toArray } }:=
  I2.laid (t':=s2.toks) (o:=.lst []) (fun b u e=> Cq _ e) (Cv _) ⟨DG _,[],0,.nil,CG _ rfl⟩
 have hfl:∀ b∈fp,b < s2.heap.objs.size:=fun b hb=> let ⟨o,e,_⟩:=T.obj 0 _ st2 b hb; Cw e
 have f3:∀ b∈fp,jF X pins (upd H2 s2.heap.objs.size (.lst [])) b:=fun b hb=> ⟨by rw [bv (C1 (hfl b hb))]; exact (f2 b hb).1,(f2 b hb).2⟩
 have kp:∀ b o,(s2.heap.push { cls:=.type "list",dict:=none,data:=.seq ([]:List Value).toArray }).get? b=some o→h₁.get? b=some o:=fun b o e=>
  hsb.extBut b o (C1 (Cw e)) (Cq _ e)
 have st4:tn 0 h₁:=T.keep 0 _ _ st2 fun b _ o e=> kp b o (Cq _ e)
 have hfl3:∀ b∈fp,b < (s2.heap.push { cls:=.type "list",dict:=none,data:=.seq ([]:List Value).toArray }).objs.size:=fun b hb=> by
  rw [Er]; exact Eo (hfl b hb)
 have I4:=i5 (t':=s2.toks+([]:List (Str×Value)).length) I3 B f3 hfl3 hns kp
 have loop:codeAny (model X.prog X.w) X.A (.compLoop (.ListComp elt [⟨tg,iter,[],0⟩] scope pos) 0 (.ref it) (.ref s2.heap.objs.size) (compEnvC scope cl (s2.heap.push { cls:=.type "list",dict:=none,data:=.seq ([]:List Value).toArray }).objs.size X.env))
   (compPost (model X.prog X.w) X.A X.xe use Q (.ref s2.heap.objs.size) (s2.heap.push { cls:=.type "list",dict:=none,data:=.seq ([]:List Value).toArray }).objs.size)
   { s2 with heap:=h₁,toks:=s2.toks+([]:List (Str×Value)).length }:=by
  generalize hs3:({ s2 with heap:=s2.heap.push { cls:=.type "list",dict:=none,data:=.seq ([]:List Value).toArray } }:Shared)=s3 at *
  have hC:(s2.heap.push { cls:=.type "list",dict:=none,data:=.seq ([]:List Value).toArray }).objs.size=s3.heap.objs.size:=by rw [← hs3]
  rw [hC]
  have hstat:∀ {H':Hp},(∀ b∈fp,H' b=none)→∀ b∈fp,jF (aD X scope cl s3.heap.objs.size s3 (upd H2 s2.heap.objs.size (.lst [])) fp) [] H' b:=fun hn b hb=>
   ⟨hn b hb,(I4.ok.exf b hb).1,I4.ok.exfs b hb,.inl hb,fun x c e=> (I4.ok.exf b hb).2 x c e,fun p hp=> absurd (show p∈([]:List (Addr×Obj)) from hp) (by simp)⟩
  have back:∀ {σ':St} {H':Hp} {pp:List (Addr×Obj)} {s':Shared},Inv (aD X scope cl s3.heap.objs.size s3 (upd H2 s2.heap.objs.size (.lst [])) fp) pp σ' H' s'→Inv X pins σ H' s':=fun I'=>
   I3.call' (ch:=fp) I'.os I'.base I'.hok I'.bare fun b hb=> ⟨(f3 b hb).2.2.2.1,(f3 b hb).2.1,(f3 b hb).2.2.2.2.1,(f3 b hb).2.2.2.2.2⟩
  refine codeAny_loop rfl (fun n s'=> ∃ i H',Inv (aD X scope cl s3.heap.objs.size s3 (upd H2 s2.heap.objs.size (.lst [])) fp) [] (mask is σ) H' s'∧tn i s'.heap∧(∀ b∈fp,H' b=none)∧W i n H') ?_ m0 ⟨0,_,(by subst hs3; exact I4),st4,fun b hb=> (f3 b hb).1,w0⟩
  rintro n s5 ⟨i,H5,I5,st5,fr5,w5⟩
  show wpAny _ _ ((compTurn (.ListComp elt [⟨tg,iter,[],0⟩] scope pos) 0 (.ref it) (.ref s2.heap.objs.size) (compEnvC scope cl s3.heap.objs.size X.env)).onRaise (fun x=> do noteFrame x (compEnvC scope cl s3.heap.objs.size X.env); theTreesLotGoes x)) _ _ s5
  refine wpAny_noted ?_
  rw [compTurn_list1]
  refine wpAny_bind (wpAny_standAt (wpAny_bind ?_))
  rcases turn i n H5 w5 with ⟨stop,q⟩ | ⟨go,step⟩
  ·refine thn (T.done (aD X scope cl s3.heap.objs.size s3 (upd H2 s2.heap.objs.size (.lst [])) fp) rfl rfl rfl hc i [] s5 _ H5 _ I5 (hstat fr5) st5 stop) fun r s6 ⟨hr,I6⟩=> ?_
   subst hr
   refine wpAny_pure ?_
   obtain ⟨m6,hn6,_⟩:=I6.loc
   have hCn:∀ b,b < s3.heap.objs.size→b≠s3.heap.objs.size:=fun b hb=> C1 hb
   refine fin _ s3.heap.objs.size H5 s6 m6 (back I6) hn6 I6.free (Gy I3.lt) (I3.nofs (Cv _)) I3.sz (fun x c e=> ?_) (fun p hp=> ?_) q
   ·obtain ⟨v,z⟩:=I3.cell x c e
    exact C1 z.lt
   ·exact C1 (Cw (I3.pin p hp).1)
  ·refine thn (T.item (aD X scope cl s3.heap.objs.size s3 (upd H2 s2.heap.objs.size (.lst [])) fp) rfl rfl rfl hc i [] s5 _ H5 _ I5 (hstat fr5) st5 go) fun r s6 ⟨u,hr,h6⟩=> ?_
   subst hr
   refine wpAny_bind (thn h6 fun _ s7 ⟨x,H7,I7,r7,y7,st7,fr7⟩=> ?_)
   have I7':=I7.pinned (hstat fr7) (T.obj _ _ st7)
   refine wpAny_bind (wpAny_mono (hg _ _ _ _ _ s7 (mask is σ) H7 x u _ I7' r7 (step x H7 y7)) (fun _ s8 ⟨σ8,H8,I8,q8⟩=> ?_) fun _ _ z=> z.elim)
   refine wpAny_bind (wpAny_bind (wpAny_mono (he _ _ _ _ _ s8 σ8 H8 _ I8 q8) (fun v s9 ⟨y,H9,I9,r9,sub,vs,hl9,hz,m',hm,w'⟩=> ?_) fun _ _ z=> z.elim))
   refine wpAny_bind (wpAny_mono (iQ (X:=aD X scope cl s3.heap.objs.size s3 (upd H2 s2.heap.objs.size (.lst [])) fp) _ s9 σ8 H9 (.ref s2.heap.objs.size) [y] (.ref s2.heap.objs.size) [v] (fun _ H'=> H'=upd H9 s2.heap.objs.size (.lst (vs++[y]))) I9 rfl (.cons r9 .nil) ⟨_,vs,y,rfl,rfl,hl9,hz,rfl⟩) (fun z s10 ⟨zv,H10,I10,_,e10⟩=> ?_) fun _ _ z=> z.elim)
   subst e10
   refine wpAny_pure (wpAny_pure ⟨rfl,m',hm,i+1,_,(I10.unpinned (pins:=[])).weak (by rw [I10.len,fh,I.len]) sub,T.keep _ _ _ st7 fun b hb o e=> (I10.pin (b,o) (CS _ (CS _ (dq hb e)))).1,fun b hb=> ?_,w'⟩)
   obtain ⟨o,e,d⟩:=T.obj _ _ st7 b hb
   exact (I10.pin (b,o) (CS _ (CS _ (dq hb e)))).2.1
 exact codeAny_compStart_list loop (T.self X.A 0 _ _ _ st4 loop)
theorem yl {elt iter tg:Expr} {scope:Scope} {cl:List (Str×Addr)} {pos:Pos} {is:List Nat} {wi:TI} {g:TG} {te:TE} (hc:X.calm=true) (B:dC X scope cl is)
  (hi:PI X tg iter wi) (hg:∀ C s H fp,PG (aD X scope cl C s H fp) tg g) (he:∀ C s H fp,PE (aD X scope cl C s H fp) elt te) (hs:∀ x,foldedSetIterable iter X.env x=pure x:=by intro _; rfl):
  PE X (.ListComp elt [⟨tg,iter,[],0⟩] scope pos) (wC is wi g te):=by
 intro pins s σ H Q I h
 rw [eval_ListComp]
 refine nO (use:=none) hc B hi hg he hs I h fun l C H' s' m I' hn h1 h2 h3 h4 h5 h6 q=> ⟨m,hn,fun h' hsb=> ?_⟩
 exact ⟨.ref l,H',I'.turned (t':=s'.toks) (fun b o hb e=> hsb.extBut b o hb e) h1 (Ne.symm h2.symm) (.inr h4) h5 h6,rfl,q⟩
end
end L2
namespace L2
open PySem PySem.Spec PyProof.Rows
section
variable {X:Cx}
theorem p9 {elt iter tg:Expr} {scope:Scope} {cl:List (Str×Addr)} {pos spos py:Pos} {y:Str} {j:Nat} {is:List Nat} {wi:TI} {g:TG} {te:TE} (hc:X.calm=true) (hN:X.N.Nodup) (hj:X.N[j]?=some y) (hy:Loc X.env.scope y) (B:dC X scope cl is)
  (hi:PI X tg iter wi) (hg:∀ C s H fp,PG (aD X scope cl C s H fp) tg g) (he:∀ C s H fp,PE (aD X scope cl C s H fp) elt te) (hs:∀ x,foldedSetIterable iter X.env x=pure x:=by intro _; rfl)
  (hsw:swapsWith (.ListComp elt [⟨tg,iter,[],0⟩] scope pos) (some (.Name y py)) spos.line X.env=pure true:=by rfl) (hf:X.fn y=true∨X.env.scope.names.lookup y=some .local:=by first | exact .inl rfl | exact .inr rfl | assumption):
  PS X (.Assign [.Name y py] (.ListComp elt [⟨tg,iter,[],0⟩] scope pos) spos) (yP (wC is wi g te) (kW j)):=by
 intro pins s σ H D I h
 rw [exec_Assign_Name_used _ _ _ _ hsw]
 refine wpAny_bind (wpAny_standAt (wpAny_bind ?_))
 show wpAny _ X.A (do let _ ← comprehension (.ListComp elt [⟨tg,iter,[],0⟩] scope pos) scope X.env _ (newList []) false (eval iter X.env) (some (assign (.Name y py) X.env))) _ _ s
 refine wpAny_bind (wpAny_mono (nO (Q0:=fun v H'=> D.nx (σ.set j (some v)) H') (use:=some (assign (.Name y py) X.env)) (Q:=fun _ s'=> SP X pins D .next s') hc B hi hg he hs I h fun l C H' s' m I' hn h1 h2 h3 h4 h5 h6 q=> ?_) (fun _ s' hq=> wpAny_pure (wpAny_pure hq)) fun _ _ e=> e)
 show wpAny _ X.A (assign (.Name y py) X.env (.ref l)) _ _ _
 refine wpAny_assign_Name (iI I' hN hj hy (v:=.ref l) rfl (fun s2 I2 ⟨a,hsb,ha⟩=> ?_) hf)
 have hCa:C≠a:=by
  rcases ha with e | e
  ·rw [e]; exact h2
  ·exact Ne.symm (h5 _ _ e)
 refine ⟨m,hn.sameBut hsb hCa,fun h' hsb'=> ⟨_,H',I2.turned (t':=s2.toks) (fun b o hb e=> hsb'.extBut b o hb e) h1 h2 (.inr h4) h5 h6,q⟩⟩
end
section
variable {prog:Program} {w:World} {A:Around} {E:Value→Shared→Prop}
theorem kQ {it t:Addr} {items:Array Value} (hne:t≠it):∀ (n i:Nat) (s:Shared) (Q:List Value→Shared→Prop),s.heap.IsListIter it t i→s.heap.IsList t items→i+n≤items.size→
  (∀ h',h'.IsListIter it t (i+n)→Fe it s.heap h'→Q ((items.toList.drop i).take n) { s with heap:=h' })→wpAny (model prog w) A (draw (.ref it) n) Q E s
 | 0,i,s,Q,hit,_,_,hQ=> by
  show wpAny _ _ (pure []) Q E s
  exact wpAny_pure (by simpa using hQ s.heap hit (GM ..))
 | n+1,i,s,Q,hit,ht,hle,hQ=> by
  have hlt:i < items.size:=by omega
  show wpAny _ _ (pyNext (.ref it) >>=_) Q E s
  refine wpAny_bind (wpAny_pyNext_list_item hit ht (x:=items[i]) (by simp [hlt]) fun h₁ hit₁ hs₁=> ?_)
  refine wpAny_bind (wpAny_holding (kQ hne n (i+1) _ _ hit₁ (ht.extBut hs₁.extBut hne) (by omega) fun h₂ hit₂ hs₂=> wpAny_pure ?_))
  have hd:items.toList.drop i=items[i]::items.toList.drop (i+1):=by simp [GE,hlt]
  have:=hQ h₂ (by rw [show i+(n+1)=i+1+n by omega]; exact hit₂) (hs₁.trans hs₂)
  rw [hd,Hz] at this
  exact this
theorem iP {s:Shared} {t:Addr} {items:Array Value} {Q:List Value→Shared→Prop} (hh:A.handled=none) (ht:s.heap.IsList t items)
  (hQ:∀ h',Ju s.heap.objs.size s.heap h'→Q items.toList { s with heap:=h' }):wpAny (model prog w) A (unpackItems (.ref t) items.size none) Q E s:=by
 have hlt:t≠s.heap.objs.size:=by obtain ⟨o,ho,_⟩:=ht; exact C1 (Cw ho)
 unfold unpackItems
 refine wpAny_bind ?_
 ·unfold notIterableAtAll
  refine wpAny_bind (wpAny_specialOf ht.typeIs PySem.slot_list_iter.lookup ?_)
  refine wpAny_pure ?_
  simp only [CN,if_false]
  refine wpAny_bind (wpAny_holding (wpAny_pyIter_list ht ?_))
  refine wpAny_bind (wpAny_holding (kQ hlt items.size 0 _ _ ⟨_,CG _ rfl,rfl,rfl⟩ (ht.push _) (by omega) fun h₁ hit₁ hs₁=> ?_))
  have hall:List.take items.size (List.drop 0 items.toList)=items.toList:=by
   rw [List.drop_zero]; exact E9 (by simp)
  rw [hall]
  rw [if_neg (by simp)]
  have ht₁:h₁.IsList t items:=(ht.push _).extBut hs₁.extBut hlt
  refine wpAny_bind (wpAny_holding (wpAny_pyNext_list_end hh hit₁ ht₁ (by simp) fun h₂ he₂=> ?_))
  simp only [Option.isSome_none,CN,if_false]
  refine wpAny_pure (hQ h₂ fun b o hb e=> he₂ b o hb (hs₁.extBut b o hb (Cq _ e)))
end
section
variable {X:Cx} {pos:Pos}
def B2 (K:Cn) (n:Nat) (t:TGs):TG:=fun v σ H Q=> ∃ a xs,v=.ref a∧SqL K H a xs∧xs.length=n∧t xs σ H Q
theorem AV {es:List Expr} {k:Nat} {t:TGs} {n:Nat} (hc:X.calm=true) (h:PGs X es t)
  (hn:(assignEach es X.env).length=n:=by rfl) (hst:(assignEach es X.env).findIdx? (·.1)=none:=by rfl):PG X (.Tuple es k pos) (B2 X.K n t):=by
 intro pins s σ H v u Q I r hw
 obtain ⟨a,xs,e1,hq,hl,hw⟩:=hw
 subst e1
 cases r
 obtain ⟨its,rv,ht,hz⟩:=I.list hq
 rw [assign_Tuple]
 refine wpAny_bind (wpAny_standAt ?_)
 unfold unpack
 rw [hst,hn,← hl,rv.length,← CH]
 refine wpAny_bind (wpAny_holding (iP (I.ok.hd hc) ht.isList fun h' hx=> ?_))
 have I1:Inv X pins σ H { s with heap:=h' }:=I.kept (t':=s.toks) fun b o e=> hx b o (C1 (Cw e)) e
 exact h pins _ σ H xs _ Q I1 (by simpa using rv) hw
end
end L2
namespace L2
open PySem PySem.Spec PyProof.Rows
def goC (cells:List (Str×Addr)):List (Str×NameKind)→List (Str×Addr)→List (Str×Addr)
 | [],acc=> acc
 | (n,k)::r,acc=> goC cells r (if (k==.free)=true then (n,(cells.lookup n).getD 0)::acc else acc)
theorem pB {env:Env} {scope:Scope} (h:∀ y∈scope.names,y.2=.free→(env.cells.lookup y.1).isSome=true):closureFor scope env=pure (goC env.cells scope.names []):=by
 have all:∀ (names:List (Str×NameKind)) (acc:List (Str×Addr)),(∀ y∈names,y.2=.free→(env.cells.lookup y.1).isSome=true)→
   (forIn names acc (fun x cs=> match x with | (name,kind)=> if (kind==.free)=true then (do let c ← cellOf env name; pure (ForInStep.yield ((name,c)::cs))) else pure (ForInStep.yield cs)):Sem (List (Str×Addr)))=pure (goC env.cells names acc):=by
  intro names
  induction names with
  | nil=> intro acc _; rfl
  | cons y r ih=>
   intro acc hy
   obtain ⟨n,k⟩:=y
   rw [Gh]
   by_cases hk:k=.free
   ·subst hk
    have:=hy (n,.free) Cy rfl
    obtain ⟨c,hc⟩:=Fs.mp this
    have e:cellOf env n=pure c:=by unfold cellOf; rw [hc]
    simp only [beq_self_eq_true,if_true,e,pure_bind]
    rw [ih _ fun y hy'=> hy y (Cp _ hy')]
    simp only [goC,beq_self_eq_true,if_true,hc,EL]
   ·have hb:(k==NameKind.free)=false:=by simpa using hk
    simp only [hb,CN,if_false,pure_bind]
    rw [ih _ fun y hy'=> hy y (Cp _ hy')]
    simp only [goC,hb,CN,if_false]
 simp only [closureFor]
 have:=all scope.names [] h
 simpa using this
theorem rn {cells:List (Str×Addr)}:∀ (names:List (Str×NameKind)) (acc:List (Str×Addr)),(∀ y∈names,y.2=.free→(cells.lookup y.1).isSome=true)→(∀ x c,acc.lookup x=some c→cells.lookup x=some c)→
  ∀ x c,(goC cells names acc).lookup x=some c→cells.lookup x=some c
 | [],_,_,ha,x,c,h=> ha x c h
 | (n,k)::r,acc,hy,ha,x,c,h=> by
  rw [goC] at h
  refine rn r _ (fun y hy'=> hy y (Cp _ hy')) (fun x' c' e=> ?_) x c h
  by_cases hk:k=.free
  ·subst hk
   simp only [beq_self_eq_true,if_true] at e
   rw [FY] at e
   by_cases hx:(x'==n)=true
   ·rw [hx] at e
    have hx':x'=n:=by simpa using hx
    obtain ⟨c2,hc2⟩:=Fs.mp (hy (n,.free) Cy rfl)
    simp only [hc2,EL] at e
    rw [hx',hc2]; exact e
   ·have:(x'==n)=false:=by simpa using hx
    rw [this] at e
    exact ha x' c' e
  ·have hb:(k==NameKind.free)=false:=by simpa using hk
   rw [hb] at e
   exact ha x' c' e
theorem rA {cells:List (Str×Addr)} {x:Str}:∀ (names:List (Str×NameKind)) (acc:List (Str×Addr)),((x,NameKind.free)∈names∨∃ c,acc.lookup x=some c)→∃ c,(goC cells names acc).lookup x=some c
 | [],_,h=> by
  rcases h with h | h
  ·cases h
  ·exact h
 | (n,k)::r,acc,h=> by
  rw [goC]
  refine rA r _ ?_
  rcases h with h | ⟨c,h⟩
  ·rcases Cu.mp h with e | h
   ·cases e
    right
    simp
   ·exact .inl h
  ·right
   by_cases hk:k=.free
   ·subst hk
    simp only [beq_self_eq_true,if_true]
    rw [FY]
    cases hx:x==n with
    | true=> exact ⟨_,rfl⟩
    | false=> exact ⟨c,h⟩
   ·have hb:(k==NameKind.free)=false:=by simpa using hk
    rw [hb]; exact ⟨c,h⟩
theorem de {env:Env} {x:Str} {kd:NameKind}:∀ {names:List (Str×NameKind)},
  (names.map fun (n,k)=> if (k==NameKind.free && env.scope.kind==.function && env.kindOf n==some .cell) then (n,NameKind.cell) else (n,k)).lookup x=some kd→names.lookup x=some kd∨(kd=.cell∧names.lookup x=some .free)
 | [],h=> by simp at h
 | (n,k)::r,h=> by
  have ih:=@de env x kd r
  change List.lookup x ((if (k==NameKind.free && env.scope.kind==.function && env.kindOf n==some .cell)=true then (n,NameKind.cell) else (n,k))::_)=_ at h
  by_cases hc:(k==NameKind.free && env.scope.kind==.function && env.kindOf n==some .cell)=true
  ·rw [if_pos hc] at h
   rw [FY] at h ⊢
   cases hx:x==n with
   | true=>
    rw [hx] at h
    have hk:k=.free:=by
     have:=(Hr.mp (Hr.mp hc).1).1
     simpa using this
    subst hk
    have h':some NameKind.cell=some kd:=h
    cases h'
    exact .inr ⟨rfl,rfl⟩
   | false=> rw [hx] at h; exact ih h
  ·rw [if_neg hc] at h
   rw [FY] at h ⊢
   cases hx:x==n with
   | true=> rw [hx] at h; exact .inl h
   | false=> rw [hx] at h; exact ih h
def wN (scope fscope:Scope) (N:List Str) (is:List Nat):Bool:=
 scope.names.all (fun y=> y.2 !=.cell) && scope.names.all (fun y=> y.2 !=.local || scope.names.lookup y.1==some .local) && scope.names.all (fun y=> y.2 !=.free || fscope.names.lookup y.1==some .cell) &&
  (Df N.length).all fun i=> match N[i]? with | some x=> scope.names.lookup x !=some .local || is.contains i | none=> true
theorem blk {X:Cx} {scope:Scope} (fscope:Scope) (N:List Str) (is:List Nat) (hNN:X.N=N) (hs:X.env.scope=fscope) (hcs:X.env.cells=cellsFrom (X.env.locals+1) fscope.names []) (hk:scope.kind=.function) (h:wN scope fscope N is=true):dC X scope (goC X.env.cells scope.names []) is:=by
 subst hNN
 unfold wN at h
 simp only [Dx,FZ] at h
 obtain ⟨⟨⟨h1,h2⟩,h3⟩,h4⟩:=h
 have f1:∀ y∈scope.names,y.2=.free→fscope.names.lookup y.1=some .cell:=fun y hy e=> by
  have:=h3 y hy
  simp only [Hd,bne_iff_ne,ne_eq,beq_iff_eq] at this
  exact this.resolve_left fun z=> z e
 have f2:∀ y∈scope.names,y.2=.free→(X.env.cells.lookup y.1).isSome=true:=fun y hy e=> by
  rw [hcs]; exact FE _ _ _ (.inl (f1 y hy e))
 have nc:∀ y∈scope.names,y.2≠.cell:=fun y hy=> by have:=h1 y hy; simpa using this
 refine ⟨pB f2,nc,hk,fun y hy e=> ?_,rn _ _ f2 (fun x c e=> by simp at e),fun x hx=> ?_,fun i x hi hl=> ?_⟩
 ·have:=h2 y hy
  simp only [Hd,bne_iff_ne,ne_eq,beq_iff_eq] at this
  exact this.resolve_left fun z=> z e
 ·have hf:(x,NameKind.free)∈scope.names:=by
   rcases hx with hx | hx
   ·rcases de hx with z | ⟨_,z⟩
    ·exact absurd rfl (nc _ (Ea z))
    ·exact Ea z
   ·rcases de hx with z | ⟨z,_⟩
    ·exact Ea z
    ·cases z
  have hc:=f1 _ hf rfl
  refine ⟨.inr (.inl (by rw [hs]; exact hc)),(by rw [hs,show fscope.names.lookup x=some .cell from hc]; intro z; cases z),rA _ _ (.inl hf)⟩
 ·have hi':i < X.N.length:=(Cz.mp hi).1
  have:=h4 i (CF.mpr hi')
  rw [hi] at this
  have hl':scope.names.lookup x=some .local:=by
   rcases de hl with z | ⟨z,_⟩
   ·exact z
   ·cases z
  simp only [hl',bne_self_eq_false,Bool.false_or,List.contains_iff_mem] at this
  exact this
end L2
namespace L2
end L2
namespace L2
open PySem PySem.Spec PySem.W PyProof.Rows
theorem xO {K:Frag} {h:Heap} {mg:Str→Option Value} {x:Str} {C:Addr} {bmB:List Value} {newId:String} (X:K.In h) (hb:mg x=some (.ref C)) (q:excIn K C bmB newId=true):OwnCls x C bmB newId mg h:=by
 refine ⟨hb,?_⟩
 unfold excIn at q
 split at q
 ·rename_i dd cd sl ho
  split at q
  ·rename_i C' bm k0 k1 k2 k3 n k5 hm hs
   simp only [Dx,beq_iff_eq,Bool.not_eq_true'] at q
   obtain ⟨⟨⟨⟨⟨e1,e2⟩,hdel⟩,ht⟩,hok⟩,hni⟩:=q
   subst e1 e2
   obtain ⟨nm,bs,mro,ns,qn,hd,sn,sub,ab,col,del⟩:=cd
   dsimp only at hm hdel hok hni
   subst hm hdel
   have hsl:sl=#[k0,k1,k2,k3,some (.builtin n),k5]:=by cases sl; simp only at hs; rw [hs]
   subst hsl
   exact ⟨bm,ns,nm,qn,bs,hd,sn,sub,ab,col,dd,k0,k1,k2,k3,k5,_,X _ _ ho,.of_isNs (isNs_of_in X hok),nsMap_none_of_in X hok hni,tail_of_in X ht⟩
  ·cases q
 ·cases q
def CXF (P:Program) (w:World):CXT:=fun outer H s E e s'=> ∃ (ea:Addr) (cls a0:Value) (B:Heap) (H':Hp),e=.ref ea∧s'.os=s.os∧AllBare s'.gens∧Un (frs outer) [] H H' s.heap s'.heap∧HOk P w H' s'.heap∧H' ea=none∧
 (∀ b o,s.heap.get? b=some o→b ∉ frs outer→H b=none→B.get? b=some o)∧(∀ b u,H' b=some u→∃ o,B.get? b=some o)∧(∀ b o,s.heap.get? b=some o→b ∉ frs outer→∃ o',B.get? b=some o')∧
 Heap.FlyingW B outer ea cls a0 s'.heap∧E cls none H'
theorem aC {P:Program} {w:World} {X:Cx}:fM (CXF P w) X E0:=fun _ _ _ _ _ _ _ h=> by
 obtain ⟨_,_,_,_,_,_,_,_,_,_,_,_,_,_,_,hE⟩:=h
 exact hE.elim
theorem lq {P:Program} {w:World} {H:Hp} {h:Heap} {a:Addr} {o:HO} (x:cG P w H h a o):∃ ob,h.get? a=some ob:=by
 cases o with
 | lst xs=> obtain ⟨_,_,_,_,e⟩:=x; exact ⟨_,e⟩
 | tup xs=> obtain ⟨_,_,_,ob,e,_⟩:=x; exact ⟨_,e⟩
 | dK kvs=> obtain ⟨_,_,_,_,o,_,_,e,_⟩:=x; exact ⟨_,e⟩
 | dT kvs=> obtain ⟨_,_,_,_,o,_,_,e,_⟩:=x; exact ⟨_,e⟩
 | set S n=> obtain ⟨o,_,_,_,e,_⟩:=x; exact ⟨_,e⟩
 | ins C dx fs=> obtain ⟨_,_,_,e,_⟩:=x; exact ⟨_,e⟩
 | own y=> obtain ⟨_,e⟩:=x; exact ⟨_,e⟩
 | xd fs=> obtain ⟨_,⟨_,_,_,e,_⟩,_⟩:=x; exact ⟨_,e⟩
 | rng lo hi=> obtain ⟨_,_,_,e⟩:=x; exact ⟨_,e⟩
 | frz ob u=> obtain ⟨e,_⟩:=x; exact ⟨_,e⟩
 | tbl ps=> exact ⟨_,(show h.get? a=some _ from x)⟩
 | met f y=> exact ⟨_,(show h.get? a=some _ from x)⟩
 | ext φ=> obtain ⟨_,⟨_,e⟩,_⟩:=x; exact ⟨_,e⟩
theorem qU {P:Program} {w:World} {H':Hp} {h h' B:Heap} (ok:HOk P w H' h) (hB:∀ b u,H' b=some u→∃ o,B.get? b=some o) (s1:B.StaysIn h) (s2:B.StaysIn h'):HOk P w H' h':=fun a o e=> by
 refine (ok a o e).stay (fun b u hb q=> ?_) (fun _ q=> q) fun _ _ q=> q
 have:∃ v,H' b=some v:=by
  rcases hb with z | z
  ·subst z; exact ⟨_,e⟩
  ·exact ⟨_,z⟩
 obtain ⟨v,hv⟩:=this
 obtain ⟨ob,hob⟩:=hB b v hv
 have:=s1 b ob hob
 rw [q] at this
 cases this
 exact s2 b _ hob
theorem rQ {h base:Heap}:∀ {l:List Env},h.FunFrames base l→∀ b∈frs l,∀ o,h.get? b=some o→∀ vs,o.data≠.fields vs
 | [],_,b,hb,_,_=> absurd (show b∈([]:List Addr) from hb) (by simp)
 | env::r,⟨_,⟨L,o',hf,_,ho,hd⟩,hr⟩,b,hb,o,e=> by
  unfold frs at hb
  rw [D_,hf] at hb
  rcases Cu.mp hb with z | z
  ·subst z; rw [ho] at e; cases e; exact hd
  ·exact rQ hr b z o e
section
variable {P:Program} {w:World} {K:Frag} {mg:Str→Option Value} {base:Heap} {N:List Str} {qual:Str} {scope:Scope} {f:Addr} {cd:Value} {A:Around} {outer:List Env} {s:Shared} {H:Hp} {E:XK}
theorem vA {env:Env} {L:Addr} {l:List Env} (h:env.frame=some L):frs (env::l)=L::frs l:=by unfold frs; rw [D_,h]
theorem nM {pins:List (Addr×Obj)} {σ:St} {H1 H':Hp} {s1:Shared} {B h1 h2:Heap} (I:Inv (eF (CXF P w) P w K mg base N qual scope f cd A outer s H E) pins σ H1 s1)
  (un:Un (frs (envOfC qual scope s.heap.objs.size f cd::outer)) [] H1 H' s1.heap h1)
  (k1:∀ b o,s1.heap.get? b=some o→b ∉ frs (envOfC qual scope s.heap.objs.size f cd::outer)→H1 b=none→B.get? b=some o) (k3:∀ b o,s1.heap.get? b=some o→b ∉ frs (envOfC qual scope s.heap.objs.size f cd::outer)→∃ o',B.get? b=some o')
  (st:B.StaysIn h2) (up:h1.UpToSlots h2):
  Un (frs outer) [] H H' s.heap h2∧(∀ b o,s.heap.get? b=some o→b ∉ frs outer→H b=none→B.get? b=some o)∧(∀ b o,s.heap.get? b=some o→b ∉ frs outer→∃ o',B.get? b=some o'):=by
 have ef:frs (envOfC qual scope s.heap.objs.size f cd::outer)=s.heap.objs.size::frs outer:=vA rfl
 rw [ef] at un k1 k3
 have ne:∀ b o,s.heap.get? b=some o→b ∉ frs outer→b ∉ s.heap.objs.size::frs outer:=fun b o e hb z=> by
  rcases Cu.mp z with y | y
  ·exact absurd (Cw e) (by rw [y]; exact Dh _)
  ·exact hb y
 have ib:Un (frs outer) [] H H1 s.heap s1.heap:=I.base
 have K1:∀ b o,s.heap.get? b=some o→b ∉ frs outer→H b=none→B.get? b=some o:=fun b o e hb n=>
  k1 b o (ib.keep b o e n hb (by simp)) (ne b o e hb) (ib.free b o e n (by simp))
 have K3:∀ b o,s.heap.get? b=some o→b ∉ frs outer→∃ o',B.get? b=some o':=fun b o e hb=> by
  obtain ⟨o',e'⟩:=ib.there b o e (by simp)
  exact k3 b o' e' (ne b o e hb)
 have ffr:∀ b∈frs outer,∀ o,s.heap.get? b=some o→∀ vs,o.data≠.fields vs:=rQ I.ok.funs
 have frf:∀ b∈frs outer,H b=none:=I.ok.frf
 refine ⟨⟨fun b o e n hb _=> st b o (K1 b o e hb n),fun b o e n hb hx=> ?_,fun b o e n hx=> ?_,fun b o e hx=> ?_,fun b xs e=> un.tups b xs (ib.tups b xs e),fun b o u e=> un.frzs b o u (ib.frzs b o u e),fun b ps e=> ?_⟩,K1,K3⟩
 ·obtain ⟨sl,e1⟩:=ib.slot b o e n hb hx
  obtain ⟨sl2,e2⟩:=un.slot b _ e1 (ib.free b o e n hx) (Cp _ hb) hx
  obtain ⟨sl3,e3⟩:=up b _ e2 (ffr b hb o e)
  exact ⟨sl3,e3⟩
 ·obtain ⟨o',e1⟩:=ib.there b o e hx
  exact un.free b o' e1 (ib.free b o e n hx) hx
 ·by_cases hb:b∈frs outer
  ·obtain ⟨sl,e1⟩:=ib.slot b o e (frf b hb) hb hx
   obtain ⟨sl2,e2⟩:=un.slot b _ e1 (ib.free b o e (frf b hb) hx) (Cp _ hb) hx
   obtain ⟨sl3,e3⟩:=up b _ e2 (ffr b hb o e)
   exact ⟨_,e3⟩
  ·obtain ⟨o',e'⟩:=K3 b o e hb
   exact ⟨o',st b o' e'⟩
 ·obtain ⟨m1,e1⟩:=ib.tbls b ps e
  obtain ⟨m2,e2⟩:=un.tbls b _ e1
  exact ⟨m1++m2,by rw [e2,HB]⟩
theorem xj:fM (CXF P w) (eF (CXF P w) P w K mg base N qual scope f cd A outer s H E) E:=by
 intro pins σ H1 s1 e s' I hcx
 obtain ⟨ea,cls,a0,B,H',rfl,os,bare,un,hok,hea,k1,k2,k3,fl,hE⟩:=hcx
 show wpAny _ _ (leaving (envOfC qual scope s.heap.objs.size f cd) (.ref ea)) _ _ s'
 refine wpAny_leaves_onW (L:=s.heap.objs.size) I.ok.frames rfl fl fun h2 fl2 up=> ?_
 obtain ⟨u,K1,K3⟩:=nM I un k1 k3 fl2.1 up
 exact ⟨ea,cls,a0,B,H',rfl,os.trans I.os,bare,u,qU hok k2 fl.1 fl2.1,hea,K1,k2,K3,fl2,hE⟩
def AL (E:XK) (C:Addr) (te:TE):TS:=fun _ σ H=> te σ H fun _ H1=> E (.ref C) none H1
theorem wj {x:Str} {C:Addr} {e0:Expr} {te:TE} {np cpos pos:Pos} (hex:excIn K C [.type "ValueError",.type "Exception",.type "BaseException",.type "object"] "ValueError.__new__"=true)
  (hg:Gl (eF (CXF P w) P w K mg base N qual scope f cd A outer s H E) x) (hm:mg x=some (.ref C)) (he:PE (eF (CXF P w) P w K mg base N qual scope f cd A outer s H E) e0 te)
  (hst:starEach [e0] (eF (CXF P w) P w K mg base N qual scope f cd A outer s H E).env=[(false,eval e0 (eF (CXF P w) P w K mg base N qual scope f cd A outer s H E).env)]:=by rfl) (hd:(x==("__debug__":Str))=false:=by decide):
  PS (eF (CXF P w) P w K mg base N qual scope f cd A outer s H E) (.Raise (some (.Call (.Name x np) [e0] [] cpos)) none pos) (AL E C te):=by
 intro pins s1 σ H1 D I h
 have O:=xO I.ok.mod.kin hm hex
 obtain ⟨tl,NN,nm,q,bs,hdct,sn,sub,ab,col,dd,k0,k1,k2,k3,k5,mN,hC,hN,hni,T⟩:=O.obj
 have hpl:(backTo cpos (starEach [e0] (eF (CXF P w) P w K mg base N qual scope f cd A outer s H E).env)).any (·.1)=false:=by rw [hst]; rfl
 refine wpAny_Raise_call_subT (C:=C) (nm:=nm) (q:=q) (N:=NN) (bs:=bs) (bm:=tl) (hdct:=hdct) (sn:=sn) (sub:=sub) (ab:=ab) (col:=col) (dd:=dd) (k0:=k0) (k1:=k1) (k2:=k2) (k3:=k3) (k5:=k5)
  Gs (mN:=mN) (T.hasType Gs.hasBase) (I.ok.hd rfl) hpl hni (rW I hg hm ⟨rfl,?_⟩ hd)
 rw [hst]
 refine Hq ?_
 show wpAny _ _ (spliced ((false,eval e0 _)::backTo cpos [])) _ _ s1
 refine Fd (thn (he pins s1 σ H1 _ I h) fun v s2 ⟨y,H2,I2,r2,hE⟩=> Fk ⟨rfl,by show 1≤sizeLine; decide,I2.bk _ _ hC,hN.keeps I2.bk,T.keeps I2.bk,fun h' e hx=> ?_⟩)
 show wpAny _ _ (leaving (envOfC qual scope s.heap.objs.size f cd) (.ref e)) _ _ { s2 with heap:=h' }
 have stk:s2.heap.FunFrames base (envOfC qual scope s.heap.objs.size f cd::outer):=I2.stack
 refine wpAny_leaves_madeW (base:=hideAll s2.heap (frs (envOfC qual scope s.heap.objs.size f cd::outer))) (h:=s2.heap) (L:=s.heap.objs.size) I2.ok.frames rfl (fun b o q=> of_hideAll _ q)
  (funFrames_hide stk fun env he b hb=> Fu.mpr ⟨env,he,hb⟩) hx fun h2 t fl _ _ up=> ?_
 have k2':∀ b u,H2 b=some u→∃ o,(hideAll s2.heap (frs (envOfC qual scope s.heap.objs.size f cd::outer))).get? b=some o:=fun b u e=> by
  obtain ⟨ob,hob⟩:=lq (I2.hok b u e)
  exact ⟨ob,hideAll_get _ hob fun z=> by have:=I2.stkFree b z; rw [e] at this; cases this⟩
 obtain ⟨u,K1,K3⟩:=nM (h1:=h') I2 (Un.kept hx.keeps) (fun b o e hb _=> hideAll_get _ e hb) (fun b o e hb=> ⟨o,hideAll_get _ e hb⟩) fl.1 up
 refine ⟨e,.ref C,.ref t,_,H2,rfl,I2.os,I2.bare,u,qU (h:=s2.heap) I2.hok k2' (fun b o q=> of_hideAll _ q) fl.1,?_,K1,k2',K3,fl,hE⟩
 cases z:H2 e with
 | none=> rfl
 | some u=>
  obtain ⟨ob,hob⟩:=lq (I2.hok e u z)
  rw [hx.new] at hob; cases hob
end
theorem Fun.okF {P:Program} {w:World} {K:Frag} {mg:Str→Option Value} {base:Heap} {x qual:Str} {st:Stmt} {f:Addr} {fd:FuncData} {N ps:List Str} {k:Nat} {sp:Sp} (F:Fun K x qual st f fd) (S:aw N ps (ai st)) (len:∀ vs H Q E,sp vs H Q E→vs.length=ps.length)
  (hbody:∀ (cdv:Value) (A:Around) (outer:List Env) (s:Shared) (H:Hp) (vs:List V) (Q:VK) (E:XK),d_ k (A.deeper (envOfC qual (ai st) s.heap.objs.size f cdv))→sp vs H Q E→
   ∃ t,PSs (eF (CXF P w) P w K mg base N qual (ai st) f cdv A outer s H E) (aq st) t∧t { nx:=fun _ H'=> Q .non H',rt:=Q } (start N vs) H):bo P w K mg base (CXF P w) (k+1) f fd ps sp:=by
 obtain ⟨oc,od,kV,doc,pm,an,cdv,ct,osl,rfl,lk,hcd⟩:=F.ex
 exact zf lk hcd S len fun A outer s H vs Q E hr hsp=> hbody cdv A outer s H vs Q E hr hsp
end L2
namespace L2
open PySem PySem.Spec PySem.W PyProof.Rows
section
variable {X:Cx} {pins:List (Addr×Obj)} {σ:St} {H:Hp} {s:Shared}
end
section
variable {X:Cx}
end
end L2
namespace L2
open PySem PySem.Spec PyProof.Rows
theorem li {n:Nat} {e:Nat→Bool}:(Df n).all e=true↔∀ j,j < n→e j=true:=by
 rw [FZ]
 exact ⟨fun h j hj=> h j (CF.mpr hj),fun h j hj=> h j (CF.mp hj)⟩
section
variable {X:Cx}
end
end L2
namespace PySem.W
open PySem PySem.Spec PySem.Calls PyProof.Rows PySem.Builtin PySem.Builtin.ObjectAttr PySem.Builtin.Getset_descriptor
section
variable {prog:Program} {w:World} {A:Around} {E:Value→Shared→Prop} {s:Shared} {K:Frag} {x C:Addr}
def OfCls (x C:Addr) (h:Heap):Prop:=∃ o,h.get? x=some o∧o.cls=.ref C
variable (hga:findIn K (.ref C) "__getattribute__"=some (some (.builtin "BaseException.__getattribute__"))) (hgn:findIn K (.ref C) "__getattr__"=some none) (ha:findIn K (.ref C) "__class__"=some (some (.builtin "object.__class__")))
 (hn:specialIn K (.builtin "object.__class__") "__get__"=some (some (.builtin "getset_descriptor.__get__"))) (htk:takesIn K (.builtin "object.__class__")=some true) (hm:mroIn K C (.type "object")=some true) (hmB:mroIn K C (.type "BaseException")=some true)
include ha hn htk hm in
end
structure XcOk (K:Frag) (C:Addr):Prop where
 ga:findIn K (.ref C) "__getattribute__"=some (some (.builtin "BaseException.__getattribute__"))
 gn:findIn K (.ref C) "__getattr__"=some none
 at_:findIn K (.ref C) "__class__"=some (some (.builtin "object.__class__"))
 sp:specialIn K (.builtin "object.__class__") "__get__"=some (some (.builtin "getset_descriptor.__get__"))
 tk:takesIn K (.builtin "object.__class__")=some true
 mo:mroIn K C (.type "object")=some true
 mb:mroIn K C (.type "BaseException")=some true
theorem XcOk.off {x C:Addr} {h:Heap} {o:Obj} {T:String} (I:OfCls x C h) (e:h.get? x=some o) (c:o.cls=.type T):False:=by
 obtain ⟨o',e',c'⟩:=I
 rw [e] at e'; cases e'
 rw [c] at c'; cases c'
end PySem.W
namespace L2
open PySem PySem.Spec PyProof.Rows
inductive TyX where
 | nm (n:String) | xc (C:Addr)
inductive U where
 | non | bl (b:Bool) | int (i:Int) | str (x:Str) | ty (n:TyX) | dic | scr (xs:List U) | tup (xs:List U) | lst (xs:List U)
def U.items:U→Option (List U)
 | .scr xs=> some xs
 | .tup xs=> some xs
 | .lst xs=> some xs
 | _=> none
def hid (H:Hp) (O:List Addr):Hp:=fun b=> if b∈O then none else H b
theorem gN {H:Hp} {O:List Addr} {b:Addr} {o:HO} (h:hid H O b=some o):H b=some o∧b ∉ O:=by
 unfold hid at h
 split at h
 ·cases h
 ·exact ⟨h,by assumption⟩
theorem dN {H:Hp} {O:List Addr} {b:Addr} {o:HO} (h:H b=some o) (n:b ∉ O):hid H O b=some o:=by
 unfold hid; rw [if_neg n]; exact h
theorem aG {H:Hp} {O:List Addr}:aQ (hid H O) H:=fun _ _ h=> (gN h).1
theorem bL {H H':Hp} {O:List Addr} (e:aQ H H'):aQ (hid H O) (hid H' O):=fun _ _ h=> dN (e _ _ (gN h).1) (gN h).2
theorem eo {H:Hp} {O O':List Addr} (e:∀ a∈O',a∈O):aQ (hid H O) (hid H O'):=fun _ _ h=> dN (gN h).1 fun z=> (gN h).2 (e _ z)
theorem cg {H H':Hp} {O:List Addr} {a:Addr} (e:aQ H H') (n:H a=none):aQ (hid H O) (hid H' (a::O)):=fun b o h=> by
 obtain ⟨h1,h2⟩:=gN h
 refine dN (e _ _ h1) fun z=> ?_
 rcases Cu.mp z with y | y
 ·subst y; rw [n] at h1; cases h1
 ·exact h2 y
theorem lU {H:Hp} {O:List Addr} {a:Addr} {o:HO} (h:a∈O):hid (upd H a o) O=hid H O:=by
 funext b
 unfold hid
 split
 ·rfl
 ·rename_i n
  rw [bv fun e=> n (by rw [e]; exact h)]
inductive Rp (K:Cn) (H:Hp):V→U→Prop where
 | non:Rp K H .non .non
 | bl (b:Bool):Rp K H (.bl b) (.bl b)
 | int (i:Int):Rp K H (.int i) (.int i)
 | str (x:Str):Rp K H (.str x) (.str x)
 | ty (n:String):Rp K H (.ty n) (.ty (.nm n))
 | dic {a:Addr} {kvs:List (Key×V)} (h:H a=some (.dK kvs)):Rp K H (.ref a) .dic
 | xc {a C:Addr} (h:H a=some (.ext (PySem.W.OfCls a C))) (k:PySem.W.XcOk K C):Rp K H (.ref a) (.ty (.xc C))
 | scr {a:Addr} {vs:List V} {xs:List U} (h:SqL K H a vs) (hl:vs.length=xs.length) (hi:∀ (i:Nat) (v:V) (x:U),vs[i]?=some v→xs[i]?=some x→Rp K H v x):Rp K H (.ref a) (.scr xs)
 | tup {a:Addr} {vs:List V} {xs:List U} (h:SqT K H a vs) (hl:vs.length=xs.length) (hi:∀ (i:Nat) (v:V) (x:U),vs[i]?=some v→xs[i]?=some x→Rp K H v x):Rp K H (.ref a) (.tup xs)
 | lst {a:Addr} {vs:List V} {xs:List U} (h:H a=some (.lst vs)) (hl:vs.length=xs.length) (hi:∀ (i:Nat) (v:V) (x:U),vs[i]?=some v→xs[i]?=some x→Rp K H v x):Rp K H (.ref a) (.lst xs)
theorem Rp.same {K:Cn} {H H':Hp} {v:V} {u:U} (e:aQ H H') (h:Rp K H v u):Rp K H' v u:=by
 induction h with
 | non=> exact .non
 | bl b=> exact .bl b
 | int i=> exact .int i
 | str x=> exact .str x
 | ty n=> exact .ty n
 | dic h=> exact .dic (e _ _ h)
 | xc h k=> exact .xc (e _ _ h) k
 | scr h hl hi ih=> exact .scr (e.seq h) hl ih
 | tup h hl hi ih=> exact .tup (e.tup h) hl ih
 | lst h hl hi ih=> exact .lst (e _ _ h) hl ih
structure Rps (K:Cn) (H:Hp) (vs:List V) (xs:List U):Prop where
 len:vs.length=xs.length
 at_:∀ (i:Nat) (v:V) (x:U),vs[i]?=some v→xs[i]?=some x→Rp K H v x
theorem Rps.same {K:Cn} {H H':Hp} {vs:List V} {xs:List U} (e:aQ H H') (h:Rps K H vs xs):Rps K H' vs xs:=⟨h.len,fun i v x a b=> (h.at_ i v x a b).same e⟩
theorem Rps.nil {K:Cn} {H:Hp}:Rps K H [] []:=⟨rfl,fun i v x h=> by simp at h⟩
theorem Rps.cons {K:Cn} {H:Hp} {v:V} {x:U} {vs:List V} {xs:List U} (h:Rp K H v x) (t:Rps K H vs xs):Rps K H (v::vs) (x::xs):=by
 refine ⟨by simp [t.len],fun i a b h1 h2=> ?_⟩
 cases i with
 | zero=> simp at h1 h2; subst h1; subst h2; exact h
 | succ i=> exact t.at_ i a b (by simpa using h1) (by simpa using h2)
theorem Rps.snoc {K:Cn} {H:Hp} {vs ws:List V} {xs ys:List U} (h:Rps K H vs xs) (t:Rps K H ws ys):Rps K H (vs++ws) (xs++ys):=by
 refine ⟨by simp [h.len,t.len],fun i a b h1 h2=> ?_⟩
 by_cases hi:i < vs.length
 ·rw [CP hi] at h1
  rw [CP (by rw [← h.len]; exact hi)] at h2
  exact h.at_ i a b h1 h2
 ·have hle:vs.length≤i:=FX hi
  rw [CQ hle] at h1
  rw [CQ (by rw [← h.len]; exact hle),← h.len] at h2
  exact t.at_ _ a b h1 h2
theorem Rps.get {K:Cn} {H:Hp} {vs:List V} {xs:List U} {i:Nat} {x:U} (h:Rps K H vs xs) (e:xs[i]?=some x):∃ v,vs[i]?=some v∧Rp K H v x:=by
 have hi:i < vs.length:=by rw [h.len]; exact (Cz.mp e).1
 exact ⟨vs[i],Cm hi,h.at_ i _ x (Cm hi) e⟩
theorem Rps.atI {K:Cn} {H:Hp} {vs:List V} {xs:List U} {i:Int} {x:U} (h:Rps K H vs xs) (e:L2.atI xs i=some x):∃ v,L2.atI vs i=some v∧Rp K H v x:=by
 unfold L2.atI at e ⊢
 rw [h.len]
 cases q:ixN xs.length i with
 | none=> rw [q] at e; cases e
 | some j=>
  rw [q] at e
  obtain ⟨v,h1,h2⟩:=h.get (show xs[j]?=some x from e)
  exact ⟨v,h1,h2⟩
theorem Rps.cons_inv {K:Cn} {H:Hp} {vs:List V} {x:U} {xs:List U} (h:Rps K H vs (x::xs)):∃ v ws,vs=v::ws∧Rp K H v x∧Rps K H ws xs:=by
 cases vs with
 | nil=> have:=h.len; simp at this
 | cons v ws=>
  refine ⟨v,ws,rfl,h.at_ 0 v x rfl rfl,by have:=h.len; simpa using this,fun i a b h1 h2=> h.at_ (i+1) a b (by simpa using h1) (by simpa using h2)⟩
theorem Rps.nil_inv {K:Cn} {H:Hp} {vs:List V} (h:Rps K H vs []):vs=[]:=DU.mp (by rw [h.len]; rfl)
inductive Sl where
 | val (u:U) | own (xs:List U)
abbrev PSt:=List (Option Sl)
def xA (K:Cn) (H:Hp) (O O0:List Addr) (v:V):Sl→Prop
 | .val u=> Rp K (hid H O) v u
 | .own xs=> ∃ a vs,v=.ref a∧a∈O∧a ∉ O0∧H a=some (.lst vs)∧Rps K (hid H O) vs xs
structure Rs (K:Cn) (H0:Hp) (O0:List Addr) (ps:PSt) (σ:St) (H:Hp) (O:List Addr):Prop where
 same:aQ H0 H
 old:∀ a∈O0,a∈O
 new:∀ a∈O,a∈O0∨H0 a=none
 dom:∀ a∈O,H a≠none
 len:σ.length=ps.length
 at_:∀ (i:Nat) (s:Sl),ps[i]?=some (some s)→∃ v,σ[i]?=some (some v)∧xA K H O O0 v s
 inj:∀ (i j:Nat) (xs ys:List U) (a:Addr),ps[i]?=some (some (.own xs))→ps[j]?=some (some (.own ys))→σ[i]?=some (some (.ref a))→σ[j]?=some (some (.ref a))→i=j
section
variable {K:Cn} {H0 H H':Hp} {O0 O:List Addr} {ps:PSt} {σ:St}
theorem xA.same {v:V} {s:Sl} (e:aQ H H') (h:xA K H O O0 v s):xA K H' O O0 v s:=by
 cases s with
 | val u=> exact Rp.same (bL e) h
 | own xs=> obtain ⟨a,vs,h1,h2,h3,h4,h5⟩:=h; exact ⟨a,vs,h1,h2,h3,e _ _ h4,h5.same (bL e)⟩
theorem Rs.go (R:Rs K H0 O0 ps σ H O) (e:aQ H H'):Rs K H0 O0 ps σ H' O:=
 ⟨R.same.trans e,R.old,R.new,fun a ha z=> R.dom a ha (e.free z),R.len,fun i s h=> let ⟨v,h1,h2⟩:=R.at_ i s h; ⟨v,h1,h2.same e⟩,R.inj⟩
theorem dO {α:Type} {xs:List α} {i j:Nat} {y x:α} (h:(xs.set i y)[j]?=some x):(i=j∧x=y)∨(i≠j∧xs[j]?=some x):=by
 by_cases e:i=j
 ·subst e
  rw [GL] at h
  simp at h
  exact .inl ⟨rfl,h.2.symm⟩
 ·rw [C3 e] at h
  exact .inr ⟨e,h⟩
theorem g_ {α:Type} {xs:List α} {i:Nat} {y:α} (h:i < xs.length):(xs.set i y)[i]?=some y:=by rw [GL]; simp [h]
theorem aL {α:Type} {xs:List α} {i:Nat} {y:α} (h:xs[i]?=some y):i < xs.length:=(Cz.mp h).1
theorem ke {i:Nat} {u:U} {j:Nat} {xs:List U} (h:(ps.set i (some (.val u)))[j]?=some (some (.own xs))):i≠j∧ps[j]?=some (some (.own xs)):=by
 rcases dO h with ⟨_,e⟩ | h
 ·cases e
 ·exact h
theorem Rs.set {i:Nat} {v:V} {u:U} (R:Rs K H0 O0 ps σ H O) (r:Rp K (hid H O) v u):Rs K H0 O0 (ps.set i (some (.val u))) (σ.set i (some v)) H O:=by
 refine ⟨R.same,R.old,R.new,R.dom,by simp [R.len],fun j s h=> ?_,fun j k xs ys a h1 h2 h3 h4=> ?_⟩
 ·rcases dO h with ⟨e,q⟩ | ⟨n,q⟩
  ·subst e
   cases q
   have hi:=aL h
   rw [Fy] at hi
   exact ⟨v,g_ (by rw [R.len]; exact hi),r⟩
  ·obtain ⟨w,h1,h2⟩:=R.at_ j s q
   exact ⟨w,by rw [C3 n]; exact h1,h2⟩
 ·obtain ⟨n1,q1⟩:=ke h1
  obtain ⟨n2,q2⟩:=ke h2
  rw [C3 n1] at h3
  rw [C3 n2] at h4
  exact R.inj j k xs ys a q1 q2 h3 h4
theorem Rs.drop {i:Nat} {o:Option V} (R:Rs K H0 O0 ps σ H O):Rs K H0 O0 (ps.set i none) (σ.set i o) H O:=by
 have key:∀ {j:Nat} {s:Sl},(ps.set i none)[j]?=some (some s)→i≠j∧ps[j]?=some (some s):=fun {j s} h=> by
  rcases dO h with ⟨_,e⟩ | h
  ·cases e
  ·exact h
 refine ⟨R.same,R.old,R.new,R.dom,by simp [R.len],fun j s h=> ?_,fun j k xs ys a h1 h2 h3 h4=> ?_⟩
 ·obtain ⟨n,q⟩:=key h
  obtain ⟨w,h1,h2⟩:=R.at_ j s q
  exact ⟨w,by rw [C3 n]; exact h1,h2⟩
 ·obtain ⟨n1,q1⟩:=key h1
  obtain ⟨n2,q2⟩:=key h2
  rw [C3 n1] at h3
  rw [C3 n2] at h4
  exact R.inj j k xs ys a q1 q2 h3 h4
theorem Rs.own {i:Nat} {a:Addr} {vs:List V} {xs:List U} (R:Rs K H0 O0 ps σ H O) (e:aQ H H') (n:H a=none) (h:H' a=some (.lst vs)) (r:Rps K (hid H' (a::O)) vs xs):
  Rs K H0 O0 (ps.set i (some (.own xs))) (σ.set i (some (.ref a))) H' (a::O):=by
 have na:a ∉ O:=fun z=> R.dom a z n
 have na0:a ∉ O0:=fun z=> na (R.old a z)
 have n0:H0 a=none:=R.same.free n
 have noref:∀ (j:Nat) (ys:List U),ps[j]?=some (some (.own ys))→σ[j]?≠some (some (.ref a)):=fun j ys h1 h2=> by
  obtain ⟨v,h3,b,ws,h4,h5,_⟩:=R.at_ j _ h1
  rw [h2] at h3
  cases h3
  cases h4
  exact na h5
 refine ⟨R.same.trans e,fun b hb=> Cp _ (R.old b hb),fun b hb=> ?_,fun b hb z=> ?_,by simp [R.len],fun j s q=> ?_,fun j k ys zs b h1 h2 h3 h4=> ?_⟩
 ·rcases Cu.mp hb with y | y
  ·subst y; exact .inr n0
  ·exact R.new b y
 ·rcases Cu.mp hb with y | y
  ·subst y; rw [h] at z; cases z
  ·exact R.dom b y (e.free z)
 ·rcases dO q with ⟨e',q'⟩ | ⟨ne,q'⟩
  ·subst e'
   cases q'
   have hi:=aL q
   rw [Fy] at hi
   exact ⟨.ref a,g_ (by rw [R.len]; exact hi),a,vs,rfl,Cy,na0,h,r⟩
  ·obtain ⟨w,h1,h2⟩:=R.at_ j s q'
   refine ⟨w,by rw [C3 ne]; exact h1,?_⟩
   cases s with
   | val u=> exact Rp.same (cg e n) h2
   | own ys=>
    obtain ⟨b,ws,k1,k2,k3,k4,k5⟩:=h2
    exact ⟨b,ws,k1,Cp _ k2,k3,e _ _ k4,k5.same (cg e n)⟩
 ·rcases dO h1 with ⟨e1,q1⟩ | ⟨n1,q1⟩ <;> rcases dO h2 with ⟨e2,q2⟩ | ⟨n2,q2⟩
  ·rw [← e1,← e2]
  ·subst e1
   have hi:=aL h3
   rw [Fy] at hi
   rw [g_ hi] at h3
   cases h3
   rw [C3 n2] at h4
   exact absurd h4 (noref k zs q2)
  ·subst e2
   have hi:=aL h4
   rw [Fy] at hi
   rw [g_ hi] at h4
   cases h4
   rw [C3 n1] at h3
   exact absurd h3 (noref j ys q1)
  ·rw [C3 n1] at h3
   rw [C3 n2] at h4
   exact R.inj j k ys zs b q1 q2 h3 h4
theorem Rs.write {i:Nat} {a:Addr} {vs:List V} {xs ys:List U} (R:Rs K H0 O0 ps σ H O) (hp:ps[i]?=some (some (.own xs))) (hs:σ[i]?=some (some (.ref a))) (r:Rps K (hid H O) vs ys):
  Rs K H0 O0 (ps.set i (some (.own ys))) σ (upd H a (.lst vs)) O:=by
 obtain ⟨v,h1,b,ws,h2,h3,h4,h5,h6⟩:=R.at_ i _ hp
 rw [hs] at h1
 cases h1
 cases h2
 have h0:H0 a=none:=(R.new a h3).resolve_left h4
 have eh:hid (upd H a (.lst vs)) O=hid H O:=lU h3
 refine ⟨R.same.put h0 _,R.old,R.new,fun b hb z=> ?_,by simp [R.len],fun j s q=> ?_,fun j k zs us b q1 q2 q3 q4=> ?_⟩
 ·by_cases e:b=a
  ·subst e; rw [bi] at z; cases z
  ·rw [bv e] at z; exact R.dom b hb z
 ·rcases dO q with ⟨e',q'⟩ | ⟨ne,q'⟩
  ·subst e'
   cases q'
   exact ⟨.ref a,hs,a,vs,rfl,h3,h4,bi,by rw [eh]; exact r⟩
  ·obtain ⟨w,k1,k2⟩:=R.at_ j s q'
   refine ⟨w,k1,?_⟩
   cases s with
   | val u=> exact (show Rp K (hid (upd H a (.lst vs)) O) w u by rw [eh]; exact k2)
   | own zs=>
    obtain ⟨b,us,e1,e2,e3,e4,e5⟩:=k2
    subst e1
    have:b≠a:=fun z=> by subst z; exact ne (R.inj i j xs zs b hp q' hs k1)
    exact ⟨b,us,rfl,e2,e3,by rw [bv this]; exact e4,by rw [eh]; exact e5⟩
 ·have c1:∃ zs',ps[j]?=some (some (.own zs')):=by
   rcases dO q1 with ⟨e,_⟩ | ⟨_,z⟩
   ·subst e; exact ⟨_,hp⟩
   ·exact ⟨_,z⟩
  have c2:∃ zs',ps[k]?=some (some (.own zs')):=by
   rcases dO q2 with ⟨e,_⟩ | ⟨_,z⟩
   ·subst e; exact ⟨_,hp⟩
   ·exact ⟨_,z⟩
  obtain ⟨_,c1⟩:=c1
  obtain ⟨_,c2⟩:=c2
  exact R.inj j k _ _ b c1 c2 q3 q4
def SubP:PSt→PSt→Prop
 | [],[]=> True
 | none::p,_::q=> SubP p q
 | some s::p,t::q=> t=some s∧SubP p q
 | _,_=> False
theorem SubP.at_:∀ {p q:PSt},SubP p q→p.length=q.length∧∀ (i:Nat) (s:Sl),p[i]?=some (some s)→q[i]?=some (some s)
 | [],[],_=> ⟨rfl,fun i s h=> by simp at h⟩
 | none::p,t::q,h=> by
  obtain ⟨h1,h2⟩:=SubP.at_ (p:=p) (q:=q) h
  refine ⟨by simp [h1],fun i s e=> ?_⟩
  cases i with
  | zero=> simp at e
  | succ i=> exact h2 i s (by simpa using e)
 | some s0::p,t::q,h=> by
  obtain ⟨h0,h⟩:=h
  obtain ⟨h1,h2⟩:=SubP.at_ (p:=p) (q:=q) h
  refine ⟨by simp [h1],fun i s e=> ?_⟩
  cases i with
  | zero=> simp at e; subst e; rw [h0]; rfl
  | succ i=> exact h2 i s (by simpa using e)
 | [],_::_,h=> h.elim
 | none::_,[],h=> h.elim
 | some _::_,[],h=> h.elim
theorem Rs.sub {ps':PSt} (R:Rs K H0 O0 ps σ H O) (h:SubP ps' ps):Rs K H0 O0 ps' σ H O:=by
 obtain ⟨h1,h2⟩:=h.at_
 exact ⟨R.same,R.old,R.new,R.dom,R.len.trans h1.symm,fun i s e=> R.at_ i s (h2 i s e),fun i j xs ys a e1 e2=> R.inj i j xs ys a (h2 _ _ e1) (h2 _ _ e2)⟩
end
def Ev (X:Cx) (H0:Hp) (O0:List Addr) (ps:PSt) (e:Expr) (u:U):Prop:=
 PE X e fun σ H Q=> ∃ O,Rs X.K H0 O0 ps σ H O∧∀ v H',aQ H H'→Rp X.K (hid H' O) v u→Q v H'
def EvN (X:Cx) (H0:Hp) (O0:List Addr) (ps:PSt) (e:Expr) (xs:List U):Prop:=
 PE X e fun σ H Q=> ∃ O,Rs X.K H0 O0 ps σ H O∧∀ a vs H',aQ H H'→H a=none→H' a=some (.lst vs)→Rps X.K (hid H' (a::O)) vs xs→Q (.ref a) H'
def Tt (X:Cx) (H0:Hp) (O0:List Addr) (ps:PSt) (e:Expr) (b:Bool):Prop:=
 PT X e fun σ H Q=> ∃ O,Rs X.K H0 O0 ps σ H O∧∀ H',aQ H H'→Q b H'
def Tw (X:Cx) (H0:Hp) (O0:List Addr) (ps:PSt) (e:Expr) (b:Bool):Prop:=
 PW X e fun σ H Q=> ∃ O,Rs X.K H0 O0 ps σ H O∧∀ H',aQ H H'→Q b H'
def EvA (X:Cx) (H0:Hp) (O0:List Addr) (ps:PSt) (es:List Expr) (us:List U):Prop:=
 PA X es fun σ H Q=> ∃ O,Rs X.K H0 O0 ps σ H O∧∀ vs H',aQ H H'→Rps X.K (hid H' O) vs us→Q vs H'
theorem PE.mono {X:Cx} {e:Expr} {t t':TE} (h:PE X e t) (m:∀ σ H Q,t' σ H Q→t σ H Q):PE X e t':=fun pins s σ H Q I q=> h pins s σ H Q I (m σ H Q q)
theorem PT.mono {X:Cx} {e:Expr} {t t':TT} (h:PT X e t) (m:∀ σ H Q,t' σ H Q→t σ H Q):PT X e t':=fun pins s σ H Q I q=> h pins s σ H Q I (m σ H Q q)
theorem PW.mono {X:Cx} {e:Expr} {t t':TT} (h:PW X e t) (m:∀ σ H Q,t' σ H Q→t σ H Q):PW X e t':=fun wh pins s σ H Q I q=> h wh pins s σ H Q I (m σ H Q q)
theorem PA.mono {X:Cx} {e:List Expr} {t t':TA} (h:PA X e t) (m:∀ σ H Q,t' σ H Q→t σ H Q):PA X e t':=fun pos pins s σ H Q I q=> h pos pins s σ H Q I (m σ H Q q)
theorem PS.mono {X:Cx} {e:Stmt} {t t':TS} (h:PS X e t) (m:∀ D σ H,t' D σ H→t D σ H):PS X e t':=fun pins s σ H D I q=> h pins s σ H D I (m D σ H q)
theorem PSs.mono {X:Cx} {e:List Stmt} {t t':TS} (h:PSs X e t) (m:∀ D σ H,t' D σ H→t D σ H):PSs X e t':=fun pins s σ H D I q=> h pins s σ H D I (m D σ H q)
section
variable {X:Cx} {H0:Hp} {O0:List Addr} {ps:PSt} {a b c e:Expr} {es:List Expr} {pos p:Pos} {u x y:U} {xs ys us:List U} {i j:Int}
theorem EvN.ev (h:EvN X H0 O0 ps e xs):Ev X H0 O0 ps e (.lst xs):=PE.mono h fun σ H Q ⟨O,R,k⟩=> ⟨O,R,fun a vs H' s n h r=> by
 have na:a ∉ O:=fun z=> R.dom a z n
 have less:aQ (hid H' (a::O)) (hid H' O):=eo fun b hb=> Cp _ hb
 exact k _ H' s (.lst (dN h na) (r.same less).len (r.same less).at_)⟩
theorem aa (i:Nat) {x:Str} {u:U} (h:ps[i]?=some (some (.val u))) (hN:X.N[i]?=some x:=by rfl) (hv:Vis X.env.scope x:=by first | exact Or.inl rfl | exact Or.inr (Or.inl rfl) | exact Or.inr (Or.inr rfl)) (hd:(x==("__debug__":Str))=false:=by decide)
  (hcd:(x==("__classdict__":Str))=false:=by decide):Ev X H0 O0 ps (.Name x pos) u:=PE.mono (iK hN hv hd hcd) fun σ H Q ⟨O,R,k⟩=> by
 obtain ⟨v,h1,h2⟩:=R.at_ i _ h
 exact ⟨v,h1,k v H (.refl H) h2⟩
theorem ag {i j pos}:Ev X H0 O0 ps (.Constant (.int i) j pos) (.int i):=PE.mono Ai fun _ H _ ⟨_,_,k⟩=> k _ H (.refl H) (.int i)
theorem kH {i j pos}:Ev X H0 O0 ps (.Constant (.bool i) j pos) (.bl i):=PE.mono Bo fun _ H _ ⟨_,_,k⟩=> k _ H (.refl H) (.bl i)
theorem zA {i j pos}:Ev X H0 O0 ps (.Constant (.str i) j pos) (.str i):=PE.mono Aw fun _ H _ ⟨_,_,k⟩=> k _ H (.refl H) (.str i)
theorem dH {x:Str} {n:String} {pos:Pos} (hg:Gl X x) (hm:X.mg x=none) (hv:bootBuiltins x=some (.type n)) (hn:x≠"__name__":=by decide) (hd:(x==("__debug__":Str))=false:=by decide):Ev X H0 O0 ps (.Name x pos) (.ty (.nm n)):=
 PE.mono (BC hg hm hv hn hd) fun _ H _ ⟨_,_,k⟩=> k _ H (.refl H) (.ty n)
theorem two {ta tb:TE} {σ:St} {H:Hp} {Q:VK} {O:List Addr} {r:R2} (R:Rs X.K H0 O0 ps σ H O)
  (ha:∀ σ H Q,(∃ O,Rs X.K H0 O0 ps σ H O∧∀ v H',aQ H H'→Rp X.K (hid H' O) v x→Q v H')→ta σ H Q) (hb:∀ σ H Q,(∃ O,Rs X.K H0 O0 ps σ H O∧∀ v H',aQ H H'→Rp X.K (hid H' O) v y→Q v H')→tb σ H Q)
  (h:∀ v w H',aQ H H'→Rs X.K H0 O0 ps σ H' O→Rp X.K (hid H' O) v x→Rp X.K (hid H' O) w y→r v w H' Q):tOp r ta tb σ H Q:=
 ha σ H _ ⟨O,R,fun v H1 s1 r1=> hb σ H1 _ ⟨O,R.go s1,fun w H2 s2 r2=> h v w H2 (s1.trans s2) (R.go (s1.trans s2)) (r1.same (bL s2)) r2⟩⟩
theorem zp {op:Operator} {g:Int→Int→Int} (ho:OpR X (binaryOp op) (rI0 fun i j=> .int (g i j))) (ha:Ev X H0 O0 ps a (.int i)) (hb:Ev X H0 O0 ps b (.int j)):Ev X H0 O0 ps (.BinOp a op b pos) (.int (g i j)):=
 PE.mono (uv ho ha hb) fun σ H Q ⟨O,R,k⟩=> two (x:=.int i) (y:=.int j) R (fun _ _ _ z=> z) (fun _ _ _ z=> z) fun v w H' s _ r1 r2=> by
  cases r1; cases r2; exact ⟨i,j,rfl,rfl,k _ H' s (.int _)⟩
theorem nC {op:Operator} {C:Int→Int→Prop} {g:Int→Int→Int} (ho:OpR X (binaryOp op) (rI C fun i j=> .int (g i j))) (ha:Ev X H0 O0 ps a (.int i)) (hb:Ev X H0 O0 ps b (.int j)) (hc:C i j):Ev X H0 O0 ps (.BinOp a op b pos) (.int (g i j)):=
 PE.mono (uv ho ha hb) fun σ H Q ⟨O,R,k⟩=> two (x:=.int i) (y:=.int j) R (fun _ _ _ z=> z) (fun _ _ _ z=> z) fun v w H' s _ r1 r2=> by
  cases r1; cases r2; exact ⟨i,j,rfl,rfl,hc,k _ H' s (.int _)⟩
theorem bC (ha:Ev X H0 O0 ps a (.int i)) (hb:Ev X H0 O0 ps b (.int j)):Ev X H0 O0 ps (.BinOp a .Add b pos) (.int (i+j)):=zp AS ha hb
theorem ba (ha:Ev X H0 O0 ps a (.int i)) (hb:Ev X H0 O0 ps b (.int j)):Ev X H0 O0 ps (.BinOp a .Sub b pos) (.int (i - j)):=zp AD ha hb
theorem aU (ha:Ev X H0 O0 ps a (.int i)) (hb:Ev X H0 O0 ps b (.int j)) (hc:IntMulOk i j):Ev X H0 O0 ps (.BinOp a .Mult b pos) (.int (i * j)):=nC xU ha hb hc
theorem b_ (ha:Ev X H0 O0 ps a (.int i)) (hb:Ev X H0 O0 ps b (.int j)) (hc:zD i j):Ev X H0 O0 ps (.BinOp a .FloorDiv b pos) (.int (i / j)):=nC vU ha hb hc
theorem mI (ha:Ev X H0 O0 ps a (.int i)) (hb:Ev X H0 O0 ps b (.int j)) (hc:zB i j):Ev X H0 O0 ps (.BinOp a .FloorDiv b pos) (.int (i.fdiv j)):=nC wH ha hb hc
theorem bX (ha:Ev X H0 O0 ps a (.int i)) (hb:Ev X H0 O0 ps b (.int j)) (hc:0 < j):Ev X H0 O0 ps (.BinOp a .Mod b pos) (.int (i % j)):=nC z_ ha hb hc
theorem oQ (ha:Ev X H0 O0 ps a (.int i)) (hb:Ev X H0 O0 ps b (.int j)) (hc:Bx i j):Ev X H0 O0 ps (.BinOp a .Pow b pos) (.int (i ^ j.toNat)):=nC zW ha hb hc
theorem ck (ha:Ev X H0 O0 ps a (.int i)):Ev X H0 O0 ps (.UnaryOp .USub a pos) (.int (-i)):=
 PE.mono (Bg AI ha) fun σ H Q ⟨O,R,k⟩=> ⟨O,R,fun v H' s r=> by cases r; exact ⟨i,rfl,k _ H' s (.int _)⟩⟩
end
end L2
namespace L2
open PySem PySem.Spec PyProof.Rows
mutual
def eqW:U→U→Bool
 | .non,.non=> true
 | .bl a,.bl b=> a==b
 | .bl a,.int j=> (if a then 1 else 0)==j
 | .int i,.bl b=> i==(if b then 1 else 0)
 | .int i,.int j=> i==j
 | .str a,.str b=> a==b
 | .tup xs,.tup ys=> eqWs xs ys
 | .lst xs,.lst ys=> eqWs xs ys
 | .lst xs,.scr ys=> eqWs xs ys
 | .scr xs,.lst ys=> eqWs xs ys
 | .scr xs,.scr ys=> eqWs xs ys
 | _,_=> false
def eqWs:List U→List U→Bool
 | [],[]=> true
 | x::xs,y::ys=> eqW x y && eqWs xs ys
 | _,_=> false
end
mutual
def okU:Nat→U→Bool
 | _,.ty _=> false
 | _,.dic=> false
 | 0,.tup _=> false
 | 0,.lst _=> false
 | 0,.scr _=> false
 | n+1,.tup xs=> okUs n xs
 | n+1,.lst xs=> okUs n xs
 | n+1,.scr xs=> okUs n xs
 | _,_=> true
def okUs:Nat→List U→Bool
 | _,[]=> true
 | n,x::xs=> okU n x && okUs n xs
end
theorem jt:∀ {n:Nat} {xs:List U} {i:Nat} {x:U},okUs n xs=true→xs[i]?=some x→okU n x=true
 | n,[],i,x,_,h=> by simp at h
 | n,y::xs,0,x,h,e=> by simp at e; subst e; simp [okUs] at h; exact h.1
 | n,y::xs,i+1,x,h,e=> by simp [okUs] at h; exact jt (i:=i) h.2 (by simpa using e)
theorem dE:∀ (xs ys:List U),((Df (min xs.length ys.length)).all (fun j=> eqW (xs.getD j .non) (ys.getD j .non)) && xs.length==ys.length)=eqWs xs ys
 | [],[]=> rfl
 | [],y::ys=> by simp [eqWs]
 | x::xs,[]=> by simp [eqWs]
 | x::xs,y::ys=> by
  have ih:=dE xs ys
  rw [eqWs,← ih]
  simp only [Dy,Nat.succ_min_succ]
  rw [List.range_succ_eq_map,Fw,Jj]
  have e:((xs.length+1==ys.length+1))=(xs.length==ys.length):=by simp
  rw [e,Bool.and_assoc]
  rfl
theorem Rp.one {X:Cx} {pins:List (Addr×Obj)} {σ:St} {H:Hp} {s:Shared} (I:Inv X pins σ H s) {v:V} {x:U} (h:Rp X.K H v x):∀ {n:Nat} {y:U},Rp X.K H v y→okU n x=true→eqW x y=true:=by
 have key:∀ {vs ws:List V} {xs ys:List U},vs=ws→vs.length=xs.length→ws.length=ys.length→(∀ (i:Nat) (x y:U),xs[i]?=some x→ys[i]?=some y→eqW x y=true)→eqWs xs ys=true:=fun {vs ws xs ys} e h1 h2 hh=> by
  subst e
  rw [← dE,Dx,li]
  refine ⟨fun j hj=> ?_,by simp [← h1,← h2]⟩
  have j1:j < xs.length:=by omega
  have j2:j < ys.length:=by omega
  rw [CB,Cm j1,CB,Cm j2]
  exact hh j _ _ (Cm j1) (Cm j2)
 have key2:∀ {vs:List V} {xs ys:List U} {n:Nat},vs.length=xs.length→(∀ (i:Nat) (v:V) (x:U),vs[i]?=some v→xs[i]?=some x→∀ {n:Nat} {y:U},Rp X.K H v y→okU n x=true→eqW x y=true)→(∀ (i:Nat) (v:V) (y:U),vs[i]?=some v→ys[i]?=some y→Rp X.K H v y)→okUs n xs=true→
   ∀ (i:Nat) (x y:U),xs[i]?=some x→ys[i]?=some y→eqW x y=true:=fun {vs xs ys n} h1 ih hi ok i x y e1 e2=> by
  have hlt:i < vs.length:=by rw [h1]; exact aL e1
  exact ih i _ x (Cm hlt) e1 (hi i _ y (Cm hlt) e2) (jt ok e1)
 induction h with
 | non=> intro n y q _; cases q; rfl
 | bl b=> intro n y q _; cases q; simp [eqW]
 | int i=> intro n y q _; cases q; simp [eqW]
 | str i=> intro n y q _; cases q; simp [eqW]
 | ty=> intro n y q ok; simp [okU] at ok
 | dic=> intro n y q ok; simp [okU] at ok
 | xc=> intro n y q ok; simp [okU] at ok
 | @scr a vs xs hq hl hi ih=>
  intro n y q ok
  cases n with
  | zero=> simp [okU] at ok
  | succ n=>
   rw [okU] at ok
   cases q with
   | scr hq' hl' hi'=> rw [eqW]; have e:=I.list_inj hq hq'; subst e; exact key rfl hl hl' (key2 hl (fun i v x a b=> ih i v x a b) hi' ok)
   | lst hq' hl' hi'=> rw [eqW]; have e:=I.list_inj hq (SqL.of hq'); subst e; exact key rfl hl hl' (key2 hl (fun i v x a b=> ih i v x a b) hi' ok)
   | xc hq' kk=>
    exfalso
    obtain ⟨_,_,pl,_⟩:=I.list hq
    obtain ⟨o,n,e,c,_⟩:=pl
    exact PySem.W.XcOk.off (I.hok _ _ hq').1 e c
   | dic hq'=>
    exfalso
    obtain ⟨_,_,pl,_⟩:=I.list hq
    obtain ⟨o,n,e,c,_⟩:=pl
    obtain ⟨_,_,_,_,o',_,_,e',ex,_⟩:=I.hok _ _ hq'
    rw [e] at e'; cases e'
    rw [ex.1] at c; exact absurd (IG c) (by decide)
   | tup hq' hl' hi'=>
    exfalso
    obtain ⟨_,_,pl,_⟩:=I.list hq
    obtain ⟨_,_,pt,_⟩:=I.tuple hq'
    exact SeqAt.ne_of_list_tuple pl.isList pt rfl
 | @tup a vs xs hq hl hi ih=>
  intro n y q ok
  cases n with
  | zero=> simp [okU] at ok
  | succ n=>
   rw [okU] at ok
   cases q with
   | tup hq' hl' hi'=> rw [eqW]; have e:=I.tuple_inj hq hq'; subst e; exact key rfl hl hl' (key2 hl (fun i v x a b=> ih i v x a b) hi' ok)
   | scr hq' hl' hi'=>
    exfalso
    obtain ⟨_,_,pl,_⟩:=I.list hq'
    obtain ⟨_,_,pt,_⟩:=I.tuple hq
    exact SeqAt.ne_of_list_tuple pl.isList pt rfl
   | lst hq' hl' hi'=>
    exfalso
    obtain ⟨_,_,pl,_⟩:=I.list (SqL.of hq')
    obtain ⟨_,_,pt,_⟩:=I.tuple hq
    exact SeqAt.ne_of_list_tuple pl.isList pt rfl
   | xc hq' kk=>
    exfalso
    obtain ⟨_,_,pt,_⟩:=I.tuple hq
    obtain ⟨o,e,c,_⟩:=pt
    exact PySem.W.XcOk.off (I.hok _ _ hq').1 e c
   | dic hq'=>
    exfalso
    obtain ⟨_,_,pt,_⟩:=I.tuple hq
    obtain ⟨o,e,c,_⟩:=pt
    obtain ⟨_,_,_,_,o',_,_,e',ex,_⟩:=I.hok _ _ hq'
    rw [e] at e'; cases e'
    rw [ex.1] at c; exact absurd (IG c) (by decide)
 | @lst a vs xs hq hl hi ih=>
  intro n y q ok
  cases n with
  | zero=> simp [okU] at ok
  | succ n=>
   rw [okU] at ok
   cases q with
   | lst hq' hl' hi'=> rw [eqW]; have e:=I.list_inj (SqL.of hq) (SqL.of hq'); subst e; exact key rfl hl hl' (key2 hl (fun i v x a b=> ih i v x a b) hi' ok)
   | scr hq' hl' hi'=> rw [eqW]; have e:=I.list_inj (SqL.of hq) hq'; subst e; exact key rfl hl hl' (key2 hl (fun i v x a b=> ih i v x a b) hi' ok)
   | tup hq' hl' hi'=>
    exfalso
    obtain ⟨_,_,pl,_⟩:=I.list (SqL.of hq)
    obtain ⟨_,_,pt,_⟩:=I.tuple hq'
    exact SeqAt.ne_of_list_tuple pl.isList pt rfl
   | xc hq' kk=>
    exfalso
    rw [hq] at hq'; cases hq'
   | dic hq'=>
    exfalso
    rw [hq] at hq'; cases hq'
theorem IsU.list {X:Cx} {pins:List (Addr×Obj)} {σ:St} {H:Hp} {s:Shared} (I:Inv X pins σ H s) {a:Addr} {xs:List U} {vs:List V} (h:SqL X.K H a vs) (hl:vs.length=xs.length):∃ its:List Value,aY vs its∧s.heap.IsList a its.toArray∧its.length=xs.length:=by
 obtain ⟨its,r,pl,_⟩:=I.list h
 exact ⟨its,r,pl.isList,by rw [← r.length,hl]⟩
theorem IsU.tup {X:Cx} {pins:List (Addr×Obj)} {σ:St} {H:Hp} {s:Shared} (I:Inv X pins σ H s) {a:Addr} {xs:List U} {vs:List V} (h:SqT X.K H a vs) (hl:vs.length=xs.length):∃ its:List Value,aY vs its∧IsTup s.heap a its.toArray∧its.length=xs.length:=by
 obtain ⟨its,r,pl,_⟩:=I.tuple h
 exact ⟨its,r,pl,by rw [← r.length,hl]⟩
section
variable {X:Cx} {pins:List (Addr×Obj)} {σ:St} {H:Hp} {s:Shared}
theorem cL (I:Inv X pins σ H s) {n:Nat} {vs ws:List V} {xs ys:List U} {its its2:List Value} (r1:aY vs its) (r2:aY ws its2) (hl1:vs.length=xs.length) (hl2:ws.length=ys.length)
  (h1:∀ (i:Nat) (v:V) (x:U),vs[i]?=some v→xs[i]?=some x→Rp X.K H v x) (h2:∀ (i:Nat) (v:V) (x:U),ws[i]?=some v→ys[i]?=some x→Rp X.K H v x) (ok1:okUs n xs=true) (ok2:okUs n ys=true) {A:Around}
  (rc0:∀ (x y:U) (v w:V) (p q:Value),Rp X.K H v x→Rp X.K H w y→bp v p→bp w q→okU n x=true→okU n y=true→SeqAt.RcAt A.in1 s p q (eqW x y)) (hu:A.units+n+1 < cLine)
  (j:Nat) (j1:j < its.length) (j2:j < its2.length):SeqAt.EqAt A.in1 s its[j] its2[j] (eqW (xs.getD j .non) (ys.getD j .non)):=by
 have a1:j < vs.length:=by rw [r1.length]; exact j1
 have a2:j < ws.length:=by rw [r2.length]; exact j2
 have b1:j < xs.length:=by omega
 have b2:j < ys.length:=by omega
 rw [CB,Cm b1,CB,Cm b2,EL,EL]
 have R1:=h1 j vs[j] xs[j] (Cm a1) (Cm b1)
 have R2:=h2 j ws[j] ys[j] (Cm a2) (Cm b2)
 obtain ⟨u1,e1,q1⟩:=r1.get (Cm a1)
 obtain ⟨u2,e2,q2⟩:=r2.get (Cm a2)
 rw [Cm j1] at e1
 rw [Cm j2] at e2
 cases e1; cases e2
 have o1:=jt ok1 (Cm b1)
 have o2:=jt ok2 (Cm b2)
 generalize vs[j]=v at *
 generalize ws[j]=w at *
 generalize its[j]=p at *
 generalize its2[j]=q at *
 generalize xs[j]=x at *
 generalize ys[j]=y at *
 have main:=rc0 x y v w p q R1 R2 q1 q2 o1 o2
 have ref_ref:∀ (a b:Addr),p=.ref a→q=.ref b→SeqAt.EqAt A.in1 s p q (eqW x y):=fun a b ea eb=> by
  subst ea eb
  by_cases e:a=b
  ·subst e
   have e2:v=w:=q1.inj q2
   subst e2
   rw [R1.one I R2 o1]
   exact SeqAt.EqAt.same _
  ·exact SeqAt.EqAt.of_refs e main
 have hu1:A.in1.units < cLine:=by show A.units+1 < _; omega
 cases R1 with
 | non=>
  cases (show p=C2 from q1)
  cases R2 with
  | non=> cases (show q=C2 from q2); exact SeqAt.EqAt.same _
  | bl b=> cases (show q=Dn b from q2); exact SeqAt.EqAt.none_bool b
  | int i=> obtain ⟨t,rfl⟩:=(show ∃ t,q=Dm i t from q2); exact SeqAt.EqAt.none_int i t
  | str i=> obtain ⟨t,rfl⟩:=(show ∃ t,q=DC i t from q2); exact SeqAt.EqAt.none_str i t
  | ty=> simp [okU] at o2
  | dic=> simp [okU] at o2
  | xc=> simp [okU] at o2
  | scr hq hl hi=> cases q2; obtain ⟨_,_,pl,_⟩:=IsU.list I hq hl; exact SeqAt.EqAt.none_list pl hu1
  | tup hq hl hi=> cases q2; obtain ⟨_,_,pl,_⟩:=IsU.tup I hq hl; exact SeqAt.EqAt.none_tuple pl hu1
  | lst hq hl hi=> cases q2; obtain ⟨_,_,pl,_⟩:=IsU.list I (SqL.of hq) hl; exact SeqAt.EqAt.none_list pl hu1
 | bl c=>
  cases (show p=Dn c from q1)
  cases R2 with
  | non=> cases (show q=C2 from q2); exact SeqAt.EqAt.bool_none c
  | bl b=> cases (show q=Dn b from q2); exact SeqAt.EqAt.bool_bool c b
  | int i=> obtain ⟨t,rfl⟩:=(show ∃ t,q=Dm i t from q2); exact SeqAt.EqAt.bool_int c i t
  | str i=> obtain ⟨t,rfl⟩:=(show ∃ t,q=DC i t from q2); exact SeqAt.EqAt.bool_str c i t
  | ty=> simp [okU] at o2
  | dic=> simp [okU] at o2
  | xc=> simp [okU] at o2
  | scr hq hl hi=> cases q2; obtain ⟨_,_,pl,_⟩:=IsU.list I hq hl; exact SeqAt.EqAt.bool_list c pl hu1
  | tup hq hl hi=> cases q2; obtain ⟨_,_,pl,_⟩:=IsU.tup I hq hl; exact SeqAt.EqAt.bool_tuple c pl hu1
  | lst hq hl hi=> cases q2; obtain ⟨_,_,pl,_⟩:=IsU.list I (SqL.of hq) hl; exact SeqAt.EqAt.bool_list c pl hu1
 | int c=>
  obtain ⟨t0,rfl⟩:=(show ∃ t,p=Dm c t from q1)
  cases R2 with
  | non=> cases (show q=C2 from q2); exact SeqAt.EqAt.int_none c t0
  | bl b=> cases (show q=Dn b from q2); exact SeqAt.EqAt.int_bool c t0 b
  | int i=> obtain ⟨t,rfl⟩:=(show ∃ t,q=Dm i t from q2); exact SeqAt.EqAt.int_int c t0 i t
  | str i=> obtain ⟨t,rfl⟩:=(show ∃ t,q=DC i t from q2); exact SeqAt.EqAt.int_str c t0 i t
  | ty=> simp [okU] at o2
  | dic=> simp [okU] at o2
  | xc=> simp [okU] at o2
  | scr hq hl hi=> cases q2; obtain ⟨_,_,pl,_⟩:=IsU.list I hq hl; exact SeqAt.EqAt.int_list c t0 pl hu1
  | tup hq hl hi=> cases q2; obtain ⟨_,_,pl,_⟩:=IsU.tup I hq hl; exact SeqAt.EqAt.int_tuple c t0 pl hu1
  | lst hq hl hi=> cases q2; obtain ⟨_,_,pl,_⟩:=IsU.list I (SqL.of hq) hl; exact SeqAt.EqAt.int_list c t0 pl hu1
 | str c=>
  obtain ⟨t0,rfl⟩:=(show ∃ t,p=DC c t from q1)
  cases R2 with
  | non=> cases (show q=C2 from q2); exact SeqAt.EqAt.str_none c t0
  | bl b=> cases (show q=Dn b from q2); exact SeqAt.EqAt.str_bool c t0 b
  | int i=> obtain ⟨t,rfl⟩:=(show ∃ t,q=Dm i t from q2); exact SeqAt.EqAt.str_int c t0 i t
  | str i=> obtain ⟨t,rfl⟩:=(show ∃ t,q=DC i t from q2); exact SeqAt.EqAt.str_str c t0 i t
  | ty=> simp [okU] at o2
  | dic=> simp [okU] at o2
  | xc=> simp [okU] at o2
  | scr hq hl hi=> cases q2; obtain ⟨_,_,pl,_⟩:=IsU.list I hq hl; exact SeqAt.EqAt.str_list c t0 pl hu1
  | tup hq hl hi=> cases q2; obtain ⟨_,_,pl,_⟩:=IsU.tup I hq hl; exact SeqAt.EqAt.str_tuple c t0 pl hu1
  | lst hq hl hi=> cases q2; obtain ⟨_,_,pl,_⟩:=IsU.list I (SqL.of hq) hl; exact SeqAt.EqAt.str_list c t0 pl hu1
 | ty=> simp [okU] at o1
 | dic=> simp [okU] at o1
 | xc=> simp [okU] at o1
 | @scr a vs xs hq hl hi=>
  cases q1
  obtain ⟨_,_,pl,_⟩:=IsU.list I hq hl
  cases R2 with
  | non=> cases (show q=C2 from q2); exact SeqAt.EqAt.list_none pl hu1
  | bl b=> cases (show q=Dn b from q2); exact SeqAt.EqAt.list_bool b pl hu1
  | int i=> obtain ⟨t,rfl⟩:=(show ∃ t,q=Dm i t from q2); exact SeqAt.EqAt.list_int i t pl hu1
  | str i=> obtain ⟨t,rfl⟩:=(show ∃ t,q=DC i t from q2); exact SeqAt.EqAt.list_str i t pl hu1
  | ty=> simp [okU] at o2
  | dic=> simp [okU] at o2
  | xc=> simp [okU] at o2
  | scr=> exact ref_ref _ _ rfl q2
  | tup=> exact ref_ref _ _ rfl q2
  | lst=> exact ref_ref _ _ rfl q2
 | @lst a vs xs hq hl hi=>
  cases q1
  obtain ⟨_,_,pl,_⟩:=IsU.list I (SqL.of hq) hl
  cases R2 with
  | non=> cases (show q=C2 from q2); exact SeqAt.EqAt.list_none pl hu1
  | bl b=> cases (show q=Dn b from q2); exact SeqAt.EqAt.list_bool b pl hu1
  | int i=> obtain ⟨t,rfl⟩:=(show ∃ t,q=Dm i t from q2); exact SeqAt.EqAt.list_int i t pl hu1
  | str i=> obtain ⟨t,rfl⟩:=(show ∃ t,q=DC i t from q2); exact SeqAt.EqAt.list_str i t pl hu1
  | ty=> simp [okU] at o2
  | dic=> simp [okU] at o2
  | xc=> simp [okU] at o2
  | scr=> exact ref_ref _ _ rfl q2
  | tup=> exact ref_ref _ _ rfl q2
  | lst=> exact ref_ref _ _ rfl q2
 | @tup a vs xs hq hl hi=>
  cases q1
  obtain ⟨_,_,pl,_⟩:=IsU.tup I hq hl
  cases R2 with
  | non=> cases (show q=C2 from q2); exact SeqAt.EqAt.tuple_none pl hu1
  | bl b=> cases (show q=Dn b from q2); exact SeqAt.EqAt.tuple_bool b pl hu1
  | int i=> obtain ⟨t,rfl⟩:=(show ∃ t,q=Dm i t from q2); exact SeqAt.EqAt.tuple_int i t pl hu1
  | str i=> obtain ⟨t,rfl⟩:=(show ∃ t,q=DC i t from q2); exact SeqAt.EqAt.tuple_str i t pl hu1
  | ty=> simp [okU] at o2
  | dic=> simp [okU] at o2
  | xc=> simp [okU] at o2
  | scr=> exact ref_ref _ _ rfl q2
  | tup=> exact ref_ref _ _ rfl q2
  | lst=> exact ref_ref _ _ rfl q2
theorem hU {A:Around} {n:Nat} {a b:Addr} {xs ys:List U} {its its2:List Value} (p1:s.heap.IsList a its.toArray) (p2:s.heap.IsList b its2.toArray) (l1:its.length=xs.length) (l2:its2.length=ys.length) (hu:A.units+n < cLine)
  (he:∀ (j:Nat) (j1:j < its.length) (j2:j < its2.length),SeqAt.EqAt A.in1 s its[j] its2[j] (eqW (xs.getD j .non) (ys.getD j .non))):SeqAt.RcAt A s (.ref a) (.ref b) (eqWs xs ys):=by
 by_cases hl:its.length=its2.length
 ·have:=SeqAt.RcAt.lists (A:=A) (s:=s) (e:=fun j=> eqW (xs.getD j .non) (ys.getD j .non)) p1 p2 (by simpa using hl) (by omega) (fun j h1 h2=> by simpa using he j (by simpa using h1) (by simpa using h2))
  rw [← dE,← l1,← l2,hl,Jk,beq_self_eq_true,Gc]
  rwa [CH,hl] at this
 ·have:=SeqAt.RcAt.lists_lengths (A:=A) (s:=s) p1 p2 (by simpa using hl) (by omega)
  rw [← dE,← l1,← l2,show (its.length==its2.length)=false by simpa using hl,Hw]
  exact this
theorem yS {A:Around} {n:Nat} {a b:Addr} {xs ys:List U} {its its2:List Value} (p1:IsTup s.heap a its.toArray) (p2:IsTup s.heap b its2.toArray) (l1:its.length=xs.length) (l2:its2.length=ys.length) (hu:A.units+n < cLine)
  (he:∀ (j:Nat) (j1:j < its.length) (j2:j < its2.length),SeqAt.EqAt A.in1 s its[j] its2[j] (eqW (xs.getD j .non) (ys.getD j .non))):SeqAt.RcAt A s (.ref a) (.ref b) (eqWs xs ys):=by
 have:=SeqAt.RcAt.tuples (A:=A) (s:=s) (e:=fun j=> eqW (xs.getD j .non) (ys.getD j .non)) p1 p2 (by omega) (fun j h1 h2=> by simpa using he j (by simpa using h1) (by simpa using h2))
 rw [CH,CH,l1,l2,dE] at this
 exact this
theorem BL (I:Inv X pins σ H s):∀ (n:Nat) (A:Around) (x y:U) (v w:V) (p q:Value),Rp X.K H v x→Rp X.K H w y→bp v p→bp w q→okU n x=true→okU n y=true→A.units+n < cLine→SeqAt.RcAt A s p q (eqW x y):=by
 intro n
 induction n with
 | zero=>
  intro A x y v w p q R1 R2 q1 q2 o1 o2 hu
  cases R1 with
  | non=>
   cases (show p=C2 from q1)
   cases R2 with
   | non=> cases (show q=C2 from q2); exact SeqAt.RcAt.none_none
   | bl b=> cases (show q=Dn b from q2); exact SeqAt.RcAt.none_bool b
   | int i=> obtain ⟨t,rfl⟩:=(show ∃ t,q=Dm i t from q2); exact SeqAt.RcAt.none_int i t
   | str i=> obtain ⟨t,rfl⟩:=(show ∃ t,q=DC i t from q2); exact SeqAt.RcAt.none_str i t
   | _=> simp [okU] at o2
  | bl c=>
   cases (show p=Dn c from q1)
   cases R2 with
   | non=> cases (show q=C2 from q2); exact SeqAt.RcAt.bool_none c
   | bl b=> cases (show q=Dn b from q2); exact SeqAt.RcAt.bool_bool c b
   | int i=> obtain ⟨t,rfl⟩:=(show ∃ t,q=Dm i t from q2); exact SeqAt.RcAt.bool_int c i t
   | str i=> obtain ⟨t,rfl⟩:=(show ∃ t,q=DC i t from q2); exact SeqAt.RcAt.bool_str c i t
   | _=> simp [okU] at o2
  | int c=>
   obtain ⟨t0,rfl⟩:=(show ∃ t,p=Dm c t from q1)
   cases R2 with
   | non=> cases (show q=C2 from q2); exact SeqAt.RcAt.int_none c t0
   | bl b=> cases (show q=Dn b from q2); exact SeqAt.RcAt.int_bool c t0 b
   | int i=> obtain ⟨t,rfl⟩:=(show ∃ t,q=Dm i t from q2); exact SeqAt.RcAt.int_int c t0 i t
   | str i=> obtain ⟨t,rfl⟩:=(show ∃ t,q=DC i t from q2); exact SeqAt.RcAt.int_str c t0 i t
   | _=> simp [okU] at o2
  | str c=>
   obtain ⟨t0,rfl⟩:=(show ∃ t,p=DC c t from q1)
   cases R2 with
   | non=> cases (show q=C2 from q2); exact SeqAt.RcAt.str_none c t0
   | bl b=> cases (show q=Dn b from q2); exact SeqAt.RcAt.str_bool c t0 b
   | int i=> obtain ⟨t,rfl⟩:=(show ∃ t,q=Dm i t from q2); exact SeqAt.RcAt.str_int c t0 i t
   | str i=> obtain ⟨t,rfl⟩:=(show ∃ t,q=DC i t from q2); exact SeqAt.RcAt.str_str c t0 i t
   | _=> simp [okU] at o2
  | _=> simp [okU] at o1
 | succ n ih=>
  intro A x y v w p q R1 R2 q1 q2 o1 o2 hu
  have hu1:A.units < cLine:=by omega
  have rc0:∀ (x y:U) (v w:V) (p q:Value),Rp X.K H v x→Rp X.K H w y→bp v p→bp w q→okU n x=true→okU n y=true→SeqAt.RcAt A.in1 s p q (eqW x y):=fun x y v w p q r1 r2 k1 k2 z1 z2=> ih A.in1 x y v w p q r1 r2 k1 k2 z1 z2 (by show A.units+1+n < _; omega)
  cases R1 with
  | non=>
   cases (show p=C2 from q1)
   cases R2 with
   | non=> cases (show q=C2 from q2); exact SeqAt.RcAt.none_none
   | bl b=> cases (show q=Dn b from q2); exact SeqAt.RcAt.none_bool b
   | int i=> obtain ⟨t,rfl⟩:=(show ∃ t,q=Dm i t from q2); exact SeqAt.RcAt.none_int i t
   | str i=> obtain ⟨t,rfl⟩:=(show ∃ t,q=DC i t from q2); exact SeqAt.RcAt.none_str i t
   | ty=> simp [okU] at o2
   | dic=> simp [okU] at o2
   | xc=> simp [okU] at o2
   | scr hq hl hi=> cases q2; obtain ⟨_,_,pl,_⟩:=IsU.list I hq hl; exact SeqAt.RcAt.none_list pl hu1
   | tup hq hl hi=> cases q2; obtain ⟨_,_,pl,_⟩:=IsU.tup I hq hl; exact SeqAt.RcAt.none_tuple pl hu1
   | lst hq hl hi=> cases q2; obtain ⟨_,_,pl,_⟩:=IsU.list I (SqL.of hq) hl; exact SeqAt.RcAt.none_list pl hu1
  | bl c=>
   cases (show p=Dn c from q1)
   cases R2 with
   | non=> cases (show q=C2 from q2); exact SeqAt.RcAt.bool_none c
   | bl b=> cases (show q=Dn b from q2); exact SeqAt.RcAt.bool_bool c b
   | int i=> obtain ⟨t,rfl⟩:=(show ∃ t,q=Dm i t from q2); exact SeqAt.RcAt.bool_int c i t
   | str i=> obtain ⟨t,rfl⟩:=(show ∃ t,q=DC i t from q2); exact SeqAt.RcAt.bool_str c i t
   | ty=> simp [okU] at o2
   | dic=> simp [okU] at o2
   | xc=> simp [okU] at o2
   | scr hq hl hi=> cases q2; obtain ⟨_,_,pl,_⟩:=IsU.list I hq hl; exact SeqAt.RcAt.bool_list c pl hu1
   | tup hq hl hi=> cases q2; obtain ⟨_,_,pl,_⟩:=IsU.tup I hq hl; exact SeqAt.RcAt.bool_tuple c pl hu1
   | lst hq hl hi=> cases q2; obtain ⟨_,_,pl,_⟩:=IsU.list I (SqL.of hq) hl; exact SeqAt.RcAt.bool_list c pl hu1
  | int c=>
   obtain ⟨t0,rfl⟩:=(show ∃ t,p=Dm c t from q1)
   cases R2 with
   | non=> cases (show q=C2 from q2); exact SeqAt.RcAt.int_none c t0
   | bl b=> cases (show q=Dn b from q2); exact SeqAt.RcAt.int_bool c t0 b
   | int i=> obtain ⟨t,rfl⟩:=(show ∃ t,q=Dm i t from q2); exact SeqAt.RcAt.int_int c t0 i t
   | str i=> obtain ⟨t,rfl⟩:=(show ∃ t,q=DC i t from q2); exact SeqAt.RcAt.int_str c t0 i t
   | ty=> simp [okU] at o2
   | dic=> simp [okU] at o2
   | xc=> simp [okU] at o2
   | scr hq hl hi=> cases q2; obtain ⟨_,_,pl,_⟩:=IsU.list I hq hl; exact SeqAt.RcAt.int_list c t0 pl hu1
   | tup hq hl hi=> cases q2; obtain ⟨_,_,pl,_⟩:=IsU.tup I hq hl; exact SeqAt.RcAt.int_tuple c t0 pl hu1
   | lst hq hl hi=> cases q2; obtain ⟨_,_,pl,_⟩:=IsU.list I (SqL.of hq) hl; exact SeqAt.RcAt.int_list c t0 pl hu1
  | str c=>
   obtain ⟨t0,rfl⟩:=(show ∃ t,p=DC c t from q1)
   cases R2 with
   | non=> cases (show q=C2 from q2); exact SeqAt.RcAt.str_none c t0
   | bl b=> cases (show q=Dn b from q2); exact SeqAt.RcAt.str_bool c t0 b
   | int i=> obtain ⟨t,rfl⟩:=(show ∃ t,q=Dm i t from q2); exact SeqAt.RcAt.str_int c t0 i t
   | str i=> obtain ⟨t,rfl⟩:=(show ∃ t,q=DC i t from q2); exact SeqAt.RcAt.str_str c t0 i t
   | ty=> simp [okU] at o2
   | dic=> simp [okU] at o2
   | xc=> simp [okU] at o2
   | scr hq hl hi=> cases q2; obtain ⟨_,_,pl,_⟩:=IsU.list I hq hl; exact SeqAt.RcAt.str_list c t0 pl hu1
   | tup hq hl hi=> cases q2; obtain ⟨_,_,pl,_⟩:=IsU.tup I hq hl; exact SeqAt.RcAt.str_tuple c t0 pl hu1
   | lst hq hl hi=> cases q2; obtain ⟨_,_,pl,_⟩:=IsU.list I (SqL.of hq) hl; exact SeqAt.RcAt.str_list c t0 pl hu1
  | ty=> simp [okU] at o1
  | dic=> simp [okU] at o1
  | xc=> simp [okU] at o1
  | @scr a vs xs hq hl hi=>
   cases q1
   obtain ⟨its,r1,pl,l1⟩:=IsU.list I hq hl
   rw [okU] at o1
   cases R2 with
   | non=> cases (show q=C2 from q2); exact SeqAt.RcAt.list_none pl hu1
   | bl b=> cases (show q=Dn b from q2); exact SeqAt.RcAt.list_bool b pl hu1
   | int i=> obtain ⟨t,rfl⟩:=(show ∃ t,q=Dm i t from q2); exact SeqAt.RcAt.list_int i t pl hu1
   | str i=> obtain ⟨t,rfl⟩:=(show ∃ t,q=DC i t from q2); exact SeqAt.RcAt.list_str i t pl hu1
   | ty=> simp [okU] at o2
   | dic=> simp [okU] at o2
   | xc=> simp [okU] at o2
   | scr hq' hl' hi'=> cases q2; rw [okU] at o2; obtain ⟨its2,r2,pl2,l2⟩:=IsU.list I hq' hl'; rw [eqW]; exact hU pl pl2 l1 l2 hu (cL I r1 r2 hl hl' hi hi' o1 o2 rc0 (by omega))
   | lst hq' hl' hi'=> cases q2; rw [okU] at o2; obtain ⟨its2,r2,pl2,l2⟩:=IsU.list I (SqL.of hq') hl'; rw [eqW]; exact hU pl pl2 l1 l2 hu (cL I r1 r2 hl hl' hi hi' o1 o2 rc0 (by omega))
   | tup hq' hl' hi'=> cases q2; obtain ⟨its2,r2,pl2,l2⟩:=IsU.tup I hq' hl'; exact SeqAt.RcAt.list_tuple pl pl2 hu1
  | @lst a vs xs hq hl hi=>
   cases q1
   obtain ⟨its,r1,pl,l1⟩:=IsU.list I (SqL.of hq) hl
   rw [okU] at o1
   cases R2 with
   | non=> cases (show q=C2 from q2); exact SeqAt.RcAt.list_none pl hu1
   | bl b=> cases (show q=Dn b from q2); exact SeqAt.RcAt.list_bool b pl hu1
   | int i=> obtain ⟨t,rfl⟩:=(show ∃ t,q=Dm i t from q2); exact SeqAt.RcAt.list_int i t pl hu1
   | str i=> obtain ⟨t,rfl⟩:=(show ∃ t,q=DC i t from q2); exact SeqAt.RcAt.list_str i t pl hu1
   | ty=> simp [okU] at o2
   | dic=> simp [okU] at o2
   | xc=> simp [okU] at o2
   | scr hq' hl' hi'=> cases q2; rw [okU] at o2; obtain ⟨its2,r2,pl2,l2⟩:=IsU.list I hq' hl'; rw [eqW]; exact hU pl pl2 l1 l2 hu (cL I r1 r2 hl hl' hi hi' o1 o2 rc0 (by omega))
   | lst hq' hl' hi'=> cases q2; rw [okU] at o2; obtain ⟨its2,r2,pl2,l2⟩:=IsU.list I (SqL.of hq') hl'; rw [eqW]; exact hU pl pl2 l1 l2 hu (cL I r1 r2 hl hl' hi hi' o1 o2 rc0 (by omega))
   | tup hq' hl' hi'=> cases q2; obtain ⟨its2,r2,pl2,l2⟩:=IsU.tup I hq' hl'; exact SeqAt.RcAt.list_tuple pl pl2 hu1
  | @tup a vs xs hq hl hi=>
   cases q1
   obtain ⟨its,r1,pl,l1⟩:=IsU.tup I hq hl
   rw [okU] at o1
   cases R2 with
   | non=> cases (show q=C2 from q2); exact SeqAt.RcAt.tuple_none pl hu1
   | bl b=> cases (show q=Dn b from q2); exact SeqAt.RcAt.tuple_bool b pl hu1
   | int i=> obtain ⟨t,rfl⟩:=(show ∃ t,q=Dm i t from q2); exact SeqAt.RcAt.tuple_int i t pl hu1
   | str i=> obtain ⟨t,rfl⟩:=(show ∃ t,q=DC i t from q2); exact SeqAt.RcAt.tuple_str i t pl hu1
   | ty=> simp [okU] at o2
   | dic=> simp [okU] at o2
   | xc=> simp [okU] at o2
   | scr hq' hl' hi'=> cases q2; obtain ⟨its2,r2,pl2,l2⟩:=IsU.list I hq' hl'; exact SeqAt.RcAt.tuple_list pl pl2 hu1
   | lst hq' hl' hi'=> cases q2; obtain ⟨its2,r2,pl2,l2⟩:=IsU.list I (SqL.of hq') hl'; exact SeqAt.RcAt.tuple_list pl pl2 hu1
   | tup hq' hl' hi'=> cases q2; rw [okU] at o2; obtain ⟨its2,r2,pl2,l2⟩:=IsU.tup I hq' hl'; rw [eqW]; exact yS pl pl2 l1 l2 hu (cL I r1 r2 hl hl' hi hi' o1 o2 rc0 (by omega))
end
end L2
namespace L2
open PySem PySem.Spec PyProof.Rows
section
variable {X:Cx} {pins:List (Addr×Obj)} {σ:St} {H:Hp} {s:Shared}
theorem fA {A:Around} {n:Nat} {a b:Addr} {xs ys:List U} {its its2:List Value} (p1:s.heap.IsList a its.toArray) (p2:s.heap.IsList b its2.toArray) (l1:its.length=xs.length) (l2:its2.length=ys.length) (hu:A.units+n < cLine)
  (he:∀ (j:Nat) (j1:j < its.length) (j2:j < its2.length),SeqAt.EqAt A.in1 s its[j] its2[j] (eqW (xs.getD j .non) (ys.getD j .non))):SeqAt.RcNeAt A s (.ref a) (.ref b) (!eqWs xs ys):=by
 by_cases hl:its.length=its2.length
 ·have:=SeqAt.RcNeAt.lists (A:=A) (s:=s) (e:=fun j=> eqW (xs.getD j .non) (ys.getD j .non)) p1 p2 (by simpa using hl) (by omega) (fun j h1 h2=> by simpa using he j (by simpa using h1) (by simpa using h2))
  rw [← dE,← l1,← l2,hl,Jk,beq_self_eq_true,Gc]
  rwa [CH,hl] at this
 ·have:=SeqAt.RcNeAt.lists_lengths (A:=A) (s:=s) p1 p2 (by simpa using hl) (by omega)
  rw [← dE,← l1,← l2,show (its.length==its2.length)=false by simpa using hl,Hw]
  exact this
theorem r_ {A:Around} {n:Nat} {a b:Addr} {xs ys:List U} {its its2:List Value} (p1:IsTup s.heap a its.toArray) (p2:IsTup s.heap b its2.toArray) (l1:its.length=xs.length) (l2:its2.length=ys.length) (hu:A.units+n < cLine)
  (he:∀ (j:Nat) (j1:j < its.length) (j2:j < its2.length),SeqAt.EqAt A.in1 s its[j] its2[j] (eqW (xs.getD j .non) (ys.getD j .non))):SeqAt.RcNeAt A s (.ref a) (.ref b) (!eqWs xs ys):=by
 have:=SeqAt.RcNeAt.tuples (A:=A) (s:=s) (e:=fun j=> eqW (xs.getD j .non) (ys.getD j .non)) p1 p2 (by omega) (fun j h1 h2=> by simpa using he j (by simpa using h1) (by simpa using h2))
 rw [CH,CH,l1,l2,dE] at this
 exact this
theorem z9 (I:Inv X pins σ H s) (n:Nat) (A:Around) (x y:U) (v w:V) (p q:Value) (R1:Rp X.K H v x) (R2:Rp X.K H w y) (q1:bp v p) (q2:bp w q) (o1:okU (n+1) x=true) (o2:okU (n+1) y=true) (hu:A.units+(n+1) < cLine):SeqAt.RcNeAt A s p q (!eqW x y):=by
 have hu1:A.units < cLine:=by omega
 have rc0:∀ (x y:U) (v w:V) (p q:Value),Rp X.K H v x→Rp X.K H w y→bp v p→bp w q→okU n x=true→okU n y=true→SeqAt.RcAt A.in1 s p q (eqW x y):=fun x y v w p q r1 r2 k1 k2 z1 z2=> BL I n A.in1 x y v w p q r1 r2 k1 k2 z1 z2 (by show A.units+1+n < _; omega)
 cases R1 with
 | ty=> simp [okU] at o1
 | dic=> simp [okU] at o1
 | xc=> simp [okU] at o1
 | non=>
  cases (show p=C2 from q1)
  cases R2 with
  | ty=> simp [okU] at o2
  | dic=> simp [okU] at o2
  | xc=> simp [okU] at o2
  | non=> cases (show q=C2 from q2); exact SeqAt.RcNeAt.none_none
  | bl c2=> cases (show q=Dn c2 from q2); exact SeqAt.RcNeAt.none_bool c2
  | int c2=> obtain ⟨t2,rfl⟩:=(show ∃ t,q=Dm c2 t from q2); exact SeqAt.RcNeAt.none_int c2 t2
  | str c2=> obtain ⟨t2,rfl⟩:=(show ∃ t,q=DC c2 t from q2); exact SeqAt.RcNeAt.none_str c2 t2
  | scr hq2 hl2 hi2=> cases q2; obtain ⟨its2,r2,pl2,l2⟩:=IsU.list I hq2 hl2; exact SeqAt.RcNeAt.none_list pl2 hu1
  | tup hq2 hl2 hi2=> cases q2; obtain ⟨its2,r2,pl2,l2⟩:=IsU.tup I hq2 hl2; exact SeqAt.RcNeAt.none_tuple pl2 hu1
  | lst hq2 hl2 hi2=> cases q2; obtain ⟨its2,r2,pl2,l2⟩:=IsU.list I (SqL.of hq2) hl2; exact SeqAt.RcNeAt.none_list pl2 hu1
 | bl c1=>
  cases (show p=Dn c1 from q1)
  cases R2 with
  | ty=> simp [okU] at o2
  | dic=> simp [okU] at o2
  | xc=> simp [okU] at o2
  | non=> cases (show q=C2 from q2); exact SeqAt.RcNeAt.bool_none c1
  | bl c2=> cases (show q=Dn c2 from q2); exact SeqAt.RcNeAt.bool_bool c1 c2
  | int c2=> obtain ⟨t2,rfl⟩:=(show ∃ t,q=Dm c2 t from q2); exact SeqAt.RcNeAt.bool_int c1 c2 t2
  | str c2=> obtain ⟨t2,rfl⟩:=(show ∃ t,q=DC c2 t from q2); exact SeqAt.RcNeAt.bool_str c1 c2 t2
  | scr hq2 hl2 hi2=> cases q2; obtain ⟨its2,r2,pl2,l2⟩:=IsU.list I hq2 hl2; exact SeqAt.RcNeAt.bool_list c1 pl2 hu1
  | tup hq2 hl2 hi2=> cases q2; obtain ⟨its2,r2,pl2,l2⟩:=IsU.tup I hq2 hl2; exact SeqAt.RcNeAt.bool_tuple c1 pl2 hu1
  | lst hq2 hl2 hi2=> cases q2; obtain ⟨its2,r2,pl2,l2⟩:=IsU.list I (SqL.of hq2) hl2; exact SeqAt.RcNeAt.bool_list c1 pl2 hu1
 | int c1=>
  obtain ⟨t1,rfl⟩:=(show ∃ t,p=Dm c1 t from q1)
  cases R2 with
  | ty=> simp [okU] at o2
  | dic=> simp [okU] at o2
  | xc=> simp [okU] at o2
  | non=> cases (show q=C2 from q2); exact SeqAt.RcNeAt.int_none c1 t1
  | bl c2=> cases (show q=Dn c2 from q2); exact SeqAt.RcNeAt.int_bool c1 t1 c2
  | int c2=> obtain ⟨t2,rfl⟩:=(show ∃ t,q=Dm c2 t from q2); exact SeqAt.RcNeAt.int_int c1 t1 c2 t2
  | str c2=> obtain ⟨t2,rfl⟩:=(show ∃ t,q=DC c2 t from q2); exact SeqAt.RcNeAt.int_str c1 t1 c2 t2
  | scr hq2 hl2 hi2=> cases q2; obtain ⟨its2,r2,pl2,l2⟩:=IsU.list I hq2 hl2; exact SeqAt.RcNeAt.int_list c1 t1 pl2 hu1
  | tup hq2 hl2 hi2=> cases q2; obtain ⟨its2,r2,pl2,l2⟩:=IsU.tup I hq2 hl2; exact SeqAt.RcNeAt.int_tuple c1 t1 pl2 hu1
  | lst hq2 hl2 hi2=> cases q2; obtain ⟨its2,r2,pl2,l2⟩:=IsU.list I (SqL.of hq2) hl2; exact SeqAt.RcNeAt.int_list c1 t1 pl2 hu1
 | str c1=>
  obtain ⟨t1,rfl⟩:=(show ∃ t,p=DC c1 t from q1)
  cases R2 with
  | ty=> simp [okU] at o2
  | dic=> simp [okU] at o2
  | xc=> simp [okU] at o2
  | non=> cases (show q=C2 from q2); exact SeqAt.RcNeAt.str_none c1 t1
  | bl c2=> cases (show q=Dn c2 from q2); exact SeqAt.RcNeAt.str_bool c1 t1 c2
  | int c2=> obtain ⟨t2,rfl⟩:=(show ∃ t,q=Dm c2 t from q2); exact SeqAt.RcNeAt.str_int c1 t1 c2 t2
  | str c2=> obtain ⟨t2,rfl⟩:=(show ∃ t,q=DC c2 t from q2); exact SeqAt.RcNeAt.str_str c1 t1 c2 t2
  | scr hq2 hl2 hi2=> cases q2; obtain ⟨its2,r2,pl2,l2⟩:=IsU.list I hq2 hl2; exact SeqAt.RcNeAt.str_list c1 t1 pl2 hu1
  | tup hq2 hl2 hi2=> cases q2; obtain ⟨its2,r2,pl2,l2⟩:=IsU.tup I hq2 hl2; exact SeqAt.RcNeAt.str_tuple c1 t1 pl2 hu1
  | lst hq2 hl2 hi2=> cases q2; obtain ⟨its2,r2,pl2,l2⟩:=IsU.list I (SqL.of hq2) hl2; exact SeqAt.RcNeAt.str_list c1 t1 pl2 hu1
 | scr hq1 hl1 hi1=>
  cases q1; obtain ⟨its1,r1,pl1,l1⟩:=IsU.list I hq1 hl1
  cases R2 with
  | ty=> simp [okU] at o2
  | dic=> simp [okU] at o2
  | xc=> simp [okU] at o2
  | non=> cases (show q=C2 from q2); exact SeqAt.RcNeAt.list_none pl1 hu1
  | bl c2=> cases (show q=Dn c2 from q2); exact SeqAt.RcNeAt.list_bool c2 pl1 hu1
  | int c2=> obtain ⟨t2,rfl⟩:=(show ∃ t,q=Dm c2 t from q2); exact SeqAt.RcNeAt.list_int c2 t2 pl1 hu1
  | str c2=> obtain ⟨t2,rfl⟩:=(show ∃ t,q=DC c2 t from q2); exact SeqAt.RcNeAt.list_str c2 t2 pl1 hu1
  | scr hq2 hl2 hi2=> cases q2; obtain ⟨its2,r2,pl2,l2⟩:=IsU.list I hq2 hl2; rw [okU] at o1; rw [okU] at o2; rw [eqW]; exact fA pl1 pl2 l1 l2 hu (cL I r1 r2 hl1 hl2 hi1 hi2 o1 o2 rc0 (by omega))
  | tup hq2 hl2 hi2=> cases q2; obtain ⟨its2,r2,pl2,l2⟩:=IsU.tup I hq2 hl2; exact SeqAt.RcNeAt.list_tuple pl1 pl2 hu1
  | lst hq2 hl2 hi2=> cases q2; obtain ⟨its2,r2,pl2,l2⟩:=IsU.list I (SqL.of hq2) hl2; rw [okU] at o1; rw [okU] at o2; rw [eqW]; exact fA pl1 pl2 l1 l2 hu (cL I r1 r2 hl1 hl2 hi1 hi2 o1 o2 rc0 (by omega))
 | tup hq1 hl1 hi1=>
  cases q1; obtain ⟨its1,r1,pl1,l1⟩:=IsU.tup I hq1 hl1
  cases R2 with
  | ty=> simp [okU] at o2
  | dic=> simp [okU] at o2
  | xc=> simp [okU] at o2
  | non=> cases (show q=C2 from q2); exact SeqAt.RcNeAt.tuple_none pl1 hu1
  | bl c2=> cases (show q=Dn c2 from q2); exact SeqAt.RcNeAt.tuple_bool c2 pl1 hu1
  | int c2=> obtain ⟨t2,rfl⟩:=(show ∃ t,q=Dm c2 t from q2); exact SeqAt.RcNeAt.tuple_int c2 t2 pl1 hu1
  | str c2=> obtain ⟨t2,rfl⟩:=(show ∃ t,q=DC c2 t from q2); exact SeqAt.RcNeAt.tuple_str c2 t2 pl1 hu1
  | scr hq2 hl2 hi2=> cases q2; obtain ⟨its2,r2,pl2,l2⟩:=IsU.list I hq2 hl2; exact SeqAt.RcNeAt.tuple_list pl1 pl2 hu1
  | tup hq2 hl2 hi2=> cases q2; obtain ⟨its2,r2,pl2,l2⟩:=IsU.tup I hq2 hl2; rw [okU] at o1; rw [okU] at o2; rw [eqW]; exact r_ pl1 pl2 l1 l2 hu (cL I r1 r2 hl1 hl2 hi1 hi2 o1 o2 rc0 (by omega))
  | lst hq2 hl2 hi2=> cases q2; obtain ⟨its2,r2,pl2,l2⟩:=IsU.list I (SqL.of hq2) hl2; exact SeqAt.RcNeAt.tuple_list pl1 pl2 hu1
 | lst hq1 hl1 hi1=>
  cases q1; obtain ⟨its1,r1,pl1,l1⟩:=IsU.list I (SqL.of hq1) hl1
  cases R2 with
  | ty=> simp [okU] at o2
  | dic=> simp [okU] at o2
  | xc=> simp [okU] at o2
  | non=> cases (show q=C2 from q2); exact SeqAt.RcNeAt.list_none pl1 hu1
  | bl c2=> cases (show q=Dn c2 from q2); exact SeqAt.RcNeAt.list_bool c2 pl1 hu1
  | int c2=> obtain ⟨t2,rfl⟩:=(show ∃ t,q=Dm c2 t from q2); exact SeqAt.RcNeAt.list_int c2 t2 pl1 hu1
  | str c2=> obtain ⟨t2,rfl⟩:=(show ∃ t,q=DC c2 t from q2); exact SeqAt.RcNeAt.list_str c2 t2 pl1 hu1
  | scr hq2 hl2 hi2=> cases q2; obtain ⟨its2,r2,pl2,l2⟩:=IsU.list I hq2 hl2; rw [okU] at o1; rw [okU] at o2; rw [eqW]; exact fA pl1 pl2 l1 l2 hu (cL I r1 r2 hl1 hl2 hi1 hi2 o1 o2 rc0 (by omega))
  | tup hq2 hl2 hi2=> cases q2; obtain ⟨its2,r2,pl2,l2⟩:=IsU.tup I hq2 hl2; exact SeqAt.RcNeAt.list_tuple pl1 pl2 hu1
  | lst hq2 hl2 hi2=> cases q2; obtain ⟨its2,r2,pl2,l2⟩:=IsU.list I (SqL.of hq2) hl2; rw [okU] at o1; rw [okU] at o2; rw [eqW]; exact fA pl1 pl2 l1 l2 hu (cL I r1 r2 hl1 hl2 hi1 hi2 o1 o2 rc0 (by omega))
end
end L2
namespace L2
open PySem PySem.Spec PyProof.Rows
def OpS (X:Cx) (f:Value→Value→Sem Value) (x y:U) (z:V):Prop:=OpR X f fun v w H Q=> Rp X.K H v x∧Rp X.K H w y∧Q z H
section
variable {X:Cx} {H0:Hp} {O0:List Addr} {ps:PSt} {a b c e:Expr} {es rest:List Expr} {pos p:Pos} {u x y:U} {xs ys us:List U} {i j:Int} {k m:Bool}
theorem Rp.out {K:Cn} {H:Hp} {O:List Addr} {v:V} {u:U} (h:Rp K (hid H O) v u):Rp K H v u:=h.same aG
theorem lc {op:CmpOp} (ho:OpS X (compareOp op) x y (.bl k)) (ha:Ev X H0 O0 ps a x) (hb:Ev X H0 O0 ps b y) (hm:behindInMarks op b=false:=by first | exact xa _ | with_unfolding_all rfl):Ev X H0 O0 ps (.Compare a [op] [b] pos) (.bl k):=
 PE.mono (ya ho ha hb hm) fun σ H Q ⟨O,R,q⟩=> two R (fun _ _ _ z=> z) (fun _ _ _ z=> z) fun v w H' s _ r1 r2=> ⟨r1.out,r2.out,q _ H' s (.bl _)⟩
theorem aF {op:CmpOp} (ho:OpS X (compareOp op) x y (.bl k)) (ha:Ev X H0 O0 ps a x) (hb:Ev X H0 O0 ps b y) (hm:behindInMarks op b=false:=by first | exact xa _ | with_unfolding_all rfl):Tt X H0 O0 ps (.Compare a [op] [b] pos) k:=
 PT.mono (xy ho ha hb hm) fun σ H Q ⟨O,R,q⟩=> two R (fun _ _ _ z=> z) (fun _ _ _ z=> z) fun v w H' s _ r1 r2=> ⟨r1.out,r2.out,_,rfl,q H' s⟩
theorem qu {op:CmpOp} {g:Int→Int→Bool} (ho:OpR X (compareOp op) (rI0 fun i j=> .bl (g i j))):OpS X (compareOp op) (.int i) (.int j) (.bl (g i j)):=by
 intro pins s σ H v w p q Q I r1 r2 h
 obtain ⟨h1,h2,h3⟩:=h
 cases h1; cases h2
 exact ho pins s σ H _ _ _ _ Q I r1 r2 ⟨i,j,rfl,rfl,h3⟩
theorem eN:OpS X (compareOp .Lt) (.int i) (.int j) (.bl (decide (i < j))):=qu BN
theorem B5:OpS X (compareOp .LtE) (.int i) (.int j) (.bl (decide (i≤j))):=qu Bf
theorem i6:OpS X (compareOp .Gt) (.int i) (.int j) (.bl (decide (j < i))):=qu BF
theorem Cc:OpS X (compareOp .GtE) (.int i) (.int j) (.bl (decide (j≤i))):=qu Bn
theorem Bz (hu:X.A.units+10 < cLine) (h1:okU 9 x=true) (h2:okU 9 y=true):OpS X (compareOp .Eq) x y (.bl (eqW x y)):=by
 intro pins s σ H v w p q Q I r1 r2 h
 obtain ⟨k1,k2,k3⟩:=h
 exact BL I 9 X.A x y v w p q k1 k2 r1 r2 h1 h2 (by omega) X.prog X.w _ _ (bh I k3 rfl)
theorem Ca (hu:X.A.units+10 < cLine) (h1:okU 9 x=true) (h2:okU 9 y=true):OpS X (compareOp .NotEq) x y (.bl (!eqW x y)):=by
 intro pins s σ H v w p q Q I r1 r2 h
 obtain ⟨k1,k2,k3⟩:=h
 exact z9 I 8 X.A x y v w p q k1 k2 r1 r2 h1 h2 (by omega) X.prog X.w _ _ (bh I k3 rfl)
theorem dU:OpS X (compareOp .Eq) (.int i) (.int j) (.bl (decide (i=j))):=by
 intro pins s σ H v w p q Q I r1 r2 h
 obtain ⟨h1,h2,h3⟩:=h
 cases h1; cases h2
 exact Bv pins s σ H _ _ _ _ Q I r1 r2 ⟨rfl,by rw [jv,← FQ] at *; simpa [FQ] using h3⟩
theorem fG:OpS X (compareOp .NotEq) (.int i) (.int j) (.bl (!decide (i=j))):=by
 intro pins s σ H v w p q Q I r1 r2 h
 obtain ⟨h1,h2,h3⟩:=h
 cases h1; cases h2
 exact Bi pins s σ H _ _ _ _ Q I r1 r2 ⟨rfl,by rw [jv]; simpa [FQ] using h3⟩
theorem eu (h:Ev X H0 O0 ps e (.bl k)) (he:∀ whole,isTrue e X.env whole=(do let v ← whole; standAt e.pos; holding [v] (truthy v)):=by intro _; rfl):Tt X H0 O0 ps e k:=
 PT.mono (Am h he) fun σ H Q ⟨O,R,q⟩=> ⟨O,R,fun v H' s r=> by cases r; exact ⟨_,rfl,q H' s⟩⟩
theorem eM (h:Tt X H0 O0 ps a k):Tt X H0 O0 ps (.UnaryOp .Not a pos) (!k):=PT.mono (zN h) fun σ H Q ⟨O,R,q⟩=> ⟨O,R,q⟩
theorem Tw.t (h:Tw X H0 O0 ps e k):Tt X H0 O0 ps e k:=h.pt
theorem mW (h:Tt X H0 O0 ps a k):Tw X H0 O0 ps (.BoolOp .And [a] pos) k:=yz h
theorem n_ (h:Tt X H0 O0 ps a k):Tw X H0 O0 ps (.BoolOp .Or [a] pos) k:=Au h
theorem oD (ha:Tt X H0 O0 ps a k) (hb:k=true→Tw X H0 O0 ps (.BoolOp .And (b::rest) pos) m):Tw X H0 O0 ps (.BoolOp .And (a::b::rest) pos) (k && m):=by
 cases k with
 | true=> exact PW.mono (vf ha (hb rfl)) fun σ H Q ⟨O,R,q⟩=> ⟨O,R,fun H' s=> by exact p6 (⟨O,R.go s,fun H2 s2=> q H2 (s.trans s2)⟩)⟩
 | false=> exact PW.mono (vf ha (fun _ _ _ _ _ _ _ h=> h.elim) (tB':=fun _ _ _=> False)) fun σ H Q ⟨O,R,q⟩=> ⟨O,R,fun H' s=> by exact pS (q H' s)⟩
theorem nG (ha:Tt X H0 O0 ps a k) (hb:k=false→Tw X H0 O0 ps (.BoolOp .Or (b::rest) pos) m):Tw X H0 O0 ps (.BoolOp .Or (a::b::rest) pos) (k || m):=by
 cases k with
 | false=> exact PW.mono (zd ha (hb rfl)) fun σ H Q ⟨O,R,q⟩=> ⟨O,R,fun H' s=> by exact pS (⟨O,R.go s,fun H2 s2=> q H2 (s.trans s2)⟩)⟩
 | true=> exact PW.mono (zd ha (fun _ _ _ _ _ _ _ h=> h.elim) (tB':=fun _ _ _=> False)) fun σ H Q ⟨O,R,q⟩=> ⟨O,R,fun H' s=> by exact p6 (q H' s)⟩
theorem fL {op} (h:Ev X H0 O0 ps a u):Ev X H0 O0 ps (.BoolOp op [a] pos) u:=AM h
theorem fE (ha:Ev X H0 O0 ps a (.bl k)) (hb:k=true→Ev X H0 O0 ps (.BoolOp .And (b::rest) pos) (.bl m)):Ev X H0 O0 ps (.BoolOp .And (a::b::rest) pos) (.bl (k && m)):=by
 cases k with
 | true=> exact PE.mono (vh ha (hb rfl)) fun σ H Q ⟨O,R,q⟩=> ⟨O,R,fun v H' s r=> by cases r; exact ⟨_,rfl,by exact p6 (⟨O,R.go s,fun v H2 s2 r2=> q v H2 (s.trans s2) r2⟩)⟩⟩
 | false=> exact PE.mono (vh ha (fun _ _ _ _ _ _ h=> h.elim) (tb:=fun _ _ _=> False)) fun σ H Q ⟨O,R,q⟩=> ⟨O,R,fun v H' s r=> by cases r; exact ⟨_,rfl,by exact pS (q _ H' s (.bl _))⟩⟩
theorem ip (ha:Ev X H0 O0 ps a (.bl k)):Ev X H0 O0 ps (.UnaryOp .Not a pos) (.bl (!k)):=PE.mono (zL ha) fun σ H Q ⟨O,R,q⟩=> ⟨O,R,fun v H' s r=> by cases r; exact ⟨_,rfl,q _ H' s (.bl _)⟩⟩
theorem zl {c:Expr} (hc:Tt X H0 O0 ps c k) (ha:k=true→Ev X H0 O0 ps a u) (hb:k=false→Ev X H0 O0 ps b u):Ev X H0 O0 ps (.IfExp c a b pos) u:=by
 cases k with
 | true=> exact PE.mono (nB hc (ha rfl) (fun _ _ _ _ _ _ h=> h.elim) (tb:=fun _ _ _=> False)) fun σ H Q ⟨O,R,q⟩=> ⟨O,R,fun H' s=> by exact p6 (⟨O,R.go s,fun v H2 s2 r2=> q v H2 (s.trans s2) r2⟩)⟩
 | false=> exact PE.mono (nB hc (fun _ _ _ _ _ _ h=> h.elim) (hb rfl) (ta:=fun _ _ _=> False)) fun σ H Q ⟨O,R,q⟩=> ⟨O,R,fun H' s=> by exact pS (⟨O,R.go s,fun v H2 s2 r2=> q v H2 (s.trans s2) r2⟩)⟩
theorem ak:EvA X H0 O0 ps [] []:=PA.mono g6 fun σ H Q ⟨O,R,q⟩=> q [] H (.refl H) .nil
theorem ac (ha:Ev X H0 O0 ps e u) (hr:EvA X H0 O0 ps es us) (hs:starEach (e::es) X.env=(false,eval e X.env)::starEach es X.env:=by rfl):EvA X H0 O0 ps (e::es) (u::us):=
 PA.mono (eL ha hr hs) fun σ H Q ⟨O,R,q⟩=> ⟨O,R,fun v H1 s1 r1=> ⟨O,R.go s1,fun vs H2 s2 r2=> q _ H2 (s1.trans s2) (.cons (r1.same (bL s2)) r2)⟩⟩
theorem Rs.hidnew {K:Cn} {σ:St} {H:Hp} {O:List Addr} (R:Rs K H0 O0 ps σ H O) {p:Addr} {o:HO} (n:H p=none):hid (upd H p o) O p=some o:=dN bi fun z=> R.dom p z n
theorem BA {x1} (h:EvA X H0 O0 ps es us) (hz:us.length≤sizeLine:=by first | decide | (simp only [Dy,Fz]; decide)):Ev X H0 O0 ps (.Tuple es x1 pos) (.tup us):=
 PE.mono (Ab h) fun σ H Q ⟨O,R,q⟩=> ⟨O,R,fun vs H1 s1 r1=> ⟨by rw [r1.len]; exact hz,fun p hp=> by
  have s2:=bu hp (.tup vs)
  have r2:=r1.same (bL (O:=O) s2)
  exact q _ _ (s1.trans s2) (.tup (SqT.of ((R.go s1).hidnew hp)) r2.len r2.at_)⟩⟩
theorem Bs (h:EvA X H0 O0 ps es us) (hz:us.length≤sizeLine:=by first | decide | (simp only [Dy,Fz]; decide)):EvN X H0 O0 ps (.List es pos) us:=
 PE.mono (Al h) fun σ H Q ⟨O,R,q⟩=> ⟨O,R,fun vs H1 s1 r1=> ⟨by rw [r1.len]; exact hz,fun p hp=> by
  exact q p vs _ (s1.trans (bu hp _)) (s1.free hp) bi (r1.same (cg (bu hp _) hp))⟩⟩
theorem aE (ha:Ev X H0 O0 ps a x) (hb:Ev X H0 O0 ps b (.int i)) (hx:x.items=some xs) (hi:atI xs i=some u) (hs:lZ b:=by intro _ _; rfl):Ev X H0 O0 ps (.Subscript a b pos) u:=
 PE.mono (yW (rG.or AB) ha hb hs) fun σ H Q ⟨O,R,q⟩=> two (y:=.int i) R (fun _ _ _ z=> z) (fun _ _ _ z=> z) fun v w H' s _ r1 r2=> by
  cases r2
  cases r1 with
  | scr h hl hh=> cases hx; obtain ⟨z,h1,h2⟩:=Rps.atI ⟨hl,hh⟩ hi; exact .inl ⟨_,_,i,z,rfl,rfl,aG.seq h,h1,q z H' s h2⟩
  | lst h hl hh=> cases hx; obtain ⟨z,h1,h2⟩:=Rps.atI ⟨hl,hh⟩ hi; exact .inl ⟨_,_,i,z,rfl,rfl,aG.seq (SqL.of h),h1,q z H' s h2⟩
  | tup h hl hh=> cases hx; obtain ⟨z,h1,h2⟩:=Rps.atI ⟨hl,hh⟩ hi; exact .inr ⟨_,_,i,z,rfl,rfl,aG.tup h,h1,q z H' s h2⟩
  | _=> cases hx
theorem qM (n:Nat) {x:Str} (h:ps[n]?=some (some (.own xs))) (hb:Ev X H0 O0 ps b (.int i)) (hi:atI xs i=some u) (hN:X.N[n]?=some x:=by rfl) (hv:Vis X.env.scope x:=by first | exact Or.inl rfl | exact Or.inr (Or.inl rfl) | exact Or.inr (Or.inr rfl)) (hd:(x==("__debug__":Str))=false:=by decide)
  (hcd:(x==("__classdict__":Str))=false:=by decide) (hs:lZ b:=by intro _ _; rfl):Ev X H0 O0 ps (.Subscript (.Name x p) b pos) u:=
 PE.mono (yW rG (iK hN hv hd hcd) hb hs) fun σ H Q ⟨O,R,q⟩=> by
  obtain ⟨v,h1,a,vs,rfl,h3,h4,h5,h6⟩:=R.at_ n _ h
  refine ⟨_,h1,O,R,fun w H' s r=> ?_⟩
  cases r
  obtain ⟨z,k1,k2⟩:=h6.atI hi
  exact ⟨a,vs,i,z,rfl,rfl,SqL.of (s _ _ h5),k1,q z H' s (k2.same (bL s))⟩
def e8 (X:Cx) (f:Value) (us:List U) (u:U):Prop:=cS X f fun vs H Q=> ∃ O,(∀ a∈O,H a≠none)∧Rps X.K (hid H O) vs us∧∀ v H',aQ H H'→Rp X.K (hid H' O) v u→Q v H'
def ze (X:Cx) (f:Value) (us:List U) (xs:List U):Prop:=cS X f fun vs H Q=> ∃ O,(∀ a∈O,H a≠none)∧Rps X.K (hid H O) vs us∧∀ a vs H',aQ H H'→H a=none→H' a=some (.lst vs)→Rps X.K (hid H' (a::O)) vs xs→Q (.ref a) H'
theorem ao {id:String} {f:Str} (hc:e8 X (.builtin id) us u) (hg:Gl X f) (hm:X.mg f=none) (hv:bootBuiltins f=some (.builtin id)) (ha:EvA X H0 O0 ps (e::es) us) (hn:f≠"__name__":=by decide) (hdb:(f==("__debug__":Str))=false:=by decide)
  (he:starEach (e::es) X.env=(false,eval e X.env)::starEach es X.env:=by rfl) (hpl:(backTo pos (starEach es X.env)).any (·.1)=false:=by rfl):Ev X H0 O0 ps (.Call (.Name f p) (e::es) [] pos) u:=
 PE.mono (oS hc hg hm hv ha hn hdb he hpl) fun σ H Q ⟨O,R,q⟩=> ⟨O,R,fun vs H1 s1 r1=> ⟨O,(R.go s1).dom,r1,fun v H2 s2 r2=> q v H2 (s1.trans s2) r2⟩⟩
theorem rK {id:String} {f:Str} (hc:e8 X (.type id) us u) (hg:Gl X f) (hm:X.mg f=none) (hv:bootBuiltins f=some (.type id)) (ha:EvA X H0 O0 ps (e::es) us) (hn:f≠"__name__":=by decide) (hdb:(f==("__debug__":Str))=false:=by decide)
  (he:starEach (e::es) X.env=(false,eval e X.env)::starEach es X.env:=by rfl) (hpl:(backTo pos (starEach es X.env)).any (·.1)=false:=by rfl):Ev X H0 O0 ps (.Call (.Name f p) (e::es) [] pos) u:=
 PE.mono (kR hc hg hm hv ha hn hdb he hpl) fun σ H Q ⟨O,R,q⟩=> ⟨O,R,fun vs H1 s1 r1=> ⟨O,(R.go s1).dom,r1,fun v H2 s2 r2=> q v H2 (s1.trans s2) r2⟩⟩
theorem gB {id:String} {f:Str} (hc:ze X (.type id) us xs) (hg:Gl X f) (hm:X.mg f=none) (hv:bootBuiltins f=some (.type id)) (ha:EvA X H0 O0 ps (e::es) us) (hn:f≠"__name__":=by decide) (hdb:(f==("__debug__":Str))=false:=by decide)
  (he:starEach (e::es) X.env=(false,eval e X.env)::starEach es X.env:=by rfl) (hpl:(backTo pos (starEach es X.env)).any (·.1)=false:=by rfl):EvN X H0 O0 ps (.Call (.Name f p) (e::es) [] pos) xs:=
 PE.mono (kR hc hg hm hv ha hn hdb he hpl) fun σ H Q ⟨O,R,q⟩=> ⟨O,R,fun vs H1 s1 r1=> ⟨O,(R.go s1).dom,r1,fun a vs H2 s2 n h r2=> q a vs H2 (s1.trans s2) (s1.free n) h r2⟩⟩
theorem cZ {K:Cn} {H:Hp} {vs:List V} (h:Rps K H vs [x]):∃ v,vs=[v]∧Rp K H v x:=by
 obtain ⟨v,ws,rfl,h1,h2⟩:=h.cons_inv
 rw [h2.nil_inv]
 exact ⟨v,rfl,h1⟩
theorem h_ {K:Cn} {H:Hp} {vs:List V} (h:Rps K H vs [x,y]):∃ v w,vs=[v,w]∧Rp K H v x∧Rp K H w y:=by
 obtain ⟨v,ws,rfl,h1,h2⟩:=h.cons_inv
 obtain ⟨w,rfl,h3⟩:=cZ h2
 exact ⟨v,w,rfl,h1,h3⟩
theorem cS.mono {f:Value} {r r':List V→Hp→VK→Prop} (h:cS X f r) (m:∀ vs H Q,r' vs H Q→r vs H Q):cS X f r':=fun pins s σ H vs us Q I v q=> h pins s σ H vs us Q I v (m vs H Q q)
theorem m_ {K:Cn} {H:Hp} {v:V} (h:Rp K H v x) (hx:x.items=some xs):∃ a vs,v=.ref a∧(SqL K H a vs∨SqT K H a vs)∧Rps K H vs xs:=by
 cases h with
 | scr h hl hh=> cases hx; exact ⟨_,_,rfl,.inl h,hl,hh⟩
 | lst h hl hh=> cases hx; exact ⟨_,_,rfl,.inl (SqL.of h),hl,hh⟩
 | tup h hl hh=> cases hx; exact ⟨_,_,rfl,.inr h,hl,hh⟩
 | _=> cases hx
theorem rg {K:Cn} {H:Hp} {O:List Addr} {a:Addr} {vs:List V} (h:SqL K (hid H O) a vs∨SqT K (hid H O) a vs):SqL K H a vs∨SqT K H a vs:=h.imp (fun z=> aG.seq z) fun z=> aG.tup z
theorem di (hx:x.items=some xs):e8 X (.builtin "len") [x] (.int xs.length):=cS.mono iw fun vs H Q ⟨O,d,r,q⟩=> by
 obtain ⟨v,rfl,h⟩:=cZ r
 obtain ⟨a,ws,rfl,h1,h2⟩:=m_ h hx
 exact ⟨a,ws,rfl,rg h1,by rw [h2.len]; exact q _ H (.refl H) (.int _)⟩
theorem Ak (n:Nat) {x:Str} (h:ps[n]?=some (some (.own xs))) (hg:Gl X "len") (hm:X.mg "len"=none) (hN:X.N[n]?=some x:=by rfl) (hv:Vis X.env.scope x:=by first | exact Or.inl rfl | exact Or.inr (Or.inl rfl) | exact Or.inr (Or.inr rfl)) (hd:(x==("__debug__":Str))=false:=by decide)
  (hcd:(x==("__classdict__":Str))=false:=by decide) {pc p':Pos} (hs:starEach [.Name x p'] X.env=(false,eval (.Name x p') X.env)::starEach [] X.env:=by rfl) (hpl:(backTo pos (starEach [] X.env)).any (·.1)=false:=by rfl):Ev X H0 O0 ps (.Call (.Name "len" pc) [.Name x p'] [] pos) (.int xs.length):=
 PE.mono (oS iw hg hm Dq (eL (iK hN hv hd hcd) g6 hs) (by decide) (by decide) hs hpl) fun σ H Q ⟨O,R,q⟩=> by
  obtain ⟨v,h1,a,vs,rfl,h3,h4,h5,h6⟩:=R.at_ n _ h
  exact ⟨_,h1,a,vs,rfl,.inl (SqL.of h5),by rw [h6.len]; exact q _ H (.refl H) (.int _)⟩
theorem kY:e8 X (.builtin "abs") [.int i] (.int (if i < 0 then -i else i)):=cS.mono v5 fun vs H Q ⟨O,d,r,q⟩=> by
 obtain ⟨v,rfl,h⟩:=cZ r
 cases h
 exact ⟨i,rfl,q _ H (.refl H) (.int _)⟩
theorem rJ (hc:X.calm=true):e8 X (.builtin "max") [.int i,.int j] (.int (if j > i then j else i)):=cS.mono (sV hc) fun vs H Q ⟨O,d,r,q⟩=> by
 obtain ⟨v,w,rfl,h,h2⟩:=h_ r
 cases h; cases h2
 exact ⟨i,j,rfl,q _ H (.refl H) (.int _)⟩
theorem u3 (hc:X.calm=true):e8 X (.builtin "min") [.int i,.int j] (.int (if j < i then j else i)):=cS.mono (tj hc) fun vs H Q ⟨O,d,r,q⟩=> by
 obtain ⟨v,w,rfl,h,h2⟩:=h_ r
 cases h; cases h2
 exact ⟨i,j,rfl,q _ H (.refl H) (.int _)⟩
theorem vO:e8 X (.type "int") [.bl k] (.int (if k then 1 else 0)):=cS.mono qm fun vs H Q ⟨O,d,r,q⟩=> by
 obtain ⟨v,rfl,h⟩:=cZ r
 cases h
 exact ⟨k,rfl,q _ H (.refl H) (.int _)⟩
theorem iO (hx:x.items=some xs):ze X (.type "list") [x] xs:=cS.mono lO fun vs H Q ⟨O,d,r,q⟩=> by
 obtain ⟨v,rfl,h⟩:=cZ r
 obtain ⟨a,ws,rfl,h1,h2⟩:=m_ h hx
 exact ⟨a,ws,rfl,rg h1,fun l hl=> q l ws _ (bu hl _) hl bi (h2.same (cg (bu hl _) hl))⟩
def tyU:U→Value
 | .non=> .type "NoneType" | .bl _=> .type "bool" | .int _=> .type "int" | .str _=> .type "str" | .ty _=> .type "type" | .dic=> .type "dict" | .scr _=> .type "list" | .tup _=> .type "tuple" | .lst _=> .type "list"
theorem aK {n:String} (hn:∀ m,x≠.ty m) (h:E7 X.K (tyU x) (.type n)=some k):e8 X (.builtin "isinstance") [x,.ty (.nm n)] (.bl k):=by
 intro pins s σ H vs us Q I r hq
 obtain ⟨O,d,rs,q⟩:=hq
 obtain ⟨v,w,rfl,h1,h2⟩:=h_ rs
 cases h2
 obtain ⟨p1,p2,rfl,r1,r2⟩:=lv r
 cases (show p2=DO n from r2)
 have fin:∀ tk,EP X pins σ Q (.bool k) { s with toks:=tk }:=fun tk=> ⟨.bl k,H,I.tok _,rfl,q _ H (.refl H) (.bl _)⟩
 cases h1 with
 | non=> exact d4 I r1 .non h fin
 | bl b=> exact d4 I r1 (.bl b) h fin
 | int b=> exact d4 I r1 (.int b) h fin
 | str b=> exact d4 I r1 (.str b) h fin
 | ty m=> exact absurd rfl (hn _)
 | dic e=> exact d4 I r1 (.dK (aG _ _ e)) h fin
 | xc e kk=> exact absurd rfl (hn _)
 | scr e hl hh=>
  cases r1
  obtain ⟨its,_,pl,_⟩:=I.list (aG.seq e)
  obtain ⟨o,nn,e1,e2,_⟩:=pl
  exact DN GK I.kIn ⟨o,e1,e2⟩ h (fun z=> nomatch z) fin
 | lst e hl hh=> exact d4 I r1 (.lst (aG _ _ e)) h fin
 | tup e hl hh=>
  cases r1
  obtain ⟨its,_,pl,_⟩:=I.tuple (aG.tup e)
  obtain ⟨o,e1,e2,_⟩:=pl
  exact DN HC I.kIn ⟨o,e1,e2⟩ h (fun z=> nomatch z) fin
end
end L2
namespace L2
open PySem PySem.Spec PyProof.Rows
inductive Out where
 | val (u:U) | new (xs:List U) | exc (C:Addr)
def om (K:Cn) (H0:Hp) (O0:List Addr) (Q:VK) (E:XK):Out→Prop
 | .val u=> ∀ v H',aQ H0 H'→Rp K (hid H' O0) v u→Q v H'
 | .new xs=> ∀ a vs H',aQ H0 H'→H0 a=none→H' a=some (.lst vs)→Rps K (hid H' (a::O0)) vs xs→Q (.ref a) H'
 | .exc C=> ∀ H',aQ H0 H'→E (.ref C) none H'
theorem om.later {K:Cn} {H0 H1:Hp} {O0:List Addr} {Q:VK} {E:XK} {o:Out} (e:aQ H0 H1) (h:om K H0 O0 Q E o):om K H1 O0 Q E o:=by
 cases o with
 | val u=> exact fun v H' s r=> h v H' (e.trans s) r
 | new xs=> exact fun a vs H' s n q r=> h a vs H' (e.trans s) (e.free n) q r
 | exc C=> exact fun H' s=> h H' (e.trans s)
structure PD where
 nx:PSt→Prop
 rt:Out→Prop
 bk:PSt→Prop:=fun _=> False
 ct:PSt→Prop:=fun _=> False
structure Lf (K:Cn) (H0:Hp) (O0:List Addr) (E:XK) (D:PD) (D':m7):Prop where
 nx:∀ ps σ H O,Rs K H0 O0 ps σ H O→D.nx ps→D'.nx σ H
 bk:∀ ps σ H O,Rs K H0 O0 ps σ H O→D.bk ps→D'.bk σ H
 ct:∀ ps σ H O,Rs K H0 O0 ps σ H O→D.ct ps→D'.ct σ H
 rt:∀ o,D.rt o→om K H0 O0 D'.rt E o
def Ws (X:Cx) (H0:Hp) (O0:List Addr) (E:XK) (ss:List Stmt) (D:PD) (ps:PSt):Prop:=PSs X ss fun D' σ H=> Lf X.K H0 O0 E D D'∧∃ O,Rs X.K H0 O0 ps σ H O
def W1 (X:Cx) (H0:Hp) (O0:List Addr) (E:XK) (s:Stmt) (D:PD) (ps:PSt):Prop:=PS X s fun D' σ H=> Lf X.K H0 O0 E D D'∧∃ O,Rs X.K H0 O0 ps σ H O
section
variable {X:Cx} {H0:Hp} {O0:List Addr} {E:XK} {ps ps':PSt} {D:PD} {s:Stmt} {ss body:List Stmt} {a b c e:Expr} {es:List Expr} {pos p:Pos} {u x y:U} {xs ys us:List U} {k:Bool}
theorem aJ (h:D.nx ps):Ws X H0 O0 E [] D ps:=PSs.mono xL fun D' σ H ⟨L,O,R⟩=> L.nx ps σ H O R h
theorem ae (h:W1 X H0 O0 E s { D with nx:=fun p=> Ws X H0 O0 E ss D p } ps):Ws X H0 O0 E (s::ss) D ps:=by
 have h2:PSs X ss fun D' σ H=> ∃ p,Ws X H0 O0 E ss D p∧Lf X.K H0 O0 E D D'∧∃ O,Rs X.K H0 O0 p σ H O:=fun pins s σ H D' I ⟨p,w,l,r⟩=> w pins s σ H D' I ⟨l,r⟩
 exact PSs.mono (uO h h2) fun D' σ H ⟨L,O,R⟩=> ⟨⟨fun p σ H O R q=> ⟨p,q,L,O,R⟩,L.bk,L.ct,L.rt⟩,O,R⟩
theorem dW (h:Ws X H0 O0 E ss D ps') (hs:SubP ps' ps):Ws X H0 O0 E ss D ps:=PSs.mono h fun D' σ H ⟨L,O,R⟩=> ⟨L,O,R.sub hs⟩
theorem ay {i:Nat} {x:Str} {pos':Pos} (hN:X.N.Nodup) (hi:X.N[i]?=some x) (hx:Loc X.env.scope x) (he:Ev X H0 O0 ps e u) (h:D.nx (ps.set i (some (.val u)))) (hs:swapsWith e (some (.Name x pos')) pos.line X.env=pure false:=by rfl) (hf:X.fn x=true∨X.env.scope.names.lookup x=some .local:=by first | exact .inl rfl | exact .inr rfl | assumption):
  W1 X H0 O0 E (.Assign [.Name x pos'] e pos) D ps:=PS.mono (ux hN hi hx he hs hf) fun D' σ H ⟨L,O,R⟩=> ⟨O,R,fun v H' s r=> L.nx _ _ _ O ((R.go s).set r) h⟩
theorem ko {i:Nat} {x:Str} {pos':Pos} (hN:X.N.Nodup) (hi:X.N[i]?=some x) (hx:Loc X.env.scope x) (he:EvN X H0 O0 ps e xs) (h:D.nx (ps.set i (some (.own xs)))) (hs:swapsWith e (some (.Name x pos')) pos.line X.env=pure false:=by rfl) (hf:X.fn x=true∨X.env.scope.names.lookup x=some .local:=by first | exact .inl rfl | exact .inr rfl | assumption):
  W1 X H0 O0 E (.Assign [.Name x pos'] e pos) D ps:=PS.mono (ux hN hi hx he hs hf) fun D' σ H ⟨L,O,R⟩=> ⟨O,R,fun a vs H' s n q r=> L.nx _ _ _ _ (R.own s n q r) h⟩
theorem fc {tb fb:List Stmt} (hc:Tt X H0 O0 ps c k) (h1:k=true→Ws X H0 O0 E tb D ps) (h2:k=false→Ws X H0 O0 E fb D ps):W1 X H0 O0 E (.If c tb fb pos) D ps:=by
 cases k with
 | true=> exact PS.mono (zy hc (h1 rfl) (fun _ _ _ _ _ _ h=> h.elim) (u:=fun _ _ _=> False)) fun D' σ H ⟨L,O,R⟩=> ⟨O,R,fun H' s=> p6 ⟨L,O,R.go s⟩⟩
 | false=> exact PS.mono (zy hc (fun _ _ _ _ _ _ h=> h.elim) (h2 rfl) (t:=fun _ _ _=> False)) fun D' σ H ⟨L,O,R⟩=> ⟨O,R,fun H' s=> pS ⟨L,O,R.go s⟩⟩
theorem Rs.ret {K:Cn} {σ:St} {H:Hp} {O:List Addr} {v:V} (R:Rs K H0 O0 ps σ H O) (r:Rp K (hid H O) v u):Rp K (hid H O0) v u:=r.same (eo R.old)
theorem aI (he:Ev X H0 O0 ps e u) (h:D.rt (.val u)):W1 X H0 O0 E (.Return (some e) pos) D ps:=
 PS.mono (pj he) fun D' σ H ⟨L,O,R⟩=> ⟨O,R,fun v H' s r=> L.rt _ h v H' (R.same.trans s) ((R.go s).ret r)⟩
theorem gU (he:EvN X H0 O0 ps e xs) (h:D.rt (.new xs)):W1 X H0 O0 E (.Return (some e) pos) D ps:=
 PS.mono (pj he) fun D' σ H ⟨L,O,R⟩=> ⟨O,R,fun a vs H' s n q r=> L.rt _ h a vs H' (R.same.trans s) (R.same.free n) q (r.same (eo fun b hb=> by
  rcases Cu.mp hb with y | y
  ·subst y; exact Cy
  ·exact Cp _ (R.old b y)))⟩
theorem jB (i:Nat) {x:Str} (hp:ps[i]?=some (some (.own xs))) (h:D.rt (.new xs)) (hN:X.N[i]?=some x:=by rfl) (hv:Vis X.env.scope x:=by first | exact Or.inl rfl | exact Or.inr (Or.inl rfl) | exact Or.inr (Or.inr rfl)) (hd:(x==("__debug__":Str))=false:=by decide)
  (hcd:(x==("__classdict__":Str))=false:=by decide):W1 X H0 O0 E (.Return (some (.Name x p)) pos) D ps:=
 PS.mono (pj (iK hN hv hd hcd)) fun D' σ H ⟨L,O,R⟩=> by
  obtain ⟨v,h1,a,vs,rfl,h3,h4,h5,h6⟩:=R.at_ i _ hp
  refine ⟨_,h1,L.rt _ h a vs H R.same ((R.new a h3).resolve_left h4) h5 (h6.same (eo fun b hb=> ?_))⟩
  rcases Cu.mp hb with y | y
  ·subst y; exact h3
  ·exact R.old b y
theorem AX (he:Ev X H0 O0 ps e u) (h:D.nx ps) (hs:swapsWith e none pos.line X.env=pure false:=by rfl):W1 X H0 O0 E (.Expr e pos) D ps:=
 PS.mono (jo he hs) fun D' σ H ⟨L,O,R⟩=> ⟨O,R,fun v H' s r=> L.nx _ _ _ O (R.go s) h⟩
theorem Bd {i:Nat} {x:Str} {op:Operator} {pos':Pos} {n m:Int} {g:Int→Int→Int} (ho:PIp X op (ipI g)) (hN:X.N.Nodup) (hi:X.N[i]?=some x) (hx:Loc X.env.scope x) (hp:ps[i]?=some (some (.val (.int n)))) (he:Ev X H0 O0 ps e (.int m)) (h:D.nx (ps.set i (some (.val (.int (g n m))))))
  (hf:X.fn x=true∨X.env.scope.names.lookup x=some .local:=by first | exact .inl rfl | exact .inr rfl | assumption):W1 X H0 O0 E (.AugAssign (.Name x pos') op e pos) D ps:=
 PS.mono (zT hN hi hx he ho hf) fun D' σ H ⟨L,O,R⟩=> by
  obtain ⟨v,h1,h2⟩:=R.at_ i _ hp
  cases h2
  refine ⟨_,h1,O,R,fun v H' s r=> ?_⟩
  cases r
  exact ⟨n,m,rfl,rfl,L.nx _ _ _ O ((R.go s).set (.int _)) h⟩
theorem fg (i:Nat) {x:Str} {apos cpos xp:Pos} (hp:ps[i]?=some (some (.own xs))) (ha:Ev X H0 O0 ps e u) (hz:xs.length < sizeLine) (h:D.nx (ps.set i (some (.own (xs++[u])))))
  (hN:X.N[i]?=some x:=by rfl) (hv:Vis X.env.scope x:=by first | exact Or.inl rfl | exact Or.inr (Or.inl rfl) | exact Or.inr (Or.inr rfl)) (hd:(x==("__debug__":Str))=false:=by decide) (hcd:(x==("__classdict__":Str))=false:=by decide)
  (hbase:attributeBase (.Name x xp) "append" X.env (eval (.Name x xp) X.env)=eval (.Name x xp) X.env:=by rfl)
  (hfew:((backTo cpos (starEach [e] X.env)).all (fun x=> !x.1) && (backToKw cpos (keywordEach [] X.env)).all (fun x=> x.1.isSome) && decide ([e].length+([]:List Keyword).length+(if ([]:List Keyword).isEmpty then 0 else 1) < 30))=true:=by rfl)
  (hline:(apos.endLine==cpos.line)=true:=by rfl) (hse:starEach [e] X.env=(false,eval e X.env)::starEach [] X.env:=by rfl) (hplain:(backTo cpos (starEach [] X.env)).any (·.1)=false:=by rfl)
  (hs:swapsWith (.Call (.Attribute (.Name x xp) "append" apos) [e] [] cpos) none pos.line X.env=pure false:=by rfl):W1 X H0 O0 E (.Expr (.Call (.Attribute (.Name x xp) "append" apos) [e] [] cpos) pos) D ps:=
 PS.mono (jo (By GT PySem.F.slot_list_append PySem.F.type_list_append iQ (iK hN hv hd hcd) (eL ha g6 hse) hbase hfew hline hse hplain) hs) fun D' σ H ⟨L,O,R⟩=> by
  obtain ⟨v,h1,a,vs,rfl,h3,h4,h5,h6⟩:=R.at_ i _ hp
  refine ⟨_,h1,.inl ⟨rfl,_,SqL.of h5⟩,O,R,fun w H' s r=> ⟨a,vs,w,rfl,rfl,s _ _ h5,by rw [h6.len]; exact hz,?_⟩⟩
  exact L.nx _ _ _ O ((R.go s).write hp h1 ((h6.same (bL s)).snoc (.cons r .nil))) h
theorem zx (i:Nat) {x:Str} {apos cpos xp:Pos} (hp:ps[i]?=some (some (.own xs))) (hne:xs≠[]) (h:D.nx (ps.set i (some (.own xs.dropLast))))
  (hN:X.N[i]?=some x:=by rfl) (hv:Vis X.env.scope x:=by first | exact Or.inl rfl | exact Or.inr (Or.inl rfl) | exact Or.inr (Or.inr rfl)) (hd:(x==("__debug__":Str))=false:=by decide) (hcd:(x==("__classdict__":Str))=false:=by decide)
  (hbase:attributeBase (.Name x xp) "pop" X.env (eval (.Name x xp) X.env)=eval (.Name x xp) X.env:=by rfl)
  (hline:(apos.endLine==cpos.line)=true:=by rfl)
  (hs:swapsWith (.Call (.Attribute (.Name x xp) "pop" apos) [] [] cpos) none pos.line X.env=pure false:=by rfl):W1 X H0 O0 E (.Expr (.Call (.Attribute (.Name x xp) "pop" apos) [] [] cpos) pos) D ps:=
 PS.mono (jo (zK GT PySem.F.slot_list_pop PySem.F.type_list_pop AC (iK hN hv hd hcd) hbase hline) hs) fun D' σ H ⟨L,O,R⟩=> by
  obtain ⟨v,h1,a,vs,rfl,h3,h4,h5,h6⟩:=R.at_ i _ hp
  have hpos:0 < vs.length:=by rw [h6.len]; exact DM.mpr hne
  have hlt:vs.length - 1 < vs.length:=by omega
  refine ⟨_,h1,.inl ⟨rfl,_,SqL.of h5⟩,a,vs,vs[vs.length - 1],rfl,rfl,h5,Cm hlt,?_⟩
  refine L.nx _ _ _ O (R.write hp h1 ⟨by simp [h6.len],fun j v x e1 e2=> ?_⟩) h
  rw [E_] at e1 e2
  split at e1
  ·split at e2
   ·exact h6.at_ j v x e1 e2
   ·cases e2
  ·cases e1
end
end L2
namespace L2
open PySem PySem.Spec PyProof.Rows
def kw:List Nat→TGs
 | []=> Bk
 | j::js=> y6 (kW j) (kw js)
def setAll:PSt→List Nat→List U→PSt
 | ps,j::js,u::us=> setAll (ps.set j (some (.val u))) js us
 | ps,_,_=> ps
def jg:St→List Nat→List V→St
 | σ,j::js,u::us=> jg (σ.set j (some u)) js us
 | σ,_,_=> σ
theorem Rs.setAll {K:Cn} {H0:Hp} {O0:List Addr} {H:Hp} {O:List Addr}:∀ {js:List Nat} {ps:PSt} {σ:St} {vs:List V} {us:List U},Rs K H0 O0 ps σ H O→Rps K (hid H O) vs us→Rs K H0 O0 (L2.setAll ps js us) (jg σ js vs) H O
 | [],ps,σ,vs,us,R,r=> by cases us <;> cases vs <;> exact R
 | j::js,ps,σ,vs,[],R,r=> by rw [r.nil_inv]; exact R
 | j::js,ps,σ,vs,u::us,R,r=> by
  obtain ⟨v,ws,rfl,h1,h2⟩:=r.cons_inv
  exact Rs.setAll (js:=js) (R.set h1) h2
theorem e9 {Q:St→Hp→Prop} {H:Hp}:∀ {js:List Nat} {σ:St} {vs:List V},vs.length=js.length→Q (jg σ js vs) H→kw js vs σ H Q
 | [],σ,[],_,q=> ⟨rfl,q⟩
 | j::js,σ,v::vs,e,q=> ⟨v,vs,rfl,e9 (js:=js) (by simpa using e) q⟩
 | [],_,_::_,e,_=> by simp at e
 | _::_,_,[],e,_=> by simp at e
def TgS (X:Cx) (H0:Hp) (O0:List Addr) (tg:Expr) (ps:PSt) (u:U) (ps':PSt):Prop:=
 PG X tg fun v σ H Q=> ∃ O,Rs X.K H0 O0 ps σ H O∧Rp X.K (hid H O) v u∧∀ σ' H',aQ H H'→Rs X.K H0 O0 ps' σ' H' O→Q σ' H'
theorem PG.mono {X:Cx} {e:Expr} {t t':TG} (h:PG X e t) (m:∀ v σ H Q,t' v σ H Q→t v σ H Q):PG X e t':=fun pins s σ H v u Q I r q=> h pins s σ H v u Q I r (m v σ H Q q)
theorem PI.mono {X:Cx} {tg e:Expr} {t t':TI} (h:PI X tg e t) (m:∀ σ H Q,t' σ H Q→t σ H Q):PI X tg e t':=fun pins s σ H Q I q=> h pins s σ H Q I (m σ H Q q)
def Yl (K:Cn) (J:It) (G:Hp) (xs:List U):Prop:=
 ∀ H2,aQ G H2→(∀ i,i < xs.length→J.go i H2∧∀ x H3,J.yld i H2 x H3→H3=H2∧∃ u,xs[i]?=some u∧Rp K G x u)∧J.stop xs.length H2
def EvI (X:Cx) (H0:Hp) (O0:List Addr) (ps:PSt) (tg iter:Expr) (xs:List U):Prop:=
 PI X tg iter fun σ H R=> ∃ O,Rs X.K H0 O0 ps σ H O∧∀ J H',aQ H H'→Yl X.K J (hid H' O) xs→R J H'
section
variable {X:Cx} {H0:Hp} {O0:List Addr} {E:XK} {ps ps':PSt} {D:PD} {s:Stmt} {ss body:List Stmt} {a b c e tg iter:Expr} {es:List Expr} {pos p:Pos} {u x y:U} {xs ys us:List U} {k:Bool}
theorem j6 {i:Nat} {x:Str} (hN:X.N.Nodup) (hi:X.N[i]?=some x) (hx:Loc X.env.scope x) (hf:X.fn x=true∨X.env.scope.names.lookup x=some .local:=by first | exact .inl rfl | exact .inr rfl | assumption):TgS X H0 O0 (.Name x pos) ps u (ps.set i (some (.val u))):=
 PG.mono (aT hN hi hx hf) fun v σ H Q ⟨O,R,r,q⟩=> q _ H (.refl H) (R.set r)
theorem y_ {k:Nat} (js:List Nat) (hc:X.calm=true) (h:PGs X es (kw js)) (hl:us.length=js.length) (hn:(assignEach es X.env).length=js.length:=by rfl) (hst:(assignEach es X.env).findIdx? (·.1)=none:=by rfl):TgS X H0 O0 (.Tuple es k pos) ps (.tup us) (setAll ps js us):=
 PG.mono (eQ hc h hn hst) fun v σ H Q ⟨O,R,r,q⟩=> by
  cases r with
  | tup hq hl' hh=> exact ⟨_,_,rfl,aG.tup hq,hl'.trans hl,e9 (hl'.trans hl) (q _ H (.refl H) (R.setAll ⟨hl',hh⟩))⟩
theorem Bq {k:Nat} (js:List Nat) (hc:X.calm=true) (h:PGs X es (kw js)) (hx:x=.lst us∨x=.scr us) (hl:us.length=js.length) (hn:(assignEach es X.env).length=js.length:=by rfl) (hst:(assignEach es X.env).findIdx? (·.1)=none:=by rfl):TgS X H0 O0 (.Tuple es k pos) ps x (setAll ps js us):=
 PG.mono (AV hc h hn hst) fun v σ H Q ⟨O,R,r,q⟩=> by
  rcases hx with rfl | rfl
  ·cases r with
   | lst hq hl' hh=> exact ⟨_,_,rfl,aG.seq (SqL.of hq),hl'.trans hl,e9 (hl'.trans hl) (q _ H (.refl H) (R.setAll ⟨hl',hh⟩))⟩
  ·cases r with
   | scr hq hl' hh=> exact ⟨_,_,rfl,aG.seq hq,hl'.trans hl,e9 (hl'.trans hl) (q _ H (.refl H) (R.setAll ⟨hl',hh⟩))⟩
theorem wt (he:Ev X H0 O0 ps e u) (hg:TgS X H0 O0 tg ps u ps') (h:D.nx ps') (hs:swapsWithSole [tg] e pos.line X.env=pure false:=by rfl) (hw:swappedStores [tg] e X.env=pure none:=by rfl)
  (h1:(assignEach [tg] X.env).map (·.2)=[assign tg X.env]:=by rfl):W1 X H0 O0 E (.Assign [tg] e pos) D ps:=
 PS.mono (zS he hg hs hw h1) fun D' σ H ⟨L,O,R⟩=> ⟨O,R,fun v H1 s1 r1=> ⟨O,R.go s1,r1,fun σ' H2 s2 R2=> L.nx _ _ _ O R2 h⟩⟩
theorem A1 {i j:Nat} {x y:Str} {px py pt:Pos} {kt k2 pt2} {u w:U} (hc:X.calm=true) (hN:X.N.Nodup) (hi:X.N[i]?=some x) (hj:X.N[j]?=some y) (hij:i≠j)
  (hx:X.env.scope.names.lookup x=some .local) (hy:X.env.scope.names.lookup y=some .local) (ha:EvA X H0 O0 ps [a,b] [u,w])
  (hw:swappedStores [.Tuple [.Name x px,.Name y py] kt pt] (.Tuple [a,b] k2 pt2) X.env=pure (some [x,y])) (h:D.nx ((ps.set i (some (.val u))).set j (some (.val w))))
  (hs:swapsWithSole [.Tuple [.Name x px,.Name y py] kt pt] (.Tuple [a,b] k2 pt2) pos.line X.env=pure false:=by rfl):
  W1 X H0 O0 E (.Assign [.Tuple [.Name x px,.Name y py] kt pt] (.Tuple [a,b] k2 pt2) pos) D ps:=
 PS.mono (AY hc hN hi hj hij hx hy ha hw hs) fun D' σ H ⟨L,O,R⟩=> ⟨O,R,fun vs H1 s1 r1=> by
  obtain ⟨v,z,rfl,h1,h2⟩:=h_ r1
  exact ⟨v,z,rfl,L.nx _ _ _ O (((R.go s1).set h1).set h2) h⟩⟩
theorem cY (he:Ev X H0 O0 ps iter x) (hx:x=.lst xs∨x=.scr xs):EvI X H0 O0 ps tg iter xs:=
 PI.mono (xY he) fun σ H Q ⟨O,R,q⟩=> ⟨O,R,fun v H' s r=> by
  have key:∃ a vs,v=.ref a∧SqL X.K (hid H' O) a vs∧Rps X.K (hid H' O) vs xs:=by
   rcases hx with rfl | rfl
   ·cases r with
    | lst hq hl hh=> exact ⟨_,_,rfl,SqL.of hq,hl,hh⟩
   ·cases r with
    | scr hq hl hh=> exact ⟨_,_,rfl,hq,hl,hh⟩
  obtain ⟨a,vs,rfl,hq,rs⟩:=key
  refine ⟨a,rfl,⟨vs,aG.seq hq⟩,q _ H' s fun H2 s2=> ⟨fun i hi=> ?_,⟨vs,s2.seq hq,by rw [rs.len]; exact Cv _⟩⟩⟩
  have hi':i < vs.length:=by rw [rs.len]; exact hi
  refine ⟨⟨vs,vs[i],s2.seq hq,Cm hi'⟩,fun z H3 y=> ⟨y.1,xs[i],Cm hi,rs.at_ i z _ (y.2 vs (s2.seq hq)) (Cm hi)⟩⟩⟩
theorem Bh (he:Ev X H0 O0 ps iter (.tup xs)):EvI X H0 O0 ps tg iter xs:=
 PI.mono (AR he) fun σ H Q ⟨O,R,q⟩=> ⟨O,R,fun v H' s r=> by
  cases r with
  | @tup a vs _ hq hl hh=>
   have rs:Rps X.K (hid H' O) vs xs:=⟨hl,hh⟩
   refine ⟨a,rfl,⟨vs,aG.tup hq⟩,q _ H' s fun H2 s2=> ⟨fun i hi=> ?_,⟨vs,s2.tup hq,by rw [rs.len]; exact Cv _⟩⟩⟩
   have hi':i < vs.length:=by rw [rs.len]; exact hi
   refine ⟨⟨vs,vs[i],s2.tup hq,Cm hi'⟩,fun z H3 y=> ⟨y.1,xs[i],Cm hi,rs.at_ i z _ (y.2 vs (s2.tup hq)) (Cm hi)⟩⟩⟩
def gR (lo:Int) (n:Nat):List U:=(Df n).map fun (i:Nat)=> U.int (lo+(i:Int))
theorem fm {lo:Int} {n:Nat}:(gR lo n).length=n:=by simp [gR]
theorem kU {lo:Int} {n i:Nat} (h:i < n):(gR lo n)[i]?=some (.int (lo+(i:Int))):=by
 unfold gR
 rw [Ct,EH h]; rfl
theorem jy {lo:Int} {n i:Nat} {x:U} (h:(gR lo n)[i]?=some x):i < n∧x=.int (lo+(i:Int)):=by
 have hi:=aL h
 rw [fm] at hi
 rw [kU hi] at h
 exact ⟨hi,(Dg h).symm⟩
theorem wS {K:Cn} {G:Hp} {lo:Int} {n:Nat}:Yl K (Itr lo n) G (gR lo n):=fun H2 s2=> by
 rw [fm]
 refine ⟨fun i hi=> ⟨hi,fun z H3 y=> ⟨y.1,_,kU hi,?_⟩⟩,Cv _⟩
 rw [y.2]; exact .int _
theorem ou {j:Int} (hg:Gl X "range") (hm:X.mg "range"=none) (ha:EvA X H0 O0 ps [a] [.int j]) (h1:-(2 ^ 62)≤j) (h2:j < 2 ^ 62) (hs:starEach [a] X.env=[(false,eval a X.env)]:=by rfl):EvI X H0 O0 ps tg (.Call (.Name "range" p) [a] [] pos) (gR 0 j.toNat):=
 PI.mono (tX hg hm ha hs) fun σ H Q ⟨O,R,q⟩=> ⟨O,R,fun vs H' s r=> by
  obtain ⟨v,rfl,h⟩:=cZ r
  cases h
  exact ⟨j,rfl,h1,h2,q _ H' s wS⟩⟩
def gu (lo c:Int) (n:Nat):List U:=(Df n).map fun (i:Nat)=> U.int (lo+(i:Int) * c)
theorem fV {lo c:Int} {n:Nat}:(gu lo c n).length=n:=by simp [gu]
theorem jY {lo c:Int} {n i:Nat} (h:i < n):(gu lo c n)[i]?=some (.int (lo+(i:Int) * c)):=by
 unfold gu
 rw [Ct,EH h]; rfl
theorem o4 {lo c:Int} {n i:Nat} {x:U} (h:(gu lo c n)[i]?=some x):i < n∧x=.int (lo+(i:Int) * c):=by
 have hi:=aL h
 rw [fV] at hi
 rw [jY hi] at h
 exact ⟨hi,(Dg h).symm⟩
theorem uA {i j m:Int} (hg:Gl X "range") (hm:X.mg "range"=none) (ha:EvA X H0 O0 ps [a,b,c] [.int i,.int j,.int m]) (h:-(2 ^ 60)≤i∧i < 2 ^ 60∧-(2 ^ 60)≤j∧j < 2 ^ 60∧0 < m∧m < 2 ^ 30) (hs:starEach [a,b,c] X.env=[(false,eval a X.env),(false,eval b X.env),(false,eval c X.env)]:=by rfl)
  (hs2:starEach [b,c] X.env=[(false,eval b X.env),(false,eval c X.env)]:=by rfl):
  EvI X H0 O0 ps tg (.Call (.Name "range" p) [a,b,c] [] pos) (gu i m (fU i j m)):=
 PI.mono (sM hg hm ha hs hs2) fun σ H Q ⟨O,R,q⟩=> ⟨O,R,fun vs H' s r=> by
  obtain ⟨v,ws,rfl,k1,k2⟩:=r.cons_inv
  obtain ⟨w,z,rfl,k2,k3⟩:=h_ k2
  cases k1; cases k2; cases k3
  refine ⟨i,j,m,rfl,h,q _ H' s fun H2 s2=> ?_⟩
  rw [fV]
  refine ⟨fun i hi=> ⟨hi,fun z H3 y=> ⟨y.1,_,jY hi,?_⟩⟩,Cv _⟩
  rw [y.2]; exact .int _⟩
theorem Rs.rebase {K:Cn} {σ:St} {H:Hp} {O:List Addr} (R:Rs K H0 O0 ps σ H O):Rs K (hid H (O.filter fun a=> decide (a ∉ O0))) O0 ps σ H O:=
 ⟨aG,R.old,fun a ha=> by
  by_cases h:a∈O0
  ·exact .inl h
  ·right; unfold hid; rw [if_pos (CY.mpr ⟨ha,by simpa using h⟩)],R.dom,R.len,R.at_,R.inj⟩
theorem Rs.base {K:Cn} {σ:St} {H:Hp} {O:List Addr} (R:Rs K H0 O0 ps σ H O):aQ H0 (hid H (O.filter fun a=> decide (a ∉ O0))):=fun b o h=> by
 refine dN (R.same b o h) fun z=> ?_
 obtain ⟨z1,z2⟩:=CY.mp z
 rcases R.new b z1 with y | y
 ·simp [y] at z2
 ·rw [h] at y; cases y
theorem Rs.unbase {K:Cn} {H1:Hp} {σ:St} {H:Hp} {O:List Addr} (e:aQ H0 H1) (R:Rs K H1 O0 ps σ H O):Rs K H0 O0 ps σ H O:=
 ⟨e.trans R.same,R.old,fun a ha=> (R.new a ha).imp id fun z=> e.free z,R.dom,R.len,R.at_,R.inj⟩
theorem Rs.seen {K:Cn} {ps2:PSt} {σ σ2:St} {H H2:Hp} {O O2:List Addr} (R:Rs K H0 O0 ps σ H O) (R2:Rs K (hid H (O.filter fun a=> decide (a ∉ O0))) O0 ps2 σ2 H2 O2):aQ (hid H O) (hid H2 O2):=fun b o h=> by
 obtain ⟨h1,h2⟩:=gN h
 have h3:hid H (O.filter fun a=> decide (a ∉ O0)) b=some o:=dN h1 fun z=> h2 (CY.mp z).1
 refine dN (R2.same b o h3) fun z=> ?_
 rcases R2.new b z with y | y
 ·exact h2 (R.old b y)
 ·rw [h3] at y; cases y
theorem Ba (hc:X.calm=true) (hp:PassesOwn (model X.prog X.w) X.A X.env X.xe) (hi:EvI X H0 O0 ps tg iter xs) (Iv:Nat→PSt→Prop) (h0:Iv 0 ps)
  (hs:∀ (H0:Hp) (i:Nat) (x:U) (ps:PSt),xs[i]?=some x→Iv i ps→∃ ps',TgS X H0 O0 tg ps x ps'∧Ws X H0 O0 E body { D with nx:=Iv (i+1),ct:=Iv (i+1),bk:=D.nx } ps') (hd:∀ ps,Iv xs.length ps→D.nx ps)
  (hf:∀ x,foldedSetIterable iter X.env x=pure x:=by intro _; rfl):W1 X H0 O0 E (.For tg iter body [] pos) D ps:=by
 have hg:PG X tg fun v σ H Q=> ∃ H1 ps u ps',TgS X H1 O0 tg ps u ps'∧∃ O,Rs X.K H1 O0 ps σ H O∧Rp X.K (hid H O) v u∧∀ σ' H',aQ H H'→Rs X.K H1 O0 ps' σ' H' O→Q σ' H':=
  fun pins s σ H v u Q I r ⟨H1,ps,w,ps',t,z⟩=> t pins s σ H v u Q I r z
 have hb:PSs X body fun D' σ H=> ∃ H1 D1 ps',Ws X H1 O0 E body D1 ps'∧Lf X.K H1 O0 E D1 D'∧∃ O,Rs X.K H1 O0 ps' σ H O:=fun pins s σ H D' I ⟨H1,D1,ps',w,z⟩=> w pins s σ H D' I z
 refine PS.mono (As hp hc hi hg hb hf) fun D' σ H ⟨L,O,R⟩=> ⟨O,R,fun J H1 s1 Y=> ?_⟩
 have R1:=R.go s1
 have base:=R1.base
 refine ⟨fun i m σ H=> m=xs.length - i∧i≤xs.length∧∃ ps O',Iv i ps∧Rs X.K (hid H1 (O.filter fun a=> decide (a ∉ O0))) O0 ps σ H O',⟨_,rfl,DG _,ps,O,h0,R1.rebase⟩,?_⟩
 rintro i m σ2 H2 ⟨rfl,hi2,ps2,O2,iv,R2⟩
 have seen:=R1.seen R2
 obtain ⟨y1,y2⟩:=Y H2 (seen.trans aG)
 by_cases hlt:i < xs.length
 ·obtain ⟨g1,g2⟩:=y1 i hlt
  refine .inr ⟨g1,fun σ' H'=> ∃ ps O',Iv (i+1) ps∧Rs X.K (hid H1 (O.filter fun a=> decide (a ∉ O0))) O0 ps σ' H' O',fun σ' H' z=> ⟨xs.length - (i+1),by omega,rfl,hlt,z⟩,fun x H3 y=> ?_⟩
  obtain ⟨rfl,u,hu,r⟩:=g2 x H3 y
  obtain ⟨ps',t,w⟩:=hs (hid H1 (O.filter fun a=> decide (a ∉ O0))) i u ps2 hu iv
  refine ⟨_,ps2,u,ps',t,O2,R2,r.same seen,fun σ' H' s' R'=> ⟨_,_,ps',w,?_,O2,R'⟩⟩
  exact ⟨fun p σ H O R q=> ⟨p,O,q,R⟩,fun p σ H O R q=> L.nx _ _ _ _ (R.unbase base) q,fun p σ H O R q=> ⟨p,O,q,R⟩,fun o q=> (L.rt o q).later base⟩
 ·have e:i=xs.length:=by omega
  subst e
  exact .inl ⟨y2,L.nx _ _ _ _ (R2.unbase base) (hd ps2 iv)⟩
theorem xt (hp:PassesOwn (model X.prog X.w) X.A X.env X.xe) (Iv:Nat→PSt→Prop) (m:Nat) (h0:Iv m ps)
  (hs:∀ m ps,Iv m ps→∃ b,Tt X H0 O0 ps c b∧(b=true→Ws X H0 O0 E body { D with nx:=fun p=> ∃ m',m' < m∧Iv m' p,ct:=fun p=> ∃ m',m' < m∧Iv m' p,bk:=D.nx } ps)∧(b=false→D.nx ps)):W1 X H0 O0 E (.While c body [] pos) D ps:=by
 have ht:PT X c fun σ H Q=> ∃ ps b,Tt X H0 O0 ps c b∧∃ O,Rs X.K H0 O0 ps σ H O∧∀ H',aQ H H'→Q b H':=fun pins s σ H Q I ⟨ps,b,t,z⟩=> t pins s σ H Q I z
 have hb:PSs X body fun D' σ H=> ∃ D1 ps',Ws X H0 O0 E body D1 ps'∧Lf X.K H0 O0 E D1 D'∧∃ O,Rs X.K H0 O0 ps' σ H O:=fun pins s σ H D' I ⟨D1,ps',w,z⟩=> w pins s σ H D' I z
 refine PS.mono (vF hp ht hb) fun D' σ H ⟨L,O,R⟩=> ⟨fun m σ H=> ∃ ps O,Iv m ps∧Rs X.K H0 O0 ps σ H O,⟨m,ps,O,h0,R⟩,?_⟩
 rintro m σ2 H2 ⟨ps2,O2,iv,R2⟩
 obtain ⟨b,t,h1,h2⟩:=hs m ps2 iv
 refine ⟨ps2,b,t,O2,R2,fun H3 s3=> ?_⟩
 cases b with
 | true=>
  refine p6 ⟨fun σ H=> ∃ m',m' < m∧∃ ps O,Iv m' ps∧Rs X.K H0 O0 ps σ H O,fun σ' H' z=> z,_,ps2,h1 rfl,?_,O2,R2.go s3⟩
  exact ⟨fun p σ H O R ⟨m',l,q⟩=> ⟨m',l,p,O,q,R⟩,fun p σ H O R q=> L.nx _ _ _ _ R q,fun p σ H O R ⟨m',l,q⟩=> ⟨m',l,p,O,q,R⟩,L.rt⟩
 | false=> exact pS (L.nx _ _ _ _ (R2.go s3) (h2 rfl))
def eX:List Nat→PSt→PSt
 | [],ps=> ps
 | i::is,ps=> eX is (ps.set i none)
theorem Rs.mask {K:Cn} {H:Hp} {O:List Addr}:∀ {is:List Nat} {ps:PSt} {σ:St},Rs K H0 O0 ps σ H O→Rs K H0 O0 (eX is ps) (L2.mask is σ) H O
 | [],ps,σ,R=> R
 | i::is,ps,σ,R=> Rs.mask (is:=is) (R.drop (i:=i) (o:=none))
theorem Rs.hide {K:Cn} {σ:St} {H H':Hp} {O:List Addr} {l:Addr} (R:Rs K H0 O0 ps σ H O) (e:aQ H H') (n:H l=none) (d:H' l≠none):Rs K H0 O0 ps σ H' (l::O):=by
 refine ⟨R.same.trans e,fun a ha=> Cp _ (R.old a ha),fun a ha=> ?_,fun a ha z=> ?_,R.len,fun i s h=> ?_,R.inj⟩
 ·rcases Cu.mp ha with y | y
  ·subst y; exact .inr (R.same.free n)
  ·exact R.new a y
 ·rcases Cu.mp ha with y | y
  ·subst y; exact d z
  ·exact R.dom a y (e.free z)
 ·obtain ⟨w,h1,h2⟩:=R.at_ i s h
  refine ⟨w,h1,?_⟩
  cases s with
  | val u=> exact Rp.same (cg e n) h2
  | own ys=>
   obtain ⟨b,ws,k1,k2,k3,k4,k5⟩:=h2
   exact ⟨b,ws,k1,Cp _ k2,k3,e _ _ k4,k5.same (cg e n)⟩
theorem nL {js is:List Nat}:∀ {σ:St} {vs:List V},(∀ j∈js,j∈is)→∀ (n:Nat) (v:V),n ∉ is→σ[n]?=some (some v)→(jg σ js vs)[n]?=some (some v):=by
 induction js with
 | nil=> intro σ vs _ n v _ h; cases vs <;> exact h
 | cons j js ih=>
  intro σ vs hj n v hn h
  cases vs with
  | nil=> exact h
  | cons w ws=> exact ih (fun z hz=> hj z (Cp _ hz)) n v hn (by rw [C3 (fun z=> hn (by rw [← z]; exact hj j Cy))]; exact h)
def GOk (g:TG) (K:Cn) (is:List Nat) (f:PSt→U→PSt) (dom:U→Prop):Prop:=
 ∀ (H0:Hp) (O0:List Addr) (ps:PSt) (σ:St) (H:Hp) (O:List Addr) (v:V) (u:U) (Q:St→Hp→Prop),dom u→Rs K H0 O0 ps σ H O→Rp K (hid H O) v u→
  (∀ σ',Rs K H0 O0 (f ps u) σ' H O→(∀ (n:Nat) (w:V),n ∉ is→σ[n]?=some (some w)→σ'[n]?=some (some w))→Q σ' H)→g v σ H Q
theorem h9 {K:Cn} {is:List Nat} {i:Nat} (h:i∈is):GOk (kW i) K is (fun ps u=> ps.set i (some (.val u))) fun _=> True:=fun H0 O0 ps σ H O v u Q _ R r q=>
 q _ (R.set r) fun n w hn e=> by rw [C3 (fun z=> hn (by rw [← z]; exact h))]; exact e
theorem dY {K:Cn} {is js:List Nat} (h:∀ j∈js,j∈is):GOk (AZ K js.length (kw js)) K is (fun ps u=> match u with | .tup us=> setAll ps js us | _=> ps) fun u=> ∃ us,u=.tup us∧us.length=js.length:=fun H0 O0 ps σ H O v u Q d R r q=> by
 obtain ⟨us,rfl,hl⟩:=d
 cases r with
 | tup hq hl' hh=> exact ⟨_,_,rfl,aG.tup hq,hl'.trans hl,e9 (hl'.trans hl) (q _ (R.setAll ⟨hl',hh⟩) fun n w hn e=> nL h n w hn e)⟩
theorem lI {is:List Nat} {g:TG} {f:PSt→U→PSt} {dom:U→Prop} {σ:St} {H1:Hp} {O:List Addr} {Q:VK} {J:It} {te:TE} (hg:GOk g X.K is f dom) (R1:Rs X.K H0 O0 ps σ H1 O) (Y:Yl X.K J (hid H1 O) xs) (hlen:ys.length=xs.length) (hz:xs.length≤sizeLine) (hdom:∀ x∈xs,dom x)
  (hte:∀ (i:Nat) (x y:U) (σ:St) (H:Hp) (O':List Addr) (Q:VK),xs[i]?=some x→ys[i]?=some y→Rs X.K H0 O0 (f (eX is ps) x) σ H O'→(∀ v H',aQ H H'→Rp X.K (hid H' O') v y→Q v H')→te σ H Q)
  (fin:∀ a vs H',aQ H1 H'→H1 a=none→H' a=some (.lst vs)→Rps X.K (hid H' (a::O)) vs ys→Q (.ref a) H'):y8 is g te σ Q J H1:=by
 intro l hl
 refine ⟨fun i m H2=> m=xs.length - i∧i≤xs.length∧aQ H1 H2∧∃ vs,H2 l=some (.lst vs)∧vs.length=i∧Rps X.K (hid H2 (l::O)) vs (ys.take i),⟨_,rfl,DG _,bu hl _,[],bi,rfl,by rw [Hx]; exact .nil⟩,?_⟩
 rintro i m H2 ⟨rfl,hi,s2,vs,h2,hv,rs⟩
 have seen:aQ (hid H1 O) (hid H2 (l::O)):=cg s2 hl
 obtain ⟨y1,y2⟩:=Y H2 (seen.trans aG)
 by_cases hlt:i < xs.length
 ·obtain ⟨g1,g2⟩:=y1 i hlt
  refine .inr ⟨g1,fun x H3 y=> ?_⟩
  obtain ⟨rfl,u,hu,r⟩:=g2 x H3 y
  have R2:=(R1.mask (is:=is)).hide s2 hl (by rw [h2]; intro z; cases z)
  refine hg H0 O0 _ _ H3 (l::O) x u _ (hdom u (CM hu)) R2 (r.same seen) fun σ4 R4 keep=> ?_
  have hy:ys[i]?=some (ys[i]'(by omega)):=Cm _
  refine hte i u _ σ4 H3 (l::O) _ hu hy R4 fun v H5 s5 r5=> ⟨fun j w e=> keep j w (ie is σ j w e).2 e,vs,s5 _ _ h2,?_,xs.length - (i+1),by omega,rfl,hlt,(s2.trans s5).put hl _,vs++[v],bi,by simp [hv],?_⟩
  ·rw [hv]; omega
  ·rw [lU Cy,E8,hy]
   exact (rs.same (bL s5)).snoc (.cons r5 .nil)
 ·have e:i=xs.length:=by omega
  subst e
  rw [← hlen,E3] at rs
  exact .inl ⟨y2,fin l vs H2 s2 hl h2 rs⟩
theorem eO {elt:Expr} {scope:Scope} {cl:List (Str×Addr)} {is:List Nat} {g:TG} {f:PSt→U→PSt} {dom:U→Prop} (hc:X.calm=true) (B:dC X scope cl is) (hi:EvI X H0 O0 ps tg iter xs) (hg:∀ C s H fp,PG (aD X scope cl C s H fp) tg g) (gk:GOk g X.K is f dom)
  (hlen:ys.length=xs.length) (hz:xs.length≤sizeLine) (hdom:∀ x∈xs,dom x) (he:∀ C s H fp (i:Nat) (x y:U),xs[i]?=some x→ys[i]?=some y→Ev (aD X scope cl C s H fp) H0 O0 (f (eX is ps) x) elt y)
  (hs:∀ x,foldedSetIterable iter X.env x=pure x:=by intro _; rfl):EvN X H0 O0 ps (.ListComp elt [⟨tg,iter,[],0⟩] scope pos) ys:=by
 have hte:∀ C s H fp,PE (aD X scope cl C s H fp) elt fun σ H Q=> ∃ i x y,xs[i]?=some x∧ys[i]?=some y∧∃ O',Rs X.K H0 O0 (f (eX is ps) x) σ H O'∧∀ v H',aQ H H'→Rp X.K (hid H' O') v y→Q v H':=
  fun C s H fp pins s' σ H' Q I ⟨i,x,y,h1,h2,z⟩=> he C s H fp i x y h1 h2 pins s' σ H' Q I z
 refine PE.mono (yl hc B hi hg hte hs) fun σ H Q ⟨O,R,q⟩=> ⟨O,R,fun J H1 s1 Y=> ?_⟩
 exact lI gk (R.go s1) Y hlen hz hdom (fun i x y σ H O' Q h1 h2 R' z=> ⟨i,x,y,h1,h2,O',R',z⟩) fun a vs H' s n h r=> q a vs H' (s1.trans s) (s1.free n) h r
theorem lG {elt:Expr} {scope:Scope} {cl:List (Str×Addr)} {spos py:Pos} {y:Str} {j:Nat} {is:List Nat} {g:TG} {f:PSt→U→PSt} {dom:U→Prop} (own:Bool) (hc:X.calm=true) (hN:X.N.Nodup) (hj:X.N[j]?=some y) (hy:Loc X.env.scope y) (B:dC X scope cl is)
  (hi:EvI X H0 O0 ps tg iter xs) (hg:∀ C s H fp,PG (aD X scope cl C s H fp) tg g) (gk:GOk g X.K is f dom) (hlen:ys.length=xs.length) (hz:xs.length≤sizeLine) (hdom:∀ x∈xs,dom x)
  (he:∀ C s H fp (i:Nat) (x y:U),xs[i]?=some x→ys[i]?=some y→Ev (aD X scope cl C s H fp) H0 O0 (f (eX is ps) x) elt y) (h:D.nx (ps.set j (some (if own then .own ys else .val (.lst ys)))))
  (hs:∀ x,foldedSetIterable iter X.env x=pure x:=by intro _; rfl)
  (hsw:swapsWith (.ListComp elt [⟨tg,iter,[],0⟩] scope pos) (some (.Name y py)) spos.line X.env=pure true:=by rfl) (hf:X.fn y=true∨X.env.scope.names.lookup y=some .local:=by first | exact .inl rfl | exact .inr rfl | assumption):
  W1 X H0 O0 E (.Assign [.Name y py] (.ListComp elt [⟨tg,iter,[],0⟩] scope pos) spos) D ps:=by
 have hte:∀ C s H fp,PE (aD X scope cl C s H fp) elt fun σ H Q=> ∃ i x y,xs[i]?=some x∧ys[i]?=some y∧∃ O',Rs X.K H0 O0 (f (eX is ps) x) σ H O'∧∀ v H',aQ H H'→Rp X.K (hid H' O') v y→Q v H':=
  fun C s H fp pins s' σ H' Q I ⟨i,x,y,h1,h2,z⟩=> he C s H fp i x y h1 h2 pins s' σ H' Q I z
 refine PS.mono (p9 hc hN hj hy B hi hg hte hs hsw hf) fun D' σ H ⟨L,O,R⟩=> ⟨O,R,fun J H1 s1 Y=> ?_⟩
 refine lI gk (R.go s1) Y hlen hz hdom (fun i x y σ H O' Q h1 h2 R' z=> ⟨i,x,y,h1,h2,O',R',z⟩) fun a vs H' s n h' r=> ?_
 cases own with
 | true=> exact L.nx _ _ _ _ ((R.go s1).own s n h' r) h
 | false=>
  have na:a ∉ O:=fun z=> (R.go s1).dom a z n
  have r':=r.same (eo fun b hb=> Cp a hb)
  exact L.nx _ _ _ _ (((R.go s1).go s).set (.lst (dN h' na) r'.len r'.at_)) h
end
end L2
namespace L2
open PySem PySem.Spec PyProof.Rows
def spU (K:Cn) (spec:List U→Out→Prop):Sp:=fun vs H Q E=> ∃ us O o,(∀ a∈O,H a≠none)∧Rps K (hid H O) vs us∧spec us o∧om K H O Q E o
section
variable {X:Cx} {H0:Hp} {O0:List Addr} {E:XK} {ps ps':PSt} {D:PD} {s:Stmt} {ss body:List Stmt} {a b c e:Expr} {es:List Expr} {pos p:Pos} {u x y:U} {xs ys us:List U} {k:Bool}
 {CX:CXT} {n:Nat} {f C:Addr} {fd:FuncData} {pn:List Str} {spec:List U→Out→Prop} {nm:Str}
theorem aB (F:bo X.prog X.w X.K X.mg X.base CX n f fd pn (spU X.K spec)) (hr:d_ n X.A) (hg:Gl X nm) (hm:X.mg nm=some (.ref f)) (hk:CA X.K (.ref f)=true) (hb:aP X.K fd pn []) (hx:fM CX X E0)
  (ha:EvA X H0 O0 ps (e::es) us) (h:spec us (.val u)) (hdb:(nm==("__debug__":Str))=false:=by decide) (he:starEach (e::es) X.env=(false,eval e X.env)::starEach es X.env:=by rfl) (hpl:(backTo pos (starEach es X.env)).any (·.1)=false:=by rfl):
  Ev X H0 O0 ps (.Call (.Name nm p) (e::es) [] pos) u:=
 PE.mono (jf F hr hg hm hk hb .nil hx ha hdb he hpl) fun σ H Q ⟨O,R,q⟩=> ⟨O,R,fun vs H1 s1 r1=> by
  show spU X.K spec (vs++[]) H1 Q _
  rw [EF]
  exact ⟨us,O,.val u,(R.go s1).dom,r1,h,fun v H2 s2 r2=> q v H2 (s1.trans s2) r2⟩⟩
theorem cH (F:bo X.prog X.w X.K X.mg X.base CX n f fd pn (spU X.K spec)) (hr:d_ n X.A) (hg:Gl X nm) (hm:X.mg nm=some (.ref f)) (hk:CA X.K (.ref f)=true) (hb:aP X.K fd pn []) (hx:fM CX X E0)
  (ha:EvA X H0 O0 ps (e::es) us) (h:spec us (.new xs)) (hdb:(nm==("__debug__":Str))=false:=by decide) (he:starEach (e::es) X.env=(false,eval e X.env)::starEach es X.env:=by rfl) (hpl:(backTo pos (starEach es X.env)).any (·.1)=false:=by rfl):
  EvN X H0 O0 ps (.Call (.Name nm p) (e::es) [] pos) xs:=
 PE.mono (jf F hr hg hm hk hb .nil hx ha hdb he hpl) fun σ H Q ⟨O,R,q⟩=> ⟨O,R,fun vs H1 s1 r1=> by
  show spU X.K spec (vs++[]) H1 Q _
  rw [EF]
  exact ⟨us,O,.new xs,(R.go s1).dom,r1,h,fun a vs H2 s2 n2 h2 r2=> q a vs H2 (s1.trans s2) (s1.free n2) h2 r2⟩⟩
def Xv (X:Cx) (H0:Hp) (O0:List Addr) (E:XK) (ps:PSt) (e:Expr) (C:Addr):Prop:=PE X e fun σ H _=> ∃ O,Rs X.K H0 O0 ps σ H O∧∀ H',aQ H H'→E (.ref C) none H'
theorem AO (F:bo X.prog X.w X.K X.mg X.base CX n f fd pn (spU X.K spec)) (hr:d_ n X.A) (hg:Gl X nm) (hm:X.mg nm=some (.ref f)) (hk:CA X.K (.ref f)=true) (hb:aP X.K fd pn []) (hx:fM CX X E)
  (ha:EvA X H0 O0 ps (e::es) us) (h:spec us (.exc C)) (hdb:(nm==("__debug__":Str))=false:=by decide) (he:starEach (e::es) X.env=(false,eval e X.env)::starEach es X.env:=by rfl) (hpl:(backTo pos (starEach es X.env)).any (·.1)=false:=by rfl):
  Xv X H0 O0 E ps (.Call (.Name nm p) (e::es) [] pos) C:=
 PE.mono (jf F hr hg hm hk hb .nil hx ha hdb he hpl) fun σ H Q ⟨O,R,q⟩=> ⟨O,R,fun vs H1 s1 r1=> by
  show spU X.K spec (vs++[]) H1 Q _
  rw [EF]
  exact ⟨us,O,.exc C,(R.go s1).dom,r1,h,fun H2 s2=> q H2 (s1.trans s2)⟩⟩
theorem yK (he:Xv X H0 O0 E ps e C) (h:D.rt (.exc C)) (hs:swapsWith e none pos.line X.env=pure false:=by rfl):W1 X H0 O0 E (.Expr e pos) D ps:=
 PS.mono (jo he hs) fun D' σ H ⟨L,O,R⟩=> ⟨O,R,fun H' s=> L.rt _ h H' (R.same.trans s)⟩
end
section
variable {P:Program} {w:World} {K:Cn} {mg:Str→Option Value} {base:Heap} {N pn:List Str} {qual nm:Str} {scope:Scope} {f:Addr} {cd:Value} {A:Around} {outer:List Env} {s:Shared} {H H0:Hp} {O0:List Addr} {E:XK} {D:PD} {ps:PSt} {u:U}
theorem qY {x:Str} {C:Addr} {e0:Expr} {np cpos pos:Pos} (hex:Gd K C [.type "ValueError",.type "Exception",.type "BaseException",.type "object"] "ValueError.__new__"=true)
  (hg:Gl (eF (CXF P w) P w K mg base N qual scope f cd A outer s H E) x) (hm:mg x=some (.ref C)) (he:Ev (eF (CXF P w) P w K mg base N qual scope f cd A outer s H E) H0 O0 ps e0 u) (h:D.rt (.exc C))
  (hst:starEach [e0] (eF (CXF P w) P w K mg base N qual scope f cd A outer s H E).env=[(false,eval e0 (eF (CXF P w) P w K mg base N qual scope f cd A outer s H E).env)]:=by rfl) (hd:(x==("__debug__":Str))=false:=by decide):
  W1 (eF (CXF P w) P w K mg base N qual scope f cd A outer s H E) H0 O0 E (.Raise (some (.Call (.Name x np) [e0] [] cpos)) none pos) D ps:=
 PS.mono (wj hex hg hm he hst hd) fun D' σ H ⟨L,O,R⟩=> ⟨O,R,fun v H' s r=> L.rt _ h H' (R.same.trans s)⟩
def fK (N:List Str) (us:List U):PSt:=us.map (fun u=> some (.val u))++IE (N.length - us.length) none
theorem br {st:Stmt} {fd:FuncData} {k:Nat} {spec:List U→Out→Prop} (F:Fun K nm qual st f fd) (S:aw N pn (ai st)) (len:∀ us o,spec us o→us.length=pn.length)
  (hbody:∀ (cdv:Value) (A:Around) (outer:List Env) (s:Shared) (H:Hp) (E:XK) (O:List Addr) (us:List U) (o:Out),d_ k (A.deeper (envOfC qual (ai st) s.heap.objs.size f cdv))→spec us o→
   Ws (eF (CXF P w) P w K mg base N qual (ai st) f cdv A outer s H E) H O E (aq st) ⟨fun _=> o=.val .non,fun o'=> o'=o,fun _=> False,fun _=> False⟩ (fK N us)):bo P w K mg base (CXF P w) (k+1) f fd pn (spU K spec):=by
 refine F.okF S (fun vs H Q E h=> ?_) fun cdv A outer s H vs Q E hr h=> ?_
 ·obtain ⟨us,O,o,_,r,hsp,_⟩:=h
  rw [r.len]; exact len us o hsp
 ·obtain ⟨us,O,o,d,r,hsp,q⟩:=h
  refine ⟨_,hbody cdv A outer s H E O us o hr hsp,⟨fun ps σ H' O' R e=> ?_,fun _ _ _ _ _ e=> e.elim,fun _ _ _ _ _ e=> e.elim,fun o' e=> by subst e; exact q⟩,O,?_⟩
  ·subst e; exact q .non H' R.same .non
  ·refine ⟨.refl H,fun a h=> h,fun a h=> .inl h,d,?_,fun i sl e=> ?_,fun i j xs ys a e1 e2 _ _=> ?_⟩
   ·unfold start fK
    rw [Dv,Dv,Co,Co,EM,EM,r.len]
   ·unfold fK at e
    by_cases hi:i < us.length
    ·rw [CP (by simpa using hi),Ct,Cm hi] at e
     cases e
     obtain ⟨v,h1,h2⟩:=r.get (Cm hi)
     refine ⟨v,?_,h2⟩
     unfold start
     rw [CP (by simpa [r.len] using hi),Ct,h1]; rfl
    ·rw [CQ (by simpa using hi),EA] at e
     split at e <;> cases e
   ·exfalso
    unfold fK at e1
    by_cases hi:i < us.length
    ·rw [CP (by simpa using hi),Ct,Cm hi] at e1
     cases e1
    ·rw [CQ (by simpa using hi),EA] at e1
     split at e1 <;> cases e1
end
section
variable {X:Cx} {H0:Hp} {O0:List Addr} {ps:PSt} {a b c e:Expr} {es rest:List Expr} {pos p p2:Pos} {u x y:U} {xs ys us:List U} {i j:Int} {k m:Bool} {lo hi:Option Expr} {l h:Option Int}
def EvO (X:Cx) (H0:Hp) (O0:List Addr) (ps:PSt) (e:Option Expr) (n:Option Int):Prop:=PO X e fun σ H Q=> ∃ O,Rs X.K H0 O0 ps σ H O∧∀ H',aQ H H'→Q n H'
theorem iF:EvO X H0 O0 ps none none:=fun pins s σ H Q I ⟨O,R,q⟩=> xQ pins s σ H Q I (q H (.refl H))
theorem iA (he:Ev X H0 O0 ps e (.int i)):EvO X H0 O0 ps (some e) (some i):=fun pins s σ H Q I ⟨O,R,q⟩=> ym he pins s σ H Q I ⟨O,R,fun v H' s r=> by cases r; exact ⟨i,rfl,q H' s⟩⟩
def iS (xs:List U) (lo hi:Option Int):List U:=(xs.drop (HT.sIx xs.length 0 lo)).take (HT.sIx xs.length xs.length hi - HT.sIx xs.length 0 lo)
theorem Rps.drop {K:Cn} {H:Hp} {vs:List V} {xs:List U} (r:Rps K H vs xs) (n:Nat):Rps K H (vs.drop n) (xs.drop n):=⟨by simp [r.len],fun i v x h1 h2=> r.at_ _ v x (by rwa [EN] at h1) (by rwa [EN] at h2)⟩
theorem Rps.take {K:Cn} {H:Hp} {vs:List V} {xs:List U} (r:Rps K H vs xs) (n:Nat):Rps K H (vs.take n) (xs.take n):=⟨by simp [r.len],fun i v x h1 h2=> by
 by_cases hn:i < n
 ·rw [Eb hn] at h1 h2
  exact r.at_ i v x h1 h2
 ·rw [List.getElem?_take_eq_none (by omega)] at h1
  cases h1⟩
theorem Rps.cut {K:Cn} {H:Hp} {vs:List V} {xs:List U} (r:Rps K H vs xs):Rps K H (td vs l h) (iS xs l h):=by
 unfold td iS
 rw [r.len]
 exact (r.drop _).take _
theorem gl (he:Ev X H0 O0 ps e x) (hl:EvO X H0 O0 ps lo l) (hh:EvO X H0 O0 ps hi h) (hx:x=.lst xs∨x=.scr xs):EvN X H0 O0 ps (.Subscript e (.Slice lo hi none p2) pos) (iS xs l h):=
 PE.mono (vL yy he hl hh) fun σ H Q ⟨O,R,q⟩=> ⟨O,R,fun v H1 s1 r1=> ⟨O,R.go s1,fun H2 s2=> ⟨O,R.go (s1.trans s2),fun H3 s3=> by
  have key:∃ a vs,v=.ref a∧SqL X.K (hid H1 O) a vs∧Rps X.K (hid H1 O) vs xs:=by
   rcases hx with rfl | rfl
   ·cases r1 with
    | lst hq hl hh=> exact ⟨_,_,rfl,SqL.of hq,hl,hh⟩
   ·cases r1 with
    | scr hq hl hh=> exact ⟨_,_,rfl,hq,hl,hh⟩
  obtain ⟨a,vs,rfl,hq,rs⟩:=key
  have s13:=s2.trans s3
  refine ⟨a,vs,rfl,s13.seq (aG.seq hq),fun p hp=> q p _ _ ((s1.trans s13).trans (bu hp _)) ((s1.trans s13).free hp) bi ?_⟩
  exact (rs.cut.same (bL s13)).same (cg (bu hp _) hp)⟩⟩⟩
theorem wD (ha:Ev X H0 O0 ps a (.lst xs)) (hb:Ev X H0 O0 ps b (.lst ys)) (hz:xs.length+ys.length≤sizeLine):EvN X H0 O0 ps (.BinOp a .Add b pos) (xs++ys):=
 PE.mono (uv zO ha hb) fun σ H Q ⟨O,R,q⟩=> two R (fun _ _ _ z=> z) (fun _ _ _ z=> z) fun v w H' s _ r1 r2=> by
  cases r1 with
  | lst hq hl hh=>
   cases r2 with
   | lst hq' hl' hh'=>
    refine ⟨_,_,_,_,rfl,rfl,aG _ _ hq,aG _ _ hq',by rw [hl,hl']; exact hz,fun p hp=> q p _ _ (s.trans (bu hp _)) (s.free hp) bi ?_⟩
    exact (Rps.snoc ⟨hl,hh⟩ ⟨hl',hh'⟩).same (cg (bu hp _) hp)
def fl:U→V
 | .bl b=> .bl b | .int i=> .int i | .str x=> .str x | _=> .non
def wc:U→Bool
 | .bl _=> true | .int _=> true | .str _=> true | .non=> true | _=> false
theorem zn {K:Cn} {H:Hp} {v:V} {u:U} (h:Rp K H v u) (f:wc u=true):v=fl u∧gH v=true:=by
 cases h <;> first | exact ⟨rfl,rfl⟩ | simp [wc] at f
theorem vq {K:Cn} {H:Hp}:∀ {vs:List V} {xs:List U},Rps K H vs xs→xs.all wc=true→vs=xs.map fl∧vs.all gH=true
 | vs,[],r,_=> by rw [r.nil_inv]; exact ⟨rfl,rfl⟩
 | vs,x::xs,r,f=> by
  obtain ⟨v,ws,rfl,h1,h2⟩:=r.cons_inv
  simp only [Fw,Dx] at f
  obtain ⟨e1,e2⟩:=zn h1 f.1
  obtain ⟨e3,e4⟩:=vq h2 f.2
  refine ⟨by rw [CZ,← e1,← e3],?_⟩
  simp only [Fw,Dx]
  exact ⟨e2,e4⟩
theorem B3 (hx:wc x=true) (hy:y.items=some ys) (hf:ys.all wc=true):OpS X (compareOp .In) x y (.bl (inV (fl x) (ys.map fl))):=by
 intro pins s σ H v w p q Q I r1 r2 h
 obtain ⟨k1,k2,k3⟩:=h
 obtain ⟨a,vs,rfl,h1,h2⟩:=m_ k2 hy
 obtain ⟨e1,e2⟩:=zn k1 hx
 obtain ⟨e3,e4⟩:=vq h2 hf
 exact sW pins s σ H v _ p q Q I r1 r2 ⟨a,vs,rfl,h1,e2,e4,by rw [e1,e3]; exact k3⟩
theorem Bc {bs:List Bool} (hc:X.calm=true):e8 X (.builtin "all") [.lst (bs.map U.bl)] (.bl (bs.all id)):=by
 intro pins s σ H vs us Q I r hq
 obtain ⟨O,d,rs,q⟩:=hq
 obtain ⟨v,rfl,h1⟩:=cZ rs
 obtain ⟨p1,rfl,r1⟩:=fe r
 cases h1 with
 | @lst a ws _ hq hl hh=>
  cases r1
  obtain ⟨its,rv,pl,_⟩:=I.list (SqL.of (aG _ _ hq))
  have hlen:its.length=bs.length:=by rw [← rv.length,hl,Co]
  have hat:∀ (i:Nat) (z:Value),its.toArray[i]?=some z→z=.bool (bs.getD i false):=fun i z e=> by
   have hi:i < its.length:=by have:=aL (show its[i]?=some z by simpa using e); exact this
   have hb:i < bs.length:=by omega
   have hw:i < ws.length:=by rw [rv.length]; exact hi
   obtain ⟨u,e1,e2⟩:=rv.get (Cm hw)
   have e3:=hh i ws[i] (.bl bs[i]) (Cm hw) (by rw [Ct,Cm hb]; rfl)
   have e4:its[i]?=some z:=by simpa using e
   rw [e4] at e1
   cases e1
   generalize ws[i]=wi at *
   cases e3
   rw [CB,Cm hb]
   exact e2
  refine call_all_walk (wpAny_pyIter_list pl.isList ?_)
  have hne:a≠s.heap.objs.size:=by obtain ⟨o,e,_⟩:=pl.isList; exact C1 (Cw e)
  refine ⟨s.heap.objs.size,_,_,_,_,_,fun i=> bs.getD i false,rfl,Walks.list (A:=X.A.in1) (I.ok.hd hc) s.heap.objs.size a hne its.toArray,⟨⟨_,CG _ rfl,rfl,rfl⟩,pl.isList.push _⟩,fun i z s' Q' E' hP hQ=> ?_,fun h' tk hk=> ?_⟩
  ·rw [hat i z hP]; exact wpAny_truthy_bool hQ
  ·have e:(Df its.toArray.size).all (fun i=> bs.getD i false)=bs.all id:=by
    rw [CH,hlen,Et,li,FZ]
    constructor
    ·intro h x hx
     obtain ⟨i,hi,rfl⟩:=Gi hx
     have:=h i hi
     rwa [CB,Cm hi] at this
    ·intro h j hj
     rw [CB,Cm hj]
     exact h _ (Fq hj)
   rw [e]
   refine ⟨.bl _,H,I.kept (t':=tk) fun b o e=> hk b o ?_ (Cq _ e),rfl,q _ H (.refl H) (.bl _)⟩
   intro z
   have:b=s.heap.objs.size:=by simpa using z
   exact absurd (Cw e) (by rw [this]; exact Dh _)
end
end L2
namespace L2
open PySem PySem.Spec PyProof.Rows
def tO (J:It) (is:List Nat) (g:TG) (tt:TT) (te:TE) (σ:St) (H1:Hp) (l:Addr) (Q:VK):Prop:=
 ∃ W:Nat→Nat→Hp→Prop,(∃ m,W 0 m (upd H1 l (.lst [])))∧∀ i m H2,W i m H2→
  (J.stop i H2∧Q (.ref l) H2)∨(J.go i H2∧∀ x H3,J.yld i H2 x H3→g x (mask is σ) H3 fun σ4 H4=> tt σ4 H4 fun b H5=>
   (∀ (j:Nat) (v:V),(mask is σ)[j]?=some (some v)→σ4[j]?=some (some v))∧
   if b=true then te σ4 H5 fun y H6=> ∃ vs,H6 l=some (.lst vs)∧vs.length < sizeLine∧∃ m',m' < m∧W (i+1) m' (upd H6 l (.lst (vs++[y]))) else ∃ m',m' < m∧W (i+1) m' H5)
def vz (is:List Nat) (g:TG) (tt:TT) (te:TE) (σ:St) (Q:VK) (J:It) (H1:Hp):Prop:=∀ l,H1 l=none→tO J is g tt te σ H1 l Q
def vQ (is:List Nat) (wi:TI) (g:TG) (tt:TT) (te:TE):TE:=fun σ H Q=> wi σ H (vz is g tt te σ Q)
section
variable {X:Cx} {pins:List (Addr×Obj)} {σ:St} {H:Hp} {s:Shared}
theorem t4 {elt iter tg:Expr} {scope:Scope} {cl:List (Str×Addr)} {pos pos0:Pos} {is:List Nat} {wi:TI} {g:TG} {tt:TT} {te:TE} {cond:Expr} {use:Option (Value→Sem Unit)} {Q0:VK} {Q:Value→Shared→Prop} (hc:X.calm=true) (B:dC X scope cl is)
  (hi:PI X tg iter wi) (hg:∀ C s H fp,PG (aD X scope cl C s H fp) tg g) (ht:∀ C s H fp,PT (aD X scope cl C s H fp) cond tt) (he:∀ C s H fp,PE (aD X scope cl C s H fp) elt te) (hs:∀ x,foldedSetIterable iter X.env x=pure x)
  (I:Inv X pins σ H s) (h:vQ is wi g tt te σ H Q0)
  (fin:∀ (l C:Addr) (H':Hp) (s':Shared) (m:Str→Option Value),Inv X pins σ H' s'→s'.heap.Ns C m→H' C=none→C≠X.env.locals→C ∉ X.fs→X.s₀.heap.objs.size≤C→(∀ x c,X.env.cells.lookup x=some c→c≠C)→(∀ p∈X.pn++pins,p.1≠C)→Q0 (.ref l) H'→
   compPost (model X.prog X.w) X.A X.xe use Q (.ref l) C (.ok .next) s'):
  wpAny (model X.prog X.w) X.A (comprehension (.ListComp elt [⟨tg,iter,[cond],0⟩] scope pos) scope X.env pos0 (newList []) false (eval iter X.env) use) Q X.xe s:=by
 refine wpAny_comprehension_free rfl hs B.clos B.kind B.names (thn (hi pins s σ H _ I h) fun xv s1 h1=> thn h1 fun itv s2 h2=> ?_)
 obtain ⟨it,fp,tn,J,H2,e,I2,T,st2,f2,R⟩:=h2
 subst e
 refine wpAny_newObj_type (wpAny_newFunctionEnv B.cell (by intro y hy; simp at hy) (fun h₁ hns hsb=> ?_) B.kind)
 have hl:H2 s2.heap.objs.size=none:=I2.hok.fresh (Cv _)
 obtain ⟨W,⟨m0,w0⟩,turn⟩:=R s2.heap.objs.size hl
 have I3:Inv X pins σ (upd H2 s2.heap.objs.size (.lst [])) { s2 with heap:=s2.heap.push { cls:=.type "list",dict:=none,data:=.seq ([]:List Value).toArray } }:=
  I2.laid (t':=s2.toks) (o:=.lst []) (fun b u e=> Cq _ e) (Cv _) ⟨DG _,[],0,.nil,CG _ rfl⟩
 have hfl:∀ b∈fp,b < s2.heap.objs.size:=fun b hb=> let ⟨o,e,_⟩:=T.obj 0 _ st2 b hb; Cw e
 have f3:∀ b∈fp,jF X pins (upd H2 s2.heap.objs.size (.lst [])) b:=fun b hb=> ⟨by rw [bv (C1 (hfl b hb))]; exact (f2 b hb).1,(f2 b hb).2⟩
 have kp:∀ b o,(s2.heap.push { cls:=.type "list",dict:=none,data:=.seq ([]:List Value).toArray }).get? b=some o→h₁.get? b=some o:=fun b o e=>
  hsb.extBut b o (C1 (Cw e)) (Cq _ e)
 have st4:tn 0 h₁:=T.keep 0 _ _ st2 fun b _ o e=> kp b o (Cq _ e)
 have hfl3:∀ b∈fp,b < (s2.heap.push { cls:=.type "list",dict:=none,data:=.seq ([]:List Value).toArray }).objs.size:=fun b hb=> by
  rw [Er]; exact Eo (hfl b hb)
 have I4:=i5 (t':=s2.toks+([]:List (Str×Value)).length) I3 B f3 hfl3 hns kp
 have loop:codeAny (model X.prog X.w) X.A (.compLoop (.ListComp elt [⟨tg,iter,[cond],0⟩] scope pos) 0 (.ref it) (.ref s2.heap.objs.size) (compEnvC scope cl (s2.heap.push { cls:=.type "list",dict:=none,data:=.seq ([]:List Value).toArray }).objs.size X.env))
   (compPost (model X.prog X.w) X.A X.xe use Q (.ref s2.heap.objs.size) (s2.heap.push { cls:=.type "list",dict:=none,data:=.seq ([]:List Value).toArray }).objs.size)
   { s2 with heap:=h₁,toks:=s2.toks+([]:List (Str×Value)).length }:=by
  generalize hs3:({ s2 with heap:=s2.heap.push { cls:=.type "list",dict:=none,data:=.seq ([]:List Value).toArray } }:Shared)=s3 at *
  have hC:(s2.heap.push { cls:=.type "list",dict:=none,data:=.seq ([]:List Value).toArray }).objs.size=s3.heap.objs.size:=by rw [← hs3]
  rw [hC]
  have hstat:∀ {H':Hp},(∀ b∈fp,H' b=none)→∀ b∈fp,jF (aD X scope cl s3.heap.objs.size s3 (upd H2 s2.heap.objs.size (.lst [])) fp) [] H' b:=fun hn b hb=>
   ⟨hn b hb,(I4.ok.exf b hb).1,I4.ok.exfs b hb,.inl hb,fun x c e=> (I4.ok.exf b hb).2 x c e,fun p hp=> absurd (show p∈([]:List (Addr×Obj)) from hp) (by simp)⟩
  have back:∀ {σ':St} {H':Hp} {pp:List (Addr×Obj)} {s':Shared},Inv (aD X scope cl s3.heap.objs.size s3 (upd H2 s2.heap.objs.size (.lst [])) fp) pp σ' H' s'→Inv X pins σ H' s':=fun I'=>
   I3.call' (ch:=fp) I'.os I'.base I'.hok I'.bare fun b hb=> ⟨(f3 b hb).2.2.2.1,(f3 b hb).2.1,(f3 b hb).2.2.2.2.1,(f3 b hb).2.2.2.2.2⟩
  refine codeAny_loop rfl (fun n s'=> ∃ i H',Inv (aD X scope cl s3.heap.objs.size s3 (upd H2 s2.heap.objs.size (.lst [])) fp) [] (mask is σ) H' s'∧tn i s'.heap∧(∀ b∈fp,H' b=none)∧W i n H') ?_ m0 ⟨0,_,(by subst hs3; exact I4),st4,fun b hb=> (f3 b hb).1,w0⟩
  rintro n s5 ⟨i,H5,I5,st5,fr5,w5⟩
  show wpAny _ _ ((compTurn (.ListComp elt [⟨tg,iter,[cond],0⟩] scope pos) 0 (.ref it) (.ref s2.heap.objs.size) (compEnvC scope cl s3.heap.objs.size X.env)).onRaise (fun x=> do noteFrame x (compEnvC scope cl s3.heap.objs.size X.env); theTreesLotGoes x)) _ _ s5
  refine wpAny_noted ?_
  rw [compTurn_list]
  refine wpAny_bind (wpAny_standAt (wpAny_bind ?_))
  rcases turn i n H5 w5 with ⟨stop,q⟩ | ⟨go,step⟩
  ·refine thn (T.done (aD X scope cl s3.heap.objs.size s3 (upd H2 s2.heap.objs.size (.lst [])) fp) rfl rfl rfl hc i [] s5 _ H5 _ I5 (hstat fr5) st5 stop) fun r s6 ⟨hr,I6⟩=> ?_
   subst hr
   refine wpAny_pure ?_
   obtain ⟨m6,hn6,_⟩:=I6.loc
   have hCn:∀ b,b < s3.heap.objs.size→b≠s3.heap.objs.size:=fun b hb=> C1 hb
   refine fin _ s3.heap.objs.size H5 s6 m6 (back I6) hn6 I6.free (Gy I3.lt) (I3.nofs (Cv _)) I3.sz (fun x c e=> ?_) (fun p hp=> ?_) q
   ·obtain ⟨v,z⟩:=I3.cell x c e
    exact C1 z.lt
   ·exact C1 (Cw (I3.pin p hp).1)
  ·refine thn (T.item (aD X scope cl s3.heap.objs.size s3 (upd H2 s2.heap.objs.size (.lst [])) fp) rfl rfl rfl hc i [] s5 _ H5 _ I5 (hstat fr5) st5 go) fun r s6 ⟨u,hr,h6⟩=> ?_
   subst hr
   refine wpAny_bind (thn h6 fun _ s7 ⟨x,H7,I7,r7,y7,st7,fr7⟩=> ?_)
   have I7':=I7.pinned (hstat fr7) (T.obj _ _ st7)
   refine wpAny_bind (wpAny_mono (hg _ _ _ _ _ s7 (mask is σ) H7 x u _ I7' r7 (step x H7 y7)) (fun _ s8 ⟨σ8,H8,I8,q8⟩=> ?_) fun _ _ z=> z.elim)
   refine wpAny_bind (wpAny_tests_one (wpAny_mono (ht _ _ _ _ _ s8 σ8 H8 _ I8 q8) (fun bb s9 ⟨H9,I9,sub,q9⟩=> ?_) fun _ _ z=> z.elim))
   have fpn:∀ {H':Hp} {s':Shared} {σ':St},Inv (aD X scope cl s3.heap.objs.size s3 (upd H2 s2.heap.objs.size (.lst [])) fp) ([]++kg fp s7.heap) σ' H' s'→tn (i+1) s'.heap∧∀ b∈fp,H' b=none:=fun {H' s' σ'} J=> ⟨T.keep _ _ _ st7 fun b hb o e=> (J.pin (b,o) (CS _ (CS _ (dq hb e)))).1,fun b hb=> by
    obtain ⟨o,e,d⟩:=T.obj _ _ st7 b hb
    exact (J.pin (b,o) (CS _ (CS _ (dq hb e)))).2.1⟩
   cases bb with
   | true=>
    rw [if_pos rfl] at q9
    simp only [if_true]
    refine wpAny_bind (wpAny_bind (wpAny_mono (he _ _ _ _ _ s9 σ8 H9 _ I9 q9) (fun v s10 ⟨y,H10,I10,r10,vs,hl10,hz,m',hm,w'⟩=> ?_) fun _ _ z=> z.elim))
    refine wpAny_bind (wpAny_mono (iQ (X:=aD X scope cl s3.heap.objs.size s3 (upd H2 s2.heap.objs.size (.lst [])) fp) _ s10 σ8 H10 (.ref s2.heap.objs.size) [y] (.ref s2.heap.objs.size) [v] (fun _ H'=> H'=upd H10 s2.heap.objs.size (.lst (vs++[y]))) I10 rfl (.cons r10 .nil) ⟨_,vs,y,rfl,rfl,hl10,hz,rfl⟩) (fun z s11 ⟨zv,H11,I11,_,e11⟩=> ?_) fun _ _ z=> z.elim)
    subst e11
    obtain ⟨k1,k2⟩:=fpn I11
    exact wpAny_pure (wpAny_pure ⟨rfl,m',hm,i+1,_,(I11.unpinned (pins:=[])).weak (by rw [I11.len,fh,I.len]) sub,k1,k2,w'⟩)
   | false=>
    rw [if_neg (by decide)] at q9
    simp only [CN,if_false]
    obtain ⟨m',hm,w'⟩:=q9
    obtain ⟨k1,k2⟩:=fpn I9
    first
     | exact wpAny_pure ⟨rfl,m',hm,i+1,_,(I9.unpinned (pins:=[])).weak (by rw [I9.len,fh,I.len]) sub,k1,k2,w'⟩
     | exact wpAny_bind (wpAny_pure (wpAny_pure ⟨rfl,m',hm,i+1,_,(I9.unpinned (pins:=[])).weak (by rw [I9.len,fh,I.len]) sub,k1,k2,w'⟩))
 exact codeAny_compStart_list loop (T.self X.A 0 _ _ _ st4 loop)
theorem oF {elt iter tg:Expr} {scope:Scope} {cl:List (Str×Addr)} {pos spos py:Pos} {y:Str} {j:Nat} {is:List Nat} {wi:TI} {g:TG} {tt:TT} {te:TE} {cond:Expr} (hc:X.calm=true) (hN:X.N.Nodup) (hj:X.N[j]?=some y) (hy:Loc X.env.scope y) (B:dC X scope cl is)
  (hi:PI X tg iter wi) (hg:∀ C s H fp,PG (aD X scope cl C s H fp) tg g) (ht:∀ C s H fp,PT (aD X scope cl C s H fp) cond tt) (he:∀ C s H fp,PE (aD X scope cl C s H fp) elt te) (hs:∀ x,foldedSetIterable iter X.env x=pure x:=by intro _; rfl)
  (hsw:swapsWith (.ListComp elt [⟨tg,iter,[cond],0⟩] scope pos) (some (.Name y py)) spos.line X.env=pure true:=by rfl) (hf:X.fn y=true∨X.env.scope.names.lookup y=some .local:=by first | exact .inl rfl | exact .inr rfl | assumption):
  PS X (.Assign [.Name y py] (.ListComp elt [⟨tg,iter,[cond],0⟩] scope pos) spos) (yP (vQ is wi g tt te) (kW j)):=by
 intro pins s σ H D I h
 rw [exec_Assign_Name_used _ _ _ _ hsw]
 refine wpAny_bind (wpAny_standAt (wpAny_bind ?_))
 show wpAny _ X.A (do let _ ← comprehension (.ListComp elt [⟨tg,iter,[cond],0⟩] scope pos) scope X.env _ (newList []) false (eval iter X.env) (some (assign (.Name y py) X.env))) _ _ s
 refine wpAny_bind (wpAny_mono (t4 (Q0:=fun v H'=> D.nx (σ.set j (some v)) H') (use:=some (assign (.Name y py) X.env)) (Q:=fun _ s'=> SP X pins D .next s') hc B hi hg ht he hs I h fun l C H' s' m I' hn h1 h2 h3 h4 h5 h6 q=> ?_) (fun _ s' hq=> wpAny_pure (wpAny_pure hq)) fun _ _ e=> e)
 show wpAny _ X.A (assign (.Name y py) X.env (.ref l)) _ _ _
 refine wpAny_assign_Name (iI I' hN hj hy (v:=.ref l) rfl (fun s2 I2 ⟨a,hsb,ha⟩=> ?_) hf)
 have hCa:C≠a:=by
  rcases ha with e | e
  ·rw [e]; exact h2
  ·exact Ne.symm (h5 _ _ e)
 refine ⟨m,hn.sameBut hsb hCa,fun h' hsb'=> ⟨_,H',I2.turned (t':=s2.toks) (fun b o hb e=> hsb'.extBut b o hb e) h1 h2 (.inr h4) h5 h6,q⟩⟩
end
section
variable {X:Cx} {H0:Hp} {O0:List Addr} {E:XK} {ps ps':PSt} {D:PD} {tg iter cond:Expr} {pos p:Pos} {xs:List U} {fs:List (Option U)}
theorem pR {is:List Nat} {g:TG} {f:PSt→U→PSt} {dom:U→Prop} {σ:St} {H1:Hp} {O:List Addr} {Q:VK} {J:It} {tt:TT} {te:TE} (hg:GOk g X.K is f dom) (R1:Rs X.K H0 O0 ps σ H1 O) (Y:Yl X.K J (hid H1 O) xs) (hlen:fs.length=xs.length) (hz:xs.length≤sizeLine) (hdom:∀ x∈xs,dom x)
  (htt:∀ (i:Nat) (x:U) (o:Option U) (σ:St) (H:Hp) (O':List Addr) (Q:Bool→Hp→Prop),xs[i]?=some x→fs[i]?=some o→Rs X.K H0 O0 (f (eX is ps) x) σ H O'→(∀ H',aQ H H'→Q o.isSome H')→tt σ H Q)
  (hte:∀ (i:Nat) (x y:U) (σ:St) (H:Hp) (O':List Addr) (Q:VK),xs[i]?=some x→fs[i]?=some (some y)→Rs X.K H0 O0 (f (eX is ps) x) σ H O'→(∀ v H',aQ H H'→Rp X.K (hid H' O') v y→Q v H')→te σ H Q)
  (fin:∀ a vs H',aQ H1 H'→H1 a=none→H' a=some (.lst vs)→Rps X.K (hid H' (a::O)) vs (fs.filterMap id)→Q (.ref a) H'):vz is g tt te σ Q J H1:=by
 intro l hl
 refine ⟨fun i m H2=> m=xs.length - i∧i≤xs.length∧aQ H1 H2∧∃ vs,H2 l=some (.lst vs)∧vs.length≤i∧Rps X.K (hid H2 (l::O)) vs ((fs.take i).filterMap id),⟨_,rfl,DG _,bu hl _,[],bi,Cv _,by rw [Hx]; exact .nil⟩,?_⟩
 rintro i m H2 ⟨rfl,hi,s2,vs,h2,hv,rs⟩
 have seen:aQ (hid H1 O) (hid H2 (l::O)):=cg s2 hl
 obtain ⟨y1,y2⟩:=Y H2 (seen.trans aG)
 by_cases hlt:i < xs.length
 ·obtain ⟨g1,g2⟩:=y1 i hlt
  refine .inr ⟨g1,fun x H3 y=> ?_⟩
  obtain ⟨rfl,u,hu,r⟩:=g2 x H3 y
  have R2:=(R1.mask (is:=is)).hide s2 hl (by rw [h2]; intro z; cases z)
  refine hg H0 O0 _ _ H3 (l::O) x u _ (hdom u (CM hu)) R2 (r.same seen) fun σ4 R4 keep=> ?_
  obtain ⟨o,ho⟩:∃ o,fs[i]?=some o:=⟨_,Cm (by omega)⟩
  refine htt i u o σ4 H3 (l::O) _ hu ho R4 fun H5 s5=> ⟨fun j w e=> keep j w (ie is σ j w e).2 e,?_⟩
  cases o with
  | none=>
   refine pS ⟨xs.length - (i+1),by omega,rfl,hlt,s2.trans s5,vs,s5 _ _ h2,by omega,?_⟩
   rw [E8,ho,HE,He]
   simpa using rs.same (bL s5)
  | some yv=>
   refine p6 (hte i u yv σ4 H5 (l::O) _ hu ho (R4.go s5) fun v H6 s6 r6=> ⟨vs,s6 _ _ (s5 _ _ h2),?_,xs.length - (i+1),by omega,rfl,hlt,((s2.trans s5).trans s6).put hl _,vs++[v],bi,by simp; omega,?_⟩)
   ·omega
   ·rw [lU Cy,E8,ho,HE,He]
    exact ((rs.same (bL s5)).same (bL s6)).snoc (.cons r6 .nil)
 ·have e:i=xs.length:=by omega
  subst e
  rw [← hlen,E3] at rs
  exact .inl ⟨y2,fin l vs H2 s2 hl h2 rs⟩
end
end L2
namespace L2
open PySem PySem.Spec PyProof.Rows
inductive AU:List (Option Expr)→List Expr→Prop where
 | nil:AU [] []
 | cons {k v:Int} {a b:Nat} {p q:Pos} {ks:List (Option Expr)} {vs:List Expr} (h:AU ks vs):AU (some (.Constant (.int k) a p)::ks) (.Constant (.int v) b q::vs)
section
variable {X:Cx} {H0:Hp} {O0:List Addr} {ps:PSt} {pos:Pos} {keys:List (Option Expr)} {values:List Expr} {k m:Bool}
end
end L2
namespace L2
open PySem PySem.Spec PyProof.Rows
theorem Ws.nox {X:Cx} {H0:Hp} {O0:List Addr} {E:XK} {ss:List Stmt} {D:PD} {ps:PSt} (h:Ws X.nox H0 O0 E ss D ps):Ws X H0 O0 E ss D ps:=PSs.nox h
theorem bo.calm {P:Program} {w:World} {K:Cn} {mg:Str→Option Value} {base:Heap} {k:Nat} {f:Addr} {fd:FuncData} {ps:List Str} {sp:Sp} (F:bo P w K mg base (CXF P w) k f fd ps sp) (h:∀ vs H Q E,sp vs H Q E→sp vs H Q E0):bo P w K mg base CX0 k f fd ps sp:=by
 refine ⟨F.len,fun A outer s H args us vs Q E hr he hb hv hs=> codeAny_mono (F.run A outer s H args us vs Q E0 hr he hb hv (h _ _ _ _ hs)) fun r s' q=> ?_⟩
 cases r with
 | ok fl=>
  cases fl with
  | ret u=> exact q
  | next=> exact q
  | brk=> exact q
  | cont=> exact q
 | error e=>
  obtain ⟨_,_,_,_,_,_,_,_,_,_,_,_,_,_,_,hE⟩:=q
  exact hE.elim
def ir:List U→Out→Prop:=fun us o=> ∃ ns:List Int,us=[.scr (ns.map U.int)]∧ns.length≤63∧(∀ m∈ns,Sz 1048576 m)∧o=.val (.bl true)
theorem uZ {K:Cn} (vs:List V) (H:Hp) (Q:VK) (E:XK) (h:spU K ir vs H Q E):spU K ir vs H Q E0:=by
 obtain ⟨us,O,o,d,r,⟨ns,h1,h2,h3,rfl⟩,q⟩:=h
 exact ⟨us,O,_,d,r,⟨ns,h1,h2,h3,rfl⟩,q⟩
theorem tW {K:Cn} {H:Hp} {a:Addr} {ns:List Int} {E:XK} (h1:ns.length≤63) (h2:∀ m∈ns,Sz 1048576 m) (h3:SqL K H a (ns.map V.int)):spU K ir [.ref a] H (fun v _=> v=.bl true) E:=by
 refine ⟨[.scr (ns.map U.int)],[],.val (.bl true),fun a ha=> (nomatch ha),.cons ?_ .nil,⟨ns,rfl,h1,h2,rfl⟩,fun v H' s r=> by cases r; rfl⟩
 have e:hid H []=H:=by funext b; unfold hid; rw [if_neg (by simp)]
 rw [e]
 refine .scr h3 (by simp) fun i v x e1 e2=> ?_
 rw [Ct] at e1 e2
 cases q:ns[i]? with
 | none=> rw [q] at e1; cases e1
 | some n=> rw [q] at e1 e2; cases e1; cases e2; exact .int n
theorem oI {k:Nat} {A:Around} (hr:d_ k A):A.units+10 < cLine:=by have:=hr.un; omega
theorem uC {ns:List Int} {k:Int} (h0:0≤k) (h:k < (ns.length:Int)):atI (ns.map U.int) k=some (.int (ns.getD k.toNat 0)):=by
 have hk:k.toNat < ns.length:=by omega
 have q:atI (ns.map U.int) ((k.toNat:Nat):Int)=some (.int (ns.getD k.toNat 0)):=qJ (by rw [Ct,CB,Cm hk] <;> rfl)
 rwa [show ((k.toNat:Nat):Int)=k by omega] at q
theorem yj {ns:List Int} (h:∀ m∈ns,Sz 1048576 m) (i:Nat):Sz 1048576 (ns.getD i 0):=by
 by_cases hk:i < ns.length
 ·rw [CB,Cm hk,EL]; exact h _ (Fq hk)
 ·rw [CB,Dr (by omega),GZ]; exact Sz.mono (m:=8) (by decide) (by decide)
abbrev pt (x y:Int):U:=.tup [.int x,.int y]
theorem dTb {p:Prop} [Decidable p] (h:decide p=true):p:=of_decide_eq_true h
theorem dFb {p:Prop} [Decidable p] (h:decide p=false):¬ p:=of_decide_eq_false h
theorem nTb {p:Prop} [Decidable p] (h:(!decide p)=true):¬ p:=by simpa using h
theorem nFb {p:Prop} [Decidable p] (h:(!decide p)=false):p:=by simpa using h
theorem vB {a b:Bool} (h:a=b):Out.val (.bl a)=Out.val (.bl b):=by rw [h]
theorem vIO {a b:Int} (h:a=b):Out.val (.int a)=Out.val (.int b):=by rw [h]
mutual
theorem wP:∀ (n:Nat) (u:U),okU n u=true→eqW u u=true
 | _,.non,_=> rfl
 | _,.bl b,_=> by simp [eqW]
 | _,.int b,_=> by simp [eqW]
 | _,.str b,_=> by simp [eqW]
 | _,.ty _,h=> by simp [okU] at h
 | _,.dic,h=> by simp [okU] at h
 | 0,.tup _,h=> by simp [okU] at h
 | 0,.lst _,h=> by simp [okU] at h
 | 0,.scr _,h=> by simp [okU] at h
 | n+1,.tup xs,h=> by rw [eqW]; rw [okU] at h; exact eqWs_refl n xs h
 | n+1,.lst xs,h=> by rw [eqW]; rw [okU] at h; exact eqWs_refl n xs h
 | n+1,.scr xs,h=> by rw [eqW]; rw [okU] at h; exact eqWs_refl n xs h
theorem eqWs_refl:∀ (n:Nat) (xs:List U),okUs n xs=true→eqWs xs xs=true
 | _,[],_=> rfl
 | n,x::xs,h=> by
  simp only [okUs,Dx] at h
  simp only [eqWs,Dx]
  exact ⟨wP n x h.1,eqWs_refl n xs h.2⟩
end
theorem vm {α:Type} {n:Nat} {f:α→U} {l:List α} (h:∀ a∈l,okU n (f a)=true):okUs n (l.map f)=true:=by
 induction l with
 | nil=> rfl
 | cons a l ih=>
  rw [CZ,okUs,Dx]
  exact ⟨h a Cy,ih fun b hb=> h b (Cp _ hb)⟩
theorem oe {α:Type} {n:Nat} {f:α→U} {l:List α} (h:∀ a,okU n (f a)=true):okU (n+1) (.lst (l.map f))=true:=by rw [okU]; exact vm fun a _=> h a
end L2
namespace L2
open PySem PySem.Spec PyProof.Rows
section
variable {X:Cx} {H0:Hp} {O0:List Addr} {E:XK} {ps:PSt} {D:PD} {a b c e:Expr} {rest:List Expr} {pos:Pos} {k:Bool}
theorem dG {tb fb:List Stmt} (hc:Tt X H0 O0 ps c k) (hk:k=true) (h:Ws X H0 O0 E tb D ps):W1 X H0 O0 E (.If c tb fb pos) D ps:=fc hc (fun _=> h) (fun e=> by rw [hk] at e; cases e)
theorem dF {tb fb:List Stmt} (hc:Tt X H0 O0 ps c k) (hk:k=false) (h:Ws X H0 O0 E fb D ps):W1 X H0 O0 E (.If c tb fb pos) D ps:=fc hc (fun e=> by rw [hk] at e; cases e) (fun _=> h)
theorem mF (ha:Tt X H0 O0 ps a k) (hk:k=false):Tw X H0 O0 ps (.BoolOp .And (a::b::rest) pos) false:=by
 subst hk
 exact oD (m:=true) ha fun h=> by cases h
theorem j9 (ha:Tt X H0 O0 ps a k) (hk:k=true):Tw X H0 O0 ps (.BoolOp .Or (a::b::rest) pos) true:=by
 subst hk
 exact nG (m:=true) ha fun h=> by cases h
end
end L2
namespace L2
open PySem PySem.Spec PyProof.Rows
section
variable {X:Cx} {H0:Hp} {O0:List Addr} {E:XK} {ps:PSt} {D:PD} {body:List Stmt} {tg iter c:Expr} {pos:Pos} {xs:List U} {α:Type}
theorem TgS.sub {p p':PSt} {u:U} {ps':PSt} (h:TgS X H0 O0 tg p u ps') (hs:SubP p p'):TgS X H0 O0 tg p' u ps':=PG.mono h fun v σ H Q ⟨O,R,r,q⟩=> ⟨O,R.sub hs,r,q⟩
theorem Tt.sub {p p':PSt} {e:Expr} {k:Bool} (h:Tt X H0 O0 p e k) (hs:SubP p p'):Tt X H0 O0 p' e k:=PT.mono h fun σ H Q ⟨O,R,q⟩=> ⟨O,R.sub hs,q⟩
theorem jJ (st:α→PSt) (Q:Nat→α→Prop) (hc:X.calm=true) (hp:PassesOwn (model X.prog X.w) X.A X.env X.xe) (hi:EvI X H0 O0 ps tg iter xs) (h0:∃ a,Q 0 a∧SubP (st a) ps)
  (hs:∀ (H0:Hp) (i:Nat) (x:U) (a:α),xs[i]?=some x→Q i a→∃ ps',TgS X H0 O0 tg (st a) x ps'∧Ws X H0 O0 E body { D with nx:=fun p=> ∃ b,Q (i+1) b∧SubP (st b) p,ct:=fun p=> ∃ b,Q (i+1) b∧SubP (st b) p,bk:=D.nx } ps')
  (hd:∀ a ps,Q xs.length a→SubP (st a) ps→D.nx ps) (hf:∀ x,foldedSetIterable iter X.env x=pure x:=by intro _; rfl):W1 X H0 O0 E (.For tg iter body [] pos) D ps:=
 Ba hc hp hi (fun i ps=> ∃ a,Q i a∧SubP (st a) ps) h0 (fun H0 i x ps hx ⟨a,q,sb⟩=> by
  obtain ⟨ps',t,w⟩:=hs H0 i x a hx q
  exact ⟨ps',t.sub sb,w⟩) (fun ps ⟨a,q,sb⟩=> hd a ps q sb) hf
theorem e_ (st:α→PSt) (Q:Nat→α→Prop) (hp:PassesOwn (model X.prog X.w) X.A X.env X.xe) (h0:∃ m a,Q m a∧SubP (st a) ps)
  (hs:∀ m a,Q m a→∃ b,Tt X H0 O0 (st a) c b∧(b=true→Ws X H0 O0 E body { D with nx:=fun p=> ∃ m' a',m' < m∧Q m' a'∧SubP (st a') p,ct:=fun p=> ∃ m' a',m' < m∧Q m' a'∧SubP (st a') p,bk:=D.nx } (st a))∧(b=false→∀ ps,SubP (st a) ps→D.nx ps)):W1 X H0 O0 E (.While c body [] pos) D ps:=by
 obtain ⟨m,a,q,sb⟩:=h0
 refine xt hp (fun m ps=> ∃ a,Q m a∧SubP (st a) ps) m ⟨a,q,sb⟩ fun m ps ⟨a,q,sb⟩=> ?_
 obtain ⟨b,t,h1,h2⟩:=hs m a q
 refine ⟨b,t.sub sb,fun e=> ?_,fun e=> h2 e ps sb⟩
 refine dW (PSs.mono (h1 e) fun D' σ H ⟨L,O,R⟩=> ⟨⟨fun p σ H O R ⟨m',a',l,q',sb'⟩=> L.nx p σ H O R ⟨m',l,a',q',sb'⟩,L.bk,fun p σ H O R ⟨m',a',l,q',sb'⟩=> L.ct p σ H O R ⟨m',l,a',q',sb'⟩,L.rt⟩,O,R⟩) sb
end
abbrev P2:=Int×Int
abbrev pu (p:P2):U:=.tup [.int p.1,.int p.2]
abbrev lp (l:List P2):U:=.lst (l.map pu)
theorem rY {l:List P2} {i:Nat} {x:U} (h:(l.map pu)[i]?=some x):∃ p,l[i]?=some p∧p∈l∧x=pu p:=by
 rw [Ct] at h
 cases q:l[i]? with
 | none=> rw [q] at h; cases h
 | some p=> rw [q] at h; cases h; exact ⟨p,rfl,CM q,rfl⟩
theorem df {α:Type} {l:List α} {f:α→U} {g:α→U} {i:Nat} {x y:U} (hx:(l.map f)[i]?=some x) (hy:(l.map g)[i]?=some y):∃ a,l[i]?=some a∧a∈l∧x=f a∧y=g a:=by
 rw [Ct] at hx hy
 cases q:l[i]? with
 | none=> rw [q] at hx; cases hx
 | some p=> rw [q] at hx hy; cases hx; cases hy; exact ⟨p,rfl,CM q,rfl,rfl⟩
end L2
namespace L2
open PySem PySem.Spec PyProof.Rows
theorem W1.mono {X:Cx} {H0:Hp} {O0:List Addr} {E:XK} {s:Stmt} {D:PD} {J:PSt→Prop} {ps:PSt} (h:W1 X H0 O0 E s { D with nx:=J } ps) (m:∀ ps,J ps→D.nx ps):W1 X H0 O0 E s D ps:=
 PS.mono h fun D' σ H ⟨L,O,R⟩=> ⟨⟨fun p σ H O R q=> L.nx p σ H O R (m p q),L.bk,L.ct,L.rt⟩,O,R⟩
theorem gO {X:Cx} {H0:Hp} {O0:List Addr} {E:XK} {s:Stmt} {ss:List Stmt} {D:PD} {ps:PSt} (J:PSt→Prop) (h1:W1 X H0 O0 E s { D with nx:=J } ps) (h2:∀ ps,J ps→Ws X H0 O0 E ss D ps):Ws X H0 O0 E (s::ss) D ps:=
 ae (W1.mono (J:=J) (D:={ D with nx:=fun p=> Ws X H0 O0 E ss D p }) h1 h2)
end L2
namespace PySem.W
open PySem PySem.Spec PySem.Calls PyProof.Rows
end PySem.W
namespace L2
open PySem PySem.Spec PySem.W PyProof.Rows
section
variable {X:Cx} {pins:List (Addr×Obj)} {σ:St} {H:Hp} {s:Shared}
end
section
variable {X:Cx}
def m7.drop (D:m7) (i:Nat):m7:=⟨fun σ H=> D.nx (σ.set i none) H,D.rt,fun σ H=> D.bk (σ.set i none) H,fun σ H=> D.ct (σ.set i none) H⟩
end
section
variable {X:Cx} {H0:Hp} {O0:List Addr} {E:XK} {ps:PSt} {D:PD} {a e:Expr} {es:List Expr} {us:List U} {k:Bool} {n:Nat} {fd:FuncData} {pn:List Str} {spec:List U→Out→Prop}
def PD.drop (D:PD) (i:Nat):PD:=⟨fun p=> D.nx (p.set i none),D.rt,fun p=> D.bk (p.set i none),fun p=> D.ct (p.set i none)⟩
end
section
variable {X:Cx} {H0:Hp} {O0:List Addr} {ps:PSt} {pos:Pos}
end
end L2
namespace L2
open PySem
theorem bT {c:Const} {j:Nat} {pos:Pos} {es:List Expr} {env:Env}:starEach (.Constant c j pos::es) env=(false,eval (.Constant c j pos) env)::starEach es env:=by rw [starEach]; intro e p h; cases h
theorem AK {l:List Expr} {j:Nat} {pos:Pos} {es:List Expr} {env:Env}:starEach (.Tuple l j pos::es) env=(false,eval (.Tuple l j pos) env)::starEach es env:=by rw [starEach]; intro e p h; cases h
theorem iR {o:UnaryOp} {a:Expr} {pos:Pos} {es:List Expr} {env:Env}:starEach (.UnaryOp o a pos::es) env=(false,eval (.UnaryOp o a pos) env)::starEach es env:=by rw [starEach]; intro e p h; cases h
theorem aZ {a b:Expr} {o:Operator} {pos:Pos} {es:List Expr} {env:Env}:starEach (.BinOp a o b pos::es) env=(false,eval (.BinOp a o b pos) env)::starEach es env:=by rw [starEach]; intro e p h; cases h
theorem ah {x:Str} {pos:Pos} {es:List Expr} {env:Env}:starEach (.Name x pos::es) env=(false,eval (.Name x pos) env)::starEach es env:=by rw [starEach]; intro e p h; cases h
theorem dh {a b:Expr} {pos:Pos} {es:List Expr} {env:Env}:starEach (.Subscript a b pos::es) env=(false,eval (.Subscript a b pos) env)::starEach es env:=by rw [starEach]; intro e p h; cases h
theorem bn {f:Expr} {a:List Expr} {k:List Keyword} {pos:Pos} {es:List Expr} {env:Env}:starEach (.Call f a k pos::es) env=(false,eval (.Call f a k pos) env)::starEach es env:=by rw [starEach]; intro e p h; cases h
theorem ur {o:BoolOp} {v:List Expr} {pos:Pos} {es:List Expr} {env:Env}:starEach (.BoolOp o v pos::es) env=(false,eval (.BoolOp o v pos) env)::starEach es env:=by rw [starEach]; intro e p h; cases h
theorem dB {e:Expr} {g:List Comprehension} {sc:Scope} {pos:Pos} {es:List Expr} {env:Env}:starEach (.ListComp e g sc pos::es) env=(false,eval (.ListComp e g sc pos) env)::starEach es env:=by rw [starEach]; intro e p h; cases h
structure EvS (X:Cx) (H0:Hp) (O0:List Addr) (ps:PSt) (es:List Expr) (us:List U):Prop where
 a:EvA X H0 O0 ps es us
section
variable {X:Cx} {H0:Hp} {O0:List Addr} {ps:PSt} {e:Expr} {es:List Expr} {u:U} {us:List U} {pos:Pos}
theorem cE:EvS X H0 O0 ps [] []:=⟨ak⟩
theorem aX (ha:Ev X H0 O0 ps e u) (hr:EvS X H0 O0 ps es us) (hs:starEach (e::es) X.env=(false,eval e X.env)::starEach es X.env):EvS X H0 O0 ps (e::es) (u::us):=⟨ac ha hr.a hs⟩
theorem c_ {x1} (h:EvS X H0 O0 ps es us) (hz:us.length≤sizeLine:=by first | decide | (simp only [Dy,Fz]; decide)):Ev X H0 O0 ps (.Tuple es x1 pos) (.tup us):=BA h.a hz
theorem fN (h:EvS X H0 O0 ps es us) (hz:us.length≤sizeLine:=by first | decide | (simp only [Dy,Fz]; decide)):EvN X H0 O0 ps (.List es pos) us:=Bs h.a hz
end
end L2
namespace ST
open PySem PySem.SetTable
def Ris (xs:Array Nat):Prop:=∀ (i j x y:Nat),i < j→xs[i]?=some x→xs[j]?=some y→x < y
theorem Ris.inj {xs:Array Nat} (h:Ris xs) {i j x:Nat} (h1:xs[i]?=some x) (h2:xs[j]?=some x):i=j:=by
 rcases Ep i j with z | z | z
 ·exact absurd (h i j x x z h1 h2) (Dh _)
 ·exact z
 ·exact absurd (h j i x x z h2 h1) (Dh _)
theorem eH {xs:Array Nat} {i:Nat} (h:i < xs.size):xs[i]?=some xs[i]:=by simp [h]
theorem rP {xs:Array Nat} {i x:Nat} (h:xs[i]?=some x):i < xs.size:=(EK.mp h).1
theorem me {xs:Array Nat} (R:Ris xs) (j:Nat):∀ (fuel lo hi:Nat),lo≤hi→hi≤xs.size→hi - lo≤fuel→(∀ (i x:Nat),i < lo→xs[i]?=some x→x < j)→(∀ (i x:Nat),hi≤i→xs[i]?=some x→j≤x)→
  (∀ (i x:Nat),i < below.go xs j fuel lo hi→xs[i]?=some x→x < j)∧(∀ (i x:Nat),below.go xs j fuel lo hi≤i→xs[i]?=some x→j≤x)∧below.go xs j fuel lo hi≤xs.size
 | 0,lo,hi,h1,h2,h3,h4,h5=> by
  have e:lo=hi:=by omega
  subst e
  rw [below.go]
  exact ⟨h4,h5,h2⟩
 | fuel+1,lo,hi,h1,h2,h3,h4,h5=> by
  rw [below.go]
  by_cases hlt:lo < hi
  ·rw [if_pos hlt]
   have hm:(lo+hi) / 2 < xs.size:=by omega
   have e:xs.getD ((lo+hi) / 2) j=xs[(lo+hi) / 2]:=by simp [ED,hm]
   simp only [e]
   split
   ·rename_i hl
    refine me R j fuel _ hi (by omega) h2 (by omega) (fun i x hi' hx=> ?_) h5
    rcases CW (show i≤(lo+hi) / 2 by omega) with z | z
    ·exact Hf (R i _ x _ z hx (eH hm)) hl
    ·subst z; rw [eH hm] at hx; cases hx; exact hl
   ·rename_i hl
    refine me R j fuel lo _ (by omega) (by omega) (by omega) h4 (fun i x hi' hx=> ?_)
    rcases CW hi' with z | z
    ·exact DK (FX hl) (DF (R _ i _ x z (eH hm) hx))
    ·subst z; rw [eH hm] at hx; cases hx; exact FX hl
  ·rw [if_neg hlt]
   have e:lo=hi:=by omega
   subst e
   exact ⟨h4,h5,h2⟩
theorem fv {xs:Array Nat} (R:Ris xs) (j:Nat):(∀ (i x:Nat),i < below xs j→xs[i]?=some x→x < j)∧(∀ (i x:Nat),below xs j≤i→xs[i]?=some x→j≤x)∧below xs j≤xs.size:=
 me R j xs.size 0 xs.size (DG _) (Cv _) (by omega) (fun i x h=> absurd h (Ii _)) (fun i x h e=> absurd (rP e) (by omega))
theorem uj {xs:Array Nat} (R:Ris xs) {i j:Nat} (h:xs[i]?=some j):below xs j=i:=by
 obtain ⟨h1,h2,h3⟩:=fv R j
 rcases Ep (below xs j) i with z | z | z
 ·have hk:below xs j < xs.size:=Hf z (rP h)
  have:=h2 _ _ (Cv _) (eH hk)
  have:=R _ _ _ _ z (eH hk) h
  omega
 ·exact z
 ·have:=h1 i j z h
  omega
theorem lr {t:SetTable} (R:Ris t.place) {i j:Nat} (h:t.place[i]?=some j):t.slot j=.live i:=by
 unfold SetTable.slot
 simp only [uj R h,h,beq_self_eq_true,if_true]
theorem tU {t:SetTable} (hd:t.dummies=#[]) {j:Nat} (h:∀ i:Nat,t.place[i]?≠some j):t.slot j=.empty:=by
 unfold SetTable.slot
 have e:(t.place[below t.place j]?==some j)=false:=by simpa using h _
 simp only [e,hd]
 simp [SetTable.has]
theorem pw {t:SetTable} (R:Ris t.place) (hd:t.dummies=#[]) (j:Nat):(t.slot j=.empty∧∀ i:Nat,t.place[i]?≠some j)∨∃ i:Nat,t.slot j=.live i∧t.place[i]?=some j:=by
 by_cases h:∃ i:Nat,t.place[i]?=some j
 ·obtain ⟨i,hi⟩:=h
  exact .inr ⟨i,lr R hi,hi⟩
 ·exact .inl ⟨tU hd fun i e=> h ⟨i,e⟩,fun i e=> h ⟨i,e⟩⟩
theorem tw {xs:Array Nat} (R:Ris xs) {mask:Nat} (hn:xs.size≤mask):∃ s,s≤mask∧∀ i:Nat,xs[i]?≠some s:=by
 apply DP
 intro hno
 have all:∀ s,s≤mask→∃ i:Nat,xs[i]?=some s:=fun s hs=> by
  apply DP
  intro h
  exact hno ⟨s,hs,fun i e=> h ⟨i,e⟩⟩
 have key:∀ s,s≤mask→∃ i:Nat,xs[i]?=some s∧s≤i:=by
  intro s
  induction s with
  | zero=> intro h; obtain ⟨i,hi⟩:=all 0 h; exact ⟨i,hi,DG _⟩
  | succ s ih=>
   intro h
   obtain ⟨i,hi,hle⟩:=ih (by omega)
   obtain ⟨k,hk⟩:=all (s+1) h
   refine ⟨k,hk,?_⟩
   rcases Ep i k with z | z | z
   ·omega
   ·subst z; rw [hi] at hk; cases hk
   ·have:=R k i _ _ z hk hi; omega
 obtain ⟨i,hi,hle⟩:=key mask (Cv _)
 have:=rP hi
 omega
def adv (mask:Nat) (p:Probe):Probe:=
 if p.more > 0 then { p with j:=p.j+1,more:=p.more - 1 } else
 { p with j:=(leap mask p.i p.perturb).1,more:=runEnd mask (leap mask p.i p.perturb).1 - (leap mask p.i p.perturb).1,i:=(leap mask p.i p.perturb).1,perturb:=(leap mask p.i p.perturb).2 }
theorem j4 (t:SetTable) (p:Probe):t.advance p=adv t.mask p:=by
 unfold SetTable.advance adv
 split
 ·rfl
 ·rfl
def start (mask:Nat) (h:Int):Probe:={ j:=bits h % (mask+1),more:=runEnd mask (bits h % (mask+1)) - bits h % (mask+1),i:=bits h % (mask+1),perturb:=bits h,dummy:=none }
def pth (mask:Nat) (h:Int):Nat→Probe
 | 0=> start mask h
 | n+1=> adv mask (pth mask h n)
def a_ (mask:Nat) (h:Int):Nat→Nat×Nat
 | 0=> (bits h % (mask+1),bits h)
 | r+1=> leap mask (a_ mask h r).1 (a_ mask h r).2
theorem jh {mask:Nat}:∀ (m:Nat) (p:Probe) (f:Nat→Probe),f 0=p→(∀ n,f (n+1)=adv mask (f n))→m≤p.more→f m={ p with j:=p.j+m,more:=p.more - m }
 | 0,p,f,h0,_,_=> by rw [h0]; rfl
 | m+1,p,f,h0,hs,hm=> by
  rw [hs m,jh m p f h0 hs (by omega)]
  unfold adv
  rw [if_pos (by show p.more - m > 0; omega)]
  simp only [Probe.mk.injEq]
  exact ⟨by omega,by omega,trivial,trivial,trivial⟩
theorem jM (mask:Nat) (h:Int):∀ n,(pth mask h n).dummy=none
 | 0=> rfl
 | n+1=> by
  rw [pth]; unfold adv
  split
  ·exact jM mask h n
  ·exact jM mask h n
theorem tV (mask i:Nat):runEnd mask i - i≤9:=by unfold runEnd; split <;> omega
theorem rL (mask:Nat) (h:Int):∀ r,∃ n,n≤10 * r∧pth mask h n={ j:=(a_ mask h r).1,more:=runEnd mask (a_ mask h r).1 - (a_ mask h r).1,i:=(a_ mask h r).1,perturb:=(a_ mask h r).2,dummy:=none }
 | 0=> ⟨0,Cv _,rfl⟩
 | r+1=> by
  obtain ⟨n,hn,e⟩:=rL mask h r
  have hL:=tV mask (a_ mask h r).1
  have step:=jh (mask:=mask) (runEnd mask (a_ mask h r).1 - (a_ mask h r).1) (pth mask h n) (fun m=> pth mask h (n+m)) rfl (fun m=> rfl) (by rw [e]; exact Cv _)
  refine ⟨n+(runEnd mask (a_ mask h r).1 - (a_ mask h r).1)+1,by omega,?_⟩
  rw [pth]
  have step':pth mask h (n+(runEnd mask (a_ mask h r).1 - (a_ mask h r).1))=_:=step
  rw [step',e]
  unfold adv
  rw [if_neg (by simp)]
  rfl
theorem xw (h:Int):bits h < 2 ^ 64:=by
 unfold bits
 have h1:=DA h (show (2 ^ 64:Int)≠0 by decide)
 have h2:=C6 h (show (0:Int) < 2 ^ 64 by decide)
 omega
theorem kP (mask:Nat) (h:Int):∀ r,(a_ mask h r).2=bits h / 32 ^ r
 | 0=> by simp [a_]
 | r+1=> by
  rw [a_]
  show (a_ mask h r).2 / 32=_
  rw [kP mask h r,G6,EC]
theorem t3 (mask:Nat) (h:Int) (r:Nat) (hr:12≤r):(a_ mask h r).2 / 32=0:=by
 rw [kP]
 have h1:=xw h
 rw [G6]
 apply Nat.div_eq_of_lt
 have:32 ^ 12 * 32≤32 ^ r * 32:=Hs _ (Fn (by decide) hr)
 exact C5 (C5 h1 (by decide)) this
def cK:Nat→Nat
 | 0=> 1
 | k+1=> cK k * (4 * cK k+2)
theorem vD:∀ k,∃ m,cK k=2 ^ k * (2 * m+1)
 | 0=> ⟨0,by simp [cK]⟩
 | k+1=> by
  obtain ⟨m,e⟩:=vD k
  refine ⟨2 * (cK k) * m+m+cK k,?_⟩
  rw [cK,EC]
  have:cK k * (4 * cK k+2)=2 ^ k * (2 * m+1) * (4 * cK k+2):=by rw [← e]
  rw [this]
  generalize cK k=c
  generalize 2 ^ k=p
  grind
def gD:Nat→Nat→Nat
 | 0,x=> x
 | n+1,x=> 5 * gD n x+1
theorem ka (m x:Nat):∀ n,gD (m+n) x=gD n (gD m x)
 | 0=> rfl
 | n+1=> by rw [← Ja,gD,ka m x n,gD]
theorem jI:∀ (k x:Nat),gD (2 ^ k) x=(1+4 * cK k) * x+cK k
 | 0,x=> by simp [gD,cK]
 | k+1,x=> by
  rw [EC,Nat.mul_two,ka,jI k,jI k,cK]
  generalize cK k=c
  grind
theorem qa (k x:Nat):gD (2 ^ k) x % 2 ^ (k+1)=(x+2 ^ k) % 2 ^ (k+1):=by
 rw [jI]
 obtain ⟨m,e⟩:=vD k
 rw [e]
 have:(1+4 * (2 ^ k * (2 * m+1))) * x+2 ^ k * (2 * m+1)=(x+2 ^ k)+2 ^ (k+1) * (2 * (2 * m+1) * x+m):=by
  rw [EC]
  generalize 2 ^ k=p
  grind
 rw [this,Nat.add_mul_mod_self_left]
theorem gP (x:Nat):∀ (k y:Nat),∃ n,n < 2 ^ k∧gD n x % 2 ^ k=y % 2 ^ k
 | 0,y=> ⟨0,by simp,by simp [Nat.mod_one]⟩
 | k+1,y=> by
  obtain ⟨n,hn,e⟩:=gP x k y
  have hp:2 ^ (k+1)=2 ^ k+2 ^ k:=by rw [EC]; omega
  have h2:0 < 2 ^ k:=Nat.pow_pos (by decide)
  by_cases h:gD n x % 2 ^ (k+1)=y % 2 ^ (k+1)
  ·exact ⟨n,by omega,h⟩
  ·refine ⟨n+2 ^ k,by omega,?_⟩
   rw [ka,qa]
   generalize gD n x=z at *
   have d1:z % 2 ^ (k+1) % 2 ^ k=z % 2 ^ k:=HF _ ⟨2,by rw [EC]⟩
   have d2:y % 2 ^ (k+1) % 2 ^ k=y % 2 ^ k:=HF _ ⟨2,by rw [EC]⟩
   have l1:=DV z (show 0 < 2 ^ (k+1) by omega)
   have l2:=DV y (show 0 < 2 ^ (k+1) by omega)
   rw [← Hg]
   rw [← d1,← d2] at e
   generalize z % 2 ^ (k+1)=a at *
   generalize y % 2 ^ (k+1)=b at *
   rw [hp] at *
   generalize 2 ^ k=p at *
   have ea:a % p=if a < p then a else a - p:=by
    split
    ·exact CU (by assumption)
    ·rw [GA (by omega),CU (by omega)]
   have eb:b % p=if b < p then b else b - p:=by
    split
    ·exact CU (by assumption)
    ·rw [GA (by omega),CU (by omega)]
   rw [ea,eb] at e
   by_cases ha:a < p
   ·rw [if_pos ha] at e
    rw [CU (by omega)]
    split at e <;> omega
   ·rw [if_neg ha] at e
    rw [GA (by omega),CU (by omega)]
    split at e <;> omega
theorem kr {mask k:Nat} (hk:mask+1=2 ^ k) (h:Int):∀ q,(a_ mask h (12+q)).1=gD q (a_ mask h 12).1 % 2 ^ k
 | 0=> by
  rw [gD]
  have:(a_ mask h 12).1 < 2 ^ k:=by
   rw [← hk]
   show (leap mask (a_ mask h 11).1 (a_ mask h 11).2).1 < _
   exact DV _ (by omega)
  exact (CU this).symm
 | q+1=> by
  show (leap mask (a_ mask h (12+q)).1 (a_ mask h (12+q)).2).1=_
  unfold leap
  simp only [t3 mask h (12+q) (by omega)]
  rw [kr hk h q,hk,gD,Jl,Nat.mul_comm 5 _]
  generalize gD q (a_ mask h 12).1=z
  generalize 2 ^ k=m
  rw [Jv,Nat.mod_mul_mod,← Jv]
theorem cover {mask k:Nat} (hk:mask+1=2 ^ k) (h:Int) (s:Nat) (hs:s≤mask):∃ n,n < 10 * turns mask∧(pth mask h n).j=s:=by
 obtain ⟨q,hq,e⟩:=gP (a_ mask h 12).1 k s
 obtain ⟨n,hn,en⟩:=rL mask h (12+q)
 refine ⟨n,?_,?_⟩
 ·unfold turns; omega
 ·rw [en]
  show (a_ mask h (12+q)).1=s
  rw [kr hk h q,e]
  exact CU (by omega)
end ST
namespace ST
open PySem PySem.SetTable
def Liv (t:SetTable) (j:Nat):Prop:=∃ i:Nat,t.place[i]?=some j
structure TOk (t:SetTable) (hs:List Int):Prop where
 R:Ris t.place
 d:t.dummies=#[]
 k:∃ k,3≤k∧t.mask+1=2 ^ k
 n:t.place.size=hs.length
 f:t.place.size≤t.mask
 le:∀ (i x:Nat),t.place[i]?=some x→x≤t.mask
 reach:∀ (i j:Nat) (h:Int),t.place[i]?=some j→hs[i]?=some h→∃ m,(pth t.mask h m).j=j∧∀ m',m' < m→Liv t (pth t.mask h m').j
theorem least {P:Nat→Prop}:∀ n,P n→∃ m,m≤n∧P m∧∀ k,k < m→¬ P k:=by
 intro n
 induction n using Ij with
 | _ n ih=>
  intro h
  by_cases hk:∃ k,k < n∧P k
  ·obtain ⟨k,hk,hp⟩:=hk
   obtain ⟨m,h1,h2,h3⟩:=ih k hk hp
   exact ⟨m,by omega,h2,h3⟩
  ·exact ⟨n,Cv _,h,fun k hk' hp=> hk ⟨k,hk',hp⟩⟩
theorem pG {t:SetTable} {hs:List Int} (T:TOk t hs) (h:Int):∃ N,N < 10 * turns t.mask∧¬ Liv t (pth t.mask h N).j∧∀ m,m < N→Liv t (pth t.mask h m).j:=by
 obtain ⟨s,hs1,hs2⟩:=tw T.R T.f
 obtain ⟨k,_,hk⟩:=T.k
 obtain ⟨n,hn,e⟩:=cover hk h s hs1
 obtain ⟨m,h1,h2,h3⟩:=least (P:=fun n=> ¬ Liv t (pth t.mask h n).j) n (by show ¬ Liv t (pth t.mask h n).j; rw [e]; rintro ⟨i,hi⟩; exact hs2 i hi)
 exact ⟨m,by omega,h2,fun k hk'=> DP fun z=> h3 k hk' z⟩
theorem oX {t:SetTable} {hs:List Int} (T:TOk t hs) (hashAt:Nat→Int) (h:Int) {N:Nat} (h0:¬ Liv t (pth t.mask h N).j) (h1:∀ m,m < N→Liv t (pth t.mask h m).j):∀ (fuel n:Nat),n≤N→N - n < fuel→
  (probe.go t hashAt h fuel (pth t.mask h n)=some (.empty (pth t.mask h N).j none)∧∀ (m i:Nat),n≤m→m < N→t.place[i]?=some (pth t.mask h m).j→hashAt i≠h)∨
  ∃ m i:Nat,n≤m∧m < N∧t.place[i]?=some (pth t.mask h m).j∧hashAt i=h∧probe.go t hashAt h fuel (pth t.mask h n)=some (.candidate (pth t.mask h m).j i (pth t.mask h (m+1)))∧
   ∀ (m' i':Nat),n≤m'→m' < m→t.place[i']?=some (pth t.mask h m').j→hashAt i'≠h
 | 0,n,_,hf=> by omega
 | fuel+1,n,hn,hf=> by
  rw [probe.go]
  rcases pw T.R T.d (pth t.mask h n).j with ⟨e,hno⟩ | ⟨i,e,hi⟩
  ·have hN:n=N:=by
    rcases CW hn with z | z
    ·obtain ⟨i,hi⟩:=h1 n z; exact absurd hi (hno i)
    ·exact z
   subst hN
   refine .inl ⟨by simp only [e,jM],fun m i z1 z2=> by omega⟩
  ·have hN:n < N:=by
    rcases CW hn with z | z
    ·exact z
    ·subst z; exact absurd ⟨i,hi⟩ h0
   simp only [e]
   by_cases hh:hashAt i=h
   ·refine .inr ⟨n,i,Cv _,hN,hi,hh,?_,fun m' i' z1 z2=> by omega⟩
    simp only [hh,beq_self_eq_true,if_true,j4]
    rfl
   ·have hb:(hashAt i==h)=false:=by simpa using hh
    simp only [hb,CN,if_false,j4]
    have ih:=oX T hashAt h h0 h1 fuel (n+1) (by omega) (by omega)
    rcases ih with ⟨q1,q2⟩ | ⟨m,i2,q1,q2,q3,q4,q5,q6⟩
    ·refine .inl ⟨q1,fun m i' z1 z2 z3=> ?_⟩
     rcases CW z1 with z | z
     ·exact q2 m i' z z2 z3
     ·subst z
      rw [T.R.inj z3 hi]; exact hh
    ·refine .inr ⟨m,i2,by omega,q2,q3,q4,q5,fun m' i' z1 z2 z3=> ?_⟩
     rcases CW z1 with z | z
     ·exact q6 m' i' z z2 z3
     ·subst z
      rw [T.R.inj z3 hi]; exact hh
theorem u7 {t:SetTable} {hs:List Int} (T:TOk t hs) {h:Int} {N i:Nat} (h0:¬ Liv t (pth t.mask h N).j) (hi:hs[i]?=some h):∃ (m j:Nat),m < N∧t.place[i]?=some j∧(pth t.mask h m).j=j:=by
 have hlt:i < t.place.size:=by rw [T.n]; exact (Cz.mp hi).1
 obtain ⟨m,e,hm⟩:=T.reach i _ h (eH hlt) hi
 refine ⟨m,_,?_,eH hlt,e⟩
 rcases Ep m N with z | z | z
 ·exact z
 ·subst z; exact absurd ⟨i,by rw [e]; exact eH hlt⟩ h0
 ·exact absurd (hm N z) h0
theorem eR {α:Type} (xs:Array α) (p:Nat) (x:α):(insertAt xs p x).toList=xs.toList.take p++x::xs.toList.drop p:=by
 unfold insertAt
 simp [Array.toList_extract]
 exact E9 (by simp)
theorem cA {α:Type} {xs:Array α} {p:Nat} {x:α} (hp:p≤xs.size) (i:Nat):(insertAt xs p x)[i]?=if i < p then xs[i]? else if i=p then some x else xs[i - 1]?:=by
 rw [← DB,eR]
 have hl:(xs.toList.take p).length=p:=by simp; omega
 by_cases h1:i < p
 ·rw [if_pos h1,CP (by omega),Eb h1,DB]
 ·rw [if_neg h1,CQ (by omega),hl]
  by_cases h2:i=p
  ·subst h2; simp
  ·rw [if_neg h2]
   obtain ⟨q,hq⟩:∃ q,i - p=q+1:=⟨i - p - 1,by omega⟩
   rw [hq,FA,EN,DB]
   congr 1; omega
theorem gM {α:Type} (xs:Array α) (p:Nat) (x:α) (hp:p≤xs.size):(insertAt xs p x).size=xs.size+1:=by
 rw [← CV,eR]; simp; omega
def gF {α:Type} (xs:List α) (p:Nat) (x:α):List α:=xs.take p++x::xs.drop p
theorem wb {α:Type} {xs:List α} {p:Nat} {x:α} (hp:p≤xs.length) (i:Nat):(gF xs p x)[i]?=if i < p then xs[i]? else if i=p then some x else xs[i - 1]?:=by
 unfold gF
 have hl:(xs.take p).length=p:=by simp; omega
 by_cases h1:i < p
 ·rw [if_pos h1,CP (by omega),Eb h1]
 ·rw [if_neg h1,CQ (by omega),hl]
  by_cases h2:i=p
  ·subst h2; simp
  ·rw [if_neg h2]
   obtain ⟨q,hq⟩:∃ q,i - p=q+1:=⟨i - p - 1,by omega⟩
   rw [hq,FA,EN]
   congr 1; omega
theorem ye {xs:Array Nat} (R:Ris xs) {j:Nat} (hno:∀ i:Nat,xs[i]?≠some j):Ris (insertAt xs (below xs j) j):=by
 obtain ⟨h1,h2,h3⟩:=fv R j
 have gt:∀ (i x:Nat),below xs j≤i→xs[i]?=some x→j < x:=fun i x hi hx=> by
  rcases CW (h2 i x hi hx) with z | z
  ·exact z
  ·subst z; exact absurd hx (hno i)
 intro a b x y hab hx hy
 rw [cA h3] at hx hy
 by_cases a1:a < below xs j
 ·rw [if_pos a1] at hx
  by_cases b1:b < below xs j
  ·rw [if_pos b1] at hy; exact R a b x y hab hx hy
  ·rw [if_neg b1] at hy
   by_cases b2:b=below xs j
   ·rw [if_pos b2] at hy; cases hy; exact h1 a x a1 hx
   ·rw [if_neg b2] at hy; exact R a (b - 1) x y (by omega) hx hy
 ·rw [if_neg a1] at hx
  have b1:¬ b < below xs j:=by omega
  rw [if_neg b1] at hy
  have b2:¬ b=below xs j:=by omega
  rw [if_neg b2] at hy
  by_cases a2:a=below xs j
  ·rw [if_pos a2] at hx; cases hx; exact gt (b - 1) y (by omega) hy
  ·rw [if_neg a2] at hx; exact R (a - 1) (b - 1) x y (by omega) hx hy
theorem qy {xs:Array Nat} {p j:Nat} (hp:p≤xs.size) (s:Nat):(∃ i:Nat,(insertAt xs p j)[i]?=some s)↔s=j∨∃ i:Nat,xs[i]?=some s:=by
 constructor
 ·rintro ⟨i,hi⟩
  rw [cA hp] at hi
  split at hi
  ·exact .inr ⟨i,hi⟩
  ·split at hi
   ·cases hi; exact .inl rfl
   ·exact .inr ⟨i - 1,hi⟩
 ·rintro (rfl | ⟨i,hi⟩)
  ·exact ⟨p,by rw [cA hp,if_neg (Dh _),if_pos rfl]⟩
  ·by_cases h:i < p
   ·exact ⟨i,by rw [cA hp,if_pos h]; exact hi⟩
   ·exact ⟨i+1,by rw [cA hp,if_neg (by omega),if_neg (by omega)]; simpa using hi⟩
theorem TOk.put {t:SetTable} {hs:List Int} (T:TOk t hs) {h:Int} {N:Nat} (h0:¬ Liv t (pth t.mask h N).j) (h1:∀ m,m < N→Liv t (pth t.mask h m).j) (hle:(pth t.mask h N).j≤t.mask) (hf:t.place.size+1≤t.mask):
  TOk (t.put (pth t.mask h N).j).1 (gF hs (t.put (pth t.mask h N).j).2 h):=by
 have hno:∀ i:Nat,t.place[i]?≠some (pth t.mask h N).j:=fun i e=> h0 ⟨i,e⟩
 obtain ⟨_,_,hb⟩:=fv T.R (pth t.mask h N).j
 have hbl:below t.place (pth t.mask h N).j≤hs.length:=by rw [← T.n]; exact hb
 have ed:(if SetTable.has t.dummies (pth t.mask h N).j then eraseAt t.dummies (below t.dummies (pth t.mask h N).j) else t.dummies)=#[]:=by
  rw [T.d]; simp [SetTable.has]
 unfold SetTable.put
 simp only [ed]
 refine ⟨ye T.R hno,rfl,T.k,?_,?_,fun i x e=> ?_,fun i j hh e1 e2=> ?_⟩
 ·show (insertAt _ _ _).size=(gF hs _ h).length
  rw [gM _ _ _ hb,T.n]; unfold gF; simp; omega
 ·show (insertAt _ _ _).size≤t.mask
  rw [gM _ _ _ hb]; exact hf
 ·rcases (qy hb x).mp ⟨i,e⟩ with z | ⟨q,hq⟩
  ·rw [z]; exact hle
  ·exact T.le q x hq
 ·have liv:∀ s,Liv t s→Liv { t with place:=insertAt t.place (below t.place (pth t.mask h N).j) (pth t.mask h N).j,dummies:=#[] } s:=fun s z=> (qy hb s).mpr (.inr z)
  change (insertAt t.place _ _)[i]?=some j at e1
  rw [cA hb] at e1
  rw [wb hbl] at e2
  split at e1
  ·rename_i z
   rw [if_pos z] at e2
   obtain ⟨m,q1,q2⟩:=T.reach i j hh e1 e2
   exact ⟨m,q1,fun m' hm=> liv _ (q2 m' hm)⟩
  ·rename_i z
   rw [if_neg z] at e2
   split at e1
   ·rename_i z2
    rw [if_pos z2] at e2
    cases e1; cases e2
    exact ⟨N,rfl,fun m' hm=> liv _ (h1 m' hm)⟩
   ·rename_i z2
    rw [if_neg z2] at e2
    obtain ⟨m,q1,q2⟩:=T.reach (i - 1) j hh e1 e2
    exact ⟨m,q1,fun m' hm=> liv _ (q2 m' hm)⟩
theorem w4 {mask:Nat} (h:Int):∀ n,(pth mask h n).j+(pth mask h n).more≤mask
 | 0=> by
  show bits h % (mask+1)+(runEnd mask (bits h % (mask+1)) - bits h % (mask+1))≤mask
  have:=DV (bits h) (show 0 < mask+1 by omega)
  unfold runEnd; split <;> omega
 | n+1=> by
  have ih:=w4 (mask:=mask) h n
  rw [pth]; unfold adv
  split
  ·simp only; omega
  ·show (leap mask _ _).1+(runEnd mask (leap mask _ _).1 - (leap mask _ _).1)≤mask
   have:(leap mask (pth mask h n).i (pth mask h n).perturb).1 < mask+1:=DV _ (by omega)
   unfold runEnd; split <;> omega
end ST
namespace ST
open PySem PySem.SetTable
def OL (owner:Array (Option Nat)) (j:Nat):Prop:=∃ k:Nat,owner[j]?=some (some k)
def nr (mask:Nat) (h:Int):Nat→Nat
 | 0=> 0
 | r+1=> nr mask h r+(runEnd mask (a_ mask h r).1 - (a_ mask h r).1)+1
theorem zj (mask:Nat) (h:Int):∀ r,pth mask h (nr mask h r)={ j:=(a_ mask h r).1,more:=runEnd mask (a_ mask h r).1 - (a_ mask h r).1,i:=(a_ mask h r).1,perturb:=(a_ mask h r).2,dummy:=none }
 | 0=> rfl
 | r+1=> by
  have e:=zj mask h r
  have step:=jh (mask:=mask) (runEnd mask (a_ mask h r).1 - (a_ mask h r).1) (pth mask h (nr mask h r)) (fun m=> pth mask h (nr mask h r+m)) rfl (fun m=> rfl) (by rw [e]; exact Cv _)
  have step':pth mask h (nr mask h r+(runEnd mask (a_ mask h r).1 - (a_ mask h r).1))=_:=step
  rw [nr,pth,step',e]
  unfold adv
  rw [if_neg (by simp)]
  rfl
theorem pJ (mask:Nat) (h:Int) (r k:Nat) (hk:k≤runEnd mask (a_ mask h r).1 - (a_ mask h r).1):(pth mask h (nr mask h r+k)).j=(a_ mask h r).1+k:=by
 have e:=zj mask h r
 have step:=jh (mask:=mask) k (pth mask h (nr mask h r)) (fun m=> pth mask h (nr mask h r+m)) rfl (fun m=> rfl) (by rw [e]; exact hk)
 have step':pth mask h (nr mask h r+k)=_:=step
 rw [step',e]
theorem rZ (mask i:Nat):i≤runEnd mask i:=by unfold runEnd; split <;> omega
theorem yM (mask:Nat) (h:Int):∀ r,(a_ mask h r).1≤mask
 | 0=> Ec (DV _ (by omega))
 | r+1=> Ec (DV _ (by omega))
theorem oK {mask i:Nat} (h:i≤mask):runEnd mask i≤mask:=by unfold runEnd; split <;> omega
theorem qS {mask:Nat} {owner:Array (Option Nat)} (hsz:owner.size=mask+1) (h:Int):∀ (fuel r:Nat),(∃ r',r≤r'∧r' < r+fuel∧owner[(a_ mask h r').1]?=some none)→(∀ m,m < nr mask h r→OL owner (pth mask h m).j)→
  ∃ N,layClean.free mask owner fuel (a_ mask h r).1 (a_ mask h r).2=some (pth mask h N).j∧owner[(pth mask h N).j]?=some none∧∀ m,m < N→OL owner (pth mask h m).j
 | 0,r,⟨r',h1,h2,_⟩,_=> by omega
 | fuel+1,r,hex,hl=> by
  rw [layClean.free]
  have hge:=rZ mask (a_ mask h r).1
  have hmk:=oK (yM mask h r)
  have hin:∀ k,k < runEnd mask (a_ mask h r).1+1 - (a_ mask h r).1→(a_ mask h r).1+k < owner.size:=fun k hk=> by omega
  cases hf:(Df (runEnd mask (a_ mask h r).1+1 - (a_ mask h r).1)).find? fun k=> (owner.getD ((a_ mask h r).1+k) (some 0)).isNone with
  | some k=>
   obtain ⟨p1,p2,p3⟩:=List.find?_range_eq_some.mp hf
   have hk:=CF.mp p2
   have hlt:=hin k hk
   have e1:owner[(a_ mask h r).1+k]?=some none:=by
    have:owner.getD ((a_ mask h r).1+k) (some 0)=owner[(a_ mask h r).1+k]:=by simp [ED,hlt]
    rw [this] at p1
    have:owner[(a_ mask h r).1+k]=none:=by simpa using p1
    simp [hlt,this]
   have ej:=pJ mask h r k (by omega)
   refine ⟨nr mask h r+k,by simp only [ej],by rw [ej]; exact e1,fun m hm=> ?_⟩
   by_cases hm1:m < nr mask h r
   ·exact hl m hm1
   ·obtain ⟨q,rfl⟩:∃ q,m=nr mask h r+q:=⟨m - nr mask h r,by omega⟩
    have hq:=p3 q (by omega)
    have hlt2:=hin q (by omega)
    rw [pJ mask h r q (by omega)]
    have:owner.getD ((a_ mask h r).1+q) (some 0)=owner[(a_ mask h r).1+q]:=by simp [ED,hlt2]
    rw [this] at hq
    cases hv:owner[(a_ mask h r).1+q] with
    | none=> rw [hv] at hq; simp at hq
    | some v=> exact ⟨v,by simp [hlt2,hv]⟩
  | none=>
   have hall:∀ q,q < runEnd mask (a_ mask h r).1+1 - (a_ mask h r).1→OL owner ((a_ mask h r).1+q):=fun q hq=> by
    have:=List.find?_eq_none.mp hf q (CF.mpr hq)
    have hlt2:=hin q hq
    have e:owner.getD ((a_ mask h r).1+q) (some 0)=owner[(a_ mask h r).1+q]:=by simp [ED,hlt2]
    rw [e] at this
    cases hv:owner[(a_ mask h r).1+q] with
    | none=> rw [hv] at this; simp at this
    | some v=> exact ⟨v,by simp [hlt2,hv]⟩
   have next:=qS hsz h fuel (r+1) (by
    obtain ⟨r',h1,h2,h3⟩:=hex
    refine ⟨r',?_,by omega,h3⟩
    rcases CW h1 with z | z
    ·exact z
    ·subst z
     obtain ⟨v,hv⟩:=hall 0 (by omega)
     rw [Jl,h3] at hv
     cases hv) (fun m hm=> by
    by_cases hm1:m < nr mask h r
    ·exact hl m hm1
    ·obtain ⟨q,rfl⟩:∃ q,m=nr mask h r+q:=⟨m - nr mask h r,by omega⟩
     have hm2:nr mask h r+q < nr mask h r+(runEnd mask (a_ mask h r).1 - (a_ mask h r).1)+1:=hm
     rw [pJ mask h r q (by omega)]
     exact hall q (by omega))
   exact next
structure OI (mask:Nat) (owner:Array (Option Nat)) (hs:List Int):Prop where
 sz:owner.size=mask+1
 lt:∀ (j k:Nat),owner[j]?=some (some k)→k < hs.length
 inj:∀ (i j k:Nat),owner[i]?=some (some k)→owner[j]?=some (some k)→i=j
 all:∀ k:Nat,k < hs.length→∃ j:Nat,owner[j]?=some (some k)
 reach:∀ (j k:Nat) (h:Int),owner[j]?=some (some k)→hs[k]?=some h→∃ m,(pth mask h m).j=j∧∀ m',m' < m→OL owner (pth mask h m').j
theorem OI.free {mask:Nat} {owner:Array (Option Nat)} {hs:List Int} (O:OI mask owner hs) (hn:hs.length≤mask):∃ s,s≤mask∧owner[s]?=some none:=by
 apply DP
 intro hno
 have hlive:∀ s,s≤mask→OL owner s:=fun s hs'=> by
  have hlt:s < owner.size:=by rw [O.sz]; omega
  cases e:owner[s] with
  | none=> exact absurd ⟨s,hs',by simp [hlt,e]⟩ hno
  | some k=> exact ⟨k,by simp [hlt,e]⟩
 have nd:((Df (mask+1)).map fun s=> (owner.getD s none).getD 0).Nodup:=by
  rw [Gu,Dw]
  refine GN ?_ (G7 (n:=mask+1))
  intro a b ha hb hab e
  obtain ⟨k1,h1⟩:=hlive a (by have:=CF.mp ha; omega)
  obtain ⟨k2,h2⟩:=hlive b (by have:=CF.mp hb; omega)
  have e1:(owner.getD a none).getD 0=k1:=by simp [DS,h1]
  have e2:(owner.getD b none).getD 0=k2:=by simp [DS,h2]
  rw [e1,e2] at e
  subst e
  have:=O.inj a b k1 h1 h2
  omega
 have sub:((Df (mask+1)).map fun s=> (owner.getD s none).getD 0) ⊆ Df hs.length:=by
  intro x hx
  obtain ⟨s,hs1,rfl⟩:=Cr.mp hx
  obtain ⟨k1,h1⟩:=hlive s (by have:=CF.mp hs1; omega)
  have e1:(owner.getD s none).getD 0=k1:=by simp [DS,h1]
  rw [e1]
  exact CF.mpr (O.lt s k1 h1)
 have:=HU nd sub
 simp at this
 omega
theorem OI.step {mask k:Nat} (hk:mask+1=2 ^ k) {owner:Array (Option Nat)} {hs:List Int} (O:OI mask owner hs) (hn:hs.length≤mask) (h:Int):
  ∃ j,layClean.free mask owner (turns mask) (bits h % (mask+1)) (bits h)=some j∧OI mask (owner.setIfInBounds j (some hs.length)) (hs++[h]):=by
 obtain ⟨s,hs1,hs2⟩:=O.free hn
 obtain ⟨q,hq,e⟩:=gP (a_ mask h 12).1 k s
 have er:(a_ mask h (12+q)).1=s:=by rw [kr hk h q,e]; exact CU (by omega)
 obtain ⟨N,f1,f2,f3⟩:=qS O.sz h (turns mask) 0 ⟨12+q,DG _,by unfold turns; omega,by rw [er]; exact hs2⟩ (fun m hm=> absurd hm (Ii _))
 refine ⟨_,f1,?_⟩
 generalize hj:(pth mask h N).j=j at *
 have hjs:j < owner.size:=(EK.mp f2).1
 have get:∀ i:Nat,(owner.setIfInBounds j (some hs.length))[i]?=if j=i then some (some hs.length) else owner[i]?:=fun i=> by
  rw [Array.getElem?_setIfInBounds]
  split
  ·rename_i z; subst z; simp [hjs]
  ·rfl
 have liv:∀ i,OL owner i→OL (owner.setIfInBounds j (some hs.length)) i:=fun i ⟨v,hv⟩=> by
  refine ⟨v,?_⟩
  rw [get,if_neg (fun z=> by subst z; rw [f2] at hv; cases hv)]
  exact hv
 refine ⟨by simp [O.sz],fun i v e=> ?_,fun a b v e1 e2=> ?_,fun v hv=> ?_,fun i v hh e1 e2=> ?_⟩
 ·rw [get] at e
  split at e
  ·cases e; simp
  ·have:=O.lt i v e; simp; omega
 ·rw [get] at e1 e2
  split at e1 <;> split at e2
  ·omega
  ·cases e1; exact absurd (O.lt b _ e2) (Dh _)
  ·cases e2; exact absurd (O.lt a _ e1) (Dh _)
  ·exact O.inj a b v e1 e2
 ·simp at hv
  rcases CW (Ec hv) with z | z
  ·obtain ⟨i,hi⟩:=O.all v z
   refine ⟨i,?_⟩
   rw [get,if_neg (fun y=> by subst y; rw [f2] at hi; cases hi)]
   exact hi
  ·subst z; exact ⟨j,by rw [get,if_pos rfl]⟩
 ·rw [get] at e1
  split at e1
  ·rename_i z
   cases e1
   rw [CQ (Cv _)] at e2
   simp at e2
   subst e2
   exact ⟨N,by rw [hj]; exact z,fun m hm=> liv _ (f3 m hm)⟩
  ·have hv:=O.lt i v e1
   rw [CP hv] at e2
   obtain ⟨m,q1,q2⟩:=O.reach i v hh e1 e2
   exact ⟨m,q1,fun m' hm=> liv _ (q2 m' hm)⟩
theorem qA {mask k:Nat} (hk:mask+1=2 ^ k):∀ (more done:List Int) (owner:Array (Option Nat)),OI mask owner done→done.length+more.length≤mask+1→∃ owner',more.foldl (fun acc h=> do
  let (owner,k) ← acc
  let j ← layClean.free mask owner (turns mask) (bits h % (mask+1)) (bits h)
  pure (owner.setIfInBounds j (some k),k+1)) (some (owner,done.length))=some (owner',done.length+more.length)∧OI mask owner' (done++more)
 | [],done,owner,O,_=> ⟨owner,by simp,by simpa using O⟩
 | h::more,done,owner,O,hl=> by
  obtain ⟨j,e,O2⟩:=O.step hk (by simp at hl; omega) h
  obtain ⟨ow,e2,O3⟩:=qA hk more (done++[h]) _ O2 (by simp at hl ⊢; omega)
  refine ⟨ow,?_,by simpa using O3⟩
  rw [Ew]
  have:(do
   let (owner,k) ← some (owner,done.length)
   let j ← layClean.free mask owner (turns mask) (bits h % (mask+1)) (bits h)
   pure (owner.setIfInBounds j (some k),k+1):Option (Array (Option Nat)×Nat))=some (owner.setIfInBounds j (some done.length),done.length+1):=by
   simp [e]
  rw [this]
  simp only [Dv,Hb] at e2
  rw [e2]
  simp; omega
theorem nh {mask k:Nat} (hk:mask+1=2 ^ k) {hs:Array Int} (hl:hs.size≤mask+1):∃ owner,layClean mask hs=some owner∧OI mask owner hs.toList:=by
 have O0:OI mask (Array.replicate (mask+1) none) []:=⟨by simp,fun j k e=> by simp [Ft] at e,fun i j k e=> by simp [Ft] at e,fun k h=> by simp at h,fun j k h e=> by simp [Ft] at e⟩
 obtain ⟨ow,e,O⟩:=qA hk hs.toList [] _ O0 (by simpa using hl)
 refine ⟨ow,?_,by simpa using O⟩
 unfold layClean
 rw [← Array.foldl_toList]
 simp only [Fz] at e
 rw [e]
 rfl
end ST
namespace ST
open PySem PySem.SetTable
theorem oY (n:Nat):∀ (fuel k:Nat),n < 2 ^ (k+fuel)→∃ k',k≤k'∧sizeAbove.go n fuel (2 ^ k)=2 ^ k'∧n < 2 ^ k'∧(2 ^ k'≤2 * n∨k'=k)
 | 0,k,h=> ⟨k,Cv _,rfl,by simpa using h,.inr rfl⟩
 | fuel+1,k,h=> by
  rw [sizeAbove.go]
  by_cases hle:2 ^ k≤n
  ·rw [if_pos hle,← EC]
   obtain ⟨k',h1,h2,h3,h4⟩:=oY n fuel (k+1) (by rw [show k+1+fuel=k+(fuel+1) by omega]; exact h)
   refine ⟨k',by omega,h2,h3,.inl ?_⟩
   rcases h4 with z | z
   ·exact z
   ·subst z; rw [EC]; omega
  ·rw [if_neg hle]
   exact ⟨k,Cv _,rfl,by omega,.inr rfl⟩
theorem above (n:Nat) (h:n < 2 ^ 60):∃ k,3≤k∧sizeAbove n=2 ^ k∧n < 2 ^ k∧2 ^ k≤2 * n+8:=by
 obtain ⟨k,h1,h2,h3,h4⟩:=oY n 64 3 (C5 h (Fn (by decide) (by decide)))
 refine ⟨k,h1,h2,h3,?_⟩
 rcases h4 with z | z
 ·omega
 ·subst z; omega
def dL (mask:Nat) (owner:Array (Option Nat)):List (Nat×Nat):=(Df (mask+1)).filterMap fun j=> (owner.getD j none).map (j,·)
theorem nV (owner:Array (Option Nat)):∀ l:List Nat,(l.filterMap fun j=> (owner.getD j none).map (j,·)).map (·.1)=l.filter fun j=> (owner.getD j none).isSome
 | []=> rfl
 | a::l=> by
  have ih:=nV owner l
  rw [D_,G1]
  cases owner.getD a none with
  | none=> simpa using ih
  | some v=> simpa using ih
theorem d7 {mask:Nat} {owner:Array (Option Nat)} (hsz:owner.size=mask+1) (j k:Nat):(j,k)∈dL mask owner↔owner[j]?=some (some k):=by
 unfold dL
 rw [Fu]
 constructor
 ·rintro ⟨a,ha,e⟩
  have hlt:a < owner.size:=by rw [hsz]; exact CF.mp ha
  cases hv:owner.getD a none with
  | none=> rw [hv] at e; cases e
  | some v=>
   rw [hv] at e
   cases e
   have:owner.getD j none=owner[j]:=by simp [ED,hlt]
   rw [this] at hv
   simp [hlt,hv]
 ·intro e
  have hlt:=(EK.mp e).1
  refine ⟨j,CF.mpr (by omega),?_⟩
  rw [DS,e]; rfl
theorem tH (mask:Nat) (owner:Array (Option Nat)):(dL mask owner).Pairwise fun a b=> a.1 < b.1:=by
 have:=(G7 (n:=mask+1)).filter fun j=> (owner.getD j none).isSome
 rw [← nV owner (Df (mask+1)),Dw] at this
 exact this
theorem Aq {l:List Nat} (h:l.Pairwise (· < ·)):Ris l.toArray:=by
 intro i j x y hij hx hy
 rw [Ff] at hx hy
 obtain ⟨h1,e1⟩:=Cz.mp hx
 obtain ⟨h2,e2⟩:=Cz.mp hy
 have:=C4.mp h i j h1 h2 hij
 rw [e1,e2] at this
 exact this
theorem yc {mask k:Nat} (h3:3≤k) (hk:mask+1=2 ^ k) {hs:Array Int} (hl:hs.size≤mask) (finger moves:Nat) (led plain:Bool):
  ∃ t order,laid mask finger moves led plain hs=some (t,order)∧TOk t (order.toList.map fun i=> hs.getD i 0)∧order.toList.Perm (Df hs.size)∧t.mask=mask∧t.led=led∧t.plain=plain∧t.moves=moves:=by
 obtain ⟨owner,e,O⟩:=nh hk (hs:=hs) (by omega)
 have pr:=tH mask owner
 have nd:((dL mask owner).map (·.2)).Nodup:=by
  rw [Gu,Dw]
  refine GN ?_ pr
  intro a b ha hb hab ee
  have h1:=(d7 O.sz a.1 a.2).mp ha
  have h2:=(d7 O.sz b.1 b.2).mp hb
  rw [ee] at h1
  have:=O.inj a.1 b.1 b.2 h1 h2
  omega
 have perm:((dL mask owner).map (·.2)).Perm (Df hs.size):=by
  refine (DX nd Ey).mpr fun x=> ?_
  rw [Cr,CF]
  constructor
  ·rintro ⟨⟨j,v⟩,hm,rfl⟩
   have:=O.lt j v ((d7 O.sz j v).mp hm)
   simpa using this
  ·intro hx
   obtain ⟨j,hj⟩:=O.all x (by simpa using hx)
   exact ⟨(j,x),(d7 O.sz j x).mpr hj,rfl⟩
 have len:(dL mask owner).length=hs.size:=by have:=perm.length_eq; simpa using this
 refine ⟨_,_,by unfold laid; rw [e]; rfl,⟨?_,rfl,⟨k,h3,hk⟩,?_,?_,fun i x ee=> ?_,fun i j h e1 e2=> ?_⟩,?_,rfl,rfl,rfl,rfl⟩
 ·show Ris ((dL mask owner).map (·.1)).toArray
  exact Aq (by rw [Dw]; exact pr)
 ·show ((dL mask owner).map (·.1)).toArray.size=_
  simp [dL]
 ·show ((dL mask owner).map (·.1)).toArray.size≤mask
  simp [len,hl]
 ·change ((dL mask owner).map (·.1)).toArray[i]?=some x at ee
  rw [Ff,Ct] at ee
  cases q:(dL mask owner)[i]? with
  | none=> rw [q] at ee; cases ee
  | some p=>
   rw [q] at ee
   cases ee
   have:=(d7 O.sz p.1 p.2).mp (CM q)
   have:=(EK.mp this).1
   show p.1≤mask
   have hz:=O.sz
   omega
 ·change ((dL mask owner).map (·.1)).toArray[i]?=some j at e1
  change (((dL mask owner).map (·.2)).toArray.toList.map fun i=> hs.getD i 0)[i]?=some h at e2
  rw [Ff,Ct] at e1
  rw [Ct,Ct] at e2
  cases q:(dL mask owner)[i]? with
  | none=> rw [q] at e1; cases e1
  | some p=>
   rw [q] at e1 e2
   cases e1
   have hp:=(d7 O.sz p.1 p.2).mp (CM q)
   have hlt:=O.lt _ _ hp
   have e3:hs.toList[p.2]?=some h:=by
    have e4:hs.getD p.2 0=h:=by simpa using e2
    have:p.2 < hs.size:=by simpa using hlt
    rw [← e4]
    simp [ED,this]
   obtain ⟨m,q1,q2⟩:=O.reach _ _ h hp e3
   refine ⟨m,q1,fun m' hm=> ?_⟩
   obtain ⟨v,hv⟩:=q2 m' hm
   obtain ⟨n,hn⟩:=Ds.mp ((d7 O.sz _ v).mpr hv)
   refine ⟨n,?_⟩
   show ((dL mask owner).map (·.1)).toArray[n]?=_
   rw [Ff,Ct,hn]; rfl
 ·show ((dL mask owner).map (·.2)).toArray.toList.Perm _
  simpa using perm
end ST
namespace ST
open PySem PySem.SetTable
section
variable {prog:Program} {w:World} {A:Around} {E:Value→Shared→Prop} {s:Shared}
abbrev TK (prog:Program) (w:World) (h:Heap) (k:List Int) (b:Addr):Prop:=IsTupleKey (intKind prog w) h k b
abbrev hsh (prog:Program) (w:World) (k:List Int):Int:=tupleKeyHash (intKind prog w) k
theorem TK.ints {h:Heap} {k:List Int} {vs:List Value} (x:ItemsAre (intKind prog w) k vs):∀ v∈vs,∃ n t,v=.int n t:=by
 induction x with
 | nil=> intro v hv; simp at hv
 | cons h1 _ ih=>
  intro v hv
  rcases Cu.mp hv with rfl | hv
  ·obtain ⟨t,rfl⟩:=FG h1; exact ⟨_,t,rfl⟩
  ·exact ih v hv
theorem lu {k:List Int} {a:Addr} {Q:Bool→Shared→Prop} (hk:TK prog w s.heap k a) (h:Q false s):wpAny (model prog w) A (ofAClassStatement 8 (.ref a)) Q E s:=by
 have hT:=hk.typeIs
 obtain ⟨o,items,n,ho,_,hd,hi⟩:=hk
 unfold ofAClassStatement
 refine wpAny_bind (wpAny_typeOf hT ?_)
 dsimp only
 rw [if_pos (by decide)]
 refine wpAny_bind (wpAny_pure ?_)
 simp only [EZ,CN,if_false]
 refine wpAny_bind (wpAny_seqItems ho hd ?_)
 dsimp only
 refine wpAny_bind ?_
 rw [← FB]
 refine wpAny_forIn_list _ (fun rest r s'=> r.1=none∧s'=s∧∀ v∈rest,∃ n t,v=Dm n t) _ ?_ ?_ _ _ ⟨rfl,rfl,TK.ints (h:=s.heap) hi⟩
 ·rintro v rest r s' ⟨hr,rfl,hall⟩
  obtain ⟨n,t,rfl⟩:=hall v Cy
  have e:ofAClassStatement 7 (Dm n t)=pure false:=by unfold ofAClassStatement; rfl
  rw [e]
  refine wpAny_bind (wpAny_pure ?_)
  simp only [CN,if_false]
  exact wpAny_pure ⟨rfl,rfl,fun u hu'=> hall u (Cp _ hu')⟩
 ·rintro ⟨r1,r2⟩ s' ⟨hr,rfl,_⟩
  simp only at hr
  subst hr
  exact wpAny_pure h
theorem A9 {k:List Int} {a:Addr} {Q:Bool→Shared→Prop} (hk:TK prog w s.heap k a) (h:Q true s):wpAny (model prog w) A (hashByValue 8 (.ref a)) Q E s:=by
 have hT:=hk.typeIs
 obtain ⟨o,items,n,ho,_,hd,hi⟩:=hk
 unfold hashByValue
 refine wpAny_bind (wpAny_specialOf hT F.slot_tuple_hash.lookup ?_)
 show wpAny _ _ (seqItems? (.ref a) >>=_) _ _ s
 refine wpAny_bind (wpAny_seqItems ho hd ?_)
 refine wpAny_bind ?_
 show wpAny _ _ (forIn items _ _) _ _ s
 rw [← FB]
 refine wpAny_forIn_list _ (fun rest r s'=> r.1=none∧s'=s∧∀ v∈rest,∃ n t,v=Dm n t) _ ?_ ?_ _ _ ⟨rfl,rfl,TK.ints (h:=s.heap) hi⟩
 ·rintro v rest r s' ⟨hr,rfl,hall⟩
  obtain ⟨n,t,rfl⟩:=hall v Cy
  have e:hashByValue 7 (Dm n t)=pure true:=by unfold hashByValue; rfl
  rw [e]
  refine wpAny_bind (wpAny_pure ?_)
  simp only [EZ,CN,if_false]
  exact wpAny_pure ⟨rfl,rfl,fun u hu'=> hall u (Cp _ hu')⟩
 ·rintro ⟨r1,r2⟩ s' ⟨hr,rfl,_⟩
  simp only at hr
  subst hr
  exact wpAny_pure h
theorem pX {k:List Int} {a:Addr} {l:List Value} {Q:Bool→Shared→Prop} (hk:TK prog w s.heap k a) (hl:∀ v∈l,∃ k' b,v=.ref b∧TK prog w s.heap k' b) (h:Q false s):
  wpAny (model prog w) A (searchCouldBeSeen (.ref a) l) Q E s:=by
 unfold searchCouldBeSeen
 refine wpAny_bind ?_
 refine wpAny_forIn_list _ (fun rest r s'=> r.1=none∧s'=s∧∀ v∈rest,∃ k' b,v=.ref b∧TK prog w s.heap k' b) _ ?_ ?_ _ _ ⟨rfl,rfl,hl⟩
 ·rintro v rest r s' ⟨hr,rfl,hall⟩
  obtain ⟨k',b,rfl,hb⟩:=hall v Cy
  dsimp only
  split
  ·exact wpAny_pure ⟨rfl,rfl,fun u hu'=> hall u (Cp _ hu')⟩
  ·refine wpAny_bind (wpAny_eqIsQuiet_tuple hk ?_)
   simp only [EZ,CN,if_false]
   refine wpAny_bind (wpAny_eqIsQuiet_tuple hb ?_)
   simp only [EZ,CN,if_false]
   refine wpAny_bind (lu hk ?_)
   simp only [CN,if_false]
   refine wpAny_bind (lu hb ?_)
   simp only [CN,if_false]
   exact wpAny_pure ⟨rfl,rfl,fun u hu'=> hall u (Cp _ hu')⟩
 ·rintro ⟨r1,r2⟩ s' ⟨hr,rfl,_⟩
  simp only at hr
  subst hr
  exact wpAny_pure h
def fI (prog:Program) (w:World) (kb:List (List Int×Addr)):List (Int×Value):=kb.map fun p=> (hsh prog w p.1,.ref p.2)
theorem qN {kb:List (List Int×Addr)} {i:Nat}:(fI prog w kb)[i]?=(kb[i]?).map fun p=> (hsh prog w p.1,.ref p.2):=by unfold fI; rw [Ct]
theorem xq (kb:List (List Int×Addr)):(fI prog w kb).map (·.1)=kb.map fun p=> hsh prog w p.1:=by unfold fI; rw [Dz]; rfl
theorem TOk.fits {t:SetTable} {hs:List Int} (T:TOk t hs) {n:Nat} (hn:hs.length=n):t.fits n=true:=by
 have h1:=T.n
 have h2:=T.f
 have h3:t.fill=t.place.size:=by unfold fill; rw [T.d]; rfl
 unfold SetTable.fits
 rw [h3]
 simp [h1,hn]
 omega
theorem TOk.gave {t:SetTable} {hs:List Int} (T:TOk t hs):t.gaveWay=false:=by
 obtain ⟨k,h3,hk⟩:=T.k
 unfold SetTable.gaveWay
 obtain ⟨j,rfl⟩:∃ j,k=j+1:=⟨k - 1,by omega⟩
 rw [EC] at hk
 have:t.mask % 2=1:=by omega
 simp [this]
theorem n9 {S:Addr} {o:Obj} {es:Array (Int×Value)} {ep:Nat} {t:SetTable} {kb:List (List Int×Addr)} {k:List Int} {x:Addr} (hu:A.units < cLine)
  (ho:s.heap.get? S=some o) (hd:o.data=.set es ep t) (he:es.toList=fI prog w kb) (T:TOk t (kb.map fun p=> hsh prog w p.1)) (hkb:∀ p∈kb,TK prog w s.heap p.1 p.2) (hx:TK prog w s.heap k x)
  {N:Nat} (hN:N < 10 * turns t.mask) (h0:¬ Liv t (pth t.mask (hsh prog w k) N).j) (h1:∀ m,m < N→Liv t (pth t.mask (hsh prog w k) m).j) {Q:SetFound→Shared→Prop}
  (qf:(∀ p∈kb,p.1≠k)→Q (.free (pth t.mask (hsh prog w k) N).j false) s) (qt:(∃ p∈kb,p.1=k)→Q (.there none) s):
  ∀ (fuel n:Nat) (stand:Option Probe),n≤N→N - n < fuel→stand.getD (t.probeStart (hsh prog w k))=pth t.mask (hsh prog w k) n→
   (∀ (m i:Nat) (p:List Int×Addr),m < n→t.place[i]?=some (pth t.mask (hsh prog w k) m).j→kb[i]?=some p→p.1≠k)→
   wpAny (model prog w) A (setSearchFrom S (.ref x) (hsh prog w k) true fuel stand) Q E s:=by
 have hsz:es.size=kb.length:=by rw [← CV,he]; simp [fI]
 have hfit:t.fits es.size=true:=T.fits (by rw [Co,hsz])
 have eat:∀ i:Nat,es[i]?=(kb[i]?).map fun (p:List Int×Addr)=> (hsh prog w p.1,Dl p.2):=fun i=> by rw [← DB,he,qN]
 intro fuel
 induction fuel with
 | zero=> intro n stand _ h; omega
 | succ fuel ih=>
  intro n stand hn hf hst hpre
  unfold setSearchFrom
  refine wpAny_bind (wpAny_setState_of ho hd hfit ?_)
  dsimp only
  rw [T.gave]
  simp only [CN,if_false]
  rw [hst]
  have hash:∀ (i:Nat) (p:List Int×Addr),kb[i]?=some p→((es[i]?.map (fun (e:Int×Value)=> e.1)).getD 0:Int)=hsh prog w p.1:=fun i p hp=> by rw [eat,hp]; rfl
  have pg:=oX T (fun (i:Nat)=> (es[i]?.map (fun (e:Int×Value)=> e.1)).getD 0) (hsh prog w k) h0 h1 (10 * turns t.mask) n hn (by omega)
  split
  ·rename_i met hmet
   rcases pg with ⟨e,hne⟩ | ⟨m,i,hnm,hmN,hpl,hhi,e,hbef⟩
   ·have q:some met=some (.empty (pth t.mask (hsh prog w k) N).j none):=hmet.symm.trans e
    cases q
    dsimp only
    refine wpAny_pure (qf fun p hp hpk=> ?_)
    obtain ⟨i,hi⟩:=Ds.mp hp
    obtain ⟨m,j,hm,hpl,hj⟩:=u7 T (h:=hsh prog w k) h0 (i:=i) (by rw [Ct,hi,← hpk]; rfl)
    rcases EO m n with hmn | hmn
    ·exact hpre m i p hmn (by rw [hj]; exact hpl) hi hpk
    ·exact hne m i hmn hm (by rw [hj]; exact hpl) (by rw [hash i p hi,hpk])
   ·have q:some met=some (.candidate (pth t.mask (hsh prog w k) m).j i (pth t.mask (hsh prog w k) (m+1))):=hmet.symm.trans e
    cases q
    dsimp only
    have hik:i < kb.length:=by rw [← hsz,← show t.place.size=es.size by rw [T.n,Co,hsz]]; exact rP hpl
    obtain ⟨p,hp⟩:∃ p,kb[i]?=some p:=⟨_,Cm hik⟩
    have hpm:p∈kb:=CM hp
    have hei:es[i]?=some (hsh prog w p.1,Dl p.2):=by rw [eat,hp]; rfl
    have rest:wpAny (model prog w) A (do
      let equal ← holding [Dl p.2] (eqBool (Dl p.2) (.ref x))
      let (es',_,t') ← setState S
      if true && equal then return .there none
      let some same:=t'.sameMemory t.moves t.mask | unsupported "set.changed-during-lookup:is-the-new-block-at-the-old-address"
      let still ← match (if same then t'.slot (pth t.mask (hsh prog w k) m).j else .empty) with
       | .live i'=> match es'[i']? with
        | some (_,y')=> do pure (if ← isSame y' (Dl p.2) then some i' else none)
        | none=> pure none
       | _=> pure none
      match still with
      | none=> rule "set.search.anew"; setSearchFrom S (.ref x) (hsh prog w k) true fuel none
      | some i'=> if equal then return .there (some i') else setSearchFrom S (.ref x) (hsh prog w k) true fuel (some (pth t.mask (hsh prog w k) (m+1)))) Q E s:=by
     refine wpAny_bind (wpAny_holding (wpAny_eqBool_tuple hu (hkb p hpm) hx ?_))
     refine wpAny_bind (wpAny_setState_of ho hd hfit ?_)
     dsimp only
     by_cases hpk:p.1=k
     ·rw [decide_eq_true hpk]
      simp only [Bool.and_self,if_true]
      exact wpAny_pure (qt ⟨p,hpm,hpk⟩)
     ·rw [decide_eq_false hpk]
      simp only [Hw,CN,if_false]
      have hsm:t.sameMemory t.moves t.mask=some true:=by unfold SetTable.sameMemory; simp
      rw [hsm]
      dsimp only
      rw [if_pos rfl,lr T.R hpl]
      dsimp only
      rw [hei]
      dsimp only
      refine wpAny_bind (wpAny_isSame_ref_self ?_)
      refine wpAny_bind (wpAny_pure ?_)
      simp only [if_true]
      refine ih (m+1) (some (pth t.mask (hsh prog w k) (m+1))) (by omega) (by omega) rfl fun m' i' p' hm' hpl' hp'=> ?_
      rcases EO m' n with z | z
      ·exact hpre m' i' p' z hpl' hp'
      ·rcases CW (Ec hm') with y | y
       ·have:=hbef m' i' z y hpl'
        intro e'
        exact this (by rw [hash i' p' hp',e'])
       ·subst y
        have ei:=T.R.inj hpl hpl'
        subst ei
        rw [hp] at hp'
        cases hp'
        exact hpk
    by_cases hled:t.led=true
    ·rw [hled]
     simp only [EZ,CN,if_false]
     rw [hei]
     exact rest
    ·rw [show t.led=false by simpa using hled]
     simp only [GF,if_true]
     refine wpAny_bind (pX hx (fun v hv=> ?_) ?_)
     ·obtain ⟨e',he',rfl⟩:=Cr.mp hv
      have hm':e'∈es.toList:=by
       have:=Ga.mp he'
       exact Ga.mpr (Array.mem_filter.mp this).1
      rw [he] at hm'
      obtain ⟨p',hp',rfl⟩:=Cr.mp hm'
      exact ⟨p'.1,p'.2,rfl,hkb p' hp'⟩
     ·simp only [CN,if_false]
      rw [hei]
      exact rest
  ·rename_i hno
   rcases pg with ⟨e,hne⟩ | ⟨m,i,hnm,hmN,hpl,hhi,e,hbef⟩
   ·exact absurd e (hno _)
   ·exact absurd e (hno _)
end
end ST
namespace ST
open PySem PySem.SetTable
section
variable {prog:Program} {w:World} {A:Around} {E:Value→Shared→Prop} {s:Shared}
structure SP (prog:Program) (w:World) (h:Heap) (S:Addr) (kb:List (List Int×Addr)):Prop where
 ex:∃ o es ep t,h.get? S=some o∧o.ExactSet∧o.data=.set es ep t∧es.toList=fI prog w kb∧TOk t (kb.map fun p=> hsh prog w p.1)∧t.led=(!w.params.followText "set-order")∧t.plain=true∧t.tooFull=false∧t.mask < 8 * kb.length+8
 keys:∀ p∈kb,TK prog w h p.1 p.2
 nd:(kb.map (·.1)).Nodup
theorem TK.keep {h h':Heap} {k:List Int} {b S:Addr} {o:Obj} {es ep t} (x:TK prog w h k b) (ho:h.get? S=some o) (hd:o.data=.set es ep t) (hs:Fe S h h'):TK prog w h' k b:=by
 obtain ⟨o',items,n,ho',hc,hd',hi⟩:=x
 have hne:b≠S:=by
  rintro rfl
  obtain rfl:o'=o:=Dg (ho'.symm.trans ho)
  rw [hd] at hd'; exact nomatch hd'
 exact ⟨o',items,n,(hs.2 b hne).trans ho',hc,hd',hi⟩
theorem pQ (x:Addr) (es:Array (Int×Value)):byScan (.ref x) es=false:=by simp [byScan,Value.scannable]
theorem oj {α β:Type} (f:α→β) (xs:List α) (p:Nat) (x:α):(gF xs p x).map f=gF (xs.map f) p (f x):=by
 unfold gF; rw [Di,CZ,Jb,Jc]
theorem eU {α:Type} (xs:List α) (p:Nat) (x:α):(gF xs p x).Perm (xs++[x]):=by
 unfold gF
 refine Ia.trans ?_
 rw [Hh]
 exact (List.perm_append_singleton x xs).symm
theorem oB {α β:Type} {kb:List α} (f:α→β) (d:β):∀ (o:List Nat),(∀ i∈o,i < kb.length)→o.map (fun i=> ((kb.map f).toArray).getD i d)=(o.filterMap fun i=> kb[i]?).map f
 | [],_=> rfl
 | i::o,h=> by
  have hi:=h i Cy
  rw [CZ,D_,Cm hi,oB f d o fun j hj=> h j (Cp _ hj)]
  simp [ED,hi]
theorem t_ {α:Type} {kb:List α} {o:List Nat} (h:o.Perm (Df kb.length)):(o.filterMap fun i=> kb[i]?).Perm kb:=by
 refine (h.filterMap _).trans ?_
 suffices (Df kb.length).filterMap (fun i=> kb[i]?)=kb by rw [this]
 have:∀ (l pre:List α),(List.range' pre.length l.length).filterMap (fun i=> (pre++l)[i]?)=l:=by
  intro l
  induction l with
  | nil=> intro pre; rfl
  | cons x l ih=>
   intro pre
   rw [Dy,List.range'_succ,D_]
   have e:(pre++x::l)[pre.length]?=some x:=by rw [CQ (Cv _)]; simp
   rw [e]
   have:=ih (pre++[x])
   rw [GO,Dv] at this
   simpa using this
 have q:=this kb []
 simpa [List.range_eq_range'] using q
theorem yo {t:SetTable} {hs:List Int} (T:TOk t hs) (h:t.tooFull=false):t.place.size+1≤t.mask:=by
 obtain ⟨k,h3,hk⟩:=T.k
 have hf:t.fill=t.place.size:=by unfold fill; rw [T.d]; rfl
 have h8:2 ^ 3≤2 ^ k:=Fn (by decide) h3
 unfold tooFull at h
 rw [hf] at h
 simp at h
 omega
set_option maxHeartbeats 1000000 in
theorem BJ {S:Addr} {o:Obj} {es:Array (Int×Value)} {ep:Nat} {t:SetTable} {kb:List (List Int×Addr)} {Q:Unit→Shared→Prop} (ho:s.heap.get? S=some o) (hex:o.ExactSet) (hd:o.data=.set es ep t) (he:es.toList=fI prog w kb)
  (T:TOk t (kb.map fun p=> hsh prog w p.1)) (hl:t.led=(!w.params.followText "set-order")) (hp:t.plain=true) (hkb:∀ p∈kb,TK prog w s.heap p.1 p.2) (hnd:(kb.map (·.1)).Nodup) (h1:0 < kb.length) (hn:kb.length≤1000)
  (h:∀ h' kb',Fe S s.heap h'→SP prog w h' S kb'→kb'.Perm kb→Q () { s with heap:=h' }):wpAny (model prog w) A (setRelay S (grown kb.length)) Q E s:=by
 have hsz:es.size=kb.length:=by rw [← CV,he]; simp [fI]
 have hfit:t.fits es.size=true:=T.fits (by rw [Co,hsz])
 have eat:∀ i:Nat,es[i]?=(kb[i]?).map fun (p:List Int×Addr)=> (hsh prog w p.1,Dl p.2):=fun i=> by rw [← DB,he,qN]
 have hg:grown kb.length=kb.length * 4:=by unfold grown; rw [if_neg (by omega)]
 rw [hg]
 obtain ⟨k,k3,ek,lk,uk⟩:=above (kb.length * 4) (by omega)
 have hmask:(sizeAbove (kb.length * 4) - 1)+1=2 ^ k:=by omega
 obtain ⟨t',order,e,T',hord,em,el,ep',_⟩:=yc k3 hmask (hs:=es.map (·.1)) (by rw [II,hsz]; omega) t.finger (t.movedTo (sizeAbove (kb.length * 4) - 1)) t.led t.plain
 have hrel:t.relaid (es.map (·.1)) (kb.length * 4)=some (t',order):=e
 have hord':order.toList.Perm (Df kb.length):=by rw [II,hsz] at hord; exact hord
 have hlt:∀ i∈order.toList,i < kb.length:=fun i hi=> CF.mp (hord'.mem_iff.mp hi)
 have hpk:=t_ hord'
 have hes:(order.filterMap (fun i=> es[i]?)).toList=fI prog w (order.toList.filterMap fun i=> kb[i]?):=by
  rw [Array.toList_filterMap]
  unfold fI
  rw [List.map_filterMap]
  congr 1
  funext i
  rw [eat]
 have hes2:(order.filterMap (fun i=> es[i]?)).size=es.size:=by
  rw [← CV,hes,hsz]
  unfold fI
  rw [Co,hpk.length_eq]
 unfold setRelay
 refine wpAny_bind (wpAny_setState_of ho hd hfit ?_)
 dsimp only
 rw [if_neg (by rw [ek,sizeLine_eq]; omega),hrel]
 have goal:wpAny (model prog w) A (do
   if (order.filterMap (fun i=> es[i]?)).size !=es.size then unsupported "internal:set-table-lost-an-element"
   pure (order.filterMap (fun i=> es[i]?),t'):Sem (Array (Int×Value)×SetTable)) (fun r s'=> wpAny (model prog w) A (storeSet S r.1 r.2) Q E s') E s:=by
  rw [hes2]
  simp only [bne_self_eq_false,CN,if_false]
  refine wpAny_pure ?_
  refine wpAny_storeSet_of ho hd ?_ (by rw [hes2,hsz,sizeLine_eq]; omega)
  have hg':(s.heap.update S (FI (order.filterMap (fun i=> es[i]?)) t')).get? S=some { o with data:=.set (order.filterMap (fun i=> es[i]?)) (ep+1) t' }:=by
   have:=Dt (FI (order.filterMap (fun i=> es[i]?)) t') ho (by rw [putSet_of _ t' hd]; rfl)
   rw [putSet_of _ t' hd] at this; exact this
  have hsb:=E1 s.heap S (FI (order.filterMap (fun i=> es[i]?)) t')
  refine h _ (order.toList.filterMap fun i=> kb[i]?) hsb ⟨⟨_,_,_,t',hg',hex,rfl,hes,?_,by rw [el]; exact hl,by rw [ep']; exact hp,?_,?_⟩,fun p hp'=> ?_,?_⟩ hpk
  ·have:=oB (kb:=kb) (fun p=> hsh prog w p.1) 0 order.toList hlt
   rw [← this]
   have e2:(es.map (·.1))=((kb.map fun p=> hsh prog w p.1)).toArray:=by
    apply Ib.mp
    rw [Ic,he,xq]
   rw [e2] at T'
   exact T'
  ·have hf:t'.fill=t'.place.size:=by unfold fill; rw [T'.d]; rfl
   have hn':=T'.n
   rw [Co,hord'.length_eq,EX] at hn'
   unfold tooFull
   rw [hf,hn',em]
   simp
   omega
  ·rw [em,hpk.length_eq]; omega
  ·exact (hkb p (hpk.mem_iff.mp hp')).keep ho hd hsb
  ·exact ((hpk.map (·.1)).nodup_iff).mpr hnd
 exact wpAny_bind goal
end
end ST
namespace ST
open PySem PySem.SetTable
section
variable {prog:Program} {w:World} {A:Around} {E:Value→Shared→Prop} {s:Shared}
set_option maxHeartbeats 1000000 in
theorem ql {S x:Addr} {kb:List (List Int×Addr)} {k:List Int} {Q:Bool→Shared→Prop} (hu:A.units < cLine) (P:SP prog w s.heap S kb) (hx:TK prog w s.heap k x) (hn:kb.length < 1000)
  (h:∀ b h' kb',Fe S s.heap h'→SP prog w h' S kb'→(if k∈kb.map (·.1) then kb'=kb else kb'.Perm (kb++[(k,x)]))→Q b { s with heap:=h' }):
  wpAny (model prog w) A (setAddHashed S (.ref x) (hsh prog w k)) Q E s:=by
 obtain ⟨⟨o,es,ep,t,ho,hex,hd,he,T,hl,hp,hfull,hmask⟩,hkb,hnd⟩:=P
 have P0:SP prog w s.heap S kb:=⟨⟨o,es,ep,t,ho,hex,hd,he,T,hl,hp,hfull,hmask⟩,hkb,hnd⟩
 have hsz:es.size=kb.length:=by rw [← CV,he]; simp [fI]
 have hfit:t.fits es.size=true:=T.fits (by rw [Co,hsz])
 obtain ⟨N,hN,h0,h1⟩:=pG T (hsh prog w k)
 have hN':N < 100000:=by unfold turns at hN; omega
 unfold setAddHashed setAddHashedIn
 refine wpAny_holding (wpAny_bind (wpAny_setState_of ho hd hfit ?_))
 dsimp only
 rw [pQ]
 simp only [CN,if_false]
 unfold setSearch
 refine wpAny_bind (n9 hu ho hd he T hkb hx hN h0 h1 (fun hno=> ?_) (fun hyes=> ?_) 100000 0 none (DG _) (by omega) rfl fun m i p hm=> by omega)
 ·dsimp only
  have hk:k ∉ kb.map (·.1):=fun z=> by obtain ⟨p,hp',e⟩:=Cr.mp z; exact hno p hp' e
  refine wpAny_bind (wpAny_setState_of ho hd hfit ?_)
  dsimp only
  generalize hj:(pth t.mask (hsh prog w k) N).j=j at *
  have T1:=T.put (h:=hsh prog w k) (N:=N) (by rw [hj]; exact h0) h1 (by have:=w4 (mask:=t.mask) (hsh prog w k) N; omega) (yo T hfull)
  rw [hj] at T1
  have epl:(t.put j).1.plain=true:=hp
  have eled:(t.put j).1.led=(!w.params.followText "set-order"):=hl
  have emask:(t.put j).1.mask=t.mask:=rfl
  generalize (t.put j).1=t1 at *
  generalize (t.put j).2=q at *
  have hlen1:(gF kb q (k,x)).length=kb.length+1:=by rw [(eU kb q (k,x)).length_eq]; simp
  have he1:(insertAt es q (hsh prog w k,Dl x)).toList=fI prog w (gF kb q (k,x)):=by
   rw [eR,he]
   unfold fI
   rw [oj]
   rfl
  have hsz1:(insertAt es q (hsh prog w k,Dl x)).size=kb.length+1:=by
   rw [← CV,he1]; unfold fI; rw [Co,hlen1]
  have T2:TOk t1 ((gF kb q (k,x)).map fun p=> hsh prog w p.1):=by rw [oj]; exact T1
  rw [if_pos epl]
  refine wpAny_bind (A9 hx ?_)
  rw [if_pos rfl]
  have hg1:(s.heap.update S (FI (insertAt es q (hsh prog w k,Dl x)) t1)).get? S=some { o with data:=.set (insertAt es q (hsh prog w k,Dl x)) (ep+1) t1 }:=by
   have:=Dt (FI (insertAt es q (hsh prog w k,Dl x)) t1) ho (by rw [putSet_of _ t1 hd]; rfl)
   rw [putSet_of _ t1 hd] at this; exact this
  have hsb:=E1 s.heap S (FI (insertAt es q (hsh prog w k,Dl x)) t1)
  have hkb1:∀ p∈gF kb q (k,x),TK prog w (s.heap.update S (FI (insertAt es q (hsh prog w k,Dl x)) t1)) p.1 p.2:=fun p hp'=> by
   have:=(eU kb q (k,x)).mem_iff.mp hp'
   rcases Es.mp this with z | z
   ·exact (hkb p z).keep ho hd hsb
   ·rw [CT.mp z]; exact hx.keep ho hd hsb
  have hnd1:((gF kb q (k,x)).map (·.1)).Nodup:=by
   rw [((eU kb q (k,x)).map (·.1)).nodup_iff,Di,FJ]
   refine ⟨hnd,by simp,fun a ha b hb=> ?_⟩
   simp at hb
   subst hb
   rintro rfl
   exact hk ha
  refine wpAny_bind (wpAny_storeSet_of ho hd ?_ (by rw [hsz1,sizeLine_eq]; omega))
  rw [GF,Gf]
  by_cases hft:t1.tooFull=true
  ·rw [if_pos hft,hsz,← hlen1]
   refine wpAny_bind (BJ (s:={ s with heap:=s.heap.update S (FI (insertAt es q (hsh prog w k,Dl x)) t1) }) hg1 hex rfl he1 T2 eled epl hkb1 hnd1 (by omega) (by omega) fun h' kb' hsb' P' pm=> wpAny_pure ?_)
   exact h true h' kb' (hsb.trans hsb') P' (by rw [if_neg hk]; exact pm.trans (eU kb q (k,x)))
  ·rw [if_neg hft]
   refine wpAny_pure (h true _ (gF kb q (k,x)) hsb ⟨⟨_,_,_,t1,hg1,hex,rfl,he1,T2,eled,epl,by simpa using hft,by rw [emask,hlen1]; omega⟩,hkb1,hnd1⟩ (by rw [if_neg hk]; exact eU kb q (k,x)))
 ·dsimp only
  refine wpAny_pure ?_
  have hk:k∈kb.map (·.1):=by obtain ⟨p,hp',e⟩:=hyes; exact Cr.mpr ⟨p,hp',e⟩
  exact h false s.heap kb (GM S s.heap) P0 (by rw [if_pos hk])
end
end ST
namespace ST
open PySem PySem.SetTable
section
variable {prog:Program} {w:World} {A:Around}
theorem TK.moved {s s':Shared} {wr:List Addr} {G:Array GenState→Array GenState→Prop} {k:List Int} {b:Addr} (x:TK prog w s.heap k b) (hb:b ∉ wr) (m:Moved wr G s s'):TK prog w s'.heap k b:=by
 obtain ⟨o,its,n,ho,hc,hd,hi⟩:=x
 exact ⟨o,its,n,m.heap b o hb ho,hc,hd,hi⟩
theorem SP.moved {s s':Shared} {wr:List Addr} {G:Array GenState→Array GenState→Prop} {S:Addr} {kb:List (List Int×Addr)} (x:SP prog w s.heap S kb) (hS:S ∉ wr) (hb:∀ p∈kb,p.2 ∉ wr) (m:Moved wr G s s'):SP prog w s'.heap S kb:=by
 obtain ⟨⟨o,es,ep,t,ho,r⟩,hk,hn⟩:=x
 exact ⟨⟨o,es,ep,t,m.heap S o hS ho,r⟩,fun p hp=> (hk p hp).moved (hb p hp) m,hn⟩
structure Got (kx:Nat→List Int×Addr) (i:Nat) (kb:List (List Int×Addr)):Prop where
 src:∀ p∈kb,∃ j,j < i∧p=kx j
 all:∀ j,j < i→(kx j).1∈kb.map (·.1)
 len:kb.length≤i
variable {R:Result→Shared→Prop} {I:Addr} {fp wr:List Addr} {G:Array GenState→Array GenState→Prop} {n:Nat} {P:Nat→Value→Prop} {St:Nat→Shared→Prop}
set_option maxHeartbeats 1000000 in
theorem vE (W:WalksS prog w A.in1 I fp wr G n P St) (hu:A.in1.units < cLine) {S:Addr} (hSf:S ∉ fp) (kx:Nat→List Int×Addr) (hP:∀ i v,P i v→v=.ref (kx i).2) (hwr:∀ i,i < n→(kx i).2 ∉ wr) (hn:n≤1000):
  ∀ (k i:Nat) (s:Shared) (kb:List (List Int×Addr)),n - i=k→i≤n→St i s→SP prog w s.heap S kb→Got kx i kb→(∀ j,j < n→TK prog w s.heap (kx j).1 (kx j).2)→
   (∀ s' kb',Moved (S::wr) G s s'→SP prog w s'.heap S kb'→Got kx n kb'→R (.ok (.ret .none)) s')→
   codeAny (model prog w) A (.builtin "set.update.loop" ⟨[.ref S,.ref I],[]⟩) R s:=by
 have hSw:S ∉ wr:=fun h=> hSf (W.sub _ h)
 have more:∀ b∈wr,b∈S::wr:=fun b hb=> Cp _ hb
 intro k
 induction k with
 | zero=>
  intro i s kb hk hi st hS g tk hR
  obtain rfl:i=n:=by omega
  refine codeAny_builtin PyProof.Rows.F.entry_set_update_loop ?_
  rw [DZ PyProof.Rows.F.plain_set_update_loop _]
  show wpAny _ A.in1 (pyNext (.ref I) >>=_) _ _ s
  refine wpAny_bind (W.done s _ _ st fun s' m=> ?_)
  exact wpAny_pure (hR s' kb (m.mono more) (hS.moved hSw (fun p hp=> by obtain ⟨j,hj,rfl⟩:=g.src p hp; exact hwr j hj) m) g)
 | succ k ih=>
  intro i s kb hk hi st hS g tk hR
  have hlt:i < n:=by omega
  have hkb:∀ p∈kb,p.2 ∉ wr:=fun p hp=> by obtain ⟨j,hj,rfl⟩:=g.src p hp; exact hwr j (by omega)
  refine codeAny_builtin PyProof.Rows.F.entry_set_update_loop ?_
  rw [DZ PyProof.Rows.F.plain_set_update_loop _]
  show wpAny _ A.in1 (pyNext (.ref I) >>=_) _ _ s
  refine wpAny_bind (W.item i s _ _ hlt st fun v s1 pv st1 m=> ?_)
  obtain rfl:=hP i v pv
  have hS1:=hS.moved hSw hkb m
  have tk1:∀ j,j < n→TK prog w s1.heap (kx j).1 (kx j).2:=fun j hj=> (tk j hj).moved (hwr j hj) m
  show wpAny _ A.in1 (holding [Dl (kx i).2] (setAdd S (.ref (kx i).2)) >>=_) _ _ s1
  refine wpAny_bind (wpAny_holding ?_)
  unfold setAdd
  refine wpAny_holding (wpAny_bind (wpAny_pyHash_tuple hu (tk1 i hlt) ?_))
  refine ql (s:={ s1 with toks:=s1.toks+((kx i).1.length+1) }) hu hS1 (tk1 i hlt) (by have:=g.len; omega) fun b h' kb' sb hS2 hkk=> ?_
  obtain ⟨⟨o,es,ep,t,ho,hex,hd,hrest⟩,hks,hnd⟩:=hS1
  have same:∀ b o,b ∉ S::wr→s1.heap.get? b=some o→h'.get? b=some o:=fun b o hb e=> by rw [sb.2 b (fun z=> hb (by rw [z]; exact Cy))]; exact e
  refine wpAny_pure ⟨plainId_quiet PyProof.Rows.F.plain_set_update_loop _,ih (i+1) _ kb' (by omega) hlt (W.frame _ s1 _ _ st1 (by show s1.toks≤s1.toks+_; omega) fun b hb o e=> ?_) hS2 ?_ (fun j hj=> (tk1 j hj).keep ho hd sb) fun s2 kb2 m2 hS3 g2=> ?_⟩
  ·rw [sb.2 b (fun z=> hSf (by rw [← z]; exact hb))]; exact e
  ·by_cases hin:(kx i).1∈kb.map (·.1)
   ·rw [if_pos hin] at hkk
    subst hkk
    refine ⟨fun p hp=> ?_,fun j hj=> ?_,by have:=g.len; omega⟩
    ·obtain ⟨j,hj,e⟩:=g.src p hp; exact ⟨j,by omega,e⟩
    ·rcases CW (Ec hj) with z | z
     ·exact g.all j z
     ·rw [z]; exact hin
   ·rw [if_neg hin] at hkk
    refine ⟨fun p hp=> ?_,fun j hj=> ?_,by rw [hkk.length_eq]; have:=g.len; simp; omega⟩
    ·rcases Es.mp (hkk.mem_iff.mp hp) with z | z
     ·obtain ⟨j,hj,e⟩:=g.src p z; exact ⟨j,by omega,e⟩
     ·exact ⟨i,Ej i,by rw [CT.mp z]⟩
    ·rw [(hkk.map (·.1)).mem_iff,Di]
     rcases CW (Ec hj) with z | z
     ·exact DY _ (g.all j z)
     ·rw [z]; exact CS _ (by simp)
  ·exact hR s2 kb2 (Moved.trans W.gtrans ((m.mono more).then_heap (by show s1.toks≤s1.toks+_; omega) same) m2) hS3 g2
end
section
variable {prog:Program} {w:World} {A:Around} {E:Value→Shared→Prop} {s:Shared}
abbrev cj (w:World):Obj:={ cls:=.type "set",dict:=none,data:=.set #[] 0 (.fresh 0 0 (!w.params.followText "set-order")) }
theorem ww:TOk (.fresh 0 0 (!w.params.followText "set-order")) [] where
 R:=by intro i j x y _ h; simp [SetTable.fresh] at h
 d:=rfl
 k:=⟨3,by decide,rfl⟩
 n:=rfl
 f:=by show 0≤7; decide
 le:=by intro i x h; simp [SetTable.fresh] at h
 reach:=by intro i x h hi; simp [SetTable.fresh] at hi
theorem wT {h:Heap} {S:Addr} (e:h.get? S=some (cj w)):SP prog w h S []:=by
 refine ⟨⟨_,_,_,_,e,⟨rfl,rfl,rfl⟩,rfl,rfl,ww,rfl,rfl,by simp [SetTable.tooFull,SetTable.fresh,SetTable.fill],by show 7 < 8; decide⟩,fun p hp=> by simp at hp,by simp⟩
theorem xn (a:Value) {Q:Value→Shared→Prop} (h:Q (.ref s.heap.objs.size) { s with heap:=s.heap.push (cj w) }):
  codeAny (model prog w) A (.call (.builtin "set.__new__") ⟨[.type "set",a],[]⟩) (wants Q E) s:=by
 refine codeAny_of_tree ?_
 show wpAny _ A.in1 (do checkBuiltinCall "set.__new__" ⟨[.type "set",a],[]⟩; again (.builtin "set.__new__" ⟨[.type "set",a],[]⟩)) _ _ s
 refine wpAny_bind (wpAny_of_eq (PySem.F.newCall_set_1 a) (wpAny_pure ⟨plainId_quiet Hi _,codeAny_builtin PySem.F.entry_set_new ?_⟩))
 rw [DZ Hi _]
 unfold Builtin.«set.__new__» Builtin.Frozenset.newClass
 have hsub:=sub_set_self
 obtain ⟨hp,g,d,tk,os⟩:=s
 dsimp only
 wp_walk
 refine wpAny_askSetting (wpAny_pure ?_)
 dsimp only
 simp only [newObj]
 exact wpAny_bind (wpAny_alloc (wpAny_pure (wpAny_pure h)))
end
end ST
namespace ST
open PySem PySem.SetTable
section
variable {prog:Program} {w:World} {A:Around} {E:Value→Shared→Prop} {s:Shared}
set_option maxRecDepth 100000 in
set_option maxHeartbeats 3200000 in
theorem call_set_pts {l:Addr} {items:Array Value} {Q:Value→Shared→Prop} (kx:Nat→List Int×Addr) (hh:A.handled=none) (hu:A.in1.in1.in1.units < cLine) (hl:s.heap.IsList l items)
  (hit:∀ (i:Nat) (v:Value),items[i]?=some v→v=.ref (kx i).2) (htk:∀ i,i < items.size→TK prog w s.heap (kx i).1 (kx i).2) (hn:items.size≤1000)
  (h:∀ (h':Heap) (tk:Nat) (kb:List (List Int×Addr)),SP prog w h' s.heap.objs.size kb→Got kx items.size kb→(∀ b o,s.heap.get? b=some o→h'.get? b=some o)→Q (.ref s.heap.objs.size) { s with heap:=h',toks:=tk }):
  wpAny (model prog w) A (call (.type "set") [.ref l]) Q E s:=by
 obtain ⟨cc,tl,hmro⟩:=Ef.mro
 have hmade:=Ef.made
 have hsub:=Ef.sub
 refine wpAny_call (codeAny_of_tree ?_)
 show wpAny _ _ (callAny (.type "set") _) _ _ _
 refine wpAny_pure ⟨Code.quiet_builtin _ (by decide+kernel),codeAny_builtin PySem.F.entry_type_call ?_⟩
 rw [Around.under_plain (weight_type_call_type "set" [.ref l] []) rfl]
 have g1:=Ef.notType
 have g2:=Ef.canCreate
 have g3:=PySem.F.typeCall_set_1 (.ref l)
 repeat (any_goals (first | assumption | wp_step))
 refine codeAny_mono (xn (w:=w) (.ref l) (E:=E) (Q:=fun obj s₁=> obj=.ref s.heap.objs.size∧s₁={ s with heap:=s.heap.push (cj w) }) ⟨rfl,rfl⟩) fun r s₁ hr=> ?_
 cases r with
 | error e=> exact hr
 | ok fl=>
  cases fl with
  | ret obj=>
   obtain ⟨rfl,rfl⟩:=hr
   have hS:(s.heap.push (cj w)).get? s.heap.objs.size=some (cj w):=CG _ rfl
   have hT:Shared.TypeIs { s with heap:=s.heap.push (cj w) } (.ref s.heap.objs.size) "set":=⟨_,hS,rfl⟩
   have hli:=Ef.init.lookup
   have hbi:=Ef.init.bind (.ref s.heap.objs.size)
   repeat (any_goals (first | assumption | wp_step))
   refine codeAny_mono (codeAny_call_builtin (R:=wants (fun r s₂=> r=.none∧∃ h' tk kb,s₂={ s with heap:=h',toks:=tk }∧
     SP prog w h' s.heap.objs.size kb∧Got kx items.size kb∧(∀ b o,s.heap.get? b=some o→h'.get? b=some o)) E) Ef.init.plain PySem.F.entry_set_init (check_set_init_1 hT ?_)) fun r₂ s₂ hr₂=> ?_
   ·obtain ⟨ol,hol,hcl,nl,hdl⟩:=hl
    obtain ⟨ocls,odict,odata,oslots⟩:=ol
    simp only at hcl hdl
    subst hcl; subst hdl
    have hol':(s.heap.push (cj w)).get? l=some { cls:=.type "list",dict:=odict,data:=.seq items nl,slots:=oslots }:=Cq _ hol
    have k1:=PySem.F.sub_list_set
    have k2:=PySem.F.sub_list_frozenset
    have k3:(DO "list"==DO "dict")=false:=by decide
    have hl1:(s.heap.push (cj w)).IsList l items:=⟨_,hol',rfl,nl,rfl⟩
    unfold Builtin.«set.__init__» noKeywords Builtin.Frozenset.updateFrom
    generalize hPI:pyIter=PI
    wp_walk
    subst hPI
    refine wpAny_pyIter_list hl1 (wpAny_bind (wpAny_runValue ?_))
    have hlS:l < s.heap.objs.size:=Cw hol
    have h3:A.in1.in1.in1.handled=none:=by simp [hh]
    have szI:(s.heap.push (cj w)).objs.size=s.heap.objs.size+1:=Er ..
    have hneI:l≠(s.heap.push (cj w)).objs.size:=by rw [szI]; exact C1 (Eo hlS)
    have hSf:s.heap.objs.size ∉ [(s.heap.push (cj w)).objs.size,l]:=by
     rw [szI]
     intro z
     rcases Cu.mp z with z | z
     ·exact absurd z (C1 (Ej _))
     ·exact absurd (CT.mp z) (Gy hlS)
    refine vE ((Walks.list h3 _ l hneI items).toS) hu hSf kx hit (fun i hi=> ?_) hn (items.size - 0) 0 _ [] (by omega) (DG _)
     ⟨⟨_,CG _ rfl,rfl,rfl⟩,(hl1.push _)⟩ ?_ ⟨fun p hp=> by simp at hp,fun j hj=> by omega,by simp⟩ (fun j hj=> ?_) fun s' kb m hS' g=> ?_
    ·intro z
     have z':=CT.mp z
     obtain ⟨o,_,_,ho,_⟩:=htk i hi
     have:=Cw ho
     rw [z',szI] at this
     exact Dh _ (Hf (Ej _) this)
    ·exact wT (Cq _ hS)
    ·obtain ⟨o,its,k,ho,r⟩:=htk j hj
     exact ⟨o,its,k,Cq _ (Cq _ ho),r⟩
    ·obtain ⟨h',g',d',tk',os'⟩:=s'
     obtain rfl:g'=s.gens:=m.gens
     obtain rfl:d'=s.drawn:=m.drawn
     obtain rfl:os'=s.os:=m.os
     refine wpAny_pure ?_
     show wpAny _ _ (ret C2) _ _ _
     refine wpAny_pure ⟨rfl,h',tk',kb,rfl,hS',g,fun b o e=> ?_⟩
     have hb:=Cw e
     refine m.heap b o (fun z=> ?_) (Cq _ (Cq _ e))
     rcases Cu.mp z with z | z
     ·exact absurd z (C1 hb)
     ·have z':=CT.mp z
      rw [z',szI] at hb
      exact Dh _ (Hf (Ej _) hb)
   ·cases r₂ with
    | error e=> exact hr₂
    | ok fl₂=>
     cases fl₂ with
     | ret r=>
      obtain ⟨rfl,h',tk,kb,rfl,hS',g,hk'⟩:=hr₂
      repeat (any_goals (first | assumption | wp_step))
      exact h _ _ kb hS' g hk'
     | _=> exact hr₂.elim
  | _=> exact hr.elim
end
end ST
namespace ST
open PySem PySem.SetTable
theorem d6:Slot "set_iterator" "__next__" "set_iterator.__next__":=
 .of (owner:="set_iterator") (n:="__next__") (by rw [typeLookup_type,builtinLookup_eq_fast]; kernel_rfl) (by decide+kernel) (by decide+kernel) (by decide+kernel) (by first | exact .inl (by decide+kernel) | exact .inr (by decide+kernel)) (by rw [isSubtype_type]; kernel_rfl)
theorem jA:entryFor table "set_iterator.__next__"=some Builtin.«set_iterator.__next__»:=entryFor_of_tree (by kernel_rfl)
theorem lK (a:Value):argsOk "set_iterator.__next__" ⟨[a],[]⟩:=by unfold argsOk; kernel_rfl
theorem pI:entryFor table "set.__iter__"=some Builtin.«frozenset.__iter__»:=entryFor_alias (id':="frozenset.__iter__") (by kernel_rfl) rfl (by decide+kernel) (by kernel_rfl)
theorem o5 {α:Type} {l:List α} {i:Nat} (h:i < l.length):(l[i]::l.eraseIdx i).Perm l:=by
 rw [List.eraseIdx_eq_take_drop_succ]
 refine Ia.symm.trans ?_
 rw [← GE h,Hh]
theorem rV {α:Type} (next:Nat→Nat):∀ (fuel k:Nat) (left:List α) (out:Array α),left.length=fuel→(pickOrder.go next fuel k left out).toList.Perm (out.toList++left)
 | 0,k,left,out,h=> by
  obtain rfl:left=[]:=DU.mp h
  rw [pickOrder.go,EF]
 | fuel+1,k,left,out,h=> by
  have hi:next k % left.length < left.length:=DV _ (by omega)
  rw [pickOrder.go,Cm hi]
  refine (rV next fuel (k+1) _ _ (by rw [List.length_eraseIdx_of_lt hi]; omega)).trans ?_
  rw [Array.toList_push,GO]
  refine List.Perm.append_left _ ?_
  rw [List.singleton_append]
  exact o5 hi
theorem uU {α:Type} (next:Nat→Nat) (xs:Array α):(pickOrder next xs).toList.Perm xs.toList:=by
 unfold pickOrder
 have:=rV next xs.size 0 xs.toList #[] (by simp)
 simpa using this
section
variable {prog:Program} {w:World} {A:Around} {E:Value→Shared→Prop} {s:Shared}
def cB (w:World) (S:Addr) (es:Array (Int×Value)) (ep:Nat):List Value:=(if w.params.followText "set-order"=true then pickOrder (w.params.setOrder S ep) es else es).toList.map (·.2)
theorem e6 (w:World) (S:Addr) (es:Array (Int×Value)) (ep:Nat):(cB w S es ep).Perm (es.toList.map (·.2)):=by
 unfold cB
 refine List.Perm.map _ ?_
 split
 ·exact uU _ es
 ·exact IJ _
def fY (t:SetTable):Nat→Nat
 | 0=> 0
 | j+1=> t.place.getD j 0+1
def be (w:World) (t:SetTable) (i:Nat):Nat:=if w.params.followText "set-order"=true then 0 else fY t i
def qi (w:World) (h:Heap) (it S:Addr) (t:SetTable) (i n ep:Nat):Prop:=∃ o,h.get? it=some o∧o.cls=.type "set_iterator"∧o.data=.fields #[rawInt (be w t i),rawInt i,.ref S,rawInt n,rawInt ep]
theorem qi.ty {it S:Addr} {t:SetTable} {i n ep:Nat} (x:qi w s.heap it S t i n ep):s.TypeIs (.ref it) "set_iterator":=let ⟨o,ho,hc,_⟩:=x; ⟨o,ho,hc⟩
structure SO (prog:Program) (w:World) (o:Obj) (es:Array (Int×Value)) (ep:Nat) (t:SetTable) (hs:List Int):Prop where
 ex:o.ExactSet
 d:o.data=.set es ep t
 T:TOk t hs
 n:hs.length=es.size
 led:t.led=(!w.params.followText "set-order")
 plain:t.plain=true
theorem wY {S:Addr} {o:Obj} {es ep t hs} {Q:Bool→Shared→Prop} (O:SO prog w o es ep t hs) (ho:s.heap.get? S=some o) (h:Q false s):wpAny (model prog w) A (setDrawn S) Q E s:=by
 unfold setDrawn setsByText
 refine wpAny_bind (wpAny_setState_of ho O.d (O.T.fits O.n) (wpAny_bind (wpAny_bind (wpAny_askSetting (wpAny_pure (wpAny_pure ?_))))))
 have q:Q (!w.params.followText "set-order" && (!t.plain && decide (es.size > 1))) s:=by rw [O.plain]; simpa using h
 exact q
theorem uW {S:Addr} {o:Obj} {es ep t hs} {Q:Value→Shared→Prop} (O:SO prog w o es ep t hs) (ho:s.heap.get? S=some o)
  (hQ:Q (.ref s.heap.objs.size) { s with heap:=s.heap.push { cls:=.type "set_iterator",data:=.fields #[rawInt 0,rawInt 0,.ref S,rawInt es.size,rawInt ep] } }):wpAny (model prog w) A (pyIter (.ref S)) Q E s:=by
 have hT:s.TypeIs (.ref S) "set":=⟨o,ho,O.ex.1⟩
 refine wpAny_pyIter_slot hT Hj (wpAny_call_entry Hj hT pI ?_ (PySem.F.args_set_iter_1 _))
 unfold Builtin.«frozenset.__iter__»
 show wpAny _ _ (Builtin.Frozenset.sizeOf S >>=_) _ _ s
 unfold Builtin.Frozenset.sizeOf
 refine wpAny_bind (wpAny_bind (wpAny_setEntries_of ho O.d (O.T.fits O.n) (wpAny_pure ?_)))
 refine wpAny_bind (wY O ho ?_)
 simp only [CN,if_false]
 refine wpAny_bind (wpAny_pure ?_)
 refine wpAny_bind (wpAny_setEpoch_of ho O.d (O.T.fits O.n) ?_)
 refine wpAny_bind (wpAny_newObj_type (wpAny_pure ⟨_,rfl,"set_iterator",_,⟨_,CG _ rfl,rfl⟩,d6.lookup,?_⟩))
 exact hQ
theorem pW {t:SetTable} {hs:List Int} (T:TOk t hs) {i:Nat} (hi:i≤t.place.size):below t.place (fY t i)=i:=by
 obtain ⟨h1,h2,h3⟩:=fv T.R (fY t i)
 cases i with
 | zero=>
  dsimp only [fY] at *
  rcases GB (below t.place 0) with z | z
  ·exact z
  ·have:=h1 0 _ z (eH (by omega)); omega
 | succ j=>
  dsimp only [fY] at *
  have hj:j < t.place.size:=by omega
  have ej:t.place.getD j 0=t.place[j]:=by simp [ED,hj]
  rw [ej] at h1 h2 h3 ⊢
  generalize hb:below t.place (t.place[j]+1)=b at *
  rcases Ep b (j+1) with z | z | z
  ·have:=h2 j t.place[j] (by omega) (eH hj); omega
  ·exact z
  ·have q:=h1 (j+1) _ z (eH (by omega))
   have:=T.R j (j+1) _ _ (by omega) (eH hj) (eH (show j+1 < t.place.size by omega))
   omega
theorem jT {S:Addr} {o:Obj} {es ep t hs} {i:Nat} {Q:Option (Value×Nat)→Shared→Prop} (O:SO prog w o es ep t hs) (ho:s.heap.get? S=some o) (hi:i≤es.size)
  (h:Q (((cB w S es ep)[i]?).map fun v=> (v,be w t (i+1))) s):wpAny (model prog w) A (setNext S (be w t i) i ep) Q E s:=by
 have hfit:=O.T.fits O.n
 have hpl:t.place.size=es.size:=by rw [O.T.n,O.n]
 unfold setNext setsByText
 refine wpAny_bind (wpAny_setState_of ho O.d hfit (wpAny_bind (wpAny_bind (wpAny_askSetting (wpAny_pure ?_)))))
 by_cases bt:w.params.followText "set-order"=true
 ·dsimp only
  rw [show (model prog w).w.params.followText "set-order"=true from bt,if_pos rfl,if_neg (by simp)]
  unfold setWalk setsByText
  refine wpAny_bind (wpAny_bind (wpAny_setState_of ho O.d hfit (wpAny_bind (wpAny_bind (wpAny_askSetting (wpAny_pure ?_))))))
  dsimp only
  rw [show (model prog w).w.params.followText "set-order"=true from bt,if_pos rfl]
  refine wpAny_bind (wpAny_askSetting (wpAny_pure (wpAny_pure ?_)))
  have e:HM (fun (e:Int×Value)=> (e.2,be w t i)) (pickOrder (w.params.setOrder S ep) es)[i]?=((cB w S es ep)[i]?).map fun v=> (v,be w t (i+1)):=by
   unfold cB be
   rw [if_pos bt,if_pos bt,if_pos bt,Ct,DB,Option.map_map]
   rfl
  have q:Q (HM (fun (e:Int×Value)=> (e.2,be w t i)) (pickOrder (w.params.setOrder S ep) es)[i]?) s:=by rw [e]; exact h
  exact q
 ·have bf:w.params.followText "set-order"=false:=by simpa using bt
  dsimp only
  rw [show (model prog w).w.params.followText "set-order"=false from bf,if_neg (by simp)]
  have e1:be w t i=fY t i:=by unfold be; rw [if_neg bt]
  have e2:below t.place (be w t i)=i:=by rw [e1]; exact pW O.T (by omega)
  have e3:(match es[below t.place (be w t i)]?,t.place[below t.place (be w t i)]? with
    | some (_,x),some j=> some (x,j+1)
    | _,_=> none)=((cB w S es ep)[i]?).map fun v=> (v,be w t (i+1)):=by
   rw [e2]
   unfold cB be
   rw [if_neg bt,if_neg bt,Ct,DB]
   rcases EO i es.size with z | z
   ·have z':i < t.place.size:=by omega
    simp [z,z',ED,fY]
   ·have z':t.place.size≤i:=by omega
    simp [z,z']
  split
  ·rename_i hc
   exact absurd (show (!t.plain && decide (es.size > 1))=true from hc) (by rw [O.plain]; simp)
  ·refine wpAny_bind ?_
   show wpAny _ _ (if (!t.led && !es.isEmpty)=true then unsupported "set:maker-not-led" else pure ()) _ _ _
   rw [O.led,bf,if_neg (by simp)]
   refine wpAny_pure (wpAny_pure ?_)
   have q:Q (match es[below t.place (be w t i)]?,t.place[below t.place (be w t i)]? with
    | some (_,x),some j=> some (x,j+1)
    | _,_=> none) s:=by rw [e3]; exact h
   exact q
set_option maxHeartbeats 1000000 in
theorem sK {S it:Addr} {o:Obj} {es ep t hs} {i:Nat} {v:Value} {Q:Option Value→Shared→Prop} (O:SO prog w o es ep t hs) (ho:s.heap.get? S=some o) (hit:qi w s.heap it S t i es.size ep) (hv:(cB w S es ep)[i]?=some v)
  (hQ:∀ h',qi w h' it S t (i+1) es.size ep→Fe it s.heap h'→Q (some v) { s with heap:=h' }):wpAny (model prog w) A (pyNext (.ref it)) Q E s:=by
 obtain ⟨oi,hoi,hc,hd⟩:=id hit
 have hfit:=O.T.fits O.n
 unfold pyNext
 refine wpAny_bind (wpAny_attempt (wpAny_callSpecial?_slot (name:=Str.ofString "__next__") hit.ty d6 (wpAny_call_entry d6 hit.ty jA ?_ (lK _))))
 unfold Builtin.«set_iterator.__next__»
 refine wpAny_bind (m:=slotArgs "__next__" 0 _) (wpAny_pure ?_)
 dsimp only
 refine wpAny_bind (wpAny_fieldsOf hoi hd ?_)
 dsimp only [rawInt]
 refine wpAny_bind (wpAny_setEntries_of ho O.d hfit ?_)
 rw [if_neg (by simp)]
 have hlt:i < es.size:=by
  have q:=(Cz.mp hv).1
  rw [(e6 w S es ep).length_eq,Co,CV] at q
  exact q
 rw [show ((be w t i:Nat):Int).toNat=be w t i from EE _,show ((i:Nat):Int).toNat=i from EE _,show ((ep:Nat):Int).toNat=ep from EE _]
 refine wpAny_bind (jT O ho (DF hlt) ?_)
 rw [hv]
 dsimp only [HM]
 refine wpAny_bind (wpAny_setField hoi hd (by simp) ?_)
 have g1:=Dt (Obj.mapFields (·.setIfInBounds 0 (Dm ((be w t (i+1):Nat):Int) 0))) hoi (Hk (ER hd _))
 refine wpAny_bind (wpAny_setField g1 (ER hd _) (by simp) ?_)
 refine wpAny_pure ⟨_,rfl,wpAny_pure (hQ _ ?_ ((E1 ..).trans (E1 ..)))⟩
 refine ⟨_,Dt _ g1 (Hk (ER (ER hd _) _)),(HN ..).trans ((HN ..).trans hc),?_⟩
 rw [ER (ER hd _)]
 simp [rawInt]
set_option maxHeartbeats 1000000 in
theorem vy {S it:Addr} {o:Obj} {es ep t hs} {Q:Option Value→Shared→Prop} (hh:A.handled=none) (O:SO prog w o es ep t hs) (ho:s.heap.get? S=some o) (hit:qi w s.heap it S t es.size es.size ep)
  (hQ:∀ h',Ju it s.heap h'→Q none { s with heap:=h' }):wpAny (model prog w) A (pyNext (.ref it)) Q E s:=by
 obtain ⟨oi,hoi,hc,hd⟩:=id hit
 have hfit:=O.T.fits O.n
 unfold pyNext
 refine wpAny_bind (wpAny_attempt (wpAny_callSpecial?_slot (name:=Str.ofString "__next__") hit.ty d6 (wpAny_call_entry d6 hit.ty jA ?_ (lK _))))
 unfold Builtin.«set_iterator.__next__»
 refine wpAny_bind (m:=slotArgs "__next__" 0 _) (wpAny_pure ?_)
 dsimp only
 refine wpAny_bind (wpAny_fieldsOf hoi hd ?_)
 dsimp only [rawInt]
 refine wpAny_bind (wpAny_setEntries_of ho O.d hfit ?_)
 rw [if_neg (by simp)]
 rw [show ((be w t es.size:Nat):Int).toNat=be w t es.size from EE _,show ((es.size:Nat):Int).toNat=es.size from EE _,show ((ep:Nat):Int).toNat=ep from EE _]
 refine wpAny_bind (jT O ho (Cv _) ?_)
 rw [show (cB w S es ep)[es.size]?=none from Dr (by rw [(e6 w S es ep).length_eq,Co,CV]; exact Cv _)]
 dsimp only [HM]
 refine wpAny_bind (wpAny_setField hoi hd (by simp) ?_)
 refine wpAny_bind ?_
 simp only [newExc,newTuple]
 refine wpAny_bind (wpAny_newObj_type ?_ (by size_fits))
 refine wpAny_bind (m:=firstArgMember _ _) (wpAny_of_eq (a:=C2) (by first | rfl | (simp only [firstArgMember]; rfl)) ?_)
 refine wpAny_newObj_type ?_ (by size_fits)
 simp only [raiseNew]
 refine wpAny_bind (wpAny_handled ?_)
 rw [show A.in1.handled=none from hh]
 refine wpAny_bind (wpAny_pure (wpAny_throw ?_))
 refine wpAny_bind (wpAny_isInstance (T:="StopIteration") (b:=true) ⟨_,CG _ rfl,rfl⟩ isSubtype_stop ?_)
 exact wpAny_pure (hQ _ (((E1 ..).extBut.push _).push _))
end
end ST
namespace ST
open PySem PySem.SetTable PySem.W
theorem lJ:Slot "set_iterator" "__iter__" "set_iterator.__iter__":=
 .of (owner:="set_iterator") (n:="__iter__") (by rw [typeLookup_type,builtinLookup_eq_fast]; kernel_rfl) (by decide+kernel) (by decide+kernel) (by decide+kernel) (by first | exact .inl (by decide+kernel) | exact .inr (by decide+kernel)) (by rw [isSubtype_type]; kernel_rfl)
theorem p8:entryFor table "set_iterator.__iter__"=some Builtin.«dict_keyiterator.__iter__»:=entryFor_alias (id':="dict_keyiterator.__iter__") (by kernel_rfl) rfl (by decide+kernel) (by kernel_rfl)
theorem su (a:Value):argsOk "set_iterator.__iter__" ⟨[a],[]⟩:=by unfold argsOk; kernel_rfl
section
variable {prog:Program} {w:World} {A:Around} {E:Value→Shared→Prop} {s:Shared}
theorem xx {it S:Addr} {t:SetTable} {i n ep:Nat} {Q:Value→Shared→Prop} (hit:qi w s.heap it S t i n ep) (h:Q (.ref it) s):wpAny (model prog w) A (pyIter (.ref it)) Q E s:=by
 refine wpAny_pyIter_slot hit.ty lJ (wpAny_call_entry lJ hit.ty p8 ?_ (su _))
 exact wpAny_pure ⟨_,rfl,"set_iterator",_,hit.ty,d6.lookup,h⟩
theorem sG (hh:A.handled=none) {it S:Addr} (hne:S≠it) {o:Obj} {es ep t hs} (O:SO prog w o es ep t hs):
  Walks prog w A it [it,S] [it] es.size (fun i v=> (cB w S es ep)[i]?=some v) (fun i h=> qi w h it S t i es.size ep∧h.get? S=some o) where
 sub:=fun b hb=> by simp at hb; simp [hb]
 frame:=fun _ _ _ st hk=> ⟨let ⟨x,hx,r⟩:=st.1; ⟨x,hk it (by simp) x hx,r⟩,hk S (by simp) o st.2⟩
 item:=fun i s Q E hi st hQ=> by
  obtain ⟨v,hv⟩:∃ v,(cB w S es ep)[i]?=some v:=⟨_,Cm (by rw [(e6 w S es ep).length_eq,Co,CV]; exact hi)⟩
  refine sK O st.2 st.1 hv fun h' hit' sb=> ?_
  exact hQ v h' s.toks hv ⟨hit',(sb.2 S hne).trans st.2⟩ fun b x hb e=> sb.extBut b x (fun z=> hb (by simp [z])) e
 done:=fun s Q E st hQ=> vy hh O st.2 st.1 fun h' xb=> hQ h' s.toks fun b x hb e=> xb b x (fun z=> hb (by simp [z])) e
 self:=fun _ _ _ _ st hQ=> xx st.1 hQ
theorem wx {r:Addr} {Q:Bool→Shared→Prop} (hT:s.TypeIs (.ref r) "set") (h:Q false s):wpAny (model prog w) A (Builtin.List.listLengthHint (.ref r)) Q E s:=by
 unfold Builtin.List.listLengthHint
 refine wpAny_bind (wpAny_specialOf hT PySem.F.slot_set_len.lookup ?_)
 generalize hid:("set.__len__":String)=id0
 wp_delta
 rw [show splitId id0=some ("set","__len__") from by subst hid; decide+kernel]
 subst hid
 refine wpAny_bind (wpAny_isInstance (T:="set") (b:=true) hT (by rw [isSubtype_type]; kernel_rfl) ?_)
 refine wpAny_ite_split (fun z=> absurd z (by decide)) (fun _=> ?_)
 refine wpAny_ite_split (fun _=> ?_) (fun z=> absurd (by decide+kernel) z)
 exact wpAny_bind (wpAny_typeOf hT (wpAny_pure h))
theorem yQ {S:Addr} {o:Obj} {es ep t hs} (O:SO prog w o es ep t hs):KdlSrc prog w "set" S S es.size (fun i v=> (cB w S es ep)[i]?=some v) (fun h=> h.get? S=some o) where
 type:=fun _ hm=> ⟨o,hm,O.ex.1⟩
 there:=fun _ hm=> ⟨Cw hm,Cw hm⟩
 keep:=fun _ _ hm hk=> hk S (.inl rfl) o hm
 notList:=by decide
 notTuple:=by decide
 hint:=fun _ _ _ _ hm hq=> wx ⟨o,hm,O.ex.1⟩ hq
 iter:=fun _ s hh hm=> ⟨_,_,(fun _ _ hq=> uW O hm hq),sG hh (C1 (Cw hm)) O,⟨⟨_,CG _ rfl,rfl,by simp [be,fY]⟩,Cq _ hm⟩⟩
end
end ST
namespace ST
open PySem PySem.W PyProof.Rows
inductive fO (lt:Nat→Nat→Bool) (n:Nat) {α:Type}:KasT α→α→Prop
 | ret (a:α):fO lt n (.ret a) a
 | ask {i j:Nat} {k:Bool→KasT α} {a:α}:i < n→j < n→fO lt n (k (lt i j)) a→fO lt n (.ask i j k) a
variable {lt:Nat→Nat→Bool} {n:Nat}
theorem fO.bind {α β:Type} {t:KasT α} {a:α} {f:α→KasT β} {b:β} (h:fO lt n t a) (h':fO lt n (f a) b):fO lt n (t.bind f) b:=by
 induction h with
 | ret a=> exact h'
 | ask hi hj _ ih=> exact fO.ask hi hj (ih h')
theorem fO.wp {α:Type} {t:KasT α} {a:α} (h:fO lt n t a) {cmp:Nat→Nat→(Bool→Shared→Prop)→Shared→Prop} {s:Shared} (hc:∀ i j C,i < n→j < n→C (lt i j) s→cmp i j C s) {Q:α→Shared→Prop} (q:Q a s):t.kasWp cmp Q s:=by
 induction h with
 | ret a=> exact q
 | ask hi hj _ ih=> exact hc _ _ _ hi hj (ih q)
structure LtO (n:Nat) (lt:Nat→Nat→Bool):Prop where
 tr:∀ i j k,lt i j=true→lt j k=true→lt i k=true
 tot:∀ i j,i < n→j < n→i≠j→lt i j=false→lt j i=true
 asy:∀ i j,lt i j=true→lt j i=false
abbrev g (p:Array Nat) (k:Nat):Nat:=p.getD k 0
theorem xR {p q:Array Nat} {k l:Nat} (h:p[k]?=q[l]?):g p k=g q l:=by
 unfold g
 rw [DS,DS,h]
structure PP (n:Nat) (p:Array Nat):Prop where
 perm:p.toList.Perm (Df n)
theorem PP.size {p:Array Nat} (h:PP n p):p.size=n:=by rw [← CV,h.perm.length_eq,EX]
theorem PP.mem {p:Array Nat} (h:PP n p) {k:Nat} (hk:k < n):g p k < n:=by
 have hk':k < p.size:=by rw [h.size]; exact hk
 have e:g p k=p[k]:=by simp [g,ED,hk']
 rw [e]
 exact CF.mp (h.perm.mem_iff.mp (by simp))
theorem PP.inj {p:Array Nat} (h:PP n p) {k l:Nat} (hk:k < n) (hl:l < n) (e:g p k=g p l):k=l:=by
 have hk':k < p.toList.length:=by rw [CV,h.size]; exact hk
 have hl':l < p.toList.length:=by rw [CV,h.size]; exact hl
 have nd:p.toList.Nodup:=h.perm.nodup_iff.mpr Ey
 have e1:g p k=p.toList[k]:=by simp [g,ED,h.size,hk]
 have e2:g p l=p.toList[l]:=by simp [g,ED,h.size,hl]
 exact (GY nd).mp (by rw [← e1,← e2,e])
theorem PP.of {p q:Array Nat} (h:PP n p) (hq:q.Perm p):PP n q:=⟨(Array.perm_iff_toList_perm.mp hq).trans h.perm⟩
def Srt (lt:Nat→Nat→Bool) (p:Array Nat) (m:Nat):Prop:=∀ i j,i < j→j < m→lt (g p i) (g p j)=true
def Dsc (lt:Nat→Nat→Bool) (p:Array Nat) (m:Nat):Prop:=∀ i j,i < j→j < m→lt (g p j) (g p i)=true
theorem Srt.one (p:Array Nat):Srt lt p 1:=fun i j h1 h2=> by omega
theorem Srt.more (O:LtO n lt) {p:Array Nat} {m:Nat} (S:Srt lt p m) (h1:1≤m) (h:lt (g p (m - 1)) (g p m)=true):Srt lt p (m+1):=fun i j hij hj=> by
 rcases CW (Ec hj) with z | z
 ·exact S i j hij z
 ·subst z
  rcases CW (show i≤j - 1 by omega) with y | y
  ·exact O.tr _ _ _ (S i (j - 1) y (by omega)) h
  ·subst y; exact h
theorem Dsc.more (O:LtO n lt) {p:Array Nat} {m:Nat} (S:Dsc lt p m) (h1:1≤m) (h:lt (g p m) (g p (m - 1))=true):Dsc lt p (m+1):=fun i j hij hj=> by
 rcases CW (Ec hj) with z | z
 ·exact S i j hij z
 ·subst z
  rcases CW (show i≤j - 1 by omega) with y | y
  ·exact O.tr _ _ _ h (S i (j - 1) y (by omega))
  ·subst y; exact h
theorem md (O:LtO n lt) {p:Array Nat} (P:PP n p):∀ (f m:Nat),1≤m→m+f=n→Srt lt p m→∃ m',fO lt n (kas_asc p f m) m'∧m≤m'∧m'≤n∧Srt lt p m'∧(m' < n→lt (g p m') (g p (m' - 1))=true)
 | 0,m,h1,hf,S=> ⟨m,.ret m,Cv _,by omega,S,fun h=> by omega⟩
 | f+1,m,h1,hf,S=> by
  by_cases hc:lt (g p m) (g p (m - 1))=true
  ·refine ⟨m,.ask (P.mem (by omega)) (P.mem (by omega)) ?_,Cv _,by omega,S,fun _=> hc⟩
   rw [if_pos hc]; exact .ret m
  ·have hc':lt (g p m) (g p (m - 1))=false:=by simpa using hc
   have ht:=O.tot _ _ (P.mem (show m < n by omega)) (P.mem (show m - 1 < n by omega)) (fun e=> by have:=P.inj (by omega) (by omega) e; omega) hc'
   obtain ⟨m',r,a1,a2,a3,a4⟩:=md O P f (m+1) (by omega) (by omega) (S.more O h1 ht)
   refine ⟨m',.ask (P.mem (by omega)) (P.mem (by omega)) ?_,by omega,a2,a3,a4⟩
   rw [if_neg hc]; exact r
theorem nv (O:LtO n lt) {p:Array Nat} (P:PP n p):∀ (f m:Nat),1≤m→m+f=n→Dsc lt p m→∃ m',fO lt n (kas_desc f p m 0) (p,m',0)∧m≤m'∧m'≤n∧Dsc lt p m'
 | 0,m,h1,hf,S=> ⟨m,.ret _,Cv _,by omega,S⟩
 | f+1,m,h1,hf,S=> by
  by_cases hc:lt (g p m) (g p (m - 1))=true
  ·obtain ⟨m',r,a1,a2,a3⟩:=nv O P f (m+1) (by omega) (by omega) (S.more O h1 hc)
   refine ⟨m',.ask (P.mem (by omega)) (P.mem (by omega)) ?_,by omega,a2,a3⟩
   rw [if_pos hc,if_neg (by omega)]; exact r
  ·have hc':lt (g p m) (g p (m - 1))=false:=by simpa using hc
   have ht:=O.tot _ _ (P.mem (show m < n by omega)) (P.mem (show m - 1 < n by omega)) (fun e=> by have:=P.inj (by omega) (by omega) e; omega) hc'
   refine ⟨m,.ask (P.mem (by omega)) (P.mem (by omega)) ?_,Cv _,by omega,S⟩
   rw [if_neg hc]
   refine .ask (P.mem (by omega)) (P.mem (by omega)) ?_
   rw [if_pos ht]; exact .ret _
theorem ui {p:Array Nat} (P:PP n p) {m k:Nat} (hm:m≤n) (hk:k < m):g (kas_rev p 0 m) k=g p (m - 1 - k):=by
 refine xR ?_
 unfold kas_rev
 rw [getElem?_mirror (by rw [P.size]; exact hm) _ (by omega)]
 split
 ·congr 1; omega
 ·congr 1; omega
theorem wn {p:Array Nat} (P:PP n p) (i j:Nat):PP n (kas_rev p i j):=P.of (mirror_perm _ _ _ _)
theorem xC {p:Array Nat} (P:PP n p) {m:Nat} (hm:m≤n) (D:Dsc lt p m):Srt lt (kas_rev p 0 m) m:=fun i j hij hj=> by
 rw [ui P hm (by omega),ui P hm hj]
 exact D _ _ (by omega) (by omega)
theorem tR (O:LtO n lt) {p:Array Nat} (P:PP n p) (h2:2≤n):∃ m p',fO lt n (kas_count n p) (m,p')∧PP n p'∧1≤m∧m≤n∧Srt lt p' m:=by
 obtain ⟨m,r,a1,a2,a3,a4⟩:=md O P (n - 1) 1 (Cv _) (by omega) (Srt.one p)
 by_cases hm:m=n
 ·exact ⟨m,p,r.bind (by rw [if_pos (by simp [hm])]; exact .ret _),P,a1,a2,a3⟩
 ·have hne:¬ ((m==n)=true):=by simpa using hm
  by_cases h1:m > 1
  ·refine ⟨m,p,r.bind ?_,P,a1,a2,a3⟩
   rw [if_neg hne,if_pos h1]
   refine .ask (P.mem (by omega)) (P.mem (by omega)) ?_
   rw [if_pos (a3 0 (m - 1) (by omega) (by omega))]
   exact .ret _
  ·obtain rfl:m=1:=by omega
   have D2:Dsc lt p 2:=Dsc.more O (fun i j x y=> by omega) (Cv _) (a4 (by omega))
   obtain ⟨d,rd,b1,b2,b3⟩:=nv O P (n - 2) 2 (by omega) (by omega) D2
   obtain ⟨e,re,c1,c2,c3,c4⟩:=md O (wn P 0 d) (n - d) d (by omega) (by omega) (xC P b2 b3)
   refine ⟨e,kas_rev p 0 d,r.bind ?_,wn P 0 d,by omega,c2,c3⟩
   rw [if_neg hne,if_neg h1]
   unfold kas_descPart
   refine fO.bind (a:=(p,d,0)) rd ?_
   rw [if_neg (by simp)]
   unfold kas_tail3
   exact re.bind (.ret _)
theorem iE (O:LtO n lt) {p:Array Nat} (P:PP n p) {k:Nat} (hk:k < n) (S:Srt lt p k):∀ (f l r:Nat),l≤r→r≤k→r - l≤f→(∀ i,i < l→lt (g p i) (g p k)=true)→(∀ i,r≤i→i < k→lt (g p k) (g p i)=true)→
  ∃ l',fO lt n (kas_place p k f l r) l'∧l'≤k∧(∀ i,i < l'→lt (g p i) (g p k)=true)∧(∀ i,l'≤i→i < k→lt (g p k) (g p i)=true)
 | 0,l,r,h1,h2,h3,a,b=> ⟨l,.ret l,by omega,a,fun i x y=> b i (by omega) y⟩
 | f+1,l,r,h1,h2,h3,a,b=> by
  unfold kas_place
  by_cases hlr:l ≥ r
  ·rw [if_pos hlr]
   exact ⟨l,.ret l,by omega,a,fun i x y=> b i (by omega) y⟩
  ·rw [if_neg hlr]
   have hm:(l+r) / 2 < k:=by omega
   by_cases hc:lt (g p k) (g p ((l+r) / 2))=true
   ·obtain ⟨l',r',x1,x2,x3⟩:=iE O P hk S f l ((l+r) / 2) (by omega) (by omega) (by omega) a fun i hi hik=> by
     rcases CW hi with z | z
     ·exact O.tr _ _ _ hc (S _ _ z hik)
     ·rw [← z]; exact hc
    refine ⟨l',.ask (P.mem hk) (P.mem (by omega)) ?_,x1,x2,x3⟩
    rw [if_pos hc]; exact r'
   ·have hc':lt (g p k) (g p ((l+r) / 2))=false:=by simpa using hc
    have ht:=O.tot _ _ (P.mem hk) (P.mem (show (l+r) / 2 < n by omega)) (fun e=> by have:=P.inj hk (by omega) e; omega) hc'
    obtain ⟨l',r',x1,x2,x3⟩:=iE O P hk S f ((l+r) / 2+1) r (by omega) h2 (by omega) (fun i hi=> by
     rcases CW (Ec hi) with z | z
     ·exact O.tr _ _ _ (S _ _ z hm) ht
     ·rw [z]; exact ht) b
    refine ⟨l',.ask (P.mem hk) (P.mem (by omega)) ?_,x1,x2,x3⟩
    rw [if_neg hc]; exact r'
theorem rB (O:LtO n lt):∀ (f k:Nat) (p:Array Nat),k+f=n→PP n p→Srt lt p k→∃ p',fO lt n (kas_bin f p k) p'∧PP n p'∧Srt lt p' n
 | 0,k,p,hf,P,S=> ⟨p,.ret p,P,by rw [← hf]; exact S⟩
 | f+1,k,p,hf,P,S=> by
  obtain ⟨l,rl,x1,x2,x3⟩:=iE O P (show k < n by omega) S k 0 k (DG _) (Cv _) (by omega) (fun i h=> by omega) (fun i h h'=> by omega)
  have at_:∀ j,g (bubble p k (k - l)) j=if j=l then g p k else if l < j∧j≤k then g p (j - 1) else g p j:=fun j=> by
   have e:=getElem?_bubble (xs:=p) (src:=k) (by rw [P.size]; omega) (k - l) (by omega) j
   rw [show k - (k - l)=l by omega] at e
   split
   ·rename_i z; rw [if_pos z] at e; exact xR e
   ·rename_i z
    rw [if_neg z] at e
    split
    ·rename_i y; rw [if_pos y] at e; exact xR e
    ·rename_i y; rw [if_neg y] at e; exact xR e
  have e1:g (bubble p k (k - l)) l=g p k:=by rw [at_,if_pos rfl]
  have e2:∀ j,l < j→j≤k→g (bubble p k (k - l)) j=g p (j - 1):=fun j y z=> by rw [at_,if_neg (by omega),if_pos ⟨y,z⟩]
  have e3:∀ j,j < l→g (bubble p k (k - l)) j=g p j:=fun j y=> by rw [at_,if_neg (by omega),if_neg (by omega)]
  have S':Srt lt (bubble p k (k - l)) (k+1):=fun i j hij hj=> by
   rcases Ep j l with y | y | y
   ·rw [e3 i (by omega),e3 j y]; exact S _ _ hij (by omega)
   ·rw [y,e1,e3 i (by omega)]; exact x2 i (by omega)
   ·rw [e2 j y (by omega)]
    rcases Ep i l with z | z | z
    ·rw [e3 i z]; exact S _ _ (by omega) (by omega)
    ·rw [z,e1]; exact x3 (j - 1) (by omega) (by omega)
    ·rw [e2 i z (by omega)]; exact S _ _ (by omega) (by omega)
  obtain ⟨p',r',P',S''⟩:=rB O f (k+1) (bubble p k (k - l)) (by omega) (P.of (bubble_perm _ _ _)) S'
  exact ⟨p',rl.bind r',P',S''⟩
theorem vg (O:LtO n lt) (h2:2≤n):∃ p,fO lt n (kas_sort n) p∧PP n p∧Srt lt p n:=by
 obtain ⟨m,p,r,P,a1,a2,S⟩:=tR O (p:=Jm (Df n)) ⟨by simp⟩ h2
 by_cases hm:m < n
 ·obtain ⟨p',r',P',S'⟩:=rB O (n - max m 1) (max m 1) p (by omega) P (by rw [show max m 1=m by omega]; exact S)
  exact ⟨p',r.bind (by rw [if_pos hm]; exact r'),P',S'⟩
 ·obtain rfl:m=n:=by omega
  exact ⟨p,r.bind (by rw [if_neg hm]; exact .ret _),P,S⟩
end ST
namespace ST
open PySem PySem.W PyProof.Rows
def ltP (a b:Int×Int):Bool:=decide (a.1 < b.1∨(a.1=b.1∧a.2 < b.2))
theorem ltP_tr {a b c:Int×Int} (h1:ltP a b=true) (h2:ltP b c=true):ltP a c=true:=by
 unfold ltP at *; simp at *; omega
theorem qH {a b:Int×Int} (h1:ltP a b=true):ltP b a=false:=by
 unfold ltP at *; simp at *; omega
theorem ltP_tot {a b:Int×Int} (h:a≠b) (h1:ltP a b=false):ltP b a=true:=by
 unfold ltP at *
 have:¬ (a.1=b.1∧a.2=b.2):=fun z=> h (Em z.1 z.2)
 simp at *; omega
section
variable {prog:Program} {w:World} {A:Around} {E:Value→Shared→Prop} {s:Shared}
theorem TK.two {h:Heap} {x y:Int} {b:Addr} (k:TK prog w h [x,y] b):∃ o its n t u,h.get? b=some o∧o.cls=.type "tuple"∧o.data=.seq its n∧its.toList=[.int x t,.int y u]:=by
 obtain ⟨o,its,n,ho,hc,hd,hi⟩:=k
 cases hi':its.toList with
 | nil=> rw [hi'] at hi; cases hi
 | cons v1 r=>
  rw [hi'] at hi
  cases hi with
  | cons h1 hr=>
   cases hr with
   | cons h2 hr2=>
    cases hr2
    obtain ⟨t,rfl⟩:=FG h1
    obtain ⟨u,rfl⟩:=FG h2
    exact ⟨o,its,n,t,u,ho,hc,hd,hi'⟩
theorem Az {x y:Addr} {a b:Int×Int} {Q:Bool→Shared→Prop} (hx:TK prog w s.heap [a.1,a.2] x) (hy:TK prog w s.heap [b.1,b.2] y) (h:Q (ltP a b) s):wpAny (model prog w) A (keyLt' (tuples' true) (.ref x) (.ref y)) Q E s:=by
 obtain ⟨o,its,n,t,u,ho,_,hd,hi⟩:=hx.two
 obtain ⟨o',its',n',t',u',ho',_,hd',hi'⟩:=hy.two
 refine kat_lt ho hd ho' hd' ?_
 rw [hi,hi']
 refine kat_cons ((intKind prog w).eqBool (a:=a.1) (b:=b.1) (intKind_is _ _ _ _) (intKind_is _ _ _ _) ?_)
 by_cases e1:a.1=b.1
 ·rw [decide_eq_true e1]
  refine kat_yes (kat_cons ((intKind prog w).eqBool (a:=a.2) (b:=b.2) (intKind_is _ _ _ _) (intKind_is _ _ _ _) ?_))
  by_cases e2:a.2=b.2
  ·rw [decide_eq_true e2]
   refine kat_yes (kat_nil ?_)
   have z:ltP a b=false:=by unfold ltP; simp; omega
   rw [z] at h
   have z2:decide (its.size < its'.size)=false:=by
    rw [← CV,← CV,hi,hi']; simp
   rw [z2]; exact h
  ·rw [decide_eq_false e2]
   refine kat_no (kat_one _ _ (lt_int ?_))
   have z:ltP a b=decide (a.2 < b.2):=by unfold ltP; rw [e1]; simp
   rw [z] at h
   exact h
 ·rw [decide_eq_false e1]
  refine kat_no (oneLt_int ?_)
  have z:ltP a b=decide (a.1 < b.1):=by unfold ltP; simp [e1]
  rw [z] at h
  exact h
abbrev PB:=List ((Int×Int)×Addr)
abbrev refs (pb:PB):List Value:=pb.map fun p=> Dl p.2
def dfl:(Int×Int)×Addr:=((0,0),0)
theorem pH (pb:PB):(Df pb.length).map (fun i=> pb.getD i dfl)=pb:=by
 apply List.ext_getElem
 ·simp
 ·intro i h1 h2
  simp at h1
  simp [h1]
theorem u8 {pb:PB} {Q:SortKind→Shared→Prop} (htk:∀ p∈pb,TK prog w s.heap [p.1.1,p.1.2] p.2) (h0:0 < pb.length) (h:Q (tuples' true) s):wpAny (model prog w) A (keyKind' (refs pb).toArray) Q E s:=by
 obtain ⟨fs,hf,hl,hi⟩:∃ fs,KatTups s.heap (refs pb) fs∧fs.length=pb.length∧∀ v∈fs,∃ n t,v=Dm n t:=by
  clear h h0
  induction pb with
  | nil=> exact ⟨[],.nil,rfl,fun v hv=> by simp at hv⟩
  | cons p r ih=>
   obtain ⟨fs,hf,hl,hi⟩:=ih fun q hq=> htk q (Cp _ hq)
   obtain ⟨o,its,n,t,u,ho,hc,hd,hit⟩:=(htk p Cy).two
   refine ⟨.int p.1.1 t::fs,.cons ho hc hd (by rw [← DB,hit]; rfl) hf,by simp [hl],fun v hv=> ?_⟩
   rcases Cu.mp hv with z | z
   ·exact ⟨_,_,z⟩
   ·exact hi v z
 refine kat_kind (T:=.type "int") hf (by omega) (fun v hv=> ?_) (by decide) h
 obtain ⟨n,t,rfl⟩:=hi v hv
 exact Looks.of_pure rfl
set_option maxHeartbeats 1000000 in
theorem wv {a:Addr} {pb:PB} {n:Nat} {P:JB→Shared→Prop} (ho:s.heap.get? a=some (seqObj "list" (refs pb).toArray n)) (htk:∀ p∈pb,TK prog w s.heap [p.1.1,p.1.2] p.2) (hnd:(pb.map (·.1)).Nodup) (h64:pb.length < 64)
  (h:∀ pb':PB,pb'.Perm pb→(pb'.map (·.1)).Pairwise (fun x y=> ltP x y=true)→P (.done (.ret .none)) { s with heap:=sortedHeap s.heap a (refs pb) (refs pb').toArray }):
  wpAny (model prog w) A (Builtin.«list.sort» ⟨[.ref a],[]⟩) P E s:=by
 have hvl:(refs pb).length=pb.length:=by simp
 have hva:(refs pb).toArray.size=pb.length:=by simp
 rw [list_sort_plain]
 have ha:a < s.heap.objs.size:=Cw ho
 refine wpAny_bind (listItems_at ho rfl (wpAny_bind (listUpdate_at ho rfl ?_ (by rw [hva,sizeLine_eq]; omega) (DG _))))
 obtain ⟨e1,ho1⟩:∃ e1,(s.heap.update a (DE fun _=> (#[]:Array Value))).get? a=some (seqObj "list" #[] e1):=⟨_,get?_update_seq ho (fun _=> #[])⟩
 refine wpAny_bind (seqEpoch_at ho1 rfl (wpAny_bind (wpAny_newTuple ?_ (by show (refs pb).length≤_; rw [hvl,sizeLine_eq]; omega))))
 refine wpAny_bind (wpAny_newList ?_ (DG _))
 refine wpAny_holding ?_
 generalize hh6:((s.heap.update a (DE fun _=> (#[]:Array Value))).push (seqObj "tuple" (refs pb).toArray 0)).push (seqObj "list" #[] 0)=h6
 have old6:∀ b o,b≠a→s.heap.get? b=some o→h6.get? b=some o:=fun b o hb e=> by
  rw [← hh6]
  exact Cq _ (Cq _ ((Dc _ _ (Ne.symm hb)).trans e))
 have ho6:h6.get? a=some (seqObj "list" #[] e1):=by rw [← hh6]; exact Cq _ (Cq _ ho1)
 have tk6:∀ p∈pb,TK prog w h6 [p.1.1,p.1.2] p.2:=fun p hp=> by
  obtain ⟨o,its,k,hop,hc,r⟩:=htk p hp
  refine ⟨o,its,k,old6 p.2 o (fun z=> ?_) hop,hc,r⟩
  rw [z,ho] at hop
  cases hop
  exact absurd hc (by show ¬ (DO "list"=DO "tuple"); decide)
 have fin:∀ pb':PB,pb'.Perm pb→(pb'.map (·.1)).Pairwise (fun x y=> ltP x y=true)→P (.done (.ret .none)) { s with heap:=h6.update a (DE fun _=> (refs pb').toArray) }:=fun pb' p1 p2=> by
  rw [← hh6]; exact h pb' p1 p2
 show wpAny (model prog w) A _ P E { s with heap:=h6 }
 dsimp only
 by_cases h2:(refs pb).toArray.size < 2
 ·rw [if_pos h2,if_pos h2]
  refine wpAny_bind (wpAny_pure ?_)
  rw [StateT.run_pure]
  refine wpAny_bind (wpAny_pure ?_)
  dsimp only
  have eout:(arrOf (SortSt.mk' general' ((refs pb).toArray.zip (refs pb).toArray) #[] 7 none)).map (·.2)=(refs pb).toArray:=by
   show (((refs pb).toArray.zip (refs pb).toArray)).map (·.2)=_
   apply Ib.mp
   have zip2:∀ l:List Value,(l.zip l).map (·.2)=l:=fun l=> by
    induction l with
    | nil=> rfl
    | cons x r ih=> rw [D3,CZ,ih]
   rw [Ic,Array.toList_zip]
   exact zip2 _
  rw [eout]
  refine wpAny_bind (seqEpoch_at ho6 rfl (wpAny_bind (listUpdate_at ho6 rfl ?_ (DG _) (by rw [hva,sizeLine_eq]; omega))))
  show wpAny _ _ (if (e1 !=e1)=true then _ else _) _ _ _
  rw [if_neg (by simp)]
  refine wpAny_pure (fin pb (IJ _) ?_)
  match pb,hva,h2 with
  | [],_,_=> simp
  | [_],_,_=> simp
  | _::_::r,hva,h2=> rw [hva] at h2; exact absurd h2 (by simp)
 ·rw [if_neg h2,if_neg h2]
  rw [hva] at h2
  have h2':2≤(refs pb).length:=by rw [hvl]; omega
  refine wpAny_bind (u8 (s:={ s with heap:=h6 }) tk6 (by omega) ?_)
  have inj:∀ i j,i < pb.length→j < pb.length→i≠j→(pb.getD i dfl).1≠(pb.getD j dfl).1:=fun i j hi hj hij e=> by
   refine hij ((GY (xs:=pb.map (·.1)) (h₀:=by simpa using hi) (h₁:=by simpa using hj) hnd).mp ?_)
   simpa [hi,hj] using e
  have O:LtO pb.length (fun i j=> ltP (pb.getD i dfl).1 (pb.getD j dfl).1):=⟨fun i j k=> ltP_tr,fun i j hi hj hij=> ltP_tot (inj i j hi hj hij),fun i j=> qH⟩
  obtain ⟨p,R,PP',S⟩:=vg O (by omega)
  have hcmp:∀ i j C,i < pb.length→j < pb.length→C (ltP (pb.getD i dfl).1 (pb.getD j dfl).1) { s with heap:=h6 }→kas_ask prog w A (tuples' true) (refs pb) i j C { s with heap:=h6 }:=fun i j C hi hj c=> by
   unfold kas_ask
   have ei:(refs pb).getD i C2=.ref (pb.getD i dfl).2:=by simp [hi]
   have ej:(refs pb).getD j C2=.ref (pb.getD j dfl).2:=by simp [hj]
   rw [ei,ej]
   have mi:pb.getD i dfl∈pb:=by simp [hi]
   have mj:pb.getD j dfl∈pb:=by simp [hj]
   exact Az (s:={ s with heap:=h6 }) (tk6 _ mi) (tk6 _ mj) c
  have tree:(kas_sort (refs pb).length).kasWp (kas_ask prog w A (tuples' true) (refs pb)) (fun p' s'=> p'=p∧s'={ s with heap:=h6 }) { s with heap:=h6 }:=by
   rw [hvl]
   exact R.wp hcmp ⟨rfl,rfl⟩
  refine wpAny_bind (wpAny_mono (kat_run (Q:=fun st' s'=> s'={ s with heap:=h6 }∧failedOf st'=none∧(arrOf st').map (·.2)=Jm (p.toList.map fun i=> (refs pb).getD i C2)) rfl h2' (by rw [hvl]; exact h64) (fun p' st' s' _ a2 a3 a4=> ?_) tree) ?_ fun _ _ e=> e)
  ·obtain ⟨rfl,rfl⟩:=a4
   exact ⟨rfl,a3,kat_snds rfl a2⟩
  ·rintro ⟨⟨⟩,st'⟩ s' ⟨rfl,hf,hout⟩
   dsimp only
   rw [hout]
   have hlt:∀ i∈p.toList,i < pb.length:=fun i hi=> CF.mp (PP'.perm.mem_iff.mp hi)
   have er:(p.toList.map fun i=> (refs pb).getD i C2)=refs (p.toList.map fun i=> pb.getD i dfl):=by
    unfold refs
    rw [Dz]
    refine EI fun i hi=> ?_
    have:=hlt i hi
    simp [this]
   rw [er]
   have hperm:(p.toList.map fun i=> pb.getD i dfl).Perm pb:=by
    refine (PP'.perm.map _).trans ?_
    rw [pH]
   have hs2:(refs (p.toList.map fun i=> pb.getD i dfl)).toArray.size=pb.length:=by simp [PP'.size]
   refine wpAny_bind (seqEpoch_at ho6 rfl (wpAny_bind (listUpdate_at ho6 rfl ?_ (DG _) (by rw [hs2,sizeLine_eq]; omega))))
   rw [hf]
   show wpAny _ _ (if (e1 !=e1)=true then _ else _) _ _ _
   rw [if_neg (by simp)]
   refine wpAny_pure (fin _ hperm ?_)
   rw [Dz,Dw,C4]
   intro i j hi hj hij
   have hj':j < pb.length:=by rw [CV,PP'.size] at hj; exact hj
   have q:=S i j hij hj'
   have ei:g p i=p.toList[i]:=by simp [g,ED,PP'.size,show i < pb.length by omega]
   have ej:g p j=p.toList[j]:=by simp [g,ED,PP'.size,hj']
   rw [ei,ej] at q
   exact q
end
end ST
namespace ST
open PySem PySem.W PyProof.Rows PySem.Calls
theorem wK {α β:Type} (f:α→β) {l m:List β} (h:l.Perm m):∀ kb:List α,m=kb.map f→∃ kb':List α,GP kb' kb∧l=List.map f kb':=by
 induction h with
 | nil=> intro kb e; exact ⟨kb,.refl _,e⟩
 | @cons x l m _ ih=>
  intro kb e
  match kb,e with
  | [],e=> simp at e
  | k::kb,e=>
   rw [CZ,Ik] at e
   obtain ⟨kb',p,e'⟩:=ih kb e.2
   exact ⟨k::kb',p.cons k,by rw [CZ,← e',e.1]⟩
 | swap x y l=>
  intro kb e
  match kb,e with
  | [],e=> simp at e
  | [_],e=> simp at e
  | k::k'::kb,e=>
   simp only [CZ,Ik] at e
   exact ⟨k'::k::kb,.swap k k' kb,by rw [CZ,CZ,← e.2.2,e.1,e.2.1]⟩
 | trans _ _ ih1 ih2=>
  intro kb e
  obtain ⟨kb2,p2,e2⟩:=ih2 kb e
  obtain ⟨kb1,p1,e1⟩:=ih1 kb2 e2
  exact ⟨kb1,p1.trans p2,e1⟩
def ptsOf (kb:List (List Int×Addr)):PB:=kb.map fun p=> ((p.1.getD 0 0,p.1.getD 1 0),p.2)
section
variable {prog:Program} {w:World} {A:Around} {E:Value→Shared→Prop} {s:Shared}
set_option maxHeartbeats 1000000 in
theorem call_sorted_set {S:Addr} {kb:List (List Int×Addr)} {Q:Value→Shared→Prop} (hh:A.handled=none) (P:SP prog w s.heap S kb) (h64:kb.length < 64) (h2:∀ p∈kb,p.1.length=2)
  (h:∀ (h1 h':Heap) (tk:Nat) (pb:PB) (e:Nat),GP pb (ptsOf kb)→(pb.map (·.1)).Pairwise (fun x y=> ltP x y=true)→(∀ b o,s.heap.get? b=some o→h1.get? b=some o)→(∀ b o,h1.get? b=some o→h'.get? b=some o)→h'.get? h1.objs.size=some (seqObj "list" (refs pb).toArray e)→Q (.ref h1.objs.size) { s with heap:=h',toks:=tk }):
  wpAny (model prog w) A (call (.builtin "sorted") [.ref S]) Q E s:=by
 obtain ⟨⟨o,es,ep,t,ho,hex,hd,he,T,hl,hp,_,_⟩,hk,hnd⟩:=P
 have hsz:es.size=kb.length:=by rw [← CV,he]; simp [fI]
 have O:SO prog w o es ep t (kb.map fun p=> hsh prog w p.1):=⟨hex,hd,T,by rw [Co,hsz],hl,hp⟩
 have two:∀ p∈kb,p.1=[p.1.getD 0 0,p.1.getD 1 0]:=fun p hp'=> by
  have:=h2 p hp'
  match hq:p.1,this with
  | [x,y],_=> rfl
 refine call_function_entry kind_sorted plain_sorted entry_sorted (args_sorted1 _) ?_
 unfold Builtin.«sorted»
 refine wpAny_bind (m:=checkCount "sorted" 1 1 _) (wpAny_pure ?_)
 refine wpAny_bind (kdu_collect (A:=A.in1) (yQ O) hh ho (by rw [hsz,sizeLine_eq]; omega) fun h' tk acc keep hacc=> ?_)
 have hal:acc.toList=cB w S es ep:=by
  apply Fm
  intro i
  rcases EO i acc.size with z | z
  ·rw [DB,D7 z]
   exact (hacc.2 i _ (D7 z)).symm
  ·rw [Dr (by simpa using z),Dr]
   rw [(e6 w S es ep).length_eq,Co,CV,← hacc.1]; exact z
 obtain ⟨kb1,pk,ek⟩:=wK (fun (p:List Int×Addr)=> Dl p.2) (e6 w S es ep) kb (by rw [he]; unfold fI; rw [Dz]; rfl)
 have hl1:acc.toList=refs (ptsOf kb1):=by
  rw [hal,ek]; unfold refs ptsOf; rw [Dz]; rfl
 have hlen1:(ptsOf kb1).length=kb.length:=by unfold ptsOf; rw [Co,pk.length_eq]
 have hlenA:acc.toList.length=kb.length:=by rw [hl1]; simp [hlen1]
 refine wpAny_bind (wpAny_newList ?_ (by rw [hlenA,sizeLine_eq]; omega))
 have hD:(h'.push { cls:=.type "list",data:=.seq acc.toList.toArray }).get? h'.objs.size=some (seqObj "list" (refs (ptsOf kb1)).toArray 0):=by
  rw [← hl1]; exact CG _ rfl
 have tk1:∀ p∈ptsOf kb1,TK prog w (h'.push { cls:=.type "list",data:=.seq acc.toList.toArray }) [p.1.1,p.1.2] p.2:=fun p hp'=> by
  obtain ⟨q,hq,rfl⟩:=Cr.mp hp'
  have hq':=pk.mem_iff.mp hq
  obtain ⟨oq,its,k,hoq,r⟩:=hk q hq'
  have e2:=two q hq'
  refine ⟨oq,its,k,Cq _ (keep _ _ hoq),?_⟩
  rw [← e2]; exact r
 have nd1:((ptsOf kb1).map (·.1)).Nodup:=by
  have n1:(kb1.map (·.1)).Nodup:=((pk.map (·.1)).nodup_iff).mpr hnd
  unfold ptsOf
  rw [Dz]
  refine Dw.mpr ((Dw.mp n1).imp_of_mem fun {a b} ha hb hab=> ?_)
  intro z
  have ea:=two a (pk.mem_iff.mp ha)
  have eb:=two b (pk.mem_iff.mp hb)
  have z':(a.1.getD 0 0,a.1.getD 1 0)=(b.1.getD 0 0,b.1.getD 1 0):=z
  rw [Jd] at z'
  rw [z'.1,z'.2] at ea
  exact hab (ea.trans eb.symm)
 refine wpAny_bind (wpAny_holding (wpAny_call_entry slot_list_sort ⟨_,hD,rfl⟩ entry_list_sort ?_ (args_list_sort _)))
 refine wv (s:={ s with heap:=h'.push { cls:=.type "list",data:=.seq acc.toList.toArray },toks:=tk }) hD tk1 nd1 (by omega) fun pb' pp so=> ⟨_,rfl,wpAny_pure ⟨_,rfl,?_⟩⟩
 obtain ⟨e,eD⟩:=sortedHeap_at (out:=(refs pb').toArray) hD
 refine h h' _ tk pb' e (pp.trans ?_) so keep (fun b x hb'=> ?_) eD
 ·unfold ptsOf; exact pk.map _
 ·have hlt:=Cw hb'
  rw [sortedHeap_old (C1 hlt) (by rw [Er]; exact Eo hlt)]
  exact Cq _ hb'
end
end ST
namespace ST
open PySem
def ins (x:Int×Int):List (Int×Int)→List (Int×Int)
 | []=> [x]
 | y::r=> if x=y then y::r else if ltP x y=true then x::y::r else y::ins x r
def srt (pts:List (Int×Int)):List (Int×Int):=pts.foldr ins []
theorem mK (x z:Int×Int):∀ l,z∈ins x l↔z=x∨z∈l
 | []=> by simp [ins]
 | y::r=> by
  unfold ins
  split
  ·rename_i h; subst h; simp
  ·split
   ·simp
   ·rw [Cu,mK x z r,Cu]
    constructor
    ·rintro (h | h | h)
     ·exact .inr (.inl h)
     ·exact .inl h
     ·exact .inr (.inr h)
    ·rintro (h | h | h)
     ·exact .inr (.inl h)
     ·exact .inl h
     ·exact .inr (.inr h)
abbrev Asc (l:List (Int×Int)):Prop:=l.Pairwise (fun x y=> ltP x y=true)
theorem qZ (x:Int×Int):∀ l,Asc l→Asc (ins x l)
 | [],_=> by simp [ins]
 | y::r,h=> by
  unfold ins
  split
  ·exact h
  ·rename_i hne
   obtain ⟨h1,h2⟩:=CL.mp h
   split
   ·rename_i hlt
    refine CL.mpr ⟨fun z hz=> ?_,h⟩
    rcases Cu.mp hz with e | e
    ·rw [e]; exact hlt
    ·exact ltP_tr hlt (h1 z e)
   ·rename_i hlt
    refine CL.mpr ⟨fun z hz=> ?_,qZ x r h2⟩
    rcases (mK x z r).mp hz with e | e
    ·rw [e]; exact ltP_tot hne (by simpa using hlt)
    ·exact h1 z e
theorem srt_mem (z:Int×Int):∀ l,z∈srt l↔z∈l
 | []=> by simp [srt]
 | y::r=> by
  show z∈ins y (srt r)↔_
  rw [mK,srt_mem z r,Cu]
theorem srt_asc:∀ l,Asc (srt l)
 | []=> Fl
 | y::r=> qZ y (srt r) (srt_asc r)
theorem asc_irr {x:Int×Int}:ltP x x=false:=by unfold ltP; simp
theorem asc_one:∀ {l m:List (Int×Int)},Asc l→Asc m→(∀ z,z∈l↔z∈m)→l=m
 | [],[],_,_,_=> rfl
 | [],y::r,_,_,h=> by have:=(h y).mpr Cy; simp at this
 | x::l,[],_,_,h=> by have:=(h x).mp Cy; simp at this
 | x::l,y::m,hl,hm,h=> by
  obtain ⟨a1,a2⟩:=CL.mp hl
  obtain ⟨b1,b2⟩:=CL.mp hm
  have e:x=y:=by
   rcases Cu.mp ((h x).mp Cy) with z | z
   ·exact z
   ·rcases Cu.mp ((h y).mpr Cy) with z' | z'
    ·exact z'.symm
    ·have:=qH (b1 x z)
     rw [a1 y z'] at this; cases this
  subst e
  congr 1
  refine asc_one a2 b2 fun z=> ⟨fun hz=> ?_,fun hz=> ?_⟩
  ·rcases Cu.mp ((h z).mp (Cp _ hz)) with e | e
   ·have:=a1 z hz; rw [e,asc_irr] at this; cases this
   ·exact e
  ·rcases Cu.mp ((h z).mpr (Cp _ hz)) with e | e
   ·have:=b1 z hz; rw [e,asc_irr] at this; cases this
   ·exact e
theorem asc_srt {l:List (Int×Int)} (h:Asc l):srt l=l:=asc_one (srt_asc l) h fun z=> srt_mem z l
theorem qR (x:Int×Int):∀ l,(ins x l).length≤l.length+1
 | []=> by simp [ins]
 | y::r=> by
  have:=qR x r
  unfold ins
  split
  ·simp
  ·split
   ·simp
   ·simp only [Dy]; omega
theorem srt_len:∀ l,(srt l).length≤l.length
 | []=> Cv _
 | y::r=> by
  have h1:=qR y (srt r)
  have h2:=srt_len r
  show (ins y (srt r)).length≤_
  simp only [Dy]; omega
end ST
namespace L2
open PySem PySem.Spec PyProof.Rows
theorem BZ {p:Nat→Addr→Prop} {n:Nat} (h:∀ i,i < n→∃ b,p i b):∃ f:Nat→Addr,∀ i,i < n→p i (f i):=by
 refine ⟨fun i=> if k:i < n then Classical.choose (h i k) else 0,fun i hi=> ?_⟩
 dsimp only
 rw [dif_pos hi]
 exact Classical.choose_spec (h i hi)
theorem vG:bootBuiltins "set"=some (.type "set"):=by decide+kernel
section
variable {X:Cx} {H0:Hp} {O0:List Addr} {ps:PSt} {e:Expr} {pts:List P2} {pos pos' p p':Pos}
set_option maxHeartbeats 2000000 in
theorem gv (hc:X.calm=true) (hu:X.A.units+10 < cLine) (hg:Gl X "sorted") (hm:X.mg "sorted"=none) (hgs:Gl X "set") (hms:X.mg "set"=none) (ha:Ev X H0 O0 ps e (lp pts)) (hl:pts.length < 64)
  (he:starEach [e] X.env=(false,eval e X.env)::starEach [] X.env:=by rfl):EvN X H0 O0 ps (.Call (.Name "sorted" p) [.Call (.Name "set" p') [e] [] pos'] [] pos) ((ST.srt pts).map pu):=by
 rintro pins s σ H Q I ⟨O,R,q⟩
 have hh:X.A.handled=none:=I.ok.hd hc
 refine wpAny_Call_Name_kw (dQ I hg hm boot_sorted ?_)
 refine callWith_builtin1 (e:=.Call (.Name "set" p') [e] [] pos') (rest:=[]) ?_ rfl rfl
 show wpAny _ _ (spliced ((false,eval (.Call (.Name "set" p') [e] [] pos') X.env)::backTo pos (starEach [] X.env))) _ _ s
 refine Fd ?_
 refine wpAny_Call_Name_kw (dQ I hgs hms vG ?_)
 refine callWith_type1 (thn (eL ha g6 he pos' pins s σ H (fun vs H1=> ∃ v,vs=[v]∧aQ H H1∧Rp X.K (hid H1 O) v (lp pts)) I ⟨O,R,fun v H1 s1 r1=> ⟨v,rfl,s1,r1⟩⟩) fun us s1 hx=> ?_) he rfl
 obtain ⟨vs,H1,I1,rv,v,rfl,sm,rp⟩:=hx
 obtain ⟨u,rfl,ru⟩:=fe rv
 cases rp with
 | @lst a ws _ hq hwl hwi=>
  cases ru
  obtain ⟨its,rw',pl,hz⟩:=I1.list (SqL.of (aG _ _ hq))
  have hlp:ws.length=pts.length:=by rw [hwl,Co]
  have hil:its.length=pts.length:=by rw [← rw'.length,hlp]
  have item:∀ i,i < pts.length→∃ b,its[i]?=some (.ref b)∧Rp X.K (hid H1 O) (.ref b) (pu (pts.getD i (0,0)))∧ST.TK X.prog X.w s1.heap [(pts.getD i (0,0)).1,(pts.getD i (0,0)).2] b:=fun i hi=> by
   have hw:ws[i]?=some ws[i]:=Cm (by omega)
   have hp:(pts.map pu)[i]?=some (pu (pts.getD i (0,0))):=by rw [Ct,Cm hi]; simp [hi]
   have r:=hwi i _ _ hw hp
   obtain ⟨u',e1,e2⟩:=rw'.get hw
   generalize ws[i]=z at *
   cases r with
   | @tup b zs _ hs hsl hsi=>
    cases e2
    refine ⟨b,e1,Rp.tup hs hsl hsi,?_⟩
    obtain ⟨jts,rj,ht,_⟩:=I1.tuple (by exact aG.tup hs)
    have z0:zs.length=2:=hsl
    match zs,z0,hsi,rj with
    | [z1,z2],_,hsi,rj=>
     have q1:=hsi 0 z1 _ rfl rfl
     have q2:=hsi 1 z2 _ rfl rfl
     cases q1
     cases q2
     obtain ⟨u1,u2,rfl,r1,r2⟩:=lv rj
     obtain ⟨t1,rfl⟩:=r1
     obtain ⟨t2,rfl⟩:=r2
     obtain ⟨o,ho,hoc,n,hod⟩:=ht
     exact ⟨o,_,n,ho,hoc,hod,.cons (intKind_is _ _ _ _) (.cons (intKind_is _ _ _ _) .nil)⟩
  obtain ⟨ad',adE⟩:=BZ item
  have hsz:its.toArray.size=pts.length:=by simp [hil]
  refine ST.call_set_pts (fun i=> ([(pts.getD i (0,0)).1,(pts.getD i (0,0)).2],ad' i)) hh (by show X.A.units+1+1+1 < cLine; omega) pl.isList (fun i z ez=> ?_) (fun i hi=> ?_) (by rw [hsz]; omega) fun h2 tk kb sp got keep=> ?_
  ·have hi:i < pts.length:=by have:=aL (show its[i]?=some z by simpa using ez); omega
   have:=(adE i hi).1
   rw [show its.toArray[i]?=its[i]? by simp,this] at ez
   cases ez; rfl
  ·exact (adE i (by rw [hsz] at hi; exact hi)).2.2
  ·rw [hsz] at got
   have I2:Inv X pins σ H1 { s1 with heap:=h2,toks:=tk }:=I1.kept (t':=tk) keep
   refine Fk ?_
   have hkl:kb.length < 64:=by have:=got.len; omega
   refine ST.call_sorted_set (s:={ s1 with heap:=h2,toks:=tk }) hh sp hkl (fun z hz=> by obtain ⟨j,_,rfl⟩:=got.src z hz; rfl) fun h3 h4 tk2 pb ep pm so k1 k2 hD=> ?_
   have I3:Inv X pins σ H1 { s1 with heap:=h3,toks:=tk2 }:=I2.kept (t':=tk2) k1
   have src:∀ z∈pb,∃ j,j < pts.length∧z=(pts.getD j (0,0),ad' j):=fun z hz=> by
    obtain ⟨y,hy,rfl⟩:=Cr.mp (pm.mem_iff.mp hz)
    obtain ⟨j,hj,rfl⟩:=got.src y hy
    exact ⟨j,hj,rfl⟩
   have epts:pb.map (·.1)=ST.srt pts:=by
    refine ST.asc_one so (ST.srt_asc pts) fun z=> ?_
    rw [ST.srt_mem]
    constructor
    ·intro hz
     obtain ⟨y,hy,rfl⟩:=Cr.mp hz
     obtain ⟨j,hj,rfl⟩:=src y hy
     simp [hj]
    ·intro hz
     obtain ⟨j,hj⟩:=Ds.mp hz
     have hjl:=aL hj
     have hk:=got.all j hjl
     obtain ⟨y,hy,ey⟩:=Cr.mp hk
     have hin:((y.1.getD 0 0,y.1.getD 1 0),y.2)∈ST.ptsOf kb:=Cr.mpr ⟨y,hy,rfl⟩
     have hin':=pm.mem_iff.mpr hin
     refine Cr.mpr ⟨_,hin',?_⟩
     rw [ey]
     have:pts.getD j (0,0)=z:=by rw [CB,hj]; rfl
     show ((pts.getD j (0,0)).1,(pts.getD j (0,0)).2)=z
     rw [this]
   have fr:H1 h3.objs.size=none:=I3.hok.fresh (Cv _)
   refine ⟨.ref h3.objs.size,upd H1 h3.objs.size (.lst (pb.map fun z=> V.ref z.2)),?_,rfl,?_⟩
   ·refine I3.laid (t':=tk2) k2 (Cv _) ⟨?_,(ST.refs pb),ep,?_,hD⟩
    ·rw [Co,← Co (f:=(·.1)),epts,sizeLine_eq]
     have:=ST.srt_len pts
     omega
    ·have all:∀ l:ST.PB,aY (l.map fun z=> V.ref z.2) (ST.refs l):=fun l=> by
      induction l with
      | nil=> exact .nil
      | cons z r ih=> exact .cons rfl ih
     exact all pb
   ·refine q _ _ _ (sm.trans (bu fr _)) (sm.free fr) bi ⟨?_,fun i z x e1 e2=> ?_⟩
    ·rw [Co,← epts,Co,Co]
    ·rw [← epts,Dz,Ct] at e2
     rw [Ct] at e1
     cases hpi:pb[i]? with
     | none=> rw [hpi] at e1; cases e1
     | some y=>
      rw [hpi] at e1 e2
      cases e1
      cases e2
      obtain ⟨j,hj,rfl⟩:=src y (CM hpi)
      exact (adE j hj).2.1.same (cg (bu fr _) fr)
end
end L2
namespace ST
open PySem
section
variable {prog:Program} {w:World} {A:Around} {s:Shared} {R:Result→Shared→Prop} {I:Addr} {fp wr:List Addr} {G:Array GenState→Array GenState→Prop} {n:Nat} {P:Nat→Value→Prop} {St:Nat→Shared→Prop} {T:String}
def ue (prog:Program) (w:World) (T:String):Prop:=∀ (A:Around) (E:Value→Shared→Prop) (s:Shared) (r:Addr) (Q:Bool→Shared→Prop),s.TypeIs (.ref r) T→(∀ b,Q b s)→wpAny (model prog w) A (Builtin.List.listLengthHint (.ref r)) Q E s
theorem tT (W:WalksS prog w A.in1 I fp wr G n P St) (hT:∀ i s,St i s→s.TypeIs (.ref I) T) (hl:(DO T==DO "list")=false) (ht:(DO T==DO "tuple")=false) (hint:ue prog w T) (S:Addr) (res:Value) (c₀:Nat) (hst:St 0 s) (hSf:S ∉ fp) (hI:I∈fp)
  (hS:s.heap.get? S=some { cls:=.type "list",data:=.seq #[] c₀ })
  (hR:∀ s' acc' c',Moved (S::wr) G s s'→s'.heap.get? S=some { cls:=.type "list",dict:=none,data:=.seq acc' c',slots:=#[] }→ItemsOf P acc' n→R (.ok (.ret res)) s') (hn:n≤sizeLine):
  wpAny (model prog w) A.in1 (Builtin.List.listExtendWith (.ref S) (.ref I) res)
   (fun fin s'=> match fin with | .done f=> R (.ok f) s' | .again c'=> c'.quiet=true∧codeAny (model prog w) A c' R s') (fun e s'=> R (.error e) s') s:=by
 have hSI:S≠I:=fun e=> hSf (e ▸ hI)
 unfold Builtin.List.listExtendWith
 refine wpAny_bind (wpAny_typeOf (hT 0 _ hst) ?_)
 have k1:Builtin.List.listSameRef (.ref S) (.ref I)=false:=by simp [Builtin.List.listSameRef,hSI]
 simp only [k1,hl,ht,Je,CN,if_false]
 refine wpAny_bind (W.self 0 _ _ _ hst (wpAny_bind (wpAny_holding (hint _ _ _ _ _ (hT 0 _ hst) fun b=> ?_))))
 refine wpAny_ite_split (fun _=> ?_) (fun _=> ?_)
 ·refine wpAny_bind (wpAny_rule (wpAny_bind ?_))
  show wpAny _ A.in1 (updateSeq S (·.push .none) >>=fun _=> updateSeq S (·.pop)) _ _ _
  refine wpAny_bind (wpAny_updateSeq hS rfl ?_)
  have g2:=Dt (DE (·.push C2)) hS rfl
  refine wpAny_updateSeq (hz:=by seq_fits) g2 rfl ?_
  have g3:=Dt (DE (·.pop)) g2 rfl
  have oth:∀ b o,b≠S→s.heap.get? b=some o→((s.heap.update S (DE (·.push C2))).update S (DE (·.pop))).get? b=some o:=fun b o hb e=> (Dc _ _ (Ne.symm hb)).trans ((Dc _ _ (Ne.symm hb)).trans e)
  refine wpAny_pure ⟨plainId_quiet DQ _,codeAny_extend_loopS W hn _ hSf _ n 0 _ _ _ rfl (DG _) (W.frame 0 s _ s.toks hst (Cv _) fun b hb o e=> oth b o (fun z=> hSf (z ▸ hb)) e) g3 (ItemsOf.nil P) fun s' acc' c' m g' it=> ?_⟩
  exact hR s' acc' c' (Moved.trans W.gtrans ((Moved.refl W.grefl).then_heap (Cv _) fun b o hb e=> oth b o (fun z=> hb (z ▸ Cy)) e) m) g' it
 ·exact wpAny_pure ⟨plainId_quiet DQ _,codeAny_extend_loopS W hn _ hSf _ n 0 _ _ _ rfl (DG _) hst hS (ItemsOf.nil P) fun s' acc' c' m g' it=> hR s' acc' c' m g' it⟩
theorem x9 (W:WalksS prog w A.in1 I fp wr G n P St) (hT:∀ i s,St i s→s.TypeIs (.ref I) T) (hl:(DO T==DO "list")=false) (ht:(DO T==DO "tuple")=false) (hint:ue prog w T) (S:Addr) (hst:St 0 s) (hSf:S ∉ fp) (hI:I∈fp)
  (hS:s.heap.get? S=some { cls:=.type "list",data:=.seq #[] })
  (hR:∀ s' acc' c',Moved (S::wr) G s s'→s'.heap.get? S=some { cls:=.type "list",dict:=none,data:=.seq acc' c',slots:=#[] }→ItemsOf P acc' n→R (.ok (.ret .none)) s') (hn:n≤sizeLine):
  wpAny (model prog w) A.in1 (Builtin.«list.__init__» ⟨[.ref S,.ref I],[]⟩)
   (fun fin s'=> match fin with | .done f=> R (.ok f) s' | .again c'=> c'.quiet=true∧codeAny (model prog w) A c' R s') (fun e s'=> R (.error e) s') s:=by
 show wpAny _ A.in1 (Builtin.List.listItems (.ref S) >>=fun old=> Builtin.List.listUpdate (.ref S) (fun _=> #[]) >>=fun _=> letGo old.toList.reverse >>=fun _=> Builtin.List.listExtendWith (.ref S) (.ref I) .none) _ _ s
 refine wpAny_bind ?_
 unfold Builtin.List.listItems
 refine wpAny_bind (wpAny_seqItems hS rfl (wpAny_pure ?_))
 show wpAny _ A.in1 (updateSeq S (fun _=> #[]) >>=fun _=> letGo (#[]:Array Value).toList.reverse >>=fun _=> Builtin.List.listExtendWith (.ref S) (.ref I) .none) _ _ s
 refine wpAny_bind (wpAny_updateSeq hS rfl ?_)
 have g2:=Dt (DE (fun _=> (#[]:Array Value))) hS rfl
 have oth:∀ b o,b≠S→s.heap.get? b=some o→(s.heap.update S (DE (fun _=> (#[]:Array Value)))).get? b=some o:=fun b o hb e=> (Dc _ _ (Ne.symm hb)).trans e
 refine wpAny_bind (wpAny_letGo ?_)
 refine tT W hT hl ht hint S .none _ (W.frame 0 s _ s.toks hst (Cv _) fun b hb o e=> oth b o (fun z=> hSf (z ▸ hb)) e) hSf hI g2 (fun s' acc' c' m g' it=> ?_) hn
 exact hR s' acc' c' (Moved.trans W.gtrans ((Moved.refl W.grefl).then_heap (Cv _) fun b o hb e=> oth b o (fun z=> hb (z ▸ Cy)) e) m) g' it
end
section
variable {prog:Program} {w:World} {A:Around} {E:Value→Shared→Prop} {s:Shared} {I:Addr} {fp wr:List Addr} {G:Array GenState→Array GenState→Prop} {n:Nat} {P:Nat→Value→Prop} {St:Nat→Shared→Prop} {T:String}
theorem call_list_it {Q:Value→Shared→Prop} (W:WalksS prog w A.in1.in1 I fp wr G n P St) (hT:∀ i s,St i s→s.TypeIs (.ref I) T) (hl:(DO T==DO "list")=false) (ht:(DO T==DO "tuple")=false) (hint:ue prog w T) (hst:St 0 s) (hfp:∀ b∈fp,b < s.heap.objs.size) (hI:I∈fp)
  (hQ:∀ s' acc' c',Moved (s.heap.objs.size::wr) G { s with heap:=s.heap.push { cls:=.type "list",data:=.seq #[] } } s'→
   s'.heap.get? s.heap.objs.size=some { cls:=.type "list",dict:=none,data:=.seq acc' c',slots:=#[] }→ItemsOf P acc' n→Q (.ref s.heap.objs.size) s') (hn:n≤sizeLine):
  wpAny (model prog w) A (call (.type "list") [.ref I]) Q E s:=by
 have hSf:s.heap.objs.size ∉ fp:=fun hm=> Dh _ (hfp _ hm)
 refine callType_codes (Q₁:=fun obj s₁=> obj=.ref s.heap.objs.size∧s₁={ s with heap:=s.heap.push { cls:=.type "list",data:=.seq #[] } }) HA (GU _) GV (code_list_new _ ⟨rfl,rfl⟩) fun obj s₁ h₁=> ?_
 obtain ⟨rfl,rfl⟩:=h₁
 have hS:(s.heap.push { cls:=.type "list",data:=.seq #[] }).get? s.heap.objs.size=some { cls:=.type "list",data:=.seq #[] }:=CG _ rfl
 refine ⟨⟨_,hS,rfl⟩,GQ _ _,x9 W hT hl ht hint _ (W.frame 0 s _ s.toks hst (Cv _) fun b _ o e=> Cq _ e) hSf hI hS (fun s' acc' c' m g' it=> ?_) hn⟩
 exact ⟨rfl,hQ s' acc' c' m g' it⟩
end
theorem xI:typeLookup (.type "list_reverseiterator") "__len__"=pure none:=by rw [typeLookup_type,builtinLookup_eq_fast]; kernel_rfl
theorem kN:Slot "list_reverseiterator" "__length_hint__" "list_reverseiterator.__length_hint__":=
 .of (owner:="list_reverseiterator") (n:="__length_hint__") (by rw [typeLookup_type,builtinLookup_eq_fast]; kernel_rfl) (by decide+kernel) (by decide+kernel) (by decide+kernel) (by first | exact .inl (by decide+kernel) | exact .inr (by decide+kernel)) (by rw [isSubtype_type]; kernel_rfl)
theorem hint_rev (prog:Program) (w:World):ue prog w "list_reverseiterator":=fun A E s r Q hT h=> by
 unfold Builtin.List.listLengthHint
 refine wpAny_bind (wpAny_specialOf hT xI ?_)
 show wpAny _ A (specialOf (Dl r) (Str.ofString "__length_hint__") >>=_) _ _ _
 refine wpAny_bind (wpAny_specialOf hT kN.lookup ?_)
 generalize hid:("list_reverseiterator.__length_hint__":String)=id0
 wp_delta
 rw [show splitId id0=some ("list_reverseiterator","__length_hint__") from by subst hid; decide+kernel]
 subst hid
 refine wpAny_bind (wpAny_isInstance (T:="list_reverseiterator") (b:=true) hT (by rw [isSubtype_type]; kernel_rfl) ?_)
 refine wpAny_ite_split (fun z=> absurd z (by decide)) (fun _=> ?_)
 refine wpAny_ite_split (fun _=> ?_) (fun z=> absurd (by decide+kernel) z)
 refine wpAny_ite_split (fun z=> absurd z (by decide+kernel)) (fun _=> wpAny_pure (h _))
end ST
namespace L2
open PySem PySem.Spec PyProof.Rows
theorem kJ:bootBuiltins "reversed"=some (.type "reversed"):=by decide+kernel
theorem aY.rev:∀ {xs:List V} {us:List Value},aY xs us→aY xs.reverse us.reverse:=fun {xs us} r=> by
 induction r with
 | nil=> exact .nil
 | @cons x u xs us r1 r2 ih=>
  rw [HP,HP]
  have app:∀ {a:List V} {b:List Value},aY a b→aY (a++[x]) (b++[u]):=fun {a b} q=> by
   induction q with
   | nil=> exact .cons r1 .nil
   | cons q1 _ ih'=> exact .cons q1 ih'
  exact app ih
theorem Rps.rev {K:Cn} {H:Hp} {vs:List V} {xs:List U} (r:Rps K H vs xs):Rps K H vs.reverse xs.reverse:=⟨by simp [r.len],fun i v x h1 h2=> by
 have hi:i < vs.length:=by have:=aL h1; simpa using this
 have hx:i < xs.length:=by rw [← r.len]; exact hi
 rw [DT hi] at h1
 rw [DT hx,← r.len] at h2
 exact r.at_ _ v x h1 h2⟩
section
variable {X:Cx} {H0:Hp} {O0:List Addr} {ps:PSt} {e k:Expr} {x:U} {xs:List U} {pos pos' p p' p2:Pos}
theorem yR {K:Cn} {H:Hp} {v:V} (rp:Rp K H v x) (hx:x=.lst xs∨x=.scr xs):∃ a vs,v=.ref a∧SqL K H a vs∧Rps K H vs xs:=by
 rcases hx with rfl | rfl
 ·cases rp with
  | lst hq hl hh=> exact ⟨_,_,rfl,SqL.of hq,hl,hh⟩
 ·cases rp with
  | scr hq hl hh=> exact ⟨_,_,rfl,hq,hl,hh⟩
theorem Bp (he:Ev X H0 O0 ps e x) (hk:Ev X H0 O0 ps k (.int (-1))) (hx:x=.lst xs∨x=.scr xs):EvN X H0 O0 ps (.Subscript e (.Slice none none (some k) p2) pos) xs.reverse:=by
 rintro pins s σ H Q I ⟨O,R,q⟩
 refine Subscript_ (thn (he pins s σ H (fun v H1=> aQ H H1∧Rp X.K (hid H1 O) v x) I ⟨O,R,fun v H1 s1 r1=> ⟨s1,r1⟩⟩) fun u s1 ⟨v,H1,I1,r1,sm,rp⟩=> ?_)
 obtain ⟨a,vs,rfl,hq,rs⟩:=yR rp hx
 cases r1
 refine wpAny_Slice ?_
 rw [evalPart_none]
 refine wpAny_pure (wpAny_pure ?_)
 rw [evalPart_some]
 refine thn (hk pins s1 σ H1 (fun v H2=> aQ H1 H2∧v=.int (-1)) I1 ⟨O,R.go sm,fun v H2 s2 r2=> ⟨s2,by cases r2; rfl⟩⟩) fun uk s2 hy=> ?_
 obtain ⟨vk,H2,I2,rk,s12,rfl⟩:=hy
 obtain ⟨t,rfl⟩:=rk
 have I3:Inv X pins σ H2 { s2 with heap:=s2.heap.push { cls:=.type "slice",data:=.fields #[.none,.none,.int (-1) t] } }:=I2.kept (t':=s2.toks) fun b ob z=> Cq _ z
 obtain ⟨its,rv,pl,hz⟩:=I3.list (s12.seq (aG.seq hq))
 have hlen:=rv.length
 show wpAny (model X.prog X.w) X.A (subscriptTail e (.Slice none none (some k) p2) (.ref a) (.ref s2.heap.objs.size)) (EP X pins σ Q) X.xe { s2 with heap:=s2.heap.push { cls:=.type "slice",data:=.fields #[.none,.none,.int (-1) t] } }
 refine tail_any (ops:=[.ref a,.ref s2.heap.objs.size]) pl.isList.typeIs slot_list_getitem.lookup ?_ (by with_unfolding_all rfl)
 refine wpAny_getItem_list_slice pl.isList (HD ..) .none .none (IsPart.int _ _) (by simp) ?_ (by rw [CH]; omega)
 rw [PySem.W.krv_pick]
 generalize hn:(s2.heap.push { cls:=.type "slice",data:=.fields #[.none,.none,.int (-1) t] }).objs.size=D
 have fr:H2 D=none:=I3.hok.fresh (by rw [← hn]; exact Cv _)
 refine ⟨.ref D,upd H2 D (.lst vs.reverse),I3.laid (t':=s2.toks) (o:=.lst vs.reverse) (fun b ob z=> Cq _ z) (by rw [← hn]; exact Cv _) ⟨by rw [Do]; exact hz,its.reverse,0,rv.rev,?_⟩,rfl,?_⟩
 ·rw [← hn]; exact CG _ rfl
 ·refine q D _ _ ((sm.trans s12).trans (bu fr _)) ((sm.trans s12).free fr) bi ?_
  exact (rs.rev.same (bL s12)).same (cg (bu fr _) fr)
theorem t8 (hc:X.calm=true) (hg:Gl X "list") (hm:X.mg "list"=none) (hgr:Gl X "reversed") (hmr:X.mg "reversed"=none) (ha:Ev X H0 O0 ps e (.lst xs))
  (he:starEach [e] X.env=(false,eval e X.env)::starEach [] X.env:=by rfl):EvN X H0 O0 ps (.Call (.Name "list" p) [.Call (.Name "reversed" p') [e] [] pos'] [] pos) xs.reverse:=by
 rintro pins s σ H Q I ⟨O,R,q⟩
 have hh:X.A.handled=none:=I.ok.hd hc
 refine wpAny_Call_Name_kw (dQ I hg hm boot_list ?_)
 refine callWith_type1 (e:=.Call (.Name "reversed" p') [e] [] pos') (rest:=[]) ?_ bn rfl
 rw [bn]
 show wpAny _ _ (spliced ((false,eval (.Call (.Name "reversed" p') [e] [] pos') X.env)::backTo pos (starEach [] X.env))) _ _ s
 refine Fd ?_
 refine wpAny_Call_Name_kw (dQ I hgr hmr kJ ?_)
 refine callWith_type1 (thn (eL ha g6 he pos' pins s σ H (fun vs H1=> ∃ v,vs=[v]∧aQ H H1∧Rp X.K (hid H1 O) v (.lst xs)) I ⟨O,R,fun v H1 s1 r1=> ⟨v,rfl,s1,r1⟩⟩) fun us s1 hx=> ?_) he rfl
 obtain ⟨vs,H1,I1,rv,v,rfl,sm,rp⟩:=hx
 obtain ⟨u,rfl,ru⟩:=fe rv
 obtain ⟨a,ws,rfl,hq,rs⟩:=yR rp (.inl rfl)
 cases ru
 obtain ⟨its,rw',pl,hz⟩:=I1.list (aG.seq hq)
 have hlen:=rw'.length
 have hsz:its.toArray.size=its.length:=by simp
 refine call_reversed_list pl.isList ?_
 have I2:Inv X pins σ H1 { s1 with heap:=s1.heap.push (revObj a ((its.toArray.size:Int) - 1)) }:=I1.kept (t':=s1.toks) fun b ob z=> Cq _ z
 refine Fk ?_
 have hal:a < s1.heap.objs.size:=by obtain ⟨o,ho,_⟩:=pl.isList; exact Cw ho
 have W:=(Walks.listRev (prog:=X.prog) (w:=X.w) (A:=X.A.in1.in1) hh s1.heap.objs.size a (C1 hal) its.toArray).toS
 refine ST.call_list_it (T:="list_reverseiterator") (s:={ s1 with heap:=s1.heap.push (revObj a ((its.toArray.size:Int) - 1)) }) W (fun i s' st=> st.2.1.typeIs) (by decide) (by decide) (ST.hint_rev _ _) ⟨DG _,⟨_,CG _ rfl,rfl,by simp [revObj]⟩,pl.isList.push _⟩ (fun b hb=> ?_) (by simp) (fun s3 acc c m hD hit=> ?_) (by rw [hsz]; omega)
 ·show b < (s1.heap.push _).objs.size
  rw [Er]
  simp at hb
  rcases hb with z | z
  ·rw [z]; exact Ej _
  ·rw [z]; exact Eo hal
 ·obtain ⟨h3,g3,d3,tk3,os3⟩:=s3
  obtain rfl:g3=s1.gens:=m.gens
  obtain rfl:d3=s1.drawn:=m.drawn
  obtain rfl:os3=s1.os:=m.os
  have szI:(s1.heap.push (revObj a ((its.toArray.size:Int) - 1))).objs.size=s1.heap.objs.size+1:=Er ..
  have keep:∀ b ob,s1.heap.get? b=some ob→h3.get? b=some ob:=fun b ob z=> by
   have hb:=Cw z
   refine m.heap b ob (fun y=> ?_) (Cq _ (Cq _ z))
   rcases Cu.mp y with y | y
   ·rw [y] at hb
    have hb':s1.heap.objs.size+1 < s1.heap.objs.size:=by rw [← szI]; exact hb
    exact absurd hb' (by omega)
   ·rw [CT.mp y] at hb; exact Dh _ hb
  have hacc:acc.toList=its.reverse:=by
   apply Fm
   intro i
   rcases EO i acc.size with z | z
   ·have y:=hit.2 i _ (D7 z)
    have hi:i < its.length:=by rw [hit.1,hsz] at z; exact z
    rw [DB,D7 z,DT hi,← y,hsz]
    simp
   ·have hi:its.length≤i:=by rw [hit.1,hsz] at z; exact z
    rw [Dr (by simpa using z),Dr (by simpa using hi)]
  generalize hn:(s1.heap.push (revObj a ((its.toArray.size:Int) - 1))).objs.size=D at *
  have fr:H1 D=none:=I2.hok.fresh (by rw [← hn]; exact Cv _)
  have I3:Inv X pins σ (upd H1 D (.lst ws.reverse)) { s1 with heap:=h3,toks:=tk3 }:=I1.laid (t':=tk3) (o:=.lst ws.reverse) keep (by rw [szI]; exact Il _) ⟨by rw [Do]; exact hz,its.reverse,c,rw'.rev,by rw [← hacc,Array.toArray_toList]; exact hD⟩
  refine ⟨.ref D,_,I3,rfl,q D _ _ (sm.trans (bu fr _)) (sm.free fr) bi ?_⟩
  exact rs.rev.same (cg (bu fr _) fr)
end
end L2
namespace L2
open PySem PySem.Spec PyProof.Rows
section
variable {X:Cx} {H0:Hp} {O0:List Addr} {ps:PSt} {xs:List U} {us:List U} {es:List Expr} {x:Str} {pc p' pos:Pos}
theorem fP (n:Nat) (h:ps[n]?=some (some (.own xs))) (hg:Gl X "len") (hm:X.mg "len"=none) (hN:X.N[n]?=some x:=by rfl) (hv:Vis X.env.scope x:=by first | exact Or.inl rfl | exact Or.inr (Or.inl rfl) | exact Or.inr (Or.inr rfl)) (hd:(x==("__debug__":Str))=false:=by decide)
  (hcd:(x==("__classdict__":Str))=false:=by decide) (hpl:(backTo pos (starEach [] X.env)).any (·.1)=false:=by rfl):Ev X H0 O0 ps (.Call (.Name "len" pc) [.Name x p'] [] pos) (.int xs.length):=Ak n h hg hm hN hv hd hcd ah hpl
end
end L2
namespace ST
open PySem
abbrev i7 (h:Heap) (z TI TO T:Addr) (b:Bool):Prop:=h.get? z=some { cls:=.type "zip",dict:=none,data:=.fields #[rawInt T,.bool b,.bool false,.ref TI,.ref TO],slots:=#[] }
section
variable {prog:Program} {w:World} {A:Around} {E:Value→Shared→Prop} {s:Shared}
theorem BH {T:Addr} {o:Obj} {Q:Option Obj→Shared→Prop} (h:s.heap.get? T=some o) (q:Q (some o) s):wpAny (model prog w) A (loadIfAlive T) Q E s:=fun Γ p hΓ=> by
 unfold loadIfAlive
 rw [Sem.wp_loadIfAlive,h]
 simpa using q
theorem i0 {z TI TO T:Addr} {b:Bool} {oT:Obj} {Q:Bool→Shared→Prop} (hz:i7 s.heap z TI TO T b) (hT:s.heap.get? T=some oT) (h:∀ h',i7 h' z TI TO T true→Fe z s.heap h'→Q false { s with heap:=h' }):
  wpAny (model prog w) A (Builtin.SmallTypes.ownedTupleIsFree (.ref z)) Q E s:=by
 unfold Builtin.SmallTypes.ownedTupleIsFree
 refine wpAny_bind (wpAny_field hz rfl (x:=rawInt T) rfl ?_)
 dsimp only [rawInt]
 refine wpAny_bind (BH (T:=(T:Int).toNat) (o:=oT) (by rw [EE]; exact hT) ?_)
 rw [if_neg (by simp)]
 refine wpAny_bind (wpAny_field hz rfl (x:=.bool b) rfl ?_)
 cases b with
 | true=>
  rw [if_neg (by decide)]
  exact wpAny_pure (h s.heap hz (GM _ _))
 | false=>
  rw [if_pos (by decide)]
  refine wpAny_bind (wpAny_setField_rec hz (by simp) fun h₁ hz₁ hs₁=> wpAny_pure (h h₁ hz₁ hs₁))
theorem wW {z TI TO i1 i2 l1 l2 T:Addr} {b:Bool} {oT:Obj} {k1 k2:Nat} {xs ys:Array Value} {x y:Value} {Q:Value→Shared→Prop} (D:ZipApart z TI TO i1 i2 l1 l2)
  (hz:i7 s.heap z TI TO T b) (hT:s.heap.get? T=some oT) (hTI:IsPair s.heap TI (.ref i1) (.ref i2))
  (h1:s.heap.IsListIter i1 l1 k1) (h2:s.heap.IsListIter i2 l2 k2) (hl1:s.heap.IsList l1 xs) (hl2:s.heap.IsList l2 ys) (hx:xs[k1]?=some x) (hy:ys[k2]?=some y)
  (hQ:∀ h',i7 h' z TI TO T true→h'.IsListIter i1 l1 (k1+1)→h'.IsListIter i2 l2 (k2+1)→IsPair h' s.heap.objs.size x y→(∀ c o,c≠z→c≠i1→c≠i2→s.heap.get? c=some o→h'.get? c=some o)→Q (.ref s.heap.objs.size) { s with heap:=h' }):
  wpAny (model prog w) A (Builtin.«zip.__next__» ⟨[.ref z],[]⟩) (fun fin s'=> ∃ v,fin=.done (.ret v)∧Q v s') E s:=by
 show wpAny _ _ (field (.ref z) 2 >>=_) _ _ _
 refine wpAny_bind (wpAny_field hz rfl (x:=.bool false) rfl ?_)
 show wpAny _ _ (field (.ref z) 3 >>=_) _ _ _
 refine wpAny_bind (wpAny_field hz rfl (x:=.ref TI) rfl (wpAny_bind (wpAny_seqItems hTI rfl ?_)))
 show wpAny _ _ (Builtin.SmallTypes.ownedTupleIsFree (.ref z) >>=_) _ _ _
 refine wpAny_bind (i0 hz hT fun ha za sa=> ?_)
 simp only [CN,if_false]
 refine wpAny_bind ?_
 rw [← FB]
 show wpAny _ _ (forIn [Dl i1,Dl i2] _ _) _ _ _
 simp only [Gh,Hy]
 refine wpAny_bind (wpAny_bind (wpAny_holding ?_))
 show wpAny _ _ (Builtin.SmallTypes.nextOf (.ref i1) >>=_) _ _ _
 refine wpAny_bind (wpAny_nextOf_list_item (h1.extBut sa.extBut D.i1z) (hl1.extBut sa.extBut D.l1z) hx fun hb b1 sb=> wpAny_pure ?_)
 dsimp only
 refine wpAny_pure ?_
 dsimp only
 refine wpAny_bind (wpAny_bind (wpAny_holding ?_))
 show wpAny _ _ (Builtin.SmallTypes.nextOf (.ref i2) >>=_) _ _ _
 refine wpAny_bind (wpAny_nextOf_list_item ((h2.extBut sa.extBut D.i2z).extBut sb.extBut D.i12.symm) ((hl2.extBut sa.extBut D.l2z).extBut sb.extBut D.l2i1) hy fun hc c2 sc=> wpAny_pure ?_)
 dsimp only
 refine wpAny_pure (wpAny_pure ?_)
 dsimp only
 refine wpAny_bind (wpAny_newTuple ?_ (by show 2≤sizeLine; rw [sizeLine_eq]; omega))
 have hsz:hc.objs.size=s.heap.objs.size:=by rw [sc.1,sb.1,sa.1]
 have zc:i7 hc z TI TO T true:=sc.extBut _ _ D.i2z.symm (sb.extBut _ _ D.i1z.symm za)
 refine wpAny_pure ⟨_,rfl,?_⟩
 show Q (.ref hc.objs.size) _
 rw [hsz]
 refine hQ _ (Cq _ zc) (((b1.extBut sc.extBut D.i12)).at fun o e=> Cq _ e) (c2.at fun o e=> Cq _ e) ?_ fun c o n1 n2 n3 e=> Cq _ (sc.extBut _ _ n3 (sb.extBut _ _ n2 (sa.extBut _ _ n1 e)))
 rw [← hsz]
 exact CG _ rfl
theorem mq {z TI TO i1 i2 l1 l2 T:Addr} {b:Bool} {oT:Obj} {k1:Nat} {xs:Array Value} {Q:JB→Shared→Prop} (hh:A.handled=none) (D:ZipApart z TI TO i1 i2 l1 l2)
  (hz:i7 s.heap z TI TO T b) (hT:s.heap.get? T=some oT) (hTI:IsPair s.heap TI (.ref i1) (.ref i2))
  (h1:s.heap.IsListIter i1 l1 k1) (hl1:s.heap.IsList l1 xs) (hx:xs[k1]?=none)
  (hE:∀ h' e,(∀ c o,c≠z→c≠i1→c≠i2→s.heap.get? c=some o→h'.get? c=some o)→(∃ o,h'.get? e=some o∧o.cls=.type "StopIteration")→E (.ref e) { s with heap:=h' }):
  wpAny (model prog w) A (Builtin.«zip.__next__» ⟨[.ref z],[]⟩) Q E s:=by
 show wpAny _ _ (field (.ref z) 2 >>=_) _ _ _
 refine wpAny_bind (wpAny_field hz rfl (x:=.bool false) rfl ?_)
 show wpAny _ _ (field (.ref z) 3 >>=_) _ _ _
 refine wpAny_bind (wpAny_field hz rfl (x:=.ref TI) rfl (wpAny_bind (wpAny_seqItems hTI rfl ?_)))
 show wpAny _ _ (Builtin.SmallTypes.ownedTupleIsFree (.ref z) >>=_) _ _ _
 refine wpAny_bind (i0 hz hT fun ha za sa=> ?_)
 simp only [CN,if_false]
 refine wpAny_bind ?_
 rw [← FB]
 show wpAny _ _ (forIn [Dl i1,Dl i2] _ _) _ _ _
 simp only [Gh,Hy]
 refine wpAny_bind (wpAny_bind (wpAny_holding ?_))
 show wpAny _ _ (Builtin.SmallTypes.nextOf (.ref i1) >>=_) _ _ _
 refine wpAny_bind (wpAny_nextOf_list_end hh (h1.extBut sa.extBut D.i1z) (hl1.extBut sa.extBut D.l1z) hx fun hb e sb he=> ?_)
 exact hE hb e (fun c o n1 n2 n3 q=> sb _ _ n2 (sa.extBut _ _ n1 q)) he
theorem si {z TI TO i1 i2 l1 l2 T:Addr} {b:Bool} {oT:Obj} {k1 k2:Nat} {xs ys:Array Value} {x y:Value} {Q:Option Value→Shared→Prop} (D:ZipApart z TI TO i1 i2 l1 l2)
  (hz:i7 s.heap z TI TO T b) (hT:s.heap.get? T=some oT) (hTI:IsPair s.heap TI (.ref i1) (.ref i2))
  (h1:s.heap.IsListIter i1 l1 k1) (h2:s.heap.IsListIter i2 l2 k2) (hl1:s.heap.IsList l1 xs) (hl2:s.heap.IsList l2 ys) (hx:xs[k1]?=some x) (hy:ys[k2]?=some y)
  (hQ:∀ h',i7 h' z TI TO T true→h'.IsListIter i1 l1 (k1+1)→h'.IsListIter i2 l2 (k2+1)→IsPair h' s.heap.objs.size x y→(∀ c o,c≠z→c≠i1→c≠i2→s.heap.get? c=some o→h'.get? c=some o)→Q (some (.ref s.heap.objs.size)) { s with heap:=h' }):
  wpAny (model prog w) A (pyNext (.ref z)) Q E s:=by
 have hty:s.TypeIs (.ref z) "zip":=⟨_,hz,rfl⟩
 unfold pyNext
 exact wpAny_bind (wpAny_attempt (wpAny_callSpecial?_slot (name:=Str.ofString "__next__") hty ES
  (wpAny_call_entry ES hty G8 (wW D hz hT hTI h1 h2 hl1 hl2 hx hy fun h' a1 a2 a3 a4 a5=> wpAny_pure (hQ h' a1 a2 a3 a4 a5)) (GW _))))
theorem kG {z TI TO i1 i2 l1 l2 T:Addr} {b:Bool} {oT:Obj} {k1:Nat} {xs:Array Value} {Q:Option Value→Shared→Prop} (hh:A.handled=none) (D:ZipApart z TI TO i1 i2 l1 l2)
  (hz:i7 s.heap z TI TO T b) (hT:s.heap.get? T=some oT) (hTI:IsPair s.heap TI (.ref i1) (.ref i2)) (h1:s.heap.IsListIter i1 l1 k1) (hl1:s.heap.IsList l1 xs) (hx:xs[k1]?=none)
  (hQ:∀ h',(∀ c o,c≠z→c≠i1→c≠i2→s.heap.get? c=some o→h'.get? c=some o)→Q none { s with heap:=h' }):wpAny (model prog w) A (pyNext (.ref z)) Q E s:=by
 have hty:s.TypeIs (.ref z) "zip":=⟨_,hz,rfl⟩
 unfold pyNext
 refine wpAny_bind (wpAny_attempt (wpAny_callSpecial?_slot (name:=Str.ofString "__next__") hty ES
  (wpAny_call_entry ES hty G8 (mq hh D hz hT hTI h1 hl1 hx fun h' e hk he=> ?_) (GW _))))
 obtain ⟨o,ho,hc⟩:=he
 refine wpAny_bind (wpAny_isInstance (T:="StopIteration") (b:=true) ⟨o,ho,hc⟩ isSubtype_stop ?_)
 exact wpAny_pure (hQ h' hk)
end
structure ZL (xs ys:Array Value) (z TI TO i1 i2 l1 l2 S:Addr) (h:Heap) (i:Nat) (ad:List Addr) (c:Nat):Prop where
 ti:IsPair h TI (.ref i1) (.ref i2)
 a1:h.IsListIter i1 l1 i
 a2:h.IsListIter i2 l2 i
 b1:h.IsList l1 xs
 b2:h.IsList l2 ys
 acc:h.get? S=some { cls:=.type "list",dict:=none,data:=.seq (ad.map Dl).toArray c,slots:=#[] }
 len:ad.length=i
 tup:∀ (j:Nat) (a:Addr),ad[j]?=some a→∃ x y,xs[j]?=some x∧ys[j]?=some y∧IsPair h a x y
 far:∀ a∈ad,a≠z∧a≠TO∧a≠i1∧a≠i2∧a≠S
 to:∃ o,h.get? TO=some o
 nd:ad.Nodup
 zz:(i=0∧IsZip h z TI TO .none∧∃ a b,IsPair h TO a b)∨(∃ b T,ad[0]?=some T∧i7 h z TI TO T b)
section
variable {prog:Program} {w:World} {A:Around} {R:Result→Shared→Prop}
theorem ZL.put {xs ys:Array Value} {z TI TO i1 i2 l1 l2 S:Addr} {h h':Heap} {i:Nat} {ad:List Addr} {c:Nat} {a:Addr} {x y:Value} (Z:ZL xs ys z TI TO i1 i2 l1 l2 S h i ad c) (D:ZipApart z TI TO i1 i2 l1 l2)
  (hS:S≠z∧S≠TI∧S≠TO∧S≠i1∧S≠i2∧S≠l1∧S≠l2) (ha:a=h.objs.size) (hzlt:z < h.objs.size) (nto:∃ o,h'.get? TO=some o) (hx:xs[i]?=some x) (hy:ys[i]?=some y)
  (n1:h'.IsListIter i1 l1 (i+1)) (n2:h'.IsListIter i2 l2 (i+1)) (np:IsPair h' a x y) (nk:∀ c o,c≠z→c≠TO→c≠i1→c≠i2→h.get? c=some o→h'.get? c=some o)
  (nz:∃ b T,(ad++[a])[0]?=some T∧i7 h' z TI TO T b):
  ∃ c',ZL xs ys z TI TO i1 i2 l1 l2 S (h'.update S (DE (·.push (.ref a)))) (i+1) (ad++[a]) c':=by
 obtain ⟨s1,s2,s3,s4,s5,s6,s7⟩:=hS
 have gS:h'.get? S=some { cls:=.type "list",dict:=none,data:=.seq (ad.map Dl).toArray c,slots:=#[] }:=nk S _ s1 s3 s4 s5 Z.acc
 have oth:∀ b o,b≠S→h'.get? b=some o→(h'.update S (DE (·.push (.ref a)))).get? b=some o:=fun b o hb e=> (Dc _ _ (Ne.symm hb)).trans e
 have hlt:∀ b o,h.get? b=some o→b≠a:=fun b o e z=> by rw [z,ha] at e; exact Dh _ (Cw e)
 have aS:a≠S:=fun e=> hlt S _ Z.acc e.symm
 have ai1:a≠i1:=by obtain ⟨o,e,_⟩:=Z.a1; exact fun q=> hlt i1 o e q.symm
 have ai2:a≠i2:=by obtain ⟨o,e,_⟩:=Z.a2; exact fun q=> hlt i2 o e q.symm
 have az:a≠z:=by rw [ha]; exact Gy hzlt
 have aTO:a≠TO:=by obtain ⟨o,e⟩:=Z.to; exact fun q=> hlt TO o e q.symm
 obtain ⟨c',gS'⟩:∃ c',(h'.update S (DE (·.push (.ref a)))).get? S=some { cls:=.type "list",dict:=none,data:=.seq ((ad.map Dl).toArray.push (.ref a)) c',slots:=#[] }:=⟨_,PyProof.Rows.get?_update_seq gS (·.push (.ref a))⟩
 refine ⟨c',⟨oth _ _ s2.symm (nk TI _ D.TIz D.TITO D.TIi1 D.TIi2 Z.ti),n1.at fun o e=> oth _ o s4.symm e,n2.at fun o e=> oth _ o s5.symm e,?_,?_,?_,by rw [Dv,Z.len]; rfl,?_,?_,?_,?_,?_⟩⟩
 ·exact (Z.b1.at fun o e=> nk l1 o D.l1z D.l1TO D.l1i1 D.l1i2 e).at fun o e=> oth _ o s6.symm e
 ·exact (Z.b2.at fun o e=> nk l2 o D.l2z D.l2TO D.l2i1 D.l2i2 e).at fun o e=> oth _ o s7.symm e
 ·rw [gS']; simp
 ·intro j b hj
  rcases EO j ad.length with q | q
  ·rw [CP q] at hj
   obtain ⟨x',y',e1,e2,e3⟩:=Z.tup j b hj
   obtain ⟨f1,f2,f3,f4,f5⟩:=Z.far b (CM hj)
   exact ⟨x',y',e1,e2,oth _ _ f5 (nk b _ f1 f2 f3 f4 e3)⟩
  ·rw [CQ q] at hj
   have hj0:j=i:=by
    have:=(Cz.mp hj).1
    simp at this; rw [Z.len] at *; omega
   subst hj0
   rw [Z.len,Jn] at hj
   cases hj
   exact ⟨x,y,hx,hy,oth _ _ aS np⟩
 ·intro b hb
  rcases Es.mp hb with q | q
  ·exact Z.far b q
  ·rw [CT.mp q]; exact ⟨az,aTO,ai1,ai2,aS⟩
 ·obtain ⟨o,e⟩:=nto; exact ⟨o,oth _ _ s3.symm e⟩
 ·rw [FJ]
  refine ⟨Z.nd,by simp,fun p hp q hq=> ?_⟩
  rw [CT.mp hq]
  obtain ⟨j,hj⟩:=Ds.mp hp
  obtain ⟨_,_,_,_,e⟩:=Z.tup j p hj
  exact hlt p _ e
 ·obtain ⟨b,T,e1,e2⟩:=nz
  exact .inr ⟨b,T,e1,oth _ _ s1.symm e2⟩
end
end ST
namespace ST
open PySem
section
variable {prog:Program} {w:World} {A:Around} {R:Result→Shared→Prop}
structure ZF (xs ys:Array Value) (S:Addr) (h:Heap) (ad:List Addr) (c:Nat):Prop where
 acc:h.get? S=some { cls:=.type "list",dict:=none,data:=.seq (ad.map Dl).toArray c,slots:=#[] }
 len:ad.length=xs.size
 tup:∀ (j:Nat) (a:Addr),ad[j]?=some a→∃ x y,xs[j]?=some x∧ys[j]?=some y∧IsPair h a x y
 ne:∀ a∈ad,a≠S
 nd:ad.Nodup
set_option maxHeartbeats 1000000 in
theorem nK (hh:A.in1.handled=none) {xs ys:Array Value} {z TI TO i1 i2 l1 l2 S:Addr} (D:ZipApart z TI TO i1 i2 l1 l2) (hS:S≠z∧S≠TI∧S≠TO∧S≠i1∧S≠i2∧S≠l1∧S≠l2) (hxy:ys.size=xs.size) (hn:xs.size≤1000) (res:Value):
  ∀ (k i:Nat) (s:Shared) (ad:List Addr) (c:Nat),xs.size - i=k→i≤xs.size→ZL xs ys z TI TO i1 i2 l1 l2 S s.heap i ad c→
   (∀ h' ad' c',ZF xs ys S h' ad' c'→(∀ b o,b≠z→b≠TO→b≠i1→b≠i2→b≠S→s.heap.get? b=some o→h'.get? b=some o)→(∀ a∈ad',a∈ad∨s.heap.get? a=none)→R (.ok (.ret res)) { s with heap:=h' })→
   codeAny (model prog w) A (.builtin "list.extend.loop" ⟨[.ref S,.ref z,res],[]⟩) R s:=by
 intro k
 induction k with
 | zero=>
  intro i s ad c hk hi Z hR
  obtain rfl:i=xs.size:=by omega
  refine codeAny_builtin GG ?_
  rw [DZ DQ _]
  show wpAny _ A.in1 (pyNext (.ref z) >>=_) _ _ s
  have fin:∀ h',(∀ b o,b≠z→b≠TO→b≠i1→b≠i2→s.heap.get? b=some o→h'.get? b=some o)→R (.ok (.ret res)) { s with heap:=h' }:=fun h' kp=>
   hR h' ad c ⟨kp S _ hS.1 hS.2.2.1 hS.2.2.2.1 hS.2.2.2.2.1 Z.acc,Z.len,fun j a e=> by
    obtain ⟨x,y,e1,e2,e3⟩:=Z.tup j a e
    obtain ⟨f1,f2,f3,f4,f5⟩:=Z.far a (CM e)
    exact ⟨x,y,e1,e2,kp a _ f1 f2 f3 f4 e3⟩,fun a ha=> (Z.far a ha).2.2.2.2,Z.nd⟩ (fun b o n1 n2 n3 n4 _ e=> kp b o n1 n2 n3 n4 e) fun a ha=> .inl ha
  rcases Z.zz with ⟨h0,hz,a,b,hTO⟩ | ⟨b,T,hT,hz⟩
  ·refine wpAny_bind (wpAny_pyNext_zip_end hh D hz Z.ti hTO Z.a1 Z.a2 Z.b1 Z.b2 (.inl (by simp)) fun h' kp=> ?_)
   exact wpAny_pure (fin h' kp)
  ·obtain ⟨x,y,_,_,hp⟩:=Z.tup 0 T hT
   refine wpAny_bind (kG hh D hz hp Z.ti Z.a1 Z.b1 (by simp) fun h' kp=> ?_)
   exact wpAny_pure (fin h' fun b o n1 _ n3 n4 e=> kp b o n1 n3 n4 e)
 | succ k ih=>
  intro i s ad c hk hi Z hR
  have hlt:i < xs.size:=by omega
  have hx:xs[i]?=some xs[i]:=D7 hlt
  have hy:ys[i]?=some (ys[i]'(by omega)):=D7 (by omega)
  refine codeAny_builtin GG ?_
  rw [DZ DQ _]
  show wpAny _ A.in1 (pyNext (.ref z) >>=_) _ _ s
  have go:∀ h',(∃ b T,(ad++[s.heap.objs.size])[0]?=some T∧i7 h' z TI TO T b)→(∃ o,h'.get? TO=some o)→h'.IsListIter i1 l1 (i+1)→h'.IsListIter i2 l2 (i+1)→IsPair h' s.heap.objs.size xs[i] (ys[i]'(by omega))→
    (∀ b o,b≠z→b≠TO→b≠i1→b≠i2→s.heap.get? b=some o→h'.get? b=some o)→
    wpAny (model prog w) A.in1 (updateSeq S (·.push (.ref s.heap.objs.size)) >>=fun _=> again (.builtin "list.extend.loop" ⟨[.ref S,.ref z,res],[]⟩))
     (fun fin s'=> match fin with | .done f=> R (.ok f) s' | .again c'=> c'.quiet=true∧codeAny (model prog w) A c' R s') (fun e s'=> R (.error e) s') { s with heap:=h' }:=fun h' nz nto n1 n2 np nk=> by
   have gS:h'.get? S=some { cls:=.type "list",dict:=none,data:=.seq (ad.map Dl).toArray c,slots:=#[] }:=nk S _ hS.1 hS.2.2.1 hS.2.2.2.1 hS.2.2.2.2.1 Z.acc
   have hzlt:z < s.heap.objs.size:=by
    rcases Z.zz with ⟨_,hz,_⟩ | ⟨_,_,_,hz⟩ <;> exact Cw hz
   obtain ⟨c',Z'⟩:=Z.put D hS rfl hzlt nto hx hy n1 n2 np nk nz
   have hal:((ad.map Dl).toArray).size=i:=by simp [Z.len]
   refine wpAny_bind (wpAny_updateSeq (s:={ s with heap:=h' }) gS rfl (wpAny_pure ⟨plainId_quiet DQ _,ih (i+1) _ (ad++[s.heap.objs.size]) c' (by omega) hlt Z' fun h2 ad2 c2 F kp fr=> ?_⟩) (by rw [hal,sizeLine_eq]; omega) (by rw [Array.size_push,hal,sizeLine_eq]; omega))
   refine hR h2 ad2 c2 F (fun b o m1 m2 m3 m4 m5 e=> kp b o m1 m2 m3 m4 m5 ((Dc _ _ (Ne.symm m5)).trans (nk b o m1 m2 m3 m4 e))) fun a ha=> ?_
   rcases fr a ha with q | q
   ·rcases Es.mp q with q | q
    ·exact .inl q
    ·right; rw [CT.mp q]; exact F_ (Cv _)
   ·right
    cases hq:s.heap.get? a with
    | none=> rfl
    | some o=>
     exfalso
     by_cases e1:a=S
     ·subst e1; exact F.ne a ha rfl
     ·have q':h'.get? a=none:=by
       have:=q
       rw [Dc _ _ (Ne.symm e1)] at this
       exact this
      by_cases f1:a=z
      ·obtain ⟨_,_,_,e⟩:=nz; rw [f1,e] at q'; cases q'
      ·by_cases f2:a=TO
       ·obtain ⟨o',e⟩:=nto; rw [f2,e] at q'; cases q'
       ·by_cases f3:a=i1
        ·obtain ⟨o',e,_⟩:=n1; rw [f3,e] at q'; cases q'
        ·by_cases f4:a=i2
         ·obtain ⟨o',e,_⟩:=n2; rw [f4,e] at q'; cases q'
         ·rw [nk a o f1 f2 f3 f4 hq] at q'; cases q'
  rcases Z.zz with ⟨h0,hz,a,b,hTO⟩ | ⟨b,T,hT,hz⟩
  ·subst h0
   have had:ad=[]:=DU.mp Z.len
   refine wpAny_bind (wpAny_pyNext_zip_item D hz Z.ti hTO Z.a1 Z.a2 Z.b1 Z.b2 hx hy fun h' m1 m2 m3 m4 m5 _ kp=> ?_)
   exact go h' ⟨false,_,by rw [had]; rfl,m1⟩ ⟨_,m2⟩ m3 m4 m5 kp
  ·obtain ⟨x,y,_,_,hp⟩:=Z.tup 0 T hT
   refine wpAny_bind (si D hz hp Z.ti Z.a1 Z.a2 Z.b1 Z.b2 hx hy fun h' m1 m3 m4 m5 kp=> ?_)
   refine go h' ⟨true,T,?_,m1⟩ ?_ m3 m4 m5 fun b o n1 _ n3 n4 e=> kp b o n1 n3 n4 e
   ·rw [CP (Cz.mp hT).1]; exact hT
   ·obtain ⟨o,e⟩:=Z.to; exact ⟨o,kp TO o D.TOz D.TOi1 D.TOi2 e⟩
end
end ST
namespace ST
open PySem
theorem yN:typeLookup (.type "zip") "__len__"=pure none:=by rw [typeLookup_type,builtinLookup_eq_fast]; kernel_rfl
theorem uM:typeLookup (.type "zip") "__length_hint__"=pure none:=by rw [typeLookup_type,builtinLookup_eq_fast]; kernel_rfl
theorem uI (prog:Program) (w:World):ue prog w "zip":=fun A E s r Q hT h=> by
 unfold Builtin.List.listLengthHint
 refine wpAny_bind (wpAny_specialOf hT yN ?_)
 show wpAny _ A (specialOf (Dl r) (Str.ofString "__length_hint__") >>=_) _ _ _
 refine wpAny_bind (wpAny_specialOf hT uM ?_)
 exact wpAny_pure (h _)
section
variable {prog:Program} {w:World} {A:Around} {E:Value→Shared→Prop} {s:Shared}
theorem w9 {z TI TO:Addr} {f:Value} {Q:Value→Shared→Prop} (hz:IsZip s.heap z TI TO f) (h:Q (.ref z) s):wpAny (model prog w) A (pyIter (.ref z)) Q E s:=by
 have hT:s.TypeIs (.ref z) "zip":=⟨_,hz,rfl⟩
 refine wpAny_pyIter_slot hT Hl (wpAny_call_entry Hl hT PySem.F.entry_zip_iter ?_ (PySem.F.args_zip_iter_1 _))
 exact wpAny_pure ⟨_,rfl,"zip",_,hT,ES.lookup,h⟩
end
section
variable {prog:Program} {w:World} {A:Around} {R:Result→Shared→Prop} {s:Shared}
theorem qg (hh:A.in1.handled=none) {xs ys:Array Value} {z TI TO i1 i2 l1 l2 S:Addr} (D:ZipApart z TI TO i1 i2 l1 l2) (hS:S≠z∧S≠TI∧S≠TO∧S≠i1∧S≠i2∧S≠l1∧S≠l2) (hxy:ys.size=xs.size) (hn:xs.size≤1000) (res:Value) {c₀:Nat}
  (hz:IsZip s.heap z TI TO .none) (Z:∀ h',(∀ b o,b≠S→s.heap.get? b=some o→h'.get? b=some o)→∀ c,h'.get? S=some { cls:=.type "list",dict:=none,data:=.seq #[] c,slots:=#[] }→ZL xs ys z TI TO i1 i2 l1 l2 S h' 0 [] c)
  (gS:s.heap.get? S=some { cls:=.type "list",data:=.seq #[] c₀ })
  (hR:∀ h' ad' c',ZF xs ys S h' ad' c'→(∀ b o,b≠z→b≠TO→b≠i1→b≠i2→b≠S→s.heap.get? b=some o→h'.get? b=some o)→(∀ a∈ad',s.heap.get? a=none)→R (.ok (.ret res)) { s with heap:=h' }):
  wpAny (model prog w) A.in1 (Builtin.List.listExtendWith (.ref S) (.ref z) res)
   (fun fin s'=> match fin with | .done f=> R (.ok f) s' | .again c'=> c'.quiet=true∧codeAny (model prog w) A c' R s') (fun e s'=> R (.error e) s') s:=by
 have hT:s.TypeIs (.ref z) "zip":=⟨_,hz,rfl⟩
 unfold Builtin.List.listExtendWith
 refine wpAny_bind (wpAny_typeOf hT ?_)
 have k1:Builtin.List.listSameRef (.ref S) (.ref z)=false:=by simp [Builtin.List.listSameRef,hS.1]
 have k2:(DO "zip"==DO "list")=false:=by decide
 have k3:(DO "zip"==DO "tuple")=false:=by decide
 simp only [k1,k2,k3,Je,CN,if_false]
 refine wpAny_bind (w9 hz (wpAny_bind (wpAny_holding (uI prog w _ _ _ _ _ hT fun b=> ?_))))
 refine wpAny_ite_split (fun _=> ?_) (fun _=> ?_)
 ·refine wpAny_bind (wpAny_rule (wpAny_bind ?_))
  show wpAny _ A.in1 (updateSeq S (·.push .none) >>=fun _=> updateSeq S (·.pop)) _ _ _
  refine wpAny_bind (wpAny_updateSeq gS rfl ?_)
  have g2:=Dt (DE (·.push C2)) gS rfl
  refine wpAny_updateSeq (hz:=by seq_fits) g2 rfl ?_
  have g3:=Dt (DE (·.pop)) g2 rfl
  have oth:∀ b o,b≠S→s.heap.get? b=some o→((s.heap.update S (DE (·.push C2))).update S (DE (·.pop))).get? b=some o:=fun b o hb e=> (Dc _ _ (Ne.symm hb)).trans ((Dc _ _ (Ne.symm hb)).trans e)
  refine wpAny_pure ⟨plainId_quiet DQ _,nK (s:={ s with heap:=(s.heap.update S (DE (·.push C2))).update S (DE (·.pop)) }) hh D hS hxy hn res _ 0 [] _ rfl (DG _) (Z _ oth _ g3) fun h' ad' c' F kp fr=> ?_⟩
  refine hR h' ad' c' F (fun b o m1 m2 m3 m4 m5 e=> kp b o m1 m2 m3 m4 m5 (oth b o m5 e)) fun a ha=> ?_
  rcases fr a ha with q | q
  ·simp at q
  ·cases hq:s.heap.get? a with
   | none=> rfl
   | some o=>
    have e:=oth a o (F.ne a ha) hq
    rw [e] at q; cases q
 ·refine wpAny_pure ⟨plainId_quiet DQ _,nK hh D hS hxy hn res _ 0 _ [] _ rfl (DG _) (Z _ (fun _ _ _ e=> e) _ gS) fun h' ad' c' F kp fr=> ?_⟩
  exact hR h' ad' c' F kp fun a ha=> (fr a ha).resolve_left (by simp)
end
section
variable {prog:Program} {w:World} {A:Around} {E:Value→Shared→Prop} {s:Shared}
set_option maxHeartbeats 1000000 in
theorem call_list_zip {Q:Value→Shared→Prop} (hh:A.handled=none) {xs ys:Array Value} {z TI TO i1 i2 l1 l2:Addr} (D:ZipApart z TI TO i1 i2 l1 l2) (hxy:ys.size=xs.size) (hn:xs.size≤1000)
  (hz:IsZip s.heap z TI TO .none) (hTI:IsPair s.heap TI (.ref i1) (.ref i2)) {a b:Value} (hTO:IsPair s.heap TO a b) (h1:s.heap.IsListIter i1 l1 0) (h2:s.heap.IsListIter i2 l2 0) (hl1:s.heap.IsList l1 xs) (hl2:s.heap.IsList l2 ys)
  (hQ:∀ h' ad' c',ZF xs ys s.heap.objs.size h' ad' c'→(∀ b o,b≠z→b≠TO→b≠i1→b≠i2→s.heap.get? b=some o→h'.get? b=some o)→(∀ a∈ad',s.heap.get? a=none)→Q (.ref s.heap.objs.size) { s with heap:=h' }):
  wpAny (model prog w) A (call (.type "list") [.ref z]) Q E s:=by
 refine callType_codes (Q₁:=fun obj s₁=> obj=.ref s.heap.objs.size∧s₁={ s with heap:=s.heap.push { cls:=.type "list",data:=.seq #[] } }) HA (GU _) GV (code_list_new _ ⟨rfl,rfl⟩) fun obj s₁ h₁=> ?_
 obtain ⟨rfl,rfl⟩:=h₁
 generalize hSd:s.heap.objs.size=S at *
 have lt:∀ c o,s.heap.get? c=some o→S≠c:=fun c o e q=> by rw [← q,← hSd] at e; exact Dh _ (Cw e)
 have gS:(s.heap.push { cls:=.type "list",data:=.seq #[] }).get? S=some { cls:=.type "list",data:=.seq #[] }:=by rw [← hSd]; exact CG _ rfl
 have up:∀ b o,s.heap.get? b=some o→(s.heap.push { cls:=.type "list",data:=.seq #[] }).get? b=some o:=fun b o e=> Cq _ e
 have hS:S≠z∧S≠TI∧S≠TO∧S≠i1∧S≠i2∧S≠l1∧S≠l2:=⟨lt _ _ hz,lt _ _ hTI,lt _ _ hTO,by obtain ⟨o,e,_⟩:=h1; exact lt _ _ e,by obtain ⟨o,e,_⟩:=h2; exact lt _ _ e,by obtain ⟨o,e,_⟩:=hl1; exact lt _ _ e,by obtain ⟨o,e,_⟩:=hl2; exact lt _ _ e⟩
 refine ⟨⟨_,gS,rfl⟩,GQ _ _,?_⟩
 show wpAny _ A.in1.in1 (Builtin.List.listItems (.ref S) >>=fun old=> Builtin.List.listUpdate (.ref S) (fun _=> #[]) >>=fun _=> letGo old.toList.reverse >>=fun _=> Builtin.List.listExtendWith (.ref S) (.ref z) .none) _ _ _
 refine wpAny_bind ?_
 unfold Builtin.List.listItems
 refine wpAny_bind (wpAny_seqItems gS rfl (wpAny_pure ?_))
 show wpAny _ A.in1.in1 (updateSeq S (fun _=> #[]) >>=fun _=> letGo (#[]:Array Value).toList.reverse >>=fun _=> Builtin.List.listExtendWith (.ref S) (.ref z) .none) _ _ _
 refine wpAny_bind (wpAny_updateSeq gS rfl ?_)
 have g2:=Dt (DE (fun _=> (#[]:Array Value))) gS rfl
 have oth:∀ b o,b≠S→s.heap.get? b=some o→((s.heap.push { cls:=.type "list",data:=.seq #[] }).update S (DE (fun _=> (#[]:Array Value)))).get? b=some o:=fun b o hb e=> (Dc _ _ (Ne.symm hb)).trans (up b o e)
 refine wpAny_bind (wpAny_letGo ?_)
 refine qg (A:=A.in1) (s:={ s with heap:=(s.heap.push { cls:=.type "list",data:=.seq #[] }).update S (DE (fun _=> (#[]:Array Value))) }) hh D hS hxy hn .none (oth _ _ hS.1.symm hz) (fun h' kp c e=> ?_) g2 fun h' ad' c' F kp fr=> ?_
 ·have k:∀ b o,b≠S→s.heap.get? b=some o→h'.get? b=some o:=fun b o hb e=> kp b o hb (oth b o hb e)
  exact ⟨k _ _ hS.2.1.symm hTI,h1.at fun o e=> k _ o hS.2.2.2.1.symm e,h2.at fun o e=> k _ o hS.2.2.2.2.1.symm e,hl1.at fun o e=> k _ o hS.2.2.2.2.2.1.symm e,hl2.at fun o e=> k _ o hS.2.2.2.2.2.2.symm e,e,rfl,fun j a e=> by simp at e,fun a ha=> by simp at ha,⟨_,k _ _ hS.2.2.1.symm hTO⟩,IK,.inl ⟨rfl,k _ _ hS.1.symm hz,a,b,k _ _ hS.2.2.1.symm hTO⟩⟩
 ·refine ⟨rfl,hQ h' ad' c' F (fun b o m1 m2 m3 m4 e=> kp b o m1 m2 m3 m4 (fun q=> lt b o e q.symm) (oth b o (fun q=> lt b o e q.symm) e)) fun a ha=> ?_⟩
  cases hq:s.heap.get? a with
  | none=> rfl
  | some o=>
   have e:=oth a o (F.ne a ha) hq
   have q:=fr a ha
   rw [show ({ s with heap:=(s.heap.push { cls:=.type "list",data:=.seq #[] }).update S (DE (fun _=> (#[]:Array Value))) }:Shared).heap.get? a=some o from e] at q
   cases q
end
end ST
namespace L2
open PySem PySem.Spec PyProof.Rows
theorem v4 {a b:Nat} (h:a < b∨b < a):@Ne Addr a b:=fun e=> by
 have e':a=b:=e
 omega
theorem vT:bootBuiltins "zip"=some (.type "zip"):=by decide+kernel
section
variable {P:Program} {w:World} {H:Hp} {h:Heap} {a:Addr} {o:HO}
theorem gT (x:cG P w H h a o):∃ ob,h.get? a=some ob:=by
 cases o with
 | lst xs=> obtain ⟨_,_,_,_,e⟩:=x; exact ⟨_,e⟩
 | tup xs=> obtain ⟨_,_,_,ob,e,_⟩:=x; exact ⟨_,e⟩
 | dK kvs=> obtain ⟨_,_,_,_,o,_,_,e,_⟩:=x; exact ⟨_,e⟩
 | dT kvs=> obtain ⟨_,_,_,_,o,_,_,e,_⟩:=x; exact ⟨_,e⟩
 | set S n=> obtain ⟨o,_,_,_,e,_⟩:=x; exact ⟨_,e⟩
 | ins C dx fs=> obtain ⟨_,_,_,e,_⟩:=x; exact ⟨_,e⟩
 | own y=> exact x
 | xd fs=> obtain ⟨_,⟨_,_,_,e,_⟩,_⟩:=x; exact ⟨_,e⟩
 | rng lo hi=> obtain ⟨_,_,_,e⟩:=x; exact ⟨_,e⟩
 | frz ob u=> obtain ⟨e,_⟩:=x; exact ⟨_,e⟩
 | tbl ps=> exact ⟨_,(show h.get? a=some _ from x)⟩
 | met f y=> exact ⟨_,(show h.get? a=some _ from x)⟩
 | ext φ=> exact x.2.1
end
theorem xD {X:Cx} {pins:List (Addr×Obj)} {σ:List (Option V)} {H H':Hp} {s:Shared} {h':Heap} {t':Nat} (I:Inv X pins σ H s) (k:∀ b u,s.heap.get? b=some u→h'.get? b=some u)
  (old:∀ b u,s.heap.get? b=some u→H' b=H b) (new:∀ b o,s.heap.get? b=none→H' b=some o→cG X.prog X.w H' h' b o):Inv X pins σ H' { s with heap:=h',toks:=t' }:=by
 have at':∀ b o,H b=some o→H' b=some o:=fun b o e=> let ⟨ob,q⟩:=gT (I.hok b o e); (old b ob q).trans e
 refine I.un ⟨fun b u q _ _ _=> k b u q,fun b u q _ _ _=> ⟨u.slots,k b u q⟩,fun b u q n _=> (old b u q).trans n,fun b u q _=> ⟨u,k b u q⟩,fun b xs q=> at' b _ q,fun b u xs q=> at' b _ q,fun b ps q=> ⟨#[],by rw [at' b _ q]; simp⟩⟩ fun b u e=> ?_
 cases hb:s.heap.get? b with
 | some ob=>
  rw [old b ob hb] at e
  exact (I.hok b u e).stay (fun c v _ q=> k c v q) (fun c q=> at' c _ q) fun c xs q=> at' c _ q
 | none=> exact new b u hb e
def kc (H:Hp):List Addr→List (List V)→Hp
 | [],_=> H
 | a::as,ps=> match ps with
  | []=> H
  | p::ps=> upd (kc H as ps) a (.tup p)
theorem oR {H:Hp}:∀ {as:List Addr} {ps:List (List V)} {b:Addr},b ∉ as→kc H as ps b=H b
 | [],_,_,_=> rfl
 | a::as,[],_,_=> rfl
 | a::as,p::ps,b,h=> by
  show upd (kc H as ps) a (.tup p) b=H b
  rw [bv fun z=> h (by rw [z]; exact Cy)]
  exact oR fun z=> h (Cp _ z)
theorem qW {H:Hp}:∀ {as:List Addr} {ps:List (List V)} {j:Nat} {a:Addr} {p:List V},as.Nodup→as[j]?=some a→ps[j]?=some p→kc H as ps a=some (.tup p)
 | [],_,j,_,_,_,e,_=> by simp at e
 | _::_,[],j,_,_,_,_,e=> by simp at e
 | b::as,q::ps,0,a,p,_,e1,e2=> by
  simp at e1 e2
  subst e1; subst e2
  exact bi
 | b::as,q::ps,j+1,a,p,nd,e1,e2=> by
  show upd (kc H as ps) b (.tup q) a=_
  rw [FA] at e1 e2
  have nd':=EG.mp nd
  rw [bv fun z=> nd'.1 (by rw [← z]; exact CM e1)]
  exact qW nd'.2 e1 e2
theorem nu {H:Hp}:∀ {as:List Addr} {ps:List (List V)} {b:Addr} {o:HO},kc H as ps b=some o→H b=some o∨∃ (j:Nat) (p:List V),as[j]?=some b∧ps[j]?=some p∧o=.tup p
 | [],_,_,_,e=> .inl e
 | _::_,[],_,_,e=> .inl e
 | a::as,p::ps,b,o,e=> by
  have e':upd (kc H as ps) a (.tup p) b=some o:=e
  by_cases hb:b=a
  ·subst hb
   rw [bi] at e'
   cases e'
   exact .inr ⟨0,p,rfl,rfl,rfl⟩
  ·rw [bv hb] at e'
   rcases nu e' with z | ⟨j,q,e1,e2,e3⟩
   ·exact .inl z
   ·exact .inr ⟨j+1,q,by simpa using e1,by simpa using e2,e3⟩
theorem lH:∀ (ad:List Addr),aY (ad.map V.ref) (ad.map Dl)
 | []=> .nil
 | _::ad=> .cons rfl (lH ad)
section
variable {X:Cx} {H0:Hp} {O0:List Addr} {ps:PSt} {e f:Expr} {x y:U} {xs ys:List U} {pos pos' p p':Pos}
set_option maxHeartbeats 1000000 in
theorem tP (hc:X.calm=true) (hg:Gl X "list") (hm:X.mg "list"=none) (hgz:Gl X "zip") (hmz:X.mg "zip"=none) (ha:Ev X H0 O0 ps e x) (hx:x=.lst xs∨x=.scr xs) (hb:Ev X H0 O0 ps f y) (hy:y=.lst ys∨y=.scr ys) (hl:ys.length=xs.length) (hn:xs.length≤1000)
  (he:starEach [e,f] X.env=(false,eval e X.env)::starEach [f] X.env:=by rfl) (hf:starEach [f] X.env=(false,eval f X.env)::starEach [] X.env:=by rfl):
  EvN X H0 O0 ps (.Call (.Name "list" p) [.Call (.Name "zip" p') [e,f] [] pos'] [] pos) (HV (fun a b=> U.tup [a,b]) xs ys):=by
 rintro pins s σ H Q I ⟨O,R,q⟩
 have hh:X.A.handled=none:=I.ok.hd hc
 refine wpAny_Call_Name_kw (dQ I hg hm boot_list ?_)
 refine callWith_type1 (e:=.Call (.Name "zip" p') [e,f] [] pos') (rest:=[]) ?_ bn rfl
 rw [bn]
 show wpAny _ _ (spliced ((false,eval (.Call (.Name "zip" p') [e,f] [] pos') X.env)::backTo pos (starEach [] X.env))) _ _ s
 refine Fd ?_
 refine wpAny_Call_Name_kw (dQ I hgz hmz vT ?_)
 refine callWith_type1 (thn (eL ha (eL hb g6 hf) he pos' pins s σ H (fun vs H1=> ∃ v u,vs=[v,u]∧aQ H H1∧Rp X.K (hid H1 O) v x∧Rp X.K (hid H1 O) u y) I ⟨O,R,fun v H1 s1 r1=> ⟨O,R.go s1,fun u H2 s2 r2=> ⟨v,u,rfl,s1.trans s2,r1.same (bL s2),r2⟩⟩⟩) fun us s1 hx'=> ?_) he (by rw [hf]; rfl)
 obtain ⟨vs,H1,I1,rv,v,u,rfl,sm,rp1,rp2⟩:=hx'
 obtain ⟨w1,w2,rfl,ru1,ru2⟩:=lv rv
 obtain ⟨a,va,rfl,hq1,rs1⟩:=yR rp1 hx
 obtain ⟨b,vb,rfl,hq2,rs2⟩:=yR rp2 hy
 cases ru1
 cases ru2
 obtain ⟨ia,ra,pl1,hz1⟩:=I1.list (aG.seq hq1)
 obtain ⟨ib,rb,pl2,hz2⟩:=I1.list (aG.seq hq2)
 have la:=ra.length
 have lb:=rb.length
 have l1:=rs1.len
 have l2:=rs2.len
 have al:@LT.lt Nat instLTNat a s1.heap.objs.size:=by obtain ⟨o,ho,_⟩:=pl1.isList; exact Cw ho
 have bl:@LT.lt Nat instLTNat b s1.heap.objs.size:=by obtain ⟨o,ho,_⟩:=pl2.isList; exact Cw ho
 refine PySem.call_zip_2 pl1.isList pl2.isList fun h' z1 z2 z3 z4 z5 z6 z7=> ?_
 refine Fk ?_
 have D:ZipApart (s1.heap.objs.size+4) (s1.heap.objs.size+2) (s1.heap.objs.size+3) s1.heap.objs.size (s1.heap.objs.size+1) a b:=by constructor <;> exact v4 (by omega)
 have sxy:ib.toArray.size=ia.toArray.size:=by simp; omega
 have sx:ia.toArray.size≤1000:=by simp; omega
 refine ST.call_list_zip (s:={ s1 with heap:=h' }) hh D sxy sx z1 z2 z3 z4 z5 (pl1.isList.at fun o e=> z7 _ o e) (pl2.isList.at fun o e=> z7 _ o e) fun h3 ad c F kp fr=> ?_
 have lD:s1.heap.objs.size≤({ s1 with heap:=h' }:Shared).heap.objs.size:=by show _≤h'.objs.size; omega
 generalize ({ s1 with heap:=h' }:Shared).heap.objs.size=D0 at *
 have keep:∀ b o,s1.heap.get? b=some o→h3.get? b=some o:=fun b o e=> by
  have this:@LT.lt Nat instLTNat b s1.heap.objs.size:=Cw e
  exact kp b o (v4 (by omega)) (v4 (by omega)) (v4 (by omega)) (v4 (by omega)) (z7 b o e)
 have fr':∀ a∈ad,s1.heap.get? a=none:=fun a ha=> by
  cases hq:s1.heap.get? a with
  | none=> rfl
  | some o=>
   have q1:=fr a ha
   rw [show ({ s1 with heap:=h' }:Shared).heap.get? a=some o from z7 a o hq] at q1
   cases q1
 have frD:s1.heap.get? D0=none:=F_ lD
 have nH:∀ a,s1.heap.get? a=none→H1 a=none:=fun a e=> by
  cases hq:H1 a with
  | none=> rfl
  | some o=>
   obtain ⟨ob,z⟩:=gT (I1.hok a o hq)
   rw [e] at z; cases z
 generalize hP:HV (fun x y:V=> [x,y]) va vb=PS
 have old:∀ b u,s1.heap.get? b=some u→upd (kc H1 ad PS) D0 (.lst (ad.map V.ref)) b=H1 b:=fun b u e=> by
  rw [bv fun z=> by rw [z,frD] at e; cases e]
  exact oR fun z=> by rw [fr' b z] at e; cases e
 have sm1:aQ H1 (upd (kc H1 ad PS) D0 (.lst (ad.map V.ref))):=fun b o e=> let ⟨ob,z⟩:=gT (I1.hok b o e); (old b ob z).trans e
 have lad:ad.length=ia.length:=by rw [F.len]; simp
 have atT:∀ (j:Nat) (c:Addr) (v u:V),ad[j]?=some c→va[j]?=some v→vb[j]?=some u→upd (kc H1 ad PS) D0 (.lst (ad.map V.ref)) c=some (.tup [v,u]):=fun j c v u e1 e2 e3=> by
  rw [bv (F.ne c (CM e1))]
  refine qW F.nd e1 ?_
  rw [← hP]
  exact Ez.mpr ⟨v,u,e2,e3,rfl⟩
 have I3:Inv X pins σ (upd (kc H1 ad PS) D0 (.lst (ad.map V.ref))) { s1 with heap:=h3 }:=by
  refine xD (t':=s1.toks) I1 keep old fun b o nb e=> ?_
  by_cases hbD:b=D0
  ·subst hbD
   rw [bi] at e
   cases e
   exact ⟨by rw [Co,lad,← la]; exact hz1,ad.map Dl,c,lH ad,F.acc⟩
  ·rw [bv hbD] at e
   rcases nu e with z | ⟨j,pr,e1,e2,rfl⟩
   ·rw [nH b nb] at z; cases z
   ·rw [← hP] at e2
    obtain ⟨v,u,f1,f2,rfl⟩:=Ez.mp e2
    obtain ⟨xv,g1,r1⟩:=ra.get f1
    obtain ⟨yv,g2,r2⟩:=rb.get f2
    obtain ⟨xv',yv',k1,k2,k3⟩:=F.tup j b e1
    have m1:xv'=xv:=by
     have:ia.toArray[j]?=some xv:=by simpa using g1
     rw [this] at k1; cases k1; rfl
    have m2:yv'=yv:=by
     have:ib.toArray[j]?=some yv:=by simpa using g2
     rw [this] at k2; cases k2; rfl
    subst m1; subst m2
    exact ⟨(show 2≤sizeLine by decide),[xv',yv'],.cons r1 (.cons r2 .nil),_,k3,rfl,_,rfl⟩
 refine ⟨.ref D0,_,I3,rfl,q D0 _ _ (sm.trans sm1) (sm.free (nH _ frD)) bi ⟨?_,fun i v u h1 h2=> ?_⟩⟩
 ·rw [Co,List.length_zipWith]; omega
 ·rw [Ct] at h1
  cases hi:ad[i]? with
  | none=> rw [hi] at h1; cases h1
  | some c'=>
   rw [hi] at h1
   obtain rfl:V.ref c'=v:=by simpa using h1
   obtain ⟨xi,yi,f1,f2,rfl⟩:=Ez.mp h2
   obtain ⟨vi,g1,r1⟩:=rs1.get f1
   obtain ⟨wi,g2,r2⟩:=rs2.get f2
   have S:=cg (O:=O) sm1 (nH _ frD)
   have rr:=Rps.cons (r1.same S) (Rps.cons (r2.same S) Rps.nil)
   have hc':=CM hi
   refine .tup (SqT.of (dN (atT i c' vi wi hi g1 g2) fun z=> ?_)) rr.len rr.at_
   rcases Cu.mp z with z | z
   ·exact F.ne c' hc' z
   ·exact (R.go sm).dom c' z (nH _ (fr' c' hc'))
end
end L2
namespace L2
open PySem PySem.Spec PyProof.Rows
theorem iW (ns:List Int):∀ j,preSum (fun i=> ns.getD i 0) j=(ns.take j).sum
 | 0=> by simp [preSum]
 | j+1=> by rw [preSum,iW ns j,PySem.sum_take_succ]
section
variable {X:Cx} {ns:List Int} {M:Int}
theorem jZ {K:Cn} {H:Hp} {ws:List V} {its:List Value} (rv:aY ws its) (rs:Rps K H ws (ns.map U.int)) (i:Nat) (z:Value) (e:its.toArray[i]?=some z):∃ t,z=.int (ns.getD i 0) t:=by
 have hl:=rs.len
 rw [Co] at hl
 have e4:its[i]?=some z:=by simpa using e
 have hi:i < its.length:=aL e4
 have hw:i < ws.length:=by rw [rv.length]; exact hi
 have hb:i < ns.length:=by omega
 obtain ⟨u,e1,e2⟩:=rv.get (Cm hw)
 have e3:=rs.at_ i ws[i] (.int ns[i]) (Cm hw) (by rw [Ct,Cm hb]; rfl)
 rw [e4] at e1
 cases e1
 generalize ws[i]=wi at *
 cases e3
 rw [CB,Cm hb]
 obtain ⟨t,rfl⟩:=e2
 exact ⟨t,rfl⟩
theorem lR (hc:X.calm=true) (hM:M∈ns∧∀ a∈ns,M≤a):e8 X (.builtin "min") [.lst (ns.map U.int)] (.int M):=by
 intro pins s σ H vs us Q I r hq
 obtain ⟨O,d,rs,q⟩:=hq
 obtain ⟨v,rfl,h1⟩:=cZ rs
 obtain ⟨p1,rfl,r1⟩:=fe r
 cases h1 with
 | @lst a ws _ hq hl hh=>
  cases r1
  obtain ⟨its,rv,pl,_⟩:=I.list (SqL.of (aG _ _ hq))
  have hlen:its.length=ns.length:=by rw [← rv.length,hl,Co]
  have hat:=jZ (ns:=ns) rv ⟨hl,hh⟩
  have hn:0 < ns.length:=D4 hM.1
  refine call_min_walk (wpAny_pyIter_list pl.isList ?_)
  have hal:a < s.heap.objs.size:=by obtain ⟨o,e,_⟩:=pl.isList; exact Cw e
  refine ⟨s.heap.objs.size,_,_,_,_,_,_,rfl,Walks.list (A:=X.A.in1) (I.ok.hd hc) s.heap.objs.size a (C1 hal) its.toArray,⟨⟨_,CG _ rfl,rfl,rfl⟩,pl.isList.push _⟩,fun b hb=> ?_,by rw [CH,hlen]; exact hn,CmpOf.ints_lt (fun i=> ns.getD i 0) hat,fun v h' tk hP hk=> ?_⟩
  ·show b < (s.heap.push _).objs.size
   rw [Er]
   rcases Cu.mp hb with z | z
   ·rw [z]; exact Ej _
   ·rw [CT.mp z]; exact Eo hal
  ·obtain ⟨t,rfl⟩:=hat _ _ hP
   obtain ⟨b1,b2⟩:=argBest_lt (fun i=> ns.getD i 0) (its.toArray.size - 1)
   have e:ns.getD (argBest (fun i j=> decide (ns.getD i 0 < ns.getD j 0)) (its.toArray.size - 1)) 0=M:=by
    rw [CH,hlen] at b1 b2 ⊢
    generalize argBest (fun i j=> decide (ns.getD i 0 < ns.getD j 0)) (ns.length - 1)=g at *
    have hg:g < ns.length:=by omega
    obtain ⟨j,hj,ej⟩:=Gi hM.1
    have k1:=b2 j (by omega)
    have k2:=hM.2 ns[g] (Fq hg)
    simp only [CB,Cm hg,Cm hj,EL] at k1 ⊢
    omega
   rw [e]
   refine ⟨.int M,H,I.kept (t':=tk) fun b o e=> hk b o ?_ (Cq _ e),⟨t,rfl⟩,q _ H (.refl H) (.int _)⟩
   intro z
   have:b=s.heap.objs.size:=by simpa using z
   exact absurd (Cw e) (by rw [this]; exact Dh _)
theorem pA (hc:X.calm=true):e8 X (.builtin "sum") [.lst (ns.map U.int)] (.int ns.sum):=by
 intro pins s σ H vs us Q I r hq
 obtain ⟨O,d,rs,q⟩:=hq
 obtain ⟨v,rfl,h1⟩:=cZ rs
 obtain ⟨p1,rfl,r1⟩:=fe r
 cases h1 with
 | @lst a ws _ hq hl hh=>
  cases r1
  obtain ⟨its,rv,pl,_⟩:=I.list (SqL.of (aG _ _ hq))
  have hlen:its.length=ns.length:=by rw [← rv.length,hl,Co]
  have hat:=jZ (ns:=ns) rv ⟨hl,hh⟩
  refine call_sum_walkG (wpAny_pyIter_list pl.isList ?_)
  have hal:a < s.heap.objs.size:=by obtain ⟨o,e,_⟩:=pl.isList; exact Cw e
  refine ⟨s.heap.objs.size,_,_,_,_,_,fun i=> ns.getD i 0,rfl,Walks.list (A:=X.A.in1) (I.ok.hd hc) s.heap.objs.size a (C1 hal) its.toArray,⟨⟨_,CG _ rfl,rfl,rfl⟩,pl.isList.push _⟩,fun b hb=> ?_,hat,fun h' tk t' hk=> ?_⟩
  ·show b < (s.heap.push _).objs.size
   rw [Er]
   rcases Cu.mp hb with z | z
   ·rw [z]; exact Ej _
   ·rw [CT.mp z]; exact Eo hal
  ·rw [iW,CH,hlen,E3]
   refine ⟨.int ns.sum,H,I.kept (t':=tk) fun b o e=> hk b o ?_ (Cq _ e),⟨t',rfl⟩,q _ H (.refl H) (.int _)⟩
   intro z
   have:b=s.heap.objs.size:=by simpa using z
   exact absurd (Cw e) (by rw [this]; exact Dh _)
end
end L2
namespace ST
open PySem PyProof.Rows
def leP (a b:Int×Int):Bool:=decide (a.1 < b.1∨(a.1=b.1∧a.2≤b.2))
section
variable {prog:Program} {w:World} {A:Around} {E:Value→Shared→Prop} {s:Shared}
end
end ST
namespace L2
open PySem PySem.Spec PyProof.Rows
section
variable {X:Cx} {H0:Hp} {O0:List Addr} {ps:PSt} {a b c:Expr} {pos:Pos} {x y z:U} {p q:P2} {k m:Bool}
theorem zC {cd:Expr} (hc:Tt X H0 O0 ps cd k) (ha:Ev X H0 O0 ps a x) (hb:Ev X H0 O0 ps b y):Ev X H0 O0 ps (.IfExp cd a b pos) (if k=true then x else y):=by
 cases k with
 | true=> exact zl hc (fun _=> ha) (fun h=> nomatch h)
 | false=> exact zl hc (fun h=> nomatch h) (fun _=> hb)
end
end L2
namespace L2
open PySem PySem.Spec PyProof.Rows
section
variable {X:Cx} {p q:P2} {l:List P2}
theorem Aj {pins:List (Addr×Obj)} {σ:List (Option V)} {H:Hp} {s:Shared} (I:Inv X pins σ H s) {v:V} {u:Value} (r:Rp X.K H v (pu p)) (e:bp v u):∃ b,u=.ref b∧∀ prog w,ST.TK prog w s.heap [p.1,p.2] b:=by
 cases r with
 | @tup b zs _ hs hsl hsi=>
  cases e
  refine ⟨b,rfl,fun prog w=> ?_⟩
  obtain ⟨jts,rj,ht,_⟩:=I.tuple hs
  have z0:zs.length=2:=hsl
  match zs,z0,hsi,rj with
  | [z1,z2],_,hsi,rj=>
   have q1:=hsi 0 z1 _ rfl rfl
   have q2:=hsi 1 z2 _ rfl rfl
   cases q1
   cases q2
   obtain ⟨u1,u2,rfl,r1,r2⟩:=lv rj
   obtain ⟨t1,rfl⟩:=r1
   obtain ⟨t2,rfl⟩:=r2
   obtain ⟨o,ho,hoc,n,hod⟩:=ht
   exact ⟨o,_,n,ho,hoc,hod,.cons (intKind_is _ _ _ _) (.cons (intKind_is _ _ _ _) .nil)⟩
end
end L2
namespace L2
open PySem PySem.Spec PyProof.Rows
section
variable {X:Cx} {H0:Hp} {O0:List Addr} {ps:PSt} {e:Expr} {pts:List P2} {pos pos' p p':Pos}
end
end L2
namespace ST
open PySem
def Aa (prog:Program) (w:World) (A:Around) (op:CmpOp) (G:Heap→Prop) (P:Nat→Value→Prop) (bt:Nat→Nat→Bool):Prop:=
 ∀ i j vi vj (s:Shared) (Q:Value→Shared→Prop) (E:Value→Shared→Prop),G s.heap→P i vi→P j vj→Q (.bool (bt i j)) s→wpAny (model prog w) A (richCompare op vi vj) Q E s
section
variable {prog:Program} {w:World} {A:Around} {R:Result→Shared→Prop} {I S:Addr} {fp wr:List Addr} {n:Nat} {P:Nat→Value→Prop} {St:Nat→Heap→Prop} {G:Heap→Prop} {bt:Nat→Nat→Bool}
end
section
variable {prog:Program} {w:World} {A:Around} {E:Value→Shared→Prop} {s:Shared}
end
section
variable {prog:Program} {w:World} {A:Around} {R:Result→Shared→Prop} {I S:Addr} {fp wr:List Addr} {n:Nat} {P:Nat→Value→Prop} {St:Nat→Heap→Prop} {G:Heap→Prop} {bt:Nat→Nat→Bool}
theorem tL (W:Walks prog w A.in1 I fp wr n P St) (hc:Aa prog w A.in1 .Gt G P bt) (stay:∀ h h':Heap,G h→(∀ b o,b ∉ wr→b≠S→h.get? b=some o→h'.get? b=some o)→G h') (hSf:S ∉ fp):
  ∀ (k j:Nat) (s:Shared) (vb:Value) (c:Nat),n - (j+1)=k→j+1≤n→G s.heap→St (j+1) s.heap→P (argBest bt j) vb→s.heap.get? S=some { cls:=.type "list",dict:=none,data:=.seq #[vb,vb] c,slots:=#[] }→
  (∀ v h' tk,P (argBest bt (n - 1)) v→(∀ b o,b ∉ wr→b≠S→s.heap.get? b=some o→h'.get? b=some o)→R (.ok (.ret v)) { s with heap:=h',toks:=tk })→
  codeAny (model prog w) A (.builtin "max.loop" ⟨[.ref I,.none,.ref S],[]⟩) R s:=by
 have nw:S ∉ wr:=fun h=> hSf (W.sub _ h)
 have nm:(toString "max"++toString ".loop":String)="max.loop":=by decide
 intro k
 induction k with
 | zero=>
  intro j s vb c hk hj g st pb hS hR
  obtain rfl:j+1=n:=by omega
  refine codeAny_builtin FF ?_
  rw [DZ D5 _]
  show wpAny _ A.in1 (seqItems? (.ref S) >>=_) _ _ s
  refine wpAny_bind (wpAny_seqItems hS rfl ?_)
  show wpAny _ A.in1 (tryCatch (pyNext (.ref I)) _ >>=_) _ _ s
  refine wpAny_bind (wpAny_tryCatch (W.done s _ _ st fun h' tk kp=> ?_))
  show wpAny _ A.in1 (updateSeq S (fun _=> #[]) >>=_) _ _ _
  refine wpAny_bind (wpAny_updateSeq (kp S _ nw hS) rfl (wpAny_bind (wpAny_letGo (wpAny_pure ?_))))
  exact hR vb _ tk pb fun b o hw hb e=> (Dc _ _ (Ne.symm hb)).trans (kp b o hw e)
 | succ k ih=>
  intro j s vb c hk hj g st pb hS hR
  refine codeAny_builtin FF ?_
  rw [DZ D5 _]
  show wpAny _ A.in1 (seqItems? (.ref S) >>=_) _ _ s
  refine wpAny_bind (wpAny_seqItems hS rfl ?_)
  show wpAny _ A.in1 (tryCatch (pyNext (.ref I)) _ >>=_) _ _ s
  refine wpAny_bind (wpAny_tryCatch (W.item (j+1) s _ _ (by omega) st fun v h' tk pv st' kp=> ?_))
  have g':G h':=stay _ _ g fun b o hw _ e=> kp b o hw e
  have hS':=kp S _ nw hS
  show wpAny _ A.in1 (tryCatch (holding [v,v] (richCompare .Gt v vb >>=_)) _ >>=_) _ _ _
  refine wpAny_bind (wpAny_tryCatch (wpAny_holding (wpAny_bind (hc (j+1) (argBest bt j) v vb _ _ _ g' pv pb ?_))))
  refine wpAny_bind (wpAny_holding (wpAny_truthy_bool (wpAny_bind (wpAny_letGo (wpAny_pure ?_)))))
  by_cases hb:bt (j+1) (argBest bt j)=true
  ·rw [if_pos hb]
   refine wpAny_bind (wpAny_updateSeq hS' rfl (wpAny_bind (wpAny_letGo ?_)))
   rw [nm]
   have oth:∀ b o,b≠S→h'.get? b=some o→(h'.update S (DE fun _=> #[v,v])).get? b=some o:=fun b o h e=> (Dc _ _ (Ne.symm h)).trans e
   refine wpAny_pure ⟨plainId_quiet D5 _,ih (j+1) _ v _ (by omega) (by omega) (stay _ _ g' fun b o _ h e=> oth b o h e) (W.frame _ _ _ st' fun b hf o e=> oth b o (fun h=> hSf (h ▸ hf)) e) (by rw [argBest,if_pos hb]; exact pv) (Dt _ hS' rfl) fun v2 h2 t2 p2 k2=> ?_⟩
   exact hR v2 h2 t2 p2 fun b o hw h e=> k2 b o hw h (oth b o h (kp b o hw e))
  ·rw [if_neg hb]
   refine wpAny_bind (wpAny_letGo ?_)
   rw [nm]
   refine wpAny_pure ⟨plainId_quiet D5 _,ih (j+1) _ vb c (by omega) (by omega) g' st' (by rw [argBest,if_neg hb]; exact pb) hS' fun v2 h2 t2 p2 k2=> ?_⟩
   exact hR v2 h2 t2 p2 fun b o hw h e=> k2 b o hw h (kp b o hw e)
theorem pV (W:Walks prog w A.in1 I fp wr n P St) (hc:Aa prog w A.in1 .Gt G P bt) (stay:∀ h h':Heap,G h→(∀ b o,b ∉ wr→b≠S→h.get? b=some o→h'.get? b=some o)→G h') (hSf:S ∉ fp) (hn:0 < n) {s:Shared} {c:Nat} (g:G s.heap) (st:St 0 s.heap)
  (hS:s.heap.get? S=some { cls:=.type "list",dict:=none,data:=.seq #[] c,slots:=#[] })
  (hR:∀ v h' tk,P (argBest bt (n - 1)) v→(∀ b o,b ∉ wr→b≠S→s.heap.get? b=some o→h'.get? b=some o)→R (.ok (.ret v)) { s with heap:=h',toks:=tk }):
  codeAny (model prog w) A (.builtin "max.loop" ⟨[.ref I,.none,.ref S],[]⟩) R s:=by
 have nw:S ∉ wr:=fun h=> hSf (W.sub _ h)
 have nm:(toString "max"++toString ".loop":String)="max.loop":=by decide
 refine codeAny_builtin FF ?_
 rw [DZ D5 _]
 show wpAny _ A.in1 (seqItems? (.ref S) >>=_) _ _ s
 refine wpAny_bind (wpAny_seqItems hS rfl ?_)
 show wpAny _ A.in1 (tryCatch (pyNext (.ref I)) _ >>=_) _ _ s
 refine wpAny_bind (wpAny_tryCatch (W.item 0 s _ _ hn st fun v h' tk pv st' kp=> ?_))
 have hS':=kp S _ nw hS
 show wpAny _ A.in1 (updateSeq S (fun _=> #[v,v]) >>=_) _ _ _
 refine wpAny_bind (wpAny_updateSeq hS' rfl ?_)
 rw [nm]
 have oth:∀ b o,b≠S→h'.get? b=some o→(h'.update S (DE fun _=> #[v,v])).get? b=some o:=fun b o h e=> (Dc _ _ (Ne.symm h)).trans e
 refine wpAny_pure ⟨plainId_quiet D5 _,tL W hc stay hSf _ 0 _ v _ rfl hn (stay _ _ g fun b o hw h e=> oth b o h (kp b o hw e)) (W.frame _ _ _ st' fun b hf o e=> oth b o (fun h=> hSf (h ▸ hf)) e) pv (Dt _ hS' rfl) fun v2 h2 t2 p2 k2=> ?_⟩
 exact hR v2 h2 t2 p2 fun b o hw h e=> k2 b o hw h (oth b o h (kp b o hw e))
end
section
variable {prog:Program} {w:World} {A:Around} {E:Value→Shared→Prop} {s:Shared}
theorem call_maxG {l:Addr} {items:Array Value} {G:Heap→Prop} {bt:Nat→Nat→Bool} {Q:Value→Shared→Prop} (hh:A.handled=none) (hl:s.heap.IsList l items) (hn:0 < items.size) (hc:Aa prog w A.in1 .Gt G (fun i v=> items[i]?=some v) bt)
  (g:G s.heap) (stay:∀ h h':Heap,G h→(∀ b o,s.heap.get? b=some o→h.get? b=some o)→(∀ b o,s.heap.get? b=some o→h'.get? b=some o)→G h')
  (hQ:∀ v h' tk,items[argBest bt (items.size - 1)]?=some v→(∀ b o,s.heap.get? b=some o→h'.get? b=some o)→Q v { s with heap:=h',toks:=tk }):
  wpAny (model prog w) A (call (.builtin "max") [.ref l]) Q E s:=by
 have nm:(toString "max"++toString ".loop":String)="max.loop":=by decide
 refine call_function_tree PySem.F.kind_max PySem.F.plain_max PySem.F.entry_max (PySem.F.args_max1 _) ?_
 show wpAny _ A.in1 (Builtin.Builtins.bindParams "max" ["key","default"] 0 ⟨[],[]⟩ >>=_) _ _ s
 refine wpAny_bind (wpAny_of_eq (show Builtin.Builtins.bindParams "max" ["key","default"] 0 ⟨[],[]⟩=pure [none,none] from rfl) ?_)
 refine wpAny_bind (wpAny_pure ?_)
 refine wpAny_bind (wpAny_pyIter_list hl ?_)
 have hal:l < s.heap.objs.size:=by obtain ⟨o,e,_⟩:=hl; exact Cw e
 refine wpAny_bind (wpAny_newObj_type ?_)
 rw [nm]
 have W:=Walks.list (prog:=prog) (w:=w) (A:=A.in1) hh s.heap.objs.size l (C1 hal) items
 have up:∀ b o,s.heap.get? b=some o→((s.heap.push { cls:=.type "list_iterator",data:=.fields #[.ref l,.int 0 0] }).push { cls:=.type "list",data:=.seq #[] }).get? b=some o:=fun b o e=> Cq _ (Cq _ e)
 have sI:(s.heap.push { cls:=.type "list_iterator",data:=.fields #[.ref l,.int 0 0] }).objs.size=s.heap.objs.size+1:=Er ..
 have lt:∀ b o,s.heap.get? b=some o→b ∉ [s.heap.objs.size]∧b≠(s.heap.push { cls:=.type "list_iterator",data:=.fields #[.ref l,.int 0 0] }).objs.size:=fun b o e=> by
  have h:=Cw e
  refine ⟨fun z=> ?_,fun z=> ?_⟩
  ·rw [CT.mp z] at h; exact Dh _ h
  ·rw [z,sI] at h; exact Dh _ (Nat.lt_of_succ_lt h)
 refine wpAny_pure ⟨plainId_quiet D5 _,pV (G:=fun h=> G h∧∀ b o,s.heap.get? b=some o→h.get? b=some o) W (fun i j vi vj s' Q' E' g'=> hc i j vi vj s' Q' E' g'.1) (fun h h' g' kp=> ?_) ?_ hn ⟨stay _ _ g (fun _ _ e=> e) up,up⟩ ⟨⟨_,Cq _ (CG _ rfl),rfl,rfl⟩,(hl.push _).push _⟩ (CG _ rfl) fun v h' tk pv kp=> ?_⟩
 ·have k2:∀ b o,s.heap.get? b=some o→h'.get? b=some o:=fun b o e=> kp b o (lt b o e).1 (lt b o e).2 (g'.2 b o e)
  exact ⟨stay _ _ g'.1 g'.2 k2,k2⟩
 ·intro z
  have z':(s.heap.push { cls:=.type "list_iterator",data:=.fields #[.ref l,.int 0 0] }).objs.size∈[s.heap.objs.size,l]:=z
  rw [sI] at z'
  rcases Cu.mp z' with z | z
  ·exact absurd z (Nat.succ_ne_self _)
  ·have e:=CT.mp z
   rw [← e] at hal; exact absurd hal (Nat.not_lt_of_gt (Ej _))
 ·exact hQ v h' tk pv fun b o e=> kp b o (lt b o e).1 (lt b o e).2 (up b o e)
end
end ST
namespace ST
open PySem PyProof.Rows
section
variable {prog:Program} {w:World} {A:Around} {E:Value→Shared→Prop} {s:Shared}
theorem qK {x y:Int} {t u:Tok} {Q:Value→Shared→Prop} (h:Q (.bool (decide (y < x))) s):wpAny (model prog w) A (richCompare .Gt (.int x t) (.int y u)) Q E s:=
 richCompare_gives (op:=.Gt) (typeIs_int s _ t) (typeIs_int s _ u) PySem.F.slot_int_gt PySem.F.entry_int_gt (PySem.F.args_int_gt_2 _ _) (gives_int_gt _ _ t u) (fun x=> nomatch x) h
theorem uT {x y:Addr} {a b:Int×Int} {P:Fin→Shared→Prop} (hx:TK prog w s.heap [a.1,a.2] x) (hy:TK prog w s.heap [b.1,b.2] y) (h:P (.done (.ret (.bool (ltP b a)))) s):
  wpAny (model prog w) A (Builtin.«tuple.__gt__» ⟨[.ref x,.ref y],[]⟩) P E s:=by
 have hTb:=hy.typeIs
 obtain ⟨o,its,n,t,u,ho,_,hd,hi⟩:=hx.two
 obtain ⟨o',its',n',t',u',ho',_,hd',hi'⟩:=hy.two
 show wpAny _ _ (isInstance (.ref y) (.type "tuple") >>=_) _ _ s
 refine wpAny_bind (wpAny_isInstance hTb isSubtype_tuple_tuple ?_)
 simp only [EZ,CN,if_false]
 refine wpAny_bind (wpAny_tupleItemsOf ho hd ?_)
 refine wpAny_bind (wpAny_tupleItemsOf ho' hd' ?_)
 have sz:its.size=its'.size:=by rw [← CV,← CV,hi,hi']; rfl
 rw [hi,hi']
 refine wpAny_bind ?_
 simp only [D3,List.zip_nil_left,Gh,Hy]
 refine wpAny_bind (wpAny_bind ((intKind prog w).eqBool (a:=a.1) (b:=b.1) (intKind_is _ _ _ _) (intKind_is _ _ _ _) ?_))
 by_cases e1:a.1=b.1
 ·rw [decide_eq_true e1]
  simp only [EZ,CN,if_false]
  refine wpAny_pure ?_
  refine wpAny_bind (wpAny_bind ((intKind prog w).eqBool (a:=a.2) (b:=b.2) (intKind_is _ _ _ _) (intKind_is _ _ _ _) ?_))
  by_cases e2:a.2=b.2
  ·rw [decide_eq_true e2]
   simp only [EZ,CN,if_false]
   refine wpAny_pure (wpAny_pure ?_)
   have z:ltP b a=false:=by unfold ltP; simp; omega
   rw [z] at h
   refine wpAny_pure ?_
   show P (.done (.ret (.bool (decide (its.size > its'.size))))) s
   rw [sz,decide_eq_false (Dh _)]
   exact h
  ·rw [decide_eq_false e2]
   simp only [GF,if_true]
   have z:ltP b a=decide (b.2 < a.2):=by unfold ltP; rw [e1]; simp
   rw [z] at h
   exact wpAny_bind (wpAny_rule (wpAny_bind (qK (wpAny_bind (wpAny_pure (wpAny_pure (wpAny_pure (wpAny_pure h))))))))
 ·rw [decide_eq_false e1]
  simp only [GF,if_true]
  have z:ltP b a=decide (b.1 < a.1):=by unfold ltP; simp [Ne.symm e1]
  rw [z] at h
  exact wpAny_bind (wpAny_rule (wpAny_bind (qK (wpAny_bind (wpAny_pure (wpAny_pure (wpAny_pure (wpAny_pure h))))))))
theorem gt_ptsR {x y:Addr} {a b:Int×Int} {Q:Value→Shared→Prop} (hu:A.units < cLine) (hx:TK prog w s.heap [a.1,a.2] x) (hy:TK prog w s.heap [b.1,b.2] y) (h:Q (.bool (ltP b a)) s):
  wpAny (model prog w) A (compareOp .Gt (.ref x) (.ref y)) Q E s:=
 wpAny_richCompare_same_room (op:=.Gt) hx.typeIs hy.typeIs Hm
  (wpAny_call_entry Hm hx.typeIs PySem.F.entry_tuple_gt (uT hx hy ⟨_,rfl,(fun e=> nomatch e),h⟩) (PySem.F.args_tuple_gt_2 _ _)) hu
end
theorem yk {a b:Int×Int}:ltP a b=true↔(a.1 < b.1∨(a.1=b.1∧a.2 < b.2)):=by unfold ltP; exact decide_eq_true_iff
theorem ltP_no {a b:Int×Int}:ltP a b=false↔¬ (a.1 < b.1∨(a.1=b.1∧a.2 < b.2)):=by unfold ltP; exact decide_eq_false_iff_not
theorem ltP_one {a b:Int×Int} (h1:ltP a b=false) (h2:ltP b a=false):a=b:=by
 rw [ltP_no] at h1 h2
 obtain ⟨a1,a2⟩:=a
 obtain ⟨b1,b2⟩:=b
 simp only [Jd] at *
 omega
theorem best_max (f:Nat→Int×Int):∀ k,argBest (fun i j=> ltP (f j) (f i)) k≤k∧∀ j,j≤k→ltP (f (argBest (fun i j=> ltP (f j) (f i)) k)) (f j)=false
 | 0=> ⟨Cv _,fun j hj=> by
  obtain rfl:j=0:=by omega
  rw [ltP_no]; simp [argBest]⟩
 | k+1=> by
  obtain ⟨h1,h2⟩:=best_max f k
  by_cases hb:ltP (f (argBest (fun i j=> ltP (f j) (f i)) k)) (f (k+1))=true
  ·rw [argBest,if_pos hb]
   refine ⟨Cv _,fun j hj=> ?_⟩
   rw [yk] at hb
   rcases EO j (k+1) with z | z
   ·have:=ltP_no.mp (h2 j (by omega))
    rw [ltP_no]; omega
   ·obtain rfl:j=k+1:=by omega
    rw [ltP_no]; omega
  ·rw [argBest,if_neg hb]
   refine ⟨by omega,fun j hj=> ?_⟩
   rcases EO j (k+1) with z | z
   ·exact h2 j (by omega)
   ·obtain rfl:j=k+1:=by omega
    simpa using hb
end ST
namespace L2
open PySem PySem.Spec PyProof.Rows
section
variable {X:Cx} {pts:List P2} {M:P2}
theorem zH {pins:List (Addr×Obj)} {σ:List (Option V)} {H:Hp} {s:Shared} (I:Inv X pins σ H s) {ws:List V} {its:List Value} (rv:aY ws its) (rs:Rps X.K H ws (pts.map pu)) (i:Nat) (y:Value) (hy:its.toArray[i]?=some y):
  i < pts.length∧∃ c,y=.ref c∧ws[i]?=some (.ref c)∧∀ prog w,ST.TK prog w s.heap [(pts.getD i (0,0)).1,(pts.getD i (0,0)).2] c:=by
 have hy':its[i]?=some y:=by simpa using hy
 have hll:ws.length=pts.length:=by rw [rs.len,Co]
 have hi:i < its.length:=aL hy'
 have hw:i < ws.length:=by rw [rv.length]; exact hi
 have hq:i < pts.length:=by omega
 obtain ⟨u,e1,e2⟩:=rv.get (Cm hw)
 rw [hy'] at e1
 cases e1
 have r:=rs.at_ i _ (pu (pts.getD i (0,0))) (Cm hw) (by rw [Ct,Cm hq]; simp [hq])
 obtain ⟨c,rfl,t⟩:=Aj I r e2
 refine ⟨hq,c,rfl,?_,t⟩
 rw [Cm hw]
 generalize ws[i]=z at *
 cases r
 cases e2
 rfl
theorem BD {g:Nat} (hg:g < pts.length):(pts.map pu)[g]?=some (pu (pts.getD g (0,0))):=by
 rw [Ct,Cm hg]; simp [hg]
theorem z8 (hc:X.calm=true) (hu:X.A.units+10 < cLine) (hM:M∈pts) (hL:∀ q∈pts,ST.ltP M q=false):e8 X (.builtin "max") [lp pts] (pu M):=by
 intro pins s σ H vs us Q I r hq
 obtain ⟨O,d,rs,q⟩:=hq
 obtain ⟨v,rfl,h1⟩:=cZ rs
 obtain ⟨p1,rfl,r1⟩:=fe r
 cases h1 with
 | @lst a ws _ hq hl hh=>
  cases r1
  obtain ⟨its,rv,pl,_⟩:=I.list (SqL.of (aG _ _ hq))
  have rs':Rps X.K (hid H O) ws (pts.map pu):=⟨hl,hh⟩
  have hlen:its.toArray.size=pts.length:=by rw [CH,← rv.length,hl,Co]
  have hat:=zH (pts:=pts) I rv (rs'.same aG)
  have hn:0 < pts.length:=D4 hM
  refine ST.call_maxG (G:=fun h=> ∀ (i:Nat) (y:Value),its.toArray[i]?=some y→∃ c,y=.ref c∧ST.TK X.prog X.w h [(pts.getD i (0,0)).1,(pts.getD i (0,0)).2] c) (bt:=fun i j=> ST.ltP (pts.getD j (0,0)) (pts.getD i (0,0))) (I.ok.hd hc) pl.isList (by rw [hlen]; exact hn) (fun i j vi vj s' Q' E' g hi hj k=> ?_) (fun i y hy=> ?_) (fun h h' _ _ k2 i y hy=> ?_) fun y h' tk hy kp=> ?_
  ·obtain ⟨c,rfl,t⟩:=g i vi hi
   obtain ⟨c',rfl,t'⟩:=g j vj hj
   exact ST.gt_ptsR (show X.A.units+1 < cLine by omega) t t' k
  ·obtain ⟨_,c,rfl,_,t⟩:=hat i y hy
   exact ⟨c,rfl,t _ _⟩
  ·obtain ⟨_,c,rfl,_,t⟩:=hat i y hy
   obtain ⟨o,items,n,ho,z⟩:=t X.prog X.w
   exact ⟨c,rfl,o,items,n,k2 c o ho,z⟩
  ·obtain ⟨hg,c,rfl,hw,t⟩:=hat _ y hy
   obtain ⟨b1,b2⟩:=ST.best_max (fun i=> pts.getD i (0,0)) (its.toArray.size - 1)
   have e:pts.getD (argBest (fun i j=> ST.ltP (pts.getD j (0,0)) (pts.getD i (0,0))) (its.toArray.size - 1)) (0,0)=M:=by
    rw [hlen] at b1 b2 hg ⊢
    generalize argBest (fun i j=> ST.ltP (pts.getD j (0,0)) (pts.getD i (0,0))) (pts.length - 1)=g at *
    obtain ⟨j,hj⟩:=Ds.mp hM
    have k1:=b2 j (by have:=aL hj; omega)
    rw [show pts.getD j (0,0)=M by rw [CB,hj]; rfl] at k1
    exact ST.ltP_one k1 (hL _ (by simp [hg]))
   refine ⟨.ref c,H,I.kept (t':=tk) kp,rfl,q _ H (.refl H) ?_⟩
   have z:=rs'.at_ _ _ _ hw (BD hg)
   rw [e] at z
   exact z
end
end L2
namespace L2
open PySem PySem.Spec PyProof.Rows
section
variable {X:Cx} {H0:Hp} {O0:List Addr} {ps:PSt} {xs:List U} {x:Str} {pos pc p':Pos}
end
end L2
namespace L2
open PySem PySem.Spec PyProof.Rows
section
variable {X:Cx} {H0:Hp} {O0:List Addr} {ps:PSt} {x:Str} {pos:Pos} {a b:Expr} {i j:Int}
end
end L2
namespace L2
open PySem PySem.Spec PyProof.Rows
section
variable {X:Cx} {H0:Hp} {O0:List Addr} {ps:PSt} {e tg:Expr} {p pos:Pos} {xs:List U} {x:U}
end
end L2
namespace L2
open PySem PySem.Spec PyProof.Rows
section
variable {X:Cx} {H0:Hp} {O0:List Addr} {ps:PSt} {a b:Expr} {pos:Pos} {xs:List U} {u:U} {k:Int}
end
end L2
namespace L2
open PySem PySem.Spec PySem.W PyProof.Rows
section
variable {X:Cx}
end
end L2
namespace L2
open PySem PySem.Spec PyProof.Rows
section
variable {X:Cx} {H0:Hp} {O0:List Addr} {E:XK} {ps ps':PSt} {D:PD} {s:Stmt} {ss body:List Stmt} {a b c e:Expr} {es:List Expr} {pos p:Pos} {u x y:U} {xs ys us:List U} {k:Bool}
 {CX:CXT} {n:Nat} {f C:Addr} {fd:FuncData} {pn:List Str} {spec:List U→Out→Prop} {nm:Str}
end
end L2
namespace L2
open PySem PySem.Spec PyProof.Rows
theorem Rs.free {K:Cn} {H0 H:Hp} {O0 O:List Addr} {ps:PSt} {σ:St} {xs:List U} (n:Nat) (h:ps[n]?=some (some (.own xs))) (R:Rs K H0 O0 ps σ H O):∃ O',(∀ b∈O',b∈O)∧Rs K H0 O0 (ps.set n (some (.val (.lst xs)))) σ H O':=by
 obtain ⟨v,hv,a,vs,rfl,ha,ha0,hH,rs⟩:=R.at_ n _ h
 have less:∀ b∈O.filter (fun b=> decide (b≠a)),b∈O:=fun b hb=> (CY.mp hb).1
 have keep:∀ b∈O,b≠a→b∈O.filter (fun b=> decide (b≠a)):=fun b hb ne=> CY.mpr ⟨hb,by simpa using ne⟩
 have sm:aQ (hid H O) (hid H (O.filter (fun b=> decide (b≠a)))):=eo less
 have na:a ∉ O.filter (fun b=> decide (b≠a)):=fun z=> by have:=(CY.mp z).2; simp at this
 refine ⟨O.filter (fun b=> decide (b≠a)),less,R.same,fun b hb=> keep b (R.old b hb) fun e=> ha0 (e ▸ hb),fun b hb=> R.new b (less b hb),fun b hb=> R.dom b (less b hb),by rw [R.len,Fy],fun i s hs=> ?_,fun i j ys zs b h1 h2 h3 h4=> ?_⟩
 ·rcases dO hs with ⟨rfl,e⟩ | ⟨ne,hs⟩
  ·cases e
   exact ⟨.ref a,hv,.lst (dN hH na) (rs.same sm).len (rs.same sm).at_⟩
  ·obtain ⟨w,hw,ok⟩:=R.at_ i s hs
   refine ⟨w,hw,?_⟩
   cases s with
   | val u=> exact Rp.same sm ok
   | own ys=>
    obtain ⟨b,ws,rfl,hb,hb0,hHb,rsb⟩:=ok
    refine ⟨b,ws,rfl,keep b hb fun e=> ?_,hb0,hHb,rsb.same sm⟩
    subst e
    exact ne (R.inj n i _ _ b h hs hv hw)
 ·rcases dO h1 with ⟨_,e⟩ | ⟨_,h1⟩
  ·cases e
  ·rcases dO h2 with ⟨_,e⟩ | ⟨_,h2⟩
   ·cases e
   ·exact R.inj i j _ _ b h1 h2 h3 h4
section
variable {X:Cx} {H0:Hp} {O0:List Addr} {E:XK} {ps:PSt} {D:PD} {ss:List Stmt} {e:Expr} {xs:List U} {b:Bool}
theorem wq (n:Nat) (h:ps[n]?=some (some (.own xs))) (w:Ws X H0 O0 E ss D (ps.set n (some (.val (.lst xs))))):Ws X H0 O0 E ss D ps:=
 PSs.mono w fun D' σ H ⟨L,O,R⟩=> by
  obtain ⟨O',_,R'⟩:=R.free n h
  exact ⟨L,O',R'⟩
end
end L2
namespace L2
open PySem PySem.Spec PyProof.Rows
section
variable {X:Cx} {ns:List Int} {M:Int}
theorem m9 (hc:X.calm=true) (hM:M∈ns∧∀ a∈ns,a≤M):e8 X (.builtin "max") [.lst (ns.map U.int)] (.int M):=by
 intro pins s σ H vs us Q I r hq
 obtain ⟨O,d,rs,q⟩:=hq
 obtain ⟨v,rfl,h1⟩:=cZ rs
 obtain ⟨p1,rfl,r1⟩:=fe r
 cases h1 with
 | @lst a ws _ hq hl hh=>
  cases r1
  obtain ⟨its,rv,pl,_⟩:=I.list (SqL.of (aG _ _ hq))
  have hlen:its.length=ns.length:=by rw [← rv.length,hl,Co]
  have hat:=jZ (ns:=ns) rv ⟨hl,hh⟩
  have hn:0 < ns.length:=D4 hM.1
  refine call_max_walk (wpAny_pyIter_list pl.isList ?_)
  have hal:a < s.heap.objs.size:=by obtain ⟨o,e,_⟩:=pl.isList; exact Cw e
  refine ⟨s.heap.objs.size,_,_,_,_,_,_,rfl,Walks.list (A:=X.A.in1) (I.ok.hd hc) s.heap.objs.size a (C1 hal) its.toArray,⟨⟨_,CG _ rfl,rfl,rfl⟩,pl.isList.push _⟩,fun b hb=> ?_,by rw [CH,hlen]; exact hn,CmpOf.ints_gt (fun i=> ns.getD i 0) hat,fun v h' tk hP hk=> ?_⟩
  ·show b < (s.heap.push _).objs.size
   rw [Er]
   rcases Cu.mp hb with z | z
   ·rw [z]; exact Ej _
   ·rw [CT.mp z]; exact Eo hal
  ·obtain ⟨t,rfl⟩:=hat _ _ hP
   obtain ⟨b1,b2⟩:=argBest_gt (fun i=> ns.getD i 0) (its.toArray.size - 1)
   have e:ns.getD (argBest (fun i j=> decide (ns.getD i 0 > ns.getD j 0)) (its.toArray.size - 1)) 0=M:=by
    rw [CH,hlen] at b1 b2 ⊢
    generalize argBest (fun i j=> decide (ns.getD i 0 > ns.getD j 0)) (ns.length - 1)=g at *
    have hg:g < ns.length:=by omega
    obtain ⟨j,hj,ej⟩:=Gi hM.1
    have k1:=b2 j (by omega)
    have k2:=hM.2 ns[g] (Fq hg)
    simp only [CB,Cm hg,Cm hj,EL] at k1 ⊢
    omega
   rw [e]
   refine ⟨.int M,H,I.kept (t':=tk) fun b o e=> hk b o ?_ (Cq _ e),⟨t,rfl⟩,q _ H (.refl H) (.int _)⟩
   intro z
   have:b=s.heap.objs.size:=by simpa using z
   exact absurd (Cw e) (by rw [this]; exact Dh _)
end
end L2
namespace L2
open PySem PySem.Spec PyProof.Rows
section
variable {X:Cx} {H0:Hp} {O0:List Addr} {E:XK} {ps:PSt} {D:PD} {e:Expr} {pos:Pos} {xs ys:List U}
end
end L2
namespace L2
open PySem PySem.Spec PySem.W PyProof.Rows
section
variable {X:Cx}
end
section
variable {X:Cx} {H0:Hp} {O0:List Addr} {E:XK} {ps:PSt} {D:PD} {a e:Expr} {es:List Expr} {us:List U} {k:Bool} {n:Nat} {fd:FuncData} {pn:List Str} {spec:List U→Out→Prop}
end
end L2
namespace L2
open PySem PySem.Spec PyProof.Rows
section
variable {X:Cx} {H0:Hp} {O0:List Addr} {ps:PSt} {a b:Expr} {p:P2} {l:List P2}
end
end L2
namespace ST
open PySem PySem.W PySem.Calls PyProof.Rows
section
variable {prog:Program} {w:World} {A:Around} {E:Value→Shared→Prop} {s:Shared}
end
end ST
namespace L2
open PySem PySem.Spec PyProof.Rows
section
variable {X:Cx} {H0:Hp} {O0:List Addr} {ps:PSt} {e:Expr} {p pos:Pos} {a b:P2}
end
end L2
namespace ST
open PySem PySem.W PySem.Calls PyProof.Rows
section
variable {prog:Program} {w:World} {A:Around} {E:Value→Shared→Prop} {s:Shared}
end
end ST
namespace L2
open PySem PySem.Spec PyProof.Rows
section
variable {X:Cx} {H0:Hp} {O0:List Addr} {ps:PSt} {e:Expr} {pts:List P2} {pos p:Pos}
end
end L2
namespace L2
open PySem PySem.Spec PySem.W PyProof.Rows
section
variable {X:Cx}
end
section
variable {X:Cx} {H0:Hp} {O0:List Addr} {E:XK} {ps:PSt} {D:PD} {a e:Expr} {es:List Expr} {us:List U} {k:Bool} {n:Nat} {fd:FuncData} {pn:List Str} {spec:List U→Out→Prop}
end
end L2
namespace L2
open PySem PySem.Spec PySem.W PyProof.Rows
structure v8 (K:Cn) (x qual:Str) (st:Stmt) (f:Addr) (fd:FuncData) (D:Addr):Prop where
 ex:∃ (oc:Value) (od:Option Addr) (kV doc pm:Value) (an:Option Addr) (cdv ct:Value) (osl:Array (Option Value)),
  fd=CJ x qual (au st) (aq st) (ai st) (.ref D) kV doc pm an cdv ct∧K.lookup f=some ⟨oc,od,.func fd,osl⟩∧CD K cdv qual=true
 kp:CA K (.ref f)=true
theorem xP {K:Cn} {x qual:Str} {st:Stmt} {f D:Addr} {oc:Value} {od an:Option Addr} {osl:Array (Option Value)} {kV doc pm cdv ct:Value} (l:K.lookup f=some ⟨oc,od,.func (CJ x qual (au st) (aq st) (ai st) (.ref D) kV doc pm an cdv ct),osl⟩)
  (c:CD K cdv qual=true) (k:CA K (.ref f)=true):v8 K x qual st f (CJ x qual (au st) (aq st) (ai st) (.ref D) kV doc pm an cdv ct) D:=⟨⟨oc,od,kV,doc,pm,an,cdv,ct,osl,rfl,l,c⟩,k⟩
section
variable {P:Program} {w:World} {K:Cn} {mg:Str→Option Value} {base:Heap} {N pn:List Str} {qual nm:Str} {f D:Addr}
theorem v8.okF {x:Str} {st:Stmt} {fd:FuncData} {k:Nat} {sp:Sp} (F:v8 K x qual st f fd D) (S:aw N pn (ai st)) (len:∀ vs H Q E,sp vs H Q E→vs.length=pn.length)
  (hbody:∀ (cdv:Value) (A:Around) (outer:List Env) (s:Shared) (H:Hp) (vs:List V) (Q:VK) (E:XK),d_ k (A.deeper (envOfC qual (ai st) s.heap.objs.size f cdv))→sp vs H Q E→
   ∃ t,PSs (eF (CXF P w) P w K mg base N qual (ai st) f cdv A outer s H E) (aq st) t∧t { nx:=fun _ H'=> Q .non H',rt:=Q } (start N vs) H):bo P w K mg base (CXF P w) (k+1) f fd pn sp:=by
 obtain ⟨oc,od,kV,doc,pm,an,cdv,ct,osl,rfl,lk,hcd⟩:=F.ex
 exact zf lk hcd S len fun A outer s H vs Q E hr hsp=> hbody cdv A outer s H vs Q E hr hsp
theorem AQ {st:Stmt} {fd:FuncData} {k:Nat} {spec:List U→Out→Prop} (F:v8 K nm qual st f fd D) (S:aw N pn (ai st)) (len:∀ us o,spec us o→us.length=pn.length)
  (hbody:∀ (cdv:Value) (A:Around) (outer:List Env) (s:Shared) (H:Hp) (E:XK) (O:List Addr) (us:List U) (o:Out),d_ k (A.deeper (envOfC qual (ai st) s.heap.objs.size f cdv))→spec us o→
   Ws (eF (CXF P w) P w K mg base N qual (ai st) f cdv A outer s H E) H O E (aq st) ⟨fun _=> o=.val .non,fun o'=> o'=o,fun _=> False,fun _=> False⟩ (fK N us)):bo P w K mg base (CXF P w) (k+1) f fd pn (spU K spec):=by
 refine F.okF S (fun vs H Q E h=> ?_) fun cdv A outer s H vs Q E hr h=> ?_
 ·obtain ⟨us,O,o,_,r,hsp,_⟩:=h
  rw [r.len]; exact len us o hsp
 ·obtain ⟨us,O,o,d,r,hsp,q⟩:=h
  refine ⟨_,hbody cdv A outer s H E O us o hr hsp,⟨fun ps σ H' O' R e=> ?_,fun _ _ _ _ _ e=> e.elim,fun _ _ _ _ _ e=> e.elim,fun o' e=> by subst e; exact q⟩,O,?_⟩
  ·subst e; exact q .non H' R.same .non
  ·refine ⟨.refl H,fun a h=> h,fun a h=> .inl h,d,?_,fun i sl e=> ?_,fun i j xs ys a e1 e2 _ _=> ?_⟩
   ·unfold start fK
    rw [Dv,Dv,Co,Co,EM,EM,r.len]
   ·unfold fK at e
    by_cases hi:i < us.length
    ·rw [CP (by simpa using hi),Ct,Cm hi] at e
     cases e
     obtain ⟨v,h1,h2⟩:=r.get (Cm hi)
     refine ⟨v,?_,h2⟩
     unfold start
     rw [CP (by simpa [r.len] using hi),Ct,h1]; rfl
    ·rw [CQ (by simpa using hi),EA] at e
     split at e <;> cases e
   ·exfalso
    unfold fK at e1
    by_cases hi:i < us.length
    ·rw [CP (by simpa using hi),Ct,Cm hi] at e1
     cases e1
    ·rw [CQ (by simpa using hi),EA] at e1
     split at e1 <;> cases e1
end
section
variable {X:Cx} {H0:Hp} {O0:List Addr} {ps:PSt} {e:Expr} {es:List Expr} {pos p:Pos} {u:U} {us:List U} {xs:List U} {CX:CXT} {n:Nat} {f:Addr} {fd:FuncData} {pn:List Str} {spec:List U→Out→Prop} {nm:Str} {j:Int}
theorem xW (F:bo X.prog X.w X.K X.mg X.base CX n f fd pn (spU X.K spec)) (hr:d_ n X.A) (hg:Gl X nm) (hm:X.mg nm=some (.ref f)) (hk:CA X.K (.ref f)=true) (hb:∃ t,aP X.K fd pn [.int j t]) (hx:fM CX X E0)
  (ha:EvA X H0 O0 ps (e::es) us) (h:spec (us++[.int j]) (.val u)) (hdb:(nm==("__debug__":Str))=false:=by decide) (he:starEach (e::es) X.env=(false,eval e X.env)::starEach es X.env:=by rfl) (hpl:(backTo pos (starEach es X.env)).any (·.1)=false:=by rfl):
  Ev X H0 O0 ps (.Call (.Name nm p) (e::es) [] pos) u:=by
 obtain ⟨t,hb⟩:=hb
 refine PE.mono (jf F hr hg hm hk hb (.cons (show bp (.int j) (.int j t) from ⟨t,rfl⟩) .nil) hx ha hdb he hpl) fun σ H Q ⟨O,R,q⟩=> ⟨O,R,fun vs H1 s1 r1=> ?_⟩
 show spU X.K spec (vs++[.int j]) H1 Q _
 exact ⟨us++[.int j],O,.val u,(R.go s1).dom,r1.snoc (.cons (.int _) .nil),h,fun v H2 s2 r2=> q v H2 (s1.trans s2) r2⟩
end
end L2
namespace L2
open PySem PySem.Spec PyProof.Rows
section
variable {X:Cx} {H0:Hp} {O0:List Addr} {ps:PSt} {a b:Expr} {k:Int} {ns:List Int}
theorem nY {K:Cn} {H:Hp}:∀ {ns:List Int} {ws:List V} {its:List Value},aY ws its→Rps K H ws (ns.map U.int)→IntsAre its ns
 | [],ws,its,rv,rs=> by
  have:=rs.nil_inv
  subst this
  cases rv
  exact .nil
 | n::ns,ws,its,rv,rs=> by
  obtain ⟨v,ws',rfl,h1,h2⟩:=rs.cons_inv
  cases rv with
  | cons r1 r2=>
   cases h1
   obtain ⟨t,rfl⟩:=r1
   exact .cons _ _ (nY r2 h2)
end
end L2
namespace L2
open PySem PySem.Spec PyProof.Rows
section
variable {X:Cx} {tg:Expr}
variable {H0:Hp} {O0:List Addr} {ps:PSt} {a b:Expr} {p pos:Pos}
end
section
variable {X:Cx} {H0:Hp} {O0:List Addr} {E:XK} {ps ps':PSt} {D:PD} {tg iter cond:Expr} {pos p:Pos} {xs:List U}
theorem pU {elt:Expr} {scope:Scope} {cl:List (Str×Addr)} {spos py:Pos} {y:Str} {j:Nat} {is:List Nat} {g:TG} {f:PSt→U→PSt} {dom:U→Prop} (fs:List (Option U)) (own:Bool) (hc:X.calm=true) (hN:X.N.Nodup) (hj:X.N[j]?=some y) (hy:Loc X.env.scope y) (B:dC X scope cl is)
  (hi:EvI X H0 O0 ps tg iter xs) (hg:∀ C s H fp,PG (aD X scope cl C s H fp) tg g) (gk:GOk g X.K is f dom) (hlen:fs.length=xs.length) (hz:xs.length≤sizeLine) (hdom:∀ x∈xs,dom x)
  (ht:∀ C s H fp (i:Nat) (x:U) (o:Option U),xs[i]?=some x→fs[i]?=some o→Tt (aD X scope cl C s H fp) H0 O0 (f (eX is ps) x) cond o.isSome)
  (he:∀ C s H fp (i:Nat) (x y:U),xs[i]?=some x→fs[i]?=some (some y)→Ev (aD X scope cl C s H fp) H0 O0 (f (eX is ps) x) elt y) (h:D.nx (ps.set j (some (if own then .own (fs.filterMap id) else .val (.lst (fs.filterMap id))))))
  (hs:∀ x,foldedSetIterable iter X.env x=pure x:=by intro _; rfl)
  (hsw:swapsWith (.ListComp elt [⟨tg,iter,[cond],0⟩] scope pos) (some (.Name y py)) spos.line X.env=pure true:=by rfl) (hf:X.fn y=true∨X.env.scope.names.lookup y=some .local:=by first | exact .inl rfl | exact .inr rfl | assumption):
  W1 X H0 O0 E (.Assign [.Name y py] (.ListComp elt [⟨tg,iter,[cond],0⟩] scope pos) spos) D ps:=by
 have hte:∀ C s H fp,PE (aD X scope cl C s H fp) elt fun σ H Q=> ∃ i x y,xs[i]?=some x∧fs[i]?=some (some y)∧∃ O',Rs X.K H0 O0 (f (eX is ps) x) σ H O'∧∀ v H',aQ H H'→Rp X.K (hid H' O') v y→Q v H':=
  fun C s H fp pins s' σ H' Q I ⟨i,x,y,h1,h2,z⟩=> he C s H fp i x y h1 h2 pins s' σ H' Q I z
 have htt:∀ C s H fp,PT (aD X scope cl C s H fp) cond fun σ H Q=> ∃ (i:Nat) (x:U) (o:Option U),xs[i]?=some x∧fs[i]?=some o∧∃ O',Rs X.K H0 O0 (f (eX is ps) x) σ H O'∧∀ H',aQ H H'→Q o.isSome H':=
  fun C s H fp pins s' σ H' Q I ⟨i,x,o,h1,h2,z⟩=> ht C s H fp i x o h1 h2 pins s' σ H' Q I z
 refine PS.mono (oF hc hN hj hy B hi hg htt hte hs hsw hf) fun D' σ H ⟨L,O,R⟩=> ⟨O,R,fun J H1 s1 Y=> ?_⟩
 refine pR gk (R.go s1) Y hlen hz hdom (fun i x o σ H O' Q h1 h2 R' z=> ⟨i,x,o,h1,h2,O',R',z⟩) (fun i x y σ H O' Q h1 h2 R' z=> ⟨i,x,y,h1,h2,O',R',z⟩) fun a vs H' s n h' r=> ?_
 cases own with
 | true=> exact L.nx _ _ _ _ ((R.go s1).own s n h' r) h
 | false=>
  have na:a ∉ O:=fun z=> (R.go s1).dom a z n
  have r':=r.same (eo fun b hb=> Cp a hb)
  exact L.nx _ _ _ _ (((R.go s1).go s).set (.lst (dN h' na) r'.len r'.at_)) h
end
end L2
namespace L2
open PySem PySem.Spec PyProof.Rows
def pO (x:Int):List Int→List Int
 | []=> [x]
 | y::r=> if x≤y then x::y::r else y::pO x r
def jc (ns:List Int):List Int:=ns.foldr pO []
theorem iJ (x:Int):∀ l,GP (pO x l) (x::l)
 | []=> .refl _
 | y::r=> by
  unfold pO
  split
  ·exact .refl _
  ·exact ((iJ x r).cons y).trans (List.Perm.swap x y r)
theorem gA:∀ l,GP (jc l) l
 | []=> .refl _
 | y::r=> (iJ y (jc r)).trans ((gA r).cons y)
theorem ny (x:Int):∀ l:List Int,l.Pairwise (·≤·)→(pO x l).Pairwise (·≤·)
 | [],_=> by simp [pO]
 | y::r,h=> by
  obtain ⟨h1,h2⟩:=CL.mp h
  unfold pO
  split
  ·rename_i hxy
   refine CL.mpr ⟨fun z hz=> ?_,h⟩
   rcases Cu.mp hz with e | e
   ·rw [e]; exact hxy
   ·exact HW hxy (h1 z e)
  ·rename_i hxy
   refine CL.mpr ⟨fun z hz=> ?_,ny x r h2⟩
   rcases Cu.mp ((iJ x r).mem_iff.mp hz) with e | e
   ·rw [e]; omega
   ·exact h1 z e
theorem jU:∀ l,(jc l).Pairwise (·≤·)
 | []=> Fl
 | y::r=> ny y _ (jU r)
theorem kZ:∀ {l m:List Int},GP l m→l.Pairwise (·≤·)→m.Pairwise (·≤·)→l=m
 | [],m,p,_,_=> p.nil_eq
 | x::l,[],p,_,_=> by have:=p.length_eq; simp at this
 | x::l,y::m,p,h1,h2=> by
  obtain ⟨a1,a2⟩:=CL.mp h1
  obtain ⟨b1,b2⟩:=CL.mp h2
  have e:x=y:=by
   have k1:x≤y:=by
    rcases Cu.mp (p.mem_iff.mpr (Cy (a:=y))) with e | e
    ·omega
    ·exact a1 y e
   have k2:y≤x:=by
    rcases Cu.mp (p.mem_iff.mp (Cy (a:=x))) with e | e
    ·omega
    ·exact b1 x e
   omega
  subst e
  rw [kZ (List.Perm.cons_inv p) a2 b2]
section
variable {X:Cx} {H0:Hp} {O0:List Addr} {ps:PSt} {e:Expr} {ns:List Int} {pos p:Pos}
theorem jL:∀ {its:List Value} {ns:List Int},IntsAre its ns→aY (ns.map V.int) its
 | _,_,.nil=> .nil
 | _,_,.cons _ _ h=> .cons ⟨_,rfl⟩ (jL h)
set_option maxHeartbeats 1000000 in
theorem xN (hg:Gl X "sorted") (hm:X.mg "sorted"=none) (ha:Ev X H0 O0 ps e (.lst (ns.map U.int))) (hl:ns.length < 64)
  (he:starEach [e] X.env=(false,eval e X.env)::starEach [] X.env:=by rfl):EvN X H0 O0 ps (.Call (.Name "sorted" p) [e] [] pos) ((jc ns).map U.int):=by
 rintro pins s σ H Q I ⟨O,R,q⟩
 refine wpAny_Call_Name_kw (dQ I hg hm boot_sorted ?_)
 refine callWith_builtin1 (e:=e) (rest:=[]) (thn (eL ha g6 he pos pins s σ H (fun vs H1=> ∃ v,vs=[v]∧aQ H H1∧Rp X.K (hid H1 O) v (.lst (ns.map U.int))) I ⟨O,R,fun v H1 s1 r1=> ⟨v,rfl,s1,r1⟩⟩) fun us s1 hx=> ?_) he rfl
 obtain ⟨vs,H1,I1,rv,v,rfl,sm,rp⟩:=hx
 obtain ⟨u,rfl,ru⟩:=fe rv
 cases rp with
 | @lst a ws _ hq hwl hwi=>
  cases ru
  obtain ⟨its,rw',pl,hz⟩:=I1.list (SqL.of (aG _ _ hq))
  have hlw:ws.length=ns.length:=by rw [hwl,Co]
  have hil:its.length=ns.length:=by rw [← rw'.length,hlw]
  refine sorted_ints pl.isList (nY rw' ⟨hwl,hwi⟩) (by omega) fun out ns' a1 a2 a3=> ?_
  obtain ⟨ep,hD⟩:=sortedAll_at s1.heap its out
  have ens:ns'=jc ns:=kZ (a2.trans (gA ns).symm) a3 (jU ns)
  subst ens
  have fr:H1 (s1.heap.objs.size+1)=none:=I1.hok.fresh (Il _)
  refine ⟨.ref (s1.heap.objs.size+1),upd H1 (s1.heap.objs.size+1) (.lst ((jc ns).map V.int)),?_,rfl,?_⟩
  ·refine I1.laid (t':=s1.toks) (fun _ _=> sortedAll_old) (Il _) ⟨?_,out.toList,ep,jL a1,?_⟩
   ·rw [Co,(gA ns).length_eq,sizeLine_eq]
    omega
   ·exact hD
  ·refine q _ _ _ (sm.trans (bu fr _)) (sm.free fr) bi ⟨?_,fun i z x e1 e2=> ?_⟩
   ·rw [Co,Co]
   ·rw [Ct] at e1 e2
    cases hi:(jc ns)[i]? with
    | none=> rw [hi] at e1; cases e1
    | some n=>
     rw [hi] at e1 e2
     cases e1
     cases e2
     exact .int _
theorem u9 {us:List U} (hg:Gl X "sorted") (hm:X.mg "sorted"=none) (ha:Ev X H0 O0 ps e (.lst (ns.map U.int))) (hl:ns.length < 64) (hu:(jc ns).map U.int=us)
  (he:starEach [e] X.env=(false,eval e X.env)::starEach [] X.env:=by rfl):EvN X H0 O0 ps (.Call (.Name "sorted" p) [e] [] pos) us:=by
 rw [← hu]
 exact xN hg hm ha hl he
end
end L2
local macro_rules | `(tactic| walk_at "sz")=> `(tactic| first | with_reducible assumption | ((with_reducible apply L2.Sz.sub') <;> walk_at "sz") | ((with_reducible apply L2.Sz.add') <;> walk_at "sz") | ((with_reducible apply L2.Sz.mul) <;> walk_at "sz") | ((with_reducible apply L2.Sz.neg) <;> walk_at "sz") | ((with_reducible apply L2.Sz.ediv) <;> walk_at "sz") | ((with_reducible apply L2.Sz.abs) <;> walk_at "sz") | exact L2.Sz.lit (m:=8) (by decide) | exact L2.Sz.emod (m:=250) (by decide) (by decide) | exact L2.Sz.lit (m:=250) (by decide))
local macro_rules | `(tactic| walk_at "mul")=> `(tactic| exact L2.Sz.ok (by walk_at "sz") (by walk_at "sz") (by decide))
local macro_rules | `(tactic| walk_at "div")=> `(tactic| first | exact ⟨by decide,L2.Sz.mono (m:=250) (by decide) (by decide)⟩ | exact ⟨by omega,L2.Sz.mono (by walk_at "sz") (by decide)⟩)
local macro_rules | `(tactic| walk_at "mod")=> `(tactic| first | decide | omega)
local macro_rules | `(tactic| walk_at "szb")=> `(tactic| exact L2.Sz.mono (by walk_at "sz") (by decide))
local macro_rules | `(tactic| walk_at "kit")=> `(tactic| first | exact L2.kit_int_int _ | exact L2.kit_int_bool _ | exact L2.kit_tuple_tuple _ | exact L2.kit_list_list _ | exact L2.kit_bool_int _ | exact L2.kit_list_tuple _ | rfl)
local macro_rules | `(tactic| walk_at "ok")=> `(tactic| first | rfl | decide)
local macro_rules | `(tactic| walk_at "sub")=> `(tactic| first | exact trivial | (refine ⟨rfl,?_⟩; walk_at "sub") | (with_reducible apply L2.SubP.skip; walk_at "sub"))
local macro_rules | `(tactic| walk_at "len")=> `(tactic| first | decide | (simp only [List.length_append,List.length_cons,List.length_nil,List.length_map]; decide))
namespace My
open PySem PySem.Spec PyProof.Rows L2
def top (i:Nat):Stmt:=PySem.Challenge.pw_stakefield_k34_whole_shares_come_to_all.main.body.getD i (.Pass ⟨0,0,0,0⟩)
abbrev dy:Stmt:=top 6
abbrev iN:Stmt:=top 7
abbrev ff:Stmt:=top 8
abbrev d0:Stmt:=top 9
abbrev iC:Stmt:=top 11
abbrev dw:Stmt:=top 12
abbrev cX:Stmt:=top 13
abbrev e7:Stmt:=top 14
abbrev gz:Stmt:=top 15
abbrev gj:Stmt:=top 16
abbrev iU:Stmt:=top 18
abbrev cC:Stmt:=top 19
abbrev gh:Stmt:=top 20
abbrev gC:Stmt:=top 21
abbrev bO:Stmt:=top 22
abbrev jX:Stmt:=top 23
abbrev bQ:Stmt:=top 24
abbrev g5:Stmt:=top 26
abbrev dr:Stmt:=top 28
abbrev cQ:Stmt:=top 29
abbrev cN:Stmt:=top 30
abbrev cR:Stmt:=top 32
abbrev bN:Stmt:=top 33
abbrev dA:Stmt:=top 34
abbrev gi:Stmt:=top 35
abbrev cV:Stmt:=top 37
abbrev cq:Stmt:=top 38
abbrev bU:Stmt:=top 39
abbrev cW:Stmt:=top 40
abbrev cT:Stmt:=top 41
abbrev bW:Stmt:=top 42
abbrev ce:Stmt:=top 43
abbrev dt:Stmt:=top 44
abbrev dz:Stmt:=top 45
abbrev aN:Stmt:=top 46
abbrev bR:Stmt:=top 47
abbrev cU:Stmt:=top 48
abbrev jQ:Stmt:=top 49
theorem oO:aw ["thing"] ["thing"] (ai dy):=⟨rfl,rfl,rfl,by decide+kernel,rfl,by decide+kernel,by decide+kernel⟩
theorem yF:aw ["number"] ["number"] (ai iN):=⟨rfl,rfl,rfl,by decide+kernel,rfl,by decide+kernel,by decide+kernel⟩
theorem bG:aw ["a","b","high","high_times","low","low_times","fits","rest","rest_times","s"] ["a","b"] (ai ff):=⟨rfl,rfl,rfl,by decide+kernel,rfl,by decide+kernel,by decide+kernel⟩
theorem bI:aw ["many","step","start","part","total","top","old_step"] ["many","step","start","part"] (ai d0):=⟨rfl,rfl,rfl,by decide+kernel,rfl,by decide+kernel,by decide+kernel⟩
theorem xm:aw ["move"] ["move"] (ai iC):=⟨rfl,rfl,rfl,by decide+kernel,rfl,by decide+kernel,by decide+kernel⟩
theorem jE:aw ["thing","number"] ["thing"] (ai dw):=⟨rfl,rfl,rfl,by decide+kernel,rfl,by decide+kernel,by decide+kernel⟩
theorem l_:aw ["thing"] ["thing"] (ai cX):=⟨rfl,rfl,rfl,by decide+kernel,rfl,by decide+kernel,by decide+kernel⟩
theorem sO:aw ["P","move"] ["P","move"] (ai e7):=⟨rfl,rfl,rfl,by decide+kernel,rfl,by decide+kernel,by decide+kernel⟩
theorem ot:aw ["P","move","place"] ["P","move"] (ai gz):=⟨rfl,rfl,rfl,by decide+kernel,rfl,by decide+kernel,by decide+kernel⟩
theorem u4:aw ["P","Q"] ["P","Q"] (ai gj):=⟨rfl,rfl,rfl,by decide+kernel,rfl,by decide+kernel,by decide+kernel⟩
theorem yu:aw ["P","Q","R"] ["P","Q","R"] (ai iU):=⟨rfl,rfl,rfl,by decide+kernel,rfl,by decide+kernel,by decide+kernel⟩
theorem eS:aw ["row","kept","P"] ["row"] (ai cC):=⟨rfl,rfl,rfl,by decide+kernel,rfl,by decide+kernel,by decide+kernel⟩
theorem fW:aw ["points","row","there","back"] ["points"] (ai gh):=⟨rfl,rfl,rfl,by decide+kernel,rfl,by decide+kernel,by decide+kernel⟩
theorem vM:aw ["land"] ["land"] (ai gC):=⟨rfl,rfl,rfl,by decide+kernel,rfl,by decide+kernel,by decide+kernel⟩
theorem d9:aw ["land","A","B"] ["land"] (ai bO):=⟨rfl,rfl,rfl,by decide+kernel,rfl,by decide+kernel,by decide+kernel⟩
theorem o_:aw ["land","A","B"] ["land"] (ai jX):=⟨rfl,rfl,rfl,by decide+kernel,rfl,by decide+kernel,by decide+kernel⟩
theorem fQ:aw ["land","move","P"] ["land","move"] (ai bQ):=⟨rfl,rfl,rfl,by decide+kernel,rfl,by decide+kernel,by decide+kernel⟩
theorem qD:aw ["land","k","P"] ["land","k"] (ai g5):=⟨rfl,rfl,rfl,by decide+kernel,rfl,by decide+kernel,by decide+kernel⟩
theorem nS:aw ["land","k"] ["land","k"] (ai dr):=⟨rfl,rfl,rfl,by decide+kernel,rfl,by decide+kernel,by decide+kernel⟩
theorem lW:aw ["land"] ["land"] (ai cQ):=⟨rfl,rfl,rfl,by decide+kernel,rfl,by decide+kernel,by decide+kernel⟩
theorem oE:aw ["land","k","many"] ["land","k"] (ai cN):=⟨rfl,rfl,rfl,by decide+kernel,rfl,by decide+kernel,by decide+kernel⟩
theorem cu:aw ["A","B","left","right","run","rise","first","many","rounded"] ["A","B","left","right"] (ai cR):=⟨rfl,rfl,rfl,by decide+kernel,rfl,by decide+kernel,by decide+kernel⟩
theorem dk:aw ["land","left","right","x","heights","P"] ["land","left","right"] (ai bN):=⟨rfl,rfl,rfl,by decide+kernel,rfl,by decide+kernel,by decide+kernel⟩
theorem fi:aw ["land","left","right","parts","A","B"] ["land","left","right"] (ai dA):=⟨rfl,rfl,rfl,by decide+kernel,rfl,by decide+kernel,by decide+kernel⟩
theorem hX:aw ["land","a","b","c","parts","g","upright"] ["land","a","b","c"] (ai gi):=⟨rfl,rfl,rfl,by decide+kernel,rfl,by decide+kernel,by decide+kernel⟩
theorem lQ:aw ["script","k"] ["script","k"] (ai cV):=⟨rfl,rfl,rfl,by decide+kernel,rfl,by decide+kernel,by decide+kernel⟩
theorem kF:aw ["cell"] ["cell"] (ai cq):=⟨rfl,rfl,rfl,by decide+kernel,rfl,by decide+kernel,by decide+kernel⟩
theorem cM:aw ["one","other"] ["one","other"] (ai bU):=⟨rfl,rfl,rfl,by decide+kernel,rfl,by decide+kernel,by decide+kernel⟩
theorem ma:aw ["a","b","p"] ["a","b","p"] (ai cW):=⟨rfl,rfl,rfl,by decide+kernel,rfl,by decide+kernel,by decide+kernel⟩
theorem ft:aw ["points","way","p"] ["points"] (ai cT):=⟨rfl,rfl,rfl,by decide+kernel,rfl,by decide+kernel,by decide+kernel⟩
theorem dR:aw ["points","some"] ["points"] (ai bW):=⟨rfl,rfl,rfl,by decide+kernel,rfl,by decide+kernel,by decide+kernel⟩
theorem bB:aw ["script","lean","points","k","x","y"] ["script"] (ai ce):=⟨rfl,rfl,rfl,by decide+kernel,rfl,by decide+kernel,by decide+kernel⟩
theorem bY:aw ["land","twice","edge","k","a","b"] ["land"] (ai dt):=⟨rfl,rfl,rfl,by decide+kernel,rfl,by decide+kernel,by decide+kernel⟩
theorem eG:aw ["script","way","a","b"] ["script"] (ai dz):=⟨rfl,rfl,rfl,by decide+kernel,rfl,by decide+kernel,by decide+kernel⟩
theorem av:aw ["land","c","lows","highs","k","a","b","top","x","y"] ["land","c"] (ai aN):=⟨rfl,rfl,rfl,by decide+kernel,rfl,by decide+kernel,by decide+kernel⟩
theorem aA:aw ["land","a","b","c","high","low","s","after","times","t","some","x","y"] ["land","a","b","c"] (ai bR):=⟨rfl,rfl,rfl,by decide+kernel,rfl,by decide+kernel,by decide+kernel⟩
theorem mY:aw ["found","due"] ["found","due"] (ai cU):=⟨rfl,rfl,rfl,by decide+kernel,rfl,by decide+kernel,by decide+kernel⟩
theorem dn:aw ["script","land","a","b","worths","x","y","cell","c","under","above","many"] ["script"] (ai jQ):=⟨rfl,rfl,rfl,by decide+kernel,rfl,by decide+kernel,by decide+kernel⟩
set_option genInjectivity false in
set_option genSizeOf false in
set_option genSizeOfSpec false in
structure Txt (K:Cn) (mg:Str→Option Value) where
 a_is_whole:Addr
 d_is_whole:FuncData
 F_is_whole:Fun K "is_whole" "is_whole" dy a_is_whole d_is_whole
 b_is_whole:aP K d_is_whole ["thing"] []
 m_is_whole:mg "is_whole"=some (.ref a_is_whole)
 a_sign:Addr
 d_sign:FuncData
 F_sign:Fun K "sign" "sign" iN a_sign d_sign
 b_sign:aP K d_sign ["number"] []
 m_sign:mg "sign"=some (.ref a_sign)
 a_shares:Addr
 d_shares:FuncData
 F_shares:Fun K "shares" "shares" ff a_shares d_shares
 b_shares:aP K d_shares ["a","b"] []
 m_shares:mg "shares"=some (.ref a_shares)
 a_row_sum:Addr
 d_row_sum:FuncData
 F_row_sum:Fun K "row_sum" "row_sum" d0 a_row_sum d_row_sum
 b_row_sum:aP K d_row_sum ["many","step","start","part"] []
 m_row_sum:mg "row_sum"=some (.ref a_row_sum)
 a_hand:Addr
 d_hand:FuncData
 F_hand:Fun K "hand" "hand" iC a_hand d_hand
 b_hand:aP K d_hand ["move"] []
 m_hand:mg "hand"=some (.ref a_hand)
 a_is_move:Addr
 d_is_move:FuncData
 F_is_move:Fun K "is_move" "is_move" dw a_is_move d_is_move
 b_is_move:aP K d_is_move ["thing"] []
 m_is_move:mg "is_move"=some (.ref a_is_move)
 a_need_move:Addr
 d_need_move:FuncData
 F_need_move:Fun K "need_move" "need_move" cX a_need_move d_need_move
 b_need_move:aP K d_need_move ["thing"] []
 m_need_move:mg "need_move"=some (.ref a_need_move)
 a_turned:Addr
 d_turned:FuncData
 F_turned:Fun K "turned" "turned" e7 a_turned d_turned
 b_turned:aP K d_turned ["P","move"] []
 m_turned:mg "turned"=some (.ref a_turned)
 a_moved:Addr
 d_moved:FuncData
 F_moved:Fun K "moved" "moved" gz a_moved d_moved
 b_moved:aP K d_moved ["P","move"] []
 m_moved:mg "moved"=some (.ref a_moved)
 a_steps:Addr
 d_steps:FuncData
 F_steps:Fun K "steps" "steps" gj a_steps d_steps
 b_steps:aP K d_steps ["P","Q"] []
 m_steps:mg "steps"=some (.ref a_steps)
 a_turn:Addr
 d_turn:FuncData
 F_turn:Fun K "turn" "turn" iU a_turn d_turn
 b_turn:aP K d_turn ["P","Q","R"] []
 m_turn:mg "turn"=some (.ref a_turn)
 a_left_bends:Addr
 d_left_bends:FuncData
 F_left_bends:Fun K "left_bends" "left_bends" cC a_left_bends d_left_bends
 b_left_bends:aP K d_left_bends ["row"] []
 m_left_bends:mg "left_bends"=some (.ref a_left_bends)
 a_field:Addr
 d_field:FuncData
 F_field:Fun K "field" "field" gh a_field d_field
 b_field:aP K d_field ["points"] []
 m_field:mg "field"=some (.ref a_field)
 a_sides:Addr
 d_sides:FuncData
 F_sides:Fun K "sides" "sides" gC a_sides d_sides
 b_sides:aP K d_sides ["land"] []
 m_sides:mg "sides"=some (.ref a_sides)
 a_double_area:Addr
 d_double_area:FuncData
 F_double_area:Fun K "double_area" "double_area" bO a_double_area d_double_area
 b_double_area:aP K d_double_area ["land"] []
 m_double_area:mg "double_area"=some (.ref a_double_area)
 a_rim:Addr
 d_rim:FuncData
 F_rim:Fun K "rim" "rim" jX a_rim d_rim
 b_rim:aP K d_rim ["land"] []
 m_rim:mg "rim"=some (.ref a_rim)
 a_field_moved:Addr
 d_field_moved:FuncData
 F_field_moved:Fun K "field_moved" "field_moved" bQ a_field_moved d_field_moved
 b_field_moved:aP K d_field_moved ["land","move"] []
 m_field_moved:mg "field_moved"=some (.ref a_field_moved)
 a_fold:Addr
 d_fold:FuncData
 F_fold:Fun K "fold" "fold" g5 a_fold d_fold
 b_fold:aP K d_fold ["land","k"] []
 m_fold:mg "fold"=some (.ref a_fold)
 a_multiple:Addr
 d_multiple:FuncData
 F_multiple:Fun K "multiple" "multiple" dr a_multiple d_multiple
 b_multiple:aP K d_multiple ["land","k"] []
 m_multiple:mg "multiple"=some (.ref a_multiple)
 a_points_in:Addr
 d_points_in:FuncData
 F_points_in:Fun K "points_in" "points_in" cQ a_points_in d_points_in
 b_points_in:aP K d_points_in ["land"] []
 m_points_in:mg "points_in"=some (.ref a_points_in)
 a_count:Addr
 d_count:FuncData
 D_count:Addr
 F_count:v8 K "count" "count" cN a_count d_count D_count
 b_count:aP K d_count ["land","k"] []
 bd_count:∃ t,aP K d_count ["land","k"] [.int 1 t]
 m_count:mg "count"=some (.ref a_count)
 a_side_part:Addr
 d_side_part:FuncData
 F_side_part:Fun K "side_part" "side_part" cR a_side_part d_side_part
 b_side_part:aP K d_side_part ["A","B","left","right"] []
 m_side_part:mg "side_part"=some (.ref a_side_part)
 a_last_column:Addr
 d_last_column:FuncData
 F_last_column:Fun K "last_column" "last_column" bN a_last_column d_last_column
 b_last_column:aP K d_last_column ["land","left","right"] []
 m_last_column:mg "last_column"=some (.ref a_last_column)
 a_columns:Addr
 d_columns:FuncData
 F_columns:Fun K "columns" "columns" dA a_columns d_columns
 b_columns:aP K d_columns ["land","left","right"] []
 m_columns:mg "columns"=some (.ref a_columns)
 a_share:Addr
 d_share:FuncData
 F_share:Fun K "share" "share" gi a_share d_share
 b_share:aP K d_share ["land","a","b","c"] []
 m_share:mg "share"=some (.ref a_share)
 a__law_cell:Addr
 d__law_cell:FuncData
 F__law_cell:Fun K "_law_cell" "_law_cell" cV a__law_cell d__law_cell
 b__law_cell:aP K d__law_cell ["script","k"] []
 m__law_cell:mg "_law_cell"=some (.ref a__law_cell)
 a__law_great:Addr
 d__law_great:FuncData
 F__law_great:Fun K "_law_great" "_law_great" cq a__law_great d__law_great
 b__law_great:aP K d__law_great ["cell"] []
 m__law_great:mg "_law_great"=some (.ref a__law_great)
 a__law_divisor:Addr
 d__law_divisor:FuncData
 F__law_divisor:Fun K "_law_divisor" "_law_divisor" bU a__law_divisor d__law_divisor
 b__law_divisor:aP K d__law_divisor ["one","other"] []
 m__law_divisor:mg "_law_divisor"=some (.ref a__law_divisor)
 a__law_side:Addr
 d__law_side:FuncData
 F__law_side:Fun K "_law_side" "_law_side" cW a__law_side d__law_side
 b__law_side:aP K d__law_side ["a","b","p"] []
 m__law_side:mg "_law_side"=some (.ref a__law_side)
 a__law_half:Addr
 d__law_half:FuncData
 F__law_half:Fun K "_law_half" "_law_half" cT a__law_half d__law_half
 b__law_half:aP K d__law_half ["points"] []
 m__law_half:mg "_law_half"=some (.ref a__law_half)
 a__law_corners:Addr
 d__law_corners:FuncData
 F__law_corners:Fun K "_law_corners" "_law_corners" bW a__law_corners d__law_corners
 b__law_corners:aP K d__law_corners ["points"] []
 m__law_corners:mg "_law_corners"=some (.ref a__law_corners)
 a__law_points:Addr
 d__law_points:FuncData
 F__law_points:Fun K "_law_points" "_law_points" ce a__law_points d__law_points
 b__law_points:aP K d__law_points ["script"] []
 m__law_points:mg "_law_points"=some (.ref a__law_points)
 a__law_all:Addr
 d__law_all:FuncData
 F__law_all:Fun K "_law_all" "_law_all" dt a__law_all d__law_all
 b__law_all:aP K d__law_all ["land"] []
 m__law_all:mg "_law_all"=some (.ref a__law_all)
 a__law_way:Addr
 d__law_way:FuncData
 F__law_way:Fun K "_law_way" "_law_way" dz a__law_way d__law_way
 b__law_way:aP K d__law_way ["script"] []
 m__law_way:mg "_law_way"=some (.ref a__law_way)
 a__law_in_column:Addr
 d__law_in_column:FuncData
 F__law_in_column:Fun K "_law_in_column" "_law_in_column" aN a__law_in_column d__law_in_column
 b__law_in_column:aP K d__law_in_column ["land","c"] []
 m__law_in_column:mg "_law_in_column"=some (.ref a__law_in_column)
 a__law_turned:Addr
 d__law_turned:FuncData
 F__law_turned:Fun K "_law_turned" "_law_turned" bR a__law_turned d__law_turned
 b__law_turned:aP K d__law_turned ["land","a","b","c"] []
 m__law_turned:mg "_law_turned"=some (.ref a__law_turned)
 a__law_good:Addr
 d__law_good:FuncData
 F__law_good:Fun K "_law_good" "_law_good" cU a__law_good d__law_good
 b__law_good:aP K d__law_good ["found","due"] []
 m__law_good:mg "_law_good"=some (.ref a__law_good)
 a_law:Addr
 d_law:FuncData
 F_law:Fun K "law" "law" jQ a_law d_law
 b_law:aP K d_law ["script"] []
 m_law:mg "law"=some (.ref a_law)
 c_NoField:Addr
 x_NoField:Gd K c_NoField [.type "ValueError",.type "Exception",.type "BaseException",.type "object"] "ValueError.__new__"=true
 mx_NoField:mg "NoField"=some (.ref c_NoField)
 c_NoMove:Addr
 x_NoMove:Gd K c_NoMove [.type "ValueError",.type "Exception",.type "BaseException",.type "object"] "ValueError.__new__"=true
 mx_NoMove:mg "NoMove"=some (.ref c_NoMove)
 z_abs:mg "abs"=none
 z_all:mg "all"=none
 z_bool:mg "bool"=none
 z_int:mg "int"=none
 z_isinstance:mg "isinstance"=none
 z_len:mg "len"=none
 z_list:mg "list"=none
 z_max:mg "max"=none
 z_min:mg "min"=none
 z_range:mg "range"=none
 z_reversed:mg "reversed"=none
 z_set:mg "set"=none
 z_sorted:mg "sorted"=none
 z_sum:mg "sum"=none
 z_tuple:mg "tuple"=none
 z_zip:mg "zip"=none
section
variable {P:Program} {w:World} {K:Cn} {mg:Str→Option Value} {base:Heap}
def sgn (n:Int):Int:=if 0 < n then 1 else if n < 0 then -1 else 0
def ca (b:Int):Int:=if b < 0 then -b else b
theorem dM (b:Int):ca b=(b.natAbs:Int):=by unfold ca; split <;> omega
theorem h7 {b:Int} (h:b≠0):0 < ca b:=by unfold ca; split <;> omega
theorem dJ (d b:Int):d ∣ ca b↔d ∣ b:=by
 unfold ca; split
 ·exact Gj
 ·exact Iff.rfl
theorem wJ (d b:Int):ca b ∣ d↔b ∣ d:=by
 unfold ca; split
 ·exact Im
 ·exact Iff.rfl
structure i3 (a b high ht low lt:Int):Prop where
 hp:0 < high
 lo0:0≤low
 lolt:low < high
 dv:∀ d,(d ∣ high∧d ∣ low)↔(d ∣ a∧d ∣ b)
 ch:b ∣ ht * a - high
 cl:b ∣ lt * a - low
 bd:ht.natAbs * low.natAbs+lt.natAbs * high.natAbs≤b.natAbs
 hi:high.natAbs≤b.natAbs
theorem og {a b:Int} (hb:b≠0):i3 a b (ca b) 0 (a % ca b) 1:=by
 have h0:=h7 hb
 refine ⟨h0,DA _ (by omega),C6 _ h0,fun d=> ?_,?_,?_,?_,by rw [dM]; simp⟩
 ·rw [dJ]
  constructor
  ·rintro ⟨h1,h2⟩
   refine ⟨?_,h1⟩
   have e:=Du a (ca b)
   rw [← e]
   exact ET h2 (C8 ((dJ d b).mpr h1) (DJ _ _))
  ·rintro ⟨h1,h2⟩
   refine ⟨h2,?_⟩
   have e:a % ca b=a - ca b * (a / ca b):=by have:=Du a (ca b); omega
   rw [e]
   exact Gk h1 (C8 ((dJ d b).mpr h2) (DJ _ _))
 ·rw [GC,Int.zero_sub,Gj]
  exact (dJ b b).mpr (Fg b)
 ·have e:1 * a - a % ca b=ca b * (a / ca b):=by have:=Du a (ca b); omega
  rw [e]
  exact C8 ((dJ b b).mpr (Fg b)) (DJ _ _)
 ·rw [dM]; simp
theorem qF {a b high ht low lt:Int} (I:i3 a b high ht low lt) (h:low≠0):i3 a b low lt (high - high / low * low) (ht - high / low * lt)∧high - high / low * low < low:=by
 obtain ⟨hp,lo0,lolt,dv,ch,cl,bd,hi⟩:=I
 have hl:0 < low:=by omega
 have e:=Du high low
 have r0:=DA high h
 have r1:=C6 high hl
 have hf:0≤high / low:=Fx (by omega) (by omega)
 have er:high - high / low * low=high % low:=by rw [Ed]; omega
 rw [er]
 refine ⟨⟨hl,r0,r1,fun d=> ?_,cl,?_,?_,by omega⟩,r1⟩
 ·rw [← dv d]
  constructor
  ·rintro ⟨h1,h2⟩
   refine ⟨?_,h1⟩
   rw [← e]
   exact ET h2 (C8 h1 (DJ _ _))
  ·rintro ⟨h1,h2⟩
   refine ⟨h2,?_⟩
   rw [show high % low=high - low * (high / low) by omega]
   exact Gk h1 (C8 h2 (DJ _ _))
 ·have e2:(ht - high / low * lt) * a - high % low=(ht * a - high) - (high / low) * (lt * a - low):=by grind
  rw [e2]
  exact Gk ch (C8 cl (Dp _ _))
 ·have n1:(ht - high / low * lt).natAbs≤ht.natAbs+(high / low).natAbs * lt.natAbs:=by
   have:=Int.natAbs_sub_le ht (high / low * lt)
   rw [FO] at this
   exact this
  have n2:high.natAbs=(high % low).natAbs+low.natAbs * (high / low).natAbs:=by
   have:(high.natAbs:Int)=((high % low).natAbs+low.natAbs * (high / low).natAbs:Nat):=by
    push_cast
    rw [Fo r0,Fo hf,Fo (by omega:0≤high),Fo lo0]
    omega
   omega
  have n3:(ht - high / low * lt).natAbs * low.natAbs≤(ht.natAbs+(high / low).natAbs * lt.natAbs) * low.natAbs:=Hs _ n1
  rw [n2] at bd
  refine DK ?_ bd
  generalize (ht - high / low * lt).natAbs=A at *
  generalize ht.natAbs=B at *
  generalize lt.natAbs=C at *
  generalize low.natAbs=D at *
  generalize (high / low).natAbs=E at *
  generalize (high % low).natAbs=F at *
  grind
structure iH (a b g s t:Int):Prop where
 g0:0≤g
 eq:s * a+t * b=g
 da:g ∣ a
 db:g ∣ b
 z:b=0→t=0∧s=sgn a∧g=ca a
 nz:b≠0→0 < g∧0≤s∧s < ca b / g
theorem lC (a:Int):iH a 0 (ca a) (sgn a) 0:=by
 refine ⟨by unfold ca; split <;> omega,?_,(wJ a a).mpr (Fg a),HX _,fun _=> ⟨rfl,rfl,rfl⟩,fun h=> absurd rfl h⟩
 unfold sgn ca
 split
 ·split <;> omega
 ·split
  ·omega
  ·omega
theorem u5 {a b high ht lt:Int} (hb:b≠0) (I:i3 a b high ht 0 lt):iH a b high (ht % (ca b / high)) ((high - ht % (ca b / high) * a).fdiv b):=by
 obtain ⟨hp,lo0,lolt,dv,ch,cl,bd,hi⟩:=I
 obtain ⟨ga,gb⟩:=(dv high).mp ⟨Fg _,HX _⟩
 obtain ⟨a',rfl⟩:=ga
 have gb2:high ∣ ca b:=(dJ _ _).mpr gb
 obtain ⟨b',hb'⟩:=gb2
 have hb0:=h7 hb
 have hq:ca b / high=b':=by rw [hb',Ee _ (by omega)]
 have hb1:0 < b':=by
  have:0 < high * b':=by omega
  exact DR this (by omega)
 rw [hq]
 have es:=Du ht b'
 have key:b ∣ high - ht % b' * (high * a'):=by
  have e:high - ht % b' * (high * a')=-(ht * (high * a') - high)+ca b * (a' * (ht / b')):=by
   rw [hb',show ht % b'=ht - b' * (ht / b') by omega]; grind
  rw [e]
  refine ET (Gj.mpr ch) (C8 ((dJ b b).mpr (Fg b)) (DJ _ _))
 refine ⟨by omega,?_,DJ _ _,gb,fun h=> absurd h hb,fun _=> ⟨hp,DA _ (by omega),?_⟩⟩
 ·obtain ⟨c,hc⟩:=key
  rw [hc,Int.mul_fdiv_cancel_left _ hb,Ed c b]; omega
 ·rw [hq]; exact C6 _ hb1
theorem Bl {a b high ht low lt:Int} (I:i3 a b high ht low lt):lt.natAbs≤b.natAbs:=by
 have h1:1≤high.natAbs:=by have:=I.hp; omega
 have h2:lt.natAbs * 1≤lt.natAbs * high.natAbs:=Nat.mul_le_mul_left _ h1
 have:=I.bd
 omega
theorem uL {a b g s t g' s' t':Int} (h:iH a b g s t) (h':iH a b g' s' t'):g=g'∧s=s'∧t=t':=by
 have d1:g ∣ g':=by rw [← h'.eq]; exact ET (C8 h.da (Dp _ _)) (C8 h.db (Dp _ _))
 have d2:g' ∣ g:=by rw [← h.eq]; exact ET (C8 h'.da (Dp _ _)) (C8 h'.db (Dp _ _))
 have eg:g=g':=G3 h.g0 h'.g0 d1 d2
 subst eg
 by_cases hb:b=0
 ·obtain ⟨h1,h2,_⟩:=h.z hb
  obtain ⟨k1,k2,_⟩:=h'.z hb
  exact ⟨rfl,by omega,by omega⟩
 ·obtain ⟨p,s0,s1⟩:=h.nz hb
  obtain ⟨_,s0',s1'⟩:=h'.nz hb
  obtain ⟨a',ha⟩:=h.da
  obtain ⟨b',hb'⟩:=(dJ g b).mpr h.db
  obtain ⟨b'',hb''⟩:=h.db
  have hq:ca b / g=b':=by rw [hb',Ee _ (by omega)]
  rw [hq] at s1 s1'
  have e1:=h.eq
  have e2:=h'.eq
  have bz:b''≠0:=by intro z; rw [z,DD] at hb''; exact hb hb''
  have k1:s * a'+t * b''=1:=by
   have:g * (s * a'+t * b'')=g * 1:=by rw [ha,hb''] at e1; grind
   exact Dd (by omega) this
  have k2:s' * a'+t' * b''=1:=by
   have:g * (s' * a'+t' * b'')=g * 1:=by rw [ha,hb''] at e2; grind
   exact Dd (by omega) this
  have k3:b'' ∣ s - s':=by
   refine ⟨s * (t' - t)+t * (s - s'),?_⟩
   grind
  have k4:b' ∣ s - s':=by
   have:b'.natAbs=b''.natAbs:=by
    have q1:(ca b).natAbs=b.natAbs:=by rw [dM]; simp
    rw [hb',hb''] at q1
    rw [FO,FO] at q1
    exact Nat.eq_of_mul_eq_mul_left (by omega) q1
   exact FR.mp (by rw [this]; exact FR.mpr k3)
  have k5:s=s':=by
   have:s - s'=0:=Int.eq_zero_of_dvd_of_natAbs_lt_natAbs k4 (by omega)
   omega
  subst k5
  refine ⟨rfl,rfl,?_⟩
  have:b * t=b * t':=by grind
  exact Dd hb this
theorem y4 {a b:Int} (hb:b≠0):∀ (n:Nat) (high ht low lt:Int),low.toNat≤n→i3 a b high ht low lt→∃ high' ht' lt',i3 a b high' ht' 0 lt'
 | 0,high,ht,low,lt,hn,I=> by
  have:low=0:=by have:=I.lo0; omega
  subst this
  exact ⟨_,_,_,I⟩
 | n+1,high,ht,low,lt,hn,I=> by
  by_cases h:low=0
  ·subst h; exact ⟨_,_,_,I⟩
  ·obtain ⟨I2,less⟩:=qF I h
   have:=I2.lo0
   exact y4 hb n _ _ _ _ (by have:=I.lo0; omega) I2
theorem rN (a b:Int):∃ g s t,iH a b g s t:=by
 by_cases hb:b=0
 ·subst hb; exact ⟨_,_,_,lC a⟩
 ·obtain ⟨h,ht,lt,I⟩:=y4 hb _ _ _ _ _ (Cv _) (og (a:=a) hb)
  exact ⟨_,_,_,u5 hb I⟩
theorem yq {m:Nat} {a b g s t:Int} (G:iH a b g s t) (sa:Sz m a) (sb:Sz m b):Sz (m+8) g∧Sz (m+8) s∧Sz (2 * m+8) t:=by
 by_cases hb:b=0
 ·subst hb
  obtain ⟨h1,h2,h3⟩:=G.z rfl
  rw [h1,h2,h3]
  have s1:Sz 8 (sgn a):=by unfold Sz sgn; split; decide; split <;> decide
  exact ⟨(Sz.abs sa).mono (by omega),s1.mono (by omega),Sz.mono (m:=8) (by decide) (by omega)⟩
 ·obtain ⟨g0,s0,s1⟩:=G.nz hb
  have h1:ca b / g≤ca b:=G0 _ (by have:=h7 hb; omega)
  have h2:=dM b
  have sg:Sz m g:=by
   refine sb.natle ?_
   exact Nat.le_of_dvd (by omega) (FR.mpr G.db)
  have ss:Sz m s:=sb.natle (by omega)
  refine ⟨sg.mono (by omega),ss.mono (by omega),?_⟩
  have e:t * b=g - s * a:=by have:=G.eq; omega
  have q:Sz (2 * m+1) (t * b):=by
   rw [e]
   have:Sz (m+m) (s * a):=ss.mul sa
   have h3:=(sg.mono (show m≤m+m by omega)).sub this
   exact h3.mono (by omega)
  refine (Sz.mono (m:=2 * m+1) ?_ (by omega))
  unfold Sz at *
  rw [FO] at q
  have:1≤b.natAbs:=by omega
  exact Gz (Nat.le_mul_of_pos_right _ this) q
def sj:List U→Out→Prop:=fun us o=> ∃ n:Int,us=[.int n]∧o=.val (.int (sgn n))
set_option maxHeartbeats 8000000 in
theorem qP (T:Txt K mg):bo P w K mg base (CXF P w) 1 T.a_sign T.d_sign ["number"] (spU K (sj)):=by
 refine br T.F_sign yF (fun us o h=> ?_) (fun cdv A outer s H E O us o hr h=> ?_)
 ·obtain ⟨n,rfl,rfl⟩:=h
  rfl
 obtain ⟨n,rfl,rfl⟩:=h
 refine Ws.nox ?_
 refine ae (fc (aF i6 (aa 0 rfl) ag) (fun hT=> ?_) (fun hF=> (aJ ?_)))
 ·refine ae (aI ag ?_)
  exact vIO (by unfold sgn; rw [if_pos (dTb hT)])
 ·refine ae (fc (aF eN (aa 0 rfl) ag) (fun hT=> ?_) (fun hF=> (aJ ?_)))
  ·refine ae (aI (ck ag) ?_)
   exact vIO (by unfold sgn; rw [if_neg (dFb hF),if_pos (dTb hT)])
  ·rename_i hF2
   refine ae (aI ag ?_)
   exact vIO (by unfold sgn; rw [if_neg (dFb hF),if_neg (dFb hF2)])
def n6:List U→Out→Prop:=fun us o=> ∃ a b g s t:Int,us=[.int a,.int b]∧Sz 4000 a∧Sz 4000 b∧iH a b g s t∧o=.val (.tup [.int g,.int s,.int t])
theorem nE {a b g s t g' s' t':Int} (G:iH a b g s t) (G':iH a b g' s' t'):Out.val (.tup [.int g,.int s,.int t])=Out.val (.tup [.int g',.int s',.int t']):=by
 obtain ⟨rfl,rfl,rfl⟩:=uL G G'
 rfl
set_option maxHeartbeats 8000000 in
theorem lm (T:Txt K mg):bo P w K mg base (CXF P w) 2 T.a_shares T.d_shares ["a","b"] (spU K (n6)):=by
 refine br T.F_shares bG (fun us o h=> ?_) (fun cdv A outer s H E O us o hr h=> ?_)
 ·obtain ⟨a,b,g,s,t,rfl,sa,sb,G,rfl⟩:=h
  rfl
 obtain ⟨a,b,g,s,t,rfl,sa,sb,G,rfl⟩:=h
 refine Ws.nox ?_
 refine ae (fc (aF dU (aa 1 rfl) ag) (fun hT=> ?_) (fun hF=> (aJ ?_)))
 ·have hb:b=0:=dTb hT
  subst hb
  refine ae (aI (c_ (aX (ao kY rfl T.z_abs PyProof.Rows.boot_abs (ac (aa 0 rfl) ak ah)) (aX (aB ((qP T).mono (by decide)) hr rfl T.m_sign T.F_sign.kp T.b_sign aC (ac (aa 0 rfl) ak ah) ⟨_,rfl,rfl⟩) (aX ag cE bT) bn) bn)) ?_)
  exact nE (lC a) G
 ·have hb:b≠0:=dFb hF
  have hp0:=h7 hb
  have sab:Sz 4000 (ca b):=Sz.abs sb
  refine ae (ay (i:=2) bG.nd rfl (Or.inl rfl) (ao kY rfl T.z_abs PyProof.Rows.boot_abs (ac (aa 1 rfl) ak ah)) ?_)
  refine ae (ay (i:=3) bG.nd rfl (Or.inl rfl) ag ?_)
  refine ae (ay (i:=4) bG.nd rfl (Or.inl rfl) (bX (aa 0 rfl) (aa 2 rfl) hp0) ?_)
  refine ae (ay (i:=5) bG.nd rfl (Or.inl rfl) ag ?_)
  refine ae (e_ (fun m:Int×Int×Int×Int=> [some (.val (.int a)),some (.val (.int b)),some (.val (.int m.1)),some (.val (.int m.2.1)),some (.val (.int m.2.2.1)),some (.val (.int m.2.2.2)),none,none,none,none]) (fun n m=> n=m.2.2.1.toNat∧i3 a b m.1 m.2.1 m.2.2.1 m.2.2.2) PassesOwn.never ?h0 ?hs)
  case h0=> exact ⟨_,(_,_,_,_),⟨rfl,og hb⟩,rfl,rfl,rfl,rfl,rfl,rfl,trivial⟩
  case hs=>
   rintro m ⟨high,ht,low,lt⟩ ⟨rfl,I⟩
   dsimp only at I ⊢
   have hl0:=I.lo0
   have hl1:=I.lolt
   have sh:Sz 4000 high:=sb.natle I.hi
   have sl:Sz 4000 low:=sh.natle (by omega)
   have slt:Sz 4000 lt:=sb.natle (Bl I)
   refine ⟨_,(aF fG (aa 4 rfl) ag),fun h=> ?_,fun h ps hps=> ?_⟩
   ·have hl:low≠0:=nTb h
    obtain ⟨I2,less⟩:=qF I hl
    have hlt:(high - high / low * low).toNat < low.toNat:=by clear h; omega
    refine ae (ay (i:=6) bG.nd rfl (Or.inl rfl) (b_ (aa 2 rfl) (aa 4 rfl) (by walk_at "div")) ?_)
    have sf:Sz 4000 (high / low):=sh.ediv
    refine ae (ay (i:=7) bG.nd rfl (Or.inl rfl) (ba (aa 2 rfl) (aU (aa 6 rfl) (aa 4 rfl) (by walk_at "mul"))) ?_)
    refine ae (ay (i:=8) bG.nd rfl (Or.inl rfl) (ba (aa 3 rfl) (aU (aa 6 rfl) (aa 5 rfl) (by walk_at "mul"))) ?_)
    refine ae (ay (i:=2) bG.nd rfl (Or.inl rfl) (aa 4 rfl) ?_)
    refine ae (ay (i:=3) bG.nd rfl (Or.inl rfl) (aa 5 rfl) ?_)
    refine ae (ay (i:=4) bG.nd rfl (Or.inl rfl) (aa 7 rfl) ?_)
    refine ae (ay (i:=5) bG.nd rfl (Or.inl rfl) (aa 8 rfl) (aJ ?_))
    exact ⟨_,(_,_,_,_),hlt,⟨rfl,I2⟩,rfl,rfl,rfl,rfl,rfl,rfl,trivial⟩
   ·have hl:low=0:=nFb h
    subst hl
    refine dW ?_ hps
    have G2:=u5 hb I
    obtain ⟨g0,s0,s1⟩:=G2.nz hb
    have hm:0 < ca b / high:=by omega
    have hg:0 < high:=I.hp
    have ss:Sz 4000 (ht % (ca b / high)):=by
     refine sb.natle ?_
     have h1:ca b / high≤ca b:=G0 _ (by omega)
     have h2:=dM b
     omega
    refine ae (ay (i:=9) bG.nd rfl (Or.inl rfl) (bX (aa 3 rfl) (b_ (ao kY rfl T.z_abs PyProof.Rows.boot_abs (ac (aa 1 rfl) ak ah)) (aa 2 rfl) ⟨hg,sh.mono (by decide)⟩) hm) ?_)
    refine ae (aI (c_ (aX (aa 2 rfl) (aX (aa 9 rfl) (aX (mI (ba (aa 2 rfl) (aU (aa 9 rfl) (aa 0 rfl) (Sz.ok ss sa (by decide)))) (aa 1 rfl) ⟨hb,sb.mono (by decide)⟩) cE aZ) ah) ah)) ?_)
    exact nE G2 G
def isInt:U→Bool
 | .int _=> true
 | _=> false
abbrev mv (a b c d e f:Int):U:=.tup [.int a,.int b,.int c,.int d,.int e,.int f]
def je:U→Bool
 | .tup [.int a,.int b,.int c,.int d,.int _,.int _]=> decide (a * d - b * c=1) || decide (a * d - b * c=-1)
 | _=> false
structure nZ (u:U):Prop where
 ty:∀ m,u≠.ty m
 ity:∀ xs,u=.tup xs→∀ x∈xs,∀ m,x≠.ty m
 len:∀ xs,u=.tup xs→xs.length≤100
 sz:∀ a b c d e f,u=mv a b c d e f→Sz 30000 a∧Sz 30000 b∧Sz 30000 c∧Sz 30000 d
theorem nZ.of {a b c d e f:Int} (ha:Sz 30000 a) (hb:Sz 30000 b) (hc:Sz 30000 c) (hd:Sz 30000 d):nZ (mv a b c d e f):=by
 refine ⟨fun m h=> (nomatch h),fun xs h x hx m e=> ?_,fun xs h=> ?_,fun a' b' c' d' e' f' h=> ?_⟩
 ·cases h; subst e; simp at hx
 ·cases h; simp
 ·cases h; exact ⟨ha,hb,hc,hd⟩
theorem xG {a b c d e f:Int} (h:a * d - b * c=1∨a * d - b * c=-1):je (mv a b c d e f)=true:=by
 show (decide (a * d - b * c=1) || decide (a * d - b * c=-1))=true
 simpa using h
theorem ug {xs:List U} (h:xs.length≠6):je (.tup xs)=false:=by
 unfold je
 split
 ·rename_i e; cases e; simp at h
 ·rfl
theorem Af {xs:List U} (h:xs.length=6) (hi:xs.all isInt=true):∃ a b c d e f,xs=[.int a,.int b,.int c,.int d,.int e,.int f]:=by
 match xs,h with
 | [x1,x2,x3,x4,x5,x6],_=>
  simp only [Fw,List.all_nil,Gc,Dx] at hi
  obtain ⟨h1,h2,h3,h4,h5,h6⟩:=hi
  have key:∀ {x:U},isInt x=true→∃ n,x=.int n:=fun {x} h=> by cases x <;> simp [isInt] at h; exact ⟨_,rfl⟩
  obtain ⟨a,rfl⟩:=key h1
  obtain ⟨b,rfl⟩:=key h2
  obtain ⟨c,rfl⟩:=key h3
  obtain ⟨d,rfl⟩:=key h4
  obtain ⟨e,rfl⟩:=key h5
  obtain ⟨f,rfl⟩:=key h6
  exact ⟨a,b,c,d,e,f,rfl⟩
theorem vp {xs:List U} (h:xs.all isInt=false):je (.tup xs)=false:=by
 unfold je
 split
 ·rename_i e; cases e; simp [isInt] at h
 ·rfl
def o8:List U→Out→Prop:=fun us o=> ∃ u,us=[u]∧(∀ m,u≠.ty m)∧o=.val (.bl (isInt u))
set_option maxHeartbeats 8000000 in
theorem o3 (T:Txt K mg):bo P w K mg base (CXF P w) 1 T.a_is_whole T.d_is_whole ["thing"] (spU K (o8)):=by
 refine br T.F_is_whole oO (fun us o h=> ?_) (fun cdv A outer s H E O us o hr h=> ?_)
 ·obtain ⟨u,rfl,hu,rfl⟩:=h
  rfl
 obtain ⟨u,rfl,hu,rfl⟩:=h
 refine Ws.nox ?_
 cases u with
 | ty m=> exact absurd rfl (hu m)
 | int n=> refine ae (aI (fE (ao (aK (by intro _ h; cases h) (by walk_at "kit")) rfl T.z_isinstance boot_isinstance (ac (aa 0 rfl) (ac (dH rfl T.z_int boot_int) ak ah) ah)) (fun hz=> (fL (ip (ao (aK (by intro _ h; cases h) (by walk_at "kit")) rfl T.z_isinstance boot_isinstance (ac (aa 0 rfl) (ac (dH rfl T.z_bool boot_bool) ak ah) ah)))))) ?_); exact rfl
 | bl n=> refine ae (aI (fE (ao (aK (by intro _ h; cases h) (by walk_at "kit")) rfl T.z_isinstance boot_isinstance (ac (aa 0 rfl) (ac (dH rfl T.z_int boot_int) ak ah) ah)) (fun hz=> (fL (ip (ao (aK (by intro _ h; cases h) (by walk_at "kit")) rfl T.z_isinstance boot_isinstance (ac (aa 0 rfl) (ac (dH rfl T.z_bool boot_bool) ak ah) ah)))))) ?_); exact rfl
 | non=> refine ae (aI (fE (ao (aK (by intro _ h; cases h) (by walk_at "kit")) rfl T.z_isinstance boot_isinstance (ac (aa 0 rfl) (ac (dH rfl T.z_int boot_int) ak ah) ah)) (fun hz=> (fL (ip (ao (aK (by intro _ h; cases h) (by walk_at "kit")) rfl T.z_isinstance boot_isinstance (ac (aa 0 rfl) (ac (dH rfl T.z_bool boot_bool) ak ah) ah)))))) ?_); exact rfl
 | str n=> refine ae (aI (fE (ao (aK (by intro _ h; cases h) (by walk_at "kit")) rfl T.z_isinstance boot_isinstance (ac (aa 0 rfl) (ac (dH rfl T.z_int boot_int) ak ah) ah)) (fun hz=> (fL (ip (ao (aK (by intro _ h; cases h) (by walk_at "kit")) rfl T.z_isinstance boot_isinstance (ac (aa 0 rfl) (ac (dH rfl T.z_bool boot_bool) ak ah) ah)))))) ?_); exact rfl
 | dic=> refine ae (aI (fE (ao (aK (by intro _ h; cases h) (by walk_at "kit")) rfl T.z_isinstance boot_isinstance (ac (aa 0 rfl) (ac (dH rfl T.z_int boot_int) ak ah) ah)) (fun hz=> (fL (ip (ao (aK (by intro _ h; cases h) (by walk_at "kit")) rfl T.z_isinstance boot_isinstance (ac (aa 0 rfl) (ac (dH rfl T.z_bool boot_bool) ak ah) ah)))))) ?_); exact rfl
 | scr n=> refine ae (aI (fE (ao (aK (by intro _ h; cases h) (by walk_at "kit")) rfl T.z_isinstance boot_isinstance (ac (aa 0 rfl) (ac (dH rfl T.z_int boot_int) ak ah) ah)) (fun hz=> (fL (ip (ao (aK (by intro _ h; cases h) (by walk_at "kit")) rfl T.z_isinstance boot_isinstance (ac (aa 0 rfl) (ac (dH rfl T.z_bool boot_bool) ak ah) ah)))))) ?_); exact rfl
 | lst n=> refine ae (aI (fE (ao (aK (by intro _ h; cases h) (by walk_at "kit")) rfl T.z_isinstance boot_isinstance (ac (aa 0 rfl) (ac (dH rfl T.z_int boot_int) ak ah) ah)) (fun hz=> (fL (ip (ao (aK (by intro _ h; cases h) (by walk_at "kit")) rfl T.z_isinstance boot_isinstance (ac (aa 0 rfl) (ac (dH rfl T.z_bool boot_bool) ak ah) ah)))))) ?_); exact rfl
 | tup n=> refine ae (aI (fE (ao (aK (by intro _ h; cases h) (by walk_at "kit")) rfl T.z_isinstance boot_isinstance (ac (aa 0 rfl) (ac (dH rfl T.z_int boot_int) ak ah) ah)) (fun hz=> (fL (ip (ao (aK (by intro _ h; cases h) (by walk_at "kit")) rfl T.z_isinstance boot_isinstance (ac (aa 0 rfl) (ac (dH rfl T.z_bool boot_bool) ak ah) ah)))))) ?_); exact rfl
def tF:List U→Out→Prop:=fun us o=> ∃ a b c d e f,us=[mv a b c d e f]∧Sz 30000 a∧Sz 30000 b∧Sz 30000 c∧Sz 30000 d∧o=.val (.int (a * d - b * c))
set_option maxHeartbeats 8000000 in
theorem xl (T:Txt K mg):bo P w K mg base (CXF P w) 1 T.a_hand T.d_hand ["move"] (spU K (tF)):=by
 refine br T.F_hand xm (fun us o h=> ?_) (fun cdv A outer s H E O us o hr h=> ?_)
 ·obtain ⟨a,b,c,d,e,f,rfl,sa,sb,sc,sd,rfl⟩:=h
  rfl
 obtain ⟨a,b,c,d,e,f,rfl,sa,sb,sc,sd,rfl⟩:=h
 refine Ws.nox ?_
 refine ae (aI (ba (aU (aE (aa 0 rfl) ag rfl rfl) (aE (aa 0 rfl) ag rfl rfl) (by walk_at "mul")) (aU (aE (aa 0 rfl) ag rfl rfl) (aE (aa 0 rfl) ag rfl rfl) (by walk_at "mul"))) ?_); exact rfl
def mQ:List U→Out→Prop:=fun us o=> ∃ u,us=[u]∧nZ u∧o=.val (.bl (je u))
set_option maxHeartbeats 8000000 in
theorem pL (T:Txt K mg):bo P w K mg base (CXF P w) 2 T.a_is_move T.d_is_move ["thing"] (spU K (mQ)):=by
 refine br T.F_is_move jE (fun us o h=> ?_) (fun cdv A outer s H E O us o hr h=> ?_)
 ·obtain ⟨u,rfl,hu,rfl⟩:=h
  rfl
 obtain ⟨u,rfl,hu,rfl⟩:=h
 refine Ws.nox ?_
 cases u with
 | ty m=> exact absurd rfl (hu.ty m)
 | int n=> refine ae (dG (Tw.t (j9 (eM (eu (ao (aK (by intro _ h; cases h) (by walk_at "kit")) rfl T.z_isinstance boot_isinstance (ac (aa 0 rfl) (ac (dH rfl T.z_tuple boot_tuple) ak ah) ah)))) rfl)) rfl ?_); refine ae (aI kH ?_); exact rfl
 | bl n=> refine ae (dG (Tw.t (j9 (eM (eu (ao (aK (by intro _ h; cases h) (by walk_at "kit")) rfl T.z_isinstance boot_isinstance (ac (aa 0 rfl) (ac (dH rfl T.z_tuple boot_tuple) ak ah) ah)))) rfl)) rfl ?_); refine ae (aI kH ?_); exact rfl
 | non=> refine ae (dG (Tw.t (j9 (eM (eu (ao (aK (by intro _ h; cases h) (by walk_at "kit")) rfl T.z_isinstance boot_isinstance (ac (aa 0 rfl) (ac (dH rfl T.z_tuple boot_tuple) ak ah) ah)))) rfl)) rfl ?_); refine ae (aI kH ?_); exact rfl
 | str n=> refine ae (dG (Tw.t (j9 (eM (eu (ao (aK (by intro _ h; cases h) (by walk_at "kit")) rfl T.z_isinstance boot_isinstance (ac (aa 0 rfl) (ac (dH rfl T.z_tuple boot_tuple) ak ah) ah)))) rfl)) rfl ?_); refine ae (aI kH ?_); exact rfl
 | dic=> refine ae (dG (Tw.t (j9 (eM (eu (ao (aK (by intro _ h; cases h) (by walk_at "kit")) rfl T.z_isinstance boot_isinstance (ac (aa 0 rfl) (ac (dH rfl T.z_tuple boot_tuple) ak ah) ah)))) rfl)) rfl ?_); refine ae (aI kH ?_); exact rfl
 | scr n=> refine ae (dG (Tw.t (j9 (eM (eu (ao (aK (by intro _ h; cases h) (by walk_at "kit")) rfl T.z_isinstance boot_isinstance (ac (aa 0 rfl) (ac (dH rfl T.z_tuple boot_tuple) ak ah) ah)))) rfl)) rfl ?_); refine ae (aI kH ?_); exact rfl
 | lst n=> refine ae (dG (Tw.t (j9 (eM (eu (ao (aK (by intro _ h; cases h) (by walk_at "kit")) rfl T.z_isinstance boot_isinstance (ac (aa 0 rfl) (ac (dH rfl T.z_tuple boot_tuple) ak ah) ah)))) rfl)) rfl ?_); refine ae (aI kH ?_); exact rfl
 | tup xs=>
  refine ae (fc (Tw.t (nG (eM (eu (ao (aK (by intro _ h; cases h) (by walk_at "kit")) rfl T.z_isinstance boot_isinstance (ac (aa 0 rfl) (ac (dH rfl T.z_tuple boot_tuple) ak ah) ah)))) (fun hz=> (n_ (aF fG (ao (di rfl) rfl T.z_len Dq (ac (aa 0 rfl) ak ah)) ag))))) (fun hT=> ?_) (fun hF=> (aJ ?_)))
  ·have:xs.length≠6:=fun e=> by rw [e] at hT; revert hT; decide
   refine ae (aI kH ?_)
   exact vB (ug this).symm
  ·have hl:xs.length=6:=by
    have:=nFb (show (!decide ((xs.length:Int)=6))=false from hF)
    omega
   refine ae (fc (eM (eu (ao (Bc rfl (bs:=xs.map isInt)) rfl T.z_all boot_all (ac (EvN.ev (eO  rfl (blk (ai dw) ["thing","number"] [1] rfl rfl rfl rfl (by decide+kernel)) (Bh (aa 0 rfl)) (fun _ _ _ _=> aT (i:=1) jE.nd rfl (Or.inl rfl)) (h9 (by decide)) ?clen ?csz (fun _ _=> trivial) ?celt)) ak dB)))) (fun hT=> ?_) (fun hF=> (aJ ?_)))
   case clen=> simp
   case csz=> exact DK (hu.len xs rfl) (by decide)
   case celt=>
    intro C s' H' fp i x y hx hy
    rw [Ct,Ct,hx] at hy
    cases hy
    exact (aB ((o3 T).mono (by decide)) hr rfl T.m_is_whole T.F_is_whole.kp T.b_is_whole aC (ac (aa 1 rfl) ak ah) ⟨x,rfl,hu.ity xs rfl x (CM hx),rfl⟩)
   ·have hall:xs.all isInt=false:=by simpa using hT
    refine ae (aI kH ?_)
    exact vB (vp hall).symm
   ·have hall:xs.all isInt=true:=by simpa using hF
    obtain ⟨a,b,c,d,e,f,rfl⟩:=Af hl hall
    obtain ⟨sa,sb,sc,sd⟩:=hu.sz a b c d e f rfl
    refine ae (aI (lc (B3 rfl rfl rfl) (aB ((xl T).mono (by decide)) hr rfl T.m_hand T.F_hand.kp T.b_hand aC (ac (aa 0 rfl) ak ah) ⟨a,b,c,d,e,f,rfl,sa,sb,sc,sd,rfl⟩) (c_ (aX ag (aX (ck ag) cE iR) bT))) ?_)
    refine vB ?_
    show inV (fl (.int (a * d - b * c))) ([U.int 1,.int (-1)].map fl)=_
    rw [show je (.tup [.int a,.int b,.int c,.int d,.int e,.int f])=(decide (a * d - b * c=1) || decide (a * d - b * c=-1)) from rfl]
    generalize a * d - b * c=h
    rw [Et]
    simp [inV,fl,eqV]
    omega
def iG (C:Addr):List U→Out→Prop:=fun us o=> ∃ u,us=[u]∧nZ u∧o=if je u=true then .val .non else .exc C
set_option maxHeartbeats 8000000 in
theorem im (T:Txt K mg):bo P w K mg base (CXF P w) 3 T.a_need_move T.d_need_move ["thing"] (spU K (iG T.c_NoMove)):=by
 refine br T.F_need_move l_ (fun us o h=> ?_) (fun cdv A outer s H E O us o hr h=> ?_)
 ·obtain ⟨u,rfl,hu,rfl⟩:=h
  rfl
 obtain ⟨u,rfl,hu,rfl⟩:=h
 refine ae (fc (eM (eu (aB ((pL T).mono (by decide)) hr rfl T.m_is_move T.F_is_move.kp T.b_is_move aC (ac (aa 0 rfl) ak ah) ⟨u,rfl,hu,rfl⟩))) (fun hT=> ?_) (fun hF=> (aJ (aJ ?_))))
 ·have h:je u=false:=by simpa using hT
  refine ae (qY T.x_NoMove rfl T.mx_NoMove zA ?_)
  show Out.exc _=_
  rw [if_neg (by rw [h]; decide)]
 ·have h:je u=true:=by simpa using hF
  show _=_
  rw [if_pos h]
structure Mv (a b c d e f:Int):Prop where
 u:a * d - b * c=1∨a * d - b * c=-1
 a:Sz 30000 a
 b:Sz 30000 b
 c:Sz 30000 c
 d:Sz 30000 d
 e:Sz 30000 e
 f:Sz 30000 f
theorem Mv.ok {a b c d e f:Int} (M:Mv a b c d e f):nZ (mv a b c d e f):=nZ.of M.a M.b M.c M.d
theorem Mv.need {C:Addr} {a b c d e f:Int} (M:Mv a b c d e f):iG C [mv a b c d e f] (.val .non):=⟨_,rfl,M.ok,by rw [if_pos (xG M.u)]⟩
theorem yp {C:Addr} {u:U} (h:nZ u) (n:je u=false):iG C [u] (.exc C):=⟨_,rfl,h,by rw [if_neg (by rw [n]; decide)]⟩
def oW:List U→Out→Prop:=fun us o=> ∃ x y a b c d e f,us=[pt x y,mv a b c d e f]∧(Sz 30000 x∧Sz 30000 y∧Sz 30000 a∧Sz 30000 b∧Sz 30000 c∧Sz 30000 d)∧o=.val (pt (a * x+b * y) (c * x+d * y))
set_option maxHeartbeats 8000000 in
theorem tf (T:Txt K mg):bo P w K mg base (CXF P w) 1 T.a_turned T.d_turned ["P","move"] (spU K (oW)):=by
 refine br T.F_turned sO (fun us o h=> ?_) (fun cdv A outer s H E O us o hr h=> ?_)
 ·obtain ⟨x,y,a,b,c,d,e,f,rfl,⟨sx,sy,sa,sb,sc,sd⟩,rfl⟩:=h
  rfl
 obtain ⟨x,y,a,b,c,d,e,f,rfl,⟨sx,sy,sa,sb,sc,sd⟩,rfl⟩:=h
 refine Ws.nox ?_
 refine ae (aI (c_ (aX (bC (aU (aE (aa 1 rfl) ag rfl rfl) (aE (aa 0 rfl) ag rfl rfl) (by walk_at "mul")) (aU (aE (aa 1 rfl) ag rfl rfl) (aE (aa 0 rfl) ag rfl rfl) (by walk_at "mul"))) (aX (bC (aU (aE (aa 1 rfl) ag rfl rfl) (aE (aa 0 rfl) ag rfl rfl) (by walk_at "mul")) (aU (aE (aa 1 rfl) ag rfl rfl) (aE (aa 0 rfl) ag rfl rfl) (by walk_at "mul"))) cE aZ) aZ)) ?_); exact rfl
def pz (C:Addr):List U→Out→Prop:=fun us o=> (∃ x y a b c d e f,us=[pt x y,mv a b c d e f]∧Mv a b c d e f∧Sz 30000 x∧Sz 30000 y∧o=.val (pt (a * x+b * y+e) (c * x+d * y+f)))∨(∃ v u,us=[v,u]∧nZ u∧je u=false∧o=.exc C)
set_option maxHeartbeats 8000000 in
theorem vH (T:Txt K mg):bo P w K mg base (CXF P w) 4 T.a_moved T.d_moved ["P","move"] (spU K (pz T.c_NoMove)):=by
 refine br T.F_moved ot (by rintro us o (⟨x,y,a,b,c,d,e,f,rfl,_⟩ | ⟨v,u,rfl,_⟩) <;> rfl) (fun cdv A outer s H E O us o hr h=> ?_)
 rcases h with ⟨x,y,a,b,c,d,e,f,rfl,M,sx,sy,rfl⟩ | ⟨v,u,rfl,hu,hn,rfl⟩
 ·refine ae (AX (aB ((im T).mono (by decide)) hr rfl T.m_need_move T.F_need_move.kp T.b_need_move aC (ac (aa 1 rfl) ak ah) M.need) ?_)
  refine ae (ay (i:=2) ot.nd rfl (Or.inl rfl) (aB ((tf T).mono (by decide)) hr rfl T.m_turned T.F_turned.kp T.b_turned aC (ac (aa 0 rfl) (ac (aa 1 rfl) ak ah) ah) ⟨x,y,a,b,c,d,e,f,rfl,⟨sx,sy,M.a,M.b,M.c,M.d⟩,rfl⟩) ?_)
  refine ae (aI (c_ (aX (bC (aE (aa 2 rfl) ag rfl rfl) (aE (aa 1 rfl) ag rfl rfl)) (aX (bC (aE (aa 2 rfl) ag rfl rfl) (aE (aa 1 rfl) ag rfl rfl)) cE aZ) aZ)) ?_)
  exact rfl
 ·refine ae (yK (AO ((im T).mono (by decide)) hr rfl T.m_need_move T.F_need_move.kp T.b_need_move xj (ac (aa 1 rfl) ak ah) (yp hu hn)) ?_)
  exact rfl
end
section
variable {P:Program} {w:World} {K:Cn} {mg:Str→Option Value} {base:Heap}
theorem uJ {a b g s t:Int} (G:iH a b g s t):g=((EU a b:Nat):Int):=by
 have h1:g ∣ ((EU a b:Nat):Int):=FC G.da G.db
 have h2:((EU a b:Nat):Int) ∣ g:=by
  rw [← G.eq]
  exact ET (C8 (E4 ..) (Dp _ _)) (C8 (EY ..) (Dp _ _))
 exact G3 G.g0 (Int.natCast_nonneg _) h1 h2
theorem jN (a b:Int):∃ s t,iH a b ((EU a b:Nat):Int) s t:=by
 obtain ⟨g,s,t,G⟩:=rN a b
 have e:=uJ G
 subst e
 exact ⟨s,t,G⟩
structure BV (x0 y0 x1 y1:Int):Prop where
 s0:Sz 3000 x0
 t0:Sz 3000 y0
 s1:Sz 3000 x1
 t1:Sz 3000 y1
def pd:List U→Out→Prop:=fun us o=> ∃ x0 y0 x1 y1 g s t:Int,us=[pt x0 y0,pt x1 y1]∧BV x0 y0 x1 y1∧iH (x1 - x0) (y1 - y0) g s t∧o=.val (.int g)
set_option maxHeartbeats 8000000 in
theorem oZ (T:Txt K mg):bo P w K mg base (CXF P w) 3 T.a_steps T.d_steps ["P","Q"] (spU K (pd)):=by
 refine br T.F_steps u4 (fun us o h=> ?_) (fun cdv A outer s H E O us o hr h=> ?_)
 ·obtain ⟨x0,y0,x1,y1,g,s,t,rfl,⟨s0,t0,s1,t1⟩,G,rfl⟩:=h
  rfl
 obtain ⟨x0,y0,x1,y1,g,s,t,rfl,⟨s0,t0,s1,t1⟩,G,rfl⟩:=h
 refine Ws.nox ?_
 refine ae (aI (aE (aB ((lm T).mono (by decide)) hr rfl T.m_shares T.F_shares.kp T.b_shares aC (ac (ba (aE (aa 1 rfl) ag rfl rfl) (aE (aa 0 rfl) ag rfl rfl)) (ac (ba (aE (aa 1 rfl) ag rfl rfl) (aE (aa 0 rfl) ag rfl rfl)) ak aZ) aZ) ⟨_,_,g,s,t,rfl,by walk_at "szb",by walk_at "szb",G,rfl⟩) ag rfl rfl) ?_)
 exact rfl
def bE (n:Nat) (a b m:Int):Int:=match n with
 | 0=> 0
 | n+1=> bE n a b m+(a * (n:Int)+b) / m
theorem jH (a b m:Int):∀ n:Nat,bE (n+1) a b m=b / m+bE n a (b+a) m
 | 0=> by simp [bE]
 | n+1=> by
  rw [show bE (n+1+1) a b m=bE (n+1) a b m+(a * ((n+1:Nat):Int)+b) / m from rfl,jH a b m n]
  rw [show bE (n+1) a (b+a) m=bE n a (b+a) m+(a * (n:Int)+(b+a)) / m from rfl]
  have e:a * ((n+1:Nat):Int)+b=a * (n:Int)+(b+a):=by push_cast; grind
  rw [e]; omega
theorem mt {a b m:Int} (hm:0 < m):∀ n:Nat,bE n a (b+m) m=bE n a b m+n
 | 0=> by simp [bE]
 | n+1=> by
  show bE n a (b+m) m+(a * (n:Int)+(b+m)) / m=bE n a b m+(a * (n:Int)+b) / m+((n+1:Nat):Int)
  rw [mt hm n,← Int.add_assoc,Int.add_ediv_of_dvd_right (Fg m),Int.ediv_self (by omega)]
  push_cast; omega
theorem wO (n:Nat):(((n+1:Nat):Int) * (((n+1:Nat):Int) - 1)) / 2=((n:Int) * ((n:Int) - 1)) / 2+n:=by
 have e:(((n+1:Nat):Int) * (((n+1:Nat):Int) - 1))=(n:Int) * ((n:Int) - 1)+(n:Int) * 2:=by push_cast; grind
 rw [e,G9 _ _ (by decide)]
theorem km {a b m:Int} (hm:0 < m):∀ n:Nat,bE n a b m=a / m * ((n:Int) * ((n:Int) - 1) / 2)+b / m * n+bE n (a % m) (b % m) m
 | 0=> by simp [bE]
 | n+1=> by
  show bE n a b m+(a * (n:Int)+b) / m=_+(bE n (a % m) (b % m) m+(a % m * (n:Int)+b % m) / m)
  rw [km hm n,wO]
  have e:a * (n:Int)+b=(a % m * (n:Int)+b % m)+m * (a / m * n+b / m):=by
   have h1:=Du a m
   have h2:=Du b m
   grind
  rw [e,Fh _ _ (by omega)]
  push_cast
  grind
theorem iD {a b m:Int} (ha:0 < a) (ham:a < m) (hb:0≤b) (hbm:b < m):∀ n:Nat,bE n a b m=bE ((a * (n:Int)+b) / m).toNat m ((a * (n:Int)+b) % m) a
 | 0=> by
  have e:(a * ((0:Nat):Int)+b) / m=0:=by
   have:a * ((0:Nat):Int)+b=b:=by simp
   rw [this]; exact D6 hb hbm
  rw [e]; rfl
 | n+1=> by
  have ih:=iD ha ham hb hbm n
  have hz:0≤a * (n:Int)+b:=IL (Cs (by omega) (by omega)) hb
  have hY:0≤(a * (n:Int)+b) / m:=Fx hz (by omega)
  have hr0:=DA (a * (n:Int)+b) (show m≠0 by omega)
  have hr1:=C6 (a * (n:Int)+b) (show 0 < m by omega)
  have hz2:=Du (a * (n:Int)+b) m
  have ez:a * ((n+1:Nat):Int)+b=(a * (n:Int)+b)+a:=by push_cast; grind
  show bE n a b m+(a * (n:Int)+b) / m=_
  rw [ez,ih]
  generalize hZ:a * (n:Int)+b=z at *
  generalize hYY:z / m=Y at *
  generalize hRR:z % m=r at *
  obtain ⟨y,rfl⟩:=Int.eq_ofNat_of_zero_le hY
  by_cases hc:r+a < m
  ·have e1:(z+a) / m=(y:Int):=by
    rw [show z+a=(r+a)+m * (y:Int) by omega,Fh _ _ (by omega),D6 (by omega) hc]; omega
   have e2:(z+a) % m=r+a:=by
    rw [show z+a=(r+a)+m * (y:Int) by omega,Gv,GR (by omega) hc]
   rw [e1,e2,mt ha]
   simp
  ·have e1:(z+a) / m=(y:Int)+1:=by
    rw [show z+a=(r+a - m)+m * ((y:Int)+1) by rw [Io]; omega,Fh _ _ (by omega),D6 (by omega) (by omega)]; omega
   have e2:(z+a) % m=r+a - m:=by
    rw [show z+a=(r+a - m)+m * ((y:Int)+1) by rw [Io]; omega,Gv,GR (by omega) (by omega)]
   rw [e1,e2,show ((y:Int)+1).toNat=y+1 by omega,jH,D6 (by omega) (by omega),show r+a - m+m=r+a by omega,mt ha]
   simp
theorem j5 {a b m:Int} (ha:0≤a) (hb:0≤b) (n:Nat) (h:a * (n:Int)+b < m):bE n a b m=0:=by
 induction n with
 | zero=> rfl
 | succ n ih=>
  have e:a * ((n+1:Nat):Int)+b=a * (n:Int)+b+a:=by push_cast; grind
  have h1:0≤a * (n:Int):=Cs ha (by omega)
  show bE n a b m+(a * (n:Int)+b) / m=0
  rw [ih (by omega),D6 (by omega) (by omega)]; rfl
theorem sQ (n:Nat) (a b m:Int):bE (n+1) a b m=bE n a b m+(a * (n:Int)+b) / m:=rfl
theorem k_:∀ (m:Nat) (a b g:Int),0 < m→0 < g→g ∣ a→g ∣ (m:Int)→(∀ d,d ∣ a→d ∣ (m:Int)→d ∣ g)→2 * bE m a b m=(a - 1) * ((m:Int) - 1)+g - 1+2 * (g * (b / g)):=by
 intro m
 induction m using Ij with
 | ind m ih=>
  intro a b g hm hg ga gm gr
  have hm':(0:Int) < (m:Int):=by omega
  have red:=km (a:=a) (b:=b) hm' m
  have ha0:=DA a (show (m:Int)≠0 by omega)
  have ha1:=C6 a hm'
  have hb0:=DA b (show (m:Int)≠0 by omega)
  have hb1:=C6 b hm'
  have ea:=Du a (m:Int)
  have eb:=Du b (m:Int)
  have tri:2 * ((m:Int) * ((m:Int) - 1) / 2)=(m:Int) * ((m:Int) - 1):=by
   have:(2:Int) ∣ (m:Int) * ((m:Int) - 1):=by
    rcases Int.emod_two_eq (m:Int) with h | h
    ·exact C8 (E2 h) (DJ _ _)
    ·exact C8 (E2 (by omega)) (Dp _ _)
   exact DI this
  have gb:g * (b / g)=(m:Int) * (b / (m:Int))+g * (b % (m:Int) / g):=by
   obtain ⟨c,hc⟩:=gm
   have:b=b % (m:Int)+g * (c * (b / (m:Int))):=by rw [← GX,← hc]; omega
   conv=> lhs; rw [this]
   rw [Fh _ _ (by omega),Io,← GX g c,← hc]; omega
  by_cases hz:a % (m:Int)=0
  ·have gm2:g=(m:Int):=G3 (by omega) (by omega) gm (gr _ (E2 hz) (Fg _))
   have small:bE m (a % (m:Int)) (b % (m:Int)) m=0:=j5 ha0 hb0 m (by rw [hz]; omega)
   rw [red,small,gb,gm2,D6 hb0 hb1]
   rw [hz] at ea
   have:a=(m:Int) * (a / (m:Int)):=by omega
   generalize a / (m:Int)=q at *
   subst this
   grind
  ·have hp:0 < a % (m:Int):=by omega
   have turn:=iD hp ha1 hb0 hb1 m
   have e1:(a % (m:Int) * (m:Int)+b % (m:Int)) / (m:Int)=a % (m:Int):=by
    rw [Jo,G9 _ _ (by omega),D6 hb0 hb1]; omega
   have e2:(a % (m:Int) * (m:Int)+b % (m:Int)) % (m:Int)=b % (m:Int):=by
    rw [Jo,Int.add_mul_emod_self_right,GR hb0 hb1]
   rw [e1,e2] at turn
   have gd1:g ∣ a % (m:Int):=by
    rw [show a % (m:Int)=a - (m:Int) * (a / (m:Int)) by omega]
    exact Gk ga (C8 gm (DJ _ _))
   have IH:=ih (a % (m:Int)).toNat (by omega) (m:Int) (b % (m:Int)) g (by omega) hg gm (by rw [Gm ha0]; exact gd1) (fun d h1 h2=> by
    rw [Gm ha0] at h2
    refine gr d ?_ h1
    rw [← ea]
    exact ET h2 (C8 h1 (DJ _ _)))
   rw [Gm ha0] at IH
   rw [red,turn,gb]
   have e3:2 * (a / (m:Int) * ((m:Int) * ((m:Int) - 1) / 2))=a / (m:Int) * ((m:Int) * ((m:Int) - 1)):=by rw [← tri]; grind
   generalize a / (m:Int)=q at *
   generalize a % (m:Int)=a' at *
   subst ea
   grind
theorem Ay {a b m n:Int} (hn:0≤n) (ham:a < m) (hbm:b < m) (hm:0 < m):(a * n+b) / m≤n:=by
 have h1:a * n≤(m - 1) * n:=Ex (by omega) hn
 have h2:a * n+b < (n+1) * m:=by
  have e:(n+1) * m=(m - 1) * n+n+m:=by grind
  omega
 have:=Int.ediv_lt_of_lt_mul hm h2
 omega
def sJ:List U→Out→Prop:=fun us o=> ∃ many step start part:Int,us=[.int many,.int step,.int start,.int part]∧0≤many∧0 < part∧Sz 3000 many∧Sz 3000 step∧Sz 3000 start∧Sz 3000 part∧o=.val (.int (bE many.toNat step start part))
set_option maxHeartbeats 8000000 in
theorem o6 (T:Txt K mg):bo P w K mg base (CXF P w) 1 T.a_row_sum T.d_row_sum ["many","step","start","part"] (spU K (sJ)):=by
 refine br T.F_row_sum bI (fun us o h=> ?_) (fun cdv A outer s H E O us o hr h=> ?_)
 ·obtain ⟨many,step,start,part,rfl,m0,p0,sm,ss,sb,sp,rfl⟩:=h
  rfl
 obtain ⟨many,step,start,part,rfl,m0,p0,sm,ss,sb,sp,rfl⟩:=h
 refine Ws.nox ?_
 refine ae (dF (Tw.t (nG (aF eN (aa 0 rfl) ag) (fun hz=> (n_ (aF eN (aa 3 rfl) ag))))) (by simp; omega) (aJ ?_))
 refine ae (ay (i:=4) bI.nd rfl (Or.inl rfl) ag ?_)
 generalize hS:bE many.toNat step start part=S
 refine ae (e_ (fun m:Int×Int×Int×Int×Int=> [some (.val (.int m.1)),some (.val (.int m.2.1)),some (.val (.int m.2.2.1)),some (.val (.int m.2.2.2.1)),some (.val (.int m.2.2.2.2)),none,none]) (fun n m=> n=m.2.2.2.1.toNat∧0≤m.1∧0 < m.2.2.2.1∧m.2.2.2.2+bE m.1.toNat m.2.1 m.2.2.1 m.2.2.2.1=S∧Sz 3000 m.1∧Sz 3000 m.2.1∧Sz 3000 m.2.2.1∧Sz 3000 m.2.2.2.1) PassesOwn.never ?h0 ?hs)
 case h0=> exact ⟨_,(_,_,_,_,_),⟨rfl,m0,p0,(show 0+bE many.toNat step start part=S by omega),sm,ss,sb,sp⟩,rfl,rfl,rfl,rfl,rfl,trivial⟩
 case hs=>
  rintro n ⟨mn,st,sa,pa,tt⟩ ⟨rfl,m0,p0,e,sm,ss,sb,sp⟩
  dsimp only at m0 p0 e sm ss sb sp ⊢
  refine ⟨_,(eu kH),fun h=> ?_,fun h ps hps=> ?_⟩
  ·have d1:Sz 3000 (st / pa):=ss.ediv
   have d2:Sz 3000 (sa / pa):=sb.ediv
   have dm:Sz 6001 (mn * (mn - 1)):=(L2.Sz.mul sm (L2.Sz.sub' sm (Sz.mono (m:=8) (n:=3000) (x:=1) (by decide) (by decide)))).mono (by decide)
   have d3:Sz 6001 (mn * (mn - 1) / 2):=dm.ediv
   refine ae (Bd (i:=4) Ao bI.nd rfl (Or.inl rfl) rfl (bC (aU (b_ (aa 1 rfl) (aa 3 rfl) (by walk_at "div")) (b_ (aU (aa 0 rfl) (ba (aa 0 rfl) ag) (by walk_at "mul")) ag (by walk_at "div")) (by walk_at "mul")) (aU (b_ (aa 2 rfl) (aa 3 rfl) (by walk_at "div")) (aa 0 rfl) (by walk_at "mul"))) ?_)
   refine ae (ay (i:=1) bI.nd rfl (Or.inl rfl) (bX (aa 1 rfl) (aa 3 rfl) (by walk_at "mod")) ?_)
   refine ae (ay (i:=2) bI.nd rfl (Or.inl rfl) (bX (aa 2 rfl) (aa 3 rfl) (by walk_at "mod")) ?_)
   have a0:=DA st (show pa≠0 by omega)
   have a1:=C6 st p0
   have b0:=DA sa (show pa≠0 by omega)
   have b1:=C6 sa p0
   have sA:Sz 3000 (st % pa):=sp.natle (by omega)
   have sB:Sz 3000 (sa % pa):=sp.natle (by omega)
   have red:=km (a:=st) (b:=sa) p0 mn.toNat
   rw [show ((mn.toNat:Nat):Int)=mn by omega] at red
   refine ae (ay (i:=5) bI.nd rfl (Or.inl rfl) (bC (aU (aa 1 rfl) (aa 0 rfl) (by walk_at "mul")) (aa 2 rfl)) ?_)
   have sT:Sz 6002 (st % pa * mn+sa % pa):=(L2.Sz.add' (L2.Sz.mul sA sm) (sB.mono (n:=6000) (by decide))).mono (by decide)
   refine ae (fc (aF eN (aa 5 rfl) (aa 3 rfl)) (fun hT=> ?_) (fun hF=> (aJ ?_)))
   ·have c:=dTb hT
    have z:=j5 (m:=pa) a0 b0 mn.toNat (by rw [show ((mn.toNat:Nat):Int)=mn by omega]; exact c)
    refine ae (aI (aa 4 rfl) ?_)
    exact vIO (by omega)
   ·have c:=dFb hF
    have apos:0 < st % pa:=by
     rcases De a0 with h | h
     ·exact h
     ·rw [← h,GC] at c
      omega
    have hn:0≤st % pa * mn:=Cs a0 m0
    have turn:=iD apos a1 b0 b1 mn.toNat
    rw [show ((mn.toNat:Nat):Int)=mn by omega] at turn
    have t0:0≤(st % pa * mn+sa % pa) / pa:=Fx (by omega) (by omega)
    have t1:=Ay m0 a1 b1 p0
    have r0:=DA (st % pa * mn+sa % pa) (show pa≠0 by omega)
    have r1:=C6 (st % pa * mn+sa % pa) p0
    have zM:Sz 3000 ((st % pa * mn+sa % pa) / pa):=sm.natle (by omega)
    have zR:Sz 3000 ((st % pa * mn+sa % pa) % pa):=sp.natle (by omega)
    refine ae (ay (i:=0) bI.nd rfl (Or.inl rfl) (b_ (aa 5 rfl) (aa 3 rfl) (by walk_at "div")) ?_)
    refine ae (ay (i:=2) bI.nd rfl (Or.inl rfl) (bX (aa 5 rfl) (aa 3 rfl) (by walk_at "mod")) ?_)
    refine ae (ay (i:=6) bI.nd rfl (Or.inl rfl) (aa 1 rfl) ?_)
    refine ae (ay (i:=1) bI.nd rfl (Or.inl rfl) (aa 3 rfl) ?_)
    refine ae (ay (i:=3) bI.nd rfl (Or.inl rfl) (aa 6 rfl) (aJ ?_))
    refine ⟨_,(_,_,_,_,_),?_,⟨rfl,t0,apos,?_,zM,sp,zR,sA⟩,rfl,rfl,rfl,rfl,rfl,trivial⟩
    ·dsimp only; omega
    ·dsimp only; rw [← turn]; omega
  ·cases h
end
section
variable {P:Program} {w:World} {K:Cn} {mg:Str→Option Value} {base:Heap}
abbrev Pt:=Int×Int
def plt (p q:Pt):Prop:=p.1 < q.1∨(p.1=q.1∧p.2 < q.2)
def af (a b p:Pt):Int:=(b.1 - a.1) * (p.2 - a.2) - (b.2 - a.2) * (p.1 - a.1)
theorem cy {a b c:Pt} (h1:plt a b) (h2:plt b c):plt a c:=by unfold plt at *; omega
theorem bD (a:Pt):¬ plt a a:=by unfold plt; omega
theorem mL (a b:Pt):plt a b∨a=b∨plt b a:=by
 unfold plt
 by_cases h1:a.1=b.1
 ·by_cases h2:a.2=b.2
  ·exact .inr (.inl (Em h1 h2))
  ·omega
 ·omega
def gG (x y:Int):Prop:=0 < x∨(x=0∧0 < y)
theorem bA {a b:Pt} (h:plt a b):gG (b.1 - a.1) (b.2 - a.2):=by unfold plt gG at *; omega
theorem gd {u1 u2 v1 v2 w1 w2:Int} (hu:gG u1 u2) (hv:gG v1 v2) (hw:gG w1 w2) (h1:0≤u1 * v2 - u2 * v1) (h2:0≤v1 * w2 - v2 * w1):0≤u1 * w2 - u2 * w1:=by
 unfold gG at *
 by_cases hv1:v1=0
 ·subst hv1
  have hv2:0 < v2:=by omega
  have hw1:w1=0:=by
   have:v2 * w1≤0:=by rw [GC] at h2; omega
   by_cases hz:0 < w1
   ·have:=DH hv2 hz; omega
   ·omega
  subst hw1
  have hw2:0 < w2:=by omega
  have:=Cs (show 0≤u1 by omega) (show 0≤w2 by omega)
  simp; omega
 ·have hv':0 < v1:=by omega
  have e:v1 * (u1 * w2 - u2 * w1)=u1 * (v1 * w2 - v2 * w1)+w1 * (u1 * v2 - u2 * v1):=by grind
  have p1:=Cs (show 0≤u1 by omega) h2
  have p2:=Cs (show 0≤w1 by omega) h1
  have:0≤v1 * (u1 * w2 - u2 * w1):=by omega
  exact Int.nonneg_of_mul_nonneg_right this hv'
theorem kn {u1 u2 v1 v2 w1 w2:Int} (hu:gG u1 u2) (hv:gG v1 v2) (hw:gG w1 w2) (h1:0 < u1 * v2 - u2 * v1) (h2:0≤v1 * w2 - v2 * w1):0 < u1 * w2 - u2 * w1:=by
 unfold gG at *
 by_cases hv1:v1=0
 ·subst hv1
  have hv2:0 < v2:=by omega
  have hw1:w1=0:=by
   have:v2 * w1≤0:=by rw [GC] at h2; omega
   by_cases hz:0 < w1
   ·have:=DH hv2 hz; omega
   ·omega
  subst hw1
  have hw2:0 < w2:=by omega
  have hu1:0 < u1:=by
   rcases hu with h | ⟨h,_⟩
   ·exact h
   ·subst h; simp at h1
  have:=DH hu1 hw2
  simp; omega
 ·have hv':0 < v1:=by omega
  have e:v1 * (u1 * w2 - u2 * w1)=u1 * (v1 * w2 - v2 * w1)+w1 * (u1 * v2 - u2 * v1):=by grind
  have p1:=Cs (show 0≤u1 by omega) h2
  by_cases hw1:w1=0
  ·subst hw1
   have hw2:0 < w2:=by omega
   have hu1:0 < u1:=by
    rcases hu with h | ⟨h,h'⟩
    ·exact h
    ·subst h
     have:=DH h' hv'
     simp at h1; omega
   have:=DH hu1 hw2
   simp; omega
  ·have p2:=DH (show 0 < w1 by omega) h1
   have:0 < v1 * (u1 * w2 - u2 * w1):=by omega
   exact DR this (by omega)
def mO:List Pt→Prop
 | b::a::r=> plt a b∧mO (a::r)
 | _=> True
def iY:List Pt→Prop
 | c::b::a::r=> 0 < af a b c∧iY (b::a::r)
 | _=> True
def gL (done:List Pt):List Pt→Prop
 | b::a::r=> (∀ q∈done,0≤af a b q)∧gL done (a::r)
 | _=> True
theorem iY.tail:∀ {b:Pt} {st:List Pt},iY (b::st)→iY st
 | _,[],_=> trivial
 | _,[_],_=> trivial
 | _,_::_::_,h=> h.2
theorem mO.tail:∀ {b:Pt} {st:List Pt},mO (b::st)→mO st
 | _,[],_=> trivial
 | _,_::_,h=> h.2
theorem gL.tail {done:List Pt}:∀ {b:Pt} {st:List Pt},gL done (b::st)→gL done st
 | _,[],_=> trivial
 | _,_::_,h=> h.2
def bg (P:Pt):List Pt→List Pt
 | b::a::r=> if af a b P≤0 then bg P (a::r) else b::a::r
 | st=> st
def am (row:List Pt):List Pt:=row.foldl (fun st P=> P::bg P st) []
structure yA (done st:List Pt):Prop where
 ne:st≠[]
 desc:mO st
 turns:iY st
 cover:gL done st
 sub:∀ p∈st,p∈done
structure tN (done st:List Pt) (P:Pt):Prop extends yA done st where
 pend:∀ h r,st=h::r→∀ q∈done,plt h q→0≤af h P q
theorem tD {done:List Pt} {P b a:Pt} {r:List Pt} (hP:∀ q∈done,plt q P) (D:tN done (b::a::r) P) (h:af a b P≤0):tN done (a::r) P:=by
 refine ⟨⟨by simp,D.desc.tail,D.turns.tail,D.cover.tail,fun p hp=> D.sub p (Cp _ hp)⟩,?_⟩
 intro h' r' e q hq hlt
 cases e
 have hab:=D.desc.1
 have hq':=D.cover.1 q hq
 have hbP:=hP b (D.sub b Cy)
 have hqP:=hP q hq
 rcases mL q b with z | z | z
 ·have l1:=bA hlt
  have l2:=bA hab
  have l3:=bA (cy hab hbP)
  have:=gd (u1:=P.1 - a.1) (u2:=P.2 - a.2) (v1:=b.1 - a.1) (v2:=b.2 - a.2) (w1:=q.1 - a.1) (w2:=q.2 - a.2) l3 l2 l1 (by unfold af at h; grind) (by unfold af at hq'; grind)
  unfold af; grind
 ·subst z; unfold af at *; grind
 ·have p:=D.pend b _ rfl q hq z
  unfold af at *
  grind
theorem oz {done:List Pt} {P:Pt} (hP:∀ q∈done,plt q P):∀ st:List Pt,tN done st P→tN done (bg P st) P∧(∀ b a r,bg P st=b::a::r→0 < af a b P)∧(st.getLast?=(bg P st).getLast?)
 | [],D=> absurd rfl D.ne
 | [b],D=> ⟨D,fun _ _ _ e=> by simp [bg] at e,rfl⟩
 | b::a::r,D=> by
  by_cases h:af a b P≤0
  ·rw [bg,if_pos h]
   obtain ⟨h1,h2,h3⟩:=oz hP (a::r) (tD hP D h)
   exact ⟨h1,h2,by rw [← h3]; simp⟩
  ·rw [bg,if_neg h]
   refine ⟨D,fun b' a' r' e=> ?_,rfl⟩
   cases e; omega
theorem sF {done st:List Pt} {P:Pt} (hP:∀ q∈done,plt q P) (D:tN done st P) (ht:∀ b a r,st=b::a::r→0 < af a b P) (hmin:∀ x,st=[x]→∀ q∈done,q=x∨plt x q):yA (done++[P]) (P::st):=by
 have up:∀ (b:Pt) (r:List Pt),mO (b::r)→iY (b::r)→gL done (b::r)→plt b P→(∀ a r',r=a::r'→0≤af a b P)→gL (done++[P]) (b::r):=by
  intro b r
  induction r generalizing b with
  | nil=> intro _ _ _ _ _; trivial
  | cons a r ih=>
   intro hd htn hc hbP hl
   refine ⟨fun q hq=> ?_,?_⟩
   ·rcases Es.mp hq with z | z
    ·exact hc.1 q z
    ·rw [CT.mp z]; exact hl a r rfl
   ·refine ih a hd.tail htn.tail hc.tail (cy hd.1 hbP) (fun c r' e=> ?_)
    subst e
    have t:=htn.1
    have g:=hl a _ rfl
    have l1:=bA hd.2.1
    have l2:=bA hd.1
    have l3:=bA (cy hd.1 hbP)
    have:=gd (u1:=a.1 - c.1) (u2:=a.2 - c.2) (v1:=b.1 - a.1) (v2:=b.2 - a.2) (w1:=P.1 - a.1) (w2:=P.2 - a.2) l1 l2 l3 (by unfold af at t; grind) (by unfold af at g; grind)
    unfold af; grind
 obtain ⟨h,r,e⟩:∃ h r,st=h::r:=by
  cases hst:st with
  | nil=> exact absurd hst D.ne
  | cons h r=> exact ⟨h,r,rfl⟩
 subst e
 have hhP:=hP h (D.sub h Cy)
 refine ⟨by simp,⟨hhP,D.desc⟩,?_,⟨fun q hq=> ?_,?_⟩,fun p hp=> ?_⟩
 ·cases r with
  | nil=> trivial
  | cons a r'=> exact ⟨ht h a r' rfl,D.turns⟩
 ·rcases Es.mp hq with z | z
  ·rcases mL q h with y | y | y
   ·cases r with
    | nil=>
     rcases hmin h rfl q z with w | w
     ·subst w; exact absurd y (bD _)
     ·exact absurd (cy y w) (bD _)
    | cons a r'=>
     have t:=ht h a r' rfl
     have c:=D.cover.1 q z
     have l1:=bA D.desc.1
     have l2:=bA y
     have l3:=bA hhP
     have:=gd (u1:=h.1 - q.1) (u2:=h.2 - q.2) (v1:=h.1 - a.1) (v2:=h.2 - a.2) (w1:=P.1 - h.1) (w2:=P.2 - h.2) l2 l1 l3 (by unfold af at c; grind) (by unfold af at t; grind)
     unfold af; grind
   ·subst y; unfold af; grind
   ·exact D.pend h r rfl q z y
  ·rw [CT.mp z]; unfold af; grind
 ·exact up h r D.desc D.turns D.cover hhP (fun a r' e=> FS (ht h a r' (by rw [e])))
 ·rcases Cu.mp hp with z | z
  ·subst z; exact CS _ Cy
  ·exact DY _ (D.sub p z)
theorem ky (row:List Pt) (P:Pt):am (row++[P])=P::bg P (am row):=by
 unfold am; rw [List.foldl_append]; rfl
theorem jW {row:List Pt} (hs:row.Pairwise plt):∀ n,0 < n→n≤row.length→yA (row.take n) (am (row.take n))∧(am (row.take n)).getLast?=row.head?∧(am (row.take n)).head?=row[n - 1]?
 | 0,h,_=> absurd h (by decide)
 | 1,_,h=> by
  cases row with
  | nil=> simp at h
  | cons a r=>
   simp only [Hz,Hx]
   exact ⟨⟨by simp [am],trivial,trivial,trivial,fun p hp=> by simpa [am,bg] using hp⟩,rfl,rfl⟩
 | n+2,_,h=> by
  obtain ⟨K,hl,hh⟩:=jW hs (n+1) (by omega) (by omega)
  have hn:n+1 < row.length:=by omega
  have et:row.take (n+2)=row.take (n+1)++[row[n+1]]:=by rw [List.take_succ_eq_append_getElem hn]
  have hP:∀ q∈row.take (n+1),plt q row[n+1]:=fun q hq=> by
   obtain ⟨i,hi,e⟩:=Fp.mp hq
   subst e
   exact C4.mp hs i (n+1) (by omega) hn (by omega)
  have D:tN (row.take (n+1)) (am (row.take (n+1))) row[n+1]:=⟨K,fun h' r e q hq hlt=> by
   exfalso
   rw [e] at hh
   simp only [Ip,HG] at hh
   have hn':n < row.length:=by omega
   rw [Cm hn'] at hh
   have hh':=Dg hh
   obtain ⟨i,hi,e2⟩:=Fp.mp hq
   subst e2
   rw [hh'] at hlt
   rcases EO i n with z | z
   ·exact bD _ (cy hlt (C4.mp hs i n (by omega) hn' z))
   ·have:i=n:=by omega
    subst this
    exact bD _ hlt⟩
  obtain ⟨D2,ht,hlast⟩:=oz hP _ D
  rw [et,ky]
  refine ⟨sF hP D2 ht (fun x e q hq=> ?_),?_,?_⟩
  ·rw [e,hl] at hlast
   simp at hlast
   obtain ⟨i,hi,e2⟩:=Fp.mp hq
   have h0:0 < row.length:=by omega
   have e3:row[0]=x:=by
    rw [Fb,Cm h0] at hlast
    exact Dg hlast
   subst e2
   rcases GB i with z | z
   ·subst z; exact .inl e3
   ·right; rw [← e3]; exact C4.mp hs 0 i h0 (by omega) z
  ·rw [List.getLast?_cons,← hlast,hl]
   cases row with
   | nil=> simp at hn
   | cons a r=> rfl
  ·simp only [Ip,HG]
   rw [show n+2 - 1=n+1 by omega,Cm hn]
theorem cm {row:List Pt} (hs:row.Pairwise plt) (h:row≠[]):yA row (am row)∧(am row).getLast?=row.head?∧(am row).head?=row.getLast?:=by
 have h0:0 < row.length:=DM.mpr h
 obtain ⟨h1,h2,h3⟩:=jW hs row.length h0 (Cv _)
 rw [E3] at h1 h2 h3
 exact ⟨h1,h2,by rw [h3,D8]⟩
theorem jd {u1 u2 v1 v2 w1 w2:Int} (hu:gG u1 u2) (hv:gG v1 v2) (hw:gG w1 w2) (h1:0≤u1 * v2 - u2 * v1) (h2:0 < v1 * w2 - v2 * w1):0 < u1 * w2 - u2 * w1:=by
 unfold gG at *
 by_cases hv1:v1=0
 ·subst hv1
  have hv2:0 < v2:=by omega
  have:=Cs (show 0≤v2 by omega) (show 0≤w1 by omega)
  simp at h2; omega
 ·have hv':0 < v1:=by omega
  have hu1:0 < u1:=by
   rcases hu with h | ⟨h,h'⟩
   ·exact h
   ·subst h
    have:=DH h' hv'
    simp at h1; omega
  have e:v1 * (u1 * w2 - u2 * w1)=u1 * (v1 * w2 - v2 * w1)+w1 * (u1 * v2 - u2 * v1):=by grind
  have p1:=DH hu1 h2
  have p2:=Cs (show 0≤w1 by omega) h1
  have q:0 < v1 * (u1 * w2 - u2 * w1):=by omega
  exact DR q hv'
def low (row:List Pt) (p:Pt):Prop:=∀ a∈row,∀ b∈row,plt a p→plt p b→0 < af a p b
theorem y9 {row:List Pt} {p:Pt}:∀ (st:List Pt) (n:Pt),mO (n::st)→iY (n::st)→gL row (n::st)→p∈st→(∀ l,(n::st).getLast?=some l→plt l p)→
  ∃ n' q,0 < af q p n'∧plt q p∧plt p n'∧(∀ x∈row,0≤af p n' x)∧(∀ x∈row,0≤af q p x)
 | [],n,_,_,_,hp,_=> by simp at hp
 | h::r,n,D,T,C,hp,hl=> by
  by_cases e:h=p
  ·subst e
   cases r with
   | nil=> exact absurd (hl h (by simp)) (bD h)
   | cons q r'=> exact ⟨n,q,T.1,D.2.1,D.1,C.1,C.2.1⟩
  ·have hp':p∈r:=by
    rcases Cu.mp hp with z | z
    ·exact absurd z.symm e
    ·exact z
   exact y9 r h D.tail T.tail C.tail hp' (fun l hl'=> hl l (by rw [Dj]; exact hl'))
theorem mR {row:List Pt} (hs:row.Pairwise plt) {p:Pt} (hp:p∈am row):low row p:=by
 intro a ha b hb hap hpb
 have hne:row≠[]:=fun z=> by rw [z] at ha; simp at ha
 obtain ⟨K,hlast,hhead⟩:=cm hs hne
 have mn:∀ x∈row,∀ m,row.head?=some m→x=m∨plt m x:=fun x hx m hm=> by
  cases row with
  | nil=> simp at hx
  | cons y r=>
   cases hm
   rcases Cu.mp hx with z | z
   ·exact .inl z
   ·exact .inr ((CL.mp hs).1 x z)
 have mx:∀ x∈row,∀ m,row.getLast?=some m→x=m∨plt x m:=fun x hx m hm=> by
  obtain ⟨i,hi⟩:=Ds.mp hx
  have hil:=(Cz.mp hi).1
  rw [D8] at hm
  have hml:=(Cz.mp hm).1
  rcases CW (show i≤row.length - 1 by omega) with z | z
  ·right
   have h1:=C4.mp hs i (row.length - 1) hil hml z
   rw [(Cz.mp hi).2,(Cz.mp hm).2] at h1
   exact h1
  ·left; rw [z,hm] at hi; exact (Dg hi).symm
 cases hst:am row with
 | nil=> exact absurd hst K.ne
 | cons n st=>
  rw [hst] at K hlast hhead hp
  have hn:row.getLast?=some n:=by rw [← hhead]; rfl
  have hpn:p∈st:=by
   rcases Cu.mp hp with z | z
   ·rcases mx b hb n hn with y | y
    ·rw [y,← z] at hpb; exact absurd hpb (bD p)
    ·rw [z] at hpb; exact absurd (cy hpb y) (bD n)
   ·exact z
  obtain ⟨n',q,t,qp,pn,c1,c2⟩:=y9 st n K.desc K.turns K.cover hpn (fun l hl=> by
   rw [hlast] at hl
   rcases mn a ha l hl with y | y
   ·rw [← y]; exact hap
   ·exact cy y hap)
  have g1:=c2 a ha
  have g2:=c1 b hb
  unfold af at *
  have k1:0≤(p.1 - a.1) * (p.2 - q.2) - (p.2 - a.2) * (p.1 - q.1):=by grind
  have k2:0 < (p.1 - q.1) * (n'.2 - p.2) - (p.2 - q.2) * (n'.1 - p.1):=by grind
  have k3:0≤(n'.1 - p.1) * (b.2 - p.2) - (n'.2 - p.2) * (b.1 - p.1):=by grind
  have k4:=kn (bA qp) (bA pn) (bA hpb) k2 k3
  have k5:=jd (bA hap) (bA qp) (bA hpb) k1 k4
  grind
theorem wk {row:List Pt} {p:Pt}:∀ (st:List Pt) (h:Pt),mO (h::st)→gL row (h::st)→p∈row→p ∉ h::st→plt p h→(∀ l,(h::st).getLast?=some l→plt l p)→∃ a∈h::st,∃ b∈h::st,plt a p∧plt p b∧0≤af a b p
 | [],h,_,_,_,_,hp,hl=> absurd (cy hp (hl h (by simp))) (bD p)
 | a::r,h,D,C,hr,hno,hp,hl=> by
  rcases mL p a with z | z | z
  ·obtain ⟨x,hx,y,hy,k⟩:=wk r a D.tail C.tail hr (fun w=> hno (Cp _ w)) z (fun l hl'=> hl l (by rw [Dj]; exact hl'))
   exact ⟨x,Cp _ hx,y,Cp _ hy,k⟩
  ·exact absurd (by rw [z]; simp) hno
  ·exact ⟨a,by simp,h,by simp,z,hp,C.1 p hr⟩
theorem gap {row:List Pt} (hs:row.Pairwise plt) {p:Pt} (hp:p∈row) (hno:p ∉ am row):∃ a∈am row,∃ b∈am row,plt a p∧plt p b∧af a p b≤0:=by
 have hne:row≠[]:=fun z=> by rw [z] at hp; simp at hp
 obtain ⟨K,hlast,hhead⟩:=cm hs hne
 cases hst:am row with
 | nil=> exact absurd hst K.ne
 | cons n st=>
  rw [hst] at K hlast hhead hno
  have hn:row.getLast?=some n:=by rw [← hhead]; rfl
  have pn:plt p n:=by
   obtain ⟨i,hi⟩:=Ds.mp hp
   have hil:=(Cz.mp hi).1
   rw [D8] at hn
   have hml:=(Cz.mp hn).1
   rcases CW (show i≤row.length - 1 by omega) with z | z
   ·have h1:=C4.mp hs i (row.length - 1) hil hml z
    rw [(Cz.mp hi).2,(Cz.mp hn).2] at h1
    exact h1
   ·rw [z,hn] at hi; exact absurd (by rw [← Dg hi]; simp) hno
  obtain ⟨a,ha,b,hb,k1,k2,k3⟩:=wk st n K.desc K.cover hp hno pn (fun l hl=> by
   have hl':=hl
   rw [hlast] at hl
   cases row with
   | nil=> simp at hp
   | cons y r=>
    cases hl
    rcases Cu.mp hp with z | z
    ·exact absurd (by rw [z]; exact EW hl') hno
    ·exact (CL.mp hs).1 p z)
  refine ⟨a,ha,b,hb,k1,k2,?_⟩
  unfold af at *
  grind
theorem tq {row row':List Pt} (hs:row.Pairwise plt) (hs':row'.Pairwise plt) (h1:∀ p∈row',p∈row) (h2:∀ p∈am row,p∈row') (sub:∀ (r:List Pt) (q:Pt),q∈am r→q∈r) (p:Pt):p∈am row'↔p∈am row:=by
 constructor
 ·intro hp
  refine DP fun hno=> ?_
  obtain ⟨a,ha,b,hb,k1,k2,k3⟩:=gap hs (h1 p (sub _ _ hp)) hno
  have:=mR hs' hp a (h2 a ha) b (h2 b hb) k1 k2
  omega
 ·intro hp
  refine DP fun hno=> ?_
  obtain ⟨a,ha,b,hb,k1,k2,k3⟩:=gap hs' (h2 p hp) hno
  have:=mR hs hp a (h1 a (sub _ _ ha)) b (h1 b (sub _ _ hb)) k1 k2
  omega
abbrev Szp (m:Nat) (p:P2):Prop:=Sz m p.1∧Sz m p.2
theorem zq (b:P2) (r:List P2):atI ((b::r).reverse.map pu) (-1)=some (pu b):=by
 have h:ixN ((b::r).reverse.map pu).length (-1)=some r.length:=by
  unfold ixN
  simp
  omega
 unfold atI
 rw [h]
 simp
theorem yX (b a:P2) (r:List P2):atI ((b::a::r).reverse.map pu) (-2)=some (pu a):=by
 have h:ixN ((b::a::r).reverse.map pu).length (-2)=some r.length:=by
  unfold ixN
  simp
  omega
 unfold atI
 rw [h]
 simp
theorem jj (P:P2):∀ st:List P2,(bg P st).length≤st.length
 | []=> Cv _
 | [_]=> Cv _
 | b::a::r=> by
  unfold bg
  split
  ·have:=jj P (a::r); simp only [Dy] at *; omega
  ·exact Cv _
theorem qw (P:P2):∀ (st:List P2) (q:P2),q∈bg P st→q∈st
 | [],_,h=> h
 | [_],_,h=> h
 | b::a::r,q,h=> by
  unfold bg at h
  split at h
  ·exact Cp _ (qw P (a::r) q h)
  ·exact h
theorem fB {row:List P2} {i:Nat} {P:P2} (h:row[i]?=some P):am (row.take (i+1))=P::bg P (am (row.take i)):=by
 rw [E8,h]; exact ky _ _
theorem gw (row:List P2):∀ i,(am (row.take i)).length≤i
 | 0=> by simp [am]
 | i+1=> by
  have ih:=gw row i
  cases h:row[i]? with
  | none=> rw [E8,h]; simp; omega
  | some P=>
   rw [fB h]
   have:=jj P (am (row.take i))
   simp only [Dy]; omega
theorem eV (row:List P2):∀ i q,q∈am (row.take i)→q∈row
 | 0,q,h=> by simp [am] at h
 | i+1,q,h=> by
  cases hi:row[i]? with
  | none=> rw [E8,hi] at h; exact eV row i q (by simpa using h)
  | some P=>
   rw [fB hi] at h
   rcases Cu.mp h with e | e
   ·rw [e]; exact CM hi
   ·exact eV row i q (qw P _ q e)
theorem wI (n:Int):decide (sgn n < 1)=decide (n≤0):=by
 have h:sgn n < 1↔n≤0:=by
  unfold sgn
  split
  ·omega
  ·split <;> omega
 exact decide_eq_decide.mpr h
theorem fR (l:List P2):iS (l.map pu) none (some (-1))=l.dropLast.map pu:=by
 unfold iS HT.sIx
 rw [GS,List.dropLast_eq_take]
 simp
 try omega
def aj (pts:List P2):List P2:=if (ST.srt pts).length=1 then ST.srt pts else (am (ST.srt pts)).reverse.dropLast++(am (ST.srt pts).reverse).reverse.dropLast
theorem lV (a b:Pt):plt a b↔ST.ltP a b=true:=by unfold plt ST.ltP; simp
theorem hG {l:List Pt}:ST.Asc l↔l.Pairwise plt:=⟨fun h=> h.imp fun {a b} k=> (lV a b).mpr k,fun h=> h.imp fun {a b} k=> (lV a b).mp k⟩
theorem kX:∀ {st:List Pt},mO st→st.Pairwise (fun x y=> plt y x)
 | [],_=> Fl
 | [_],_=> by simp
 | b::a::r,h=> by
  have ih:=kX h.2
  refine CL.mpr ⟨fun x hx=> ?_,ih⟩
  rcases Cu.mp hx with z | z
  ·rw [z]; exact h.1
  ·exact cy ((CL.mp ih).1 x z) h.1
theorem bP (row:List Pt) (q:Pt) (h:q∈am row):q∈row:=by
 have:=eV row row.length q
 rw [E3] at this
 exact this h
theorem d5 {row:List Pt} (hs:row.Pairwise plt):ST.Asc (am row).reverse:=by
 by_cases hne:row=[]
 ·subst hne; exact Fl
 ·exact hG.mpr (FT.mpr (kX (cm hs hne).1.desc))
theorem oo {row row':List Pt} (hs:row.Pairwise plt) (hs':row'.Pairwise plt) (h1:∀ p∈row',p∈row) (h2:∀ p∈am row,p∈row'):am row'=am row:=by
 have e:=ST.asc_one (d5 hs') (d5 hs) fun z=> by
  rw [CI,CI]
  exact tq hs hs' h1 h2 bP z
 exact List.reverse_inj.mp e
def ng (p:Pt):Pt:=(-p.1,-p.2)
theorem gI (p:Pt):ng (ng p)=p:=by unfold ng; simp
theorem Ac (l:List Pt):(l.map ng).map ng=l:=by
 rw [Dz,show ng ∘ ng=id from funext gI,Jw]
theorem jV (a b c:Pt):af (ng a) (ng b) (ng c)=af a b c:=by unfold af ng; grind
theorem jP {a b:Pt} (h:plt a b):plt (ng b) (ng a):=by unfold plt ng at *; simp; omega
theorem uY (P:Pt):∀ st:List Pt,bg (ng P) (st.map ng)=(bg P st).map ng
 | []=> rfl
 | [_]=> rfl
 | b::a::r=> by
  show bg (ng P) (ng b::ng a::r.map ng)=_
  unfold bg
  rw [jV]
  split
  ·exact uY P (a::r)
  ·rfl
theorem gc:∀ row:List Pt,am (row.map ng)=(am row).map ng:=fun row=> by
 have key:∀ (l:List Pt) (st:List Pt),(l.map ng).foldl (fun st P=> P::bg P st) (st.map ng)=(l.foldl (fun st P=> P::bg P st) st).map ng:=by
  intro l
  induction l with
  | nil=> intro st; rfl
  | cons p r ih=>
   intro st
   rw [CZ,Ew,Ew,uY]
   exact ih (p::bg p st)
 exact key row []
theorem dj {row:List Pt} (hs:row.Pairwise plt):(row.reverse.map ng).Pairwise plt:=by
 rw [Dw,FT]
 exact hs.imp fun {a b} h=> jP h
theorem bS (row:List Pt):am row.reverse=(am (row.reverse.map ng)).map ng:=by rw [gc,Ac]
theorem mf {row row':List Pt} (hs:row.Pairwise plt) (hs':row'.Pairwise plt) (h1:∀ p∈row',p∈row) (h2:∀ p∈am row.reverse,p∈row'):am row'.reverse=am row.reverse:=by
 rw [bS row,bS row']
 congr 1
 refine oo (dj hs) (dj hs') (fun p hp=> ?_) (fun p hp=> ?_)
 ·obtain ⟨q,hq,rfl⟩:=Cr.mp hp
  exact Cr.mpr ⟨q,CI.mpr (h1 q (CI.mp hq)),rfl⟩
 ·rw [gc] at hp
  obtain ⟨q,hq,rfl⟩:=Cr.mp hp
  exact Cr.mpr ⟨q,CI.mpr (h2 q hq),rfl⟩
theorem uX {row:List Pt} (hs:row.Pairwise plt) (h2:2≤row.length):∃ mn mx t1 t2,am row=mx::t1∧am row.reverse=mn::t2∧mn∈t1∧mx∈t2∧(∀ p∈row,p=mn∨plt mn p)∧(∀ p∈row,p=mx∨plt p mx)∧mn∈row∧mx∈row:=by
 have hne:row≠[]:=fun z=> by rw [z] at h2; simp at h2
 obtain ⟨K,hl,hh⟩:=cm hs hne
 have hneR:row.reverse.map ng≠[]:=by simpa using hne
 obtain ⟨KR,hlR,hhR⟩:=cm (dj hs) hneR
 have e1:row.head?=some row[0]:=by rw [Fb]; exact Cm (by omega)
 have e2:row.getLast?=some row[row.length - 1]:=by rw [D8]; exact Cm (by omega)
 have l01:plt row[0] row[row.length - 1]:=C4.mp hs 0 (row.length - 1) (by omega) (by omega) (by omega)
 have mnA:∀ p∈row,p=row[0]∨plt row[0] p:=fun p hp=> by
  obtain ⟨i,hi,rfl⟩:=Ht.mp hp
  rcases GB i with z | z
  ·left; subst z; rfl
  ·right; exact C4.mp hs 0 i (by omega) hi z
 have mxA:∀ p∈row,p=row[row.length - 1]∨plt p row[row.length - 1]:=fun p hp=> by
  obtain ⟨i,hi,rfl⟩:=Ht.mp hp
  rcases CW (show i≤row.length - 1 by omega) with z | z
  ·right; exact C4.mp hs i (row.length - 1) hi (by omega) z
  ·left; subst z; rfl
 have ne:row[0]≠row[row.length - 1]:=fun z=> by rw [z] at l01; exact bD _ l01
 generalize row[0]=mn at *
 generalize row[row.length - 1]=mx at *
 have mmn:mn∈row:=List.mem_of_head? e1
 have mmx:mx∈row:=EW e2
 rw [e1] at hl
 rw [e2] at hh
 have hlR':(am row.reverse).getLast?=some mx:=by
  rw [bS,FK,hlR,GH,HH,e2]; simp [gI]
 have hhR':(am row.reverse).head?=some mn:=by
  rw [bS,GH,hhR,FK,FU,e1]; simp [gI]
 cases hb:am row with
 | nil=> rw [hb] at hh; cases hh
 | cons x t1=>
  rw [hb] at hh hl
  cases hh
  cases hbR:am row.reverse with
  | nil=> rw [hbR] at hhR'; cases hhR'
  | cons y t2=>
   rw [hbR] at hhR' hlR'
   cases hhR'
   refine ⟨_,_,t1,t2,rfl,rfl,?_,?_,mnA,mxA,mmn,mmx⟩
   ·cases t1 with
    | nil=> simp at hl; exact absurd hl.symm ne
    | cons z r=> rw [Dj] at hl; exact EW hl
   ·cases t2 with
    | nil=> simp at hlR'; exact absurd hlR' ne
    | cons z r=> rw [Dj] at hlR'; exact EW hlR'
theorem uE (st:List Pt):st.reverse.dropLast=st.tail.reverse:=by
 cases st with
 | nil=> rfl
 | cons h t=> simp
theorem gg {l:List Pt}:l.reverse.Nodup↔l.Nodup:=by
 unfold List.Nodup
 rw [FT]
 exact ⟨fun h=> h.imp fun k=> Ne.symm k,fun h=> h.imp fun k=> Ne.symm k⟩
theorem gf:∀ {l m:List Pt},l.Nodup→(∀ x∈l,x∈m)→l.length≤m.length
 | [],_,_,_=> DG _
 | x::l,m,h,hs=> by
  obtain ⟨h1,h2⟩:=EG.mp h
  have hx:x∈m:=hs x Cy
  have ih:=gf (m:=m.erase x) h2 fun y hy=> (List.mem_erase_of_ne (fun e=> h1 (by rw [← e]; exact hy))).mpr (hs y (Cp _ hy))
  rw [List.length_erase_of_mem hx] at ih
  have:=D4 hx
  simp only [Dy]; omega
theorem dX (pts:List Pt):(ST.srt pts).Pairwise plt:=hG.mp (ST.srt_asc pts)
theorem fJ {pts:List Pt} (h:2≤(ST.srt pts).length):aj pts=(am (ST.srt pts)).tail.reverse++(am (ST.srt pts).reverse).tail.reverse:=by
 unfold aj; rw [if_neg (by omega),uE,uE]
theorem ik {pts:List Pt} (h:pts≠[]):aj pts≠[]:=by
 have hs:ST.srt pts≠[]:=fun z=> by
  obtain ⟨p,r,rfl⟩:=Gw h
  have:=(ST.srt_mem p (p::r)).mpr Cy
  rw [z] at this; simp at this
 by_cases h1:(ST.srt pts).length=1
 ·unfold aj; rw [if_pos h1]; exact hs
 ·have h2:2≤(ST.srt pts).length:=by have:=DM.mpr hs; omega
  obtain ⟨mn,mx,t1,t2,e1,e2,m1,m2,_⟩:=uX (dX pts) h2
  rw [fJ h2,e1,e2]
  intro z
  have:t1.reverse=[]:=(List.append_eq_nil_iff.mp z).1
  rw [List.reverse_eq_nil_iff.mp this] at m1
  simp at m1
theorem bj (pts:List Pt):(aj pts).Nodup:=by
 have nd:∀ {l:List Pt},l.Pairwise plt→l.Nodup:=fun h=> h.imp fun {a b} k e=> by rw [e] at k; exact bD b k
 by_cases h2:2≤(ST.srt pts).length
 ·have hs:=dX pts
  obtain ⟨mn,mx,t1,t2,e1,e2,m1,m2,hmn,hmx,i1,i2⟩:=uX hs h2
  have n1:(mx::t1).Nodup:=by rw [← e1]; exact gg.mp (nd (hG.mp (d5 hs)))
  have n2:(mn::t2).Nodup:=by
   rw [← e2,bS]
   have:=gg.mp (nd (hG.mp (d5 (dj hs))))
   refine Dw.mpr (this.imp fun {a b} hab e=> hab ?_)
   rw [← gI a,e,gI]
  obtain ⟨x1,y1⟩:=EG.mp n1
  obtain ⟨x2,y2⟩:=EG.mp n2
  rw [fJ h2,e1,e2,EV,EV,FJ]
  refine ⟨gg.mpr y1,gg.mpr y2,fun p hp q hq=> ?_⟩
  rintro rfl
  have p1:p∈t1:=CI.mp hp
  have p2:p∈t2:=CI.mp hq
  have b1:p∈am (ST.srt pts):=by rw [e1]; exact Cp _ p1
  have b2:p∈am (ST.srt pts).reverse:=by rw [e2]; exact Cp _ p2
  have pr:=bP _ _ b1
  have l1:plt mn p:=(hmn p pr).resolve_left fun e=> x2 (by rw [← e]; exact p2)
  have l2:plt p mx:=(hmx p pr).resolve_left fun e=> x1 (by rw [← e]; exact p1)
  have d1:=mR hs b1 mn i1 mx i2 l1 l2
  have b3:ng p∈am ((ST.srt pts).reverse.map ng):=by rw [gc]; exact Cr.mpr ⟨p,b2,rfl⟩
  have d2:=mR (dj hs) b3 (ng mx) (Cr.mpr ⟨mx,CI.mpr i2,rfl⟩) (ng mn) (Cr.mpr ⟨mn,CI.mpr i1,rfl⟩) (jP l2) (jP l1)
  rw [jV] at d2
  unfold af at d1 d2
  grind
 ·unfold aj
  split
  ·exact nd (dX pts)
  ·have e:ST.srt pts=[]:=DU.mp (by omega)
   rw [e]; exact IK
theorem aH (pts:List Pt):∀ p∈aj pts,p∈pts:=fun p hp=> by
 unfold aj at hp
 split at hp
 ·exact (ST.srt_mem p pts).mp hp
 ·rcases Es.mp hp with h | h
  ·exact (ST.srt_mem p pts).mp (bP _ _ (CI.mp (Hu _ h)))
  ·exact (ST.srt_mem p pts).mp (CI.mp (bP _ _ (CI.mp (Hu _ h))))
theorem jm (pts:List Pt):(aj pts).length≤pts.length:=gf (bj pts) (aH pts)
theorem lA (pts:List Pt):aj (aj pts)=aj pts:=by
 by_cases h2:2≤(ST.srt pts).length
 ·have hs:=dX pts
  obtain ⟨mn,mx,t1,t2,e1,e2,m1,m2,hmn,hmx,i1,i2⟩:=uX hs h2
  have ec:=fJ h2
  have mem1:∀ p∈am (ST.srt pts),p∈aj pts:=fun p hp=> by
   rw [ec,e1,e2,EV,EV]
   rw [e1] at hp
   rcases Cu.mp hp with z | z
   ·rw [z]; exact CS _ (CI.mpr m2)
   ·exact DY _ (CI.mpr z)
  have mem2:∀ p∈am (ST.srt pts).reverse,p∈aj pts:=fun p hp=> by
   rw [ec,e1,e2,EV,EV]
   rw [e2] at hp
   rcases Cu.mp hp with z | z
   ·rw [z]; exact DY _ (CI.mpr m1)
   ·exact CS _ (CI.mpr z)
  have hs':=dX (aj pts)
  have sub:∀ p∈ST.srt (aj pts),p∈ST.srt pts:=fun p hp=> (ST.srt_mem p pts).mpr (aH pts p ((ST.srt_mem p _).mp hp))
  have q1:=oo hs hs' sub fun p hp=> (ST.srt_mem p _).mpr (mem1 p hp)
  have q2:=mf hs hs' sub fun p hp=> (ST.srt_mem p _).mpr (mem2 p hp)
  have len:2≤(ST.srt (aj pts)).length:=by
   have a1:mn∈ST.srt (aj pts):=(ST.srt_mem _ _).mpr (mem1 mn (by rw [e1]; exact Cp _ m1))
   have a2:mx∈ST.srt (aj pts):=(ST.srt_mem _ _).mpr (mem1 mx (by rw [e1]; exact Cy))
   have ne:mn≠mx:=fun z=> by
    have nd:=bj pts
    rw [ec,e1,e2,EV,EV,FJ] at nd
    exact nd.2.2 mn (CI.mpr m1) mx (CI.mpr m2) z
   have:=gf (l:=[mn,mx]) (m:=ST.srt (aj pts)) (by simp [ne]) (fun x hx=> by
    rcases Cu.mp hx with z | z
    ·rw [z]; exact a1
    ·rw [CT.mp z]; exact a2)
   exact this
  rw [fJ len,q1,q2,← ec]
 ·have e:aj pts=ST.srt pts:=by
   unfold aj
   split
   ·rfl
   ·have e:ST.srt pts=[]:=DU.mp (by omega)
    rw [e]; rfl
  rw [e]
  have e3:ST.srt (ST.srt pts)=ST.srt pts:=ST.asc_srt (ST.srt_asc pts)
  unfold aj
  rw [e3]
  split
  ·rfl
  ·have e:ST.srt pts=[]:=DU.mp (by omega)
   rw [e]; rfl
end
section
variable {P:Program} {w:World} {K:Cn} {mg:Str→Option Value} {base:Heap}
def tE:List U→Out→Prop:=fun us o=> ∃ P Q R:P2,us=[pu P,pu Q,pu R]∧Szp 5000 P∧Szp 5000 Q∧Szp 5000 R∧o=.val (.int (sgn (af P Q R)))
set_option maxHeartbeats 8000000 in
theorem yn (T:Txt K mg):bo P w K mg base (CXF P w) 2 T.a_turn T.d_turn ["P","Q","R"] (spU K (tE)):=by
 refine br T.F_turn yu (fun us o h=> ?_) (fun cdv A outer s H E O us o hr h=> ?_)
 ·obtain ⟨P,Q,R,rfl,⟨p1,p2⟩,⟨q1,q2⟩,⟨r1,r2⟩,rfl⟩:=h
  rfl
 obtain ⟨P,Q,R,rfl,⟨p1,p2⟩,⟨q1,q2⟩,⟨r1,r2⟩,rfl⟩:=h
 refine Ws.nox ?_
 refine ae (aI (aB ((qP T).mono (by decide)) hr rfl T.m_sign T.F_sign.kp T.b_sign aC (ac (ba (aU (ba (aE (aa 1 rfl) ag rfl rfl) (aE (aa 0 rfl) ag rfl rfl)) (ba (aE (aa 2 rfl) ag rfl rfl) (aE (aa 0 rfl) ag rfl rfl)) (by walk_at "mul")) (aU (ba (aE (aa 1 rfl) ag rfl rfl) (aE (aa 0 rfl) ag rfl rfl)) (ba (aE (aa 2 rfl) ag rfl rfl) (aE (aa 0 rfl) ag rfl rfl)) (by walk_at "mul"))) ak aZ) ⟨_,rfl,rfl⟩) ?_)
 exact rfl
def kh:List U→Out→Prop:=fun us o=> ∃ row:List P2,us=[lp row]∧(∀ p∈row,Szp 5000 p)∧row.length≤900∧o=.new ((am row).reverse.map pu)
set_option maxHeartbeats 8000000 in
theorem gK (T:Txt K mg):bo P w K mg base (CXF P w) 3 T.a_left_bends T.d_left_bends ["row"] (spU K (kh)):=by
 refine br T.F_left_bends eS (fun us o h=> ?_) (fun cdv A outer s H E O us o hr h=> ?_)
 ·obtain ⟨row,rfl,sz,hl,rfl⟩:=h
  rfl
 obtain ⟨row,rfl,sz,hl,rfl⟩:=h
 refine Ws.nox ?_
 refine ae (ko (i:=1) eS.nd rfl (Or.inl rfl) (fN cE) ?_)
 refine ae (jJ (fun st:List P2=> [some (.val (lp row)),some (.own (st.reverse.map pu)),none]) (fun i st=> st=am (row.take i)) rfl PassesOwn.never (cY (aa 0 rfl) (.inl rfl)) ?h0 ?hs ?hd)
 case h0=> exact ⟨[],rfl,rfl,rfl,trivial⟩
 case hs=>
  rintro H0 i x _ hx rfl
  obtain ⟨P,hP,mP,rfl⟩:=rY hx
  have hi:i < row.length:=aL hP
  have sP:=sz P mP
  refine ⟨_,(j6 (i:=2) eS.nd rfl (Or.inl rfl)),?_⟩
  have len0:=gw row i
  refine gO (fun ps=> SubP [some (.val (lp row)),some (.own ((bg P (am (row.take i))).reverse.map pu)),some (.val (pu P))] ps) (e_ (fun s2:List P2=> [some (.val (lp row)),some (.own (s2.reverse.map pu)),some (.val (pu P))]) (fun m s2=> m=s2.length∧bg P s2=bg P (am (row.take i))∧(∀ p∈s2,p∈row)∧s2.length≤i) PassesOwn.never ?h0 ?hs) ?hj
  case h0=> exact ⟨_,_,⟨rfl,rfl,fun q hq=> eV row i q hq,len0⟩,rfl,rfl,rfl,trivial⟩
  case hs=>
   rintro m s2 ⟨rfl,e2,sub,len2⟩
   match s2,e2,sub,len2 with
   | [],e2,sub,len2=>
    refine ⟨false,?_,fun h=> (nomatch h),fun h ps hps=> e2 ▸ hps⟩
    exact (Tw.t (mF (aF i6 (fP 1 rfl rfl T.z_len) ag) rfl))
   | [b],e2,sub,len2=>
    refine ⟨false,?_,fun h=> (nomatch h),fun h ps hps=> e2 ▸ hps⟩
    exact (Tw.t (mF (aF i6 (fP 1 rfl rfl T.z_len) ag) rfl))
   | b::a::r,e2,sub,len2=>
    have sa:=sz a (sub a (by simp))
    have sb:=sz b (sub b (by simp))
    have e1:decide ((1:Int) < ((((b::a::r).reverse.map pu).length:Nat):Int))=true:=decide_eq_true (by simp; omega)
    refine ⟨decide ((1:Int) < ((((b::a::r).reverse.map pu).length:Nat):Int)) && decide (sgn (af a b P) < 1),?_,fun h=> ?_,fun h ps hps=> ?_⟩
    ·exact (Tw.t (oD (aF i6 (fP 1 rfl rfl T.z_len) ag) (fun hz=> (mW (aF eN (aB ((yn T).mono (by decide)) hr rfl T.m_turn T.F_turn.kp T.b_turn aC (ac (qM 1 rfl (ck ag) (yX b a r)) (ac (qM 1 rfl (ck ag) (zq b (a::r))) (ac (aa 2 rfl) ak ah) dh) dh) ⟨a,b,P,rfl,sa,sb,sP,rfl⟩) ag)))))
    ·rw [e1,Gf,wI] at h
     have hd:=dTb h
     refine ae (zx 1 rfl (by simp) (aJ ?_))
     refine ⟨_,a::r,?_,⟨rfl,?_,fun q hq=> sub q (Cp _ hq),?_⟩,rfl,?_,rfl,trivial⟩
     ·simp
     ·rw [← e2]; conv=> rhs; unfold bg
      rw [if_pos hd]
     ·simp only [Dy] at *; omega
     ·exact congrArg (fun l=> some (Sl.own l)) (by simp)
    ·rw [e1,Gf,wI] at h
     have hd:=dFb h
     have e3:bg P (b::a::r)=b::a::r:=by conv=> lhs; unfold bg
                                        rw [if_neg hd]
     rw [← e2,e3]
     exact hps
  case hj=>
   intro ps hps
   refine dW ?_ hps
   have e4:=fB hP
   have len3:=jj P (am (row.take i))
   refine ae (fg 1 rfl (aa 2 rfl) (by rw [Co,Do]; exact aO (by omega)) (aJ ?_))
   refine ⟨_,rfl,rfl,?_,trivial⟩
   exact congrArg (fun l=> some (Sl.own l)) (by rw [e4]; simp)
 case hd=>
  rintro st ps hst hps
  refine dW ?_ hps
  refine ae (jB 1 rfl ?_)
  rw [hst]
  simp
end
section
variable {P:Program} {w:World} {K:Cn} {mg:Str→Option Value} {base:Heap}
theorem uq {m:Nat} {pts:List P2} (h:∀ p∈pts,Szp m p):∀ p∈ST.srt pts,Szp m p:=fun p hp=> h p ((ST.srt_mem p pts).mp hp)
theorem g7 (row:List P2):(am row).length≤row.length:=by
 have:=gw row row.length
 rwa [E3] at this
def pY (C:Addr):List U→Out→Prop:=fun us o=> ∃ pts:List P2,us=[lp pts]∧(∀ p∈pts,Szp 5000 p)∧pts.length < 64∧o=(if pts=[] then .exc C else .new ((aj pts).map pu))
set_option maxHeartbeats 8000000 in
theorem oM (T:Txt K mg):bo P w K mg base (CXF P w) 4 T.a_field T.d_field ["points"] (spU K (pY T.c_NoField)):=by
 refine br T.F_field fW (by rintro us o ⟨_,rfl,_⟩; rfl) (fun cdv A outer s H E O us o hr h=> ?_)
 obtain ⟨pts,rfl,sz,hl,rfl⟩:=h
 have hml:((pts.map pu).length:Int)=(pts.length:Int):=by rw [Co]
 by_cases hne:pts=[]
 ·subst hne
  refine ae (dG (aF dU (ao (di rfl) rfl T.z_len Dq (ac (aa 0 rfl) ak ah)) ag) rfl ?_)
  refine ae (qY T.x_NoField rfl T.mx_NoField zA ?_)
  exact rfl
 ·have hpos:0 < pts.length:=DM.mpr hne
  rw [if_neg hne]
  refine ae (dF (aF dU (ao (di rfl) rfl T.z_len Dq (ac (aa 0 rfl) ak ah)) ag) (by rw [hml]; exact decide_eq_false (by omega)) (aJ ?_))
  have sl:=ST.srt_len pts
  have hms:(((ST.srt pts).map pu).length:Int)=((ST.srt pts).length:Int):=by rw [Co]
  have szs:=uq sz
  refine Ws.nox ?_
  by_cases h1:(ST.srt pts).length=1
  ·refine ae (ko (i:=1) fW.nd rfl (Or.inl rfl) (gv rfl (oI hr) rfl T.z_sorted rfl T.z_set (aa 0 rfl) hl ah) ?_)
   refine ae (dG (aF dU (fP 1 rfl rfl T.z_len) ag) (by rw [hms]; exact decide_eq_true (by omega)) ?_)
   refine ae (jB 1 rfl ?_)
   show Out.new _=Out.new _
   unfold aj
   rw [if_pos h1]
  ·refine ae (ay (i:=1) fW.nd rfl (Or.inl rfl) (EvN.ev (gv rfl (oI hr) rfl T.z_sorted rfl T.z_set (aa 0 rfl) hl ah)) ?_)
   refine ae (dF (aF dU (ao (di rfl) rfl T.z_len Dq (ac (aa 1 rfl) ak ah)) ag) (by rw [hms]; exact decide_eq_false (by omega)) (aJ ?_))
   have b1:=g7 (ST.srt pts)
   have b2:=g7 (ST.srt pts).reverse
   rw [Do] at b2
   refine ae (ay (i:=2) fW.nd rfl (Or.inl rfl) (EvN.ev (cH ((gK T).mono (by decide)) hr rfl T.m_left_bends T.F_left_bends.kp T.b_left_bends aC (ac (aa 1 rfl) ak ah) ⟨ST.srt pts,rfl,szs,by omega,rfl⟩)) ?_)
   refine ae (ay (i:=3) fW.nd rfl (Or.inl rfl) (EvN.ev (cH ((gK T).mono (by decide)) hr rfl T.m_left_bends T.F_left_bends.kp T.b_left_bends aC (ac (EvN.ev (Bp (aa 1 rfl) (ck ag) (.inl rfl))) ak dh) ⟨(ST.srt pts).reverse,by rw [lp,Ek],fun p hp=> szs p (CI.mp hp),by rw [Do]; omega,rfl⟩)) ?_)
   refine ae (gU (wD (EvN.ev (gl (aa 2 rfl) iF (iA (ck ag)) (.inl rfl))) (EvN.ev (gl (aa 3 rfl) iF (iA (ck ag)) (.inl rfl))) (by rw [fR,fR,Co,Co,Ei,Ei,Do,Do]; exact DF (aO (by omega)))) ?_)
   show Out.new _=Out.new _
   unfold aj
   rw [if_neg h1,fR,fR,← Di]
def ap (a b c d e f:Int) (p:P2):P2:=(a * p.1+b * p.2+e,c * p.1+d * p.2+f)
theorem zE {m:Nat} {a b c d e f:Int} {p:P2} (sa:Sz 500 a) (sb:Sz 500 b) (sc:Sz 500 c) (sd:Sz 500 d) (se:Sz 500 e) (sf:Sz 500 f) (hm:m≤3000) (s:Szp m p):Szp (m+510) (ap a b c d e f p):=by
 have key:∀ {x y z:Int},Sz 500 x→Sz 500 y→Sz 500 z→Sz (m+510) (x * p.1+y * p.2+z):=fun sx sy sz=> by
  have h1:=L2.Sz.add' (L2.Sz.mul sx s.1) (L2.Sz.mul sy s.2)
  have h2:=L2.Sz.add' h1 sz
  exact h2.mono (by omega)
 exact ⟨key sa sb se,key sc sd sf⟩
def yt (C:Addr):List U→Out→Prop:=fun us o=> ∃ (pts:List P2) (a b c d e f:Int),us=[lp pts,mv a b c d e f]∧(a * d - b * c=1∨a * d - b * c=-1)∧(Sz 500 a∧Sz 500 b∧Sz 500 c∧Sz 500 d∧Sz 500 e∧Sz 500 f)∧(∀ p∈pts,Szp 3000 p)∧pts≠[]∧pts.length < 64∧o=.new ((aj (pts.map (ap a b c d e f))).map pu)
set_option maxHeartbeats 8000000 in
theorem jC (T:Txt K mg):bo P w K mg base (CXF P w) 5 T.a_field_moved T.d_field_moved ["land","move"] (spU K (yt T.c_NoField)):=by
 refine br T.F_field_moved fQ (fun us o h=> ?_) (fun cdv A outer s H E O us o hr h=> ?_)
 ·obtain ⟨pts,a,b,c,d,e,f,rfl,hu,⟨sa,sb,sc,sd,se,sf⟩,sz,hne,hl,rfl⟩:=h
  rfl
 obtain ⟨pts,a,b,c,d,e,f,rfl,hu,⟨sa,sb,sc,sd,se,sf⟩,sz,hne,hl,rfl⟩:=h
 have k5:500≤30000:=by decide
 have M:Mv a b c d e f:=⟨hu,sa.mono k5,sb.mono k5,sc.mono k5,sd.mono k5,se.mono k5,sf.mono k5⟩
 refine ae (gU (cH ((oM T).mono (by decide)) hr rfl T.m_field T.F_field.kp T.b_field aC (ac (EvN.ev (eO (ys:=(pts.map fun p=> pu (ap a b c d e f p))) rfl (blk (ai bQ) ["land","move","P"] [2] rfl rfl rfl rfl (by decide+kernel)) (cY (aa 0 rfl) (.inl rfl)) (fun _ _ _ _=> aT (i:=2) fQ.nd rfl (Or.inl rfl)) (h9 (by decide)) ?clen ?csz (fun _ _=> trivial) ?celt)) ak dB) ⟨pts.map (ap a b c d e f),by rw [lp,Dz]; rfl,fun p hp=> by obtain ⟨q,hq,rfl⟩:=Cr.mp hp; have z:=zE sa sb sc sd se sf (Cv 3000) (sz q hq); exact ⟨z.1.mono (by decide),z.2.mono (by decide)⟩,by rw [Co]; exact hl,by rw [if_neg (by simpa using hne)]⟩) ?_)
 case clen=> simp
 case csz=> rw [Co]; exact DF (aO (by omega))
 case celt=>
  intro C s' H' fp j x y hx hy
  obtain ⟨p,hp,mp,rfl,rfl⟩:=df hx hy
  exact (aB ((vH T).mono (by decide)) hr rfl T.m_moved T.F_moved.kp T.b_moved aC (ac (aa 2 rfl) (ac (aa 1 rfl) ak ah) ah) (.inl ⟨p.1,p.2,a,b,c,d,e,f,rfl,M,(sz p mp).1.mono (by decide),(sz p mp).2.mono (by decide),rfl⟩))
 exact rfl
end
section
variable {P:Program} {w:World} {K:Cn} {mg:Str→Option Value} {base:Heap}
theorem p7 {l m:List Pt} (h:ST.srt l=ST.srt m):aj l=aj m:=by unfold aj; rw [h]
theorem tz {l m:List Pt} (h:∀ z,z∈l↔z∈m):ST.srt l=ST.srt m:=ST.asc_one (ST.srt_asc l) (ST.srt_asc m) fun z=> by rw [ST.srt_mem,ST.srt_mem]; exact h z
theorem fo {pts:List Pt} (h:¬ 2≤(ST.srt pts).length):aj pts=ST.srt pts:=by
 unfold aj
 split
 ·rfl
 ·have e:ST.srt pts=[]:=DU.mp (by omega)
  rw [e]; rfl
section
variable {f:Pt→Pt}
theorem yf (hf:∀ a b,plt a b→plt (f a) (f b)) (l:List Pt):ST.srt (l.map f)=(ST.srt l).map f:=by
 refine ST.asc_one (ST.srt_asc _) (hG.mpr (Dw.mpr ((dX l).imp fun {a b} h=> hf a b h))) fun z=> ?_
 rw [ST.srt_mem,Cr,Cr]
 exact ⟨fun ⟨x,hx,e⟩=> ⟨x,(ST.srt_mem x l).mpr hx,e⟩,fun ⟨x,hx,e⟩=> ⟨x,(ST.srt_mem x l).mp hx,e⟩⟩
theorem q_ (hd:∀ a b c,af (f a) (f b) (f c)≤0↔af a b c≤0) (P:Pt):∀ st:List Pt,bg (f P) (st.map f)=(bg P st).map f
 | []=> rfl
 | [_]=> rfl
 | b::a::r=> by
  show bg (f P) (f b::f a::r.map f)=_
  unfold bg
  by_cases h:af a b P≤0
  ·rw [if_pos h,if_pos ((hd a b P).mpr h)]; exact q_ hd P (a::r)
  ·rw [if_neg h,if_neg fun z=> h ((hd a b P).mp z)]; rfl
theorem kT (hd:∀ a b c,af (f a) (f b) (f c)≤0↔af a b c≤0) (row:List Pt):am (row.map f)=(am row).map f:=by
 have key:∀ (l:List Pt) (st:List Pt),(l.map f).foldl (fun st P=> P::bg P st) (st.map f)=(l.foldl (fun st P=> P::bg P st) st).map f:=by
  intro l
  induction l with
  | nil=> intro st; rfl
  | cons p r ih=>
   intro st
   rw [CZ,Ew,Ew,q_ hd]
   exact ih (p::bg p st)
 exact key row []
theorem vC (hf:∀ a b,plt a b→plt (f a) (f b)) (hd:∀ a b c,af (f a) (f b) (f c)≤0↔af a b c≤0) (l:List Pt):aj (l.map f)=(aj l).map f:=by
 unfold aj
 rw [yf hf,Co,← Ek,kT hd,kT hd]
 split
 ·rfl
 ·rw [Di,GS,GS,Ek,Ek]
end
def scl (k:Int) (p:Pt):Pt:=(k * p.1,k * p.2)
theorem xE (p:Pt):scl 1 p=p:=by unfold scl; simp
def gE:List Int→Int
 | []=> 0
 | a::l=> l.foldl min a
theorem gJ:∀ (l:List Int) (a:Int),l.foldl min a∈a::l
 | [],a=> by simp
 | b::l,a=> by
  have:=gJ l (min a b)
  rw [Ew]
  rcases Cu.mp this with e | e
  ·rw [e]; rcases GD a b with h | h
   ·rw [Int.min_eq_left h]; simp
   ·rw [Int.min_eq_right h]; simp
  ·exact Cp _ (Cp _ e)
theorem ig:∀ (l:List Int) (a:Int),∀ x∈a::l,l.foldl min a≤x
 | [],a,x,h=> by simp at h; rw [h]; exact Eg _
 | b::l,a,x,h=> by
  have ih:=ig l (min a b)
  rw [Ew]
  have h0:=ih (min a b) Cy
  rcases Cu.mp h with rfl | h
  ·omega
  ·rcases Cu.mp h with rfl | h
   ·omega
   ·exact ih x (Cp _ h)
theorem bJ {l:List Int} (h:l≠[]):gE l∈l∧∀ a∈l,gE l≤a:=by
 cases l with
 | nil=> exact absurd rfl h
 | cons a l=> exact ⟨gJ l a,ig l a⟩
abbrev gp (l:List P2) (i:Nat):P2:=l.getD i (0,0)
def nxt (l:List P2) (i:Nat):P2:=gp l ((i+1) % l.length)
def sdl (l:List P2):List (P2×P2):=(Df l.length).map fun i=> (gp l i,nxt l i)
abbrev pq (s:P2×P2):U:=.tup [pu s.1,pu s.2]
theorem eI {l:List P2} {i:Nat} (h:i < l.length):l[i]?=some (gp l i):=by simp [gp,h]
theorem du {l:List P2} {i:Nat} (h:i < l.length):gp l i∈l:=CM (eI h)
theorem zo (l:List U):iS l (some 1) none=l.drop 1:=by
 unfold iS HT.sIx
 cases l with
 | nil=> simp
 | cons a l=> simp
theorem yZ (l:List U):iS l none (some 1)=l.take 1:=by
 unfold iS HT.sIx
 cases l with
 | nil=> simp
 | cons a l=> simp
theorem wB (l:List P2):HV (fun a b=> U.tup [a,b]) (l.map pu) (iS (l.map pu) (some 1) none++iS (l.map pu) none (some 1))=(sdl l).map pq:=by
 rw [zo,yZ]
 apply Fm
 intro i
 unfold sdl
 by_cases hi:i < l.length
 ·have e1:(l.map pu)[i]?=some (pu (gp l i)):=by rw [Ct,eI hi]; rfl
  have e2:((l.map pu).drop 1++(l.map pu).take 1)[i]?=some (pu (nxt l i)):=by
   unfold nxt
   by_cases hj:i+1 < l.length
   ·rw [CP (by simp; omega),EN,Nat.add_comm,CU hj,Ct,eI hj]; rfl
   ·have e:i+1=l.length:=by omega
    rw [CQ (by simp; omega),e,Fi]
    rw [show i - ((l.map pu).drop 1).length=0 by simp; omega,Eb (by omega),Ct,eI (by omega)]; rfl
  rw [Ez.mpr ⟨_,_,e1,e2,rfl⟩,Dz,Ct,EH hi]
  rfl
 ·rw [Dr (by simp; omega),Dr (by simp; omega)]
theorem ij (l:List P2):(sdl l).length=l.length:=by simp [sdl]
theorem aV {l:List P2} {s:P2×P2} (h:s∈sdl l):s.1∈l∧s.2∈l:=by
 obtain ⟨i,hi,rfl⟩:=Cr.mp h
 have hi':=CF.mp hi
 exact ⟨du hi',du (DV _ (by omega))⟩
def pF:List U→Out→Prop:=fun us o=> ∃ l:List P2,us=[lp l]∧l.length≤900∧o=.new ((sdl l).map pq)
set_option maxHeartbeats 8000000 in
theorem kB (T:Txt K mg):bo P w K mg base (CXF P w) 1 T.a_sides T.d_sides ["land"] (spU K (pF)):=by
 refine br T.F_sides vM (fun us o h=> ?_) (fun cdv A outer s H E O us o hr h=> ?_)
 ·obtain ⟨l,rfl,hl,rfl⟩:=h
  rfl
 obtain ⟨l,rfl,hl,rfl⟩:=h
 refine Ws.nox ?_
 have hlen:(iS (l.map pu) (some 1) none++iS (l.map pu) none (some 1)).length=l.length:=by rw [zo,yZ]; simp; omega
 refine ae (gU (tP rfl rfl T.z_list rfl T.z_zip (aa 0 rfl) (.inl rfl) (EvN.ev (wD (EvN.ev (gl (aa 0 rfl) (iA ag) iF (.inl rfl))) (EvN.ev (gl (aa 0 rfl) iF (iA ag) (.inl rfl))) (by rw [← Dv,hlen]; exact DF (aO (by omega))))) (.inl rfl) (by rw [hlen,Co]) (by rw [Co]; omega) ah aZ) ?_)
 rw [wB]
theorem Bj {l:List P2} (h:0 < l.length):atI (l.map pu) 0=some (pu (gp l 0)):=lP (i:=0) rfl (by rw [Ct,eI h]; rfl)
theorem xM {l:List P2} (h:0 < l.length):atI (l.map pu) (-1)=some (pu (gp l (l.length - 1))):=by
 have e:ixN (l.map pu).length (-1)=some (l.length - 1):=by
  unfold ixN
  simp
  omega
 unfold atI
 rw [e]
 show (l.map pu)[l.length - 1]?=_
 rw [Ct,eI (by omega)]; rfl
end
section
variable {P:Program} {w:World} {K:Cn} {mg:Str→Option Value} {base:Heap}
def gst (s:P2×P2):Int:=((EU (s.2.1 - s.1.1) (s.2.2 - s.1.2):Nat):Int)
def crs (s:P2×P2):Int:=s.1.1 * s.2.2 - s.1.2 * s.2.1
def area (l:List P2):Int:=((sdl l).map crs).sum
def fZ (l:List P2):Int:=((sdl l).map gst).sum
def pin (l:List P2):Int:=if l.length < 3 then 0 else (area l - fZ l+2) / 2
theorem qk (s:P2×P2):0≤gst s:=by unfold gst; omega
theorem cf {s:P2×P2} (h:s.1≠s.2):0 < gst s:=by
 unfold gst
 have:EU (s.2.1 - s.1.1) (s.2.2 - s.1.2)≠0:=fun e=> by
  have:=Gn.mp e
  exact h (Em (by omega) (by omega))
 omega
def ev (p:P2):Int:=if p.1 % 2=0∧p.2 % 2=0 then 1 else 0
theorem rF (l:List P2):(sdl l).map (·.1)=l:=by
 apply Fm
 intro i
 unfold sdl
 rw [Dz]
 by_cases hi:i < l.length
 ·rw [Ct,EH hi,eI hi]; rfl
 ·rw [Dr (by simp; omega),Dr (by omega)]
theorem yB (l:List P2):(sdl l).map (·.2)=l.drop 1++l.take 1:=by
 apply Fm
 intro i
 unfold sdl
 rw [Dz]
 by_cases hi:i < l.length
 ·rw [Ct,EH hi]
  show some (nxt l i)=_
  unfold nxt
  by_cases hj:i+1 < l.length
  ·rw [CP (by simp; omega),EN,show 1+i=i+1 by omega,CU hj,eI hj]
  ·have e:i+1=l.length:=by omega
   rw [CQ (by simp; omega),e,Fi]
   rw [show i - (l.drop 1).length=0 by simp; omega,Eb (by omega),eI (by omega)]
 ·rw [Dr (by simp; omega),Dr (by simp; omega)]
theorem wo {l:List P2} (hn:l.Nodup) (h2:2≤l.length):∀ s∈sdl l,s.1≠s.2:=fun s hs e=> by
 obtain ⟨i,hi,rfl⟩:=Cr.mp hs
 have hi':=CF.mp hi
 have hj:(i+1) % l.length < l.length:=DV _ (by omega)
 have e':gp l i=gp l ((i+1) % l.length):=e
 have:l[i]?=l[(i+1) % l.length]?:=by rw [eI hi',eI hj,e']
 have:=(FL hi' hn).mp this
 by_cases hk:i+1 < l.length
 ·rw [CU hk] at this; omega
 ·have e:i+1=l.length:=by omega
  rw [e,Fi] at this; omega
theorem gQ {m n:Nat} {l:List P2} (h:m≤n) (k:∀ p∈l,Szp m p):∀ p∈l,Szp n p:=fun p hp=> ⟨(k p hp).1.mono h,(k p hp).2.mono h⟩
def tK:List U→Out→Prop:=fun us o=> ∃ l:List P2,us=[lp l]∧l.length≤900∧(∀ p∈l,Szp 2500 p)∧o=.val (.int (area l))
set_option maxHeartbeats 8000000 in
theorem jK (T:Txt K mg):bo P w K mg base (CXF P w) 2 T.a_double_area T.d_double_area ["land"] (spU K (tK)):=by
 refine br T.F_double_area d9 (fun us o h=> ?_) (fun cdv A outer s H E O us o hr h=> ?_)
 ·obtain ⟨l,rfl,hl,sz,rfl⟩:=h
  rfl
 obtain ⟨l,rfl,hl,sz,rfl⟩:=h
 refine Ws.nox ?_
 refine ae (aI (ao (pA rfl ) rfl T.z_sum boot_sum (ac (EvN.ev (eO (ys:=(((sdl l).map crs).map U.int)) rfl (blk (ai bO) ["land","A","B"] [1,2] rfl rfl rfl rfl (by decide+kernel)) (cY (EvN.ev (cH ((kB T).mono (by decide)) hr rfl T.m_sides T.F_sides.kp T.b_sides aC (ac (aa 0 rfl) ak ah) ⟨l,rfl,hl,rfl⟩)) (.inl rfl)) (fun _ _ _ _=> eQ rfl (aW (aT (i:=1) d9.nd rfl (Or.inl rfl)) (aW (aT (i:=2) d9.nd rfl (Or.inl rfl)) cO))) (dY (js:=[1,2]) (by decide)) ?clen ?csz ?dom ?celt)) ak dB)) ?_)
 case clen=> simp
 case csz=> simp only [ij,Co]; exact DF (aO (by omega))
 case dom=>
  intro x hx
  obtain ⟨s,_,rfl⟩:=Cr.mp hx
  exact ⟨_,rfl,rfl⟩
 case celt=>
  intro C s' H' fp j x y hx hy
  rw [Dz] at hy
  obtain ⟨s,hs,ms,rfl,rfl⟩:=df hx hy
  obtain ⟨m1,m2⟩:=aV ms
  have z1:=(sz _ m1).1
  have z2:=(sz _ m1).2
  have z3:=(sz _ m2).1
  have z4:=(sz _ m2).2
  exact (ba (aU (aE (aa 1 rfl) ag rfl rfl) (aE (aa 2 rfl) ag rfl rfl) (by walk_at "mul")) (aU (aE (aa 1 rfl) ag rfl rfl) (aE (aa 2 rfl) ag rfl rfl) (by walk_at "mul")))
 exact rfl
theorem nQ {done:List Pt}:∀ {st:List Pt},gL done st→∀ (k:Nat) {a b:Pt},st[k]?=some b→st[k+1]?=some a→∀ q∈done,0≤af a b q
 | [],_,k,_,_,h,_=> by simp at h
 | [_],_,k,_,_,_,h=> by simp at h
 | x::y::r,C,0,a,b,h1,h2=> by
  simp at h1 h2
  subst h1; subst h2
  exact C.1
 | x::y::r,C,k+1,a,b,h1,h2=> nQ C.2 k (by simpa using h1) (by simpa using h2)
theorem oH:∀ {st:List Pt},iY st→∀ (k:Nat) {a b c:Pt},st[k]?=some c→st[k+1]?=some b→st[k+2]?=some a→0 < af a b c
 | [],_,k,_,_,_,h,_,_=> by simp at h
 | [_],_,k,_,_,_,_,h,_=> by simp at h
 | [_,_],_,k,_,_,_,_,_,h=> by simp at h
 | x::y::z::r,C,0,a,b,c,h1,h2,h3=> by
  simp at h1 h2 h3
  subst h1; subst h2; subst h3
  exact C.1
 | x::y::z::r,C,k+1,a,b,c,h1,h2,h3=> oH C.2 k (by simpa using h1) (by simpa using h2) (by simpa using h3)
theorem u6 {st:List Pt} {i:Nat} {a b:Pt} (h1:st.reverse[i]?=some a) (h2:st.reverse[i+1]?=some b):∃ k,st[k]?=some b∧st[k+1]?=some a:=by
 have l2:i+1 < st.length:=by have:=(Cz.mp h2).1; simpa using this
 rw [DT (by omega)] at h1
 rw [DT l2] at h2
 exact ⟨st.length - 1 - (i+1),h2,by rw [← h1]; congr 1; omega⟩
theorem sD {st:List Pt} {i:Nat} {a b c:Pt} (h1:st.reverse[i]?=some a) (h2:st.reverse[i+1]?=some b) (h3:st.reverse[i+2]?=some c):∃ k,st[k]?=some c∧st[k+1]?=some b∧st[k+2]?=some a:=by
 have l3:i+2 < st.length:=by have:=(Cz.mp h3).1; simpa using this
 rw [DT (by omega)] at h1
 rw [DT (by omega)] at h2
 rw [DT l3] at h3
 exact ⟨st.length - 1 - (i+2),h3,by rw [← h2]; congr 1; omega,by rw [← h1]; congr 1; omega⟩
theorem f_ {row:List Pt} (hs:row.Pairwise plt) (h:row≠[]) {i:Nat} {a b:Pt} (h1:(am row).reverse[i]?=some a) (h2:(am row).reverse[i+1]?=some b):∀ q∈row,0≤af a b q:=by
 obtain ⟨k,e1,e2⟩:=u6 h1 h2
 exact nQ (cm hs h).1.cover k e1 e2
theorem gX {row:List Pt} (hs:row.Pairwise plt) (h:row≠[]) {i:Nat} {a b c:Pt} (h1:(am row).reverse[i]?=some a) (h2:(am row).reverse[i+1]?=some b) (h3:(am row).reverse[i+2]?=some c):0 < af a b c:=by
 obtain ⟨k,e1,e2,e3⟩:=sD h1 h2 h3
 exact oH (cm hs h).1.turns k e1 e2 e3
theorem fu {row:List Pt} {i:Nat} {a:Pt} (h1:(am row.reverse).reverse[i]?=some a):(am (row.reverse.map ng)).reverse[i]?=some (ng a):=by
 rw [bS,← Ek,Ct] at h1
 cases e:(am (row.reverse.map ng)).reverse[i]? with
 | none=> rw [e] at h1; cases h1
 | some z=> rw [e] at h1; cases h1; rw [gI]
theorem jG {row:List Pt} (hs:row.Pairwise plt) (h:row≠[]) {i:Nat} {a b:Pt} (h1:(am row.reverse).reverse[i]?=some a) (h2:(am row.reverse).reverse[i+1]?=some b):∀ q∈row,0≤af a b q:=fun q hq=> by
 have:=f_ (dj hs) (by simpa using h) (fu h1) (fu h2) (ng q) (CO (CI.mpr hq))
 rwa [jV] at this
theorem ls {row:List Pt} (hs:row.Pairwise plt) (h:row≠[]) {i:Nat} {a b c:Pt} (h1:(am row.reverse).reverse[i]?=some a) (h2:(am row.reverse).reverse[i+1]?=some b) (h3:(am row.reverse).reverse[i+2]?=some c):0 < af a b c:=by
 have:=gX (dj hs) (by simpa using h) (fu h1) (fu h2) (fu h3)
 rwa [jV] at this
theorem vV {u1 u2 v1 v2 w1 w2:Int} (hu:gG u1 u2) (hv:gG v1 v2) (h0:u1 * v2 - u2 * v1=0) (h1:u1 * w2 - u2 * w1≤0) (h2:0≤v1 * w2 - v2 * w1):u1 * w2 - u2 * w1=0∧v1 * w2 - v2 * w1=0:=by
 have e1:v1 * (u1 * w2 - u2 * w1)=u1 * (v1 * w2 - v2 * w1):=by grind
 have e2:v2 * (u1 * w2 - u2 * w1)=u2 * (v1 * w2 - v2 * w1):=by grind
 have fin:∀ {s t A B:Int},0 < s→0 < t→s * A=t * B→A≤0→0≤B→A=0∧B=0:=fun {s t A B} hs ht e ha hb=> by
  have k1:s * A≤0:=Int.mul_nonpos_of_nonneg_of_nonpos (by omega) ha
  have k2:0≤t * B:=Cs (by omega) hb
  have z1:s * A=0:=by omega
  have z2:t * B=0:=by omega
  refine ⟨(Da.mp z1).resolve_left (by omega),(Da.mp z2).resolve_left (by omega)⟩
 rcases hu with hu | ⟨hu,hu2⟩
 ·rcases hv with hv | ⟨hv,hv2⟩
  ·exact fin hv hu e1 h1 h2
  ·rw [hv] at h0
   have:=DH hu hv2
   omega
 ·rcases hv with hv | ⟨hv,hv2⟩
  ·rw [hu] at h0
   have:=DH hu2 hv
   omega
  ·exact fin hv2 hu2 e2 h1 h2
theorem sv {a m c:Pt} (ha:plt a m) (hc:plt c m) (h:af a m c=0) {q:Pt} (h1:0≤af a m q) (h2:0≤af m c q):af a m q=0∧af m c q=0:=by
 have k:=vV (w1:=m.1 - q.1) (w2:=m.2 - q.2) (bA ha) (bA hc) (by unfold af at h; grind) (by unfold af at h1; grind) (by unfold af at h2; grind)
 unfold af
 exact ⟨by grind,by grind⟩
theorem yH (a b c:Pt):af a b c=af b c a:=by unfold af; grind
theorem Be {row:List Pt} (hs:row.Pairwise plt) (hne:row≠[]) {i:Nat} {a m c:Pt} (h1:(am row).reverse[i]?=some a) (h2:(am row).reverse[i+1]?=some m) (hl:(am row).length=i+2)
  (h3:(am row.reverse).reverse[0]?=some m) (h4:(am row.reverse).reverse[1]?=some c) (ha:plt a m) (hc:plt c m) (big:2 < (am row).length∨2 < (am row.reverse).length):0 < af a m c:=by
 have mem:∀ {j:Nat} {p:Pt},(am row).reverse[j]?=some p→p∈row:=fun h=> bP row _ (CI.mp (CM h))
 have memR:∀ {j:Nat} {p:Pt},(am row.reverse).reverse[j]?=some p→p∈row:=fun h=> CI.mp (bP _ _ (CI.mp (CM h)))
 have cv:=f_ hs hne h1 h2
 have cb:=jG hs hne h3 h4
 have h0:=cv c (memR h4)
 rcases De h0 with z | z
 ·exact z
 ·exfalso
  have flat:∀ q∈row,af a m q=0∧af m c q=0:=fun q hq=> sv ha hc z.symm (cv q hq) (cb q hq)
  rcases big with b | b
  ·have hi:0 < i:=by omega
   have hx:i - 1 < (am row).reverse.length:=by simp; omega
   have e:=Cm hx
   have t:=gX hs hne e (by rw [Nat.sub_add_cancel hi]; exact h1) (by rw [show i - 1+2=i+1 by omega]; exact h2)
   rw [yH,(flat _ (mem e)).1] at t
   omega
  ·have hx:2 < (am row.reverse).reverse.length:=by simpa using b
   have e:=Cm hx
   have t:=ls hs hne h3 h4 e
   rw [(flat _ (memR e)).2] at t
   omega
structure zZ (row T B:List Pt) (mn mx:Pt):Prop where
 t0:T[0]?=some mn
 t1:T[T.length - 1]?=some mx
 b0:B[0]?=some mx
 b1:B[B.length - 1]?=some mn
 lt:2≤T.length
 lb:2≤B.length
 least:∀ p∈row,p=mn∨plt mn p
 most:∀ p∈row,p=mx∨plt p mx
theorem zk {l:List Pt}:l.reverse[0]?=l.getLast?:=by rw [List.getLast?_eq_head?_reverse,Fb]
theorem zi {l:List Pt}:l.reverse[l.reverse.length - 1]?=l.head?:=by rw [← D8,FU]
theorem A4 {row:List Pt} (hs:row.Pairwise plt) (h2:2≤row.length):∃ mn mx,zZ row (am row).reverse (am row.reverse).reverse mn mx:=by
 have hne:row≠[]:=fun z=> by rw [z] at h2; simp at h2
 obtain ⟨mn,mx,t1,t2,e1,e2,m1,m2,least,most,_,_⟩:=uX hs h2
 obtain ⟨K,hl,hh⟩:=cm hs hne
 obtain ⟨KR,hlR,hhR⟩:=cm (dj hs) (by simpa using hne)
 have l1:2≤(am row).length:=by rw [e1]; have:=D4 m1; simp; omega
 have l2:2≤(am row.reverse).length:=by rw [e2]; have:=D4 m2; simp; omega
 have hd:row.head?=some row[0]:=by rw [Fb]; exact Cm (by omega)
 have ld:row.getLast?=some row[row.length - 1]:=by rw [D8]; exact Cm (by omega)
 have q1:row[0]=mn:=by
  have hb:=hhR
  rw [FK,FU,hd] at hb
  have:(am row.reverse).head?=some row[0]:=by rw [bS,GH,hb]; simp [gI]
  rw [e2] at this
  exact (Dg this).symm
 have q2:row[row.length - 1]=mx:=by
  rw [ld,e1] at hh
  exact (Dg hh).symm
 refine ⟨mn,mx,?_,?_,?_,?_,by simpa using l1,by simpa using l2,least,most⟩
 ·rw [zk,hl,hd,q1]
 ·rw [zi,hh,ld,q2]
 ·rw [zk,bS,FK,hlR,GH,HH,ld,q2]; simp [gI]
 ·rw [zi,e2]; rfl
section
variable {row T B:List Pt} {mn mx:Pt}
theorem eC (W:zZ row T B mn mx) {k:Nat} (hk:k≤T.length - 1):(T.dropLast++B.dropLast)[k % (T.dropLast++B.dropLast).length]?=T[k]?:=by
 have h1:=W.lt
 have h2:=W.lb
 have hn:(T.dropLast++B.dropLast).length=T.length - 1+(B.length - 1):=by simp
 rw [hn,CU (by omega)]
 by_cases h:k < T.length - 1
 ·rw [CP (by simpa using h),E_,if_pos h]
 ·obtain rfl:k=T.length - 1:=by omega
  rw [CQ (by simp),Ei,Jn,E_,if_pos (by omega),W.b0,W.t1]
theorem jn (W:zZ row T B mn mx) {k:Nat} (h0:T.length - 1≤k) (hk:k≤T.length - 1+(B.length - 1)):(T.dropLast++B.dropLast)[k % (T.dropLast++B.dropLast).length]?=B[k - (T.length - 1)]?:=by
 have h1:=W.lt
 have h2:=W.lb
 have hn:(T.dropLast++B.dropLast).length=T.length - 1+(B.length - 1):=by simp
 by_cases h:k < T.length - 1+(B.length - 1)
 ·rw [hn,CU h,CQ (by simpa using h0),Ei,E_,if_pos (by omega)]
 ·obtain rfl:k=T.length - 1+(B.length - 1):=by omega
  have:=eC W (k:=0) (by omega)
  rw [Jp] at this
  rw [hn,Fi,this,W.t0,show T.length - 1+(B.length - 1) - (T.length - 1)=B.length - 1 by omega,W.b1]
end
theorem eJ {l:List Pt} {i:Nat} (h:i < l.length):∃ a,l[i]?=some a:=⟨_,Cm h⟩
theorem jS {pts:List Pt} (h2:2≤(ST.srt pts).length) {i:Nat} (hi:i < (aj pts).length):∃ a b,(aj pts)[i]?=some a∧(aj pts)[(i+1) % (aj pts).length]?=some b∧(∀ p∈pts,0≤af a b p)∧(2 < (aj pts).length→∃ c,(aj pts)[(i+2) % (aj pts).length]?=some c∧0 < af a b c):=by
 have hs:=dX pts
 have hne:ST.srt pts≠[]:=fun z=> by rw [z] at h2; simp at h2
 obtain ⟨mn,mx,W⟩:=A4 hs h2
 have hmem:∀ p∈pts,p∈ST.srt pts:=fun p hp=> (ST.srt_mem p pts).mpr hp
 have hc:aj pts=(am (ST.srt pts)).reverse.dropLast++(am (ST.srt pts).reverse).reverse.dropLast:=by
  unfold aj; rw [if_neg (by omega)]
 have tc:∀ {j:Nat} {a b:Pt},(am (ST.srt pts)).reverse[j]?=some a→(am (ST.srt pts)).reverse[j+1]?=some b→∀ q∈ST.srt pts,0≤af a b q:=fun h h'=> f_ hs hne h h'
 have tt:∀ {j:Nat} {a b c:Pt},(am (ST.srt pts)).reverse[j]?=some a→(am (ST.srt pts)).reverse[j+1]?=some b→(am (ST.srt pts)).reverse[j+2]?=some c→0 < af a b c:=fun h h' h''=> gX hs hne h h' h''
 have bc:∀ {j:Nat} {a b:Pt},(am (ST.srt pts).reverse).reverse[j]?=some a→(am (ST.srt pts).reverse).reverse[j+1]?=some b→∀ q∈ST.srt pts,0≤af a b q:=fun h h'=> jG hs hne h h'
 have bt:∀ {j:Nat} {a b c:Pt},(am (ST.srt pts).reverse).reverse[j]?=some a→(am (ST.srt pts).reverse).reverse[j+1]?=some b→(am (ST.srt pts).reverse).reverse[j+2]?=some c→0 < af a b c:=fun h h' h''=> ls hs hne h h' h''
 have memT:∀ {j:Nat} {p:Pt},(am (ST.srt pts)).reverse[j]?=some p→p∈ST.srt pts:=fun h=> bP _ _ (CI.mp (CM h))
 have memB:∀ {j:Nat} {p:Pt},(am (ST.srt pts).reverse).reverse[j]?=some p→p∈ST.srt pts:=fun h=> CI.mp (bP _ _ (CI.mp (CM h)))
 have ndT:(am (ST.srt pts)).reverse.Nodup:=(d5 hs).imp fun {a b} h e=> by subst e; exact bD _ ((lV _ _).mpr h)
 have ndB:(am (ST.srt pts).reverse).reverse.Nodup:=by
  rw [bS,← Ek]
  have ndR:(am ((ST.srt pts).reverse.map ng)).reverse.Nodup:=(d5 (dj hs)).imp fun {a b} h e=> by subst e; exact bD _ ((lV _ _).mpr h)
  exact DW _ (fun a b (h:a≠b) e=> h (by have:=congrArg ng e; rwa [gI,gI] at this)) ndR
 have m1:∀ {j:Nat} {a m c:Pt},(am (ST.srt pts)).reverse[j]?=some a→(am (ST.srt pts)).reverse[j+1]?=some m→(am (ST.srt pts)).length=j+2→(am (ST.srt pts).reverse).reverse[0]?=some m→(am (ST.srt pts).reverse).reverse[1]?=some c→plt a m→plt c m→2 < (am (ST.srt pts)).length∨2 < (am (ST.srt pts).reverse).length→0 < af a m c:=fun a1 a2 a3 a4 a5 a6 a7 a8=> Be hs hne a1 a2 a3 a4 a5 a6 a7 a8
 have m2:∀ {j:Nat} {a m c:Pt},(am (ST.srt pts).reverse).reverse[j]?=some a→(am (ST.srt pts).reverse).reverse[j+1]?=some m→(am (ST.srt pts).reverse).length=j+2→(am (ST.srt pts)).reverse[0]?=some m→(am (ST.srt pts)).reverse[1]?=some c→plt m a→plt m c→2 < (am (ST.srt pts)).length∨2 < (am (ST.srt pts).reverse).length→0 < af a m c:=fun {j a m c} a1 a2 a3 a4 a5 a6 a7 a8=> by
  have er:((ST.srt pts).reverse.map ng).reverse=(ST.srt pts).map ng:=by rw [← Ek,List.reverse_reverse]
  have fw:∀ {k:Nat} {p:Pt},(am (ST.srt pts)).reverse[k]?=some p→(am ((ST.srt pts).reverse.map ng).reverse).reverse[k]?=some (ng p):=fun {k p} h=> by
   rw [er,gc,← Ek,Ct,h]; rfl
  have lb:(am ((ST.srt pts).reverse.map ng)).length=(am (ST.srt pts).reverse).length:=by rw [bS,Co]
  have lt:(am ((ST.srt pts).reverse.map ng).reverse).length=(am (ST.srt pts)).length:=by rw [er,gc,Co]
  have:=Be (dj hs) (by simpa using hne) (fu a1) (fu a2) (by rw [lb]; exact a3) (fw a4) (fw a5) (jP a6) (jP a7) (by rw [lb,lt]; exact a8.symm)
  rwa [jV] at this
 rw [hc] at hi ⊢
 have lT:(am (ST.srt pts)).reverse.length=(am (ST.srt pts)).length:=Do
 have lB:(am (ST.srt pts).reverse).reverse.length=(am (ST.srt pts).reverse).length:=Do
 generalize (am (ST.srt pts)).reverse=T at *
 generalize (am (ST.srt pts).reverse).reverse=B at *
 have h1:=W.lt
 have h3:=W.lb
 have hn:(T.dropLast++B.dropLast).length=T.length - 1+(B.length - 1):=by simp
 have own:∀ k,k < (T.dropLast++B.dropLast).length→(T.dropLast++B.dropLast)[k]?=(T.dropLast++B.dropLast)[k % (T.dropLast++B.dropLast).length]?:=fun k hk=> by rw [CU hk]
 have tne:∀ {j k:Nat} {p q:Pt},T[j]?=some p→T[k]?=some q→j≠k→p≠q:=fun {j k p q} a1 a2 a3 e=> a3 ((FL (aL a1) ndT).mp (by rw [a1,a2,e]))
 have bne:∀ {j k:Nat} {p q:Pt},B[j]?=some p→B[k]?=some q→j≠k→p≠q:=fun {j k p q} a1 a2 a3 e=> a3 ((FL (aL a1) ndB).mp (by rw [a1,a2,e]))
 by_cases c1:i < T.length - 1
 ·obtain ⟨a,ea⟩:=eJ (l:=T) (i:=i) (by omega)
  obtain ⟨b,eb⟩:=eJ (l:=T) (i:=i+1) (by omega)
  refine ⟨a,b,by rw [own i hi,eC W (by omega)]; exact ea,by rw [eC W (by omega)]; exact eb,fun p hp=> tc ea eb p (hmem p hp),fun big=> ?_⟩
  by_cases c2:i+2≤T.length - 1
  ·obtain ⟨c,ec⟩:=eJ (l:=T) (i:=i+2) (by omega)
   exact ⟨c,by rw [eC W c2]; exact ec,tt ea eb ec⟩
  ·have e:i+1=T.length - 1:=by omega
   obtain ⟨c,ec⟩:=eJ (l:=B) (i:=1) (by omega)
   have emx:b=mx:=by have:=W.t1; rw [← e,eb] at this; exact Dg this
   subst emx
   refine ⟨c,by rw [jn W (by omega) (by omega),show i+2 - (T.length - 1)=1 by omega]; exact ec,m1 ea eb (by omega) W.b0 ec ?_ ?_ (by omega)⟩
   ·exact (W.most a (memT ea)).resolve_left (tne ea eb (by omega))
   ·exact (W.most c (memB ec)).resolve_left (bne ec W.b0 (by omega))
 ·obtain ⟨a,ea⟩:=eJ (l:=B) (i:=i - (T.length - 1)) (by omega)
  obtain ⟨b,eb⟩:=eJ (l:=B) (i:=i - (T.length - 1)+1) (by omega)
  refine ⟨a,b,by rw [own i hi,jn W (by omega) (by omega)]; exact ea,by rw [jn W (by omega) (by omega),show i+1 - (T.length - 1)=i - (T.length - 1)+1 by omega]; exact eb,fun p hp=> bc ea eb p (hmem p hp),fun big=> ?_⟩
  by_cases c2:i+2≤T.length - 1+(B.length - 1)
  ·obtain ⟨c,ec⟩:=eJ (l:=B) (i:=i - (T.length - 1)+2) (by omega)
   exact ⟨c,by rw [jn W (by omega) c2,show i+2 - (T.length - 1)=i - (T.length - 1)+2 by omega]; exact ec,bt ea eb ec⟩
  ·have e:i - (T.length - 1)+1=B.length - 1:=by omega
   obtain ⟨c,ec⟩:=eJ (l:=T) (i:=1) (by omega)
   have emn:b=mn:=by have:=W.b1; rw [← e,eb] at this; exact Dg this
   subst emn
   refine ⟨c,?_,m2 ea eb (by omega) W.t0 ec ?_ ?_ (by omega)⟩
   ·have:=eC W (k:=1) (by omega)
    rw [show (i+2) % (T.dropLast++B.dropLast).length=1 % (T.dropLast++B.dropLast).length by rw [hn,show i+2=1+(T.length - 1+(B.length - 1)) by omega,FM],this]
    exact ec
   ·exact (W.least a (memB ea)).resolve_left (bne ea eb (by omega))
   ·exact (W.least c (memT ec)).resolve_left (tne ec W.t0 (by omega))
def cd (n q:Int):Int:=-(-n / q)
structure Chd (n q:Int):Prop where
 q0:0≤q
 qn:q < n
 g:EU n q=1
def unc:List Int→Int×Int
 | []=> (1,0)
 | b::l=> (b * (unc l).1 - (unc l).2,(unc l).1)
structure Lvl (a b:Pt) (g u v s t:Int):Prop where
 g0:0 < g
 e1:b.1 - a.1=g * u
 e2:b.2 - a.2=g * v
 st:s * u+t * v=1
def tx (a c:Pt) (s t:Int):Int:=s * (c.1 - a.1)+t * (c.2 - a.2)
def ty (a c:Pt) (u v:Int):Int:=u * (c.2 - a.2) - v * (c.1 - a.1)
def bk (a:Pt) (u v s t x y:Int):Pt:=(u * x - t * y+a.1,v * x+s * y+a.2)
theorem Lvl.area {a b:Pt} {g u v s t:Int} (L:Lvl a b g u v s t) (c:Pt):af a b c=g * ty a c u v:=by
 have:=L.e1
 have:=L.e2
 unfold af ty
 grind
theorem Lvl.d1 {a b:Pt} {g u v s t:Int} (L:Lvl a b g u v s t) (x y:Int):af a b (bk a u v s t x y)=g * y:=by
 have:=L.e1
 have:=L.e2
 have:=L.st
 unfold af bk
 dsimp only
 grind
theorem Lvl.back {a b:Pt} {g u v s t:Int} (L:Lvl a b g u v s t) (c:Pt):c.1=u * tx a c s t - t * ty a c u v+a.1∧c.2=v * tx a c s t+s * ty a c u v+a.2:=by
 have:=L.st
 unfold tx ty
 constructor <;> grind
theorem Lvl.d3 {a b:Pt} {g u v s t:Int} (L:Lvl a b g u v s t) (c:Pt) (x y:Int):af c a (bk a u v s t x y)=ty a c u v * x - tx a c s t * y:=by
 obtain ⟨k1,k2⟩:=L.back c
 have h:=L.st
 generalize tx a c s t=X at *
 generalize ty a c u v=Y at *
 unfold af bk
 dsimp only
 rw [k1,k2]
 grind
theorem Lvl.d2 {a b:Pt} {g u v s t:Int} (L:Lvl a b g u v s t) (c:Pt) (x y:Int):af b c (bk a u v s t x y)=(tx a c s t - g) * y - ty a c u v * (x - g):=by
 obtain ⟨k1,k2⟩:=L.back c
 have h:=L.st
 have m1:b.1=a.1+g * u:=by have:=L.e1; omega
 have m2:b.2=a.2+g * v:=by have:=L.e2; omega
 generalize tx a c s t=X at *
 generalize ty a c u v=Y at *
 unfold af bk
 dsimp only
 rw [k1,k2,m1,m2]
 grind
def wth (a b:Int) (p:Pt):Int:=a * p.1+b * p.2
theorem AG {a b:Int} {u p v:Pt} (hb:b≤0) (h1:plt u p) (h2:plt p v) (h:af u p v≤0):wth a b p≤wth a b u∨wth a b p≤wth a b v:=by
 rcases DL (wth a b u) (wth a b p) with c1 | c1
 ·rcases DL (wth a b v) (wth a b p) with c2 | c2
  ·exfalso
   have e:(v.1 - p.1) * (wth a b p - wth a b u)+(p.1 - u.1) * (wth a b p - wth a b v)=-((-b) * (-(af u p v))):=by unfold wth af; grind
   have n1:0≤(-b) * (-(af u p v)):=Cs (by omega) (by omega)
   have d1:0≤p.1 - u.1:=by unfold plt at h1; omega
   have d2:0≤v.1 - p.1:=by unfold plt at h2; omega
   have m1:0≤(v.1 - p.1) * (wth a b p - wth a b u):=Cs d2 (by omega)
   have m2:0≤(p.1 - u.1) * (wth a b p - wth a b v):=Cs d1 (by omega)
   rcases DL 0 (p.1 - u.1) with d | d
   ·have:=DH d (show 0 < wth a b p - wth a b v by omega)
    omega
   ·have ex:u.1=p.1:=by omega
    have ey:u.2 < p.2:=by unfold plt at h1; omega
    have:0≤(-b) * (p.2 - u.2):=Cs (by omega) (by omega)
    have e2:wth a b p - wth a b u=-((-b) * (p.2 - u.2)):=by unfold wth; rw [ex]; grind
    omega
  ·exact .inr c2
 ·exact .inl c1
theorem qC {row:List Pt} (hs:row.Pairwise plt) {a b:Int} (hb:b≤0) {p:Pt} (hp:p∈row):∃ c∈am row,wth a b p≤wth a b c:=by
 by_cases h:p∈am row
 ·exact ⟨p,h,Eg _⟩
 ·obtain ⟨u,hu,v,hv,k1,k2,k3⟩:=gap hs hp h
  rcases AG (a:=a) hb k1 k2 k3 with e | e
  ·exact ⟨u,hu,e⟩
  ·exact ⟨v,hv,e⟩
theorem zU (a b:Int) (p:Pt):wth (-a) (-b) (ng p)=wth a b p:=by unfold wth ng; grind
theorem xg (a b:Int) (p:Pt):wth a b (ng p)=wth (-a) (-b) p:=by unfold wth ng; grind
theorem vW {row:List Pt} (hs:row.Pairwise plt) {a b:Int} (hb:0≤b) {p:Pt} (hp:p∈row):∃ c∈am row.reverse,wth a b p≤wth a b c:=by
 obtain ⟨c,hc,k⟩:=qC (dj hs) (a:=-a) (b:=-b) (by omega) (p:=ng p) (Cr.mpr ⟨p,CI.mpr hp,rfl⟩)
 refine ⟨ng c,by rw [bS]; exact Cr.mpr ⟨c,hc,rfl⟩,?_⟩
 rw [zU] at k
 rw [xg]
 exact k
theorem wU {pts:List Pt} (a b:Int) {p:Pt} (hp:p∈pts):∃ c∈aj pts,wth a b p≤wth a b c:=by
 have hp':p∈ST.srt pts:=(ST.srt_mem p pts).mpr hp
 by_cases h2:2≤(ST.srt pts).length
 ·have hs:=dX pts
  obtain ⟨mn,mx,t1,t2,e1,e2,m1,m2,_⟩:=uX hs h2
  have big:=fJ h2
  rw [e1,e2] at big
  rcases GD b 0 with hb | hb
  ·obtain ⟨c,hc,k⟩:=qC hs (a:=a) hb hp'
   refine ⟨c,?_,k⟩
   rw [big]
   rw [e1] at hc
   rcases Cu.mp hc with rfl | hc
   ·exact CS _ (CI.mpr m2)
   ·exact DY _ (CI.mpr hc)
  ·obtain ⟨c,hc,k⟩:=vW hs (a:=a) hb hp'
   refine ⟨c,?_,k⟩
   rw [big]
   rw [e2] at hc
   rcases Cu.mp hc with rfl | hc
   ·exact DY _ (CI.mpr m1)
   ·exact CS _ (CI.mpr hc)
 ·exact ⟨p,by rw [fo h2]; exact hp',Eg _⟩
def hiL:List Int→Int
 | []=> 0
 | a::l=> l.foldl max a
theorem eT:∀ (l:List Int) (a:Int),l.foldl max a∈a::l
 | [],a=> by simp
 | b::l,a=> by
  have:=eT l (max a b)
  rw [Ew]
  rcases Cu.mp this with e | e
  ·rw [e]; rcases GD a b with h | h
   ·rw [Int.max_eq_right h]; simp
   ·rw [Int.max_eq_left h]; simp
  ·exact Cp _ (Cp _ e)
theorem fj:∀ (l:List Int) (a:Int),∀ x∈a::l,x≤l.foldl max a
 | [],a,x,h=> by simp at h; rw [h]; exact Eg _
 | b::l,a,x,h=> by
  have ih:=fj l (max a b)
  rw [Ew]
  have h0:=ih (max a b) Cy
  rcases Cu.mp h with rfl | h
  ·omega
  ·rcases Cu.mp h with rfl | h
   ·omega
   ·exact ih x (Cp _ h)
def hiW (a b:Int) (l:List Pt):Int:=hiL (l.map (wth a b))
theorem kl {l:List Pt} (a b:Int) (h:l≠[]):(∃ p∈l,wth a b p=hiW a b l)∧∀ p∈l,wth a b p≤hiW a b l:=by
 cases l with
 | nil=> exact absurd rfl h
 | cons q l=>
  refine ⟨?_,fun p hp=> ?_⟩
  ·have:=eT (l.map (wth a b)) (wth a b q)
   rw [← CZ] at this
   obtain ⟨p,hp,e⟩:=Cr.mp this
   exact ⟨p,hp,e⟩
  ·exact fj (l.map (wth a b)) (wth a b q) _ (by rw [← CZ]; exact CO hp)
theorem lj {l:List P2} (h3:3≤(aj l).length):2≤(ST.srt l).length:=by
 rcases EO (ST.srt l).length 2 with h | h
 ·rw [fo (by omega)] at h3; omega
 ·exact h
theorem uw {l:List P2} {i:Nat} (h:i < l.length):(gp l i,gp l ((i+1) % l.length))∈sdl l:=Cr.mpr ⟨i,CF.mpr h,rfl⟩
theorem i4 {l:List P2} {i:Nat} {a:P2} (h:l[i]?=some a):gp l i=a:=by simp [gp,h]
theorem wL {n i:Nat}:((i+1) % n+1) % n=(i+2) % n:=by rw [Hg]
theorem bq {l:List P2} (h3:3≤(aj l).length) {s:P2×P2} (hs:s∈sdl (aj l)):∀ q∈l,0≤af s.1 s.2 q:=by
 obtain ⟨i,hi,rfl⟩:=Cr.mp hs
 obtain ⟨a,b,e1,e2,cov,_⟩:=jS (lj h3) (CF.mp hi)
 show ∀ q∈l,0≤af (gp (aj l) i) (gp (aj l) ((i+1) % (aj l).length)) q
 rw [i4 e1,i4 e2]; exact cov
theorem dZ {l:List P2} (h3:3≤(aj l).length) {A B:P2} (hs:(A,B)∈sdl (aj l)):∃ C,(B,C)∈sdl (aj l)∧0 < af A B C:=by
 obtain ⟨i,hi,e⟩:=Cr.mp hs
 have hi':=CF.mp hi
 obtain ⟨a,b,e1,e2,_,tu⟩:=jS (lj h3) hi'
 obtain ⟨c,e3,pos⟩:=tu (by omega)
 have ea:A=a:=by rw [← i4 e1]; exact (congrArg Gg e).symm
 have eb:B=b:=by rw [← i4 e2]; exact (congrArg FP e).symm
 refine ⟨c,?_,by rw [ea,eb]; exact pos⟩
 have:=uw (l:=aj l) (i:=(i+1) % (aj l).length) (DV _ (by omega))
 rw [wL,i4 e2,i4 e3] at this
 rw [eb]; exact this
theorem A2 {l:List P2} {A:P2} (h:A∈l):∃ B,(A,B)∈sdl l:=by
 obtain ⟨i,hi⟩:=Ds.mp h
 have hi':=(Cz.mp hi).1
 have:=uw hi'
 rw [i4 hi] at this
 exact ⟨_,this⟩
theorem oP {l:List P2} {A:P2} (h:A∈l):∃ Z,(Z,A)∈sdl l:=by
 obtain ⟨i,hi⟩:=Ds.mp h
 have hi':=(Cz.mp hi).1
 have hj:(i+l.length - 1) % l.length < l.length:=DV _ (by omega)
 have:=uw hj
 have e:((i+l.length - 1) % l.length+1) % l.length=i:=by
  rw [Hg,show i+l.length - 1+1=i+l.length by omega,FM,CU hi']
 rw [e,i4 hi] at this
 exact ⟨_,this⟩
theorem gY {l:List P2} (hn:l.Nodup) {A B C:P2} (h1:(A,B)∈sdl l) (h2:(A,C)∈sdl l):B=C:=by
 obtain ⟨i,hi,e⟩:=Cr.mp h1
 obtain ⟨j,hj,e'⟩:=Cr.mp h2
 have hi':=CF.mp hi
 have hj':=CF.mp hj
 have ea:gp l i=gp l j:=(congrArg Gg e).trans (congrArg Gg e').symm
 have:i=j:=(FL hi' hn).mp (by rw [eI hi',eI hj',ea])
 subst this
 exact (congrArg FP e).symm.trans (congrArg FP e')
theorem At {u1 u2 v1 v2 w1 w2:Int} (hd:0 < u1 * v2 - u2 * v1) (h1:u1 * w2 - u2 * w1=0) (h2:v1 * w2 - v2 * w1=0):w1=0∧w2=0:=by
 have e1:(u1 * v2 - u2 * v1) * w1=0:=by
  have:(u1 * v2 - u2 * v1) * w1=v1 * (u1 * w2 - u2 * w1) - u1 * (v1 * w2 - v2 * w1):=by grind
  rw [this,h1,h2]; simp
 have e2:(u1 * v2 - u2 * v1) * w2=0:=by
  have:(u1 * v2 - u2 * v1) * w2=v2 * (u1 * w2 - u2 * w1) - u2 * (v1 * w2 - v2 * w1):=by grind
  rw [this,h1,h2]; simp
 refine ⟨?_,?_⟩
 ·rcases Da.mp e1 with h | h
  ·omega
  ·exact h
 ·rcases Da.mp e2 with h | h
  ·omega
  ·exact h
def tm (l:List P2) (p:P2):Prop:=p∈l∧∃ a b:Int,∀ q∈l,q≠p→wth a b q < wth a b p
theorem fX {l:List P2} {p:P2} (h:tm l p):p∈aj l:=by
 obtain ⟨hp,a,b,k⟩:=h
 obtain ⟨c,hc,e⟩:=wU a b hp
 by_cases hcp:c=p
 ·rw [← hcp]; exact hc
 ·have:=k c (aH _ c hc) hcp
  omega
theorem dI {l:List P2} (h3:3≤(aj l).length) {p:P2} (hp:p∈aj l):tm l p:=by
 obtain ⟨Z,hZ⟩:=oP hp
 obtain ⟨B,hB,pos⟩:=dZ h3 hZ
 refine ⟨aH _ p hp,B.2 - Z.2,Z.1 - B.1,fun q hq hne=> ?_⟩
 have c1:=bq h3 hZ q hq
 have c2:=bq h3 hB q hq
 dsimp only at c1 c2
 have e:wth (B.2 - Z.2) (Z.1 - B.1) q - wth (B.2 - Z.2) (Z.1 - B.1) p=-(af Z p q+af p B q):=by unfold wth af; grind
 rcases De (IL c1 c2) with h | h
 ·omega
 ·exfalso
  have z1:af Z p q=0:=by omega
  have z2:af p B q=0:=by omega
  have:=At (u1:=p.1 - Z.1) (u2:=p.2 - Z.2) (v1:=B.1 - p.1) (v2:=B.2 - p.2) (w1:=q.1 - p.1) (w2:=q.2 - p.2) (by rw [← (show af Z p B=(p.1 - Z.1) * (B.2 - p.2) - (p.2 - Z.2) * (B.1 - p.1) by unfold af; grind)]; exact pos) (by rw [← z1]; unfold af; grind) (by rw [← z2]; unfold af; grind)
  exact hne (Em (by omega) (by omega))
theorem AE {u1 u2 v1 v2 w1 w2:Int} (h:u1 * w2 - u2 * w1=0):(u1 * v2 - u2 * v1) * w1=(w1 * v2 - w2 * v1) * u1∧(u1 * v2 - u2 * v1) * w2=(w1 * v2 - w2 * v1) * u2:=by
 constructor
 ·have:(u1 * v2 - u2 * v1) * w1 - (w1 * v2 - w2 * v1) * u1=v1 * (u1 * w2 - u2 * w1):=by grind
  rw [h] at this; simp at this; omega
 ·have:(u1 * v2 - u2 * v1) * w2 - (w1 * v2 - w2 * v1) * u2=v2 * (u1 * w2 - u2 * w1):=by grind
  rw [h] at this; simp at this; omega
theorem iT {l:List P2} (h3:3≤(aj l).length) {A B:P2}:(A,B)∈sdl (aj l)↔A∈aj l∧B∈aj l∧A≠B∧∀ q∈aj l,0≤af A B q:=by
 constructor
 ·intro h
  exact ⟨(aV h).1,(aV h).2,wo (bj l) (by omega) _ h,fun q hq=> bq h3 h q (aH _ q hq)⟩
 ·rintro ⟨hA,hB,hne,cov⟩
  obtain ⟨C,hC⟩:=A2 hA
  obtain ⟨Z,hZ⟩:=oP hA
  by_cases hBC:B=C
  ·rw [hBC]; exact hC
  ·exfalso
   obtain ⟨D,hD,pD⟩:=dZ h3 hC
   obtain ⟨C',hC',pC⟩:=dZ h3 hZ
   have:C'=C:=gY (bj l) hC' hC
   subst this
   have mC:=(aV hC).2
   have mD:=(aV hD).2
   have lB:=aH _ B hB
   have k1:=bq h3 hC B lB
   have k2:=cov C' mC
   have k3:=bq h3 hZ B lB
   have k4:=bq h3 hD B lB
   dsimp only at k1 k3 k4 mC mD
   have z:(C'.1 - A.1) * (B.2 - A.2) - (C'.2 - A.2) * (B.1 - A.1)=0:=by
    have e1:af A C' B=(C'.1 - A.1) * (B.2 - A.2) - (C'.2 - A.2) * (B.1 - A.1):=rfl
    have e2:af A B C'=-((C'.1 - A.1) * (B.2 - A.2) - (C'.2 - A.2) * (B.1 - A.1)):=by unfold af; grind
    omega
   obtain ⟨p1,p2⟩:=AE (v1:=Z.1 - A.1) (v2:=Z.2 - A.2) z
   have dpos:0 < (C'.1 - A.1) * (Z.2 - A.2) - (C'.2 - A.2) * (Z.1 - A.1):=by
    rw [← (show af Z A C'=(C'.1 - A.1) * (Z.2 - A.2) - (C'.2 - A.2) * (Z.1 - A.1) by unfold af; grind)]; exact pC
   have spos:0≤(B.1 - A.1) * (Z.2 - A.2) - (B.2 - A.2) * (Z.1 - A.1):=by
    rw [← (show af Z A B=(B.1 - A.1) * (Z.2 - A.2) - (B.2 - A.2) * (Z.1 - A.1) by unfold af; grind)]; exact k3
   generalize (C'.1 - A.1) * (Z.2 - A.2) - (C'.2 - A.2) * (Z.1 - A.1)=d at *
   generalize (B.1 - A.1) * (Z.2 - A.2) - (B.2 - A.2) * (Z.1 - A.1)=s at *
   have s0:s≠0:=fun e=> by
    rw [e,GC] at p1 p2
    have q1:=(Da.mp p1).resolve_left (by omega)
    have q2:=(Da.mp p2).resolve_left (by omega)
    exact hne (Em (by omega) (by omega))
   have s1:s≠d:=fun e=> by
    rw [e] at p1 p2
    have q1:=Dd (by omega) p1
    have q2:=Dd (by omega) p2
    exact hBC (Em (by omega) (by omega))
   have s2:s≤d:=by
    have e:d * af C' D B=(d - s) * af A C' D:=by
     have e1:d * af C' D B=(D.1 - C'.1) * (d * (B.2 - A.2) - d * (C'.2 - A.2)) - (D.2 - C'.2) * (d * (B.1 - A.1) - d * (C'.1 - A.1)):=by unfold af; grind
     rw [e1,p1,p2]; unfold af; grind
    have:0≤d * af C' D B:=Cs (by omega) k4
    rcases DL d s with h | h
    ·have:0 < (s - d) * af A C' D:=DH (by omega) pD
     have e3:(d - s) * af A C' D=-((s - d) * af A C' D):=by grind
     omega
    ·exact h
   obtain ⟨_,a,b,top⟩:=dI h3 hB
   have t1:=top A (aH _ A hA) hne
   have t2:=top C' (aH _ C' mC) (fun e=> hBC e.symm)
   have w1:d * (wth a b B - wth a b A)=s * (wth a b C' - wth a b A):=by
    have e1:d * (wth a b B - wth a b A)=a * (d * (B.1 - A.1))+b * (d * (B.2 - A.2)):=by unfold wth; grind
    rw [e1,p1,p2]; unfold wth; grind
   have g1:0 < d * (wth a b B - wth a b A):=DH (by omega) (by omega)
   have g2:0 < wth a b C' - wth a b A:=by
    rcases DL 0 (wth a b C' - wth a b A) with h | h
    ·exact h
    ·have:0≤s * -(wth a b C' - wth a b A):=Cs (by omega) (by omega)
     have e3:s * (wth a b C' - wth a b A)=-(s * -(wth a b C' - wth a b A)):=by grind
     omega
   have g3:0 < (d - s) * (wth a b C' - wth a b A):=DH (by omega) g2
   have w2:d * (wth a b B - wth a b C')=-((d - s) * (wth a b C' - wth a b A)):=by
    have:d * (wth a b B - wth a b C')=d * (wth a b B - wth a b A) - d * (wth a b C' - wth a b A):=by grind
    rw [this,w1]; grind
   have g4:0 < d * (wth a b B - wth a b C'):=DH (by omega) (by omega)
   omega
structure Lin (f:P2→P2) (d:Int):Prop where
 one:d=1∨d=-1
 ex:∃ a b c e:Int,a * e - b * c=d∧∀ p,f p=(a * p.1+b * p.2,c * p.1+e * p.2)
theorem Lin.det {f:P2→P2} {d:Int} (L:Lin f d) (A B q:P2):af (f A) (f B) (f q)=d * af A B q:=by
 obtain ⟨a,b,c,e,h,k⟩:=L.ex
 rw [k,k,k,← h]; unfold af; grind
theorem lX {f:P2→P2} {d:Int} (L:Lin f d) (x y:Int):∃ x' y':Int,∀ p,wth x' y' (f p)=wth x y p:=by
 obtain ⟨a,b,c,e,h,k⟩:=L.ex
 refine ⟨d * (x * e - y * c),d * (y * a - x * b),fun p=> ?_⟩
 rw [k]
 have dd:d * d=1:=by rcases L.one with z | z <;> rw [z] <;> rfl
 have:wth (d * (x * e - y * c)) (d * (y * a - x * b)) (a * p.1+b * p.2,c * p.1+e * p.2)=d * (a * e - b * c) * wth x y p:=by unfold wth; grind
 rw [this,h,dd,Gp]
theorem Lin.inj {f:P2→P2} {d:Int} (L:Lin f d) {p q:P2} (e:f p=f q):p=q:=by
 obtain ⟨x,y,h⟩:=lX L 1 0
 obtain ⟨x',y',h'⟩:=lX L 0 1
 have h1:wth 1 0 p=wth 1 0 q:=by rw [← h,← h,e]
 have h2:wth 0 1 p=wth 0 1 q:=by rw [← h',← h',e]
 unfold wth at h1 h2
 exact Em (by omega) (by omega)
theorem qL {f:P2→P2} {d:Int} (L:Lin f d) {l:List P2} {p:P2} (h:tm l p):tm (l.map f) (f p):=by
 obtain ⟨hp,a,b,k⟩:=h
 obtain ⟨x,y,e⟩:=lX L a b
 refine ⟨CO hp,x,y,fun q hq hne=> ?_⟩
 obtain ⟨r,hr,rfl⟩:=Cr.mp hq
 rw [e,e]
 exact k r hr fun z=> hne (by rw [z])
theorem wM {f:P2→P2} {d:Int} (L:Lin f d) {l:List P2} {p:P2} (hp:p∈l) (h:tm (l.map f) (f p)):tm l p:=by
 obtain ⟨_,a,b,k⟩:=h
 obtain ⟨u,v,w,z,_,kf⟩:=L.ex
 refine ⟨hp,a * u+b * w,a * v+b * z,fun q hq hne=> ?_⟩
 have e:∀ r:P2,wth (a * u+b * w) (a * v+b * z) r=wth a b (f r):=fun r=> by rw [kf]; unfold wth; grind
 rw [e,e]
 exact k (f q) (CO hq) fun z=> hne (L.inj z)
theorem iz {f:P2→P2} {d:Int} (L:Lin f d) {l:List P2} (h3:3≤(aj l).length):3≤(aj (l.map f)).length:=by
 have nd:((aj l).map f).Nodup:=DW _ (fun a b (h:a≠b) e=> h (L.inj e)) (bj l)
 have:=gf nd (m:=aj (l.map f)) fun x hx=> by
  obtain ⟨p,hp,rfl⟩:=Cr.mp hx
  exact fX (qL L (dI h3 hp))
 rw [Co] at this
 omega
theorem dD {f:P2→P2} {d:Int} (L:Lin f d) {l:List P2} (h3:3≤(aj l).length) (x:P2):x∈aj (l.map f)↔∃ p∈aj l,f p=x:=by
 constructor
 ·intro h
  obtain ⟨p,hp,rfl⟩:=Cr.mp (aH _ x h)
  exact ⟨p,fX (wM L hp (dI (iz L h3) h)),rfl⟩
 ·rintro ⟨p,hp,rfl⟩
  exact fX (qL L (dI h3 hp))
def sdf (f:P2→P2) (d:Int) (s:P2×P2):P2×P2:=if d=1 then (f s.1,f s.2) else (f s.2,f s.1)
theorem v9 {f:P2→P2} {d:Int} (L:Lin f d) {l:List P2} (h3:3≤(aj l).length) (t:P2×P2):t∈sdl (aj (l.map f))↔∃ s∈sdl (aj l),sdf f d s=t:=by
 have h3':=iz L h3
 have sw:∀ A B q:P2,af B A q=-af A B q:=fun A B q=> by unfold af; grind
 constructor
 ·intro h
  obtain ⟨x,y⟩:=t
  obtain ⟨hx,hy,ne,cov⟩:=(iT h3').mp h
  obtain ⟨A,hA,rfl⟩:=(dD L h3 x).mp hx
  obtain ⟨B,hB,rfl⟩:=(dD L h3 y).mp hy
  have cv:∀ q∈aj l,0≤d * af A B q:=fun q hq=> by
   have:=cov (f q) ((dD L h3 _).mpr ⟨q,hq,rfl⟩)
   rwa [L.det] at this
  rcases L.one with z | z
  ·refine ⟨(A,B),(iT h3).mpr ⟨hA,hB,fun e=> ne (by rw [e]),fun q hq=> ?_⟩,by unfold sdf; rw [if_pos z]⟩
   have:=cv q hq
   rw [z] at this; omega
  ·refine ⟨(B,A),(iT h3).mpr ⟨hB,hA,fun e=> ne (by rw [e]),fun q hq=> ?_⟩,by unfold sdf; rw [if_neg (by omega)]⟩
   have:=cv q hq
   rw [sw]
   rw [z] at this; omega
 ·rintro ⟨⟨A,B⟩,hs,rfl⟩
  obtain ⟨hA,hB,ne,cov⟩:=(iT h3).mp hs
  have cv:∀ q∈aj (l.map f),0≤d * af (f A) (f B) q:=fun q hq=> by
   obtain ⟨p,hp,rfl⟩:=(dD L h3 q).mp hq
   have:=cov p hp
   rw [L.det,← GX,show d * d=1 by rcases L.one with z | z <;> rw [z] <;> rfl]
   omega
  unfold sdf
  rcases L.one with z | z
  ·rw [if_pos z]
   refine (iT h3').mpr ⟨(dD L h3 _).mpr ⟨A,hA,rfl⟩,(dD L h3 _).mpr ⟨B,hB,rfl⟩,fun e=> ne (L.inj e),fun q hq=> ?_⟩
   have:=cv q hq
   dsimp only
   rw [z] at this; omega
  ·rw [if_neg (by omega)]
   refine (iT h3').mpr ⟨(dD L h3 _).mpr ⟨B,hB,rfl⟩,(dD L h3 _).mpr ⟨A,hA,rfl⟩,fun e=> ne (L.inj e.symm),fun q hq=> ?_⟩
   have:=cv q hq
   dsimp only
   rw [sw]
   rw [z] at this; omega
theorem uN {l:List P2} (hn:l.Nodup):(sdl l).Nodup:=by
 have h:((sdl l).map (·.1)).Nodup:=by rw [rF]; exact hn
 exact (Dw.mp h).imp fun {a b} k e=> k (by rw [e])
def ub (s:P2×P2):Int:=(s.2.1 - s.1.1) / gst s
def vb (s:P2×P2):Int:=(s.2.2 - s.1.2) / gst s
def onS (s:P2×P2) (k:Int):P2:=(s.1.1+k * ub s,s.1.2+k * vb s)
theorem fH (s:P2×P2):s.2.1 - s.1.1=gst s * ub s:=by
 unfold ub
 have h:gst s ∣ s.2.1 - s.1.1:=E4 ..
 rw [DI h]
theorem fF (s:P2×P2):s.2.2 - s.1.2=gst s * vb s:=by
 unfold vb
 have h:gst s ∣ s.2.2 - s.1.2:=EY ..
 rw [DI h]
theorem qd {s:P2×P2} (h:s.1≠s.2):∃ cs ct,Lvl s.1 s.2 (gst s) (ub s) (vb s) cs ct:=by
 have g0:=cf h
 obtain ⟨cs,ct,G⟩:=jN (s.2.1 - s.1.1) (s.2.2 - s.1.2)
 have Ge:cs * (s.2.1 - s.1.1)+ct * (s.2.2 - s.1.2)=gst s:=G.eq
 refine ⟨cs,ct,g0,fH s,fF s,?_⟩
 have e:gst s * (cs * ub s+ct * vb s)=gst s * 1:=by
  rw [FH]
  have:gst s * (cs * ub s+ct * vb s)=cs * (gst s * ub s)+ct * (gst s * vb s):=by grind
  rw [this,← fH,← fF]; exact Ge
 exact Dd (by omega) e
theorem jq {s:P2×P2} (h:s.1≠s.2) {p:P2} (hp:af s.1 s.2 p=0):∃ k,p=onS s k:=by
 obtain ⟨cs,ct,L⟩:=qd h
 have z:ty s.1 p (ub s) (vb s)=0:=by
  rw [L.area] at hp
  exact (Da.mp hp).resolve_left (by have:=L.g0; omega)
 obtain ⟨b1,b2⟩:=L.back p
 rw [z] at b1 b2
 refine ⟨tx s.1 p cs ct,Em ?_ ?_⟩
 ·show p.1=s.1.1+tx s.1 p cs ct * ub s
  grind
 ·show p.2=s.1.2+tx s.1 p cs ct * vb s
  grind
theorem dP (s:P2×P2) (k:Int) (X Y:P2):gst s * af X Y (onS s k)=(gst s - k) * af X Y s.1+k * af X Y s.2:=by
 have h1:=fH s
 have h2:=fF s
 have e1:s.2.1=s.1.1+gst s * ub s:=by omega
 have e2:s.2.2=s.1.2+gst s * vb s:=by omega
 unfold onS af
 dsimp only
 rw [e1,e2]
 grind
theorem kj {s:P2×P2} (h:s.1≠s.2) {j k:Int} (e:onS s j=onS s k):j=k:=by
 obtain ⟨cs,ct,L⟩:=qd h
 have st:=L.st
 have e1:s.1.1+j * ub s=s.1.1+k * ub s:=congrArg Gg e
 have e2:s.1.2+j * vb s=s.1.2+k * vb s:=congrArg FP e
 have a1:(j - k) * ub s=0:=by have:(j - k) * ub s=j * ub s - k * ub s:=by grind
                              omega
 have a2:(j - k) * vb s=0:=by have:(j - k) * vb s=j * vb s - k * vb s:=by grind
                              omega
 have:(j - k) * (cs * ub s+ct * vb s)=cs * ((j - k) * ub s)+ct * ((j - k) * vb s):=by grind
 rw [st,a1,a2] at this
 simp at this
 omega
theorem ax {a b:Int} (ha:0 < a) (h:0≤a * b):0≤b:=by
 rcases DL b 0 with z | z
 ·have:=DH ha (show 0 < -b by omega)
  have e:a * -b=-(a * b):=by grind
  omega
 ·exact z
def spt (s:P2×P2):List P2:=(Df (gst s).toNat).map fun (k:Nat)=> onS s (k:Int)
def apt (l:List P2):List P2:=((sdl l).map spt).flatten
def bdr (l:List P2) (p:P2):Prop:=(∀ s∈sdl l,0≤af s.1 s.2 p)∧∃ s∈sdl l,af s.1 s.2 p=0
theorem xu (s:P2×P2):(spt s).length=(gst s).toNat:=by simp [spt]
theorem g9 {s:P2×P2} {p:P2}:p∈spt s↔∃ k:Int,0≤k∧k < gst s∧p=onS s k:=by
 unfold spt
 rw [Cr]
 constructor
 ·rintro ⟨k,hk,rfl⟩
  have:=CF.mp hk
  exact ⟨k,by omega,by omega,rfl⟩
 ·rintro ⟨k,h0,h1,rfl⟩
  exact ⟨k.toNat,CF.mpr (by omega),by rw [show ((k.toNat:Nat):Int)=k by omega]⟩
theorem yO (l:List P2):((apt l).length:Int)=fZ l:=by
 unfold apt fZ
 generalize sdl l=ss
 induction ss with
 | nil=> rfl
 | cons s r ih=>
  rw [CZ,HQ,Dv,CZ,Eh,xu]
  have:=qk s
  omega
section
variable {l:List P2} (h3:3≤(aj l).length)
include h3
theorem bZ {s:P2×P2} (hs:s∈sdl (aj l)):s.1≠s.2:=wo (bj l) (by omega) s hs
theorem x_ {p:P2} (h:bdr (aj l) p):p∈apt (aj l):=by
 obtain ⟨hall,s,hs,h0⟩:=h
 obtain ⟨k,rfl⟩:=jq (bZ h3 hs) h0
 have g0:=cf (bZ h3 hs)
 obtain ⟨A,B⟩:=s
 obtain ⟨Z,hZ⟩:=oP (aV hs).1
 obtain ⟨B',hB',pZ⟩:=dZ h3 hZ
 have:B'=B:=gY (bj l) hB' hs
 subst this
 obtain ⟨C,hC,pC⟩:=dZ h3 hs
 have k0:0≤k:=by
  have m:=dP (A,B') k Z A
  have z:af Z A A=0:=by unfold af; grind
  dsimp only at m
  rw [z,DD,Hn] at m
  have:0≤gst (A,B') * af Z A (onS (A,B') k):=Cs (by omega) (hall _ hZ)
  rw [m,Ed] at this
  exact ax pZ this
 have k1:k≤gst (A,B'):=by
  have m:=dP (A,B') k B' C
  have z:af B' C B'=0:=by unfold af; grind
  have z2:af B' C A=af A B' C:=by unfold af; grind
  dsimp only at m
  rw [z,DD,El,z2] at m
  have:0≤gst (A,B') * af B' C (onS (A,B') k):=Cs (by omega) (hall _ hC)
  rw [m,Ed] at this
  have:=ax pC this
  omega
 unfold apt
 by_cases hk:k < gst (A,B')
 ·exact E5.mpr ⟨_,CO hs,g9.mpr ⟨k,k0,hk,rfl⟩⟩
 ·have e:onS (A,B') k=onS (B',C) 0:=by
   have:k=gst (A,B'):=by omega
   rw [this]
   have h1:=fH (A,B')
   have h2:=fF (A,B')
   dsimp only at h1 h2
   unfold onS
   dsimp only
   exact Em (by dsimp only; omega) (by dsimp only; omega)
  rw [e]
  exact E5.mpr ⟨_,CO hC,g9.mpr ⟨0,by omega,cf (bZ h3 hC),rfl⟩⟩
theorem xJ {p:P2} (h:p∈apt (aj l)):bdr (aj l) p:=by
 unfold apt at h
 obtain ⟨q,hq,hp⟩:=E5.mp h
 obtain ⟨s,hs,rfl⟩:=Cr.mp hq
 obtain ⟨k,k0,k1,rfl⟩:=g9.mp hp
 have g0:=cf (bZ h3 hs)
 refine ⟨fun t ht=> ?_,s,hs,?_⟩
 ·have c1:=bq h3 ht s.1 (aH _ _ (aV hs).1)
  have c2:=bq h3 ht s.2 (aH _ _ (aV hs).2)
  have m:=dP s k t.1 t.2
  have a1:=Cs (show 0≤gst s - k by omega) c1
  have a2:=Cs k0 c2
  exact ax g0 (by omega)
 ·have m:=dP s k s.1 s.2
  have z1:af s.1 s.2 s.1=0:=by unfold af; grind
  have z2:af s.1 s.2 s.2=0:=by unfold af; grind
  rw [z1,z2,DD,DD,El] at m
  exact (Da.mp m).resolve_left (by omega)
theorem vR {s:P2×P2} (hs:s∈sdl (aj l)) {k:Int} (k0:0 < k) (k1:k < gst s):onS s k ∉ aj l:=fun h=> by
 obtain ⟨_,a,b,top⟩:=dI h3 h
 have ne:=bZ h3 hs
 have w:gst s * (wth a b (onS s k) - wth a b s.1)=k * (wth a b s.2 - wth a b s.1):=by
  have h1:=fH s
  have h2:=fF s
  have e:wth a b s.2 - wth a b s.1=a * (s.2.1 - s.1.1)+b * (s.2.2 - s.1.2):=by unfold wth; grind
  rw [e,h1,h2]
  unfold wth onS
  grind
 have n1:s.1≠onS s k:=fun e=> by
  have:onS s 0=onS s k:=by rw [← e]; unfold onS; simp
  have:=kj ne this
  omega
 have n2:s.2≠onS s k:=fun e=> by
  have h1:=fH s
  have h2:=fF s
  have:onS s (gst s)=onS s k:=by rw [← e]; unfold onS; exact Em (by dsimp only; omega) (by dsimp only; omega)
  have:=kj ne this
  omega
 have t1:=top s.1 (aH _ _ (aV hs).1) n1
 have t2:=top s.2 (aH _ _ (aV hs).2) n2
 have g1:0 < gst s * (wth a b (onS s k) - wth a b s.1):=DH (by omega) (by omega)
 have g2:0 < wth a b s.2 - wth a b s.1:=by
  rcases DL 0 (wth a b s.2 - wth a b s.1) with z | z
  ·exact z
  ·have:=Cs (show 0≤k by omega) (show 0≤-(wth a b s.2 - wth a b s.1) by omega)
   have e:k * -(wth a b s.2 - wth a b s.1)=-(k * (wth a b s.2 - wth a b s.1)):=by grind
   omega
 have g3:k * (wth a b s.2 - wth a b s.1) < gst s * (wth a b s.2 - wth a b s.1):=Int.mul_lt_mul_of_pos_right k1 g2
 have g4:gst s * (wth a b (onS s k) - wth a b s.1) < gst s * (wth a b s.2 - wth a b s.1):=by omega
 have:=Int.lt_of_mul_lt_mul_left g4 (by omega)
 omega
theorem jO {s:P2×P2} (hs:s∈sdl (aj l)) {P:P2} (hP:P∈aj l) (h0:af s.1 s.2 P=0):P=s.1∨P=s.2:=by
 have hb:bdr (aj l) P:=⟨fun t ht=> bq h3 ht P (aH _ _ hP),s,hs,h0⟩
 obtain ⟨k,e⟩:=jq (bZ h3 hs) h0
 have ne:=bZ h3 hs
 have g0:=cf ne
 obtain ⟨A,B⟩:=s
 obtain ⟨Z,hZ⟩:=oP (aV hs).1
 obtain ⟨B',hB',pZ⟩:=dZ h3 hZ
 have:B'=B:=gY (bj l) hB' hs
 subst this
 obtain ⟨C,hC,pC⟩:=dZ h3 hs
 have k0:0≤k:=by
  have m:=dP (A,B') k Z A
  have z:af Z A A=0:=by unfold af; grind
  dsimp only at m
  rw [z,DD,Hn,← e] at m
  have:0≤gst (A,B') * af Z A P:=Cs (by omega) (hb.1 _ hZ)
  rw [m,Ed] at this
  exact ax pZ this
 have k1:k≤gst (A,B'):=by
  have m:=dP (A,B') k B' C
  have z:af B' C B'=0:=by unfold af; grind
  have z2:af B' C A=af A B' C:=by unfold af; grind
  dsimp only at m
  rw [z,DD,El,z2,← e] at m
  have:0≤gst (A,B') * af B' C P:=Cs (by omega) (hb.1 _ hC)
  rw [m,Ed] at this
  have:=ax pC this
  omega
 rcases De k0 with z | z
 ·rcases De k1 with w | w
  ·exact absurd (e ▸ hP) (vR h3 hs z w)
  ·right
   rw [e,w]
   have h1:=fH (A,B')
   have h2:=fF (A,B')
   dsimp only at h1 h2
   unfold onS
   exact Em (by dsimp only; omega) (by dsimp only; omega)
 ·left
  rw [e,← z]; unfold onS; simp
theorem apart {s t:P2×P2} (hs:s∈sdl (aj l)) (ht:t∈sdl (aj l)) (hst:s≠t):∀ p∈spt s,∀ q∈spt t,p≠q:=by
 intro p hp q hq e
 subst e
 obtain ⟨k,k0,k1,rfl⟩:=g9.mp hp
 obtain ⟨j,j0,j1,e⟩:=g9.mp hq
 have gs:=cf (bZ h3 hs)
 have gt:=cf (bZ h3 ht)
 have mA:=(aV hs).1
 have mB:=(aV hs).2
 have key:∀ {s t:P2×P2},s∈sdl (aj l)→t∈sdl (aj l)→∀ {k j:Int},0≤k→k < gst s→0≤j→j < gst t→onS s k=onS t j→af t.1 t.2 s.1=0∧(k=0∨af t.1 t.2 s.2=0):=fun {s t} hs ht {k j} k0 k1 j0 j1 e=> by
  have z:af t.1 t.2 (onS s k)=0:=by
   rw [e]
   have m:=dP t j t.1 t.2
   have z1:af t.1 t.2 t.1=0:=by unfold af; grind
   have z2:af t.1 t.2 t.2=0:=by unfold af; grind
   rw [z1,z2,DD,DD,El] at m
   have:=cf (bZ h3 ht)
   exact (Da.mp m).resolve_left (by omega)
  have m:=dP s k t.1 t.2
  rw [z,DD] at m
  have c1:=bq h3 ht s.1 (aH _ _ (aV hs).1)
  have c2:=bq h3 ht s.2 (aH _ _ (aV hs).2)
  have a1:=Cs (show 0≤gst s - k by omega) c1
  have a2:=Cs k0 c2
  have b1:(gst s - k) * af t.1 t.2 s.1=0:=by omega
  have b2:k * af t.1 t.2 s.2=0:=by omega
  exact ⟨(Da.mp b1).resolve_left (by omega),Da.mp b2⟩
 obtain ⟨x1,x2⟩:=key hs ht k0 k1 j0 j1 e
 obtain ⟨y1,y2⟩:=key ht hs j0 j1 k0 k1 e.symm
 have nd:=bj l
 have o0:∀ r:P2×P2,onS r 0=r.1:=fun r=> by unfold onS; simp
 rcases x2 with kz | xB
 ·subst kz
  rcases y2 with jz | yD
  ·subst jz
   rw [o0,o0] at e
   obtain ⟨A,B⟩:=s
   obtain ⟨C,D⟩:=t
   dsimp only at e
   subst e
   exact hst (by rw [gY nd hs ht])
  ·rw [o0] at e
   rcases De j0 with z | z
   ·exact vR h3 ht z j1 (by rw [← e]; exact mA)
   ·rw [← z,o0] at e
    obtain ⟨A,B⟩:=s
    obtain ⟨C,D⟩:=t
    dsimp only at e
    subst e
    exact hst (by rw [gY nd hs ht])
 ·have eA:=jO h3 ht mA x1
  have eB:=jO h3 ht mB xB
  have ns:=bZ h3 hs
  have nt:=bZ h3 ht
  rcases eA with a | a
  ·obtain ⟨A,B⟩:=s
   obtain ⟨C,D⟩:=t
   dsimp only at a
   subst a
   exact hst (by rw [gY nd hs ht])
  ·rcases eB with b | b
   ·-- the side and the same turned round:a third corner lies at both hands
    obtain ⟨C,D⟩:=t
    obtain ⟨A,B⟩:=s
    dsimp only at a b
    subst a b
    obtain ⟨E,hE,pE⟩:=dZ h3 hs
    have c:=bq h3 ht E (aH _ _ (aV hE).2)
    have:af B A E=-af A B E:=by unfold af; grind
    dsimp only at c
    omega
   ·exact ns (by rw [a,b])
theorem tS:(apt (aj l)).Nodup:=by
 unfold apt
 refine Fj.mpr ⟨fun q hq=> ?_,?_⟩
 ·obtain ⟨s,hs,rfl⟩:=Cr.mp hq
  unfold spt
  refine DW _ (fun a b (h:a≠b) e=> h ?_) Ey
  have:=kj (bZ h3 hs) e
  omega
 ·refine Dw.mpr ?_
  exact (uN (bj l)).imp_of_mem fun {s t} hs ht h=> apart h3 hs ht h
end
theorem jl {A B p:P2} (h:ST.ltP A B=true):(af A B p=0∧ST.leP A p=true∧ST.leP p B=true)↔∃ k:Int,0≤k∧k≤gst (A,B)∧p=onS (A,B) k:=by
 have hne:(A,B).1≠(A,B).2:=fun e=> by
  dsimp only at e
  subst e
  unfold ST.ltP at h
  simp at h
 have g0:=cf hne
 have h1:=fH (A,B)
 have h2:=fF (A,B)
 dsimp only at h1 h2
 unfold ST.ltP at h
 have h:=of_decide_eq_true h
 have lex:0 < ub (A,B)∨(ub (A,B)=0∧0 < vb (A,B)):=by
  rcases h with z | ⟨z,w⟩
  ·left
   have:0 < gst (A,B) * ub (A,B):=by omega
   exact DR this (by omega)
  ·right
   have e:gst (A,B) * ub (A,B)=0:=by omega
   have:0 < gst (A,B) * vb (A,B):=by omega
   exact ⟨(Da.mp e).resolve_left (by omega),DR this (by omega)⟩
 have sg:∀ k:Int,(ST.leP A (onS (A,B) k)=true↔0≤k)∧(ST.leP (onS (A,B) k) B=true↔k≤gst (A,B)):=fun k=> by
  have r:∀ m:Int,(0 < m * ub (A,B)∨(m * ub (A,B)=0∧0≤m * vb (A,B)))↔0≤m:=fun m=> by
   rcases lex with u | ⟨u,v⟩
   ·constructor
    ·rintro (z | ⟨z,_⟩)
     ·exact FS (Int.pos_of_mul_pos_left z (by omega))
     ·rcases Da.mp z with w | w <;> omega
    ·intro hm
     rcases De hm with z | z
     ·left; exact DH z u
     ·right; rw [← z]; simp
   ·rw [u,DD]
    constructor
    ·rintro (z | ⟨_,z⟩)
     ·omega
     ·rw [Ed] at z; exact ax v z
    ·intro hm
     exact .inr ⟨rfl,Cs hm (by omega)⟩
  have e1:(gst (A,B) - k) * ub (A,B)=B.1 - (A.1+k * ub (A,B)):=by
   have:(gst (A,B) - k) * ub (A,B)=gst (A,B) * ub (A,B) - k * ub (A,B):=by grind
   omega
  have e2:(gst (A,B) - k) * vb (A,B)=B.2 - (A.2+k * vb (A,B)):=by
   have:(gst (A,B) - k) * vb (A,B)=gst (A,B) * vb (A,B) - k * vb (A,B):=by grind
   omega
  have r1:=r k
  have r2:=r (gst (A,B) - k)
  rw [e1,e2] at r2
  unfold ST.leP onS
  rw [decide_eq_true_eq,decide_eq_true_eq]
  dsimp only
  constructor
  ·rw [← r1]; omega
  ·rw [show k≤gst (A,B)↔0≤gst (A,B) - k by omega,← r2]; omega
 constructor
 ·rintro ⟨d,a,b⟩
  obtain ⟨k,rfl⟩:=jq hne d
  exact ⟨k,(sg k).1.mp a,(sg k).2.mp b,rfl⟩
 ·rintro ⟨k,k0,k1,rfl⟩
  refine ⟨?_,(sg k).1.mpr k0,(sg k).2.mpr k1⟩
  have m:=dP (A,B) k A B
  have z1:af A B A=0:=by unfold af; grind
  have z2:af A B B=0:=by unfold af; grind
  dsimp only at m
  rw [z1,z2,DD,DD,El] at m
  exact (Da.mp m).resolve_left (by omega)
end
section
variable {P:Program} {w:World} {K:Cn} {mg:Str→Option Value} {base:Heap}
theorem mr {a b c e x y:Int} (h:a * e - b * c=1∨a * e - b * c=-1):EU (a * x+b * y) (c * x+e * y)=EU x y:=by
 apply Nat.dvd_antisymm
 ·have h1:((EU (a * x+b * y) (c * x+e * y):Nat):Int) ∣ a * x+b * y:=E4 ..
  have h2:((EU (a * x+b * y) (c * x+e * y):Nat):Int) ∣ c * x+e * y:=EY ..
  generalize EU (a * x+b * y) (c * x+e * y)=g at *
  have k1:(g:Int) ∣ (a * e - b * c) * x:=by
   have:(a * e - b * c) * x=e * (a * x+b * y) - b * (c * x+e * y):=by grind
   rw [this]; exact Gk (C8 h1 (Dp ..)) (C8 h2 (Dp ..))
  have k2:(g:Int) ∣ (a * e - b * c) * y:=by
   have:(a * e - b * c) * y=a * (c * x+e * y) - c * (a * x+b * y):=by grind
   rw [this]; exact Gk (C8 h2 (Dp ..)) (C8 h1 (Dp ..))
  have up:∀ z:Int,(g:Int) ∣ (a * e - b * c) * z→(g:Int) ∣ z:=fun z k=> by
   rcases h with w | w <;> rw [w] at k
   ·rwa [Gp] at k
   ·rw [Int.neg_one_mul] at k; exact Gj.mp k
  exact Jf.mp (FC (up x k1) (up y k2))
 ·have h1:((EU x y:Nat):Int) ∣ x:=E4 ..
  have h2:((EU x y:Nat):Int) ∣ y:=EY ..
  exact Jf.mp (FC (ET (C8 h1 (Dp ..)) (C8 h2 (Dp ..))) (ET (C8 h1 (Dp ..)) (C8 h2 (Dp ..))))
theorem d8 (A B:P2):gst (B,A)=gst (A,B):=by
 unfold gst
 dsimp only
 rw [show A.1 - B.1=-(B.1 - A.1) by omega,show A.2 - B.2=-(B.2 - A.2) by omega,Int.gcd_neg,Int.neg_gcd]
theorem xZ {f:P2→P2} {d:Int} (L:Lin f d) (s:P2×P2):gst (sdf f d s)=gst s:=by
 obtain ⟨A,B⟩:=s
 have key:gst (f A,f B)=gst (A,B):=by
  obtain ⟨a,b,c,e,h,k⟩:=L.ex
  unfold gst
  rw [k,k]
  dsimp only
  rw [show a * B.1+b * B.2 - (a * A.1+b * A.2)=a * (B.1 - A.1)+b * (B.2 - A.2) by grind,show c * B.1+e * B.2 - (c * A.1+e * A.2)=c * (B.1 - A.1)+e * (B.2 - A.2) by grind]
  rw [mr (by rw [h]; exact L.one)]
 unfold sdf
 split
 ·exact key
 ·exact (d8 _ _).trans key
def loT (X Y y:Int):Int:=-((-X * y) / Y)
def hiT (g X Y y:Int):Int:=g+((X - g) * y) / Y
def lnT (g X Y y:Int):Int:=hiT g X Y y - loT X Y y+1
theorem o7 {g X Y y:Int} (hY:0 < Y) (hg:0≤g) (h1:y≤Y):0≤lnT g X Y y:=by
 unfold lnT hiT loT
 have a1:=Du (-X * y) Y
 have a2:=C6 (-X * y) hY
 have b1:=Du ((X - g) * y) Y
 have b2:=C6 ((X - g) * y) hY
 generalize -X * y / Y=p at *
 generalize (X - g) * y / Y=q at *
 have e:-X * y+(X - g) * y=-(g * y):=by grind
 have gy:g * y≤g * Y:=D9 h1 hg
 have k:-(Y * (g+q+p+1)) < Y:=by
  have:Y * (g+q+p+1)=g * Y+Y * q+Y * p+Y:=by grind
  omega
 rcases DL (g+q+p+1) 0 with z | z
 ·have:Y * 1≤Y * -(g+q+p+1):=D9 (by omega) (by omega)
  have e2:Y * -(g+q+p+1)=-(Y * (g+q+p+1)):=by grind
  omega
 ·omega
def nD (A:P2) (g u v s t X Y:Int) (y:Nat):List P2:=(Df (lnT g X Y y).toNat).map fun (k:Nat)=> bk A u v s t (loT X Y y+(k:Int)) y
def kA (A:P2) (g u v s t X Y:Int) (n:Nat):List P2:=((Df n).map (nD A g u v s t X Y)).flatten
theorem tM (A:P2) (g u v s t X Y:Int) (n:Nat):kA A g u v s t X Y (n+1)=kA A g u v s t X Y n++nD A g u v s t X Y n:=by
 unfold kA
 rw [FD,Di,List.flatten_append]
 simp
theorem ov {A:P2} {g u v s t X Y:Int} (hY:0 < Y) (hg:0≤g):∀ n:Nat,(n:Int)≤Y+1→((kA A g u v s t X Y n).length:Int)=n * (g+1)+bE n (X - g) 0 Y+bE n (-X) 0 Y
 | 0,_=> by simp [kA,bE]
 | n+1,h=> by
  have ih:=ov (A:=A) (g:=g) (u:=u) (v:=v) (s:=s) (t:=t) (X:=X) hY hg n (by omega)
  have l0:=o7 (g:=g) (X:=X) (y:=(n:Int)) hY hg (by omega)
  rw [tM,Dv]
  have rl:((nD A g u v s t X Y n).length:Int)=lnT g X Y n:=by unfold nD; simp; omega
  have e1:bE (n+1) (X - g) 0 Y=bE n (X - g) 0 Y+((X - g) * (n:Int)+0) / Y:=rfl
  have e2:bE (n+1) (-X) 0 Y=bE n (-X) 0 Y+(-X * (n:Int)+0) / Y:=rfl
  rw [e1,e2,El,El]
  have e3:((n+1:Nat):Int) * (g+1)=(n:Int) * (g+1)+(g+1):=by
   rw [show ((n+1:Nat):Int)=(n:Int)+1 by omega]; grind
  rw [e3]
  unfold lnT hiT loT at rl
  omega
theorem uo {A:P2} {g u v s t X Y g1 g2:Int} (hY:0 < Y) (hg:0≤g) (h1:g1=((EU X Y:Nat):Int)) (h2:g2=((EU (X - g) Y:Nat):Int)):2 * ((kA A g u v s t X Y (Y.toNat+1)).length:Int)=g * Y+g+g1+g2+2:=by
 rw [ov hY hg _ (by omega)]
 have eY:((Y.toNat:Nat):Int)=Y:=by omega
 have gp1:0 < g1:=by
  have:EU X Y≠0:=fun z=> by have:=(Gn.mp z).2; omega
  omega
 have gp2:0 < g2:=by
  have:EU (X - g) Y≠0:=fun z=> by have:=(Gn.mp z).2; omega
  omega
 have r1:=k_ Y.toNat (-X) 0 g1 (by omega) gp1 (by rw [h1]; exact Gj.mpr (E4 ..)) (by rw [h1,eY]; exact EY ..) (fun d d1 d2=> by rw [h1]; rw [eY] at d2; exact FC (Gj.mp d1) d2)
 have r2:=k_ Y.toNat (X - g) 0 g2 (by omega) gp2 (by rw [h2]; exact E4 ..) (by rw [h2,eY]; exact EY ..) (fun d d1 d2=> by rw [h2]; rw [eY] at d2; exact FC d1 d2)
 rw [eY] at r1 r2
 have s1:bE (Y.toNat+1) (X - g) 0 Y=bE Y.toNat (X - g) 0 Y+((X - g) * ((Y.toNat:Nat):Int)+0) / Y:=rfl
 have s2:bE (Y.toNat+1) (-X) 0 Y=bE Y.toNat (-X) 0 Y+(-X * ((Y.toNat:Nat):Int)+0) / Y:=rfl
 rw [eY,El,Int.mul_ediv_cancel _ (by omega)] at s1 s2
 rw [s1,s2,show ((Y.toNat+1:Nat):Int)=Y+1 by omega]
 have z1:g1 * (0 / g1)=0:=by simp
 have z2:g2 * (0 / g2)=0:=by simp
 rw [z1] at r1
 rw [z2] at r2
 have e:2 * ((Y+1) * (g+1)+(bE Y.toNat (X - g) 0 Y+(X - g))+(bE Y.toNat (-X) 0 Y+-X))=2 * ((Y+1) * (g+1))+2 * bE Y.toNat (X - g) 0 Y+2 * bE Y.toNat (-X) 0 Y - 2 * g:=by grind
 rw [e,r1,r2]
 grind
def inT (A B C p:P2):Prop:=0≤af A B p∧0≤af B C p∧0≤af C A p
theorem mJ {a x Y:Int} (hY:0 < Y):x≤a / Y↔x * Y≤a:=En hY
theorem Ad {A B C:P2} {g u v s t:Int} (L:Lvl A B g u v s t) (hY:0 < ty A C u v) (p:P2):inT A B C p↔0≤ty A p u v∧loT (tx A C s t) (ty A C u v) (ty A p u v)≤tx A p s t∧tx A p s t≤hiT g (tx A C s t) (ty A C u v) (ty A p u v):=by
 have g0:=L.g0
 obtain ⟨b1,b2⟩:=L.back p
 have ep:p=bk A u v s t (tx A p s t) (ty A p u v):=Em b1 b2
 have d1:=L.d1 (tx A p s t) (ty A p u v)
 have d2:=L.d2 C (tx A p s t) (ty A p u v)
 have d3:=L.d3 C (tx A p s t) (ty A p u v)
 rw [← ep] at d1 d2 d3
 unfold inT
 rw [d1,d2,d3]
 generalize tx A p s t=x at *
 generalize ty A p u v=y at *
 generalize tx A C s t=X at *
 generalize ty A C u v=Y at *
 have c1:0≤g * y↔0≤y:=⟨fun h=> by
  rcases DL y 0 with z | z
  ·have:=DH g0 (show 0 < -y by omega)
   have e:g * -y=-(g * y):=by grind
   omega
  ·exact z,fun h=> Cs (by omega) h⟩
 have c2:loT X Y y≤x↔0≤Y * x - X * y:=by
  unfold loT
  rw [show (-((-X * y) / Y)≤x)↔(-x≤(-X * y) / Y) by omega,mJ hY]
  have e:-x * Y=-(Y * x):=by grind
  have e2:-X * y=-(X * y):=by grind
  rw [e,e2]; omega
 have c3:x≤hiT g X Y y↔0≤(X - g) * y - Y * (x - g):=by
  unfold hiT
  rw [show (x≤g+((X - g) * y) / Y)↔(x - g≤((X - g) * y) / Y) by omega,mJ hY]
  have e:(x - g) * Y=Y * (x - g):=Ed ..
  rw [e]; omega
 rw [c1,c2,c3]
 constructor
 ·rintro ⟨a,b,c⟩; exact ⟨a,c,b⟩
 ·rintro ⟨a,b,c⟩; exact ⟨a,c,b⟩
theorem vP {A B:P2} {g u v s t:Int} (L:Lvl A B g u v s t) (x y:Int):tx A (bk A u v s t x y) s t=x∧ty A (bk A u v s t x y) u v=y:=by
 have:=L.st
 unfold tx ty bk
 dsimp only
 constructor <;> grind
theorem vI {A B C:P2} {g u v s t:Int} (L:Lvl A B g u v s t) (hY:0 < ty A C u v) (p:P2):p∈kA A g u v s t (tx A C s t) (ty A C u v) ((ty A C u v).toNat+1)↔inT A B C p:=by
 have g0:=L.g0
 rw [Ad L hY]
 unfold kA
 rw [E5]
 constructor
 ·rintro ⟨r,hr,hp⟩
  obtain ⟨y,hy,rfl⟩:=Cr.mp hr
  have hy':=CF.mp hy
  unfold nD at hp
  obtain ⟨k,hk,rfl⟩:=Cr.mp hp
  have hk':=CF.mp hk
  obtain ⟨e1,e2⟩:=vP L (loT (tx A C s t) (ty A C u v) y+(k:Int)) y
  rw [e1,e2]
  unfold lnT at hk'
  omega
 ·rintro ⟨y0,lo,hi⟩
  obtain ⟨b1,b2⟩:=L.back p
  have ep:p=bk A u v s t (tx A p s t) (ty A p u v):=Em b1 b2
  have yY:ty A p u v≤ty A C u v:=by
   have h1:0≤ty A C u v * tx A p s t - tx A C s t * ty A p u v:=by
    unfold loT at lo
    rw [show (-((-tx A C s t * ty A p u v) / ty A C u v)≤tx A p s t)↔(-tx A p s t≤(-tx A C s t * ty A p u v) / ty A C u v) by omega,mJ hY] at lo
    have e:-tx A p s t * ty A C u v=-(ty A C u v * tx A p s t):=by grind
    have e2:-tx A C s t * ty A p u v=-(tx A C s t * ty A p u v):=by grind
    rw [e,e2] at lo; omega
   have h2:0≤(tx A C s t - g) * ty A p u v - ty A C u v * (tx A p s t - g):=by
    unfold hiT at hi
    rw [show (tx A p s t≤g+((tx A C s t - g) * ty A p u v) / ty A C u v)↔(tx A p s t - g≤((tx A C s t - g) * ty A p u v) / ty A C u v) by omega,mJ hY] at hi
    have e:(tx A p s t - g) * ty A C u v=ty A C u v * (tx A p s t - g):=Ed ..
    rw [e] at hi; omega
   have h3:0≤g * (ty A C u v - ty A p u v):=by
    have:g * (ty A C u v - ty A p u v)=(ty A C u v * tx A p s t - tx A C s t * ty A p u v)+((tx A C s t - g) * ty A p u v - ty A C u v * (tx A p s t - g)):=by grind
    omega
   rcases DL (ty A C u v) (ty A p u v) with z | z
   ·have:=DH g0 (show 0 < -(ty A C u v - ty A p u v) by omega)
    have e:g * -(ty A C u v - ty A p u v)=-(g * (ty A C u v - ty A p u v)):=by grind
    omega
   ·exact z
  refine ⟨_,Cr.mpr ⟨(ty A p u v).toNat,CF.mpr (by omega),rfl⟩,?_⟩
  unfold nD
  have ey:(((ty A p u v).toNat:Nat):Int)=ty A p u v:=by omega
  rw [ey]
  refine Cr.mpr ⟨(tx A p s t - loT (tx A C s t) (ty A C u v) (ty A p u v)).toNat,CF.mpr (by unfold lnT; omega),?_⟩
  rw [show loT (tx A C s t) (ty A C u v) (ty A p u v)+(((tx A p s t - loT (tx A C s t) (ty A C u v) (ty A p u v)).toNat:Nat):Int)=tx A p s t by omega]
  exact ep.symm
theorem qh {A B:P2} {g u v s t X Y:Int} (L:Lvl A B g u v s t) (n:Nat):(kA A g u v s t X Y n).Nodup:=by
 unfold kA
 have inj:∀ {x y x' y':Int},bk A u v s t x y=bk A u v s t x' y'→x=x'∧y=y':=fun {x y x' y'} e=> by
  have h1:=vP L x y
  have h2:=vP L x' y'
  rw [e] at h1
  exact ⟨h1.1.symm.trans h2.1,h1.2.symm.trans h2.2⟩
 refine Fj.mpr ⟨fun q hq=> ?_,?_⟩
 ·obtain ⟨y,hy,rfl⟩:=Cr.mp hq
  unfold nD
  refine DW _ (fun a b (h:a≠b) e=> h ?_) Ey
  have:=(inj e).1
  omega
 ·refine Dw.mpr ?_
  refine Ey.imp fun {y z} h p hp q hq e=> h ?_
  unfold nD at hp hq
  obtain ⟨k,_,rfl⟩:=Cr.mp hp
  obtain ⟨j,_,rfl⟩:=Cr.mp hq
  have:=(inj e).2
  omega
theorem kD (A B C:P2):af B C A=af A B C:=by unfold af; grind
theorem oy {A B C:P2} (hD:0 < af A B C) {W:List P2} (hW:W.Nodup) (hin:∀ p,inT A B C p→p∈W) (f:P2→Bool) (hf:∀ p,f p=true↔inT A B C p):2 * (((W.filter f).length:Nat):Int)=af A B C+gst (A,B)+gst (B,C)+gst (C,A)+2:=by
 have hne:(A,B).1≠(A,B).2:=fun e=> by
  dsimp only at e
  subst e
  have:af A A C=0:=by unfold af; grind
  omega
 obtain ⟨s,t,L⟩:=qd hne
 dsimp only at L
 have g0:=L.g0
 have ar:=L.area C
 have hY:0 < ty A C (ub (A,B)) (vb (A,B)):=by
  rw [ar] at hD
  exact DR hD (by omega)
 have st:=L.st
 have p:GP (W.filter f) (kA A (gst (A,B)) (ub (A,B)) (vb (A,B)) s t (tx A C s t) (ty A C (ub (A,B)) (vb (A,B))) ((ty A C (ub (A,B)) (vb (A,B))).toNat+1)):=(DX (hW.filter _) (qh L _)).mpr fun q=> by
  rw [vI L hY,CY,hf]
  exact ⟨fun h=> h.2,fun h=> ⟨hin q h,h⟩⟩
 have e1:gst (C,A)=((EU (tx A C s t) (ty A C (ub (A,B)) (vb (A,B))):Nat):Int):=by
  rw [d8]
  unfold gst tx ty
  dsimp only
  rw [show ub (A,B) * (C.2 - A.2) - vb (A,B) * (C.1 - A.1)=-vb (A,B) * (C.1 - A.1)+ub (A,B) * (C.2 - A.2) by grind,mr (.inl (by grind))]
 have e2:gst (B,C)=((EU (tx A C s t - gst (A,B)) (ty A C (ub (A,B)) (vb (A,B))):Nat):Int):=by
  have h1:=L.e1
  have h2:=L.e2
  have x:tx A C s t - gst (A,B)=s * (C.1 - B.1)+t * (C.2 - B.2):=by
   have:s * (B.1 - A.1)+t * (B.2 - A.2)=gst (A,B) * (s * ub (A,B)+t * vb (A,B)):=by rw [h1,h2]; grind
   rw [st,FH] at this
   unfold tx
   grind
  have y:ty A C (ub (A,B)) (vb (A,B))=-vb (A,B) * (C.1 - B.1)+ub (A,B) * (C.2 - B.2):=by
   have:ub (A,B) * (B.2 - A.2) - vb (A,B) * (B.1 - A.1)=0:=by rw [h1,h2]; grind
   unfold ty
   grind
  rw [x,y,mr (.inl (by grind))]
  rfl
 have:=uo (A:=A) (u:=ub (A,B)) (v:=vb (A,B)) (s:=s) (t:=t) hY (by omega) e1 e2
 rw [p.length_eq,this,ar]
 omega
theorem ki {A B C q:P2} (hD:0 < af A B C) (h:inT A B C q) {X Y:P2} (hA:0≤af X Y A) (hB:0≤af X Y B) (hC:0≤af X Y C):0≤af X Y q:=by
 obtain ⟨h1,h2,h3⟩:=h
 have e:af A B C * af X Y q=af B C q * af X Y A+af C A q * af X Y B+af A B q * af X Y C:=by unfold af; grind
 have a1:=Cs h2 hA
 have a2:=Cs h3 hB
 have a3:=Cs h1 hC
 exact ax hD (by omega)
def chn:List P2→P2→Prop
 | b::c::r,q=> 0≤af b c q∧chn (c::r) q
 | _,_=> True
def inF (a:P2) (ch:List P2) (q:P2):Prop:=(∀ b,ch.head?=some b→0≤af a b q)∧chn ch q∧∀ z,ch.getLast?=some z→0≤af z a q
structure Cvx (a:P2) (ch:List P2):Prop where
 tr:ch.Pairwise fun x y=> 0 < af a x y
 sd:∀ x,x=a∨x∈ch→chn ch x
theorem hV {b:P2}:∀ {r:List P2} {q:P2},chn (b::r) q→chn r q
 | [],_,_=> trivial
 | _::_,_,h=> h.2
theorem Cvx.tail {a b:P2} {r:List P2} (h:Cvx a (b::r)):Cvx a r:=⟨(CL.mp h.tr).2,fun x hx=> hV (h.sd x (hx.imp id fun z=> Cp _ z))⟩
theorem m8 (a b c q:P2):inF a [b,c] q↔inT a b c q:=by
 unfold inF inT chn chn
 simp
theorem jp {a b c d:P2} {r:List P2} (q:P2):inF a (b::c::d::r) q↔0≤af a b q∧0≤af b c q∧chn (c::d::r) q∧∀ z,(c::d::r).getLast?=some z→0≤af z a q:=by
 unfold inF
 rw [Dj]
 constructor
 ·rintro ⟨h1,h2,h3⟩; exact ⟨h1 b rfl,h2.1,h2.2,h3⟩
 ·rintro ⟨h1,h2,h3,h4⟩; exact ⟨fun x hx=> by cases hx; exact h1,⟨h2,h3⟩,h4⟩
theorem nN {a:P2}:∀ (ch:List P2),2≤ch.length→Cvx a ch→∀ q,inF a ch q→∀ X Y,(∀ x,x=a∨x∈ch→0≤af X Y x)→0≤af X Y q
 | [b,c],_,K,q,h,X,Y,hx=> by
  have D:0 < af a b c:=(CL.mp K.tr).1 c (by simp)
  exact ki D ((m8 a b c q).mp h) (hx a (.inl rfl)) (hx b (.inr (by simp))) (hx c (.inr (by simp)))
 | b::c::d::r,_,K,q,h,X,Y,hx=> by
  have D:0 < af a b c:=(CL.mp K.tr).1 c (by simp)
  obtain ⟨h1,h2,h3,h4⟩:=(jp q).mp h
  rcases GD 0 (af a c q) with z | z
  ·exact nN (c::d::r) (by simp) K.tail q ⟨fun x hx=> by cases hx; exact z,h3,h4⟩ X Y fun x hx'=> hx x (hx'.imp id fun w=> Cp _ w)
  ·have e:af c a q=-af a c q:=by unfold af; grind
   exact ki D ⟨h1,h2,by omega⟩ (hx a (.inl rfl)) (hx b (.inr (by simp))) (hx c (.inr (by simp)))
 | [],h,_,_,_,_,_,_=> by simp at h
 | [_],h,_,_,_,_,_,_=> by simp at h
def oa (a:P2):List P2→Int
 | b::c::r=> af a b c+oa a (c::r)
 | _=> 0
def kL:List P2→Int
 | b::c::r=> gst (b,c)+kL (c::r)
 | _=> 0
theorem A7 {f g h k:P2→Bool}:∀ W:List P2,(∀ q∈W,(if f q=true then 1 else 0)+(if g q=true then 1 else 0)=(if h q=true then 1 else 0)+(if k q=true then (1:Int) else 0))→(((W.filter f).length:Nat):Int)+((W.filter g).length:Nat)=((W.filter h).length:Nat)+((W.filter k).length:Nat)
 | [],_=> rfl
 | q::W,hq=> by
  have ih:=A7 W fun p hp=> hq p (Cp _ hp)
  have h0:=hq q Cy
  simp only [G1]
  split at h0 <;> split at h0 <;> split at h0 <;> split at h0 <;> simp_all <;> omega
theorem qI {A B C:P2} (hD:0 < af A B C) (q:P2):(inT A B C q∧af A C q=0)↔∃ k:Int,0≤k∧k≤gst (A,C)∧q=onS (A,C) k:=by
 have hne:(A,C).1≠(A,C).2:=fun e=> by
  dsimp only at e
  subst e
  have:af A B A=0:=by unfold af; grind
  omega
 have g0:=cf hne
 have mixes:∀ k:Int,gst (A,C) * af A B (onS (A,C) k)=k * af A B C∧gst (A,C) * af B C (onS (A,C) k)=(gst (A,C) - k) * af A B C∧af A C (onS (A,C) k)=0:=fun k=> by
  have m1:=dP (A,C) k A B
  have m2:=dP (A,C) k B C
  have m3:=dP (A,C) k A C
  dsimp only at m1 m2 m3
  have z1:af A B A=0:=by unfold af; grind
  have z2:af B C A=af A B C:=kD A B C
  have z3:af B C C=0:=by unfold af; grind
  have z4:af A C A=0:=by unfold af; grind
  have z5:af A C C=0:=by unfold af; grind
  rw [z1,DD,Hn] at m1
  rw [z2,z3,DD,El] at m2
  rw [z4,z5,DD,DD,El] at m3
  exact ⟨m1,m2,(Da.mp m3).resolve_left (by omega)⟩
 constructor
 ·rintro ⟨⟨h1,h2,_⟩,h0⟩
  obtain ⟨k,rfl⟩:=jq hne h0
  obtain ⟨m1,m2,_⟩:=mixes k
  refine ⟨k,?_,?_,rfl⟩
  ·have:0≤af A B C * k:=by rw [Ed,← m1]; exact Cs (by omega) h1
   exact ax hD this
  ·have:0≤af A B C * (gst (A,C) - k):=by rw [Ed,← m2]; exact Cs (by omega) h2
   have:=ax hD this
   omega
 ·rintro ⟨k,k0,k1,rfl⟩
  obtain ⟨m1,m2,m3⟩:=mixes k
  refine ⟨⟨ax g0 ?_,ax g0 ?_,?_⟩,m3⟩
  ·rw [m1]; exact Cs k0 (by omega)
  ·rw [m2]; exact Cs (by omega) (by omega)
  ·have:af C A (onS (A,C) k)=-af A C (onS (A,C) k):=by unfold af; grind
   omega
open Classical in
theorem oN {a:P2}:∀ (ch:List P2),2≤ch.length→Cvx a ch→∀ {W:List P2},W.Nodup→(∀ p,inF a ch p→p∈W)→∀ b z,ch.head?=some b→ch.getLast?=some z→2 * (((W.filter fun q=> decide (inF a ch q)).length:Nat):Int)=oa a ch+(gst (a,b)+kL ch+gst (z,a))+2
 | [b,c],_,K,W,hW,hin,b',z',hb,hz=> by
  cases hb
  have hz':c=z':=by simpa using hz
  subst hz'
  have D:0 < af a b c:=(CL.mp K.tr).1 c (by simp)
  have:=oy D hW (fun p hp=> hin p ((m8 a b c p).mpr hp)) (fun q=> decide (inF a [b,c] q)) (fun p=> by rw [decide_eq_true_eq]; exact m8 a b c p)
  rw [this]
  unfold oa oa kL kL
  omega
 | b::c::d::r,_,K,W,hW,hin,b',z',hb,hz=> by
  cases hb
  have D:0 < af a b c:=(CL.mp K.tr).1 c (by simp)
  rw [Dj] at hz
  have swp:∀ q,af c a q=-af a c q:=fun q=> by unfold af; grind
  have tl:∀ q,inF a (c::d::r) q→inF a (b::c::d::r) q:=fun q h=> by
   have hull:=nN (c::d::r) (by simp) K.tail q h
   refine (jp q).mpr ⟨hull a b fun x hx=> ?_,hull b c fun x hx=> ?_,h.2.1,h.2.2⟩
   ·rcases hx with rfl | hx
    ·have:af x b x=0:=by unfold af; grind
     omega
    ·exact FS ((CL.mp K.tr).1 x hx)
   ·exact (K.sd x (hx.imp id fun w=> Cp _ w)).1
  have tt:∀ q,inT a b c q→inF a (b::c::d::r) q:=fun q h=> by
   have bary:∀ X Y,0≤af X Y a→0≤af X Y b→0≤af X Y c→0≤af X Y q:=fun X Y h1 h2 h3=> ki D h h1 h2 h3
   have cov:∀ (ch:List P2),chn ch a→chn ch b→chn ch c→chn ch q:=fun ch=> by
    induction ch with
    | nil=> intros; trivial
    | cons x r ih=>
     cases r with
     | nil=> intros; trivial
     | cons y r=> intro h1 h2 h3; exact ⟨bary x y h1.1 h2.1 h3.1,ih h1.2 h2.2 h3.2⟩
   refine (jp q).mpr ⟨h.1,h.2.1,cov _ (hV (K.sd a (.inl rfl))) (hV (K.sd b (.inr (by simp)))) (hV (K.sd c (.inr (by simp)))),fun z hz=> ?_⟩
   have mz:z∈c::d::r:=EW hz
   refine bary z a ?_ ?_ ?_
   ·have:af z a a=0:=by unfold af; grind
    omega
   ·have e:af z a b=af a b z:=by unfold af; grind
    rw [e]; exact FS ((CL.mp K.tr).1 z mz)
   ·have e:af z a c=af a c z:=by unfold af; grind
    rw [e]
    rcases Cu.mp mz with w | w
    ·rw [w]; have:af a c c=0:=by unfold af; grind
     omega
    ·exact FS ((CL.mp K.tail.tr).1 z w)
  have part:∀ q,inF a (b::c::d::r) q→(0≤af a c q→inF a (c::d::r) q)∧(af a c q≤0→inT a b c q):=fun q h=> by
   obtain ⟨h1,h2,h3,h4⟩:=(jp q).mp h
   exact ⟨fun w=> ⟨fun x hx=> by cases hx; exact w,h3,h4⟩,fun w=> ⟨h1,h2,by rw [swp]; omega⟩⟩
  have ih:=oN (c::d::r) (by simp) K.tail hW (fun p hp=> hin p (tl p hp)) c z' rfl hz
  have tp:=oy D hW (fun p hp=> hin p (tt p hp)) (fun q=> decide (inT a b c q)) (fun p=> by rw [decide_eq_true_eq])
  have sg:(((W.filter fun q=> decide (inT a b c q∧af a c q=0)).length:Nat):Int)=gst (a,c)+1:=by
   have hne:(a,c).1≠(a,c).2:=fun e=> by
    dsimp only at e
    subst e
    have:af a b a=0:=by unfold af; grind
    omega
   have g0:=cf hne
   have nd:((Df ((gst (a,c)).toNat+1)).map fun (k:Nat)=> onS (a,c) (k:Int)).Nodup:=by
    refine DW _ (fun x y (h:x≠y) e=> h ?_) Ey
    have:=kj hne e
    omega
   have p:GP (W.filter fun q=> decide (inT a b c q∧af a c q=0)) ((Df ((gst (a,c)).toNat+1)).map fun (k:Nat)=> onS (a,c) (k:Int)):=(DX (hW.filter _) nd).mpr fun p=> by
    rw [CY,decide_eq_true_eq,qI D]
    constructor
    ·rintro ⟨_,k,k0,k1,rfl⟩
     exact Cr.mpr ⟨k.toNat,CF.mpr (by omega),by rw [show ((k.toNat:Nat):Int)=k by omega]⟩
    ·intro hin'
     obtain ⟨k,hk,rfl⟩:=Cr.mp hin'
     have hk':=CF.mp hk
     have w:∃ j:Int,0≤j∧j≤gst (a,c)∧onS (a,c) (k:Int)=onS (a,c) j:=⟨k,by omega,by omega,rfl⟩
     exact ⟨hin _ (tt _ ((qI D _).mpr w).1),w⟩
   rw [p.length_eq]
   simp only [Co,EX]
   omega
  have four:=A7 (f:=fun q=> decide (inF a (b::c::d::r) q)) (g:=fun q=> decide (inT a b c q∧af a c q=0)) (h:=fun q=> decide (inT a b c q)) (k:=fun q=> decide (inF a (c::d::r) q)) W (fun q _=> by
   simp only [decide_eq_true_eq]
   by_cases hP:inF a (b::c::d::r) q
   ·obtain ⟨p1,p2⟩:=part q hP
    rcases HR (af a c q) 0 with w | w | w
    ·have hT:=p2 (by omega)
     have hN:¬ inF a (c::d::r) q:=fun z=> by have:=z.1 c rfl; omega
     rw [if_pos hP,if_neg (fun z=> by omega),if_pos hT,if_neg hN]
    ·rw [if_pos hP,if_pos ⟨p2 (by omega),w⟩,if_pos (p2 (by omega)),if_pos (p1 (by omega))]
    ·have hN:¬ inT a b c q:=fun z=> by have:=z.2.2; rw [swp] at this; omega
     rw [if_pos hP,if_neg (fun z=> hN z.1),if_neg hN,if_pos (p1 (by omega))]
     rfl
   ·rw [if_neg hP,if_neg (fun z=> hP (tt q z.1)),if_neg (fun z=> hP (tt q z)),if_neg (fun z=> hP (tl q z))])
  have ga:gst (c,a)=gst (a,c):=d8 a c
  show 2 * _=(af a b c+oa a (c::d::r))+(gst (a,b)+(gst (b,c)+kL (c::d::r))+gst (z',a))+2
  omega
 | [],h,_,_,_,_,_,_,_,_=> by simp at h
 | [_],h,_,_,_,_,_,_,_,_=> by simp at h
theorem eK (l:List P2):sdl l=C7 l (l.drop 1++l.take 1):=by
 have h1:=rF l
 have h2:=yB l
 have:sdl l=C7 ((sdl l).map (·.1)) ((sdl l).map (·.2)):=by
  generalize sdl l=s
  induction s with
  | nil=> rfl
  | cons x r ih=> simp only [CZ,D3]; rw [← ih]
 rw [h1,h2] at this
 exact this
theorem rO (q a:P2):∀ (x:P2) (r:List P2),(∀ s∈C7 (x::r) (r++[a]),0≤af s.1 s.2 q)↔chn (x::r) q∧∀ z,(x::r).getLast?=some z→0≤af z a q
 | x,[]=> by
  constructor
  ·intro h
   exact ⟨trivial,fun z hz=> by cases hz; exact h (x,a) (by simp)⟩
  ·rintro ⟨_,h⟩ s hs
   simp at hs
   rw [hs]; exact h x rfl
 | x,y::r=> by
  rw [E6,D3]
  have ih:=rO q a y r
  rw [Dj]
  constructor
  ·intro h
   have:=ih.mp fun s hs=> h s (Cp _ hs)
   exact ⟨⟨h (x,y) Cy,this.1⟩,this.2⟩
  ·rintro ⟨⟨h1,h2⟩,h3⟩ s hs
   rcases Cu.mp hs with e | e
   ·rw [e]; exact h1
   ·exact ih.mpr ⟨h2,h3⟩ s e
theorem mM (a b:P2) (r:List P2) (q:P2):(∀ s∈sdl (a::b::r),0≤af s.1 s.2 q)↔inF a (b::r) q:=by
 rw [eK]
 show (∀ s∈C7 (a::b::r) ((b::r)++[a]),0≤af s.1 s.2 q)↔_
 rw [rO,Dj]
 unfold inF
 constructor
 ·rintro ⟨⟨h1,h2⟩,h3⟩; exact ⟨fun x hx=> by cases hx; exact h1,h2,h3⟩
 ·rintro ⟨h1,h2,h3⟩; exact ⟨⟨h1 b rfl,h2⟩,h3⟩
def qq:List P2→Int
 | b::c::r=> crs (b,c)+qq (c::r)
 | _=> 0
theorem rC (a:P2):∀ (x:P2) (r:List P2) (z:P2),(x::r).getLast?=some z→((C7 (x::r) (r++[a])).map gst).sum=kL (x::r)+gst (z,a)
 | x,[],z,hz=> by cases hz; simp [kL]
 | x,y::r,z,hz=> by
  rw [Dj] at hz
  rw [E6,D3,CZ,Eh,rC a y r z hz]
  show _=gst (x,y)+kL (y::r)+gst (z,a)
  omega
theorem qO (a:P2):∀ (x:P2) (r:List P2) (z:P2),(x::r).getLast?=some z→((C7 (x::r) (r++[a])).map crs).sum=qq (x::r)+crs (z,a)
 | x,[],z,hz=> by cases hz; simp [qq]
 | x,y::r,z,hz=> by
  rw [Dj] at hz
  rw [E6,D3,CZ,Eh,qO a y r z hz]
  show _=crs (x,y)+qq (y::r)+crs (z,a)
  omega
theorem rS (a:P2):∀ (b:P2) (r:List P2) (z:P2),(b::r).getLast?=some z→oa a (b::r)=crs (a,b)+qq (b::r)+crs (z,a)
 | b,[],z,hz=> by
  cases hz
  show (0:Int)=crs (a,b)+0+crs (b,a)
  unfold crs; grind
 | b,c::r,z,hz=> by
  rw [Dj] at hz
  have ih:=rS a c r z hz
  show af a b c+oa a (c::r)=crs (a,b)+(crs (b,c)+qq (c::r))+crs (z,a)
  rw [ih]
  have e:af a b c=crs (a,b)+crs (b,c) - crs (a,c):=by unfold af crs; grind
  omega
theorem uV (a b:P2) (r:List P2) (z:P2) (hz:(b::r).getLast?=some z):oa a (b::r)=area (a::b::r)∧gst (a,b)+kL (b::r)+gst (z,a)=fZ (a::b::r):=by
 have hz':(a::b::r).getLast?=some z:=by rw [Dj]; exact hz
 constructor
 ·rw [rS a b r z hz]
  unfold area
  rw [eK]
  have:=qO a a (b::r) z hz'
  show _=((C7 (a::b::r) ((b::r)++[a])).map crs).sum
  rw [this]
  show _=crs (a,b)+qq (b::r)+crs (z,a)
  omega
 ·unfold fZ
  rw [eK]
  have:=rC a a (b::r) z hz'
  show _=((C7 (a::b::r) ((b::r)++[a])).map gst).sum
  rw [this]
  show _=gst (a,b)+kL (b::r)+gst (z,a)
  omega
def yU (a:P2):List P2→Prop
 | b::c::r=> 0 < af a b c∧yU a (c::r)
 | _=> True
theorem uy (a u p q r:P2):af a u q * af a p r=af a u p * af a q r+af a u r * af a p q:=by unfold af; grind
theorem qT {a u x:P2} (hx:0≤af a u x):∀ (y:P2) (r:List P2),0 < af a x y→yU a (y::r)→(∀ w∈y::r,0 < af a u w)→∀ w∈y::r,0 < af a x w
 | y,[],h,_,_,w,hw=> by rw [CT.mp hw]; exact h
 | y,z::r,h,hc,hu,w,hw=> by
  rcases Cu.mp hw with e | e
  ·rw [e]; exact h
  ·have hz:0 < af a x z:=by
    have f:=uy a u x y z
    have a1:=Cs hx (FS hc.1)
    have a2:=DH (hu z (by simp)) h
    have:0 < af a u y * af a x z:=by omega
    exact DR this (hu y (by simp))
   exact qT hx z r hz hc.2 (fun v hv=> hu v (Cp _ hv)) w e
theorem iV {a u:P2}:∀ (ch:List P2),yU a ch→(∀ w∈ch,0≤af a u w)→(∀ w∈ch.tail,0 < af a u w)→ch.Pairwise fun x y=> 0 < af a x y
 | [],_,_,_=> .nil
 | [_],_,_,_=> by simp
 | x::y::r,hc,h0,h1=> by
  refine CL.mpr ⟨qT (h0 x (by simp)) y r hc.1 hc.2 h1,?_⟩
  exact iV (y::r) hc.2 (fun w hw=> h0 w (Cp _ hw)) fun w hw=> h1 w (Cp _ hw)
theorem rT {a:P2}:∀ (ch:List P2),(∀ s∈C7 ch ch.tail,0 < af a s.1 s.2)→yU a ch
 | [],_=> trivial
 | [_],_=> trivial
 | x::y::r,h=> ⟨h (x,y) (by simp),rT (y::r) fun s hs=> h s (by
   show s∈(x,y)::C7 (y::r) r
   exact Cp _ hs)⟩
theorem ro (a:P2):∀ (ch:List P2),∀ s∈C7 ch ch.tail,s∈C7 ch (ch.tail++[a])
 | [],s,h=> by simp at h
 | [x],s,h=> by simp at h
 | x::y::r,s,h=> by
  have h':s∈(x,y)::C7 (y::r) r:=h
  show s∈(x,y)::C7 (y::r) (r++[a])
  rcases Cu.mp h' with e | e
  ·rw [e]; exact Cy
  ·exact Cp _ (ro a (y::r) s e)
theorem uH {l:List P2} {a b:P2} {r:List P2} (h3:3≤(aj l).length) (e:aj l=a::b::r):Cvx a (b::r):=by
 have nd:=bj l
 have sides:∀ s∈sdl (a::b::r),∀ x∈a::b::r,0≤af s.1 s.2 x∧(x≠s.1→x≠s.2→0 < af s.1 s.2 x):=fun s hs x hx=> by
  rw [← e] at hs hx
  have c:=bq h3 hs x (aH _ x hx)
  refine ⟨c,fun n1 n2=> ?_⟩
  rcases De c with z | z
  ·exact z
  ·rcases jO h3 hs hx z.symm with w | w
   ·exact absurd w n1
   ·exact absurd w n2
 rw [e] at nd
 have na:∀ x∈b::r,a≠x:=(CL.mp nd).1
 have sab:(a,b)∈sdl (a::b::r):=by rw [eK]; show (a,b)∈(a,b)::_; simp
 have sch:∀ s∈C7 (b::r) r,s∈sdl (a::b::r):=fun s hs=> by
  rw [eK]
  show s∈(a,b)::C7 (b::r) (r++[a])
  exact Cp _ (ro a (b::r) s hs)
 have zm:∀ s∈C7 (b::r) r,s.1∈b::r∧s.2∈b::r:=fun s hs=> ⟨(Fv hs).1,Cp _ (Fv hs).2⟩
 refine ⟨iV (u:=b) (b::r) (rT _ fun s hs=> ?_) (fun w hw=> ?_) (fun w hw=> ?_),fun x hx=> ?_⟩
 ·have m:=zm s hs
  have:=(sides s (sch s hs) a (by simp)).2 (na _ m.1) (na _ m.2)
  rwa [← kD s.1 s.2 a,← kD] at this
 ·exact (sides _ sab w (Cp _ hw)).1
 ·have hw':w∈r:=hw
  exact (sides _ sab w (by simp [hw'])).2 (fun z=> na w (Cp _ hw') z.symm) (fun z=> by
   have:=(CL.mp (CL.mp nd).2).1 w hw'
   exact this z.symm)
 ·have mx:x∈a::b::r:=by
   rcases hx with h | h
   ·rw [h]; simp
   ·exact Cp _ h
  exact ((mM a b r x).mp fun s hs=> (sides s hs x mx).1).2.1
open Classical in
theorem Bw {l:List P2} (h3:3≤(aj l).length) {W:List P2} (hW:W.Nodup) (hin:∀ p,(∀ s∈sdl (aj l),0≤af s.1 s.2 p)→p∈W):2 * (((W.filter fun q=> decide (∀ s∈sdl (aj l),0≤af s.1 s.2 q)).length:Nat):Int)=area (aj l)+fZ (aj l)+2:=by
 match e:aj l,h3 with
 | a::b::c::r,h3=>
  have K:=uH (by rw [e]; exact h3) e
  obtain ⟨z,hz⟩:∃ z,(b::c::r).getLast?=some z:=⟨_,List.getLast?_eq_some_getLast (by simp)⟩
  have f:=oN (b::c::r) (by simp) K hW (fun p hp=> hin p (by rw [e]; exact (mM a b (c::r) p).mpr hp)) b z rfl hz
  obtain ⟨s1,s2⟩:=uV a b (c::r) z hz
  rw [s1,s2] at f
  rw [← f]
  congr 3
  refine HS fun q _=> ?_
  exact decide_eq_decide.mpr (mM a b (c::r) q)
theorem we {l:List P2} {k:Int} {i:Nat} (e:k=(i:Int)) (h:i < l.length):atI (l.map pu) k=some (pu (gp l i)):=lP e (by rw [Ct,eI h]; rfl)
def prv (l:List P2) (j:Nat):P2:=gp l ((j+l.length - 1) % l.length)
theorem uf {l:List P2} {j:Nat} (h:j < l.length):(prv l j,gp l j)∈sdl l:=by
 have hi:(j+l.length - 1) % l.length < l.length:=DV _ (by omega)
 refine Cr.mpr ⟨(j+l.length - 1) % l.length,CF.mpr hi,?_⟩
 unfold prv nxt
 congr 2
 by_cases h0:j=0
 ·subst h0
  rw [show (0+l.length - 1) % l.length=l.length - 1 from by rw [CU] <;> omega,show l.length - 1+1=l.length by omega,Fi]
 ·rw [show (j+l.length - 1) % l.length=j - 1 from by rw [show j+l.length - 1=(j - 1)+l.length by omega,FM,CU (by omega)],show j - 1+1=j by omega,CU h]
theorem wf {l:List P2} {s:P2×P2} (hs:s∈sdl l):∃ j,j < l.length∧s=(prv l j,gp l j):=by
 obtain ⟨i,hi,rfl⟩:=Cr.mp hs
 have hi':=CF.mp hi
 refine ⟨(i+1) % l.length,DV _ (by omega),?_⟩
 unfold prv nxt
 congr 2
 by_cases hk:i+1 < l.length
 ·rw [CU hk,show i+1+l.length - 1=i+l.length by omega,FM,CU hi']
 ·rw [show i+1=l.length by omega,Fi,show 0+l.length - 1=i by omega,CU hi']
def pvl (l:List P2):List (P2×P2):=(Df l.length).map fun j=> (prv l j,gp l j)
theorem ic {l:List P2} (s:P2×P2):s∈pvl l↔s∈sdl l:=by
 constructor
 ·intro h
  obtain ⟨j,hj,rfl⟩:=Cr.mp h
  exact uf (CF.mp hj)
 ·intro h
  obtain ⟨j,hj,rfl⟩:=wf h
  exact Cr.mpr ⟨j,CF.mpr hj,rfl⟩
theorem xr (Z P B q:P2) (a b:Int):af Z P B * (wth a b q - wth a b P)=-(af P B q * (wth a b P - wth a b Z)) - af Z P q * (wth a b P - wth a b B):=by unfold af wth; grind
theorem yL {l:List P2} (h3:3≤(aj l).length) (a b:Int):∃ Z P B,(Z,P)∈sdl (aj l)∧(P,B)∈sdl (aj l)∧0 < af Z P B∧wth a b P=hiW a b (aj l)∧wth a b Z≤wth a b P∧wth a b B≤wth a b P:=by
 obtain ⟨⟨P,hP,e⟩,k⟩:=kl a b (l:=aj l) (fun z=> by rw [z] at h3; simp at h3)
 obtain ⟨Z,hZ⟩:=oP hP
 obtain ⟨B,hB,pos⟩:=dZ h3 hZ
 refine ⟨Z,P,B,hZ,hB,pos,e,?_,?_⟩
 ·rw [e]; exact k Z (aV hZ).1
 ·rw [e]; exact k B (aV hB).2
theorem AH {l:List P2} (h3:3≤(aj l).length) (a b:Int) {q:P2} (hq:∀ s∈sdl (aj l),0≤af s.1 s.2 q):wth a b q≤hiW a b (aj l):=by
 obtain ⟨Z,P,B,hZ,hB,pos,e,k1,k2⟩:=yL h3 a b
 rw [← e]
 have i1:0≤af P B q * (wth a b P - wth a b Z):=Cs (hq _ hB) (by omega)
 have i2:0≤af Z P q * (wth a b P - wth a b B):=Cs (hq _ hZ) (by omega)
 have pe:=xr Z P B q a b
 rcases DL (wth a b P) (wth a b q) with h | h
 ·have:=DH pos (show 0 < wth a b q - wth a b P by omega)
  omega
 ·exact h
def iM (l:List P2):Int:=if l.length < 3 then gst (gp l 0,gp l (l.length - 1))+1 else fZ l
def plc (l:List P2) (p:P2):Int:=if ∃ s∈pvl l,af s.1 s.2 p < 0 then -1 else if ∃ s∈pvl l,af s.1 s.2 p=0 then 0 else 1
def bF (a:Int) (n:Nat):List Int:=(Df n).map fun (i:Nat)=> a+(i:Int)
def v3 (x:Int) (n:Nat) (y:Int) (m:Nat):List P2:=((bF x n).map fun a=> (bF y m).map fun b=> (a,b)).flatten
theorem bH {a:Int} {n:Nat} {x:Int}:x∈bF a n↔a≤x∧x < a+n:=by
 unfold bF
 rw [Cr]
 constructor
 ·rintro ⟨i,hi,rfl⟩
  have:=CF.mp hi
  omega
 ·rintro ⟨h1,h2⟩
  exact ⟨(x - a).toNat,CF.mpr (by omega),by omega⟩
theorem gq (a:Int) (n:Nat):(bF a n).Nodup:=by
 unfold bF
 exact DW _ (fun i j (h:i≠j) e=> h (by omega)) Ey
theorem vv {x y:Int} {n m:Nat} {p:P2}:p∈v3 x n y m↔(x≤p.1∧p.1 < x+n)∧y≤p.2∧p.2 < y+m:=by
 unfold v3
 rw [E5]
 constructor
 ·rintro ⟨q,hq,hp⟩
  obtain ⟨a,ha,rfl⟩:=Cr.mp hq
  obtain ⟨b,hb,rfl⟩:=Cr.mp hp
  exact ⟨bH.mp ha,bH.mp hb⟩
 ·rintro ⟨h1,h2⟩
  exact ⟨_,Cr.mpr ⟨p.1,bH.mpr h1,rfl⟩,Cr.mpr ⟨p.2,bH.mpr h2,rfl⟩⟩
theorem g8 (x:Int) (n:Nat) (y:Int) (m:Nat):(v3 x n y m).Nodup:=by
 unfold v3
 refine Fj.mpr ⟨fun q hq=> ?_,?_⟩
 ·obtain ⟨a,_,rfl⟩:=Cr.mp hq
  exact DW _ (fun i j (h:i≠j) e=> h (congrArg FP e)) (gq y m)
 ·refine Dw.mpr ((gq x n).imp fun {a b} h p hp q hq e=> ?_)
  obtain ⟨_,_,rfl⟩:=Cr.mp hp
  obtain ⟨_,_,rfl⟩:=Cr.mp hq
  exact h (congrArg Gg e)
def jb (l W:List P2) (w:Int):Int:=((W.filter fun p=> decide (plc l p=w)).length:Nat)
def loX (l:List P2):Int:=gE (l.map (·.1))
def hiX (l:List P2):Int:=hiL (l.map (·.1))
def loY (l:List P2):Int:=gE (l.map (·.2))
def hiY (l:List P2):Int:=hiL (l.map (·.2))
theorem bV {l:List Int} (h:l≠[]):hiL l∈l∧∀ a∈l,a≤hiL l:=by
 cases l with
 | nil=> exact absurd rfl h
 | cons a l=> exact ⟨eT l a,fj l a⟩
def bxN (l:List P2):Nat:=(hiX l+1 - loX l).toNat
def byN (l:List P2):Nat:=(hiY l+1 - loY l).toNat
def box (l:List P2):List P2:=v3 (loX l) (bxN l) (loY l) (byN l)
theorem ci {l:List P2} (hne:l≠[]) {p:P2}:p∈box l↔(loX l≤p.1∧p.1≤hiX l)∧loY l≤p.2∧p.2≤hiY l:=by
 unfold box bxN byN
 rw [vv]
 omega
theorem uG (l:List P2) (p:P2):plc l p=-1∨plc l p=0∨plc l p=1:=by
 unfold plc; split
 ·exact .inl rfl
 ·split
  ·exact .inr (.inl rfl)
  ·exact .inr (.inr rfl)
theorem jx {l:List P2} {p:P2}:plc l p=-1↔¬ ∀ s∈sdl l,0≤af s.1 s.2 p:=by
 unfold plc
 constructor
 ·intro h hall
  split at h
  ·rename_i k
   obtain ⟨s,hs,h0⟩:=k
   have:=hall s ((ic s).mp hs)
   omega
  ·split at h <;> simp at h
 ·intro h
  rw [if_pos]
  rcases Jq (∃ s∈pvl l,af s.1 s.2 p < 0) with k | k
  ·exact k
  ·exfalso
   refine h fun s hs=> ?_
   rcases DL (af s.1 s.2 p) 0 with z | z
   ·exact absurd ⟨s,(ic s).mpr hs,z⟩ k
   ·exact z
theorem nT {l:List P2} {p:P2}:plc l p=0↔bdr l p:=by
 constructor
 ·intro h
  have hn:∀ s∈sdl l,0≤af s.1 s.2 p:=by
   rcases Jq (∀ s∈sdl l,0≤af s.1 s.2 p) with k | k
   ·exact k
   ·rw [jx.mpr k] at h; cases h
  refine ⟨hn,?_⟩
  unfold plc at h
  split at h
  ·cases h
  ·split at h
   ·rename_i k
    obtain ⟨s,hs,h0⟩:=k
    exact ⟨s,(ic s).mp hs,h0⟩
   ·cases h
 ·rintro ⟨h1,s,hs,h0⟩
  unfold plc
  rw [if_neg (fun ⟨t,ht,k⟩=> by have:=h1 t ((ic t).mp ht); omega),if_pos ⟨s,(ic s).mpr hs,h0⟩]
theorem dl {A B:List P2} (hA:A.Nodup) (hB:B.Nodup) (h:∀ p,p∈A↔p∈B):A.length=B.length:=((DX hA hB).mpr h).length_eq
theorem cw {W:List P2} (h:W.Nodup) (f:P2→Bool):(W.filter f).Nodup:=Gb f h
open Classical in
theorem lf (l W:List P2):jb l W 0+jb l W 1=((W.filter fun q=> decide (∀ s∈sdl l,0≤af s.1 s.2 q)).length:Nat):=by
 unfold jb
 induction W with
 | nil=> rfl
 | cons p W ih=>
  have hv:=uG l p
  by_cases hn:plc l p=-1
  ·have h2:¬ ∀ s∈sdl l,0≤af s.1 s.2 p:=jx.mp hn
   rw [C9 (by rw [hn]; decide),C9 (by rw [hn]; decide),C9 (by rw [decide_eq_false h2]; decide)]
   exact ih
  ·have h2:∀ s∈sdl l,0≤af s.1 s.2 p:=DP fun k=> hn (jx.mpr k)
   rcases hv with h | h | h
   ·exact absurd h hn
   ·rw [C_ (by rw [h]; decide),C9 (by rw [h]; decide),C_ (by rw [decide_eq_true h2])]
    simp only [Dy]; omega
   ·rw [C9 (by rw [h]; decide),C_ (by rw [h]; decide),C_ (by rw [decide_eq_true h2])]
    simp only [Dy]; omega
theorem fT {l:List P2} (h3:3≤(aj l).length) {p:P2} (h:∀ s∈sdl (aj l),0≤af s.1 s.2 p):p∈box (aj l):=by
 have hne:aj l≠[]:=fun z=> by rw [z] at h3; simp at h3
 have key:∀ a b:Int,∃ q∈aj l,wth a b p≤wth a b q:=fun a b=> by
  obtain ⟨⟨q,hq,e⟩,_⟩:=kl a b hne
  exact ⟨q,hq,by rw [e]; exact AH h3 a b h⟩
 have hx:(aj l).map (·.1)≠[]:=by simpa using hne
 have hy:(aj l).map (·.2)≠[]:=by simpa using hne
 obtain ⟨q1,m1,k1⟩:=key 1 0
 obtain ⟨q2,m2,k2⟩:=key (-1) 0
 obtain ⟨q3,m3,k3⟩:=key 0 1
 obtain ⟨q4,m4,k4⟩:=key 0 (-1)
 have a1:=(bV hx).2 q1.1 (CO m1)
 have a2:=(bJ hx).2 q2.1 (CO m2)
 have a3:=(bV hy).2 q3.2 (CO m3)
 have a4:=(bJ hy).2 q4.2 (CO m4)
 unfold wth at k1 k2 k3 k4
 rw [ci hne]
 unfold loX hiX loY hiY
 omega
theorem Bb {l:List P2} (h3:3≤(aj l).length):jb (aj l) (box (aj l)) 0+jb (aj l) (box (aj l)) 1=pin (aj l)+iM (aj l)∧jb (aj l) (box (aj l)) 1=pin (aj l):=by
 have nd:=g8 (loX (aj l)) (bxN (aj l)) (loY (aj l)) (byN (aj l))
 have P:=Bw h3 (W:=box (aj l)) nd fun p hp=> fT h3 hp
 rw [← lf] at P
 have Z:jb (aj l) (box (aj l)) 0=fZ (aj l):=by
  rw [← yO]
  unfold jb
  congr 1
  refine dl (cw nd _) (tS h3) fun p=> ?_
  rw [CY,decide_eq_true_eq,nT]
  constructor
  ·rintro ⟨_,h⟩; exact x_ h3 h
  ·intro h
   have b:=xJ h3 h
   exact ⟨fT h3 b.1,b⟩
 have e1:iM (aj l)=fZ (aj l):=by unfold iM; rw [if_neg (by omega)]
 have e2:pin (aj l)=(area (aj l) - fZ (aj l)+2) / 2:=by unfold pin; rw [if_neg (by omega)]
 rw [e1,e2]
 omega
theorem ri (A:P2):box [A]=[A]:=by
 have h:∀ p,p∈box [A]↔p∈[A]:=fun p=> by
  rw [ci (by simp),CT]
  unfold loX hiX loY hiY gE hiL
  simp only [CZ,Hc,List.foldl_nil]
  constructor
  ·intro h; exact Em (by omega) (by omega)
  ·rintro rfl; omega
 have hp:=(DX (g8 _ _ _ _) (by simp:[A].Nodup)).mpr h
 exact List.perm_singleton.mp hp
theorem jw {A B p:P2} (h:ST.ltP A B=true):(p∈box [A,B]∧af A B p=0)↔∃ k:Int,0≤k∧k≤gst (A,B)∧p=onS (A,B) k:=by
 rw [← jl h,ci (by simp)]
 have lt:=h
 unfold ST.ltP at lt
 have lt:=of_decide_eq_true lt
 have e1:loX [A,B]=A.1:=by show min A.1 B.1=A.1; omega
 have e2:hiX [A,B]=B.1:=by show max A.1 B.1=B.1; omega
 have e3:loY [A,B]=min A.2 B.2:=rfl
 have e4:hiY [A,B]=max A.2 B.2:=rfl
 rw [e1,e2,e3,e4]
 unfold ST.leP
 rw [decide_eq_true_eq,decide_eq_true_eq]
 constructor
 ·rintro ⟨⟨⟨a1,a2⟩,b1,b2⟩,d⟩
  refine ⟨d,?_,?_⟩
  ·rcases De a1 with z | z
   ·exact .inl z
   ·right
    refine ⟨z,?_⟩
    rcases lt with w | ⟨w,w'⟩
    ·unfold af at d
     rw [← z,Int.sub_self,DD,HY] at d
     have:=(Da.mp d).resolve_left (by omega)
     omega
    ·omega
  ·rcases De a2 with z | z
   ·exact .inl z
   ·right
    refine ⟨z,?_⟩
    rcases lt with w | ⟨w,w'⟩
    ·have d':(B.1 - A.1) * (p.2 - B.2)=0:=by
      have:af A B p=(B.1 - A.1) * (p.2 - B.2):=by unfold af; rw [z]; grind
      omega
     have:=(Da.mp d').resolve_left (by omega)
     omega
    ·omega
 ·rintro ⟨d,a,b⟩
  refine ⟨⟨⟨by omega,by omega⟩,?_⟩,d⟩
  rcases lt with w | ⟨w,w'⟩
  ·have hd:(B.1 - A.1) * (p.2 - A.2)=(B.2 - A.2) * (p.1 - A.1):=by unfold af at d; omega
   have hd':(B.1 - A.1) * (B.2 - p.2)=(B.2 - A.2) * (B.1 - p.1):=by grind
   rcases GD A.2 B.2 with u | u
   ·have x1:=Cs (show 0≤B.2 - A.2 by omega) (show 0≤p.1 - A.1 by omega)
    have x2:=Cs (show 0≤B.2 - A.2 by omega) (show 0≤B.1 - p.1 by omega)
    rw [← hd] at x1
    rw [← hd'] at x2
    have y1:=ax (by omega) x1
    have y2:=ax (by omega) x2
    omega
   ·have x1:=Cs (show 0≤A.2 - B.2 by omega) (show 0≤p.1 - A.1 by omega)
    have x2:=Cs (show 0≤A.2 - B.2 by omega) (show 0≤B.1 - p.1 by omega)
    have f1:(A.2 - B.2) * (p.1 - A.1)=(B.1 - A.1) * (A.2 - p.2):=by grind
    have f2:(A.2 - B.2) * (B.1 - p.1)=(B.1 - A.1) * (p.2 - B.2):=by grind
    rw [f1] at x1
    rw [f2] at x2
    have y1:=ax (by omega) x1
    have y2:=ax (by omega) x2
    omega
  ·omega
theorem fC (A B:P2):sdl [A,B]=[(A,B),(B,A)]:=by
 unfold sdl nxt
 simp [FD]
theorem lY {A B p:P2}:(plc [A,B] p=0↔af A B p=0)∧plc [A,B] p≠1:=by
 have sw:af B A p=-af A B p:=by unfold af; grind
 have z:plc [A,B] p=0↔af A B p=0:=by
  rw [nT]
  unfold bdr
  rw [fC]
  constructor
  ·rintro ⟨h,_⟩
   have h1:0≤af A B p:=h (A,B) (by simp)
   have h2:0≤af B A p:=h (B,A) (by simp)
   omega
  ·intro h
   refine ⟨fun s hs=> ?_,(A,B),by simp,h⟩
   simp at hs
   rcases hs with rfl | rfl
   ·show 0≤af A B p; omega
   ·show 0≤af B A p; omega
 refine ⟨z,fun h=> ?_⟩
 by_cases hd:af A B p=0
 ·rw [z.mpr hd] at h; cases h
 ·have:plc [A,B] p=-1:=by
   rw [jx,fC]
   intro k
   have h1:0≤af A B p:=k (A,B) (by simp)
   have h2:0≤af B A p:=k (B,A) (by simp)
   omega
  rw [this] at h; cases h
theorem Bu {A B:P2} (h:ST.ltP A B=true):jb [A,B] (box [A,B]) 0=gst (A,B)+1∧jb [A,B] (box [A,B]) 1=0:=by
 have hne:(A,B).1≠(A,B).2:=fun e=> by
  dsimp only at e
  subst e
  unfold ST.ltP at h
  simp at h
 have g0:=cf hne
 unfold jb
 constructor
 ·have e:((box [A,B]).filter fun p=> decide (plc [A,B] p=0)).length=((Df ((gst (A,B)).toNat+1)).map fun (k:Nat)=> onS (A,B) (k:Int)).length:=by
   refine dl (cw (g8 _ _ _ _) _) ?_ fun p=> ?_
   ·exact DW _ (fun i j (h:i≠j) e=> h (by have:=kj hne e; omega)) Ey
   ·rw [CY,decide_eq_true_eq,lY.1,jw h,Cr]
    constructor
    ·rintro ⟨k,k0,k1,rfl⟩
     exact ⟨k.toNat,CF.mpr (by omega),by rw [show ((k.toNat:Nat):Int)=k by omega]⟩
    ·rintro ⟨k,hk,rfl⟩
     have:=CF.mp hk
     exact ⟨k,by omega,by omega,rfl⟩
  rw [e,Co,EX]
  omega
 ·have:(box [A,B]).filter (fun p=> decide (plc [A,B] p=1))=[]:=Fc.mpr fun p _=> by
   rw [decide_eq_true_eq]; exact lY.2
  rw [this]; rfl
theorem r8 {A B:P2} (h:aj [A,B]=[A,B]):ST.ltP A B=true:=by
 have nd:[A,B].Nodup:=by rw [← h]; exact bj _
 have ne:A≠B:=by simpa using nd
 have asc:=ST.srt_asc [A,B]
 have hm:=fun z=> ST.srt_mem z [A,B]
 match e:ST.srt [A,B],asc,hm with
 | [],_,hm=> have:=(hm A).mpr (by simp); simp at this
 | [X],_,hm=>
  have a:=(hm A).mpr (by simp)
  have b:=(hm B).mpr (by simp)
  rw [CT] at a b
  exact absurd (a.trans b.symm) ne
 | X::Y::[],asc,_=>
  have c:aj [A,B]=[X,Y]:=by unfold aj; rw [e]; simp [am,bg]
  rw [h] at c
  injection c with c1 c2
  injection c2 with c2 _
  subst c1 c2
  exact (CL.mp asc).1 _ (by simp)
 | X::Y::Z::r,_,_=>
  have:=ST.srt_len [A,B]
  rw [e] at this
  simp at this
def ox (l:List P2):Int:=pin l+iM l
def TP:List P2→Prop
 | []=> True
 | a::v=> (v.Pairwise fun x y=> 0 < af a x y)∧TP v
section
variable {l:List P2} (R:∀ s∈sdl l,∀ w∈l,w≠s.1→w≠s.2→0 < af s.1 s.2 w) (nd:l.Nodup)
include R nd
end
theorem yw (f:P2→P2) (l:List P2):sdl (l.map f)=(sdl l).map fun s=> (f s.1,f s.2):=by
 rw [eK,eK,← Jc,← Jb,← Di]
 generalize l.drop 1++l.take 1=m
 induction l generalizing m with
 | nil=> rfl
 | cons a l ih=>
  cases m with
  | nil=> simp
  | cons b m=> simp only [CZ,D3]; rw [ih]
theorem xV {l:List P2} (h3:3≤(aj l).length):2 * pin (aj l)=area (aj l) - fZ (aj l)+2:=by
 have P:=Bw h3 (W:=box (aj l)) (g8 _ _ _ _) fun p hp=> fT h3 hp
 have e2:pin (aj l)=(area (aj l) - fZ (aj l)+2) / 2:=by unfold pin; rw [if_neg (by omega)]
 rw [e2]
 omega
theorem vZ (a b:P2):crs (a,b)+crs (b,a)=0:=by unfold crs; grind
theorem ll {a b:P2} (h:ST.ltP a b=true):aj [a,b]=[a,b]:=by
 have e:ST.srt [a,b]=[a,b]:=ST.asc_srt (by simp [ST.Asc,h])
 unfold aj
 rw [e]
 simp [am,bg]
end
section
variable {P:Program} {w:World} {K:Cn} {mg:Str→Option Value} {base:Heap}
def aM (s:P2×P2) (x:Int):Int:=s.1.2 * (s.2.1 - s.1.1)+(x - s.1.1) * (s.2.2 - s.1.2)
def kE (s:P2×P2) (x:Int):Int:=if s.1.1≤x∧x < s.2.1 then (-(aM s x)) / (s.2.1 - s.1.1) else 0
def j3 (s:P2×P2) (x:Int):Int:=if s.2.1≤x∧x < s.1.1 then (-(aM s x)) / (s.1.1 - s.2.1)+1 else 0
def eE (s:P2×P2) (x:Int):Int:=kE s x+j3 s x
def cI (s:P2×P2) (left:Int):Int:=max left (min s.1.1 s.2.1)
def eP (s:P2×P2) (left right:Int):Int:=min (right+1) (max s.1.1 s.2.1) - cI s left
def kI (x:Int):Int:=if x < 0 then -x else x
def iZ (left right:Int) (s:P2×P2):Int:=if eP s left right < 1 then 0 else bE (eP s left right).toNat (-(s.2.2 - s.1.2)) (-(aM s (cI s left))) (kI (s.2.1 - s.1.1))+(if s.2.1 - s.1.1 < 0 then eP s left right else 0)
theorem hJ (a:Int) (n:Nat):∀ m:Nat,bF a (n+m)=bF a n++bF (a+n) m
 | 0=> by show bF a n=bF a n++[]; rw [EF]
 | m+1=> by
  have s1:∀ (b:Int) (k:Nat),bF b (k+1)=bF b k++[b+(k:Int)]:=fun b k=> by
   unfold bF; rw [FD,Di]; rfl
  rw [← Ja,s1,hJ a n m,s1,GO]
  congr 3
  omega
theorem iy (l m:List Int):(l++m).sum=l.sum+m.sum:=by
 induction l with
 | nil=> simp
 | cons a l ih=> rw [E6,Eh,ih,Eh]; omega
theorem sum_nil {α:Type} {l:List α} {f:α→Int} (h:∀ x∈l,f x=0):(l.map f).sum=0:=by
 induction l with
 | nil=> rfl
 | cons a l ih=> rw [CZ,Eh,h a (by simp),ih fun x hx=> h x (Cp _ hx)]; rfl
theorem rE {f:Int→Int} {a p:Int} {n m:Nat} (h1:a≤p) (h2:p+m≤a+n) (h0:∀ x,a≤x→x < a+n→(x < p∨p+m≤x)→f x=0):((bF a n).map f).sum=((bF p m).map f).sum:=by
 obtain ⟨u,hu⟩:∃ u:Nat,p=a+u:=⟨(p - a).toNat,by omega⟩
 obtain ⟨v,hv⟩:∃ v:Nat,n=u+(m+v):=⟨n - u - m,by omega⟩
 subst hu hv
 rw [hJ,hJ,Di,Di,iy,iy,sum_nil (l:=bF a u),sum_nil (l:=bF (a+↑u+↑m) v)]
 ·omega
 ·intro x hx
  have:=bH.mp hx
  exact h0 x (by omega) (by omega) (.inr (by omega))
 ·intro x hx
  have:=bH.mp hx
  exact h0 x (by omega) (by omega) (.inl (by omega))
theorem ml {f:Int→Int} {a b m p:Int} (h:∀ i:Nat,f (p+i)=(a * i+b) / m):∀ n:Nat,((bF p n).map f).sum=bE n a b m
 | 0=> rfl
 | n+1=> by
  rw [hJ p n 1,Di,iy,ml h n,sQ]
  have e:bF (p+(n:Int)) 1=[p+(n:Int)]:=by unfold bF; simp
  rw [e]
  show _+([f (p+(n:Int))]:List Int).sum=_
  rw [Eh,h n]; simp
theorem io {α:Type} (l:List α) (f g:α→Int):(l.map fun x=> f x+g x).sum=(l.map f).sum+(l.map g).sum:=by
 induction l with
 | nil=> rfl
 | cons a l ih=> simp only [CZ,Eh]; rw [ih]; omega
theorem sE {α:Type} (l:List α):(l.map fun _=> (1:Int)).sum=l.length:=by
 induction l with
 | nil=> rfl
 | cons a l ih=> rw [CZ,Eh,ih,Dy]; omega
theorem nR (s:P2×P2) (x i:Int):-(aM s (x+i))=-(s.2.2 - s.1.2) * i+-(aM s x):=by unfold aM; grind
theorem sX (left right:Int) (s:P2×P2):iZ left right s=((bF left (right+1 - left).toNat).map (eE s)).sum:=by
 unfold iZ
 by_cases hm:eP s left right < 1
 ·rw [if_pos hm]
  unfold eP cI at hm
  refine (sum_nil fun x hx=> ?_).symm
  have:=bH.mp hx
  unfold eE kE j3
  rw [if_neg (by omega),if_neg (by omega)]; rfl
 ·rw [if_neg hm]
  have hw:((bF left (right+1 - left).toNat).map (eE s)).sum=((bF (cI s left) (eP s left right).toNat).map (eE s)).sum:=by
   unfold eP cI at *
   refine rE (by omega) (by omega) fun x x0 x1 hx=> ?_
   unfold eE kE j3
   rw [if_neg (by omega),if_neg (by omega)]; rfl
  rw [hw]
  have hc:∀ i:Nat,(i:Int) < eP s left right→(min s.1.1 s.2.1≤cI s left+i∧cI s left+i < max s.1.1 s.2.1):=fun i hi=> by
   unfold eP cI at *
   omega
  by_cases hr:s.2.1 - s.1.1 < 0
  ·rw [if_pos hr]
   have ea:kI (s.2.1 - s.1.1)=s.1.1 - s.2.1:=by unfold kI; rw [if_pos hr]; omega
   rw [ea]
   have e:(bF (cI s left) (eP s left right).toNat).map (eE s)=(bF (cI s left) (eP s left right).toNat).map fun x=> (-(aM s x)) / (s.1.1 - s.2.1)+1:=EI fun x hx=> by
    have h:=bH.mp hx
    have:=hc (x - cI s left).toNat (by omega)
    unfold eE kE j3
    rw [if_neg (by omega),if_pos (by omega)]; omega
   rw [e,io,sE]
   have e2:=ml (f:=fun x=> (-(aM s x)) / (s.1.1 - s.2.1)) (a:=-(s.2.2 - s.1.2)) (b:=-(aM s (cI s left))) (m:=s.1.1 - s.2.1) (p:=cI s left) (fun i=> by rw [nR]) (eP s left right).toNat
   rw [e2]
   congr 1
   unfold bF
   rw [Co,EX]
   omega
  ·rw [if_neg hr]
   have ea:kI (s.2.1 - s.1.1)=s.2.1 - s.1.1:=by unfold kI; rw [if_neg hr]
   rw [ea]
   have e:(bF (cI s left) (eP s left right).toNat).map (eE s)=(bF (cI s left) (eP s left right).toNat).map fun x=> (-(aM s x)) / (s.2.1 - s.1.1):=EI fun x hx=> by
    have h:=bH.mp hx
    have:=hc (x - cI s left).toNat (by omega)
    unfold eE kE j3
    rw [if_pos (by omega),if_neg (by omega)]; omega
   rw [e]
   have e2:=ml (f:=fun x=> (-(aM s x)) / (s.2.1 - s.1.1)) (a:=-(s.2.2 - s.1.2)) (b:=-(aM s (cI s left))) (m:=s.2.1 - s.1.1) (p:=cI s left) (fun i=> by rw [nR]) (eP s left right).toNat
   rw [e2]
   omega
theorem wG {α β:Type} (L:List α) (X:List β) (F:α→β→Int):(L.map fun s=> (X.map (F s)).sum).sum=(X.map fun x=> (L.map fun s=> F s x).sum).sum:=by
 induction L with
 | nil=>
  simp only [Hc,List.sum_nil]
  exact (sum_nil fun _ _=> rfl).symm
 | cons a L ih=>
  simp only [CZ,Eh]
  rw [ih,← io]
theorem oJ {α:Type} {l:List α} (hn:l.Nodup) {f:α→Int} {a:α} (ha:a∈l) (h:∀ x∈l,x≠a→f x=0):(l.map f).sum=f a:=by
 induction l with
 | nil=> simp at ha
 | cons b l ih=>
  obtain ⟨n1,n2⟩:=CL.mp hn
  rw [CZ,Eh]
  rcases Cu.mp ha with e | e
  ·subst e
   rw [sum_nil fun x hx=> h x (Cp _ hx) fun z=> n1 x hx z.symm]; omega
  ·rw [ih n2 e fun x hx=> h x (Cp _ hx),h b (by simp) fun z=> n1 a e z]; omega
def bM (l:List P2) (p:P2):Bool:=if l.length=1 then decide (p=gp l 0) else if l.length=2 then (decide (af (gp l 0) (gp l 1) p=0) && (ST.leP (gp l 0) p && ST.leP p (gp l 1))) else (sdl l).all fun s=> decide (0≤af s.1 s.2 p)
theorem fk {l:List P2} (h3:3≤l.length) (p:P2):bM l p=true↔∀ s∈sdl l,0≤af s.1 s.2 p:=by
 unfold bM
 rw [if_neg (by omega),if_neg (by omega),FZ]
 simp only [decide_eq_true_eq]
theorem iL (A B p:P2):bM [A,B] p=true↔af A B p=0∧ST.leP A p=true∧ST.leP p B=true:=by
 unfold bM
 rw [if_neg (by simp),if_pos (by simp),Dx,Dx,decide_eq_true_eq]
 rfl
theorem iB (A p:P2):bM [A] p=true↔p=A:=by
 unfold bM
 rw [if_pos (by simp),decide_eq_true_eq]; rfl
def ix (l:List P2) (x:Int):Int:=(((bF (loY l) (byN l)).filter fun y=> bM l (x,y)).length:Nat)
theorem ji {lo:Int} {m:Nat} {f:Int→Bool} {b t:Int} (h:∀ y,f y=true↔b≤y∧y≤t) (hb:b≤t→lo≤b∧t < lo+m) (hbt:b≤t+1):(((bF lo m).filter f).length:Int)=t - b+1:=by
 have e:((bF lo m).filter f).length=(bF b (t - b+1).toNat).length:=by
  refine ((DX (Gb _ (gq lo m)) (gq b _)).mpr fun y=> ?_).length_eq
  rw [CY,bH,bH,h]
  omega
 rw [e]
 unfold bF
 rw [Co,EX]
 omega
theorem iq (s:P2×P2) (x y:Int):af s.1 s.2 (x,y)=(s.2.1 - s.1.1) * y - aM s x:=by unfold af aM; grind
theorem jk {s:P2×P2} {x y:Int} (h:s.1.1 < s.2.1):0≤af s.1 s.2 (x,y)↔-((-(aM s x)) / (s.2.1 - s.1.1))≤y:=by
 rw [iq]
 have:=En (a:=-y) (b:=-(aM s x)) (show 0 < s.2.1 - s.1.1 by omega)
 have e:-y * (s.2.1 - s.1.1)=-((s.2.1 - s.1.1) * y):=by grind
 rw [e] at this
 omega
theorem ju {s:P2×P2} {x y:Int} (h:s.2.1 < s.1.1):0≤af s.1 s.2 (x,y)↔y≤(-(aM s x)) / (s.1.1 - s.2.1):=by
 rw [iq]
 have:=En (a:=y) (b:=-(aM s x)) (show 0 < s.1.1 - s.2.1 by omega)
 have e:y * (s.1.1 - s.2.1)=-((s.2.1 - s.1.1) * y):=by grind
 rw [e] at this
 omega
theorem fz (s t:P2×P2) (x:Int):(s.2.1 - x) * af t.1 t.2 s.1+(x - s.1.1) * af t.1 t.2 s.2=(t.2.1 - t.1.1) * aM s x - (s.2.1 - s.1.1) * aM t x:=by unfold af aM; grind
theorem il {f:P2→Bool}:∀ (l:List P2) (a:P2),(∃ x∈a::l,f x=true)→(∃ y∈a::l,f y=false)→∃ s∈sdl (a::l),f s.1=true∧f s.2=false:=by
 intro l a hx hy
 rw [eK]
 show ∃ s∈C7 (a::l) (l++[a]),_
 have key:∀ (l:List P2) (b z:P2),f b=true→(f z=false∨∃ y∈l,f y=false)→∃ s∈C7 (b::l) (l++[z]),f s.1=true∧f s.2=false:=by
  intro l
  induction l with
  | nil=>
   intro b z hb hz
   rcases hz with h | ⟨y,hy,_⟩
   ·exact ⟨(b,z),by simp,hb,h⟩
   ·simp at hy
  | cons c l ih=>
   intro b z hb hz
   rw [E6,D3]
   by_cases hc:f c=true
   ·obtain ⟨s,hs,k⟩:=ih c z hc (hz.imp id fun ⟨y,hy,h⟩=> by
     rcases Cu.mp hy with e | e
     ·rw [e,hc] at h; cases h
     ·exact ⟨y,e,h⟩)
    exact ⟨s,Cp _ hs,k⟩
   ·exact ⟨(b,c),by simp,hb,by simpa using hc⟩
 have key2:∀ (l:List P2) (b z:P2),f z=false→(∃ x∈b::l,f x=true)→∃ s∈C7 (b::l) (l++[z]),f s.1=true∧f s.2=false:=by
  intro l
  induction l with
  | nil=>
   rintro b z hz ⟨x,hx,h⟩
   rw [CT.mp hx] at h
   exact ⟨(b,z),by simp,h,hz⟩
  | cons c l ih=>
   rintro b z hz ⟨x,hx,h⟩
   by_cases hb:f b=true
   ·exact key (c::l) b z hb (.inl hz)
   ·rw [E6,D3]
    obtain ⟨s,hs,k⟩:=ih c z hz ⟨x,by
     rcases Cu.mp hx with e | e
     ·rw [e] at h; exact absurd h hb
     ·exact e,h⟩
    exact ⟨s,Cp _ hs,k⟩
 by_cases ha:f a=true
 ·refine key l a a ha (.inr ?_)
  obtain ⟨y,hy,h⟩:=hy
  rcases Cu.mp hy with e | e
  ·rw [e,ha] at h; cases h
  ·exact ⟨y,e,h⟩
 ·exact key2 l a a (by simpa using ha) hx
section
variable {l:List P2} (h3:3≤(aj l).length)
include h3
theorem gW {s t:P2×P2} (hs:s∈sdl (aj l)) (ht:t∈sdl (aj l)):0≤af t.1 t.2 s.1∧0≤af t.1 t.2 s.2:=⟨bq h3 ht _ (aH _ _ (aV hs).1),bq h3 ht _ (aH _ _ (aV hs).2)⟩
theorem yI {s t:P2×P2} (hs:s∈sdl (aj l)) (ht:t∈sdl (aj l)) {x:Int} (h1:s.1.1≤x) (h2:x < s.2.1) (k1:t.1.1≤x) (k2:x < t.2.1):s=t:=by
 have a:=fz s t x
 have b:=fz t s x
 obtain ⟨c1,c2⟩:=gW h3 hs ht
 obtain ⟨d1,d2⟩:=gW h3 ht hs
 have p1:=Cs (show 0≤s.2.1 - x by omega) c1
 have p2:=Cs (show 0≤x - s.1.1 by omega) c2
 have p3:=Cs (show 0≤t.2.1 - x by omega) d1
 have p4:=Cs (show 0≤x - t.1.1 by omega) d2
 have z1:(s.2.1 - x) * af t.1 t.2 s.1=0:=by omega
 have z2:(t.2.1 - x) * af s.1 s.2 t.1=0:=by omega
 have e1:=(Da.mp z1).resolve_left (by omega)
 rcases jO h3 ht (aV hs).1 e1 with r | r
 ·obtain ⟨A,B⟩:=s
  obtain ⟨C,D⟩:=t
  dsimp only at r
  subst r
  rw [gY (bj l) hs ht]
 ·rw [r] at h1; omega
theorem yb {s t:P2×P2} (hs:s∈sdl (aj l)) (ht:t∈sdl (aj l)) {x:Int} (h1:s.2.1≤x) (h2:x < s.1.1) (k1:t.2.1≤x) (k2:x < t.1.1):s=t:=by
 have a:=fz s t x
 have b:=fz t s x
 obtain ⟨c1,c2⟩:=gW h3 hs ht
 obtain ⟨d1,d2⟩:=gW h3 ht hs
 have p1:=Cs (show 0≤x - s.2.1 by omega) c1
 have p2:=Cs (show 0≤s.1.1 - x by omega) c2
 have p3:=Cs (show 0≤x - t.2.1 by omega) d1
 have p4:=Cs (show 0≤t.1.1 - x by omega) d2
 have n1:(s.2.1 - x) * af t.1 t.2 s.1=-((x - s.2.1) * af t.1 t.2 s.1):=by grind
 have n2:(x - s.1.1) * af t.1 t.2 s.2=-((s.1.1 - x) * af t.1 t.2 s.2):=by grind
 have n3:(t.2.1 - x) * af s.1 s.2 t.1=-((x - t.2.1) * af s.1 s.2 t.1):=by grind
 have n4:(x - t.1.1) * af s.1 s.2 t.2=-((t.1.1 - x) * af s.1 s.2 t.2):=by grind
 have z1:(s.1.1 - x) * af t.1 t.2 s.2=0:=by omega
 have e1:=(Da.mp z1).resolve_left (by omega)
 have tn:=bZ h3 ht
 have sn:=bZ h3 hs
 rcases jO h3 ht (aV hs).2 e1 with r | r
 ·rw [r] at h1; omega
 ·-- the same end:the same side
  obtain ⟨A,B⟩:=s
  obtain ⟨C,D⟩:=t
  dsimp only at *
  subst r
  have q:A=C:=by
   obtain ⟨i,hi,ei⟩:=Cr.mp hs
   obtain ⟨j,hj,ej⟩:=Cr.mp ht
   have hi:=CF.mp hi
   have hj:=CF.mp hj
   have e1:gp (aj l) ((i+1) % (aj l).length)=gp (aj l) ((j+1) % (aj l).length):=by
    have a1:nxt (aj l) i=B:=congrArg FP ei
    have a2:nxt (aj l) j=B:=congrArg FP ej
    unfold nxt at a1 a2
    rw [a1,a2]
   have n0:0 < (aj l).length:=by omega
   have inj:∀ {u v:Nat},u < (aj l).length→v < (aj l).length→gp (aj l) u=gp (aj l) v→u=v:=fun {u v} hu hv e=> by
    have nd:=bj l
    have e1:gp (aj l) u=(aj l)[u]:=by simp [gp,hu]
    have e2:gp (aj l) v=(aj l)[v]:=by simp [gp,hv]
    rw [e1,e2] at e
    rcases Ep u v with z | z | z
    ·exact absurd e (C4.mp nd u v hu hv z)
    ·exact z
    ·exact absurd e.symm (C4.mp nd v u hv hu z)
   have e2:=inj (DV _ n0) (DV _ n0) e1
   have e3:i=j:=by
    by_cases c1:i+1 < (aj l).length <;> by_cases c2:j+1 < (aj l).length
    ·rw [CU c1,CU c2] at e2; omega
    ·rw [CU c1,show j+1=(aj l).length by omega,Fi] at e2; omega
    ·rw [CU c2,show i+1=(aj l).length by omega,Fi] at e2; omega
    ·omega
   have b1:gp (aj l) i=A:=congrArg Gg ei
   have b2:gp (aj l) j=C:=congrArg Gg ej
   rw [← b1,← b2,e3]
  rw [q]
theorem tI {x:Int} (hl:loX (aj l)≤x) (hh:x < hiX (aj l)):∃ s∈sdl (aj l),∃ t∈sdl (aj l),(s.1.1≤x∧x < s.2.1)∧t.2.1≤x∧x < t.1.1:=by
 have hne:aj l≠[]:=fun e=> by rw [e] at h3; simp at h3
 have hx:(aj l).map (·.1)≠[]:=by simpa using hne
 obtain ⟨p,hp,ep⟩:=Cr.mp (bJ hx).1
 obtain ⟨q,hq,eq⟩:=Cr.mp (bV hx).1
 have p1:p.1≤x:=by show p.1≤x; unfold loX at hl; omega
 have q1:x < q.1:=by unfold hiX at hh; omega
 obtain ⟨a,r,e⟩:=Gw hne
 rw [e] at hp hq
 have c1:=il (f:=fun z=> decide (z.1≤x)) r a ⟨p,hp,by simpa using p1⟩ ⟨q,hq,by simpa using q1⟩
 have c2:=il (f:=fun z=> decide (x < z.1)) r a ⟨q,hq,by simpa using q1⟩ ⟨p,hp,by simpa using p1⟩
 rw [← e] at c1 c2
 obtain ⟨s,hs,s1,s2⟩:=c1
 obtain ⟨t,ht,t1,t2⟩:=c2
 exact ⟨s,hs,t,ht,⟨by simpa using s1,by simpa using s2⟩,by simpa using t2,by simpa using t1⟩
theorem lL {s t:P2×P2} (hs:s∈sdl (aj l)) (ht:t∈sdl (aj l)) {x:Int} (h1:s.1.1≤x) (h2:x < s.2.1) (k1:t.2.1≤x) (k2:x < t.1.1) (y:Int):bM (aj l) (x,y)=true↔-((-(aM s x)) / (s.2.1 - s.1.1))≤y∧y≤(-(aM t x)) / (t.1.1 - t.2.1):=by
 rw [fk h3,← jk (by omega),← ju (by omega)]
 constructor
 ·intro h; exact ⟨h s hs,h t ht⟩
 ·rintro ⟨hlow,htop⟩ w hw
  rw [iq] at hlow htop ⊢
  by_cases hd:0≤w.2.1 - w.1.1
  ·have m:=fz s w x
   obtain ⟨c1,c2⟩:=gW h3 hs hw
   have p1:=Cs (show 0≤s.2.1 - x by omega) c1
   have p2:=Cs (show 0≤x - s.1.1 by omega) c2
   have p3:=Cs hd hlow
   have e:(s.2.1 - s.1.1) * ((w.2.1 - w.1.1) * y - aM w x)=(w.2.1 - w.1.1) * ((s.2.1 - s.1.1) * y - aM s x)+((w.2.1 - w.1.1) * aM s x - (s.2.1 - s.1.1) * aM w x):=by grind
   exact ax (show 0 < s.2.1 - s.1.1 by omega) (by omega)
  ·have m:=fz t w x
   obtain ⟨c1,c2⟩:=gW h3 ht hw
   have p1:=Cs (show 0≤x - t.2.1 by omega) c1
   have p2:=Cs (show 0≤t.1.1 - x by omega) c2
   have p3:=Cs (show 0≤-(w.2.1 - w.1.1) by omega) htop
   have n1:(t.2.1 - x) * af w.1 w.2 t.1=-((x - t.2.1) * af w.1 w.2 t.1):=by grind
   have n2:(x - t.1.1) * af w.1 w.2 t.2=-((t.1.1 - x) * af w.1 w.2 t.2):=by grind
   have e:(t.1.1 - t.2.1) * ((w.2.1 - w.1.1) * y - aM w x)=-(w.2.1 - w.1.1) * ((t.2.1 - t.1.1) * y - aM t x) - ((w.2.1 - w.1.1) * aM t x - (t.2.1 - t.1.1) * aM w x):=by grind
   exact ax (show 0 < t.1.1 - t.2.1 by omega) (by omega)
theorem yV {s t:P2×P2} (hs:s∈sdl (aj l)) (ht:t∈sdl (aj l)) {x:Int} (h1:s.1.1≤x) (h2:x < s.2.1) (k1:t.2.1≤x) (k2:x < t.1.1):-((-(aM s x)) / (s.2.1 - s.1.1))≤(-(aM t x)) / (t.1.1 - t.2.1)+1:=by
 have m:=fz t s x
 obtain ⟨c1,c2⟩:=gW h3 ht hs
 have p1:=Cs (show 0≤x - t.2.1 by omega) c1
 have p2:=Cs (show 0≤t.1.1 - x by omega) c2
 have n1:(t.2.1 - x) * af s.1 s.2 t.1=-((x - t.2.1) * af s.1 s.2 t.1):=by grind
 have n2:(x - t.1.1) * af s.1 s.2 t.2=-((t.1.1 - x) * af s.1 s.2 t.2):=by grind
 have r1:0 < s.2.1 - s.1.1:=by omega
 have r2:0 < t.1.1 - t.2.1:=by omega
 have f1:=EB (-(aM s x)) r1
 have f2:=EB (-(aM t x)) r2
 have n3:(t.2.1 - t.1.1) * aM s x=-((t.1.1 - t.2.1) * aM s x):=by grind
 generalize (-(aM s x)) / (s.2.1 - s.1.1)=q at *
 generalize (-(aM t x)) / (t.1.1 - t.2.1)=w at *
 generalize s.2.1 - s.1.1=a at *
 generalize t.1.1 - t.2.1=b at *
 have g:a * -(aM t x) - b * aM s x ≥ 0:=by
  have:a * -(aM t x)=-(a * aM t x):=by grind
  omega
 rcases DL (w+1) (-q) with z | z
 ·exfalso
  have y1:b * (-(aM s x)) < b * ((q+1) * a):=Gx f1 r2
  have y2:a * (-(aM t x)) < a * ((w+1) * b):=Gx f2 r1
  have y3:0≤(a * b) * (-q - 1 - (w+1)):=Cs (Cs (by omega) (by omega)) (by omega)
  have e1:b * (-(aM s x))=-(b * aM s x):=by grind
  have e2:(a * b) * (-q - 1 - (w+1))=-(b * ((q+1) * a)) - a * ((w+1) * b):=by grind
  omega
 ·exact z
theorem vN {x y:Int} (h:bM (aj l) (x,y)=true):(x,y)∈box (aj l):=fT h3 ((fk h3 _).mp h)
theorem sZ {x:Int} (hl:loX (aj l)≤x) (hh:x < hiX (aj l)):((sdl (aj l)).map fun s=> eE s x).sum=ix (aj l) x:=by
 obtain ⟨s,hs,t,ht,⟨h1,h2⟩,k1,k2⟩:=tI h3 hl hh
 have nd:=uN (bj l)
 have e1:((sdl (aj l)).map fun s=> kE s x).sum=(-(aM s x)) / (s.2.1 - s.1.1):=by
  rw [oJ nd hs fun w hw hne=> ?_]
  ·unfold kE; rw [if_pos ⟨h1,h2⟩]
  ·unfold kE
   rw [if_neg fun ⟨a,b⟩=> hne (yI h3 hw hs a b h1 h2)]
 have e2:((sdl (aj l)).map fun s=> j3 s x).sum=(-(aM t x)) / (t.1.1 - t.2.1)+1:=by
  rw [oJ nd ht fun w hw hne=> ?_]
  ·unfold j3; rw [if_pos ⟨k1,k2⟩]
  ·unfold j3
   rw [if_neg fun ⟨a,b⟩=> hne (yb h3 hw ht a b k1 k2)]
 unfold eE
 rw [io,e1,e2]
 unfold ix
 have hne:aj l≠[]:=fun e=> by rw [e] at h3; simp at h3
 have:=ji (lo:=loY (aj l)) (m:=byN (aj l)) (lL h3 hs ht h1 h2 k1 k2) (fun hbt=> by
  have b1:=(ci hne).mp (vN h3 ((lL h3 hs ht h1 h2 k1 k2 _).mpr ⟨Eg _,hbt⟩))
  have b2:=(ci hne).mp (vN h3 ((lL h3 hs ht h1 h2 k1 k2 _).mpr ⟨hbt,Eg _⟩))
  unfold byN
  dsimp only at b1 b2
  omega) (yV h3 hs ht h1 h2 k1 k2)
 rw [this]; omega
end
theorem rX {l:List P2} {x:Int} (h:x < loX l∨hiX l≤x):((sdl l).map fun s=> eE s x).sum=0:=by
 refine sum_nil fun s hs=> ?_
 have hne:l≠[]:=fun e=> by subst e; simp [sdl] at hs
 have hx:l.map (·.1)≠[]:=by simpa using hne
 have a1:=(bJ hx).2 s.1.1 (CO (aV hs).1)
 have a2:=(bJ hx).2 s.2.1 (CO (aV hs).2)
 have a3:=(bV hx).2 s.1.1 (CO (aV hs).1)
 have a4:=(bV hx).2 s.2.1 (CO (aV hs).2)
 unfold loX hiX at h
 unfold eE kE j3
 rw [if_neg (by omega),if_neg (by omega)]; rfl
def hts (l:List P2):List Int:=(l.filter fun p=> decide (p.1=hiX l)).map (·.2)
theorem pN {l:List P2} (hne:l≠[]):hts l≠[]:=by
 have hx:l.map (·.1)≠[]:=by simpa using hne
 obtain ⟨q,hq,e⟩:=Cr.mp (bV hx).1
 intro h
 have:q.2∈hts l:=CO (CY.mpr ⟨hq,by unfold hiX; simpa using e⟩)
 rw [h] at this
 simp at this
theorem jr {l:List P2} {y:Int}:y∈hts l↔(hiX l,y)∈l:=by
 unfold hts
 rw [Cr]
 constructor
 ·rintro ⟨p,hp,rfl⟩
  obtain ⟨h1,h2⟩:=CY.mp hp
  rw [← of_decide_eq_true h2]; exact h1
 ·intro h
  exact ⟨(hiX l,y),CY.mpr ⟨h,by simp⟩,rfl⟩
theorem w6 {l:List P2} {p:P2} (hp:p∈l):p.1≤hiX l:=(bV (by intro e; rw [List.map_eq_nil_iff.mp e] at hp; simp at hp)).2 _ (CO hp)
theorem o9 {l:List P2} (h3:3≤(aj l).length) (y:Int):bM (aj l) (hiX (aj l),y)=true↔gE (hts (aj l))≤y∧y≤hiL (hts (aj l)):=by
 have hne:aj l≠[]:=fun e=> by rw [e] at h3; simp at h3
 have hn:=pN hne
 obtain ⟨l1,l2⟩:=bJ hn
 obtain ⟨g1,g2⟩:=bV hn
 rw [fk h3]
 constructor
 ·intro h
  have hy:(aj l).map (·.2)≠[]:=by simpa using hne
  have key:∀ b:Int,(b=1∨b=-1)→∃ z∈hts (aj l),b * y≤b * z:=fun b hb=> by
   have pk:=AH h3 (1+(hiY (aj l) - loY (aj l))) b h
   obtain ⟨⟨c,hc,ec⟩,_⟩:=kl (1+(hiY (aj l) - loY (aj l))) b hne
   rw [← ec] at pk
   unfold wth at pk
   dsimp only at pk
   have cy1:=(bJ hy).2 c.2 (CO hc)
   have cy2:=(bV hy).2 c.2 (CO hc)
   have cx:=w6 hc
   have top:=jr.mp g1
   have ty1:=(bJ hy).2 _ (CO top)
   have ty2:=(bV hy).2 _ (CO top)
   have hw:=(kl (1+(hiY (aj l) - loY (aj l))) b hne).2 _ top
   rw [← ec] at hw
   unfold wth at hw
   dsimp only at hw ty1 ty2
   have ex:c.1=hiX (aj l):=by
    rcases De cx with z | z
    ·exfalso
     have hN:1≤1+(hiY (aj l) - loY (aj l)):=by unfold hiY loY; omega
     have m:(1+(hiY (aj l) - loY (aj l))) * 1≤(1+(hiY (aj l) - loY (aj l))) * (hiX (aj l) - c.1):=D9 (by omega) (by omega)
     have e:(1+(hiY (aj l) - loY (aj l))) * (hiX (aj l) - c.1)=(1+(hiY (aj l) - loY (aj l))) * hiX (aj l) - (1+(hiY (aj l) - loY (aj l))) * c.1:=by grind
     rw [FH] at m
     unfold hiY loY at *
     rcases hb with rfl | rfl <;> omega
    ·exact z
   refine ⟨c.2,jr.mpr (by rw [← ex]; exact hc),?_⟩
   rw [ex] at pk
   omega
  obtain ⟨u,hu,ku⟩:=key 1 (.inl rfl)
  obtain ⟨v,hv,kv⟩:=key (-1) (.inr rfl)
  have:=g2 u hu
  have:=l2 v hv
  omega
 ·rintro ⟨h1,h2⟩ s hs
  have c1:=bq h3 hs _ (aH _ _ (jr.mp l1))
  have c2:=bq h3 hs _ (aH _ _ (jr.mp g1))
  rw [iq] at c1 c2 ⊢
  by_cases hd:0≤s.2.1 - s.1.1
  ·have:=Cs hd (show 0≤y - gE (hts (aj l)) by omega)
   have e:(s.2.1 - s.1.1) * (y - gE (hts (aj l)))=(s.2.1 - s.1.1) * y - (s.2.1 - s.1.1) * gE (hts (aj l)):=by grind
   omega
  ·have:=Cs (show 0≤-(s.2.1 - s.1.1) by omega) (show 0≤hiL (hts (aj l)) - y by omega)
   have e:-(s.2.1 - s.1.1) * (hiL (hts (aj l)) - y)=(s.2.1 - s.1.1) * y - (s.2.1 - s.1.1) * hiL (hts (aj l)):=by grind
   omega
theorem yG (A:P2):sdl [A]=[(A,A)]:=by
 unfold sdl nxt
 simp [FD]
theorem AT {A B:P2} (h:ST.ltP A B=true):A.1 < B.1∨(A.1=B.1∧A.2 < B.2):=by
 unfold ST.ltP at h
 exact of_decide_eq_true h
theorem mE {A B:P2} (h:ST.ltP A B=true):loX [A,B]=A.1∧hiX [A,B]=B.1∧loY [A,B]=min A.2 B.2∧hiY [A,B]=max A.2 B.2:=by
 have:=AT h
 exact ⟨(by show min A.1 B.1=A.1; omega),(by show max A.1 B.1=B.1; omega),rfl,rfl⟩
theorem mm {A B:P2} (h:ST.ltP A B=true) {p:P2} (hp:bM [A,B] p=true):p∈box [A,B]:=by
 have:=(iL A B p).mp hp
 exact ((jw h).mpr ((jl h).mp this)).1
theorem yJ {A B:P2} (h:ST.ltP A B=true) {x:Int} (hl:A.1≤x) (hh:x < B.1):((sdl [A,B]).map fun s=> eE s x).sum=ix [A,B] x:=by
 have e:aM (B,A) x=-(aM (A,B) x):=by unfold aM; dsimp only; grind
 have v1:eE (A,B) x=(-(aM (A,B) x)) / (B.1 - A.1):=by
  unfold eE kE j3
  dsimp only
  rw [if_pos ⟨hl,hh⟩,if_neg (by omega)]; omega
 have v2:eE (B,A) x=aM (A,B) x / (B.1 - A.1)+1:=by
  unfold eE kE j3
  dsimp only
  rw [if_neg (by omega),if_pos ⟨hl,hh⟩,e,Int.neg_neg]; omega
 rw [fC]
 show eE (A,B) x+(eE (B,A) x+0)=_
 rw [v1,v2]
 have dc:∀ y,af A B (x,y)=(B.1 - A.1) * y - aM (A,B) x:=fun y=> iq (A,B) x y
 have hr:0 < B.1 - A.1:=by omega
 have iff:∀ y,bM [A,B] (x,y)=true↔-((-(aM (A,B) x)) / (B.1 - A.1))≤y∧y≤aM (A,B) x / (B.1 - A.1):=fun y=> by
  rw [iL,dc]
  have a1:=En (a:=-y) (b:=-(aM (A,B) x)) hr
  have a2:=En (a:=y) (b:=aM (A,B) x) hr
  have e1:-y * (B.1 - A.1)=-((B.1 - A.1) * y):=by grind
  have e2:y * (B.1 - A.1)=(B.1 - A.1) * y:=by grind
  rw [e1] at a1
  rw [e2] at a2
  unfold ST.leP
  rw [decide_eq_true_eq,decide_eq_true_eq]
  dsimp only
  constructor
  ·rintro ⟨d,_,_⟩; omega
  ·rintro ⟨b1,b2⟩
   have d:(B.1 - A.1) * y - aM (A,B) x=0:=by omega
   refine ⟨d,?_,.inl hh⟩
   rcases De hl with z | z
   ·exact .inl z
   ·refine .inr ⟨z,?_⟩
    have:aM (A,B) x=(B.1 - A.1) * A.2:=by unfold aM; rw [← z]; dsimp only; grind
    rw [this] at d
    have d':(B.1 - A.1) * (y - A.2)=0:=by grind
    have:=(Da.mp d').resolve_left (by omega)
    omega
 have ord:-((-(aM (A,B) x)) / (B.1 - A.1))≤aM (A,B) x / (B.1 - A.1)+1:=by
  have f1:=EB (-(aM (A,B) x)) hr
  have f2:=EB (aM (A,B) x) hr
  generalize (-(aM (A,B) x)) / (B.1 - A.1)=q at *
  generalize aM (A,B) x / (B.1 - A.1)=w at *
  rcases DL (w+1) (-q) with z | z
  ·exfalso
   have y3:0≤(B.1 - A.1) * (-q - 1 - (w+1)):=Cs (by omega) (by omega)
   have e2:(B.1 - A.1) * (-q - 1 - (w+1))=-((q+1) * (B.1 - A.1)) - (w+1) * (B.1 - A.1):=by grind
   omega
  ·exact z
 have bx:=mE h
 have:=ji (lo:=loY [A,B]) (m:=byN [A,B]) iff (fun hbt=> by
  have b1:=(ci (by simp)).mp (mm h ((iff _).mpr ⟨Eg _,hbt⟩))
  have b2:=(ci (by simp)).mp (mm h ((iff _).mpr ⟨hbt,Eg _⟩))
  unfold byN
  dsimp only at b1 b2
  omega) ord
 unfold ix
 rw [this]; omega
theorem uR {A B:P2} (h:ST.ltP A B=true) (y:Int):bM [A,B] (hiX [A,B],y)=true↔gE (hts [A,B])≤y∧y≤hiL (hts [A,B]):=by
 have bx:=mE h
 have lt:=AT h
 rw [iL,bx.2.1]
 by_cases e:A.1=B.1
 ·have ht:hts [A,B]=[A.2,B.2]:=by
   unfold hts
   rw [bx.2.1,C_ (by simpa using e),C_ (by simp)]; rfl
  rw [ht]
  show _↔min A.2 B.2≤y∧y≤max A.2 B.2
  unfold ST.leP af
  rw [decide_eq_true_eq,decide_eq_true_eq,e]
  simp
  omega
 ·have ht:hts [A,B]=[B.2]:=by
   unfold hts
   rw [bx.2.1,C9 (by simpa using e),C_ (by simp)]; rfl
  rw [ht]
  show _↔B.2≤y∧y≤B.2
  unfold ST.leP
  rw [decide_eq_true_eq,decide_eq_true_eq]
  dsimp only
  have d:af A B (B.1,y)=(B.1 - A.1) * (y - B.2):=by unfold af; grind
  rw [d]
  constructor
  ·rintro ⟨k,_,_⟩
   have:=(Da.mp k).resolve_left (by omega)
   omega
  ·intro k
   have:y - B.2=0:=by omega
   rw [this]
   simp
   omega
structure Fld (l:List P2):Prop where
 ne:l≠[]
 cr:aj l=l
theorem Fld.cases {l:List P2} (F:Fld l):(∃ A,l=[A])∨(∃ A B,l=[A,B]∧ST.ltP A B=true)∨3≤(aj l).length:=by
 match l,F with
 | [],F=> exact absurd rfl F.ne
 | [A],_=> exact .inl ⟨A,rfl⟩
 | [A,B],F=> exact .inr (.inl ⟨A,B,rfl,r8 F.cr⟩)
 | A::B::C::r,F=> exact .inr (.inr (by rw [F.cr]; simp))
theorem Fld.in_box {l:List P2} (F:Fld l) {p:P2} (h:bM l p=true):p∈box l:=by
 rcases F.cases with ⟨A,rfl⟩ | ⟨A,B,rfl,lt⟩ | h3
 ·rw [(iB A p).mp h,ri]; simp
 ·exact mm lt h
 ·rw [← F.cr] at h ⊢
  exact fT h3 ((fk h3 p).mp h)
theorem Fld.last {l:List P2} (F:Fld l) (y:Int):bM l (hiX l,y)=true↔gE (hts l)≤y∧y≤hiL (hts l):=by
 rcases F.cases with ⟨A,rfl⟩ | ⟨A,B,rfl,lt⟩ | h3
 ·have hx:hiX [A]=A.1:=rfl
  have ht:hts [A]=[A.2]:=by
   unfold hts
   rw [hx,C_ (by simp)]; rfl
  rw [iB,hx,ht]
  show _↔A.2≤y∧y≤A.2
  constructor
  ·intro e; have:y=A.2:=congrArg FP e; omega
  ·intro e; exact Em rfl (by dsimp only; omega)
 ·exact uR lt y
 ·have:=o9 h3 y
  rw [F.cr] at this
  exact this
theorem Fld.colc_last {l:List P2} (F:Fld l):ix l (hiX l)=hiL (hts l) - gE (hts l)+1:=by
 have hn:=pN F.ne
 have o:=(bV hn).2 _ (bJ hn).1
 unfold ix
 refine ji F.last (fun hbt=> ?_) (by omega)
 have b1:=(ci F.ne).mp (F.in_box ((F.last _).mpr ⟨Eg _,hbt⟩))
 have b2:=(ci F.ne).mp (F.in_box ((F.last _).mpr ⟨hbt,Eg _⟩))
 unfold byN
 dsimp only at b1 b2
 omega
theorem Fld.colc_out {l:List P2} (F:Fld l) {x:Int} (h:x < loX l∨hiX l < x):ix l x=0:=by
 unfold ix
 have:(bF (loY l) (byN l)).filter (fun y=> bM l (x,y))=[]:=Fc.mpr fun y _ k=> by
  have:=(ci F.ne).mp (F.in_box k)
  dsimp only at this
  omega
 rw [this]; rfl
theorem Fld.col {l:List P2} (F:Fld l) {x:Int} (h1:loX l≤x) (h2:x < hiX l):((sdl l).map fun s=> eE s x).sum=ix l x:=by
 rcases F.cases with ⟨A,rfl⟩ | ⟨A,B,rfl,lt⟩ | h3
 ·have:loX [A]=A.1:=rfl
  have:hiX [A]=A.1:=rfl
  omega
 ·have bx:=mE lt
  exact yJ lt (by omega) (by omega)
 ·have:=sZ (l:=l) h3 (x:=x)
  rw [F.cr] at this
  exact this h1 h2
def nj (l:List P2) (left right:Int):Int:=if hiX l < left∨right < hiX l then 0 else hiL (hts l) - gE (hts l)+1
def lh (l:List P2) (left right:Int):Int:=((sdl l).map (iZ left right)).sum+nj l left right
theorem Fld.cols {l:List P2} (F:Fld l) (left right:Int):lh l left right=((bF left (right+1 - left).toNat).map (ix l)).sum:=by
 unfold lh
 have e1:(sdl l).map (iZ left right)=(sdl l).map fun s=> ((bF left (right+1 - left).toNat).map (eE s)).sum:=EI fun s _=> sX left right s
 rw [e1,wG]
 have e2:nj l left right=((bF left (right+1 - left).toNat).map fun x=> if x=hiX l then hiL (hts l) - gE (hts l)+1 else 0).sum:=by
  unfold nj
  by_cases h:hiX l < left∨right < hiX l
  ·rw [if_pos h]
   refine (sum_nil fun x hx=> ?_).symm
   have:=bH.mp hx
   rw [if_neg (by omega)]
  ·rw [if_neg h,rE (p:=hiX l) (m:=1) (by omega) (by omega) fun x _ _ hx=> if_neg (by omega)]
   have e:bF (hiX l) 1=[hiX l]:=by unfold bF; simp
   rw [e]
   simp
 rw [e2,← io]
 congr 1
 refine EI fun x _=> ?_
 by_cases h1:x < loX l
 ·rw [rX (.inl h1),F.colc_out (.inl h1),if_neg]
  ·rfl
  ·intro e
   have hx:l.map (·.1)≠[]:=by simpa using F.ne
   have:=(bJ hx).2 _ (bV hx).1
   unfold loX at h1
   unfold hiX at e
   omega
 ·by_cases h2:x < hiX l
  ·rw [F.col (by omega) h2,if_neg (by omega)]; omega
  ·rw [rX (.inr (by omega))]
   by_cases h3:x=hiX l
   ·rw [if_pos h3,h3,F.colc_last]; omega
   ·rw [if_neg h3,F.colc_out (.inr (by omega))]; rfl
def oh (l:List P2) (x:Int):List Int:=(bF (loY l) (byN l)).filter fun y=> bM l (x,y)
theorem lg {l:List P2} (F:Fld l) {x y:Int}:y∈oh l x↔bM l (x,y)=true:=by
 unfold oh
 rw [CY,bH]
 constructor
 ·exact fun h=> h.2
 ·intro h
  have b:=(ci F.ne).mp (F.in_box h)
  dsimp only at b
  unfold byN
  exact ⟨by omega,h⟩
theorem uP (l:List P2) (x:Int):(oh l x).Nodup:=Gb _ (gq _ _)
def shf (s a b:Int) (p:P2):P2:=(p.1+a,p.2+s * p.1+b)
theorem xh (s a b:Int) (p q:P2) (h:plt p q):plt (shf s a b p) (shf s a b q):=by
 unfold plt shf at *
 dsimp only
 rcases h with h | ⟨h,k⟩
 ·left; omega
 ·right; rw [h]; omega
theorem mG (s a b:Int) (p q r:P2):af (shf s a b p) (shf s a b q) (shf s a b r)=af p q r:=by unfold af shf; grind
theorem yh {s a b:Int} {p q:P2} (e:shf s a b p=shf s a b q):p=q:=by
 have e1:p.1+a=q.1+a:=congrArg Gg e
 have e2:p.2+s * p.1+b=q.2+s * q.1+b:=congrArg FP e
 have e1:p.1=q.1:=by omega
 rw [e1] at e2
 exact Em e1 (by omega)
theorem vS (s a b:Int) (l:List P2):aj (l.map (shf s a b))=(aj l).map (shf s a b):=vC (xh s a b) (fun p q r=> by rw [mG]) l
theorem rf (s a b:Int) (p q:P2):ST.leP (shf s a b p) (shf s a b q)=ST.leP p q:=by
 unfold ST.leP shf
 dsimp only
 rw [Et,decide_eq_true_eq,decide_eq_true_eq]
 constructor
 ·rintro (h | ⟨h,k⟩)
  ·left; omega
  ·right
   have:p.1=q.1:=by omega
   rw [this] at k
   omega
 ·rintro (h | ⟨h,k⟩)
  ·left; omega
  ·right; rw [h]; omega
theorem pf {f:P2→P2} {l:List P2} {i:Nat} (h:i < l.length):gp (l.map f) i=f (gp l i):=by simp [gp,h]
theorem AJ (s a b:Int) (l:List P2) (hne:l≠[]) (p:P2):bM (l.map (shf s a b)) (shf s a b p)=bM l p:=by
 have h0:0 < l.length:=DM.mpr hne
 unfold bM
 rw [Co]
 by_cases h1:l.length=1
 ·rw [if_pos h1,if_pos h1,pf h0]
  exact decide_eq_decide.mpr ⟨yh,fun e=> by rw [e]⟩
 ·rw [if_neg h1,if_neg h1]
  by_cases h2:l.length=2
  ·rw [if_pos h2,if_pos h2,pf h0,pf (show 1 < l.length by omega),mG,rf,rf]
  ·rw [if_neg h2,if_neg h2,yw,Jj]
   congr 1
   funext t
   show decide (0≤af (shf s a b t.1) (shf s a b t.2) (shf s a b p))=_
   rw [mG]
theorem sU {pts:List P2} (hne:pts≠[]):∃ mn mx,(aj pts)[0]?=some mn∧mn∈pts∧mx∈pts∧(∀ q∈pts,ST.ltP q mn=false)∧(∀ q∈pts,ST.ltP mx q=false)∧(¬ 2 < (aj pts).length→(aj pts)[(aj pts).length - 1]?=some mx):=by
 have no:∀ {a b:P2},(a=b∨plt a b)→ST.ltP b a=false:=fun {a b} h=> by
  rw [ST.ltP_no]
  rcases h with rfl | h
  ·omega
  ·unfold plt at h; omega
 by_cases h2:2≤(ST.srt pts).length
 ·have hs:=dX pts
  obtain ⟨mn,mx,W⟩:=A4 hs h2
  have hc:aj pts=(am (ST.srt pts)).reverse.dropLast++(am (ST.srt pts).reverse).reverse.dropLast:=by
   unfold aj; rw [if_neg (by omega)]
  have memT:mn∈ST.srt pts:=bP _ _ (CI.mp (CM W.t0))
  have memX:mx∈ST.srt pts:=bP _ _ (CI.mp (CM W.t1))
  refine ⟨mn,mx,?_,(ST.srt_mem _ _).mp memT,(ST.srt_mem _ _).mp memX,fun q hq=> no ((W.least q ((ST.srt_mem _ _).mpr hq)).imp (fun e=> e.symm) id),fun q hq=> no (W.most q ((ST.srt_mem _ _).mpr hq)),fun h=> ?_⟩
  ·have:=eC W (k:=0) (by omega)
   rw [Jp] at this
   rw [hc,this]; exact W.t0
  ·rw [hc] at h ⊢
   have h1:=W.lt
   have h3:=W.lb
   have hn:((am (ST.srt pts)).reverse.dropLast++(am (ST.srt pts).reverse).reverse.dropLast).length=(am (ST.srt pts)).reverse.length - 1+((am (ST.srt pts).reverse).reverse.length - 1):=by simp
   have:=eC W (k:=(am (ST.srt pts)).reverse.length - 1) (Cv _)
   rw [W.t1,CU (by omega)] at this
   rw [← this]; congr 1; omega
 ·have h1:(ST.srt pts).length=1:=by
   obtain ⟨x,hx⟩:=GI pts hne
   have:=D4 ((ST.srt_mem x pts).mpr hx)
   omega
  obtain ⟨x,hx⟩:=List.length_eq_one_iff.mp h1
  have all:∀ q∈pts,q=x:=fun q hq=> by have:=(ST.srt_mem q pts).mpr hq; rw [hx] at this; simpa using this
  have mx:x∈pts:=(ST.srt_mem _ _).mp (by rw [hx]; simp)
  rw [fo h2,hx]
  exact ⟨x,x,rfl,mx,mx,fun q hq=> no (.inl (all q hq).symm),fun q hq=> no (.inl (all q hq)),fun _=> rfl⟩
theorem qG {f:P2→P2} {d:Int} (L:Lin f d) (A B:P2):gst (f A,f B)=gst (A,B):=by
 have:=xZ L (A,B)
 unfold sdf at this
 split at this
 ·exact this
 ·rw [← d8]; exact this
theorem wa {f:P2→P2} {d:Int} (L:Lin f d) {A B:P2} (h:A≠B) (k:Int):onS (f A,f B) k=f (onS (A,B) k):=by
 have g0:0 < gst (A,B):=cf h
 have e1:=fH (A,B)
 have e2:=fF (A,B)
 have eg:=qG L A B
 obtain ⟨a,b,c,e,_,hf⟩:=L.ex
 have u1:ub (f A,f B)=a * ub (A,B)+b * vb (A,B):=by
  unfold ub
  rw [eg]
  dsimp only at *
  rw [hf,hf]
  dsimp only
  rw [show a * B.1+b * B.2 - (a * A.1+b * A.2)=gst (A,B) * (a * ub (A,B)+b * vb (A,B)) by
   have:a * B.1+b * B.2 - (a * A.1+b * A.2)=a * (B.1 - A.1)+b * (B.2 - A.2):=by grind
   rw [this,e1,e2]; grind]
  rw [Ee _ (by omega)]
  rfl
 have v1:vb (f A,f B)=c * ub (A,B)+e * vb (A,B):=by
  unfold vb
  rw [eg]
  dsimp only at *
  rw [hf,hf]
  dsimp only
  rw [show c * B.1+e * B.2 - (c * A.1+e * A.2)=gst (A,B) * (c * ub (A,B)+e * vb (A,B)) by
   have:c * B.1+e * B.2 - (c * A.1+e * A.2)=c * (B.1 - A.1)+e * (B.2 - A.2):=by grind
   rw [this,e1,e2]; grind]
  rw [Ee _ (by omega)]
  rfl
 unfold onS
 rw [u1,v1]
 dsimp only
 rw [hf,hf]
 dsimp only
 exact Em (by dsimp only; grind) (by dsimp only; grind)
theorem yx {A B:P2} (h:A≠B) (k:Int):onS (B,A) k=onS (A,B) (gst (A,B) - k):=by
 have e1:=fH (A,B)
 have e2:=fF (A,B)
 have e3:=fH (B,A)
 have e4:=fF (B,A)
 have g0:0 < gst (A,B):=cf h
 rw [d8] at e3 e4
 dsimp only at *
 have u:ub (B,A)=-ub (A,B):=Dd (a:=gst (A,B)) (by omega) (by rw [Jx]; omega)
 have v:vb (B,A)=-vb (A,B):=Dd (a:=gst (A,B)) (by omega) (by rw [Jx]; omega)
 unfold onS
 rw [u,v]
 dsimp only
 exact Em (by dsimp only; grind) (by dsimp only; grind)
def nJ (A B p:P2):Prop:=∃ k:Int,0≤k∧k≤gst (A,B)∧p=onS (A,B) k
theorem uc {A B:P2} (h:A≠B) (p:P2):nJ B A p↔nJ A B p:=by
 have key:∀ {A B:P2},A≠B→nJ B A p→nJ A B p:=fun {A B} h ⟨k,k0,k1,e⟩=> by
  rw [d8] at k1
  exact ⟨gst (A,B) - k,by omega,by omega,by rw [e,yx h]⟩
 exact ⟨key h,key h.symm⟩
theorem xf {f:P2→P2} {d:Int} (L:Lin f d) {A B:P2} (h:A≠B) (p:P2):nJ (f A) (f B) (f p)↔nJ A B p:=by
 unfold nJ
 rw [qG L]
 constructor
 ·rintro ⟨k,k0,k1,e⟩
  exact ⟨k,k0,k1,L.inj (by rw [e,wa L h])⟩
 ·rintro ⟨k,k0,k1,e⟩
  exact ⟨k,k0,k1,by rw [e,wa L h]⟩
theorem mX {A B:P2} (h:ST.ltP A B=true) (p:P2):bM [A,B] p=true↔nJ A B p:=by rw [iL,jl h]; rfl
theorem pP {A B:P2} (h:A≠B):(ST.ltP A B=true∧aj [A,B]=[A,B])∨(ST.ltP B A=true∧aj [A,B]=[B,A]):=by
 by_cases hl:ST.ltP A B=true
 ·exact .inl ⟨hl,ll hl⟩
 ·have hb:=ST.ltP_tot h (by simpa using hl)
  refine .inr ⟨hb,?_⟩
  rw [p7 (tz (m:=[B,A]) fun z=> by simp [or_comm]),ll hb]
theorem Ap {f:P2→P2} {d:Int} (L:Lin f d) {l:List P2} (F:Fld l) (p:P2):bM (aj (l.map f)) (f p)=bM l p:=by
 rw [Et]
 rcases F.cases with ⟨A,rfl⟩ | ⟨A,B,rfl,lt⟩ | h3
 ·have e:aj ([A].map f)=[f A]:=rfl
  rw [e,iB,iB]
  exact ⟨fun h=> L.inj h,fun h=> by rw [h]⟩
 ·have ne:A≠B:=fun e=> by rw [e,ST.asc_irr] at lt; cases lt
  have ne':f A≠f B:=fun e=> ne (L.inj e)
  rw [mX lt,← xf L ne]
  show bM (aj [f A,f B]) (f p)=true↔_
  rcases pP ne' with ⟨h,e⟩ | ⟨h,e⟩
  ·rw [e,mX h]
  ·rw [e,mX h,uc ne']
 ·have l3:=iz L h3
  have h3':3≤l.length:=by rw [← F.cr]; exact h3
  rw [fk l3,fk h3']
  constructor
  ·intro h s hs
   have:=h _ ((v9 L h3 _).mpr ⟨s,by rw [F.cr]; exact hs,rfl⟩)
   unfold sdf at this
   rcases L.one with e | e
   ·rw [if_pos e] at this
    dsimp only at this
    rw [L.det,e,Gp] at this
    exact this
   ·rw [if_neg (by omega)] at this
    dsimp only at this
    rw [L.det,e] at this
    have sw:af s.2 s.1 p=-af s.1 s.2 p:=by unfold af; grind
    omega
  ·intro h t ht
   obtain ⟨s,hs,rfl⟩:=(v9 L h3 t).mp ht
   have k:=h s (by rw [F.cr] at hs; exact hs)
   unfold sdf
   rcases L.one with e | e
   ·rw [if_pos e]
    dsimp only
    rw [L.det,e,Gp]; exact k
   ·rw [if_neg (by omega)]
    dsimp only
    rw [L.det,e]
    have sw:af s.2 s.1 p=-af s.1 s.2 p:=by unfold af; grind
    omega
theorem v6 {a b c d:Int} (h:a * d - b * c=1∨a * d - b * c=-1):Lin (fun p:P2=> (a * p.1+b * p.2,c * p.1+d * p.2)) (a * d - b * c):=⟨h,a,b,c,d,rfl,fun _=> rfl⟩
theorem wy (a b c d e f:Int) (l:List P2):l.map (ap a b c d e f)=(l.map fun p:P2=> (a * p.1+b * p.2,c * p.1+d * p.2)).map (shf 0 e f):=by
 rw [Dz]
 refine EI fun p _=> ?_
 unfold ap shf
 exact Em rfl (by dsimp only [Function.comp]; omega)
theorem zu {a b c d:Int} (e f:Int) (h:a * d - b * c=1∨a * d - b * c=-1) {l:List P2} (F:Fld l) (p:P2):bM (aj (l.map (ap a b c d e f))) (ap a b c d e f p)=bM l p:=by
 rw [wy,vS]
 have hp:ap a b c d e f p=shf 0 e f (a * p.1+b * p.2,c * p.1+d * p.2):=by
  unfold ap shf
  exact Em rfl (by dsimp only; omega)
 rw [hp,AJ _ _ _ _ (ik (by simpa using F.ne))]
 exact Ap (v6 h) F p
theorem lN {a b c d:Int} (e f:Int) {l:List P2} (F:Fld l):Fld (aj (l.map (ap a b c d e f))):=⟨ik (by simpa using F.ne),lA _⟩
theorem Ah {a b c d e f:Int} (h:a * d - b * c=1∨a * d - b * c=-1) {p q:P2} (k:ap a b c d e f p=ap a b c d e f q):p=q:=by
 refine (v6 h).inj ?_
 have e1:a * p.1+b * p.2+e=a * q.1+b * q.2+e:=congrArg Gg k
 have e2:c * p.1+d * p.2+f=c * q.1+d * q.2+f:=congrArg FP k
 exact Em (by dsimp only; omega) (by dsimp only; omega)
theorem zF {a b c d e f:Int} (h:a * d - b * c=1∨a * d - b * c=-1) (q:P2):∃ p,ap a b c d e f p=q:=by
 rcases h with h | h
 ·refine ⟨(d * (q.1 - e) - b * (q.2 - f),a * (q.2 - f) - c * (q.1 - e)),?_⟩
  unfold ap
  refine Em ?_ ?_
  ·dsimp only
   have:a * (d * (q.1 - e) - b * (q.2 - f))+b * (a * (q.2 - f) - c * (q.1 - e))=(a * d - b * c) * (q.1 - e):=by grind
   rw [this,h]; omega
  ·dsimp only
   have:c * (d * (q.1 - e) - b * (q.2 - f))+d * (a * (q.2 - f) - c * (q.1 - e))=(a * d - b * c) * (q.2 - f):=by grind
   rw [this,h]; omega
 ·refine ⟨(-(d * (q.1 - e) - b * (q.2 - f)),-(a * (q.2 - f) - c * (q.1 - e))),?_⟩
  unfold ap
  refine Em ?_ ?_
  ·dsimp only
   have:a * -(d * (q.1 - e) - b * (q.2 - f))+b * -(a * (q.2 - f) - c * (q.1 - e))=-((a * d - b * c) * (q.1 - e)):=by grind
   rw [this,h]; omega
  ·dsimp only
   have:c * -(d * (q.1 - e) - b * (q.2 - f))+d * -(a * (q.2 - f) - c * (q.1 - e))=-((a * d - b * c) * (q.2 - f)):=by grind
   rw [this,h]; omega
def cD (l:List P2) (f:P2→Bool):Int:=(((box l).filter fun p=> bM l p && f p).length:Nat)
theorem gZ (l:List P2):(box l).Nodup:=g8 _ _ _ _
theorem eZ {l:List P2} (F:Fld l) {f:P2→Bool} {p:P2}:p∈(box l).filter (fun p=> bM l p && f p)↔bM l p=true∧f p=true:=by
 rw [CY,Dx]
 exact ⟨fun h=> h.2,fun h=> ⟨F.in_box h.1,h⟩⟩
theorem fq {l:List P2} (F:Fld l) {f g:P2→Bool} (h:∀ p,bM l p=true→f p=g p):cD l f=cD l g:=by
 unfold cD
 congr 1
 refine dl (cw (gZ l) _) (cw (gZ l) _) fun p=> ?_
 rw [eZ F,eZ F]
 exact ⟨fun k=> ⟨k.1,by rw [← h p k.1]; exact k.2⟩,fun k=> ⟨k.1,by rw [h p k.1]; exact k.2⟩⟩
theorem nF {a b c d:Int} (e f:Int) (h:a * d - b * c=1∨a * d - b * c=-1) {l:List P2} (F:Fld l) {u v:P2→Bool} (huv:∀ p,v (ap a b c d e f p)=u p):cD (aj (l.map (ap a b c d e f))) v=cD l u:=by
 have F':=lN (a:=a) (b:=b) (c:=c) (d:=d) e f F
 unfold cD
 have key:((box (aj (l.map (ap a b c d e f)))).filter fun p=> bM (aj (l.map (ap a b c d e f))) p && v p).length=(((box l).filter fun p=> bM l p && u p).map (ap a b c d e f)).length:=by
  refine dl (cw (gZ _) _) (DW _ (fun i j (k:i≠j) q=> k (Ah h q)) (cw (gZ l) _)) fun q=> ?_
  rw [eZ F',Cr]
  constructor
  ·rintro ⟨k1,k2⟩
   obtain ⟨p,rfl⟩:=zF (e:=e) (f:=f) h q
   rw [zu e f h F] at k1
   rw [huv] at k2
   exact ⟨p,(eZ F).mpr ⟨k1,k2⟩,rfl⟩
  ·rintro ⟨p,hp,rfl⟩
   obtain ⟨k1,k2⟩:=(eZ F).mp hp
   rw [zu e f h F,huv]
   exact ⟨k1,k2⟩
 rw [key,Co]
theorem nq {l:List P2} (F:Fld l) (left right:Int):lh l left right=cD l fun p=> decide (left≤p.1∧p.1≤right):=by
 rw [F.cols]
 have e:((bF left (right+1 - left).toNat).map (ix l)).sum=(((bF left (right+1 - left).toNat).map fun x=> (oh l x).map fun y=> ((x,y):P2)).flatten.length:Int):=by
  generalize bF left (right+1 - left).toNat=X
  induction X with
  | nil=> rfl
  | cons x X ih=>
   rw [CZ,Eh,ih,CZ,HQ,Dv,Co]
   show ((oh l x).length:Int)+_=_
   omega
 rw [e]
 unfold cD
 congr 1
 refine dl ?_ (cw (gZ l) _) fun p=> ?_
 ·refine Fj.mpr ⟨fun q hq=> ?_,?_⟩
  ·obtain ⟨x,_,rfl⟩:=Cr.mp hq
   exact DW _ (fun i j (h:i≠j) e=> h (congrArg FP e)) (uP l x)
  ·refine Dw.mpr ((gq left _).imp fun {a b} h p hp q hq e=> ?_)
   obtain ⟨_,_,rfl⟩:=Cr.mp hp
   obtain ⟨_,_,rfl⟩:=Cr.mp hq
   exact h (congrArg Gg e)
 ·rw [eZ F,E5,decide_eq_true_eq]
  constructor
  ·rintro ⟨q,hq,hp⟩
   obtain ⟨x,hx,rfl⟩:=Cr.mp hq
   obtain ⟨y,hy,rfl⟩:=Cr.mp hp
   have:=bH.mp hx
   exact ⟨(lg F).mp hy,by dsimp only; omega⟩
  ·rintro ⟨h1,h2⟩
   exact ⟨_,Cr.mpr ⟨p.1,bH.mpr (by omega),rfl⟩,Cr.mpr ⟨p.2,(lg F).mpr h1,rfl⟩⟩
theorem qQ {l:List P2} (F:Fld l):ox l=cD l fun _=> true:=by
 unfold cD
 rcases F.cases with ⟨A,rfl⟩ | ⟨A,B,rfl,lt⟩ | h3
 ·rw [ri,C_ (by rw [(iB A A).mpr rfl]; rfl)]
  unfold ox pin iM
  rw [if_pos (by simp),if_pos (by simp)]
  show 0+(gst (A,A)+1)=_
  unfold gst
  simp
 ·have w:=(Bu lt).1
  unfold jb at w
  have e:((box [A,B]).filter fun p=> decide (plc [A,B] p=0)).length=((box [A,B]).filter fun p=> bM [A,B] p && true).length:=by
   refine dl (cw (gZ _) _) (cw (gZ _) _) fun p=> ?_
   rw [CY,decide_eq_true_eq,lY.1,jw lt,CY,Gc,mX lt]
   exact ⟨fun h=> ⟨((jw lt).mpr h).1,h⟩,fun h=> h.2⟩
  rw [← e,w]
  unfold ox pin iM
  rw [if_pos (by simp),if_pos (by simp)]
  show 0+(gst (A,B)+1)=_
  omega
 ·have w:=(Bb h3).1
  rw [lf] at w
  rw [F.cr] at w
  unfold ox
  rw [← w]
  congr 2
  refine HS fun p _=> ?_
  rw [Gc,Et,decide_eq_true_eq,fk (by rw [← F.cr]; exact h3)]
def ph (l:List P2) (a b c g s t:Int):Int:=if a=0∧b=0 then (if 0≤c then ox (aj (l.map (scl 1))) else 0) else lh (aj (l.map (ap (a / g) (b / g) (-t) s 0 0))) (gp (aj (l.map (ap (a / g) (b / g) (-t) s 0 0))) 0).1 (c / g)
theorem xX {l:List P2} (hne:l≠[]):∀ p∈aj l,(gp (aj l) 0).1≤p.1:=fun p hp=> by
 obtain ⟨mn,mx,e0,_,_,hl,_⟩:=sU hne
 have e:gp (aj l) 0=mn:=by simp [gp,e0]
 rw [e]
 have:=hl p (aH _ p hp)
 unfold ST.ltP at this
 have:=of_decide_eq_false this
 omega
theorem wg {l:List P2} (F:Fld l) {a b c g s t:Int} (G:iH a b g s t):ph l a b c g s t=cD l fun p=> decide (a * p.1+b * p.2≤c):=by
 unfold ph
 by_cases h0:a=0∧b=0
 ·rw [if_pos h0,h0.1,h0.2]
  have e1:l.map (scl 1)=l:=by
   rw [show scl 1=id from funext fun p=> xE p,Jw]
  rw [e1,F.cr]
  by_cases hc:0≤c
  ·rw [if_pos hc,qQ F]
   exact fq F fun p _=> (decide_eq_true (by simpa using hc)).symm
  ·rw [if_neg hc]
   unfold cD
   have:(box l).filter (fun p=> bM l p && decide (0 * p.1+0 * p.2≤c))=[]:=Fc.mpr fun p _ k=> by
    rw [Dx,decide_eq_true_eq] at k
    omega
   rw [this]; rfl
 ·rw [if_neg h0]
  have g0:0 < g:=by
   rcases De G.g0 with z | z
   ·exact z
   ·exfalso
    have a0:a=0:=FV.mp (by rw [z]; exact G.da)
    have b0:b=0:=FV.mp (by rw [z]; exact G.db)
    exact h0 ⟨a0,b0⟩
  have ea:g * (a / g)=a:=DI G.da
  have eb:g * (b / g)=b:=DI G.db
  have hd:a / g * s - b / g * -t=1:=by
   have h:=G.eq
   rw [← ea,← eb] at h
   have:g * (a / g * s - b / g * -t)=g * 1:=by rw [FH]; grind
   exact Dd (by omega) this
  have F':=lN (a:=a / g) (b:=b / g) (c:=-t) (d:=s) 0 0 F
  rw [nq F']
  have hf:=xX (l:=l.map (ap (a / g) (b / g) (-t) s 0 0)) (by simpa using F.ne)
  rw [fq F' (g:=fun p=> decide (p.1≤c / g)) fun p hp=> by
   have hb:=(ci F'.ne).mp (F'.in_box hp)
   have hx:(aj (l.map (ap (a / g) (b / g) (-t) s 0 0))).map (·.1)≠[]:=by simpa using F'.ne
   obtain ⟨q,hq,e⟩:=Cr.mp (bJ hx).1
   have:=hf q hq
   unfold loX at hb
   exact decide_eq_decide.mpr ⟨fun k=> k.2,fun k=> ⟨by omega,k⟩⟩]
  refine nF 0 0 (.inl hd) F fun p=> decide_eq_decide.mpr ?_
  unfold ap
  dsimp only
  rw [El,En g0]
  have:(a / g * p.1+b / g * p.2) * g=a * p.1+b * p.2:=by
   rw [← ea,← eb]
   rw [Ee _ (by omega),Ee _ (by omega)]
   grind
  rw [this]
def t6 (s:P2×P2) (c:Int):Int:=s.1.2 * (s.2.1 - s.1.1)+(s.2.2 - s.1.2) * (c - s.1.1)
theorem qv (s:P2×P2) (c:Int):t6 s c=aM s c:=by unfold t6 aM; rw [Ed (s.2.2 - s.1.2)]
def sS (c:Int) (s:P2×P2):Int:=-((-(t6 s c)) / (s.2.1 - s.1.1))
def sY (c:Int) (s:P2×P2):Int:=(t6 s c).fdiv (s.2.1 - s.1.1)
def dS (ss:List (P2×P2)) (c:Int):List Int:=(ss.filter fun s=> decide (s.1.1 < s.2.1)).map (sS c)
def cF (ss:List (P2×P2)) (c:Int):List Int:=(ss.filter fun s=> decide (s.2.1 < s.1.1)).map (sY c)
theorem mU {s:P2×P2} (h:s.2.1 < s.1.1) (c:Int):sY c s=(-(aM s c)) / (s.1.1 - s.2.1):=by
 unfold sY
 rw [qv,← Ie,show -(s.2.1 - s.1.1)=s.1.1 - s.2.1 by omega,EJ _ (by omega)]
theorem mS (s:P2×P2) (c:Int):sS c s=-((-(aM s c)) / (s.2.1 - s.1.1)):=by unfold sS; rw [qv]
theorem uu {lo:Int} {m:Nat} {f:Int→Bool} {b t:Int} (h:∀ y,f y=true↔b≤y∧y≤t) (hb:b≤t→lo≤b∧t < lo+m):(((bF lo m).filter f).length:Int)=max 0 (t - b+1):=by
 by_cases hbt:b≤t+1
 ·rw [ji h hb hbt]; omega
 ·have:(bF lo m).filter f=[]:=Fc.mpr fun y _ k=> by
   have:=(h y).mp k
   omega
  rw [this]
  show (0:Int)=_
  omega
def wd (l:List P2) (c:Int):Int:=if c < loX l∨hiX l < c then 0 else if cF (sdl l) c=[] then hiY l - loY l+1 else max 0 (gE (cF (sdl l) c) - hiL (dS (sdl l) c)+1)
theorem uB {l:List P2} {c:Int} (h:cF (sdl l) c=[]):∀ p∈l,∀ q∈l,p.1=q.1:=by
 have key:∀ p∈l,∀ q∈l,¬ p.1 < q.1:=fun p hp q hq hlt=> by
  match l,hp with
  | a::r,hp=>
   obtain ⟨s,hs,s1,s2⟩:=il (f:=fun z=> decide (p.1 < z.1)) r a ⟨q,hq,by simpa using hlt⟩ ⟨p,hp,by simp⟩
   have m:sY c s∈cF (sdl (a::r)) c:=CO (CY.mpr ⟨hs,by simp at s1 s2 ⊢; omega⟩)
   rw [h] at m
   simp at m
 intro p hp q hq
 have:=key p hp q hq
 have:=key q hq p hp
 omega
theorem qB {l:List P2} {c:Int} (h:cF (sdl l) c≠[]):dS (sdl l) c≠[]:=by
 obtain ⟨x,hx⟩:=GI _ h
 obtain ⟨s,hs,_⟩:=Cr.mp hx
 obtain ⟨m,k⟩:=CY.mp hs
 have k:=of_decide_eq_true k
 obtain ⟨m1,m2⟩:=aV m
 match l,m1,m2 with
 | a::r,m1,m2=>
  obtain ⟨t,ht,t1,t2⟩:=il (f:=fun z=> decide (z.1≤s.2.1)) r a ⟨s.2,m2,by simp⟩ ⟨s.1,m1,by simpa using k⟩
  intro e
  have m:sS c t∈dS (sdl (a::r)) c:=CO (CY.mpr ⟨ht,by simp at t1 t2 ⊢; omega⟩)
  rw [e] at m
  simp at m
theorem wR {l:List P2} (h3:3≤(aj l).length) {c:Int} (h1:loX (aj l)≤c) (h2:c≤hiX (aj l)) (y:Int):bM (aj l) (c,y)=true↔(∀ b∈dS (sdl (aj l)) c,b≤y)∧∀ t∈cF (sdl (aj l)) c,y≤t:=by
 rw [fk h3]
 constructor
 ·intro h
  constructor
  ·intro b hb
   obtain ⟨s,hs,rfl⟩:=Cr.mp hb
   obtain ⟨m,k⟩:=CY.mp hs
   rw [mS]
   exact (jk (of_decide_eq_true k)).mp (h s m)
  ·intro t ht
   obtain ⟨s,hs,rfl⟩:=Cr.mp ht
   obtain ⟨m,k⟩:=CY.mp hs
   rw [mU (of_decide_eq_true k)]
   exact (ju (of_decide_eq_true k)).mp (h s m)
 ·rintro ⟨hlo,hhi⟩ s hs
  rcases HR s.1.1 s.2.1 with k | k | k
  ·refine (jk k).mpr ?_
   rw [← mS]
   exact hlo _ (CO (CY.mpr ⟨hs,decide_eq_true k⟩))
  ·have cv:∀ q∈aj l,0≤(s.1.1 - q.1) * (s.2.2 - s.1.2):=fun q hq=> by
    have:=bq h3 hs q (aH _ q hq)
    have e:af s.1 s.2 q=(s.1.1 - q.1) * (s.2.2 - s.1.2):=by unfold af; rw [k]; grind
    rw [← e]; exact this
   have e:af s.1 s.2 (c,y)=(s.1.1 - c) * (s.2.2 - s.1.2):=by unfold af; rw [k]; grind
   rw [e]
   have hne:aj l≠[]:=fun e=> by rw [e] at h3; simp at h3
   have hx:(aj l).map (·.1)≠[]:=by simpa using hne
   obtain ⟨q1,m1,e1⟩:=Cr.mp (bJ hx).1
   obtain ⟨q2,m2,e2⟩:=Cr.mp (bV hx).1
   have c1:=cv q1 m1
   have c2:=cv q2 m2
   have f1:q1.1=loX (aj l):=e1
   have f2:q2.1=hiX (aj l):=e2
   rcases DL 0 (s.2.2 - s.1.2) with r | r
   ·rw [Ed] at c2
    have:=ax r c2
    exact Cs (by omega) (by omega)
   ·rcases De r with z | z
    ·have n:(s.1.1 - q1.1) * (s.2.2 - s.1.2)=-(s.2.2 - s.1.2) * (q1.1 - s.1.1):=by grind
     rw [n] at c1
     have:=ax (show 0 < -(s.2.2 - s.1.2) by omega) c1
     have n2:(s.1.1 - c) * (s.2.2 - s.1.2)=(c - s.1.1) * -(s.2.2 - s.1.2):=by grind
     rw [n2]
     exact Cs (by omega) (by omega)
    ·rw [z,DD]; exact Eg _
  ·refine (ju k).mpr ?_
   rw [← mU k]
   exact hhi _ (CO (CY.mpr ⟨hs,decide_eq_true k⟩))
theorem v7 {A B:P2} (lt:ST.ltP A B=true) (hx:A.1 < B.1) {c:Int} (h1:A.1≤c) (h2:c≤B.1) (y:Int):bM [A,B] (c,y)=true↔(∀ b∈dS (sdl [A,B]) c,b≤y)∧∀ t∈cF (sdl [A,B]) c,y≤t:=by
 have el:dS (sdl [A,B]) c=[sS c (A,B)]:=by
  unfold dS
  rw [fC,C_ (by simpa using hx),C9 (by simp; omega)]; rfl
 have eh:cF (sdl [A,B]) c=[sY c (B,A)]:=by
  unfold cF
  rw [fC,C9 (by simp; omega),C_ (by simpa using hx)]; rfl
 rw [el,eh]
 simp only [CT,forall_eq]
 rw [mS,mU (show (B,A).2.1 < (B,A).1.1 from hx)]
 have i1:=jk (s:=(A,B)) (x:=c) (y:=y) hx
 have i2:=ju (s:=(B,A)) (x:=c) (y:=y) hx
 rw [← i1,← i2,iL]
 dsimp only
 have sw:af B A (c,y)=-af A B (c,y):=by unfold af; grind
 unfold ST.leP
 rw [decide_eq_true_eq,decide_eq_true_eq]
 dsimp only
 constructor
 ·rintro ⟨d,_,_⟩; omega
 ·rintro ⟨d1,d2⟩
  have d:af A B (c,y)=0:=by omega
  refine ⟨d,?_,?_⟩
  ·rcases De h1 with z | z
   ·exact .inl z
   ·refine .inr ⟨z,?_⟩
    have e:af A B (c,y)=(B.1 - A.1) * (y - A.2):=by unfold af; rw [← z]; grind
    rw [e] at d
    have:=(Da.mp d).resolve_left (by omega)
    omega
  ·rcases De h2 with z | z
   ·exact .inl z
   ·refine .inr ⟨z,?_⟩
    have e:af A B (c,y)=(B.1 - A.1) * (y - B.2):=by unfold af; rw [z]; grind
    rw [e] at d
    have:=(Da.mp d).resolve_left (by omega)
    omega
theorem Ae {l:List P2} (F:Fld l) (c:Int):wd l c=ix l c:=by
 unfold wd
 by_cases h:c < loX l∨hiX l < c
 ·rw [if_pos h,F.colc_out h]
 ·rw [if_neg h]
  have hx:l.map (·.1)≠[]:=by simpa using F.ne
  have hy:l.map (·.2)≠[]:=by simpa using F.ne
  by_cases he:cF (sdl l) c=[]
  ·rw [if_pos he]
   have as:=uB he
   obtain ⟨p,hp,ep⟩:=Cr.mp (bJ hx).1
   obtain ⟨q,hq,eq⟩:=Cr.mp (bV hx).1
   have hc:c=hiX l:=by
    have:=as p hp q hq
    unfold loX hiX at h
    unfold hiX
    omega
   rw [hc,F.colc_last]
   have hh:hts l=l.map (·.2):=by
    unfold hts
    congr 1
    refine List.filter_eq_self.mpr fun z hz=> decide_eq_true ?_
    have:=as z hz q hq
    unfold hiX
    omega
   rw [hh]; rfl
  ·rw [if_neg he]
   have ln:=qB he
   obtain ⟨b1,b2⟩:=bV ln
   obtain ⟨t1,t2⟩:=bJ he
   have iff:∀ y,bM l (c,y)=true↔hiL (dS (sdl l) c)≤y∧y≤gE (cF (sdl l) c):=fun y=> by
    have base:bM l (c,y)=true↔(∀ b∈dS (sdl l) c,b≤y)∧∀ t∈cF (sdl l) c,y≤t:=by
     rcases F.cases with ⟨A,rfl⟩ | ⟨A,B,rfl,lt⟩ | h3
     ·exfalso
      refine he ?_
      unfold cF
      rw [yG,C9 (by simp)]; rfl
     ·have bx:=mE lt
      have hAB:A.1 < B.1:=by
       rcases AT lt with z | z
       ·exact z
       ·exfalso
        refine he ?_
        unfold cF
        rw [fC,C9 (by simp; omega),C9 (by simp; omega)]; rfl
      exact v7 lt hAB (by omega) (by omega) y
     ·have:=wR h3 (c:=c)
      rw [F.cr] at this
      exact this (by omega) (by omega) y
    rw [base]
    constructor
    ·rintro ⟨k1,k2⟩; exact ⟨k1 _ b1,k2 _ t1⟩
    ·rintro ⟨k1,k2⟩
     exact ⟨fun b hb=> HW (b2 b hb) k1,fun t ht=> HW k2 (t2 t ht)⟩
   unfold ix
   refine (uu iff fun hbt=> ?_).symm
   have k1:=(ci F.ne).mp (F.in_box ((iff _).mpr ⟨Eg _,hbt⟩))
   have k2:=(ci F.ne).mp (F.in_box ((iff _).mpr ⟨hbt,Eg _⟩))
   unfold byN
   dsimp only at k1 k2
   omega
theorem vt {l:List P2} (F:Fld l) (c:Int):lh l c c=ix l c:=by
 rw [F.cols,show (c+1 - c).toNat=1 by omega]
 have e:bF c 1=[c]:=by unfold bF; simp
 rw [e]; simp
def pK (l:List P2):Int:=if l.length=1 then 1 else (area l+fZ l) / 2+1
theorem zV {l:List P2} (F:Fld l):pK l=ox l:=by
 unfold pK ox
 rcases F.cases with ⟨A,rfl⟩ | ⟨A,B,rfl,lt⟩ | h3
 ·rw [if_pos (by simp)]
  unfold pin iM
  rw [if_pos (by simp),if_pos (by simp)]
  show (1:Int)=0+(gst (A,A)+1)
  unfold gst
  simp
 ·rw [if_neg (by simp)]
  unfold pin iM
  rw [if_pos (by simp),if_pos (by simp)]
  unfold area fZ
  rw [fC]
  show (crs (A,B)+(crs (B,A)+0)+(gst (A,B)+(gst (B,A)+0))) / 2+1=0+(gst (A,B)+1)
  have:=vZ A B
  have:gst (B,A)=gst (A,B):=d8 A B
  omega
 ·have p:=xV h3
  rw [F.cr] at p
  have l3:3≤l.length:=by rw [← F.cr]; exact h3
  rw [if_neg (by omega)]
  unfold iM
  rw [if_neg (by omega)]
  omega
theorem oU {k f g h:P2→Bool} (e:∀ p,(f p=true∧(g p=true∧h p=false∨g p=false∧h p=true))∨(f p=false∧g p=false∧h p=false)):∀ W:List P2,((W.filter fun p=> k p && f p).length:Int)=((W.filter fun p=> k p && g p).length:Int)+((W.filter fun p=> k p && h p).length:Int)
 | []=> rfl
 | p::W=> by
  have ih:=oU (k:=k) e W
  simp only [G1]
  rcases e p with ⟨a,⟨b,c⟩ | ⟨b,c⟩⟩ | ⟨a,b,c⟩ <;> rw [a,b,c] <;> cases k p <;> simp <;> omega
theorem nW {l:List P2} {f g h:P2→Bool} (e:∀ p,(f p=true∧(g p=true∧h p=false∨g p=false∧h p=true))∨(f p=false∧g p=false∧h p=false)):cD l f=cD l g+cD l h:=oU e _
theorem rR {l:List P2} (F:Fld l) {f:P2→Bool} (e:∀ p,bM l p=true→f p=false):cD l f=0:=by
 rw [fq F e]
 unfold cD
 simp
theorem nA (l:List P2) (f:P2→Bool):0≤cD l f:=by unfold cD; omega
theorem nI (l:List P2) (a b c:Int):cD l (fun p=> decide (a * p.1+b * p.2≤c))+cD l (fun p=> decide (-a * p.1+-b * p.2≤-c - 1))=cD l fun _=> true:=by
 refine (nW fun p=> .inl ⟨rfl,?_⟩).symm
 have e:-a * p.1+-b * p.2=-(a * p.1+b * p.2):=by grind
 rw [e]
 generalize a * p.1+b * p.2=w
 by_cases h:w≤c
 ·exact .inl ⟨decide_eq_true h,decide_eq_false (by omega)⟩
 ·exact .inr ⟨decide_eq_false h,decide_eq_true (by omega)⟩
theorem yr (l:List P2) (a b c:Int):cD l (fun p=> decide (a * p.1+b * p.2≤c)) - cD l (fun p=> decide (a * p.1+b * p.2≤c - 1))=cD l fun p=> decide (a * p.1+b * p.2=c):=by
 have:=nW (l:=l) (f:=fun p=> decide (a * p.1+b * p.2≤c)) (g:=fun p=> decide (a * p.1+b * p.2≤c - 1)) (h:=fun p=> decide (a * p.1+b * p.2=c)) fun p=> by
  generalize a * p.1+b * p.2=w
  by_cases h1:w≤c
  ·by_cases h2:w=c
   ·exact .inl ⟨decide_eq_true h1,.inr ⟨decide_eq_false (by omega),decide_eq_true h2⟩⟩
   ·exact .inl ⟨decide_eq_true h1,.inl ⟨decide_eq_true (by omega),decide_eq_false h2⟩⟩
  ·exact .inr ⟨decide_eq_false h1,decide_eq_false (by omega),decide_eq_false (by omega)⟩
 omega
theorem qc (l:List P2) (a b c:Int) {m r:Int} (h0:0≤r) (h1:r < m):(fun p:P2=> decide (m * a * p.1+m * b * p.2≤m * c+r))=fun p=> decide (a * p.1+b * p.2≤c):=by
 funext p
 have e:m * a * p.1+m * b * p.2=m * (a * p.1+b * p.2):=by grind
 rw [e]
 generalize a * p.1+b * p.2=w
 refine decide_eq_decide.mpr ⟨fun h=> ?_,fun h=> ?_⟩
 ·rcases DL c w with z | z
  ·have:m * (c+1)≤m * w:=D9 (by omega) (by omega)
   have e2:m * (c+1)=m * c+m:=by grind
   omega
  ·exact z
 ·have:=D9 h (show 0≤m by omega)
  omega
theorem uK {l:List P2} (F:Fld l) {p:P2} (h:bM l p=true) (a b:Int):∃ q∈l,wth a b p≤wth a b q:=by
 rcases F.cases with ⟨A,rfl⟩ | ⟨A,B,rfl,lt⟩ | h3
 ·rw [(iB A p).mp h]; exact ⟨A,by simp,Eg _⟩
 ·obtain ⟨k,k0,k1,rfl⟩:=(jl lt).mp ((iL A B p).mp h)
  have e1:wth a b (onS (A,B) k)=wth a b A+k * (a * ub (A,B)+b * vb (A,B)):=by unfold wth onS; grind
  have e2:wth a b B=wth a b A+gst (A,B) * (a * ub (A,B)+b * vb (A,B)):=by
   have q1:=fH (A,B)
   have q2:=fF (A,B)
   dsimp only at q1 q2
   have:gst (A,B) * (a * ub (A,B)+b * vb (A,B))=a * (gst (A,B) * ub (A,B))+b * (gst (A,B) * vb (A,B)):=by grind
   rw [this,← q1,← q2]; unfold wth; grind
  rcases DL (a * ub (A,B)+b * vb (A,B)) 0 with z | z
  ·refine ⟨A,by simp,?_⟩
   rw [e1]
   have:=Cs k0 (show 0≤-(a * ub (A,B)+b * vb (A,B)) by omega)
   have e3:k * -(a * ub (A,B)+b * vb (A,B))=-(k * (a * ub (A,B)+b * vb (A,B))):=by grind
   omega
  ·refine ⟨B,by simp,?_⟩
   rw [e1,e2]
   have:=Ex k1 z
   omega
 ·have hc:=F.cr
  have w:=AH h3 a b (q:=p) (by rw [hc]; exact (fk (by rw [← hc]; exact h3) p).mp h)
  rw [hc] at w
  obtain ⟨⟨q,hq,e⟩,_⟩:=kl a b F.ne
  exact ⟨q,hq,by omega⟩
theorem AF {l:List P2} (F:Fld l) {a b c h s t:Int} (h0:0 < h) (ha:h ∣ a) (hb:h ∣ b) (e:s * a+t * b=h) (hc:c % h=0):
  wd (aj (l.map (ap (a / h) (b / h) (-t) s 0 0))) (c / h)=cD l fun p=> decide (a * p.1+b * p.2=c):=by
 have ea:h * (a / h)=a:=DI ha
 have eb:h * (b / h)=b:=DI hb
 have ec:h * (c / h)=c:=DI (E2 hc)
 have hd:a / h * s - b / h * -t=1:=by
  rw [← ea,← eb] at e
  have:h * (a / h * s - b / h * -t)=h * 1:=by rw [FH]; grind
  exact Dd (by omega) this
 have F':=lN (a:=a / h) (b:=b / h) (c:=-t) (d:=s) 0 0 F
 rw [Ae F',← vt F',nq F']
 refine nF 0 0 (.inl hd) F fun p=> decide_eq_decide.mpr ?_
 unfold ap
 dsimp only
 have e2:h * (a / h * p.1+b / h * p.2+0)=a * p.1+b * p.2:=by
  have:h * (a / h * p.1+b / h * p.2+0)=h * (a / h) * p.1+h * (b / h) * p.2:=by grind
  rw [this,ea,eb]
 constructor
 ·intro z
  rw [← e2,show a / h * p.1+b / h * p.2+0=c / h by omega,ec]
 ·intro z
  have:h * (a / h * p.1+b / h * p.2+0)=h * (c / h):=by rw [e2,ec,z]
  have:=Dd (by omega) this
  omega
theorem Ar {l:List P2} (F:Fld l) {a b c h:Int} (ha:h ∣ a) (hb:h ∣ b) (hc:c % h≠0):cD l (fun p=> decide (a * p.1+b * p.2=c))=0:=by
 refine rR F fun p _=> decide_eq_false fun e=> hc (Int.emod_eq_zero_of_dvd ?_)
 rw [← e]
 exact ET (C8 ha (DJ ..)) (C8 hb (DJ ..))
structure Eu (a b h l s f:Int):Prop where
 comb:∃ t u,h=s * a+t * b∧l=f * a+u * b
 div:∀ d,d ∣ h→d ∣ l→d ∣ a∧d ∣ b
 bd:(h=a∧l=b∧s=1∧f=0)∨∃ e g:Int,(e=1∨e=-1)∧(g=1∨g=-1)∧0 < e * h∧0≤e * l∧e * l < e * h∧e * h≤(b.natAbs:Int)∧0≤g * s∧0≤-(g * f)∧g * s≤(b.natAbs:Int)∧(e * h) * -(g * f)+(e * l) * (g * s)=(b.natAbs:Int)
theorem Eu.start (a b:Int):Eu a b a b 1 0:=⟨⟨0,1,by omega,by omega⟩,fun d h1 h2=> ⟨h1,h2⟩,.inl ⟨rfl,rfl,rfl,rfl⟩⟩
theorem oV (x y:Int):x - x.fdiv y * y=x.fmod y:=by rw [Int.fmod_def,Ed]
theorem j_ {x y:Int} (h:0 < y):0≤x.fmod y∧x.fmod y < y:=by
 rw [Gr x (by omega)]
 exact ⟨DA _ (by omega),C6 _ h⟩
theorem vx (x y:Int):(-x).fmod (-y)=-(x.fmod y):=by rw [Int.neg_fmod_neg]
theorem um (x y:Int):(-x).fdiv (-y)=x.fdiv y:=by rw [Ie]
theorem Eu.step {a b h l s f:Int} (E:Eu a b h l s f) (hl:l≠0):Eu a b l (h - h.fdiv l * l) f (s - h.fdiv l * f):=by
 obtain ⟨⟨t,u,e1,e2⟩,dv,bd⟩:=E
 refine ⟨⟨u,t - h.fdiv l * u,e2,?_⟩,fun d d1 d2=> ?_,.inr ?_⟩
 ·generalize h.fdiv l=q
  rw [e1,e2]; grind
 ·refine dv d ?_ d1
  have:h=(h - h.fdiv l * l)+h.fdiv l * l:=by omega
  rw [this]
  exact ET d2 (C8 d1 (Dp ..))
 ·rcases bd with ⟨rfl,rfl,rfl,rfl⟩ | ⟨e,g,he,hg,b1,b2,b3,b4,b5,b6,b7,b8⟩
  ·rcases HI hl with z | z
   ·have m:=j_ (x:=-h) (y:=-l) (by omega)
    rw [vx,← oV] at m
    exact ⟨-1,-1,.inr rfl,.inr rfl,by omega,by omega,by omega,by omega,by omega,by omega,by omega,by
     rw [DD,HY]; omega⟩
   ·have m:=j_ (x:=h) (y:=l) z
    rw [← oV] at m
    exact ⟨1,-1,.inl rfl,.inr rfl,by omega,by omega,by omega,by omega,by omega,by omega,by omega,by
     rw [DD,HY]; omega⟩
  ·have q0:h.fdiv l=(e * h).fdiv (e * l):=by
    rcases he with rfl | rfl
    ·rw [Gp,Gp]
    ·rw [show -1 * h=-h by omega,show -1 * l=-l by omega,um]
   have L0:0 < e * l:=by
    rcases he with rfl | rfl <;> omega
   have m:=j_ (x:=e * h) (y:=e * l) L0
   rw [← oV,← q0] at m
   have qn:0≤h.fdiv l:=by rw [q0]; exact Int.fdiv_nonneg (by omega) (by omega)
   have em:e * h - h.fdiv l * (e * l)=e * (h - h.fdiv l * l):=by grind
   rw [em] at m
   generalize h.fdiv l=q at *
   have ee:e * e=1:=by rcases he with rfl | rfl <;> rfl
   have p1:=Cs qn b6
   have x1:-(-g * (s - q * f))=g * s+q * -(g * f):=by grind
   have x2:-g * f=-(g * f):=by grind
   have fb:-(g * f)≤(b.natAbs:Int):=by
    have h1:=Cs b2 b5
    have h2:1 * -(g * f)≤(e * h) * -(g * f):=Ex (by omega) b6
    omega
   refine ⟨e,-g,he,by omega,L0,m.1,m.2,by omega,by rw [x2]; exact b6,by rw [x1]; omega,by rw [x2]; exact fb,?_⟩
   rw [x1,x2,← em]
   have:e * l * (g * s+q * -(g * f))+(e * h - q * (e * l)) * -(g * f)=e * h * -(g * f)+e * l * (g * s):=by grind
   rw [this,b8]
theorem Eu.less {a b h l s f:Int} (E:Eu a b h l s f) (hl:l≠0):(h - h.fdiv l * l).natAbs < l.natAbs:=by
 rcases HI hl with z | z
 ·have m:=j_ (x:=-h) (y:=-l) (by omega)
  rw [vx,← oV] at m
  omega
 ·have m:=j_ (x:=h) (y:=l) z
  rw [← oV] at m
  omega
theorem Eu.sz {n:Nat} {a b h l s f:Int} (E:Eu a b h l s f) (h8:8≤n) (sa:Sz n a) (sb:Sz n b):Sz n h∧Sz n l∧Sz n s∧(l≠0→Sz n f):=by
 have bz:∀ {x:Int},(x.natAbs:Int)≤(b.natAbs:Int)→Sz n x:=fun {x} hx=> sb.natle (by omega)
 rcases E.bd with ⟨rfl,rfl,rfl,rfl⟩ | ⟨e,g,he,hg,b1,b2,b3,b4,b5,b6,b7,b8⟩
 ·exact ⟨sa,sb,Sz.mono (m:=8) (by decide) h8,fun _=> Sz.mono (m:=8) (by decide) h8⟩
 ·have hh:(h.natAbs:Int)=e * h:=by rcases he with rfl | rfl <;> omega
  have hl:(l.natAbs:Int)=e * l:=by rcases he with rfl | rfl <;> omega
  have hs:(s.natAbs:Int)=g * s:=by rcases hg with rfl | rfl <;> omega
  have hf:(f.natAbs:Int)=-(g * f):=by rcases hg with rfl | rfl <;> omega
  have fb:-(g * f)≤(b.natAbs:Int):=by
   have h1:=Cs b2 b5
   have h2:1 * -(g * f)≤(e * h) * -(g * f):=Ex (by omega) b6
   omega
  exact ⟨bz (by omega),bz (by omega),bz (by omega),fun _=> bz (by omega)⟩
theorem Eu.done {a b h s f:Int} (E:Eu a b h 0 s f) (hne:¬ (a=0∧b=0)):h≠0∧h ∣ a∧h ∣ b∧∃ t,h=s * a+t * b:=by
 obtain ⟨d1,d2⟩:=E.div h (Fg _) (HX _)
 obtain ⟨t,u,e,_⟩:=E.comb
 refine ⟨fun z=> hne ?_,d1,d2,t,e⟩
 rw [z] at d1 d2
 exact ⟨FV.mp d1,FV.mp d2⟩
end
section
variable {P:Program} {w:World} {K:Cn} {mg:Str→Option Value} {base:Heap}
def wQ:List U→Out→Prop:=fun us o=> ∃ l:List P2,us=[lp l]∧0 < l.length∧l.length≤900∧(∀ p∈l,Szp 2500 p)∧o=.val (.int (iM l))
set_option maxHeartbeats 8000000 in
theorem vw (T:Txt K mg):bo P w K mg base (CXF P w) 4 T.a_rim T.d_rim ["land"] (spU K (wQ)):=by
 refine br T.F_rim o_ (fun us o h=> ?_) (fun cdv A outer s H E O us o hr h=> ?_)
 ·obtain ⟨l,rfl,h0,hl,sz,rfl⟩:=h
  rfl
 obtain ⟨l,rfl,h0,hl,sz,rfl⟩:=h
 refine Ws.nox ?_
 have hm:((l.map pu).length:Int)=(l.length:Int):=by rw [Co]
 unfold iM
 by_cases h3:l.length < 3
 ·rw [if_pos h3]
  refine ae (dG (aF eN (ao (di rfl) rfl T.z_len Dq (ac (aa 0 rfl) ak ah)) ag) (by rw [hm]; exact decide_eq_true (by omega)) ?_)
  have z0:=sz _ (du h0)
  have z1:=sz _ (du (l:=l) (i:=l.length - 1) (by omega))
  obtain ⟨cs,ct,G⟩:=jN ((gp l (l.length - 1)).1 - (gp l 0).1) ((gp l (l.length - 1)).2 - (gp l 0).2)
  refine ae (aI (bC (aB ((oZ T).mono (by decide)) hr rfl T.m_steps T.F_steps.kp T.b_steps aC (ac (aE (aa 0 rfl) ag rfl (Bj h0)) (ac (aE (aa 0 rfl) (ck ag) rfl (xM h0)) ak dh) dh) ⟨_,_,_,_,_,cs,ct,rfl,⟨z0.1.mono (by decide),z0.2.mono (by decide),z1.1.mono (by decide),z1.2.mono (by decide)⟩,G,rfl⟩) ag) ?_)
  exact rfl
 ·rw [if_neg h3]
  refine ae (dF (aF eN (ao (di rfl) rfl T.z_len Dq (ac (aa 0 rfl) ak ah)) ag) (by rw [hm]; exact decide_eq_false (by omega)) (aJ ?_))
  refine ae (aI (ao (pA rfl ) rfl T.z_sum boot_sum (ac (EvN.ev (eO (ys:=(((sdl l).map gst).map U.int)) rfl (blk (ai jX) ["land","A","B"] [1,2] rfl rfl rfl rfl (by decide+kernel)) (cY (EvN.ev (cH ((kB T).mono (by decide)) hr rfl T.m_sides T.F_sides.kp T.b_sides aC (ac (aa 0 rfl) ak ah) ⟨l,rfl,hl,rfl⟩)) (.inl rfl)) (fun _ _ _ _=> eQ rfl (aW (aT (i:=1) o_.nd rfl (Or.inl rfl)) (aW (aT (i:=2) o_.nd rfl (Or.inl rfl)) cO))) (dY (js:=[1,2]) (by decide)) ?clen ?csz ?dom ?celt)) ak dB)) ?_)
  case clen=> simp
  case csz=> simp only [ij,Co]; exact DF (aO (by omega))
  case dom=>
   intro x hx
   obtain ⟨s,_,rfl⟩:=Cr.mp hx
   exact ⟨_,rfl,rfl⟩
  case celt=>
   intro C s' H' fp j x y hx hy
   rw [Dz] at hy
   obtain ⟨s,hs,ms,rfl,rfl⟩:=df hx hy
   obtain ⟨m1,m2⟩:=aV ms
   obtain ⟨cs,ct,G⟩:=jN (s.2.1 - s.1.1) (s.2.2 - s.1.2)
   exact (aB ((oZ T).mono (by decide)) hr rfl T.m_steps T.F_steps.kp T.b_steps aC (ac (aa 1 rfl) (ac (aa 2 rfl) ak ah) ah) ⟨_,_,_,_,_,cs,ct,rfl,⟨(sz _ m1).1.mono (by decide),(sz _ m1).2.mono (by decide),(sz _ m2).1.mono (by decide),(sz _ m2).2.mono (by decide)⟩,G,rfl⟩)
  exact rfl
end
section
variable {P:Program} {w:World} {K:Cn} {mg:Str→Option Value} {base:Heap}
theorem ud {m n:Nat} {k:Int} {p:P2} (sk:Sz n k) (s:Szp m p):Szp (n+m) (scl k p):=⟨L2.Sz.mul sk s.1,L2.Sz.mul sk s.2⟩
def tZ:List U→Out→Prop:=fun us o=> ∃ (pts:List P2) (k:Int),us=[lp pts,.int k]∧Sz 1000 k∧(∀ p∈pts,Szp 3000 p)∧pts≠[]∧pts.length < 64∧o=.new ((aj (pts.map (scl k))).map pu)
set_option maxHeartbeats 8000000 in
theorem xz (T:Txt K mg):bo P w K mg base (CXF P w) 5 T.a_fold T.d_fold ["land","k"] (spU K (tZ)):=by
 refine br T.F_fold qD (fun us o h=> ?_) (fun cdv A outer s H E O us o hr h=> ?_)
 ·obtain ⟨pts,k,rfl,sk,sz,hne,hl,rfl⟩:=h
  rfl
 obtain ⟨pts,k,rfl,sk,sz,hne,hl,rfl⟩:=h
 refine ae (gU (cH ((oM T).mono (by decide)) hr rfl T.m_field T.F_field.kp T.b_field aC (ac (EvN.ev (eO (ys:=(pts.map fun p=> pu (scl k p))) rfl (blk (ai g5) ["land","k","P"] [2] rfl rfl rfl rfl (by decide+kernel)) (cY (aa 0 rfl) (.inl rfl)) (fun _ _ _ _=> aT (i:=2) qD.nd rfl (Or.inl rfl)) (h9 (by decide)) ?clen ?csz (fun _ _=> trivial) ?celt)) ak dB) ⟨pts.map (scl k),by rw [lp,Dz]; rfl,fun p hp=> by obtain ⟨q,hq,rfl⟩:=Cr.mp hp; have z:=ud sk (sz q hq); exact ⟨z.1.mono (by decide),z.2.mono (by decide)⟩,by rw [Co]; exact hl,by rw [if_neg (by simpa using hne)]⟩) ?_)
 case clen=> simp
 case csz=> rw [Co]; exact DF (aO (by omega))
 case celt=>
  intro C s' H' fp j x y hx hy
  obtain ⟨p,hp,mp,rfl,rfl⟩:=df hx hy
  have s1:=(sz p mp).1
  have s2:=(sz p mp).2
  exact (c_ (aX (aU (aa 1 rfl) (aE (aa 2 rfl) ag rfl rfl) (by walk_at "mul")) (aX (aU (aa 1 rfl) (aE (aa 2 rfl) ag rfl rfl) (by walk_at "mul")) cE aZ) aZ))
 exact rfl
def sN:List U→Out→Prop:=fun us o=> ∃ (pts:List P2) (k:Int),us=[lp pts,.int k]∧0≤k∧Sz 1000 k∧(∀ p∈pts,Szp 3000 p)∧pts≠[]∧pts.length < 64∧o=.new ((aj (pts.map (scl k))).map pu)
set_option maxHeartbeats 8000000 in
theorem nP (T:Txt K mg):bo P w K mg base (CXF P w) 6 T.a_multiple T.d_multiple ["land","k"] (spU K (sN)):=by
 refine br T.F_multiple nS (fun us o h=> ?_) (fun cdv A outer s H E O us o hr h=> ?_)
 ·obtain ⟨pts,k,rfl,k0,sk,sz,hne,hl,rfl⟩:=h
  rfl
 obtain ⟨pts,k,rfl,k0,sk,sz,hne,hl,rfl⟩:=h
 refine Ws.nox ?_
 refine ae (dF (aF eN (aa 1 rfl) ag) (decide_eq_false (by omega)) (aJ ?_))
 refine ae (gU (cH ((xz T).mono (by decide)) hr rfl T.m_fold T.F_fold.kp T.b_fold aC (ac (aa 0 rfl) (ac (aa 1 rfl) ak ah) ah) ⟨pts,k,rfl,sk,sz,hne,hl,rfl⟩) ?_)
 exact rfl
def vX:List U→Out→Prop:=fun us o=> ∃ l:List P2,us=[lp l]∧l.length≤900∧(∀ p∈l,Szp 2500 p)∧o=.val (.int (pin l))
set_option maxHeartbeats 8000000 in
theorem mT (T:Txt K mg):bo P w K mg base (CXF P w) 5 T.a_points_in T.d_points_in ["land"] (spU K (vX)):=by
 refine br T.F_points_in lW (fun us o h=> ?_) (fun cdv A outer s H E O us o hr h=> ?_)
 ·obtain ⟨l,rfl,hl,sz,rfl⟩:=h
  rfl
 obtain ⟨l,rfl,hl,sz,rfl⟩:=h
 refine Ws.nox ?_
 have hm:((l.map pu).length:Int)=(l.length:Int):=by rw [Co]
 by_cases h3:l.length < 3
 ·refine ae (dG (aF eN (ao (di rfl) rfl T.z_len Dq (ac (aa 0 rfl) ak ah)) ag) (by rw [hm]; exact decide_eq_true (by omega)) ?_)
  refine ae (aI ag ?_)
  exact vIO (by unfold pin; rw [if_pos h3])
 ·refine ae (dF (aF eN (ao (di rfl) rfl T.z_len Dq (ac (aa 0 rfl) ak ah)) ag) (by rw [hm]; exact decide_eq_false (by omega)) (aJ ?_))
  have er:iM l=fZ l:=by unfold iM; rw [if_neg h3]
  refine ae (aI (b_ (bC (ba (aB ((jK T).mono (by decide)) hr rfl T.m_double_area T.F_double_area.kp T.b_double_area aC (ac (aa 0 rfl) ak ah) ⟨l,rfl,hl,sz,rfl⟩) (aB ((vw T).mono (by decide)) hr rfl T.m_rim T.F_rim.kp T.b_rim aC (ac (aa 0 rfl) ak ah) ⟨l,rfl,by omega,hl,sz,rfl⟩)) ag) ag (by walk_at "div")) ?_)
  exact vIO (by unfold pin; rw [if_neg h3,er])
theorem ut {pts:List P2} {k:Int} (sk:Sz 1000 k) (sz:∀ p∈pts,Szp 1500 p):∀ p∈aj (pts.map (scl k)),Szp 2500 p:=fun p hp=> by
 obtain ⟨q,hq,rfl⟩:=Cr.mp (aH _ p hp)
 exact ud sk (sz q hq)
def pT:List U→Out→Prop:=fun us o=> ∃ (pts:List P2) (k:Int),us=[lp pts,.int k]∧0≤k∧Sz 1000 k∧(∀ p∈pts,Szp 1500 p)∧pts≠[]∧pts.length < 64∧o=.val (.int (ox (aj (pts.map (scl k)))))
set_option maxHeartbeats 8000000 in
theorem vK (T:Txt K mg):bo P w K mg base (CXF P w) 7 T.a_count T.d_count ["land","k"] (spU K (pT)):=by
 refine AQ T.F_count oE (fun us o h=> ?_) (fun cdv A outer s H E O us o hr h=> ?_)
 ·obtain ⟨pts,k,rfl,k0,sk,sz,hne,hl,rfl⟩:=h
  rfl
 obtain ⟨pts,k,rfl,k0,sk,sz,hne,hl,rfl⟩:=h
 refine Ws.nox ?_
 have cl:(aj (pts.map (scl k))).length≤900:=DK (jm _) (by rw [Co]; omega)
 have cn:0 < (aj (pts.map (scl k))).length:=DM.mpr (ik (by simpa using hne))
 refine ae (ay (i:=2) oE.nd rfl (Or.inl rfl) (EvN.ev (cH ((nP T).mono (by decide)) hr rfl T.m_multiple T.F_multiple.kp T.b_multiple aC (ac (aa 0 rfl) (ac (aa 1 rfl) ak ah) ah) ⟨pts,k,rfl,k0,sk,gQ (by decide) sz,hne,hl,rfl⟩)) ?_)
 refine ae (aI (bC (aB ((mT T).mono (by decide)) hr rfl T.m_points_in T.F_points_in.kp T.b_points_in aC (ac (aa 2 rfl) ak ah) ⟨_,rfl,cl,ut sk sz,rfl⟩) (aB ((vw T).mono (by decide)) hr rfl T.m_rim T.F_rim.kp T.b_rim aC (ac (aa 2 rfl) ak ah) ⟨_,rfl,cn,cl,ut sk sz,rfl⟩)) ?_)
 exact rfl
end
section
variable {P:Program} {w:World} {K:Cn} {mg:Str→Option Value} {base:Heap}
def qs:List U→Out→Prop:=fun us o=> ∃ (A B:P2) (left right:Int),us=[pu A,pu B,.int left,.int right]∧Szp 1000 A∧Szp 1000 B∧Sz 1000 left∧Sz 1000 right∧o=.val (.int (iZ left right (A,B)))
set_option maxHeartbeats 8000000 in
theorem lS (T:Txt K mg):bo P w K mg base (CXF P w) 2 T.a_side_part T.d_side_part ["A","B","left","right"] (spU K (qs)):=by
 refine br T.F_side_part cu (fun us o h=> ?_) (fun cdv A outer s H E O us o hr h=> ?_)
 ·obtain ⟨A,B,left,right,rfl,⟨a1,a2⟩,⟨b1,b2⟩,sl,sr,rfl⟩:=h
  rfl
 obtain ⟨A,B,left,right,rfl,⟨a1,a2⟩,⟨b1,b2⟩,sl,sr,rfl⟩:=h
 refine Ws.nox ?_
 have ef:(if (if B.1 < A.1 then B.1 else A.1) > left then (if B.1 < A.1 then B.1 else A.1) else left)=cI (A,B) left:=by
  unfold cI
  dsimp only
  split <;> split <;> omega
 have em:(if (if B.1 > A.1 then B.1 else A.1) < right+1 then (if B.1 > A.1 then B.1 else A.1) else right+1) - cI (A,B) left=eP (A,B) left right:=by
  unfold eP
  dsimp only
  generalize cI (A,B) left=f
  split <;> split <;> omega
 have sf:Sz 1000 (cI (A,B) left):=by
  have:cI (A,B) left=left∨cI (A,B) left=A.1∨cI (A,B) left=B.1:=by unfold cI; dsimp only; omega
  rcases this with h | h | h <;> rw [h] <;> assumption
 have sr1:Sz 1001 (B.1 - A.1):=(L2.Sz.sub' b1 a1).mono (by decide)
 have sr2:Sz 1001 (B.2 - A.2):=(L2.Sz.sub' b2 a2).mono (by decide)
 refine ae (ay (i:=4) cu.nd rfl (Or.inl rfl) (ba (aE (aa 1 rfl) ag rfl rfl) (aE (aa 0 rfl) ag rfl rfl)) ?_)
 refine ae (ay (i:=5) cu.nd rfl (Or.inl rfl) (ba (aE (aa 1 rfl) ag rfl rfl) (aE (aa 0 rfl) ag rfl rfl)) ?_)
 refine ae (ay (i:=6) cu.nd rfl (Or.inl rfl) (ao (rJ rfl) rfl T.z_max boot_max (ac (aa 2 rfl) (ac (ao (u3 rfl) rfl T.z_min boot_min (ac (aE (aa 0 rfl) ag rfl rfl) (ac (aE (aa 1 rfl) ag rfl rfl) ak dh) dh)) ak bn) ah)) ?_)
 rw [ef]
 refine ae (ay (i:=7) cu.nd rfl (Or.inl rfl) (ba (ao (u3 rfl) rfl T.z_min boot_min (ac (bC (aa 3 rfl) ag) (ac (ao (rJ rfl) rfl T.z_max boot_max (ac (aE (aa 0 rfl) ag rfl rfl) (ac (aE (aa 1 rfl) ag rfl rfl) ak dh) dh)) ak bn) aZ)) (aa 6 rfl)) ?_)
 rw [em]
 refine ae (fc (aF eN (aa 7 rfl) ag) (fun hT=> ?_) (fun hF=> (aJ ?_)))
 ·refine ae (aI ag ?_)
  exact vIO (by unfold iZ; rw [if_pos (dTb hT)])
 ·have hm:=dFb hF
  have s3:Sz 3000 (eP (A,B) left right):=by
   refine (Sz.le (y:=B.1 - A.1) ?_ sr1).mono (by decide)
   unfold eP cI at *
   dsimp only at *
   omega
  have hrn:B.1 - A.1≠0:=by
   unfold eP cI at hm
   dsimp only at hm
   omega
  have s4:Sz 2010 (aM (A,B) (cI (A,B) left)):=by
   unfold aM
   exact (L2.Sz.add' (L2.Sz.mul (a2.mono (n:=1002) (by decide)) (sr1.mono (n:=1002) (by decide))) (L2.Sz.mul ((L2.Sz.sub' sf a1).mono (n:=1002) (by decide)) (sr2.mono (n:=1002) (by decide)))).mono (by decide)
  have s5:Sz 3000 (kI (B.1 - A.1)):=by
   refine (Sz.le (y:=B.1 - A.1) ?_ sr1).mono (by decide)
   unfold kI; split <;> omega
  have h5:0 < kI (B.1 - A.1):=by unfold kI; split <;> omega
  have s6:Sz 3000 (-(B.2 - A.2)):=(Sz.le (y:=B.2 - A.2) (by omega) sr2).mono (by decide)
  have s7:Sz 3000 (-(aM (A,B) (cI (A,B) left))):=(Sz.le (y:=aM (A,B) (cI (A,B) left)) (by omega) s4).mono (by decide)
  refine ae (ay (i:=8) cu.nd rfl (Or.inl rfl) (aB ((o6 T).mono (by decide)) hr rfl T.m_row_sum T.F_row_sum.kp T.b_row_sum aC (ac (aa 7 rfl) (ac (ck (aa 5 rfl)) (ac (ck (bC (aU (aE (aa 0 rfl) ag rfl rfl) (aa 4 rfl) (by walk_at "mul")) (aU (ba (aa 6 rfl) (aE (aa 0 rfl) ag rfl rfl)) (aa 5 rfl) (by walk_at "mul")))) (ac (ao kY rfl T.z_abs PyProof.Rows.boot_abs (ac (aa 4 rfl) ak ah)) ak bn) iR) iR) ah) ⟨eP (A,B) left right,-(B.2 - A.2),-(aM (A,B) (cI (A,B) left)),kI (B.1 - A.1),rfl,by omega,h5,s3,s6,s7,s5,rfl⟩) ?_)
  refine ae (aI (zC (aF eN (aa 4 rfl) ag) (bC (aa 8 rfl) (aa 7 rfl)) (aa 8 rfl)) ?_)
  refine congrArg Out.val ?_
  unfold iZ
  rw [if_neg hm]
  dsimp only
  by_cases hneg:B.1 - A.1 < 0
  ·rw [if_pos (decide_eq_true hneg),if_pos hneg]
  ·rw [if_neg (by simpa using hneg),if_neg hneg,El]
end
section
variable {P:Program} {w:World} {K:Cn} {mg:Str→Option Value} {base:Heap}
theorem wZ:∀ {l:List P2},l≠[]→∃ M∈l,∀ q∈l,ST.ltP M q=false
 | [],h=> absurd rfl h
 | [a],_=> ⟨a,by simp,fun q hq=> by rw [CT.mp hq]; exact ST.asc_irr⟩
 | a::b::l,_=> by
  obtain ⟨M,hM,k⟩:=wZ (l:=b::l) (by simp)
  by_cases h:ST.ltP M a=true
  ·refine ⟨a,by simp,fun q hq=> ?_⟩
   rcases Cu.mp hq with e | e
   ·rw [e]; exact ST.asc_irr
   ·cases hz:ST.ltP a q with
    | false=> rfl
    | true=> have:=ST.ltP_tr h hz; rw [k q e] at this; cases this
  ·refine ⟨M,Cp _ hM,fun q hq=> ?_⟩
   rcases Cu.mp hq with e | e
   ·rw [e]; simpa using h
   ·exact k q e
theorem BG {l:List P2} (hne:l≠[]) {M:P2} (hM:M∈l) (h:∀ q∈l,ST.ltP M q=false):M.1=hiX l:=by
 have hx:l.map (·.1)≠[]:=by simpa using hne
 obtain ⟨q,hq,e⟩:=Cr.mp (bV hx).1
 have a:=w6 hM
 have b:=h q hq
 unfold ST.ltP at b
 have b:=of_decide_eq_false b
 unfold hiX at *
 omega
def fht (l:List P2) (p:P2):Option U:=if p.1=hiX l then some (.int p.2) else none
theorem rh (l:List P2):∀ m:List P2,(m.map (fht l)).filterMap id=((m.filter fun p=> decide (p.1=hiX l)).map (·.2)).map U.int
 | []=> rfl
 | p::m=> by
  have ih:=rh l m
  rw [CZ]
  by_cases h:p.1=hiX l
  ·rw [C_ (by simpa using h)]
   unfold fht at *
   rw [if_pos h]
   simp only [List.filterMap_cons_some (id_eq _),CZ]
   rw [ih]
  ·rw [C9 (by simpa using h)]
   unfold fht at *
   rw [if_neg h]
   simp only [List.filterMap_cons_none (id_eq _)]
   rw [ih]
def sL:List U→Out→Prop:=fun us o=> ∃ (l:List P2) (left right:Int),us=[lp l,.int left,.int right]∧l≠[]∧l.length≤900∧o=.val (.int (nj l left right))
set_option maxHeartbeats 8000000 in
theorem kq (T:Txt K mg):bo P w K mg base (CXF P w) 1 T.a_last_column T.d_last_column ["land","left","right"] (spU K (sL)):=by
 refine br T.F_last_column dk (fun us o h=> ?_) (fun cdv A outer s H E O us o hr h=> ?_)
 ·obtain ⟨l,left,right,rfl,hne,hl,rfl⟩:=h
  rfl
 obtain ⟨l,left,right,rfl,hne,hl,rfl⟩:=h
 refine Ws.nox ?_
 obtain ⟨M,hM,hL⟩:=wZ hne
 have ex:=BG hne hM hL
 have hn:=pN hne
 refine ae (ay (i:=3) dk.nd rfl (Or.inr rfl) (aE (ao (z8 rfl (oI hr) hM hL) rfl T.z_max boot_max (ac (aa 0 rfl) ak ah)) ag rfl rfl) ?_)
 rw [ex]
 unfold nj
 refine ae (fc (Tw.t (nG (aF eN (aa 3 rfl) (aa 1 rfl)) (fun hz=> (n_ (aF i6 (aa 3 rfl) (aa 2 rfl)))))) (fun hT=> ?_) (fun hF=> (aJ ?_)))
 ·refine ae (aI ag ?_)
  refine vIO ?_
  rw [if_pos]
  simpa using hT
 ·refine ae (pU (l.map (fht l)) (j:=4) false rfl dk.nd rfl (Or.inl rfl) (blk (ai bN) ["land","left","right","x","heights","P"] [5] rfl rfl rfl rfl (by decide+kernel)) (cY (aa 0 rfl) (.inl rfl)) (fun _ _ _ _=> aT (i:=5) dk.nd rfl (Or.inl rfl)) (h9 (by decide)) ?clen ?csz (fun _ _=> trivial) ?ctest ?celt ?_)
  case clen=> rw [Co,Co]
  case csz=> rw [Co]; exact DF (aO (by omega))
  case ctest=>
   intro C s' H' fp j x o hx ho
   obtain ⟨p,hp,mp,rfl,e2⟩:∃ p,l[j]?=some p∧p∈l∧x=pu p∧o=fht l p:=by
    rw [Ct] at hx ho
    obtain ⟨p,hp,rfl⟩:=G_.mp hx
    rw [hp] at ho
    exact ⟨p,hp,CM hp,rfl,(Dg ho).symm⟩
   subst e2
   rw [show (fht l p).isSome=decide (p.1=hiX l) by unfold fht; by_cases k:p.1=hiX l <;> simp [k]]
   exact (aF dU (aE (aa 5 rfl) ag rfl rfl) (aa 3 rfl))
  case celt=>
   intro C s' H' fp j x y hx hy
   obtain ⟨p,hp,rfl,e2⟩:∃ p,l[j]?=some p∧x=pu p∧fht l p=some y:=by
    rw [Ct] at hx hy
    obtain ⟨p,hp,rfl⟩:=G_.mp hx
    rw [hp] at hy
    exact ⟨p,hp,rfl,Dg hy⟩
   have ey:y=.int p.2:=by
    unfold fht at e2
    split at e2
    ·exact (Dg e2).symm
    ·cases e2
   subst ey
   exact (aE (aa 5 rfl) ag rfl rfl)
  have eh:(l.map (fht l)).filterMap id=(hts l).map U.int:=rh l l
  rw [eh]
  refine ae (aI (bC (ba (ao (m9 rfl (bV hn)) rfl T.z_max boot_max (ac (aa 4 rfl) ak ah)) (ao (lR rfl (bJ hn)) rfl T.z_min boot_min (ac (aa 4 rfl) ak ah))) ag) ?_)
  refine vIO ?_
  rw [if_neg]
  simpa using hF
end
section
variable {P:Program} {w:World} {K:Cn} {mg:Str→Option Value} {base:Heap}
def t7:List U→Out→Prop:=fun us o=> ∃ (l:List P2) (left right:Int),us=[lp l,.int left,.int right]∧l≠[]∧l.length≤900∧(∀ p∈l,Szp 1000 p)∧Sz 1000 left∧Sz 1000 right∧o=.val (.int (lh l left right))
set_option maxHeartbeats 8000000 in
theorem pi (T:Txt K mg):bo P w K mg base (CXF P w) 3 T.a_columns T.d_columns ["land","left","right"] (spU K (t7)):=by
 refine br T.F_columns fi (fun us o h=> ?_) (fun cdv A outer s H E O us o hr h=> ?_)
 ·obtain ⟨l,left,right,rfl,hne,hl,sz,sl,sr,rfl⟩:=h
  rfl
 obtain ⟨l,left,right,rfl,hne,hl,sz,sl,sr,rfl⟩:=h
 refine Ws.nox ?_
 refine ae (lG (ys:=(((sdl l).map (iZ left right)).map U.int)) (j:=3) false rfl fi.nd rfl (Or.inl rfl) (blk (ai dA) ["land","left","right","parts","A","B"] [4,5] rfl rfl rfl rfl (by decide+kernel)) (cY (EvN.ev (cH ((kB T).mono (by decide)) hr rfl T.m_sides T.F_sides.kp T.b_sides aC (ac (aa 0 rfl) ak ah) ⟨l,rfl,hl,rfl⟩)) (.inl rfl)) (fun _ _ _ _=> eQ rfl (aW (aT (i:=4) fi.nd rfl (Or.inl rfl)) (aW (aT (i:=5) fi.nd rfl (Or.inl rfl)) cO))) (dY (js:=[4,5]) (by decide)) ?clen ?csz ?dom ?celt ?_)
 case clen=> simp
 case csz=> simp only [ij,Co]; exact DF (aO (by omega))
 case dom=>
  intro x hx
  obtain ⟨s,_,rfl⟩:=Cr.mp hx
  exact ⟨_,rfl,rfl⟩
 case celt=>
  intro C s' H' fp j x y hx hy
  rw [Dz] at hy
  obtain ⟨s,hs,ms,rfl,rfl⟩:=df hx hy
  obtain ⟨m1,m2⟩:=aV ms
  exact (aB ((lS T).mono (by decide)) hr rfl T.m_side_part T.F_side_part.kp T.b_side_part aC (ac (aa 4 rfl) (ac (aa 5 rfl) (ac (aa 1 rfl) (ac (aa 2 rfl) ak ah) ah) ah) ah) ⟨s.1,s.2,left,right,rfl,sz _ m1,sz _ m2,sl,sr,rfl⟩)
 refine ae (aI (bC (ao (pA rfl ) rfl T.z_sum boot_sum (ac (aa 3 rfl) ak ah)) (aB ((kq T).mono (by decide)) hr rfl T.m_last_column T.F_last_column.kp T.b_last_column aC (ac (aa 0 rfl) (ac (aa 1 rfl) (ac (aa 2 rfl) ak ah) ah) ah) ⟨l,left,right,rfl,hne,hl,rfl⟩)) ?_)
 exact rfl
end
section
variable {P:Program} {w:World} {K:Cn} {mg:Str→Option Value} {base:Heap}
def jR:List U→Out→Prop:=fun us o=> ∃ (l:List P2) (a b c:Int),us=[lp l,.int a,.int b,.int c]∧Fld l∧l.length < 64∧(∀ p∈l,Szp 200 p)∧Sz 200 a∧Sz 200 b∧Sz 500 c∧o=.val (.int (cD l fun p=> decide (a * p.1+b * p.2≤c)))
set_option maxHeartbeats 8000000 in
theorem eW (T:Txt K mg):bo P w K mg base (CXF P w) 8 T.a_share T.d_share ["land","a","b","c"] (spU K (jR)):=by
 refine br T.F_share hX (fun us o h=> ?_) (fun cdv A outer s H E O us o hr h=> ?_)
 ·obtain ⟨l,a,b,c,rfl,F,hl,sz,sa,sb,sc,rfl⟩:=h
  rfl
 obtain ⟨l,a,b,c,rfl,F,hl,sz,sa,sb,sc,rfl⟩:=h
 refine Ws.nox ?_
 obtain ⟨g,s,t,G⟩:=rN a b
 have so:=wg F (c:=c) G
 unfold ph at so
 obtain ⟨zg,zs,zt⟩:=yq G sa sb
 by_cases h0:a=0∧b=0
 ·rw [if_pos h0] at so
  refine ae (dG (Tw.t (oD (aF dU (aa 1 rfl) ag) (fun hz=> (mW (aF dU (aa 2 rfl) ag))))) (by rw [decide_eq_true h0.1,decide_eq_true h0.2]; rfl) ?_)
  refine ae (aI (zC (aF Cc (aa 3 rfl) ag) (xW ((vK T).mono (by decide)) hr rfl T.m_count T.F_count.kp T.bd_count aC (ac (aa 0 rfl) ak ah) ⟨l,1,rfl,by decide,Sz.mono (m:=8) (by decide) (by decide),gQ (by decide) sz,F.ne,hl,rfl⟩) ag) ?_)
  refine congrArg Out.val ?_
  rw [← so]
  by_cases hc:0≤c
  ·rw [if_pos (decide_eq_true hc),if_pos hc]
  ·rw [if_neg (by simpa using hc),if_neg hc]
 ·rw [if_neg h0] at so
  have g0:0 < g:=by
   rcases De G.g0 with z | z
   ·exact z
   ·exfalso
    have a0:a=0:=FV.mp (by rw [z]; exact G.da)
    have b0:b=0:=FV.mp (by rw [z]; exact G.db)
    exact h0 ⟨a0,b0⟩
  have ea:g * (a / g)=a:=DI G.da
  have eb:g * (b / g)=b:=DI G.db
  have hd:a / g * s - b / g * -t=1:=by
   have h:=G.eq
   rw [← ea,← eb] at h
   have:g * (a / g * s - b / g * -t)=g * 1:=by rw [FH]; grind
   exact Dd (by omega) this
  refine ae (dF (Tw.t (oD (aF dU (aa 1 rfl) ag) (fun hz=> (mW (aF dU (aa 2 rfl) ag))))) (by rw [Bool.and_eq_false_iff,decide_eq_false_iff_not,decide_eq_false_iff_not]; omega) (aJ ?_))
  refine ae (ay (i:=4) hX.nd rfl (Or.inl rfl) (aB ((lm T).mono (by decide)) hr rfl T.m_shares T.F_shares.kp T.b_shares aC (ac (aa 1 rfl) (ac (aa 2 rfl) ak ah) ah) ⟨a,b,g,s,t,rfl,sa.mono (by decide),sb.mono (by decide),G,rfl⟩) ?_)
  refine ae (ay (i:=5) hX.nd rfl (Or.inl rfl) (aE (aa 4 rfl) ag rfl rfl) ?_)
  have za:Sz 200 (a / g):=sa.ediv
  have zb:Sz 200 (b / g):=sb.ediv
  have zc:Sz 500 (c / g):=sc.ediv
  have zt':Sz 500 (-t):=(Sz.le (y:=t) (by omega) zt).mono (by decide)
  have z0:Sz 500 (0:Int):=Sz.mono (m:=8) (by decide) (by decide)
  have F':=lN (a:=a / g) (b:=b / g) (c:=-t) (d:=s) 0 0 F
  have ul:(aj (l.map (ap (a / g) (b / g) (-t) s 0 0))).length≤63:=DK (jm _) (by rw [Co]; omega)
  have uz:∀ p∈aj (l.map (ap (a / g) (b / g) (-t) s 0 0)),Szp 1000 p:=fun p hp=> by
   obtain ⟨q,hq,rfl⟩:=Cr.mp (aH _ p hp)
   have z:=zE (za.mono (by decide)) (zb.mono (by decide)) zt' (zs.mono (by decide)) z0 z0 (by decide) (sz q hq)
   exact ⟨z.1.mono (by decide),z.2.mono (by decide)⟩
  have u0:0 < (aj (l.map (ap (a / g) (b / g) (-t) s 0 0))).length:=DM.mpr F'.ne
  refine ae (ay (i:=6) hX.nd rfl (Or.inl rfl) (EvN.ev (cH ((jC T).mono (by decide)) hr rfl T.m_field_moved T.F_field_moved.kp T.b_field_moved aC (ac (aa 0 rfl) (ac (c_ (aX (b_ (aa 1 rfl) (aa 5 rfl) ⟨by omega,zg.mono (by decide)⟩) (aX (b_ (aa 2 rfl) (aa 5 rfl) ⟨by omega,zg.mono (by decide)⟩) (aX (ck (aE (aa 4 rfl) ag rfl rfl)) (aX (aE (aa 4 rfl) ag rfl rfl) (aX ag (aX ag cE bT) bT) dh) iR) aZ) aZ)) ak AK) ah) ⟨l,a / g,b / g,-t,s,0,0,rfl,.inl hd,⟨za.mono (by decide),zb.mono (by decide),zt',zs.mono (by decide),z0,z0⟩,gQ (by decide) sz,F.ne,hl,rfl⟩)) ?_)
  generalize aj (l.map (ap (a / g) (b / g) (-t) s 0 0))=up at *
  refine ae (aI (aB ((pi T).mono (by decide)) hr rfl T.m_columns T.F_columns.kp T.b_columns aC (ac (aa 6 rfl) (ac (aE (aE (aa 6 rfl) ag rfl (Bj u0)) ag rfl rfl) (ac (b_ (aa 3 rfl) (aa 5 rfl) ⟨by omega,zg.mono (by decide)⟩) ak aZ) dh) ah) ⟨up,(gp up 0).1,c / g,rfl,F'.ne,by omega,uz,(uz _ (du u0)).1,zc.mono (by decide),rfl⟩) ?_)
  exact vIO so
end
section
variable {P:Program} {w:World} {K:Cn} {mg:Str→Option Value} {base:Heap}
def tQ:List U→Out→Prop:=fun us o=> ∃ P Q R:P2,us=[pu P,pu Q,pu R]∧Szp 5000 P∧Szp 5000 Q∧Szp 5000 R∧o=.val (.int (af P Q R))
set_option maxHeartbeats 8000000 in
theorem my (T:Txt K mg):bo P w K mg base (CXF P w) 1 T.a__law_side T.d__law_side ["a","b","p"] (spU K (tQ)):=by
 refine br T.F__law_side ma (fun us o h=> ?_) (fun cdv A outer s H E O us o hr h=> ?_)
 ·obtain ⟨P,Q,R,rfl,⟨p1,p2⟩,⟨q1,q2⟩,⟨r1,r2⟩,rfl⟩:=h
  rfl
 obtain ⟨P,Q,R,rfl,⟨p1,p2⟩,⟨q1,q2⟩,⟨r1,r2⟩,rfl⟩:=h
 refine Ws.nox ?_
 refine ae (aI (ba (aU (ba (aE (aa 1 rfl) ag rfl rfl) (aE (aa 0 rfl) ag rfl rfl)) (ba (aE (aa 2 rfl) ag rfl rfl) (aE (aa 0 rfl) ag rfl rfl)) (by walk_at "mul")) (aU (ba (aE (aa 1 rfl) ag rfl rfl) (aE (aa 0 rfl) ag rfl rfl)) (ba (aE (aa 2 rfl) ag rfl rfl) (aE (aa 0 rfl) ag rfl rfl)) (by walk_at "mul"))) ?_)
 exact rfl
set_option maxHeartbeats 8000000 in
theorem iu (T:Txt K mg):bo P w K mg base (CXF P w) 2 T.a__law_half T.d__law_half ["points"] (spU K (kh)):=by
 refine br T.F__law_half ft (fun us o h=> ?_) (fun cdv A outer s H E O us o hr h=> ?_)
 ·obtain ⟨row,rfl,sz,hl,rfl⟩:=h
  rfl
 obtain ⟨row,rfl,sz,hl,rfl⟩:=h
 refine Ws.nox ?_
 refine ae (ko (i:=1) ft.nd rfl (Or.inl rfl) (fN cE) ?_)
 refine ae (jJ (fun st:List P2=> [some (.val (lp row)),some (.own (st.reverse.map pu)),none]) (fun i st=> st=am (row.take i)) rfl PassesOwn.never (cY (aa 0 rfl) (.inl rfl)) ?h0 ?hs ?hd)
 case h0=> exact ⟨[],rfl,rfl,rfl,trivial⟩
 case hs=>
  rintro H0 i x _ hx rfl
  obtain ⟨P,hP,mP,rfl⟩:=rY hx
  have hi:i < row.length:=aL hP
  have sP:=sz P mP
  refine ⟨_,(j6 (i:=2) ft.nd rfl (Or.inl rfl)),?_⟩
  have len0:=gw row i
  refine gO (fun ps=> SubP [some (.val (lp row)),some (.own ((bg P (am (row.take i))).reverse.map pu)),some (.val (pu P))] ps) (e_ (fun s2:List P2=> [some (.val (lp row)),some (.own (s2.reverse.map pu)),some (.val (pu P))]) (fun m s2=> m=s2.length∧bg P s2=bg P (am (row.take i))∧(∀ p∈s2,p∈row)∧s2.length≤i) PassesOwn.never ?h0 ?hs) ?hj
  case h0=> exact ⟨_,_,⟨rfl,rfl,fun q hq=> eV row i q hq,len0⟩,rfl,rfl,rfl,trivial⟩
  case hs=>
   rintro m s2 ⟨rfl,e2,sub,len2⟩
   match s2,e2,sub,len2 with
   | [],e2,sub,len2=>
    refine ⟨false,?_,fun h=> (nomatch h),fun h ps hps=> e2 ▸ hps⟩
    exact (Tw.t (mF (aF i6 (fP 1 rfl rfl T.z_len) ag) rfl))
   | [b],e2,sub,len2=>
    refine ⟨false,?_,fun h=> (nomatch h),fun h ps hps=> e2 ▸ hps⟩
    exact (Tw.t (mF (aF i6 (fP 1 rfl rfl T.z_len) ag) rfl))
   | b::a::r,e2,sub,len2=>
    have sa:=sz a (sub a (by simp))
    have sb:=sz b (sub b (by simp))
    have e1:decide ((1:Int) < ((((b::a::r).reverse.map pu).length:Nat):Int))=true:=decide_eq_true (by simp; omega)
    refine ⟨decide ((1:Int) < ((((b::a::r).reverse.map pu).length:Nat):Int)) && decide (af a b P≤0),?_,fun h=> ?_,fun h ps hps=> ?_⟩
    ·exact (Tw.t (oD (aF i6 (fP 1 rfl rfl T.z_len) ag) (fun hz=> (mW (aF B5 (aB ((my T).mono (by decide)) hr rfl T.m__law_side T.F__law_side.kp T.b__law_side aC (ac (qM 1 rfl (ck ag) (yX b a r)) (ac (qM 1 rfl (ck ag) (zq b (a::r))) (ac (aa 2 rfl) ak ah) dh) dh) ⟨a,b,P,rfl,sa,sb,sP,rfl⟩) ag)))))
    ·rw [e1,Gf] at h
     have hd:=dTb h
     refine ae (zx 1 rfl (by simp) (aJ ?_))
     refine ⟨_,a::r,?_,⟨rfl,?_,fun q hq=> sub q (Cp _ hq),?_⟩,rfl,?_,rfl,trivial⟩
     ·simp
     ·rw [← e2]; conv=> rhs; unfold bg
      rw [if_pos hd]
     ·simp only [Dy] at *; omega
     ·exact congrArg (fun l=> some (Sl.own l)) (by simp)
    ·rw [e1,Gf] at h
     have hd:=dFb h
     have e3:bg P (b::a::r)=b::a::r:=by conv=> lhs; unfold bg
                                        rw [if_neg hd]
     rw [← e2,e3]
     exact hps
  case hj=>
   intro ps hps
   refine dW ?_ hps
   have e4:=fB hP
   have len3:=jj P (am (row.take i))
   refine ae (fg 1 rfl (aa 2 rfl) (by rw [Co,Do]; exact aO (by omega)) (aJ ?_))
   refine ⟨_,rfl,rfl,?_,trivial⟩
   exact congrArg (fun l=> some (Sl.own l)) (by rw [e4]; simp)
 case hd=>
  rintro st ps hst hps
  refine dW ?_ hps
  refine ae (jB 1 rfl ?_)
  rw [hst]
  simp
def mV:List U→Out→Prop:=fun us o=> ∃ pts:List P2,us=[lp pts]∧(∀ p∈pts,Szp 5000 p)∧pts.length < 64∧o=.new ((aj pts).map pu)
theorem ve {pts:List P2} (h:(ST.srt pts).length=2):aj pts=ST.srt pts:=by
 match e:ST.srt pts,h with
 | [a,b],_=>
  unfold aj
  rw [e]
  simp [am,bg]
set_option maxHeartbeats 8000000 in
theorem fD (T:Txt K mg):bo P w K mg base (CXF P w) 3 T.a__law_corners T.d__law_corners ["points"] (spU K (mV)):=by
 refine br T.F__law_corners dR (fun us o h=> ?_) (fun cdv A outer s H E O us o hr h=> ?_)
 ·obtain ⟨pts,rfl,sz,hl,rfl⟩:=h
  rfl
 obtain ⟨pts,rfl,sz,hl,rfl⟩:=h
 refine Ws.nox ?_
 have sl:=ST.srt_len pts
 have hms:(((ST.srt pts).map pu).length:Int)=((ST.srt pts).length:Int):=by rw [Co]
 have szs:=uq sz
 by_cases h1:(ST.srt pts).length < 3
 ·refine ae (ko (i:=1) dR.nd rfl (Or.inl rfl) (gv rfl (oI hr) rfl T.z_sorted rfl T.z_set (aa 0 rfl) hl ah) ?_)
  refine ae (dG (aF eN (fP 1 rfl rfl T.z_len) ag) (by rw [hms]; exact decide_eq_true (by omega)) ?_)
  refine ae (jB 1 rfl ?_)
  have ec:aj pts=ST.srt pts:=by
   by_cases h2:(ST.srt pts).length=2
   ·exact ve h2
   ·exact fo (by omega)
  rw [ec]
 ·refine ae (ay (i:=1) dR.nd rfl (Or.inl rfl) (EvN.ev (gv rfl (oI hr) rfl T.z_sorted rfl T.z_set (aa 0 rfl) hl ah)) ?_)
  refine ae (dF (aF eN (ao (di rfl) rfl T.z_len Dq (ac (aa 1 rfl) ak ah)) ag) (by rw [hms]; exact decide_eq_false (by omega)) (aJ ?_))
  have b1:=g7 (ST.srt pts)
  have b2:=g7 (ST.srt pts).reverse
  rw [Do] at b2
  refine ae (gU (wD (EvN.ev (gl (EvN.ev (cH ((iu T).mono (by decide)) hr rfl T.m__law_half T.F__law_half.kp T.b__law_half aC (ac (aa 1 rfl) ak ah) ⟨ST.srt pts,rfl,szs,by omega,rfl⟩)) iF (iA (ck ag)) (.inl rfl))) (EvN.ev (gl (EvN.ev (cH ((iu T).mono (by decide)) hr rfl T.m__law_half T.F__law_half.kp T.b__law_half aC (ac (EvN.ev (t8 rfl rfl T.z_list rfl T.z_reversed (aa 1 rfl) ah)) ak bn) ⟨(ST.srt pts).reverse,by rw [lp,Ek],fun p hp=> szs p (CI.mp hp),by rw [Do]; omega,rfl⟩)) iF (iA (ck ag)) (.inl rfl))) (by rw [fR,fR,Co,Co,Ei,Ei,Do,Do]; exact DF (aO (by omega)))) ?_)
  show Out.new _=Out.new _
  unfold aj
  rw [if_neg (by omega),fR,fR,← Di]
end
section
variable {P:Program} {w:World} {K:Cn} {mg:Str→Option Value} {base:Heap}
def cel (ns:List Int) (k:Int):Int:=if k < (ns.length:Int) then ns.getD k.toNat 0 else 7 * k * k+3 * k+1
theorem ge {ns:List Int} (h:∀ m∈ns,Sz 1048576 m) {k:Int} (h0:0≤k) (h1:k < 1000):Sz 1048576 (cel ns k):=by
 unfold cel
 split
 ·exact yj h _
 ·refine Sz.mono (m:=100) ?_ (by decide)
  have:7 * k * k≤7 * 1000 * 1000:=by
   have:k * k≤1000 * 1000:=Int.mul_le_mul (by omega) (by omega) h0 (by omega)
   rw [GX]; omega
  have h2:0≤7 * k * k:=Cs (by omega) h0
  unfold Sz; omega
def tY:List U→Out→Prop:=fun us o=> ∃ (ns:List Int) (k:Int),us=[.scr (ns.map U.int),.int k]∧ns.length≤63∧0≤k∧k < 1000∧o=.val (.int (cel ns k))
set_option maxHeartbeats 8000000 in
theorem bw (T:Txt K mg):bo P w K mg base (CXF P w) 1 T.a__law_cell T.d__law_cell ["script","k"] (spU K (tY)):=by
 refine br T.F__law_cell lQ (fun us o h=> ?_) (fun cdv A outer s H E O us o hr h=> ?_)
 ·obtain ⟨ns,k,rfl,hl,h0,h1,rfl⟩:=h
  rfl
 obtain ⟨ns,k,rfl,hl,h0,h1,rfl⟩:=h
 refine Ws.nox ?_
 have sk:Sz 64 k:=by unfold Sz; omega
 have hm:((ns.map U.int).length:Int)=(ns.length:Int):=by rw [Co]
 refine ae (fc (aF eN (aa 1 rfl) (ao (di rfl) rfl T.z_len Dq (ac (aa 0 rfl) ak ah))) (fun hT=> ?_) (fun hF=> (aJ ?_)))
 ·rw [hm] at hT
  have hk:=dTb hT
  refine ae (aI (aE (aa 0 rfl) (aa 1 rfl) rfl (uC h0 hk)) ?_)
  exact vIO (by unfold cel; rw [if_pos hk])
 ·rw [hm] at hF
  have hk:=dFb hF
  refine ae (aI (bC (bC (aU (aU ag (aa 1 rfl) (by walk_at "mul")) (aa 1 rfl) (by walk_at "mul")) (aU ag (aa 1 rfl) (by walk_at "mul"))) ag) ?_)
  exact vIO (by unfold cel; rw [if_neg hk])
theorem Cg {m:Nat} {x y:Int} (h:0≤y) (sy:Sz m y):Sz m (x % (2 * y+1) - y):=by
 have h1:=DA x (show 2 * y+1≠0 by omega)
 have h2:=C6 x (show 0 < 2 * y+1 by omega)
 generalize x % (2 * y+1)=z at *
 refine Sz.le ?_ sy
 omega
theorem wE {l:List P2} {j:Nat} (h:j < l.length):atI (l.map pu) ((0+(j:Int)+1) % ((l.map pu).length:Int))=some (pu (nxt l j)):=by
 have e:(0+(j:Int)+1) % ((l.map pu).length:Int)=(((j+1) % l.length:Nat):Int):=by
  rw [Co,Hn]; simp
 rw [e]
 exact we rfl (DV _ (by omega))
theorem j8 {l:List P2} {i:Nat} (h:i < l.length):(sdl l).take (i+1)=(sdl l).take i++[(gp l i,nxt l i)]:=by
 rw [E8]
 congr 1
 unfold sdl
 rw [Ct,EH h]; rfl
def u_:List U→Out→Prop:=fun us o=> ∃ a b:Int,us=[.int a,.int b]∧o=.val (.int (EU a b))
theorem uQ (a:Int):(if a < 0 then -a else a)=(a.natAbs:Int):=by split <;> omega
set_option maxHeartbeats 8000000 in
theorem i9 (T:Txt K mg):bo P w K mg base (CXF P w) 1 T.a__law_divisor T.d__law_divisor ["one","other"] (spU K (u_)):=by
 refine br T.F__law_divisor cM (fun us o h=> ?_) (fun cdv A outer s H E O us o hr h=> ?_)
 ·obtain ⟨a,b,rfl,rfl⟩:=h
  rfl
 obtain ⟨a,b,rfl,rfl⟩:=h
 refine Ws.nox ?_
 refine ae (ay (i:=0) cM.nd rfl (Or.inl rfl) (ao kY rfl T.z_abs PyProof.Rows.boot_abs (ac (aa 0 rfl) ak ah)) ?_)
 refine ae (ay (i:=1) cM.nd rfl (Or.inl rfl) (ao kY rfl T.z_abs PyProof.Rows.boot_abs (ac (aa 1 rfl) ak ah)) ?_)
 rw [uQ,uQ]
 refine ae (e_ (fun q:Nat×Nat=> [some (.val (.int (q.1:Int))),some (.val (.int (q.2:Int)))]) (fun m q=> m=q.2∧Nat.gcd q.1 q.2=EU a b) PassesOwn.never ?h0 ?hs)
 case h0=> exact ⟨_,(a.natAbs,b.natAbs),⟨rfl,rfl⟩,rfl,rfl,trivial⟩
 case hs=>
  rintro m ⟨x,y⟩ ⟨hm,hg⟩
  dsimp only at hm hg ⊢
  refine ⟨decide ((0:Int) < (y:Int)),(aF i6 (aa 1 rfl) ag),fun h=> ?_,fun h ps hps=> ?_⟩
  ·have hy:=dTb h
   refine ae (A1 (i:=0) (j:=1) rfl cM.nd rfl rfl (by decide) rfl rfl (ac (aa 1 rfl) (ac (bX (aa 0 rfl) (aa 1 rfl) (by walk_at "mod")) ak aZ) ah) rfl (aJ ?_))
   refine ⟨x % y,(y,x % y),by rw [hm]; exact DV _ (by omega),⟨rfl,?_⟩,?_,?_,trivial⟩
   ·rw [← hg,Jr y,← Nat.gcd_rec,Jr]
   ·rfl
   ·exact congrArg (fun z=> some (Sl.val (.int z))) (by simp)
  ·have hy:y=0:=by have:=dFb h; omega
   refine dW ?_ hps
   refine ae (aI (aa 0 rfl) ?_)
   subst hy
   exact vIO (by rw [← hg]; simp)
end
section
variable {P:Program} {w:World} {K:Cn} {mg:Str→Option Value} {base:Heap}
theorem rc (l:List Int):eqW (.lst (l.map U.int)) (.lst [])=decide (l=[]):=by
 cases l with
 | nil=> rfl
 | cons a l=> simp [eqW,eqWs]
def gr (c:Int):Int:=if c % 3=0 then c / 3 * 48271 * 982451653 % (2 * 10 ^ (40:Int).toNat+1) - 10 ^ (40:Int).toNat else c / 3 % 41 - 20
theorem qV (c:Int):Sz 134 (gr c):=by
 unfold gr
 split
 ·exact Cg (by decide+kernel) (by decide+kernel)
 ·refine Sz.mono (m:=8) ?_ (by decide)
  unfold Sz; omega
def xF:List U→Out→Prop:=fun us o=> ∃ c:Int,us=[.int c]∧Sz 1048576 c∧o=.val (.int (gr c))
set_option maxHeartbeats 8000000 in
theorem cJ (T:Txt K mg):bo P w K mg base (CXF P w) 1 T.a__law_great T.d__law_great ["cell"] (spU K (xF)):=by
 refine br T.F__law_great kF (fun us o h=> ?_) (fun cdv A outer s H E O us o hr h=> ?_)
 ·obtain ⟨c,rfl,sc,rfl⟩:=h
  rfl
 obtain ⟨c,rfl,sc,rfl⟩:=h
 refine Ws.nox ?_
 have d3:Sz 1048576 (c / 3):=sc.ediv
 unfold gr
 refine ae (fc (aF dU (bX (aa 0 rfl) ag (by walk_at "mod")) ag) (fun hT=> ?_) (fun hF=> (aJ ?_)))
 ·refine ae (aI (ba (bX (aU (aU (b_ (aa 0 rfl) ag (by walk_at "div")) ag (by walk_at "mul")) ag (by walk_at "mul")) (bC (aU ag (oQ ag ag ⟨by decide,by decide,by decide⟩) (by walk_at "mul")) ag) (by decide+kernel)) (oQ ag ag ⟨by decide,by decide,by decide⟩)) ?_)
  rw [if_pos (dTb hT)]
 ·refine ae (aI (ba (bX (b_ (aa 0 rfl) ag (by walk_at "div")) ag (by walk_at "mod")) ag) ?_)
  rw [if_neg (dFb hF)]
def lnQ (ns:List Int):Int:=cel ns 5
def ptQ (ns:List Int) (i:Nat):P2:=if lnQ ns % 5=1 then (gr (cel ns (6+(i:Int) * 2)) * (lnQ ns / 5 % 4),gr (cel ns (6+(i:Int) * 2)) * (lnQ ns / 20 % 9 - 4)+lnQ ns / 180 % 7) else (gr (cel ns (6+(i:Int) * 2)),gr (cel ns (6+(i:Int) * 2+1)))
theorem zY (ns:List Int) (i:Nat):Szp 150 (ptQ ns i):=by
 have a:=qV (cel ns (6+(i:Int) * 2))
 have b:=qV (cel ns (6+(i:Int) * 2+1))
 have s1:Sz 8 (lnQ ns / 5 % 4):=by unfold Sz; omega
 have s2:Sz 8 (lnQ ns / 20 % 9 - 4):=by unfold Sz; omega
 have s3:Sz 8 (lnQ ns / 180 % 7):=by unfold Sz; omega
 unfold ptQ
 split
 ·exact ⟨(L2.Sz.mul a s1).mono (by decide),(L2.Sz.add' (L2.Sz.mul a s2) (s3.mono (n:=142) (by decide))).mono (by decide)⟩
 ·exact ⟨a.mono (by decide),b.mono (by decide)⟩
def qj (ns:List Int):Nat:=fU 6 ((max 9 (min ns.length 60):Nat):Int) 2
theorem qx (ns:List Int):1≤qj ns∧qj ns≤28:=by
 unfold qj fU
 split <;> omega
def kK (ns:List Int):List P2:=(Df (qj ns)).map (ptQ ns)
theorem rq (ns:List Int):∀ p∈kK ns,Szp 150 p:=fun p hp=> by
 obtain ⟨i,_,rfl⟩:=Cr.mp hp
 exact zY ns i
theorem wu (ns:List Int):(kK ns).length=qj ns:=by unfold kK; simp
def w8:List U→Out→Prop:=fun us o=> ∃ (ns:List Int),us=[.scr (ns.map U.int)]∧ns.length≤63∧(∀ m∈ns,Sz 1048576 m)∧o=.new ((kK ns).map pu)
set_option maxHeartbeats 8000000 in
theorem kC (T:Txt K mg):bo P w K mg base (CXF P w) 2 T.a__law_points T.d__law_points ["script"] (spU K (w8)):=by
 refine br T.F__law_points bB (fun us o h=> ?_) (fun cdv A outer s H E O us o hr h=> ?_)
 ·obtain ⟨ns,rfl,hl,hB,rfl⟩:=h
  rfl
 obtain ⟨ns,rfl,hl,hB,rfl⟩:=h
 refine Ws.nox ?_
 have hm:((ns.map U.int).length:Int)=(ns.length:Int):=by rw [Co]
 have c4:=ge hB (k:=5) (by decide) (by decide)
 have hb:(if (if (60:Int) < ((ns.map U.int).length:Int) then (60:Int) else ((ns.map U.int).length:Int)) > 9 then (if (60:Int) < ((ns.map U.int).length:Int) then (60:Int) else ((ns.map U.int).length:Int)) else 9)=((max 9 (min ns.length 60):Nat):Int):=by
  rw [hm]
  split <;> split <;> omega
 have hn:=qx ns
 refine ae (ay (i:=1) bB.nd rfl (Or.inl rfl) (aB ((bw T).mono (by decide)) hr rfl T.m__law_cell T.F__law_cell.kp T.b__law_cell aC (ac (aa 0 rfl) (ac ag ak bT) ah) ⟨ns,_,rfl,hl,by decide,by decide,rfl⟩) ?_)
 rw [show cel ns 5=lnQ ns from rfl] at *
 refine ae (ko (i:=2) bB.nd rfl (Or.inl rfl) (fN cE) ?_)
 refine ae (jJ (fun i:Nat=> [some (.val (.scr (ns.map U.int))),some (.val (.int (lnQ ns))),some (.own (((Df i).map (ptQ ns)).map pu)),none,none,none]) (fun i j=> i=j) rfl PassesOwn.never (uA rfl T.z_range (ac ag (ac (ao (rJ rfl) rfl T.z_max boot_max (ac ag (ac (ao (u3 rfl) rfl T.z_min boot_min (ac (ao (di rfl) rfl T.z_len Dq (ac (aa 0 rfl) ak ah)) (ac ag ak bT) bn)) ak bn) bT)) (ac ag ak bT) bn) bT) (by rw [hb]; omega)) ?h0 ?hs ?hd)
 case h0=> exact ⟨0,rfl,rfl,rfl,rfl,trivial⟩
 case hs=>
  rintro H0 i x _ hx rfl
  rw [hb] at hx
  obtain ⟨hi,rfl⟩:=o4 hx
  have hi':i < qj ns:=hi
  refine ⟨_,(j6 (i:=3) bB.nd rfl (Or.inl rfl)),?_⟩
  have c1:=ge hB (k:=6+(i:Int) * 2) (by omega) (by omega)
  have c2:=ge hB (k:=6+(i:Int) * 2+1) (by omega) (by omega)
  have room:(((Df i).map (ptQ ns)).map pu).length≤1000:=by simp; omega
  have fin:∀ {x y:Int},ptQ ns i=(x,y)→((Df i).map (ptQ ns)).map pu++[pt x y]=((Df (i+1)).map (ptQ ns)).map pu:=fun {x y} e=> by
   rw [FD,Di,Di]
   simp only [CZ,Hc]
   rw [e]
  refine ae (ay (i:=4) bB.nd rfl (Or.inl rfl) (aB ((cJ T).mono (by decide)) hr rfl T.m__law_great T.F__law_great.kp T.b__law_great aC (ac (aB ((bw T).mono (by decide)) hr rfl T.m__law_cell T.F__law_cell.kp T.b__law_cell aC (ac (aa 0 rfl) (ac (aa 3 rfl) ak ah) ah) ⟨ns,_,rfl,hl,by omega,by omega,rfl⟩) ak bn) ⟨_,rfl,c1,rfl⟩) ?_)
  refine ae (ay (i:=5) bB.nd rfl (Or.inl rfl) (aB ((cJ T).mono (by decide)) hr rfl T.m__law_great T.F__law_great.kp T.b__law_great aC (ac (aB ((bw T).mono (by decide)) hr rfl T.m__law_cell T.F__law_cell.kp T.b__law_cell aC (ac (aa 0 rfl) (ac (bC (aa 3 rfl) ag) ak aZ) ah) ⟨ns,_,rfl,hl,by omega,by omega,rfl⟩) ak bn) ⟨_,rfl,c2,rfl⟩) ?_)
  have g1:=qV (cel ns (6+(i:Int) * 2))
  have s1:Sz 8 (lnQ ns / 5 % 4):=by unfold Sz; omega
  have s2:Sz 8 (lnQ ns / 20 % 9 - 4):=by unfold Sz; omega
  by_cases h5:lnQ ns % 5=1
  ·refine ae (dG (aF dU (bX (aa 1 rfl) ag (by walk_at "mod")) ag) (decide_eq_true h5) ?_)
   refine ae (ay (i:=5) bB.nd rfl (Or.inl rfl) (bC (aU (aa 4 rfl) (ba (bX (b_ (aa 1 rfl) ag (by walk_at "div")) ag (by walk_at "mod")) ag) (by walk_at "mul")) (bX (b_ (aa 1 rfl) ag (by walk_at "div")) ag (by walk_at "mod"))) ?_)
   refine ae (ay (i:=4) bB.nd rfl (Or.inl rfl) (aU (aa 4 rfl) (bX (b_ (aa 1 rfl) ag (by walk_at "div")) ag (by walk_at "mod")) (by walk_at "mul")) (aJ ?_))
   refine ae (fg 2 rfl (c_ (aX (aa 4 rfl) (aX (aa 5 rfl) cE ah) ah)) (aO room) (aJ ?_))
   refine ⟨i+1,rfl,rfl,rfl,?_,trivial⟩
   exact congrArg (fun l=> some (Sl.own l)) (fin (by unfold ptQ; rw [if_pos h5]))
  ·refine ae (dF (aF dU (bX (aa 1 rfl) ag (by walk_at "mod")) ag) (decide_eq_false h5) (aJ ?_))
   refine ae (fg 2 rfl (c_ (aX (aa 4 rfl) (aX (aa 5 rfl) cE ah) ah)) (aO room) (aJ ?_))
   refine ⟨i+1,rfl,rfl,rfl,?_,trivial⟩
   exact congrArg (fun l=> some (Sl.own l)) (fin (by unfold ptQ; rw [if_neg h5]))
 case hd=>
  rintro q ps hq hps
  refine dW ?_ hps
  rw [hb,fV] at hq
  have:q=qj ns:=hq.symm
  subst this
  refine ae (jB 2 rfl ?_)
  exact rfl
end
section
variable {P:Program} {w:World} {K:Cn} {mg:Str→Option Value} {base:Heap}
def twA (l:List P2) (i:Nat):Int:=(((sdl l).take i).map crs).sum
def edA (l:List P2) (i:Nat):Int:=(((sdl l).take i).map gst).sum
theorem uh {l:List P2} {i:Nat} (h:i < l.length):twA l (i+1)=twA l i+crs (gp l i,nxt l i):=by
 unfold twA
 rw [j8 h,Di,iy]; simp
theorem uF {l:List P2} {i:Nat} (h:i < l.length):edA l (i+1)=edA l i+gst (gp l i,nxt l i):=by
 unfold edA
 rw [j8 h,Di,iy]; simp
theorem qz (l:List P2):twA l l.length=area l∧edA l l.length=fZ l:=by
 unfold twA edA area fZ
 rw [E9 (by rw [ij]; exact Cv _)]
 exact ⟨rfl,rfl⟩
def oC:List U→Out→Prop:=fun us o=> ∃ (l:List P2),us=[lp l]∧l≠[]∧l.length≤900∧(∀ q∈l,Szp 5000 q)∧o=.val (.int (pK l))
set_option maxHeartbeats 8000000 in
theorem iX (T:Txt K mg):bo P w K mg base (CXF P w) 2 T.a__law_all T.d__law_all ["land"] (spU K (oC)):=by
 refine br T.F__law_all bY (fun us o h=> ?_) (fun cdv A outer s H E O us o hr h=> ?_)
 ·obtain ⟨l,rfl,hne,hl,sz,rfl⟩:=h
  rfl
 obtain ⟨l,rfl,hne,hl,sz,rfl⟩:=h
 refine Ws.nox ?_
 have hm:((l.map pu).length:Int)=(l.length:Int):=by rw [Co]
 have h0:0 < l.length:=DM.mpr hne
 unfold pK
 by_cases h1:l.length=1
 ·refine ae (dG (aF dU (ao (di rfl) rfl T.z_len Dq (ac (aa 0 rfl) ak ah)) ag) (by rw [hm]; exact decide_eq_true (by omega)) ?_)
  refine ae (aI ag ?_)
  rw [if_pos h1]
 ·refine ae (dF (aF dU (ao (di rfl) rfl T.z_len Dq (ac (aa 0 rfl) ak ah)) ag) (by rw [hm]; exact decide_eq_false (by omega)) (aJ ?_))
  refine ae (ay (i:=1) bY.nd rfl (Or.inl rfl) ag ?_)
  refine ae (ay (i:=2) bY.nd rfl (Or.inl rfl) ag ?_)
  refine ae (jJ (fun i:Nat=> [some (.val (lp l)),some (.val (.int (twA l i))),some (.val (.int (edA l i))),none,none,none]) (fun i j=> i=j) rfl PassesOwn.never (ou rfl T.z_range (ac (ao (di rfl) rfl T.z_len Dq (ac (aa 0 rfl) ak ah)) ak bn) (by rw [hm]; omega) (by rw [hm]; omega)) ?h0 ?hs ?hd)
  case h0=> exact ⟨0,rfl,rfl,rfl,rfl,trivial⟩
  case hs=>
   rintro H0 i x _ hx rfl
   obtain ⟨hi,rfl⟩:=jy hx
   have hi':i < l.length:=by omega
   have hz:(i+1) % l.length < l.length:=DV _ (by omega)
   have z1:=(sz _ (du hi')).1
   have z2:=(sz _ (du hi')).2
   have z3:Sz 5000 (nxt l i).1:=(sz _ (du hz)).1
   have z4:Sz 5000 (nxt l i).2:=(sz _ (du hz)).2
   refine ⟨_,(j6 (i:=3) bY.nd rfl (Or.inl rfl)),?_⟩
   refine ae (ay (i:=4) bY.nd rfl (Or.inl rfl) (aE (aa 0 rfl) (aa 3 rfl) rfl (we (i:=i) (by omega) hi')) ?_)
   refine ae (ay (i:=5) bY.nd rfl (Or.inl rfl) (aE (aa 0 rfl) (bX (bC (aa 3 rfl) ag) (ao (di rfl) rfl T.z_len Dq (ac (aa 0 rfl) ak ah)) (by rw [hm]; omega)) rfl (wE hi')) ?_)
   refine ae (ay (i:=1) bY.nd rfl (Or.inl rfl) (ba (bC (aa 1 rfl) (aU (aE (aa 4 rfl) ag rfl rfl) (aE (aa 5 rfl) ag rfl rfl) (by walk_at "mul"))) (aU (aE (aa 4 rfl) ag rfl rfl) (aE (aa 5 rfl) ag rfl rfl) (by walk_at "mul"))) ?_)
   refine ae (ay (i:=2) bY.nd rfl (Or.inl rfl) (bC (aa 2 rfl) (aB ((i9 T).mono (by decide)) hr rfl T.m__law_divisor T.F__law_divisor.kp T.b__law_divisor aC (ac (ba (aE (aa 5 rfl) ag rfl rfl) (aE (aa 4 rfl) ag rfl rfl)) (ac (ba (aE (aa 5 rfl) ag rfl rfl) (aE (aa 4 rfl) ag rfl rfl)) ak aZ) aZ) ⟨_,_,rfl,rfl⟩)) (aJ ?_))
   refine ⟨i+1,rfl,rfl,?_,?_,trivial⟩
   ·exact congrArg (fun z=> some (Sl.val (.int z))) (by rw [uh hi']; unfold crs; dsimp only; omega)
   ·exact congrArg (fun z=> some (Sl.val (.int z))) (by rw [uF hi']; rfl)
  case hd=>
   rintro q ps hq hps
   refine dW ?_ hps
   rw [fm] at hq
   have:q=l.length:=by omega
   subst this
   rw [(qz l).1,(qz l).2]
   refine ae (aI (bC (b_ (bC (aa 1 rfl) (aa 2 rfl)) ag (by walk_at "div")) ag) ?_)
   rw [if_neg h1]
end
section
variable {P:Program} {w:World} {K:Cn} {mg:Str→Option Value} {base:Heap}
end
section
variable {P:Program} {w:World} {K:Cn} {mg:Str→Option Value} {base:Heap}
theorem p5 (L:List (P2×P2)) (s:P2×P2) (c:Int):dS (L++[s]) c=dS L c++(if s.1.1 < s.2.1 then [sS c s] else []):=by
 unfold dS
 rw [HJ,Di]
 congr 1
 by_cases h:s.1.1 < s.2.1
 ·rw [if_pos h,C_ (by simpa using h)]; rfl
 ·rw [if_neg h,C9 (by simpa using h)]; rfl
theorem qr (L:List (P2×P2)) (s:P2×P2) (c:Int):cF (L++[s]) c=cF L c++(if s.2.1 < s.1.1 then [sY c s] else []):=by
 unfold cF
 rw [HJ,Di]
 congr 1
 by_cases h:s.2.1 < s.1.1
 ·rw [if_pos h,C_ (by simpa using h)]; rfl
 ·rw [if_neg h,C9 (by simpa using h)]; rfl
theorem s_ (l:List P2) (i:Nat) (c:Int):(dS ((sdl l).take i) c).length≤i:=by
 unfold dS
 rw [Co]
 exact DK (Ho _ _) (by rw [FW]; omega)
theorem tG (l:List P2) (i:Nat) (c:Int):(cF ((sdl l).take i) c).length≤i:=by
 unfold cF
 rw [Co]
 exact DK (Ho _ _) (by rw [FW]; omega)
def wV:List U→Out→Prop:=fun us o=> ∃ (l:List P2) (c:Int),us=[lp l,.int c]∧l≠[]∧l.length≤900∧(∀ q∈l,Szp 1000 q)∧Sz 1000 c∧o=.val (.int (wd l c))
set_option maxHeartbeats 8000000 in
theorem ii (T:Txt K mg):bo P w K mg base (CXF P w) 1 T.a__law_in_column T.d__law_in_column ["land","c"] (spU K (wV)):=by
 refine br T.F__law_in_column av (fun us o h=> ?_) (fun cdv A outer s H E O us o hr h=> ?_)
 ·obtain ⟨l,c,rfl,hne,hl,sz,sc,rfl⟩:=h
  rfl
 obtain ⟨l,c,rfl,hne,hl,sz,sc,rfl⟩:=h
 refine Ws.nox ?_
 have hm:((l.map pu).length:Int)=(l.length:Int):=by rw [Co]
 have h0:0 < l.length:=DM.mpr hne
 refine ae (ko (i:=2) av.nd rfl (Or.inl rfl) (fN cE) ?_)
 refine ae (ko (i:=3) av.nd rfl (Or.inl rfl) (fN cE) ?_)
 refine ae (jJ (fun i:Nat=> [some (.val (lp l)),some (.val (.int c)),some (.own ((dS ((sdl l).take i) c).map U.int)),some (.own ((cF ((sdl l).take i) c).map U.int)),none,none,none,none,none,none]) (fun i j=> i=j) rfl PassesOwn.never (ou rfl T.z_range (ac (ao (di rfl) rfl T.z_len Dq (ac (aa 0 rfl) ak ah)) ak bn) (by rw [hm]; omega) (by rw [hm]; omega)) ?h0 ?hs ?hd)
 case h0=> exact ⟨0,rfl,rfl,rfl,rfl,rfl,trivial⟩
 case hs=>
  rintro H0 i x _ hx rfl
  obtain ⟨hi,rfl⟩:=jy hx
  have hi':i < l.length:=by omega
  have hz:(i+1) % l.length < l.length:=DV _ (by omega)
  have z1:=(sz _ (du hi')).1
  have z2:=(sz _ (du hi')).2
  have z3:Sz 1000 (nxt l i).1:=(sz _ (du hz)).1
  have z4:Sz 1000 (nxt l i).2:=(sz _ (du hz)).2
  have lw:=s_ l i c
  have hw:=tG l i c
  have el:=p5 ((sdl l).take i) (gp l i,nxt l i) c
  have eh:=qr ((sdl l).take i) (gp l i,nxt l i) c
  rw [← j8 hi'] at el eh
  dsimp only at el eh
  refine ⟨_,(j6 (i:=4) av.nd rfl (Or.inl rfl)),?_⟩
  refine ae (ay (i:=5) av.nd rfl (Or.inl rfl) (aE (aa 0 rfl) (aa 4 rfl) rfl (we (i:=i) (by omega) hi')) ?_)
  refine ae (ay (i:=6) av.nd rfl (Or.inl rfl) (aE (aa 0 rfl) (bX (bC (aa 4 rfl) ag) (ao (di rfl) rfl T.z_len Dq (ac (aa 0 rfl) ak ah)) (by rw [hm]; omega)) rfl (wE hi')) ?_)
  have zr:Sz 1001 ((nxt l i).1 - (gp l i).1):=(L2.Sz.sub' z3 z1).mono (by decide)
  refine ae (ay (i:=7) av.nd rfl (Or.inl rfl) (bC (aU (aE (aa 5 rfl) ag rfl rfl) (ba (aE (aa 6 rfl) ag rfl rfl) (aE (aa 5 rfl) ag rfl rfl)) (by walk_at "mul")) (aU (ba (aE (aa 6 rfl) ag rfl rfl) (aE (aa 5 rfl) ag rfl rfl)) (ba (aa 1 rfl) (aE (aa 5 rfl) ag rfl rfl)) (by walk_at "mul"))) ?_)
  rw [show (gp l i).2 * ((nxt l i).1 - (gp l i).1)+((nxt l i).2 - (gp l i).2) * (c - (gp l i).1)=t6 (gp l i,nxt l i) c from rfl]
  refine gO (fun ps=> SubP [some (.val (lp l)),some (.val (.int c)),some (.own ((dS ((sdl l).take (i+1)) c).map U.int)),some (.own ((cF ((sdl l).take i) c).map U.int)),none,some (.val (pu (gp l i))),some (.val (pu (nxt l i))),some (.val (.int (t6 (gp l i,nxt l i) c))),none,none] ps) (fc (aF i6 (aE (aa 6 rfl) ag rfl rfl) (aE (aa 5 rfl) ag rfl rfl)) (fun hT=> ?_) (fun hF=> (aJ ?_))) ?hj
  ·have h:=dTb hT
   refine ae (fg 2 rfl (ck (b_ (ck (aa 7 rfl)) (ba (aE (aa 6 rfl) ag rfl rfl) (aE (aa 5 rfl) ag rfl rfl)) ⟨by omega,zr.mono (by decide)⟩)) (by rw [Co]; exact aO (by omega)) (aJ ?_))
   refine ⟨rfl,rfl,?_,rfl,rfl,rfl,rfl,trivial⟩
   exact congrArg (fun l=> some (Sl.own l)) (by rw [el,if_pos h,Di]; rfl)
  ·have h:=dFb hF
   refine ⟨rfl,rfl,?_,rfl,rfl,rfl,rfl,trivial⟩
   exact congrArg (fun l=> some (Sl.own l)) (by rw [el,if_neg h,EF])
  case hj=>
   intro ps hps
   refine dW ?_ hps
   refine ae (fc (aF eN (aE (aa 6 rfl) ag rfl rfl) (aE (aa 5 rfl) ag rfl rfl)) (fun hT=> ?_) (fun hF=> (aJ (aJ ?_))))
   ·have h:=dTb hT
    refine ae (fg 3 rfl (mI (aa 7 rfl) (ba (aE (aa 6 rfl) ag rfl rfl) (aE (aa 5 rfl) ag rfl rfl)) ⟨by omega,zr.mono (by decide)⟩) (by rw [Co]; exact aO (by omega)) (aJ (aJ ?_)))
    refine ⟨i+1,rfl,rfl,rfl,rfl,?_,trivial⟩
    exact congrArg (fun l=> some (Sl.own l)) (by rw [eh,if_pos h,Di]; rfl)
   ·have h:=dFb hF
    refine ⟨i+1,rfl,rfl,rfl,rfl,?_,trivial⟩
    exact congrArg (fun l=> some (Sl.own l)) (by rw [eh,if_neg h,EF])
 case hd=>
  rintro q ps hq hps
  refine dW ?_ hps
  rw [fm] at hq
  have hq':q=l.length:=by omega
  subst hq'
  rw [E9 (show (sdl l).length≤l.length by rw [ij]; exact Cv _)]
  refine wq 2 rfl ?_
  refine wq 3 rfl ?_
  have hx:l.map (·.1)≠[]:=by simpa using hne
  have hy:l.map (·.2)≠[]:=by simpa using hne
  have lx:loX l∈l.map (·.1)∧∀ a∈l.map (·.1),loX l≤a:=bJ hx
  have gx:hiX l∈l.map (·.1)∧∀ a∈l.map (·.1),a≤hiX l:=bV hx
  have ly:loY l∈l.map (·.2)∧∀ a∈l.map (·.2),loY l≤a:=bJ hy
  have gy:hiY l∈l.map (·.2)∧∀ a∈l.map (·.2),a≤hiY l:=bV hy
  have dm:∀ x∈l.map pu,∃ us,x=U.tup us∧us.length=2:=fun x hx=> by
   obtain ⟨p,_,rfl⟩:=Cr.mp hx
   exact ⟨_,rfl,rfl⟩
  unfold wd
  refine ae (fc (Tw.t (nG (aF eN (aa 1 rfl) (ao (lR rfl lx) rfl T.z_min boot_min (ac (EvN.ev (eO (ys:=((l.map (·.1)).map U.int)) rfl (blk (ai aN) ["land","c","lows","highs","k","a","b","top","x","y"] [8,9] rfl rfl rfl rfl (by decide+kernel)) (cY (aa 0 rfl) (.inl rfl)) (fun _ _ _ _=> eQ rfl (aW (aT (i:=8) av.nd rfl (Or.inl rfl)) (aW (aT (i:=9) av.nd rfl (Or.inl rfl)) cO))) (dY (js:=[8,9]) (by decide)) (by simp) (by rw [Co]; exact DF (aO (by omega))) (fun x hx=> by obtain ⟨p,_,rfl⟩:=Cr.mp hx; exact ⟨_,rfl,rfl⟩) (fun C s' H' fp j x y hx hy=> by rw [Dz] at hy; obtain ⟨p,hp,mp,rfl,rfl⟩:=df hx hy; exact (aa 8 rfl)))) ak dB))) (fun hz=> (n_ (aF i6 (aa 1 rfl) (ao (m9 rfl gx) rfl T.z_max boot_max (ac (EvN.ev (eO (ys:=((l.map (·.1)).map U.int)) rfl (blk (ai aN) ["land","c","lows","highs","k","a","b","top","x","y"] [8,9] rfl rfl rfl rfl (by decide+kernel)) (cY (aa 0 rfl) (.inl rfl)) (fun _ _ _ _=> eQ rfl (aW (aT (i:=8) av.nd rfl (Or.inl rfl)) (aW (aT (i:=9) av.nd rfl (Or.inl rfl)) cO))) (dY (js:=[8,9]) (by decide)) (by simp) (by rw [Co]; exact DF (aO (by omega))) (fun x hx=> by obtain ⟨p,_,rfl⟩:=Cr.mp hx; exact ⟨_,rfl,rfl⟩) (fun C s' H' fp j x y hx hy=> by rw [Dz] at hy; obtain ⟨p,hp,mp,rfl,rfl⟩:=df hx hy; exact (aa 8 rfl)))) ak dB))))))) (fun hT=> ?_) (fun hF=> (aJ ?_)))
  ·refine ae (aI ag ?_)
   refine vIO ?_
   rw [if_pos]
   simpa using hT
  ·have hc:¬ (c < loX l∨hiX l < c):=by simpa using hF
   rw [if_neg hc]
   by_cases he:cF (sdl l) c=[]
   ·rw [if_pos he]
    refine ae (dG (aF (Bz (oI hr) (oe fun _=> rfl) rfl) (aa 3 rfl) (EvN.ev (fN cE))) (by rw [rc,decide_eq_true he]) ?_)
    refine ae (aI (bC (ba (ao (m9 rfl gy) rfl T.z_max boot_max (ac (EvN.ev (eO (ys:=((l.map (·.2)).map U.int)) rfl (blk (ai aN) ["land","c","lows","highs","k","a","b","top","x","y"] [8,9] rfl rfl rfl rfl (by decide+kernel)) (cY (aa 0 rfl) (.inl rfl)) (fun _ _ _ _=> eQ rfl (aW (aT (i:=8) av.nd rfl (Or.inl rfl)) (aW (aT (i:=9) av.nd rfl (Or.inl rfl)) cO))) (dY (js:=[8,9]) (by decide)) (by simp) (by rw [Co]; exact DF (aO (by omega))) (fun x hx=> by obtain ⟨p,_,rfl⟩:=Cr.mp hx; exact ⟨_,rfl,rfl⟩) (fun C s' H' fp j x y hx hy=> by rw [Dz] at hy; obtain ⟨p,hp,mp,rfl,rfl⟩:=df hx hy; exact (aa 9 rfl)))) ak dB)) (ao (lR rfl ly) rfl T.z_min boot_min (ac (EvN.ev (eO (ys:=((l.map (·.2)).map U.int)) rfl (blk (ai aN) ["land","c","lows","highs","k","a","b","top","x","y"] [8,9] rfl rfl rfl rfl (by decide+kernel)) (cY (aa 0 rfl) (.inl rfl)) (fun _ _ _ _=> eQ rfl (aW (aT (i:=8) av.nd rfl (Or.inl rfl)) (aW (aT (i:=9) av.nd rfl (Or.inl rfl)) cO))) (dY (js:=[8,9]) (by decide)) (by simp) (by rw [Co]; exact DF (aO (by omega))) (fun x hx=> by obtain ⟨p,_,rfl⟩:=Cr.mp hx; exact ⟨_,rfl,rfl⟩) (fun C s' H' fp j x y hx hy=> by rw [Dz] at hy; obtain ⟨p,hp,mp,rfl,rfl⟩:=df hx hy; exact (aa 9 rfl)))) ak dB))) ag) ?_)
    exact rfl
   ·rw [if_neg he]
    refine ae (dF (aF (Bz (oI hr) (oe fun _=> rfl) rfl) (aa 3 rfl) (EvN.ev (fN cE))) (by rw [rc,decide_eq_false he]) (aJ ?_))
    refine ae (aI (ao (rJ rfl) rfl T.z_max boot_max (ac ag (ac (bC (ba (ao (lR rfl (bJ he)) rfl T.z_min boot_min (ac (aa 3 rfl) ak ah)) (ao (m9 rfl (bV (qB he))) rfl T.z_max boot_max (ac (aa 2 rfl) ak ah))) ag) ak aZ) bT)) ?_)
    refine vIO ?_
    split <;> omega
end
section
variable {P:Program} {w:World} {K:Cn} {mg:Str→Option Value} {base:Heap}
def t9:List U→Out→Prop:=fun us o=> ∃ (a b:Int),us=[.int a,.int b]∧o=.val (.bl (decide (a=b)))
set_option maxHeartbeats 8000000 in
theorem dg (T:Txt K mg):bo P w K mg base (CXF P w) 1 T.a__law_good T.d__law_good ["found","due"] (spU K (t9)):=by
 refine br T.F__law_good mY (fun us o h=> ?_) (fun cdv A outer s H E O us o hr h=> ?_)
 ·obtain ⟨a,b,rfl,rfl⟩:=h
  rfl
 obtain ⟨a,b,rfl,rfl⟩:=h
 refine Ws.nox ?_
 refine ae (aI (fE (ao (aK (by intro _ h; cases h) (by walk_at "kit")) rfl T.z_isinstance boot_isinstance (ac (aa 0 rfl) (ac (dH rfl T.z_int boot_int) ak ah) ah)) (fun hz=> (fE (ip (ao (aK (by intro _ h; cases h) (by walk_at "kit")) rfl T.z_isinstance boot_isinstance (ac (aa 0 rfl) (ac (dH rfl T.z_bool boot_bool) ak ah) ah))) (fun hz=> (fL (lc dU (aa 0 rfl) (aa 1 rfl))))))) ?_)
 exact vB (by simp)
end
section
variable {P:Program} {w:World} {K:Cn} {mg:Str→Option Value} {base:Heap}
theorem rD {n:Nat} {x y:Int} (h:Sz n x):Sz n (x.fdiv y):=by
 rcases DL y 0 with z | z
 ·rw [← um,EJ _ (by omega)]
  exact (h.natle (by omega):Sz n (-x)).ediv
 ·rw [EJ _ z]; exact h.ediv
def wyA (ns:List Int):Int:=gr (cel ns 0 / 8) % 10 ^ (30:Int).toNat * (if (!decide (cel ns 0 % 8=1) && !decide (cel ns 0 % 8=3))=true then 1 else 0)
def wyB (ns:List Int):Int:=(gr (cel ns 1) % 10 ^ (30:Int).toNat - cel ns 1 % 17) * (if (!decide (cel ns 0 % 8=2) && !decide (cel ns 0 % 8=3))=true then 1 else 0)
theorem m30 (x:Int):Sz 101 (x % 10 ^ (30:Int).toNat):=by
 have h1:=DA x (show (10:Int) ^ (30:Int).toNat≠0 by decide+kernel)
 have h2:=C6 x (show (0:Int) < 10 ^ (30:Int).toNat by decide+kernel)
 have z:Sz 101 ((10:Int) ^ (30:Int).toNat):=by decide+kernel
 exact Sz.le (by omega) z
theorem xk (k:Bool):Sz 8 (if k=true then (1:Int) else 0):=by split <;> decide
theorem A5 (x c:Int):Sz 102 (x % 10 ^ (30:Int).toNat - c % 17):=(L2.Sz.sub' (m30 x) (Sz.mono (m:=8) (n:=101) (by unfold Sz; omega) (by decide))).mono (by decide)
theorem BI (ns:List Int):Sz 120 (wyA ns)∧Sz 120 (wyB ns):=⟨(L2.Sz.mul (m30 _) (xk _)).mono (by decide),(L2.Sz.mul (A5 _ _) (xk _)).mono (by decide)⟩
def vd:List U→Out→Prop:=fun us o=> ∃ (ns:List Int),us=[.scr (ns.map U.int)]∧ns.length≤63∧(∀ m∈ns,Sz 1048576 m)∧o=.new [.int (wyA ns),.int (wyB ns)]
set_option maxHeartbeats 8000000 in
theorem n8 (T:Txt K mg):bo P w K mg base (CXF P w) 2 T.a__law_way T.d__law_way ["script"] (spU K (vd)):=by
 refine br T.F__law_way eG (fun us o h=> ?_) (fun cdv A outer s H E O us o hr h=> ?_)
 ·obtain ⟨ns,rfl,hl,hB,rfl⟩:=h
  rfl
 obtain ⟨ns,rfl,hl,hB,rfl⟩:=h
 refine Ws.nox ?_
 have c0:=ge hB (k:=0) (by decide) (by decide)
 have c1:=ge hB (k:=1) (by decide) (by decide)
 refine ae (ay (i:=1) eG.nd rfl (Or.inl rfl) (bX (aB ((bw T).mono (by decide)) hr rfl T.m__law_cell T.F__law_cell.kp T.b__law_cell aC (ac (aa 0 rfl) (ac ag ak bT) ah) ⟨ns,_,rfl,hl,by decide,by decide,rfl⟩) ag (by walk_at "mod")) ?_)
 refine ae (ay (i:=2) eG.nd rfl (Or.inl rfl) (bX (aB ((cJ T).mono (by decide)) hr rfl T.m__law_great T.F__law_great.kp T.b__law_great aC (ac (b_ (aB ((bw T).mono (by decide)) hr rfl T.m__law_cell T.F__law_cell.kp T.b__law_cell aC (ac (aa 0 rfl) (ac ag ak bT) ah) ⟨ns,_,rfl,hl,by decide,by decide,rfl⟩) ag (by walk_at "div")) ak aZ) ⟨_,rfl,c0.ediv,rfl⟩) (oQ ag ag ⟨by decide,by decide,by decide⟩) (by decide+kernel)) ?_)
 refine ae (ay (i:=3) eG.nd rfl (Or.inl rfl) (ba (bX (aB ((cJ T).mono (by decide)) hr rfl T.m__law_great T.F__law_great.kp T.b__law_great aC (ac (aB ((bw T).mono (by decide)) hr rfl T.m__law_cell T.F__law_cell.kp T.b__law_cell aC (ac (aa 0 rfl) (ac ag ak bT) ah) ⟨ns,_,rfl,hl,by decide,by decide,rfl⟩) ak bn) ⟨_,rfl,c1,rfl⟩) (oQ ag ag ⟨by decide,by decide,by decide⟩) (by decide+kernel)) (bX (aB ((bw T).mono (by decide)) hr rfl T.m__law_cell T.F__law_cell.kp T.b__law_cell aC (ac (aa 0 rfl) (ac ag ak bT) ah) ⟨ns,_,rfl,hl,by decide,by decide,rfl⟩) ag (by walk_at "mod"))) ?_)
 refine ae (gU (fN (aX (aU (aa 2 rfl) (rK vO rfl T.z_int boot_int (ac (fE (lc fG (aa 1 rfl) ag) (fun hz=> (fL (lc fG (aa 1 rfl) ag)))) ak ur)) (L2.Sz.ok (m30 _) (xk _) (by decide))) (aX (aU (aa 3 rfl) (rK vO rfl T.z_int boot_int (ac (fE (lc fG (aa 1 rfl) ag) (fun hz=> (fL (lc fG (aa 1 rfl) ag)))) ak ur)) (L2.Sz.ok (A5 _ _) (xk _) (by decide))) cE aZ) aZ)) ?_)
 exact rfl
end
section
variable {P:Program} {w:World} {K:Cn} {mg:Str→Option Value} {base:Heap}
def vo:List U→Out→Prop:=fun us o=> ∃ (l:List P2) (a b c:Int),us=[lp l,.int a,.int b,.int c]∧Fld l∧l.length < 64∧(∀ p∈l,Szp 200 p)∧Sz 200 a∧Sz 200 b∧Sz 500 c∧¬ (a=0∧b=0)∧o=.val (.int (cD l fun p=> decide (a * p.1+b * p.2=c)))
set_option maxHeartbeats 8000000 in
theorem j7 (T:Txt K mg):bo P w K mg base (CXF P w) 4 T.a__law_turned T.d__law_turned ["land","a","b","c"] (spU K (vo)):=by
 refine br T.F__law_turned aA (fun us o h=> ?_) (fun cdv A outer s H E O us o hr h=> ?_)
 ·obtain ⟨l,a,b,c,rfl,F,hl,sz,sa,sb,sc,hne,rfl⟩:=h
  rfl
 obtain ⟨l,a,b,c,rfl,F,hl,sz,sa,sb,sc,hne,rfl⟩:=h
 refine Ws.nox ?_
 refine ae (ay (i:=4) aA.nd rfl (Or.inr rfl) (aa 1 rfl) ?_)
 refine ae (ay (i:=5) aA.nd rfl (Or.inl rfl) (aa 2 rfl) ?_)
 refine ae (ay (i:=6) aA.nd rfl (Or.inr rfl) ag ?_)
 refine ae (ay (i:=7) aA.nd rfl (Or.inl rfl) ag ?_)
 refine ae (e_ (fun q:Int×Int×Int×Int=> [some (.val (lp l)),some (.val (.int a)),some (.val (.int b)),some (.val (.int c)),some (.val (.int q.1)),some (.val (.int q.2.1)),some (.val (.int q.2.2.1)),some (.val (.int q.2.2.2)),none,none,none,none,none]) (fun m q=> m=q.2.1.natAbs∧Eu a b q.1 q.2.1 q.2.2.1 q.2.2.2) PassesOwn.never ?h0 ?hs)
 case h0=> exact ⟨_,(a,b,1,0),⟨rfl,Eu.start a b⟩,rfl,rfl,rfl,rfl,rfl,rfl,rfl,rfl,trivial⟩
 case hs=>
  rintro m ⟨h,lw,s',f⟩ ⟨hm,E⟩
  dsimp only at hm E ⊢
  obtain ⟨z1,z2,z3,z4⟩:=E.sz (n:=200) (by decide) sa sb
  refine ⟨!decide (lw=(0:Int)),(aF fG (aa 5 rfl) ag),fun hh=> ?_,fun hh ps hps=> ?_⟩
  ·have hl0:lw≠0:=by simpa using hh
   have z5:=z4 hl0
   have z6:Sz 200 (h.fdiv lw):=rD z1
   refine ae (ay (i:=8) aA.nd rfl (Or.inl rfl) (mI (aa 4 rfl) (aa 5 rfl) ⟨hl0,z2.mono (by decide)⟩) ?_)
   refine ae (wt (c_ (aX (aa 5 rfl) (aX (ba (aa 4 rfl) (aU (aa 8 rfl) (aa 5 rfl) (by walk_at "mul"))) cE aZ) ah)) (y_ [4,5] rfl (aW (aT (i:=4) aA.nd rfl (Or.inr rfl)) (aW (aT (i:=5) aA.nd rfl (Or.inl rfl)) cO)) rfl) ?_)
   refine ae (wt (c_ (aX (aa 7 rfl) (aX (ba (aa 6 rfl) (aU (aa 8 rfl) (aa 7 rfl) (by walk_at "mul"))) cE aZ) ah)) (y_ [6,7] rfl (aW (aT (i:=6) aA.nd rfl (Or.inr rfl)) (aW (aT (i:=7) aA.nd rfl (Or.inl rfl)) cO)) rfl) (aJ ?_))
   exact ⟨_,(lw,h - h.fdiv lw * lw,f,s' - h.fdiv lw * f),by rw [hm]; exact E.less hl0,⟨rfl,E.step hl0⟩,rfl,rfl,rfl,rfl,rfl,rfl,rfl,rfl,trivial⟩
  ·have hl0:lw=0:=by simpa using hh
   subst hl0
   obtain ⟨hn,da,db,t0,et⟩:=E.done hne
   refine dW ?_ hps
   refine gO (fun ps=> ∃ h1 s1:Int,0 < h1∧h1 ∣ a∧h1 ∣ b∧(∃ t,h1=s1 * a+t * b)∧Sz 201 h1∧Sz 201 s1∧SubP [some (.val (lp l)),some (.val (.int a)),some (.val (.int b)),some (.val (.int c)),some (.val (.int h1)),none,some (.val (.int s1)),none,none,none,none,none,none] ps) (fc (aF eN (aa 4 rfl) ag) (fun hT=> ?_) (fun hF=> (aJ ?_))) ?hj
   ·have h0:=dTb hT
    refine ae (ay (i:=4) aA.nd rfl (Or.inr rfl) (ck (aa 4 rfl)) ?_)
    refine ae (ay (i:=6) aA.nd rfl (Or.inr rfl) (ck (aa 6 rfl)) (aJ ?_))
    exact ⟨-h,-s',by omega,Im.mpr da,Im.mpr db,⟨-t0,by rw [et]; grind⟩,(z1.natle (by omega):Sz 200 (-h)).mono (by decide),(z3.natle (by omega):Sz 200 (-s')).mono (by decide),rfl,rfl,rfl,rfl,rfl,rfl,trivial⟩
   ·have h0:=dFb hF
    exact ⟨h,s',by omega,da,db,⟨t0,et⟩,z1.mono (by decide),z3.mono (by decide),rfl,rfl,rfl,rfl,rfl,rfl,trivial⟩
   case hj=>
    rintro ps ⟨h1,s1,p0,d1,d2,⟨t1,e1⟩,zh,zs,hps⟩
    refine dW ?_ hps
    by_cases hc:c % h1=0
    ·refine ae (dF (aF fG (bX (aa 3 rfl) (aa 4 rfl) p0) ag) (show (!decide (c % h1=0))=false by rw [decide_eq_true hc]; rfl) (aJ ?_))
     refine ae (ay (i:=9) aA.nd rfl (Or.inr rfl) ag ?_)
     refine gO (fun ps=> ∃ t2:Int,s1 * a+t2 * b=h1∧Sz 410 t2∧SubP [some (.val (lp l)),some (.val (.int a)),some (.val (.int b)),some (.val (.int c)),some (.val (.int h1)),none,some (.val (.int s1)),none,none,some (.val (.int t2)),none,none,none] ps) (fc (aF fG (aa 2 rfl) ag) (fun hT=> ?_) (fun hF=> (aJ ?_))) ?hj2
     ·have hb:b≠0:=by simpa using hT
      refine ae (ay (i:=9) aA.nd rfl (Or.inr rfl) (mI (ba (aa 4 rfl) (aU (aa 6 rfl) (aa 1 rfl) (by walk_at "mul"))) (aa 2 rfl) ⟨hb,sb.mono (by decide)⟩) (aJ ?_))
      refine ⟨(h1 - s1 * a).fdiv b,?_,?_,rfl,rfl,rfl,rfl,rfl,rfl,rfl,trivial⟩
      ·have:h1 - s1 * a=t1 * b:=by omega
       rw [this,Int.mul_fdiv_cancel _ hb]; omega
      ·exact (rD (L2.Sz.sub' zh (L2.Sz.mul zs sa))).mono (by decide)
     ·have hb:b=0:=by simpa using hF
      refine ⟨0,?_,Sz.mono (m:=8) (by decide) (by decide),rfl,rfl,rfl,rfl,rfl,rfl,rfl,trivial⟩
      rw [hb] at e1 ⊢
      omega
     case hj2=>
      rintro ps ⟨t2,e2,zt,hps⟩
      refine dW ?_ hps
      have za:Sz 200 (a / h1):=sa.ediv
      have zb:Sz 200 (b / h1):=sb.ediv
      have zh9:Sz 9000 h1:=zh.mono (by decide)
      refine ae (lG (ys:=((l.map (ap (a / h1) (b / h1) (-t2) s1 0 0)).map pu)) (j:=10) false rfl aA.nd rfl (Or.inl rfl) (blk (ai bR) ["land","a","b","c","high","low","s","after","times","t","some","x","y"] [11,12] rfl rfl rfl rfl (by decide+kernel)) (cY (aa 0 rfl) (.inl rfl)) (fun _ _ _ _=> eQ rfl (aW (aT (i:=11) aA.nd rfl (Or.inl rfl)) (aW (aT (i:=12) aA.nd rfl (Or.inl rfl)) cO))) (dY (js:=[11,12]) (by decide)) ?clen ?csz ?dom ?celt ?_)
      case clen=> simp
      case csz=> rw [Co]; exact DF (aO (by omega))
      case dom=>
       intro x hx
       obtain ⟨i,hi⟩:=Ds.mp hx
       obtain ⟨p,hp,mp,rfl⟩:=rY hi
       exact ⟨_,rfl,rfl⟩
      case celt=>
       intro C s' H' fp j x y hx hy
       rw [Dz] at hy
       obtain ⟨w,hw,mw,rfl,rfl⟩:=df hx hy
       have p1:=(sz w mw).1
       have p2:=(sz w mw).2
       have e:pu (ap (a / h1) (b / h1) (-t2) s1 0 0 w)=.tup [.int (a / h1 * w.1+b / h1 * w.2),.int (s1 * w.2 - t2 * w.1)]:=by
        unfold ap pu
        rw [El,show -t2 * w.1+s1 * w.2+0=s1 * w.2 - t2 * w.1 by grind]
       show Ev _ _ _ _ _ (pu (ap (a / h1) (b / h1) (-t2) s1 0 0 w))
       rw [e]
       exact (c_ (aX (bC (aU (b_ (aa 1 rfl) (aa 4 rfl) ⟨p0,zh9⟩) (aa 11 rfl) (by walk_at "mul")) (aU (b_ (aa 2 rfl) (aa 4 rfl) ⟨p0,zh9⟩) (aa 12 rfl) (by walk_at "mul"))) (aX (ba (aU (aa 6 rfl) (aa 12 rfl) (by walk_at "mul")) (aU (aa 9 rfl) (aa 11 rfl) (by walk_at "mul"))) cE aZ) aZ))
      have uz:∀ w∈l.map (ap (a / h1) (b / h1) (-t2) s1 0 0),Szp 1000 w:=fun w hw=> by
       obtain ⟨y,hy,rfl⟩:=Cr.mp hw
       have y1:=(sz y hy).1
       have y2:=(sz y hy).2
       have n2:Sz 410 (-t2):=zt.natle (by omega)
       have z0:Sz 8 (0:Int):=by decide
       unfold ap
       exact ⟨(L2.Sz.add' (L2.Sz.add' (L2.Sz.mul za y1) (L2.Sz.mul zb y2)) (z0.mono (n:=401) (by decide))).mono (by decide),(L2.Sz.add' (L2.Sz.add' (L2.Sz.mul n2 y1) (L2.Sz.mul zs y2)) (z0.mono (n:=401) (by decide))).mono (by decide)⟩
      have cl:(aj (l.map (ap (a / h1) (b / h1) (-t2) s1 0 0))).length≤900:=DK (jm _) (by rw [Co]; omega)
      have key:=AF F (c:=c) p0 d1 d2 e2 hc
      refine ae (aI (aB ((ii T).mono (by decide)) hr rfl T.m__law_in_column T.F__law_in_column.kp T.b__law_in_column aC (ac (EvN.ev (cH ((fD T).mono (by decide)) hr rfl T.m__law_corners T.F__law_corners.kp T.b__law_corners aC (ac (aa 10 rfl) ak ah) ⟨l.map (ap (a / h1) (b / h1) (-t2) s1 0 0),rfl,gQ (by decide) uz,by rw [Co]; omega,rfl⟩)) (ac (b_ (aa 3 rfl) (aa 4 rfl) ⟨p0,zh9⟩) ak aZ) bn) ⟨_,c / h1,rfl,ik (by simpa using F.ne),cl,fun w hw=> uz w (aH _ w hw),(sc.ediv).mono (by decide),rfl⟩) ?_)
      exact vIO key
    ·refine ae (dG (aF fG (bX (aa 3 rfl) (aa 4 rfl) p0) ag) (show (!decide (c % h1=0))=true by rw [decide_eq_false hc]; rfl) ?_)
     refine ae (aI ag ?_)
     exact vIO (Ar F d1 d2 hc).symm
end
section
variable {P:Program} {w:World} {K:Cn} {mg:Str→Option Value} {base:Heap}
theorem yE {W:List Int} (h:0 < W.length) (x:Int):atI (W.map U.int) (x % ((W.map U.int).length:Int))=some (.int (W.getD (x % (W.length:Int)).toNat 0)):=by
 have h1:=DA x (show (W.length:Int)≠0 by omega)
 have h2:=C6 x (show 0 < (W.length:Int) by omega)
 rw [Co]
 refine lP (i:=(x % (W.length:Int)).toNat) (by omega) ?_
 rw [Ct,Cm (by omega)]
 simp [CB,Cm (show (x % (W.length:Int)).toNat < W.length by omega)]
theorem wX {W:List Int} (h:0 < W.length):atI (W.map U.int) 0=some (.int (W.getD 0 0)):=lP (i:=0) rfl (by rw [Ct,Cm h]; simp [CB,Cm h])
theorem Ag {W:List Int} (h:0 < W.length):atI (W.map U.int) (-1)=some (.int (W.getD (W.length - 1) 0)):=by
 have e:ixN (W.map U.int).length (-1)=some (W.length - 1):=by
  unfold ixN
  simp
  omega
 have hi:W.length - 1 < W.length:=by omega
 unfold atI
 rw [e]
 show (W.map U.int)[W.length - 1]?=_
 rw [Ct,Cm hi]
 simp [CB,Cm hi]
theorem wA {W:List Int} {i:Nat} (h:i < W.length):W.getD i 0∈W:=by
 rw [CB,Cm h]
 exact Fq h
theorem uD {W:List Int} (a:W.Pairwise (·≤·)) {i j:Nat} (hij:i≤j) (hj:j < W.length):W.getD i 0≤W.getD j 0:=by
 rw [CB,CB,Cm hj,Cm (show i < W.length by omega)]
 rcases CW hij with z | z
 ·exact C4.mp a i j (by omega) hj z
 ·subst z; exact Eg _
theorem Ax (a b:Int):eqW (.tup [.int a,.int b]) (.tup [.int 0,.int 0])=(decide (a=0) && decide (b=0)):=by
 simp [eqW,eqWs]
 rfl
set_option maxHeartbeats 8000000 in
theorem zJ (T:Txt K mg):bo P w K mg base (CXF P w) 9 T.a_law T.d_law ["script"] (spU K (ir)):=by
 refine br T.F_law dn (fun us o h=> ?_) (fun cdv A outer s H E O us o hr h=> ?_)
 ·obtain ⟨ns,rfl,h63,hB,rfl⟩:=h
  rfl
 obtain ⟨ns,rfl,h63,hB,rfl⟩:=h
 refine Ws.nox ?_
 have hN:=qx ns
 have pl:=wu ns
 have pne:kK ns≠[]:=fun e=> by rw [e] at pl; simp at pl; omega
 have F:Fld (aj (kK ns)):=⟨ik pne,lA _⟩
 have cz:∀ p∈aj (kK ns),Szp 150 p:=fun p hp=> rq ns p (aH _ p hp)
 have cl:(aj (kK ns)).length≤60:=DK (jm _) (by omega)
 have c2:=ge hB (k:=2) (by decide) (by decide)
 have c3:=ge hB (k:=3) (by decide) (by decide)
 have c4:=ge hB (k:=4) (by decide) (by decide)
 refine ae (ay (i:=1) dn.nd rfl (Or.inl rfl) (EvN.ev (cH ((fD T).mono (by decide)) hr rfl T.m__law_corners T.F__law_corners.kp T.b__law_corners aC (ac (EvN.ev (cH ((kC T).mono (by decide)) hr rfl T.m__law_points T.F__law_points.kp T.b__law_points aC (ac (aa 0 rfl) ak ah) ⟨ns,rfl,h63,hB,rfl⟩)) ak bn) ⟨kK ns,rfl,gQ (by decide) (rq ns),by omega,rfl⟩)) ?_)
 generalize aj (kK ns)=l at *
 have s2:∀ p∈l,Szp 200 p:=gQ (by decide) cz
 have s5:∀ p∈l,Szp 5000 p:=gQ (by decide) cz
 obtain ⟨za,zb⟩:=BI ns
 refine ae (wt (EvN.ev (cH ((n8 T).mono (by decide)) hr rfl T.m__law_way T.F__law_way.kp T.b__law_way aC (ac (aa 0 rfl) ak ah) ⟨ns,rfl,h63,hB,rfl⟩)) (Bq [2,3] rfl (aW (aT (i:=2) dn.nd rfl (Or.inr rfl)) (aW (aT (i:=3) dn.nd rfl (Or.inr rfl)) cO)) (.inl rfl) rfl) ?_)
 generalize wyA ns=a at *
 generalize wyB ns=b at *
 have l0:0 < l.length:=DM.mpr F.ne
 have hp:=gA (l.map (wth a b))
 have asc:=jU (l.map (wth a b))
 have wl:(jc (l.map (wth a b))).length=l.length:=by rw [hp.length_eq,Co]
 refine ae (ay (i:=4) dn.nd rfl (Or.inl rfl) (EvN.ev (u9 rfl T.z_sorted (EvN.ev (eO (ys:=((l.map (wth a b)).map U.int)) rfl (blk (ai jQ) ["script","land","a","b","worths","x","y","cell","c","under","above","many"] [5,6] rfl rfl rfl rfl (by decide+kernel)) (cY (aa 1 rfl) (.inl rfl)) (fun _ _ _ _=> eQ rfl (aW (aT (i:=5) dn.nd rfl (Or.inl rfl)) (aW (aT (i:=6) dn.nd rfl (Or.inl rfl)) cO))) (dY (js:=[5,6]) (by decide)) ?clen ?csz ?dom ?celt)) (by rw [Co]; omega) rfl dB)) ?_)
 case clen=> simp
 case csz=> rw [Co]; exact DF (aO (by omega))
 case dom=>
  intro x hx
  obtain ⟨i,hi⟩:=Ds.mp hx
  obtain ⟨p,hp,mp,rfl⟩:=rY hi
  exact ⟨_,rfl,rfl⟩
 case celt=>
  intro C s' H' fp j x y hx hy
  rw [Dz] at hy
  obtain ⟨w,hw,mw,rfl,rfl⟩:=df hx hy
  have p1:=(cz w mw).1
  have p2:=(cz w mw).2
  exact (bC (aU (aa 2 rfl) (aa 5 rfl) (by walk_at "mul")) (aU (aa 3 rfl) (aa 6 rfl) (by walk_at "mul")))
 have wm:∀ x∈jc (l.map (wth a b)),∃ q∈l,x=wth a b q:=fun x hx=> by
  obtain ⟨q,hq,e⟩:=Cr.mp (hp.mem_iff.mp hx)
  exact ⟨q,hq,e.symm⟩
 have mw:∀ q∈l,∃ i,i < l.length∧(jc (l.map (wth a b))).getD i 0=wth a b q:=fun q hq=> by
  obtain ⟨i,hi⟩:=Ds.mp (hp.mem_iff.mpr (CO (f:=wth a b) hq))
  exact ⟨i,by rw [← wl]; exact aL hi,by rw [CB,hi]; rfl⟩
 generalize jc (l.map (wth a b))=W at *
 have hmW:((W.map U.int).length:Int)=(l.length:Int):=by rw [Co,wl]
 have wz:∀ i,i < l.length→Sz 280 (W.getD i 0):=fun i hi=> by
  obtain ⟨q,hq,e⟩:=wm _ (wA (i:=i) (by omega))
  rw [e]
  unfold wth
  exact (L2.Sz.add' (L2.Sz.mul za (cz q hq).1) (L2.Sz.mul zb (cz q hq).2)).mono (by decide)
 have lo:∀ p,bM l p=true→W.getD 0 0≤a * p.1+b * p.2:=fun p hp=> by
  obtain ⟨q,hq,e⟩:=uK F hp (-a) (-b)
  obtain ⟨i,hi,ei⟩:=mw q hq
  have:=uD asc (DG i) (by rw [wl]; exact hi)
  rw [ei] at this
  unfold wth at e this
  have e1:-a * p.1+-b * p.2=-(a * p.1+b * p.2):=by grind
  have e2:-a * q.1+-b * q.2=-(a * q.1+b * q.2):=by grind
  omega
 have hi:∀ p,bM l p=true→a * p.1+b * p.2≤W.getD (W.length - 1) 0:=fun p hp=> by
  obtain ⟨q,hq,e⟩:=uK F hp a b
  obtain ⟨i,hi,ei⟩:=mw q hq
  have:=uD asc (show i≤W.length - 1 by omega) (show W.length - 1 < W.length by omega)
  rw [ei] at this
  unfold wth at e this
  omega
 refine ae (ay (i:=7) dn.nd rfl (Or.inl rfl) (aB ((bw T).mono (by decide)) hr rfl T.m__law_cell T.F__law_cell.kp T.b__law_cell aC (ac (aa 0 rfl) (ac ag ak bT) ah) ⟨ns,_,rfl,h63,by decide,by decide,rfl⟩) ?_)
 refine ae (ay (i:=8) dn.nd rfl (Or.inl rfl) (aB ((cJ T).mono (by decide)) hr rfl T.m__law_great T.F__law_great.kp T.b__law_great aC (ac (b_ (aa 7 rfl) ag (by walk_at "div")) ak aZ) ⟨_,rfl,c2.ediv,rfl⟩) ?_)
 refine gO (fun ps=> ∃ c:Int,Sz 290 c∧SubP [some (.val (.scr (ns.map U.int))),some (.val (lp l)),some (.val (.int a)),some (.val (.int b)),some (.val (.lst (W.map U.int))),none,none,none,some (.val (.int c)),none,none,none] ps) (fc (aF i6 (bX (aa 7 rfl) ag (by walk_at "mod")) ag) (fun hT=> ?_) (fun hF=> (aJ ?_))) ?hj
 ·have h1:=DA (cel ns 2 / 4) (show (W.length:Int)≠0 by omega)
  have h2:=C6 (cel ns 2 / 4) (show 0 < (W.length:Int) by omega)
  refine ae (ay (i:=8) dn.nd rfl (Or.inl rfl) (bC (ba (aE (aa 4 rfl) (bX (b_ (aa 7 rfl) ag (by walk_at "div")) (ao (di rfl) rfl T.z_len Dq (ac (aa 4 rfl) ak ah)) (by rw [hmW]; omega)) rfl (yE (by omega) _)) (bX (b_ (b_ (aa 7 rfl) ag (by walk_at "div")) (ao (di rfl) rfl T.z_len Dq (ac (aa 4 rfl) ak ah)) ⟨by rw [hmW]; omega,Sz.mono (m:=8) (by rw [hmW]; unfold Sz; omega) (by decide)⟩) ag (by walk_at "mod"))) ag) (aJ ?_))
  refine ⟨_,?_,rfl,rfl,rfl,rfl,rfl,rfl,trivial⟩
  have z:=wz (cel ns 2 / 4 % (W.length:Int)).toNat (by omega)
  have z3:Sz 8 (cel ns 2 / 4 / ((W.map U.int).length:Int) % 3):=by unfold Sz; omega
  have z1:Sz 8 (1:Int):=by decide
  exact (L2.Sz.add' (L2.Sz.sub' z (z3.mono (n:=280) (by decide))) (z1.mono (n:=281) (by decide))).mono (by decide)
 ·exact ⟨_,(qV _).mono (by decide),rfl,rfl,rfl,rfl,rfl,rfl,trivial⟩
 case hj=>
  rintro ps ⟨c,sc,hps⟩
  refine dW ?_ hps
  have za2:Sz 200 a:=za.mono (by decide)
  have zb2:Sz 200 b:=zb.mono (by decide)
  have na:Sz 200 (-a):=za2.natle (by omega)
  have nb:Sz 200 (-b):=zb2.natle (by omega)
  have z1:Sz 8 (1:Int):=by decide
  have one:Sz 300 (1:Int):=z1.mono (by decide)
  have c5:Sz 500 c:=sc.mono (by decide)
  have nc:Sz 500 (-c - 1):=(L2.Sz.sub' ((sc.natle (by omega):Sz 290 (-c)).mono (n:=300) (by decide)) one).mono (by decide)
  have pc:Sz 500 (c - 1):=(L2.Sz.sub' (sc.mono (n:=300) (by decide)) one).mono (by decide)
  have sp:∀ {x y z:Int},Sz 200 x→Sz 200 y→Sz 500 z→jR [lp l,.int x,.int y,.int z] (.val (.int (cD l fun p=> decide (x * p.1+y * p.2≤z)))):=fun hx hy hz=> ⟨l,_,_,_,rfl,F,by omega,s2,hx,hy,hz,rfl⟩
  have all:pK l=cD l fun _=> true:=by rw [zV F,qQ F]
  have ua:=nI l a b c
  have ja:=yr l a b c
  have u0:=nA l fun p=> decide (a * p.1+b * p.2≤c)
  have v0:=nA l fun p=> decide (-a * p.1+-b * p.2≤-c - 1)
  have spall:oC [lp l] (.val (.int (pK l))):=⟨l,rfl,F.ne,by omega,s5,rfl⟩
  refine ae (ay (i:=9) dn.nd rfl (Or.inl rfl) (aB ((eW T).mono (by decide)) hr rfl T.m_share T.F_share.kp T.b_share aC (ac (EvN.ev (gB (iO rfl) rfl T.z_list boot_list (ac (aa 1 rfl) ak ah))) (ac (aa 2 rfl) (ac (aa 3 rfl) (ac (aa 8 rfl) ak ah) ah) ah) bn) (sp za2 zb2 c5)) ?_)
  refine ae (ay (i:=10) dn.nd rfl (Or.inl rfl) (aB ((eW T).mono (by decide)) hr rfl T.m_share T.F_share.kp T.b_share aC (ac (EvN.ev (gB (iO rfl) rfl T.z_list boot_list (ac (aa 1 rfl) ak ah))) (ac (ck (aa 2 rfl)) (ac (ck (aa 3 rfl)) (ac (ba (ck (aa 8 rfl)) ag) ak aZ) iR) iR) bn) (sp na nb nc)) ?_)
  refine ae (dF (Tw.t (nG (eM (eu (aB ((dg T).mono (by decide)) hr rfl T.m__law_good T.F__law_good.kp T.b__law_good aC (ac (aa 9 rfl) (ac (aa 9 rfl) ak ah) ah) ⟨_,_,rfl,rfl⟩))) (fun hz=> (nG (eM (eu (aB ((dg T).mono (by decide)) hr rfl T.m__law_good T.F__law_good.kp T.b__law_good aC (ac (aa 10 rfl) (ac (aa 10 rfl) ak ah) ah) ⟨_,_,rfl,rfl⟩))) (fun hz=> (nG (aF eN (aa 9 rfl) ag) (fun hz=> (n_ (aF eN (aa 10 rfl) ag))))))))) (by simp; omega) (aJ ?_))
  refine ae (dF (aF fG (bC (aa 9 rfl) (aa 10 rfl)) (aB ((iX T).mono (by decide)) hr rfl T.m__law_all T.F__law_all.kp T.b__law_all aC (ac (aa 1 rfl) ak ah) spall)) (by rw [all,ua]; simp) (aJ ?_))
  refine gO (fun ps=> SubP [some (.val (.scr (ns.map U.int))),some (.val (lp l)),some (.val (.int a)),some (.val (.int b)),some (.val (.lst (W.map U.int))),none,none,none,some (.val (.int c)),some (.val (.int (cD l fun p=> decide (a * p.1+b * p.2≤c)))),none,none] ps) (fc (aF (Ca (oI hr) (by walk_at "ok") (by walk_at "ok")) (c_ (aX (aa 2 rfl) (aX (aa 3 rfl) cE ah) ah)) (c_ (aX ag (aX ag cE bT) bT))) (fun hT=> ?_) (fun hF=> (aJ ?_))) ?hj2
  ·rw [Ax] at hT
   have hne:¬ (a=0∧b=0):=fun z=> by rw [z.1,z.2] at hT; simp at hT
   refine ae (dF (aF fG (ba (aa 9 rfl) (aB ((eW T).mono (by decide)) hr rfl T.m_share T.F_share.kp T.b_share aC (ac (EvN.ev (gB (iO rfl) rfl T.z_list boot_list (ac (aa 1 rfl) ak ah))) (ac (aa 2 rfl) (ac (aa 3 rfl) (ac (ba (aa 8 rfl) ag) ak aZ) ah) ah) bn) (sp za2 zb2 pc))) (aB ((j7 T).mono (by decide)) hr rfl T.m__law_turned T.F__law_turned.kp T.b__law_turned aC (ac (aa 1 rfl) (ac (aa 2 rfl) (ac (aa 3 rfl) (ac (aa 8 rfl) ak ah) ah) ah) ah) ⟨l,a,b,c,rfl,F,by omega,s2,za2,zb2,c5,hne,rfl⟩)) (by rw [ja]; simp) (aJ (aJ ?_)))
   exact ⟨rfl,rfl,rfl,rfl,rfl,rfl,rfl,trivial⟩
  ·exact ⟨rfl,rfl,rfl,rfl,rfl,rfl,rfl,trivial⟩
  case hj2=>
   intro ps hps
   refine dW ?_ hps
   have m0:=DA (cel ns 3) (show (10:Int) ^ (9:Int).toNat≠0 by decide+kernel)
   have m1:=C6 (cel ns 3) (show (0:Int) < 10 ^ (9:Int).toNat by decide+kernel)
   have sm:Sz 40 (1+cel ns 3 % 10 ^ (9:Int).toNat):=by
    have z:Sz 31 ((10:Int) ^ (9:Int).toNat):=by decide+kernel
    exact (L2.Sz.add' (z1.mono (n:=31) (by decide)) (Sz.le (by omega) z)).mono (by decide)
   refine ae (ay (i:=11) dn.nd rfl (Or.inl rfl) (bC ag (bX (aB ((bw T).mono (by decide)) hr rfl T.m__law_cell T.F__law_cell.kp T.b__law_cell aC (ac (aa 0 rfl) (ac ag ak bT) ah) ⟨ns,_,rfl,h63,by decide,by decide,rfl⟩) (oQ ag ag ⟨by decide,by decide,by decide⟩) (by decide+kernel))) ?_)
   have mp:0 < 1+cel ns 3 % 10 ^ (9:Int).toNat:=by omega
   generalize 1+cel ns 3 % 10 ^ (9:Int).toNat=m at *
   have r0:=DA (cel ns 4) (show m≠0 by omega)
   have r1:=C6 (cel ns 4) mp
   have rz:Sz 40 (cel ns 4 % m):=Sz.le (by omega) sm
   have ts:=qc l a b c r0 r1
   have q1:Sz 200 (m * a):=(L2.Sz.mul sm za).mono (by decide)
   have q2:Sz 200 (m * b):=(L2.Sz.mul sm zb).mono (by decide)
   have q3:Sz 500 (m * c+cel ns 4 % m):=(L2.Sz.add' (L2.Sz.mul sm sc) (rz.mono (n:=330) (by decide))).mono (by decide)
   refine ae (dF (eM (eu (aB ((dg T).mono (by decide)) hr rfl T.m__law_good T.F__law_good.kp T.b__law_good aC (ac (aB ((eW T).mono (by decide)) hr rfl T.m_share T.F_share.kp T.b_share aC (ac (EvN.ev (gB (iO rfl) rfl T.z_list boot_list (ac (aa 1 rfl) ak ah))) (ac (aU (aa 11 rfl) (aa 2 rfl) (by walk_at "mul")) (ac (aU (aa 11 rfl) (aa 3 rfl) (by walk_at "mul")) (ac (bC (aU (aa 11 rfl) (aa 8 rfl) (by walk_at "mul")) (bX (aB ((bw T).mono (by decide)) hr rfl T.m__law_cell T.F__law_cell.kp T.b__law_cell aC (ac (aa 0 rfl) (ac ag ak bT) ah) ⟨ns,_,rfl,h63,by decide,by decide,rfl⟩) (aa 11 rfl) mp)) ak aZ) aZ) aZ) bn) (sp q1 q2 q3)) (ac (aa 9 rfl) ak ah) bn) ⟨_,_,rfl,rfl⟩))) (by rw [ts]; simp) (aJ ?_))
   have w0:Sz 500 (W.getD 0 0 - 1):=(L2.Sz.sub' (wz 0 l0) (z1.mono (n:=280) (by decide))).mono (by decide)
   have w1:Sz 500 (W.getD (W.length - 1) 0):=(wz _ (by omega)).mono (by decide)
   have none0:cD l (fun p=> decide (a * p.1+b * p.2≤W.getD 0 0 - 1))=0:=rR F fun p hp=> decide_eq_false (by have:=lo p hp; omega)
   have all1:cD l (fun p=> decide (a * p.1+b * p.2≤W.getD (W.length - 1) 0))=pK l:=by rw [all]; exact fq F fun p hp=> decide_eq_true (hi p hp)
   refine ae (dF (eM (eu (aB ((dg T).mono (by decide)) hr rfl T.m__law_good T.F__law_good.kp T.b__law_good aC (ac (aB ((eW T).mono (by decide)) hr rfl T.m_share T.F_share.kp T.b_share aC (ac (EvN.ev (gB (iO rfl) rfl T.z_list boot_list (ac (aa 1 rfl) ak ah))) (ac (aa 2 rfl) (ac (aa 3 rfl) (ac (ba (aE (aa 4 rfl) ag rfl (wX (by omega))) ag) ak aZ) ah) ah) bn) (sp za2 zb2 w0)) (ac ag ak bT) bn) ⟨_,_,rfl,rfl⟩))) (by rw [none0]; rfl) (aJ ?_))
   refine ae (aI (aB ((dg T).mono (by decide)) hr rfl T.m__law_good T.F__law_good.kp T.b__law_good aC (ac (aB ((eW T).mono (by decide)) hr rfl T.m_share T.F_share.kp T.b_share aC (ac (EvN.ev (gB (iO rfl) rfl T.z_list boot_list (ac (aa 1 rfl) ak ah))) (ac (aa 2 rfl) (ac (aa 3 rfl) (ac (aE (aa 4 rfl) (ck ag) rfl (Ag (by omega))) ak dh) ah) ah) bn) (sp za2 zb2 w1)) (ac (aB ((iX T).mono (by decide)) hr rfl T.m__law_all T.F__law_all.kp T.b__law_all aC (ac (aa 1 rfl) ak ah) spall) ak bn) bn) ⟨_,_,rfl,rfl⟩) ?_)
   exact vB (decide_eq_true all1)
end
theorem ar1 {p:List Value→Prop} {us:List Value} (h:us.length=1) (q:∀ a0,p [a0]):p us:=match us,h with | [a0],_=> q a0
theorem ar2 {p:List Value→Prop} {us:List Value} (h:us.length=2) (q:∀ a0 a1,p [a0,a1]):p us:=match us,h with | [a0,a1],_=> q a0 a1
theorem ar3 {p:List Value→Prop} {us:List Value} (h:us.length=3) (q:∀ a0 a1 a2,p [a0,a1,a2]):p us:=match us,h with | [a0,a1,a2],_=> q a0 a1 a2
theorem ar4 {p:List Value→Prop} {us:List Value} (h:us.length=4) (q:∀ a0 a1 a2 a3,p [a0,a1,a2,a3]):p us:=match us,h with | [a0,a1,a2,a3],_=> q a0 a1 a2 a3
set_option maxHeartbeats 8000000 in
theorem txt_mk {K:Cn} {h:Heap} {mg:Str→Option Value} {fa f0 f1 f2 f3 f4 f5 f6 f7 f8 f9 f10 f11 f12 f13 f14 f15 f16 f17 f18 f19 f20 f21 f22 f23 f24 f25 f26 f27 f28 f29 f30 f31 f32 f33 f34 f35 f36 f37 c_NoField c_NoMove:Addr} (X:K.In h) (G:h.Ns mainGlobals mg) (hfa:mg "law"=some (.ref fa))
  {od0 an0 od1 an1 od2 an2 od3 an3 od4 an4 od5 an5 od6 an6 od7 an7 od8 an8 od9 an9 od10 an10 od11 an11 od12 an12 od13 an13 od14 an14 od15 an15 od16 an16 od17 an17 od18 an18 od19 an19 od20 an20 od21 an21 od22 an22 od23 an23 od24 an24 od25 an25 od26 an26 od27 an27 od28 an28 od29 an29 od30 an30 od31 an31 od32 an32 od33 an33 od34 an34 od35 an35 od36 an36 od37 an37:Option Addr} {sl0 sl1 sl2 sl3 sl4 sl5 sl6 sl7 sl8 sl9 sl10 sl11 sl12 sl13 sl14 sl15 sl16 sl17 sl18 sl19 sl20 sl21 sl22 sl23 sl24 sl25 sl26 sl27 sl28 sl29 sl30 sl31 sl32 sl33 sl34 sl35 sl36 sl37:Array (Option Value)} {oc0 kV0 dc0 pm0 cd0 ct0 oc1 kV1 dc1 pm1 cd1 ct1 oc2 kV2 dc2 pm2 cd2 ct2 oc3 kV3 dc3 pm3 cd3 ct3 oc4 kV4 dc4 pm4 cd4 ct4 oc5 kV5 dc5 pm5 cd5 ct5 oc6 kV6 dc6 pm6 cd6 ct6 oc7 kV7 dc7 pm7 cd7 ct7 oc8 kV8 dc8 pm8 cd8 ct8 oc9 kV9 dc9 pm9 cd9 ct9 oc10 kV10 dc10 pm10 cd10 ct10 oc11 kV11 dc11 pm11 cd11 ct11 oc12 kV12 dc12 pm12 cd12 ct12 oc13 kV13 dc13 pm13 cd13 ct13 oc14 kV14 dc14 pm14 cd14 ct14 oc15 kV15 dc15 pm15 cd15 ct15 oc16 kV16 dc16 pm16 cd16 ct16 oc17 kV17 dc17 pm17 cd17 ct17 oc18 kV18 dc18 pm18 cd18 ct18 oc19 kV19 dc19 pm19 cd19 ct19 oc20 kV20 dc20 pm20 cd20 ct20 oc21 kV21 dc21 pm21 cd21 ct21 oc22 kV22 dc22 pm22 cd22 ct22 oc23 kV23 dc23 pm23 cd23 ct23 oc24 kV24 dc24 pm24 cd24 ct24 oc25 kV25 dc25 pm25 cd25 ct25 oc26 kV26 dc26 pm26 cd26 ct26 oc27 kV27 dc27 pm27 cd27 ct27 oc28 kV28 dc28 pm28 cd28 ct28 oc29 kV29 dc29 pm29 cd29 ct29 oc30 kV30 dc30 pm30 cd30 ct30 oc31 kV31 dc31 pm31 cd31 ct31 oc32 kV32 dc32 pm32 cd32 ct32 oc33 kV33 dc33 pm33 cd33 ct33 oc34 kV34 dc34 pm34 cd34 ct34 oc35 kV35 dc35 pm35 cd35 ct35 oc36 kV36 dc36 pm36 cd36 ct36 oc37 kV37 dc37 pm37 cd37 ct37:Value}
  (a0:CC K mainGlobals "is_whole"=some (some (.ref f0))) (l0:K.lookup f0=some ⟨oc0,od0,.func (CJ "is_whole" "is_whole" (au dy) (aq dy) (ai dy) .none kV0 dc0 pm0 an0 cd0 ct0),sl0⟩) (c0:CD K cd0 "is_whole"=true) (k0:CA K (.ref f0)=true)
  (a1:CC K mainGlobals "sign"=some (some (.ref f1))) (l1:K.lookup f1=some ⟨oc1,od1,.func (CJ "sign" "sign" (au iN) (aq iN) (ai iN) .none kV1 dc1 pm1 an1 cd1 ct1),sl1⟩) (c1:CD K cd1 "sign"=true) (k1:CA K (.ref f1)=true)
  (a2:CC K mainGlobals "shares"=some (some (.ref f2))) (l2:K.lookup f2=some ⟨oc2,od2,.func (CJ "shares" "shares" (au ff) (aq ff) (ai ff) .none kV2 dc2 pm2 an2 cd2 ct2),sl2⟩) (c2:CD K cd2 "shares"=true) (k2:CA K (.ref f2)=true)
  (a3:CC K mainGlobals "row_sum"=some (some (.ref f3))) (l3:K.lookup f3=some ⟨oc3,od3,.func (CJ "row_sum" "row_sum" (au d0) (aq d0) (ai d0) .none kV3 dc3 pm3 an3 cd3 ct3),sl3⟩) (c3:CD K cd3 "row_sum"=true) (k3:CA K (.ref f3)=true)
  (a4:CC K mainGlobals "hand"=some (some (.ref f4))) (l4:K.lookup f4=some ⟨oc4,od4,.func (CJ "hand" "hand" (au iC) (aq iC) (ai iC) .none kV4 dc4 pm4 an4 cd4 ct4),sl4⟩) (c4:CD K cd4 "hand"=true) (k4:CA K (.ref f4)=true)
  (a5:CC K mainGlobals "is_move"=some (some (.ref f5))) (l5:K.lookup f5=some ⟨oc5,od5,.func (CJ "is_move" "is_move" (au dw) (aq dw) (ai dw) .none kV5 dc5 pm5 an5 cd5 ct5),sl5⟩) (c5:CD K cd5 "is_move"=true) (k5:CA K (.ref f5)=true)
  (a6:CC K mainGlobals "need_move"=some (some (.ref f6))) (l6:K.lookup f6=some ⟨oc6,od6,.func (CJ "need_move" "need_move" (au cX) (aq cX) (ai cX) .none kV6 dc6 pm6 an6 cd6 ct6),sl6⟩) (c6:CD K cd6 "need_move"=true) (k6:CA K (.ref f6)=true)
  (a7:CC K mainGlobals "turned"=some (some (.ref f7))) (l7:K.lookup f7=some ⟨oc7,od7,.func (CJ "turned" "turned" (au e7) (aq e7) (ai e7) .none kV7 dc7 pm7 an7 cd7 ct7),sl7⟩) (c7:CD K cd7 "turned"=true) (k7:CA K (.ref f7)=true)
  (a8:CC K mainGlobals "moved"=some (some (.ref f8))) (l8:K.lookup f8=some ⟨oc8,od8,.func (CJ "moved" "moved" (au gz) (aq gz) (ai gz) .none kV8 dc8 pm8 an8 cd8 ct8),sl8⟩) (c8:CD K cd8 "moved"=true) (k8:CA K (.ref f8)=true)
  (a9:CC K mainGlobals "steps"=some (some (.ref f9))) (l9:K.lookup f9=some ⟨oc9,od9,.func (CJ "steps" "steps" (au gj) (aq gj) (ai gj) .none kV9 dc9 pm9 an9 cd9 ct9),sl9⟩) (c9:CD K cd9 "steps"=true) (k9:CA K (.ref f9)=true)
  (a10:CC K mainGlobals "turn"=some (some (.ref f10))) (l10:K.lookup f10=some ⟨oc10,od10,.func (CJ "turn" "turn" (au iU) (aq iU) (ai iU) .none kV10 dc10 pm10 an10 cd10 ct10),sl10⟩) (c10:CD K cd10 "turn"=true) (k10:CA K (.ref f10)=true)
  (a11:CC K mainGlobals "left_bends"=some (some (.ref f11))) (l11:K.lookup f11=some ⟨oc11,od11,.func (CJ "left_bends" "left_bends" (au cC) (aq cC) (ai cC) .none kV11 dc11 pm11 an11 cd11 ct11),sl11⟩) (c11:CD K cd11 "left_bends"=true) (k11:CA K (.ref f11)=true)
  (a12:CC K mainGlobals "field"=some (some (.ref f12))) (l12:K.lookup f12=some ⟨oc12,od12,.func (CJ "field" "field" (au gh) (aq gh) (ai gh) .none kV12 dc12 pm12 an12 cd12 ct12),sl12⟩) (c12:CD K cd12 "field"=true) (k12:CA K (.ref f12)=true)
  (a13:CC K mainGlobals "sides"=some (some (.ref f13))) (l13:K.lookup f13=some ⟨oc13,od13,.func (CJ "sides" "sides" (au gC) (aq gC) (ai gC) .none kV13 dc13 pm13 an13 cd13 ct13),sl13⟩) (c13:CD K cd13 "sides"=true) (k13:CA K (.ref f13)=true)
  (a14:CC K mainGlobals "double_area"=some (some (.ref f14))) (l14:K.lookup f14=some ⟨oc14,od14,.func (CJ "double_area" "double_area" (au bO) (aq bO) (ai bO) .none kV14 dc14 pm14 an14 cd14 ct14),sl14⟩) (c14:CD K cd14 "double_area"=true) (k14:CA K (.ref f14)=true)
  (a15:CC K mainGlobals "rim"=some (some (.ref f15))) (l15:K.lookup f15=some ⟨oc15,od15,.func (CJ "rim" "rim" (au jX) (aq jX) (ai jX) .none kV15 dc15 pm15 an15 cd15 ct15),sl15⟩) (c15:CD K cd15 "rim"=true) (k15:CA K (.ref f15)=true)
  (a16:CC K mainGlobals "field_moved"=some (some (.ref f16))) (l16:K.lookup f16=some ⟨oc16,od16,.func (CJ "field_moved" "field_moved" (au bQ) (aq bQ) (ai bQ) .none kV16 dc16 pm16 an16 cd16 ct16),sl16⟩) (c16:CD K cd16 "field_moved"=true) (k16:CA K (.ref f16)=true)
  (a17:CC K mainGlobals "fold"=some (some (.ref f17))) (l17:K.lookup f17=some ⟨oc17,od17,.func (CJ "fold" "fold" (au g5) (aq g5) (ai g5) .none kV17 dc17 pm17 an17 cd17 ct17),sl17⟩) (c17:CD K cd17 "fold"=true) (k17:CA K (.ref f17)=true)
  (a18:CC K mainGlobals "multiple"=some (some (.ref f18))) (l18:K.lookup f18=some ⟨oc18,od18,.func (CJ "multiple" "multiple" (au dr) (aq dr) (ai dr) .none kV18 dc18 pm18 an18 cd18 ct18),sl18⟩) (c18:CD K cd18 "multiple"=true) (k18:CA K (.ref f18)=true)
  (a19:CC K mainGlobals "points_in"=some (some (.ref f19))) (l19:K.lookup f19=some ⟨oc19,od19,.func (CJ "points_in" "points_in" (au cQ) (aq cQ) (ai cQ) .none kV19 dc19 pm19 an19 cd19 ct19),sl19⟩) (c19:CD K cd19 "points_in"=true) (k19:CA K (.ref f19)=true)
  {D20:Addr} {dod20 dn20 dsl20 dt20:_} (q20:K.lookup D20=some ⟨.type "tuple",dod20,.seq #[.int 1 dt20] dn20,dsl20⟩)
  (a20:CC K mainGlobals "count"=some (some (.ref f20))) (l20:K.lookup f20=some ⟨oc20,od20,.func (CJ "count" "count" (au cN) (aq cN) (ai cN) (.ref D20) kV20 dc20 pm20 an20 cd20 ct20),sl20⟩) (c20:CD K cd20 "count"=true) (k20:CA K (.ref f20)=true)
  (a21:CC K mainGlobals "side_part"=some (some (.ref f21))) (l21:K.lookup f21=some ⟨oc21,od21,.func (CJ "side_part" "side_part" (au cR) (aq cR) (ai cR) .none kV21 dc21 pm21 an21 cd21 ct21),sl21⟩) (c21:CD K cd21 "side_part"=true) (k21:CA K (.ref f21)=true)
  (a22:CC K mainGlobals "last_column"=some (some (.ref f22))) (l22:K.lookup f22=some ⟨oc22,od22,.func (CJ "last_column" "last_column" (au bN) (aq bN) (ai bN) .none kV22 dc22 pm22 an22 cd22 ct22),sl22⟩) (c22:CD K cd22 "last_column"=true) (k22:CA K (.ref f22)=true)
  (a23:CC K mainGlobals "columns"=some (some (.ref f23))) (l23:K.lookup f23=some ⟨oc23,od23,.func (CJ "columns" "columns" (au dA) (aq dA) (ai dA) .none kV23 dc23 pm23 an23 cd23 ct23),sl23⟩) (c23:CD K cd23 "columns"=true) (k23:CA K (.ref f23)=true)
  (a24:CC K mainGlobals "share"=some (some (.ref f24))) (l24:K.lookup f24=some ⟨oc24,od24,.func (CJ "share" "share" (au gi) (aq gi) (ai gi) .none kV24 dc24 pm24 an24 cd24 ct24),sl24⟩) (c24:CD K cd24 "share"=true) (k24:CA K (.ref f24)=true)
  (a25:CC K mainGlobals "_law_cell"=some (some (.ref f25))) (l25:K.lookup f25=some ⟨oc25,od25,.func (CJ "_law_cell" "_law_cell" (au cV) (aq cV) (ai cV) .none kV25 dc25 pm25 an25 cd25 ct25),sl25⟩) (c25:CD K cd25 "_law_cell"=true) (k25:CA K (.ref f25)=true)
  (a26:CC K mainGlobals "_law_great"=some (some (.ref f26))) (l26:K.lookup f26=some ⟨oc26,od26,.func (CJ "_law_great" "_law_great" (au cq) (aq cq) (ai cq) .none kV26 dc26 pm26 an26 cd26 ct26),sl26⟩) (c26:CD K cd26 "_law_great"=true) (k26:CA K (.ref f26)=true)
  (a27:CC K mainGlobals "_law_divisor"=some (some (.ref f27))) (l27:K.lookup f27=some ⟨oc27,od27,.func (CJ "_law_divisor" "_law_divisor" (au bU) (aq bU) (ai bU) .none kV27 dc27 pm27 an27 cd27 ct27),sl27⟩) (c27:CD K cd27 "_law_divisor"=true) (k27:CA K (.ref f27)=true)
  (a28:CC K mainGlobals "_law_side"=some (some (.ref f28))) (l28:K.lookup f28=some ⟨oc28,od28,.func (CJ "_law_side" "_law_side" (au cW) (aq cW) (ai cW) .none kV28 dc28 pm28 an28 cd28 ct28),sl28⟩) (c28:CD K cd28 "_law_side"=true) (k28:CA K (.ref f28)=true)
  (a29:CC K mainGlobals "_law_half"=some (some (.ref f29))) (l29:K.lookup f29=some ⟨oc29,od29,.func (CJ "_law_half" "_law_half" (au cT) (aq cT) (ai cT) .none kV29 dc29 pm29 an29 cd29 ct29),sl29⟩) (c29:CD K cd29 "_law_half"=true) (k29:CA K (.ref f29)=true)
  (a30:CC K mainGlobals "_law_corners"=some (some (.ref f30))) (l30:K.lookup f30=some ⟨oc30,od30,.func (CJ "_law_corners" "_law_corners" (au bW) (aq bW) (ai bW) .none kV30 dc30 pm30 an30 cd30 ct30),sl30⟩) (c30:CD K cd30 "_law_corners"=true) (k30:CA K (.ref f30)=true)
  (a31:CC K mainGlobals "_law_points"=some (some (.ref f31))) (l31:K.lookup f31=some ⟨oc31,od31,.func (CJ "_law_points" "_law_points" (au ce) (aq ce) (ai ce) .none kV31 dc31 pm31 an31 cd31 ct31),sl31⟩) (c31:CD K cd31 "_law_points"=true) (k31:CA K (.ref f31)=true)
  (a32:CC K mainGlobals "_law_all"=some (some (.ref f32))) (l32:K.lookup f32=some ⟨oc32,od32,.func (CJ "_law_all" "_law_all" (au dt) (aq dt) (ai dt) .none kV32 dc32 pm32 an32 cd32 ct32),sl32⟩) (c32:CD K cd32 "_law_all"=true) (k32:CA K (.ref f32)=true)
  (a33:CC K mainGlobals "_law_way"=some (some (.ref f33))) (l33:K.lookup f33=some ⟨oc33,od33,.func (CJ "_law_way" "_law_way" (au dz) (aq dz) (ai dz) .none kV33 dc33 pm33 an33 cd33 ct33),sl33⟩) (c33:CD K cd33 "_law_way"=true) (k33:CA K (.ref f33)=true)
  (a34:CC K mainGlobals "_law_in_column"=some (some (.ref f34))) (l34:K.lookup f34=some ⟨oc34,od34,.func (CJ "_law_in_column" "_law_in_column" (au aN) (aq aN) (ai aN) .none kV34 dc34 pm34 an34 cd34 ct34),sl34⟩) (c34:CD K cd34 "_law_in_column"=true) (k34:CA K (.ref f34)=true)
  (a35:CC K mainGlobals "_law_turned"=some (some (.ref f35))) (l35:K.lookup f35=some ⟨oc35,od35,.func (CJ "_law_turned" "_law_turned" (au bR) (aq bR) (ai bR) .none kV35 dc35 pm35 an35 cd35 ct35),sl35⟩) (c35:CD K cd35 "_law_turned"=true) (k35:CA K (.ref f35)=true)
  (a36:CC K mainGlobals "_law_good"=some (some (.ref f36))) (l36:K.lookup f36=some ⟨oc36,od36,.func (CJ "_law_good" "_law_good" (au cU) (aq cU) (ai cU) .none kV36 dc36 pm36 an36 cd36 ct36),sl36⟩) (c36:CD K cd36 "_law_good"=true) (k36:CA K (.ref f36)=true)
  (a37:CC K mainGlobals "law"=some (some (.ref f37))) (l37:K.lookup f37=some ⟨oc37,od37,.func (CJ "law" "law" (au jQ) (aq jQ) (ai jQ) .none kV37 dc37 pm37 an37 cd37 ct37),sl37⟩) (c37:CD K cd37 "law"=true) (k37:CA K (.ref f37)=true)
  (e_NoField:CC K mainGlobals "NoField"=some (some (.ref c_NoField))) (x_NoField:Gd K c_NoField [.type "ValueError",.type "Exception",.type "BaseException",.type "object"] "ValueError.__new__"=true)
  (e_NoMove:CC K mainGlobals "NoMove"=some (some (.ref c_NoMove))) (x_NoMove:Gd K c_NoMove [.type "ValueError",.type "Exception",.type "BaseException",.type "object"] "ValueError.__new__"=true)
  (z_abs:CC K mainGlobals "abs"=some none)
  (z_all:CC K mainGlobals "all"=some none)
  (z_bool:CC K mainGlobals "bool"=some none)
  (z_int:CC K mainGlobals "int"=some none)
  (z_isinstance:CC K mainGlobals "isinstance"=some none)
  (z_len:CC K mainGlobals "len"=some none)
  (z_list:CC K mainGlobals "list"=some none)
  (z_max:CC K mainGlobals "max"=some none)
  (z_min:CC K mainGlobals "min"=some none)
  (z_range:CC K mainGlobals "range"=some none)
  (z_reversed:CC K mainGlobals "reversed"=some none)
  (z_set:CC K mainGlobals "set"=some none)
  (z_sorted:CC K mainGlobals "sorted"=some none)
  (z_sum:CC K mainGlobals "sum"=some none)
  (z_tuple:CC K mainGlobals "tuple"=some none)
  (z_zip:CC K mainGlobals "zip"=some none)
  :∃ T:Txt K mg,T.a_law=fa∧(∀ (s:Shared) (v:Value),BindsTo s T.d_law ⟨[v],[]⟩ [("script",v)]):=by
 have e:=hfa.symm.trans (CK X G a37)
 cases e
 have F0:=aR (st:=dy) l0 c0 k0
 have b0:=F0.binds (ps:=["thing"]) fun _ _ _ _ _ _ us hl=> ar1 (p:=fun us=> bindArgs _ ⟨us,[]⟩=pure (C7 _ us)) hl fun _=> rfl
 have F1:=aR (st:=iN) l1 c1 k1
 have b1:=F1.binds (ps:=["number"]) fun _ _ _ _ _ _ us hl=> ar1 (p:=fun us=> bindArgs _ ⟨us,[]⟩=pure (C7 _ us)) hl fun _=> rfl
 have F2:=aR (st:=ff) l2 c2 k2
 have b2:=F2.binds (ps:=["a","b"]) fun _ _ _ _ _ _ us hl=> ar2 (p:=fun us=> bindArgs _ ⟨us,[]⟩=pure (C7 _ us)) hl fun _ _=> rfl
 have F3:=aR (st:=d0) l3 c3 k3
 have b3:=F3.binds (ps:=["many","step","start","part"]) fun _ _ _ _ _ _ us hl=> ar4 (p:=fun us=> bindArgs _ ⟨us,[]⟩=pure (C7 _ us)) hl fun _ _ _ _=> rfl
 have F4:=aR (st:=iC) l4 c4 k4
 have b4:=F4.binds (ps:=["move"]) fun _ _ _ _ _ _ us hl=> ar1 (p:=fun us=> bindArgs _ ⟨us,[]⟩=pure (C7 _ us)) hl fun _=> rfl
 have F5:=aR (st:=dw) l5 c5 k5
 have b5:=F5.binds (ps:=["thing"]) fun _ _ _ _ _ _ us hl=> ar1 (p:=fun us=> bindArgs _ ⟨us,[]⟩=pure (C7 _ us)) hl fun _=> rfl
 have F6:=aR (st:=cX) l6 c6 k6
 have b6:=F6.binds (ps:=["thing"]) fun _ _ _ _ _ _ us hl=> ar1 (p:=fun us=> bindArgs _ ⟨us,[]⟩=pure (C7 _ us)) hl fun _=> rfl
 have F7:=aR (st:=e7) l7 c7 k7
 have b7:=F7.binds (ps:=["P","move"]) fun _ _ _ _ _ _ us hl=> ar2 (p:=fun us=> bindArgs _ ⟨us,[]⟩=pure (C7 _ us)) hl fun _ _=> rfl
 have F8:=aR (st:=gz) l8 c8 k8
 have b8:=F8.binds (ps:=["P","move"]) fun _ _ _ _ _ _ us hl=> ar2 (p:=fun us=> bindArgs _ ⟨us,[]⟩=pure (C7 _ us)) hl fun _ _=> rfl
 have F9:=aR (st:=gj) l9 c9 k9
 have b9:=F9.binds (ps:=["P","Q"]) fun _ _ _ _ _ _ us hl=> ar2 (p:=fun us=> bindArgs _ ⟨us,[]⟩=pure (C7 _ us)) hl fun _ _=> rfl
 have F10:=aR (st:=iU) l10 c10 k10
 have b10:=F10.binds (ps:=["P","Q","R"]) fun _ _ _ _ _ _ us hl=> ar3 (p:=fun us=> bindArgs _ ⟨us,[]⟩=pure (C7 _ us)) hl fun _ _ _=> rfl
 have F11:=aR (st:=cC) l11 c11 k11
 have b11:=F11.binds (ps:=["row"]) fun _ _ _ _ _ _ us hl=> ar1 (p:=fun us=> bindArgs _ ⟨us,[]⟩=pure (C7 _ us)) hl fun _=> rfl
 have F12:=aR (st:=gh) l12 c12 k12
 have b12:=F12.binds (ps:=["points"]) fun _ _ _ _ _ _ us hl=> ar1 (p:=fun us=> bindArgs _ ⟨us,[]⟩=pure (C7 _ us)) hl fun _=> rfl
 have F13:=aR (st:=gC) l13 c13 k13
 have b13:=F13.binds (ps:=["land"]) fun _ _ _ _ _ _ us hl=> ar1 (p:=fun us=> bindArgs _ ⟨us,[]⟩=pure (C7 _ us)) hl fun _=> rfl
 have F14:=aR (st:=bO) l14 c14 k14
 have b14:=F14.binds (ps:=["land"]) fun _ _ _ _ _ _ us hl=> ar1 (p:=fun us=> bindArgs _ ⟨us,[]⟩=pure (C7 _ us)) hl fun _=> rfl
 have F15:=aR (st:=jX) l15 c15 k15
 have b15:=F15.binds (ps:=["land"]) fun _ _ _ _ _ _ us hl=> ar1 (p:=fun us=> bindArgs _ ⟨us,[]⟩=pure (C7 _ us)) hl fun _=> rfl
 have F16:=aR (st:=bQ) l16 c16 k16
 have b16:=F16.binds (ps:=["land","move"]) fun _ _ _ _ _ _ us hl=> ar2 (p:=fun us=> bindArgs _ ⟨us,[]⟩=pure (C7 _ us)) hl fun _ _=> rfl
 have F17:=aR (st:=g5) l17 c17 k17
 have b17:=F17.binds (ps:=["land","k"]) fun _ _ _ _ _ _ us hl=> ar2 (p:=fun us=> bindArgs _ ⟨us,[]⟩=pure (C7 _ us)) hl fun _ _=> rfl
 have F18:=aR (st:=dr) l18 c18 k18
 have b18:=F18.binds (ps:=["land","k"]) fun _ _ _ _ _ _ us hl=> ar2 (p:=fun us=> bindArgs _ ⟨us,[]⟩=pure (C7 _ us)) hl fun _ _=> rfl
 have F19:=aR (st:=cQ) l19 c19 k19
 have b19:=F19.binds (ps:=["land"]) fun _ _ _ _ _ _ us hl=> ar1 (p:=fun us=> bindArgs _ ⟨us,[]⟩=pure (C7 _ us)) hl fun _=> rfl
 have F20:=xP (st:=cN) l20 c20 k20
 have b20:aP K (CJ "count" "count" (au cN) (aq cN) (ai cN) (.ref D20) kV20 dc20 pm20 an20 cd20 ct20) ["land","k"] []:=fun s us X hl=> match us,hl with | [_,_],_=> BindsTo.of_defaults rfl (X _ _ q20) rfl rfl rfl
 have bd20:∃ t,aP K (CJ "count" "count" (au cN) (aq cN) (ai cN) (.ref D20) kV20 dc20 pm20 an20 cd20 ct20) ["land","k"] [.int 1 t]:=⟨dt20,fun s us X hl=> match us,(show us.length=1 by simpa using hl) with | [_],_=> BindsTo.of_defaults rfl (X _ _ q20) rfl rfl rfl⟩
 have F21:=aR (st:=cR) l21 c21 k21
 have b21:=F21.binds (ps:=["A","B","left","right"]) fun _ _ _ _ _ _ us hl=> ar4 (p:=fun us=> bindArgs _ ⟨us,[]⟩=pure (C7 _ us)) hl fun _ _ _ _=> rfl
 have F22:=aR (st:=bN) l22 c22 k22
 have b22:=F22.binds (ps:=["land","left","right"]) fun _ _ _ _ _ _ us hl=> ar3 (p:=fun us=> bindArgs _ ⟨us,[]⟩=pure (C7 _ us)) hl fun _ _ _=> rfl
 have F23:=aR (st:=dA) l23 c23 k23
 have b23:=F23.binds (ps:=["land","left","right"]) fun _ _ _ _ _ _ us hl=> ar3 (p:=fun us=> bindArgs _ ⟨us,[]⟩=pure (C7 _ us)) hl fun _ _ _=> rfl
 have F24:=aR (st:=gi) l24 c24 k24
 have b24:=F24.binds (ps:=["land","a","b","c"]) fun _ _ _ _ _ _ us hl=> ar4 (p:=fun us=> bindArgs _ ⟨us,[]⟩=pure (C7 _ us)) hl fun _ _ _ _=> rfl
 have F25:=aR (st:=cV) l25 c25 k25
 have b25:=F25.binds (ps:=["script","k"]) fun _ _ _ _ _ _ us hl=> ar2 (p:=fun us=> bindArgs _ ⟨us,[]⟩=pure (C7 _ us)) hl fun _ _=> rfl
 have F26:=aR (st:=cq) l26 c26 k26
 have b26:=F26.binds (ps:=["cell"]) fun _ _ _ _ _ _ us hl=> ar1 (p:=fun us=> bindArgs _ ⟨us,[]⟩=pure (C7 _ us)) hl fun _=> rfl
 have F27:=aR (st:=bU) l27 c27 k27
 have b27:=F27.binds (ps:=["one","other"]) fun _ _ _ _ _ _ us hl=> ar2 (p:=fun us=> bindArgs _ ⟨us,[]⟩=pure (C7 _ us)) hl fun _ _=> rfl
 have F28:=aR (st:=cW) l28 c28 k28
 have b28:=F28.binds (ps:=["a","b","p"]) fun _ _ _ _ _ _ us hl=> ar3 (p:=fun us=> bindArgs _ ⟨us,[]⟩=pure (C7 _ us)) hl fun _ _ _=> rfl
 have F29:=aR (st:=cT) l29 c29 k29
 have b29:=F29.binds (ps:=["points"]) fun _ _ _ _ _ _ us hl=> ar1 (p:=fun us=> bindArgs _ ⟨us,[]⟩=pure (C7 _ us)) hl fun _=> rfl
 have F30:=aR (st:=bW) l30 c30 k30
 have b30:=F30.binds (ps:=["points"]) fun _ _ _ _ _ _ us hl=> ar1 (p:=fun us=> bindArgs _ ⟨us,[]⟩=pure (C7 _ us)) hl fun _=> rfl
 have F31:=aR (st:=ce) l31 c31 k31
 have b31:=F31.binds (ps:=["script"]) fun _ _ _ _ _ _ us hl=> ar1 (p:=fun us=> bindArgs _ ⟨us,[]⟩=pure (C7 _ us)) hl fun _=> rfl
 have F32:=aR (st:=dt) l32 c32 k32
 have b32:=F32.binds (ps:=["land"]) fun _ _ _ _ _ _ us hl=> ar1 (p:=fun us=> bindArgs _ ⟨us,[]⟩=pure (C7 _ us)) hl fun _=> rfl
 have F33:=aR (st:=dz) l33 c33 k33
 have b33:=F33.binds (ps:=["script"]) fun _ _ _ _ _ _ us hl=> ar1 (p:=fun us=> bindArgs _ ⟨us,[]⟩=pure (C7 _ us)) hl fun _=> rfl
 have F34:=aR (st:=aN) l34 c34 k34
 have b34:=F34.binds (ps:=["land","c"]) fun _ _ _ _ _ _ us hl=> ar2 (p:=fun us=> bindArgs _ ⟨us,[]⟩=pure (C7 _ us)) hl fun _ _=> rfl
 have F35:=aR (st:=bR) l35 c35 k35
 have b35:=F35.binds (ps:=["land","a","b","c"]) fun _ _ _ _ _ _ us hl=> ar4 (p:=fun us=> bindArgs _ ⟨us,[]⟩=pure (C7 _ us)) hl fun _ _ _ _=> rfl
 have F36:=aR (st:=cU) l36 c36 k36
 have b36:=F36.binds (ps:=["found","due"]) fun _ _ _ _ _ _ us hl=> ar2 (p:=fun us=> bindArgs _ ⟨us,[]⟩=pure (C7 _ us)) hl fun _ _=> rfl
 have F37:=aR (st:=jQ) l37 c37 k37
 have b37:=F37.binds (ps:=["script"]) fun _ _ _ _ _ _ us hl=> ar1 (p:=fun us=> bindArgs _ ⟨us,[]⟩=pure (C7 _ us)) hl fun _=> rfl
 exact ⟨⟨_,_,F0,b0,CK X G a0,_,_,F1,b1,CK X G a1,_,_,F2,b2,CK X G a2,_,_,F3,b3,CK X G a3,_,_,F4,b4,CK X G a4,_,_,F5,b5,CK X G a5,_,_,F6,b6,CK X G a6,_,_,F7,b7,CK X G a7,_,_,F8,b8,CK X G a8,_,_,F9,b9,CK X G a9,_,_,F10,b10,CK X G a10,_,_,F11,b11,CK X G a11,_,_,F12,b12,CK X G a12,_,_,F13,b13,CK X G a13,_,_,F14,b14,CK X G a14,_,_,F15,b15,CK X G a15,_,_,F16,b16,CK X G a16,_,_,F17,b17,CK X G a17,_,_,F18,b18,CK X G a18,_,_,F19,b19,CK X G a19,_,_,_,F20,b20,bd20,CK X G a20,_,_,F21,b21,CK X G a21,_,_,F22,b22,CK X G a22,_,_,F23,b23,CK X G a23,_,_,F24,b24,CK X G a24,_,_,F25,b25,CK X G a25,_,_,F26,b26,CK X G a26,_,_,F27,b27,CK X G a27,_,_,F28,b28,CK X G a28,_,_,F29,b29,CK X G a29,_,_,F30,b30,CK X G a30,_,_,F31,b31,CK X G a31,_,_,F32,b32,CK X G a32,_,_,F33,b33,CK X G a33,_,_,F34,b34,CK X G a34,_,_,F35,b35,CK X G a35,_,_,F36,b36,CK X G a36,_,_,F37,b37,CK X G a37,_,x_NoField,CK X G e_NoField,_,x_NoMove,CK X G e_NoMove,Dk X G z_abs,Dk X G z_all,Dk X G z_bool,Dk X G z_int,Dk X G z_isinstance,Dk X G z_len,Dk X G z_list,Dk X G z_max,Dk X G z_min,Dk X G z_range,Dk X G z_reversed,Dk X G z_set,Dk X G z_sorted,Dk X G z_sum,Dk X G z_tuple,Dk X G z_zip⟩,rfl,fun s v=> .of_eq rfl⟩
abbrev spLaw (K:Cn):Sp:=spU K ir
theorem law_start (K:Cn) (H:Hp) (a:Addr) (ns:List Int) (h1:ns.length≤63) (h2:∀ m∈ns,Sz 1048576 m) (_:xH H) (h3:SqL K H a (ns.map V.int)):spLaw K [.ref a] H (fun v _=> v=.bl true) fun _ _ _=> False:=tW h1 h2 h3
theorem law_ok {P:Program} {w:World} {K:Cn} {mg:Str→Option Value} {fa:Addr} (h:∃ T:Txt K mg,T.a_law=fa∧(∀ (s:Shared) (v:Value),BindsTo s T.d_law ⟨[v],[]⟩ [("script",v)])):
  ∃ fd:FuncData,(∀ (s:Shared) (u:Value),BindsTo s fd ⟨[u],[]⟩ [("script",u)])∧∀ base:Heap,K.In base→base.Ns mainGlobals mg→bo P w K mg base CX0 9 fa fd ["script"] (spLaw K):=by
 obtain ⟨T,rfl,hb⟩:=h
 exact ⟨T.d_law,hb,fun base _ _=> (zJ T).calm uZ⟩
end My
def PySem.W.Fast.tw3034946725590618604:Unit:=()
def PySem.W.Fast.tw16726061596506367850:Unit:=()
def PySem.W.Fast.tw10763822221178255724:Unit:=()
def PySem.W.Fast.tw6450932791188567193:Unit:=()
def PySem.W.Fast.tw5775881996262434283:Unit:=()
def PySem.W.Fast.tw18107841975812855965:Unit:=()
def PySem.W.Fast.tw11303641052096987863:Unit:=()
def PySem.W.Fast.tw2014310115201987090:Unit:=()
def PySem.W.Fast.tw10812904520832203914:Unit:=()
def PySem.W.Fast.tw15573103087736930251:Unit:=()
def PySem.W.Fast.tw1748432623778778769:Unit:=()
def PySem.W.Fast.tw12769485854530283881:Unit:=()
def PySem.W.Fast.tw12561034309212453085:Unit:=()
def PySem.W.Fast.tw11353890845280077910:Unit:=()
def PySem.W.Fast.tw1900280343103912348:Unit:=()
def PySem.W.Fast.tw12174103267997973063:Unit:=()
def PySem.W.Fast.tw8899770258553780513:Unit:=()
def PySem.W.Fast.tw2605293800782492253:Unit:=()
def PySem.W.Fast.tw2636124609702952344:Unit:=()
def PySem.W.Fast.tw10714137541018182925:Unit:=()
def PySem.W.Fast.tw10299454909705427072:Unit:=()
def PySem.W.Fast.tw1089316214881243499:Unit:=()
def PySem.W.Fast.tw12174021507324738072:Unit:=()
def PySem.W.Fast.tw15812723081190506853:Unit:=()
def PySem.W.Fast.tw7647424404240453741:Unit:=()
def PySem.W.Fast.tw14235315066191298108:Unit:=()
def PySem.W.Fast.tw11836800940299740285:Unit:=()
def PySem.W.Fast.tw333825425005055356:Unit:=()
def PySem.W.Fast.tw13013475693610691623:Unit:=()
def PySem.W.Fast.tw75557568146604745:Unit:=()
def PySem.W.Fast.tw9483335092476411267:Unit:=()
def PySem.W.Fast.tw9647194883963245919:Unit:=()
def PySem.W.Fast.tw5083226204661173643:Unit:=()
def PySem.W.Fast.tw17569338323008560928:Unit:=()
def PySem.W.Fast.tw8726926889585398903:Unit:=()
def PySem.W.Fast.tw4719266033758236726:Unit:=()
def PySem.W.Fast.tw15463289885334277017:Unit:=()
def PySem.W.Fast.tw1931054602173906571:Unit:=()
def PySem.W.Fast.tw6977512188204614523:Unit:=()
def PySem.W.Fast.tw15739121134150230769:Unit:=()
def PySem.W.Fast.tw16417696691122878160:Unit:=()
def PySem.W.Fast.tw7332986999312296241:Unit:=()
def PySem.W.Fast.tw13016948072102726723:Unit:=()
def PySem.W.Fast.tw15965988640724201609:Unit:=()
def PySem.W.Fast.tw15057207323818683993:Unit:=()
def PySem.W.Fast.tw13665845418678182378:Unit:=()
def PySem.W.Fast.tw3415865366131484739:Unit:=()
def PySem.W.Fast.tw10316227715928627031:Unit:=()
def PySem.W.Fast.tw16878084503065984449:Unit:=()
def PySem.W.Fast.tw6732860746085132638:Unit:=()
def PySem.W.Fast.tw17294453713125303177:Unit:=()
def PySem.W.Fast.tw7947650222544323506:Unit:=()
def PySem.W.Fast.tw16466647081249855918:Unit:=()
def PySem.W.Fast.tw12609930655221649958:Unit:=()
def PySem.W.Fast.tw6661941494489949311:Unit:=()
def PySem.W.Fast.tw13171900604874925327:Unit:=()
def PySem.W.Fast.tw14342652897341484722:Unit:=()
def PySem.W.Fast.tw15158676286935044032:Unit:=()
def PySem.W.Fast.tw9494795397014439970:Unit:=()
def PySem.W.Fast.tw4615872661119147329:Unit:=()
def PySem.W.Fast.tw2255801587637270377:Unit:=()
def PySem.W.Fast.tw10065557871826943702:Unit:=()
def PySem.W.Fast.tw12903190230492838734:Unit:=()
def PySem.W.Fast.tw173763368806822253:Unit:=()
def PySem.W.Fast.tw87002581846359511:Unit:=()
def PySem.W.Fast.tw12131584982489012082:Unit:=()
def PySem.W.Fast.tw10872576293327804344:Unit:=()
def PySem.W.Fast.tw11693162805433321349:Unit:=()
def PySem.W.Fast.tw15097242731554736966:Unit:=()
def PySem.W.Fast.tw3950069160887553001:Unit:=()
def PySem.W.Fast.tw9259866458765270635:Unit:=()
def PySem.W.Fast.tw11191141152066861976:Unit:=()
def PySem.W.Fast.tw11873680037034714491:Unit:=()
open PySem PySem.W PyProof.Rows L2
set_option maxRecDepth 100000 in
set_option maxHeartbeats 0 in
theorem PySem.Challenge.cw_stakefield_k34_whole_shares_come_to_all_holds : PySem.Challenge.rw_stakefield_k34_whole_shares_come_to_all.Holds := by
 w_on; o_law; k_head; (case hw=> w_witness2)
 k_fill
 refine L2.walk_ofB (l:=PySem.Challenge.rw_stakefield_k34_whole_shares_come_to_all) (n:=63) (k:=9) (x:="script") (CX:=CX0) (sp:=My.spLaw) rfl (by decide) rfl ⟨rfl,by decide,by decide⟩ (fun w h Y=> by first | exact IF Y | exact PySem.W.km_in_of Y) ?F My.law_start (fun _ _ _ _ z=> z)
 case F=>
  intro w mg fa h KX G hmg
  refine My.law_ok ?T
  refine' My.txt_mk KX G hmg ?a0 ?l0 ?c0 ?k0 ?a1 ?l1 ?c1 ?k1 ?a2 ?l2 ?c2 ?k2 ?a3 ?l3 ?c3 ?k3 ?a4 ?l4 ?c4 ?k4 ?a5 ?l5 ?c5 ?k5 ?a6 ?l6 ?c6 ?k6 ?a7 ?l7 ?c7 ?k7 ?a8 ?l8 ?c8 ?k8 ?a9 ?l9 ?c9 ?k9 ?a10 ?l10 ?c10 ?k10 ?a11 ?l11 ?c11 ?k11 ?a12 ?l12 ?c12 ?k12 ?a13 ?l13 ?c13 ?k13 ?a14 ?l14 ?c14 ?k14 ?a15 ?l15 ?c15 ?k15 ?a16 ?l16 ?c16 ?k16 ?a17 ?l17 ?c17 ?k17 ?a18 ?l18 ?c18 ?k18 ?a19 ?l19 ?c19 ?k19 ?q20 ?a20 ?l20 ?c20 ?k20 ?a21 ?l21 ?c21 ?k21 ?a22 ?l22 ?c22 ?k22 ?a23 ?l23 ?c23 ?k23 ?a24 ?l24 ?c24 ?k24 ?a25 ?l25 ?c25 ?k25 ?a26 ?l26 ?c26 ?k26 ?a27 ?l27 ?c27 ?k27 ?a28 ?l28 ?c28 ?k28 ?a29 ?l29 ?c29 ?k29 ?a30 ?l30 ?c30 ?k30 ?a31 ?l31 ?c31 ?k31 ?a32 ?l32 ?c32 ?k32 ?a33 ?l33 ?c33 ?k33 ?a34 ?l34 ?c34 ?k34 ?a35 ?l35 ?c35 ?k35 ?a36 ?l36 ?c36 ?k36 ?a37 ?l37 ?c37 ?k37 ?e_NoField ?x_NoField ?e_NoMove ?x_NoMove ?z_abs ?z_all ?z_bool ?z_int ?z_isinstance ?z_len ?z_list ?z_max ?z_min ?z_range ?z_reversed ?z_set ?z_sorted ?z_sum ?z_tuple ?z_zip  
  (case a0=> k_is); (case l0=> k_is); (case c0=> k_is); (case k0=> k_is)
  (case a1=> k_is); (case l1=> k_is); (case c1=> k_is); (case k1=> k_is)
  (case a2=> k_is); (case l2=> k_is); (case c2=> k_is); (case k2=> k_is)
  (case a3=> k_is); (case l3=> k_is); (case c3=> k_is); (case k3=> k_is)
  (case a4=> k_is); (case l4=> k_is); (case c4=> k_is); (case k4=> k_is)
  (case a5=> k_is); (case l5=> k_is); (case c5=> k_is); (case k5=> k_is)
  (case a6=> k_is); (case l6=> k_is); (case c6=> k_is); (case k6=> k_is)
  (case a7=> k_is); (case l7=> k_is); (case c7=> k_is); (case k7=> k_is)
  (case a8=> k_is); (case l8=> k_is); (case c8=> k_is); (case k8=> k_is)
  (case a9=> k_is); (case l9=> k_is); (case c9=> k_is); (case k9=> k_is)
  (case a10=> k_is); (case l10=> k_is); (case c10=> k_is); (case k10=> k_is)
  (case a11=> k_is); (case l11=> k_is); (case c11=> k_is); (case k11=> k_is)
  (case a12=> k_is); (case l12=> k_is); (case c12=> k_is); (case k12=> k_is)
  (case a13=> k_is); (case l13=> k_is); (case c13=> k_is); (case k13=> k_is)
  (case a14=> k_is); (case l14=> k_is); (case c14=> k_is); (case k14=> k_is)
  (case a15=> k_is); (case l15=> k_is); (case c15=> k_is); (case k15=> k_is)
  (case a16=> k_is); (case l16=> k_is); (case c16=> k_is); (case k16=> k_is)
  (case a17=> k_is); (case l17=> k_is); (case c17=> k_is); (case k17=> k_is)
  (case a18=> k_is); (case l18=> k_is); (case c18=> k_is); (case k18=> k_is)
  (case a19=> k_is); (case l19=> k_is); (case c19=> k_is); (case k19=> k_is)
  (case a20=> k_is); (case l20=> k_is); (case c20=> k_is); (case k20=> k_is); (case q20=> k_is)
  (case a21=> k_is); (case l21=> k_is); (case c21=> k_is); (case k21=> k_is)
  (case a22=> k_is); (case l22=> k_is); (case c22=> k_is); (case k22=> k_is)
  (case a23=> k_is); (case l23=> k_is); (case c23=> k_is); (case k23=> k_is)
  (case a24=> k_is); (case l24=> k_is); (case c24=> k_is); (case k24=> k_is)
  (case a25=> k_is); (case l25=> k_is); (case c25=> k_is); (case k25=> k_is)
  (case a26=> k_is); (case l26=> k_is); (case c26=> k_is); (case k26=> k_is)
  (case a27=> k_is); (case l27=> k_is); (case c27=> k_is); (case k27=> k_is)
  (case a28=> k_is); (case l28=> k_is); (case c28=> k_is); (case k28=> k_is)
  (case a29=> k_is); (case l29=> k_is); (case c29=> k_is); (case k29=> k_is)
  (case a30=> k_is); (case l30=> k_is); (case c30=> k_is); (case k30=> k_is)
  (case a31=> k_is); (case l31=> k_is); (case c31=> k_is); (case k31=> k_is)
  (case a32=> k_is); (case l32=> k_is); (case c32=> k_is); (case k32=> k_is)
  (case a33=> k_is); (case l33=> k_is); (case c33=> k_is); (case k33=> k_is)
  (case a34=> k_is); (case l34=> k_is); (case c34=> k_is); (case k34=> k_is)
  (case a35=> k_is); (case l35=> k_is); (case c35=> k_is); (case k35=> k_is)
  (case a36=> k_is); (case l36=> k_is); (case c36=> k_is); (case k36=> k_is)
  (case a37=> k_is); (case l37=> k_is); (case c37=> k_is); (case k37=> k_is)
  (case e_NoField=> k_is); (case x_NoField=> k_exc)
  (case e_NoMove=> k_is); (case x_NoMove=> k_exc)
  (case z_abs=> k_is)
  (case z_all=> k_is)
  (case z_bool=> k_is)
  (case z_int=> k_is)
  (case z_isinstance=> k_is)
  (case z_len=> k_is)
  (case z_list=> k_is)
  (case z_max=> k_is)
  (case z_min=> k_is)
  (case z_range=> k_is)
  (case z_reversed=> k_is)
  (case z_set=> k_is)
  (case z_sorted=> k_is)
  (case z_sum=> k_is)
  (case z_tuple=> k_is)
  (case z_zip=> k_is)
