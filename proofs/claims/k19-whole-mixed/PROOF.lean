import PyProof.Rows.All
import Wide.All
import OpenK.AllK
import Wide.FinOn
import Lean
import PyProof.EqAt
import PyProof.EqKinds
import PyProof.NeKinds
import PyProof.TupleCall
import KE.KDictSum
import KE.KSortTup
import KE.KRevIter
import KE.KRevSl
import PySem.Challenge.RW_stakefield_k19_whole_mixed
set_option Elab.async false
set_option linter.all false
set_option maxRecDepth 100000
namespace L2
open PySem PySem.Spec PyProof.Rows
abbrev Key:=Sum Int Str
def wb:Key→Value→Bool
 | .inl k,v=> Value.isInt k v
 | .inr x,v=> Value.isStrOf x v
def zf (w:World):Key→Int
 | .inl k=> hashInt k
 | .inr x=> hashStr w x
theorem bA:∀ {k:Key} {v:Value},wb k v=true→(∃ i t,k=Sum.inl i∧v=Value.int i t)∨(∃ x t,k=Sum.inr x∧v=Value.str x t)
 | .inl i,v,h=> by
  obtain ⟨t,e⟩:=Value.isInt_shape (k:=i) (v:=v) h
  exact .inl ⟨i,t,rfl,e⟩
 | .inr x,v,h=> by
  obtain ⟨t,e⟩:=Value.isStrOf_shape (x:=x) (v:=v) h
  exact .inr ⟨x,t,rfl,e⟩
theorem wj (a b:Int):decide ((Sum.inl a:Key)=Sum.inl b)=(a==b):=by
 by_cases e:a=b
 ·subst e; simp
 ·have h:¬ (Sum.inl a:Key)=Sum.inl b:=fun q=> e (Sum.inl.inj q)
  rw [decide_eq_false h]
  exact (beq_eq_false_iff_ne.mpr e).symm
theorem wG (a b:Str):decide ((Sum.inr a:Key)=Sum.inr b)=decide (a=b):=by
 by_cases e:a=b
 ·subst e; simp
 ·have h:¬ (Sum.inr a:Key)=Sum.inr b:=fun q=> e (Sum.inr.inj q)
  rw [decide_eq_false h,decide_eq_false e]
theorem wX (a:Int) (b:Str):decide ((Sum.inl a:Key)=Sum.inr b)=false:=decide_eq_false (fun q=> nomatch q)
theorem xC (a:Str) (b:Int):decide ((Sum.inr a:Key)=Sum.inl b)=false:=decide_eq_false (fun q=> nomatch q)
def oM (prog:Program) (w:World):PySem.KeyKind prog w Key where
 is:=wb
 hash:=zf w
 inj:=fun v a b ha hb=> by
  rcases bA ha with ⟨i,t,rfl,rfl⟩ | ⟨x,t,rfl,rfl⟩
  ·rcases bA hb with ⟨j,u,rfl,e⟩ | ⟨y,u,rfl,e⟩
   ·injection e with e1 _; rw [e1]
   ·exact nomatch e
  ·rcases bA hb with ⟨j,u,rfl,e⟩ | ⟨y,u,rfl,e⟩
   ·exact nomatch e
   ·injection e with e1 _; rw [e1]
 byValue:=fun k v h=> by
  rcases bA h with ⟨i,t,rfl,rfl⟩ | ⟨x,t,rfl,rfl⟩ <;> rfl
 pyHash:=fun hv h=> by
  rcases bA hv with ⟨i,t,rfl,rfl⟩ | ⟨x,t,rfl,rfl⟩
  ·exact wpAny_pyHash_int h
  ·exact wpAny_pyHash_str h
 eqBool:=fun hu hv h=> by
  rcases bA hu with ⟨i,t,rfl,rfl⟩ | ⟨x,t,rfl,rfl⟩
  ·rcases bA hv with ⟨j,u,rfl,rfl⟩ | ⟨y,u,rfl,rfl⟩
   ·rw [wj] at h; exact wpAny_eqBool_int h
   ·rw [wX] at h; exact SeqAt.EqAt.int_str i t y u _ _ _ _ h
  ·rcases bA hv with ⟨j,u,rfl,rfl⟩ | ⟨y,u,rfl,rfl⟩
   ·rw [xC] at h; exact SeqAt.EqAt.str_int x t j u _ _ _ _ h
   ·rw [wG] at h; exact wpAny_eqBool_str h
 «strs»:=fun k x t v h=> by
  rcases bA h with ⟨i,u,rfl,e⟩ | ⟨y,u,rfl,e⟩
  ·exact nomatch e
  ·injection e with e1 _
   subst e1
   cases v <;> rfl
end L2
namespace L2
open PySem PySem.Spec PyProof.Rows
inductive V where
 | non | bl (b:Bool) | int (i:Int) | str (x:Str) | byt (b:Array UInt8) | flt (b:UInt64) | ref (a:Addr) | ty (n:String)
 deriving DecidableEq
def bn:V→Value→Prop
 | .non,u=> u=Value.none
 | .bl b,u=> u=Value.bool b
 | .int i,u=> ∃ t,u=Value.int i t
 | .str x,u=> ∃ t,u=Value.str x t
 | .byt b,u=> ∃ t,u=Value.bytes b t
 | .flt b,u=> ∃ t,u=Value.float b t
 | .ref a,u=> u=Value.ref a
 | .ty n,u=> u=Value.type n
abbrev aR:List V→List Value→Prop:=Paired bn
theorem aR.length {xs:List V} {us:List Value} (r:aR xs us):xs.length=us.length:=Paired.length r
theorem aR.get:∀ {xs:List V} {us:List Value} {i:Nat} {x:V},aR xs us→xs[i]?=some x→∃ u,us[i]?=some u∧bn x u
 | _,_,_,_,.nil,e=> by simp at e
 | _,_,0,_,.cons r _,e=> by simp at e; subst e; exact ⟨_,rfl,r⟩
 | _,_,i+1,x,.cons _ t,e=> by
  obtain ⟨u,h1,h2⟩:=aR.get (i:=i) (x:=x) t (by simpa using e)
  exact ⟨u,by simpa using h1,h2⟩
theorem aR.append:∀ {xs ys:List V} {us ws:List Value},aR xs us→aR ys ws→aR (xs++ys) (us++ws)
 | _,_,_,_,.nil,s=> s
 | _,_,_,_,.cons r t,s=> .cons r (aR.append t s)
theorem aR.take:∀ {xs:List V} {us:List Value} (n:Nat),aR xs us→aR (xs.take n) (us.take n)
 | _,_,0,_=> .nil
 | _,_,_+1,.nil=> .nil
 | _,_,n+1,.cons r t=> .cons r (aR.take n t)
theorem aR.drop:∀ {xs:List V} {us:List Value} (n:Nat),aR xs us→aR (xs.drop n) (us.drop n)
 | _,_,0,r=> r
 | _,_,_+1,.nil=> .nil
 | _,_,n+1,.cons _ t=> aR.drop n t
def wR:Option V→Option Value→Prop
 | some v,some u=> bn v u
 | none,none=> True
 | _,_=> False
def KV {κ:Type}:List (κ×V)→List (κ×Value)→Prop:=Paired fun (p:κ×V) (q:κ×Value)=> p.1=q.1∧bn p.2 q.2
def kV:Key→V
 | .inl i=> .int i
 | .inr x=> .str x
inductive HO where
 /-- a list -/
 | lst (xs:List V)
 /-- a tuple (never changes) -/
 | tup (xs:List V)
 /-- a dict whose keys are ints and texts; one whose keys are tuples of ints and texts (the empty one is both) -/
 | dK (kvs:List (Key×V)) | dT (kvs:List (List Key×V))
 /-- a set of ints:its members,its size -/
 | set (S:Int→Bool) (n:Nat)
 /-- an instance of the class at C,its dict at dx,its attributes -/
 | ins (C dx:Addr) (fs:List (Str×V))
 /-- the dict of the instance at x -/
 | own (x:Addr)
 /-- the dict of an exception -/
 | xd (fs:List (Str×V))
 /-- a bound method,f of x -/
 | met (f x:Addr)
 /-- a range object lo,lo+1,.. below hi -/
 | rng (lo hi:Int)
 /-- a thing that is known to the object (the script; a dict while a loop walks it):read,never written while it is so -/
 | frz (o:Obj) (u:HO)
 /-- a code object's table -/
 | tbl (ps:Array Value)
 /-- any other thing,by what is true of its one object (a def of one's own:SetO a S n:=HO.ext fun h=> ..) -/
 | ext (φ:Heap→Prop)
abbrev Hp:=Addr→Option HO
def upd (H:Hp) (a:Addr) (o:HO):Hp:=fun b=> if b=a then some o else H b
theorem aM {H:Hp} {a:Addr} {o:HO}:upd H a o a=some o:=by unfold upd; rw [if_pos rfl]
theorem aY {H:Hp} {a b:Addr} {o:HO} (h:b≠a):upd H a o b=H b:=by unfold upd; rw [if_neg h]
theorem cO {H:Hp} {a b:Addr} {o:HO} (h:H a=some o) (h':H b=none):a≠b:=by
 intro e; subst e; rw [h] at h'; cases h'
section
variable (P:Program) (w:World)
def cC (H:Hp) (h:Heap) (a:Addr):HO→Prop
 | .lst xs=> xs.length≤sizeLine∧∃ (its:List Value) (n:Nat),aR xs its∧h.get? a=some { cls:=.type "list",data:=.seq its.toArray n }
 | .tup xs=> xs.length≤sizeLine∧∃ its:List Value,aR xs its∧IsTup h a its.toArray
 | .dK kvs=> kvs.length≤sizeLine∧(a==sysModules)=false∧∃ vs,KV kvs vs∧h.DictOf (oM P w) a vs
 | .dT kvs=> kvs.length≤sizeLine∧(a==sysModules)=false∧∃ xs:List (List Key×Addr×Value),
   Paired (fun (p:List Key×V) (q:List Key×Addr×Value)=> p.1=q.1∧H q.2.1=some (.tup (p.1.map kV))∧bn p.2 q.2.2) kvs xs∧
   ∃ o es ep,h.get? a=some o∧o.ExactDict∧o.data=.dict es ep∧es.toList=xs.map (entryOfKey (tupleKind (oM P w)))∧(xs.map (·.1)).Nodup
 | .set S n=> h.SetOf (intKind P w) a S n
 | .ins C dx fs=> H dx=some (.own a)∧fs.length≤1000∧dx≠a∧h.get? a=some (PySem.W.instObj C dx)∧
   ∃ mA,h.Ns1 dx mA∧(∀ f,wR (fs.lookup f) (mA f))∧PySem.Within mA (fs.map (·.1))
 | .own _=> ∃ o,h.get? a=some o
 | .xd fs=> ∃ mA,h.Ns1 a mA∧∀ f,wR (fs.lookup f) (mA f)
 | .rng lo hi=> ∃ t u v,h.get? a=some { cls:=.type "range",data:=.fields #[.int lo t,.int hi u,.int 1 v] }
 | .frz o u=> h.get? a=some o∧cC H h a u
 | .tbl ps=> h.get? a=some { cls:=.none,data:=.fields ps }
 | .met f x=> h.get? a=some (PySem.W.methodObj (.ref f) (.ref x))
 | .ext φ=> φ h∧(∃ o,h.get? a=some o)∧∀ h1 h2:Heap,φ h1→(∀ o,h1.get? a=some o→h2.get? a=some o)→φ h2
def HOk (H:Hp) (h:Heap):Prop:=∀ a o,H a=some o→cC P w H h a o
end
section
variable {P:Program} {w:World} {H H':Hp} {h h':Heap} {a:Addr} {o:HO}
theorem cC.lt (x:cC P w H h a o):a < h.objs.size:=by
 cases o with
 | lst xs=> obtain ⟨_,_,_,_,e⟩:=x; exact Heap.lt_size e
 | tup xs=> obtain ⟨_,_,_,p⟩:=x; exact p.lt
 | dK kvs=> obtain ⟨_,_,_,_,o,_,_,e,_⟩:=x; exact Heap.lt_size e
 | dT kvs=> obtain ⟨_,_,_,_,o,_,_,e,_⟩:=x; exact Heap.lt_size e
 | set S n=> obtain ⟨o,_,_,_,e,_⟩:=x; exact Heap.lt_size e
 | ins C dx fs=> obtain ⟨_,_,_,e,_⟩:=x; exact Heap.lt_size e
 | own y=> obtain ⟨_,e⟩:=x; exact Heap.lt_size e
 | xd fs=> obtain ⟨_,⟨_,_,_,e,_⟩,_⟩:=x; exact Heap.lt_size e
 | rng lo hi=> obtain ⟨_,_,_,e⟩:=x; exact Heap.lt_size e
 | frz ob u=> obtain ⟨e,_⟩:=x; exact Heap.lt_size e
 | tbl ps=> exact Heap.lt_size (show h.get? a=some _ from x)
 | met f y=> exact Heap.lt_size (show h.get? a=some _ from x)
 | ext φ=> obtain ⟨_,⟨_,e⟩,_⟩:=x; exact Heap.lt_size e
theorem Paired.mapP {α β:Type} {F G:α→β→Prop}:∀ {l₁:List α} {l₂:List β},Paired F l₁ l₂→(∀ a b,F a b→G a b)→Paired G l₁ l₂
 | _,_,.nil,_=> .nil
 | _,_,.cons r t,f=> .cons (f _ _ r) (Paired.mapP t f)
theorem cC.stay (x:cC P w H h a o) (k:∀ b u,(b=a∨H b=some (.own a))→h.get? b=some u→h'.get? b=some u)
  (ho:∀ b,H b=some (.own a)→H' b=some (.own a)) (ht:∀ b xs,H b=some (.tup xs)→H' b=some (.tup xs)):cC P w H' h' a o:=by
 induction o with
 | lst xs=> obtain ⟨z,its,n,r,e⟩:=x; exact ⟨z,its,n,r,k _ _ (.inl rfl) e⟩
 | tup xs=> obtain ⟨z,its,r,ob,e,c⟩:=x; exact ⟨z,its,r,ob,k _ _ (.inl rfl) e,c⟩
 | dK kvs=> obtain ⟨z,y,vs,r,ob,es,ep,e,c⟩:=x; exact ⟨z,y,vs,r,ob,es,ep,k _ _ (.inl rfl) e,c⟩
 | dT kvs=>
  obtain ⟨z,y,xs,r,ob,es,ep,e,c⟩:=x
  exact ⟨z,y,xs,Paired.mapP r fun p q z=> ⟨z.1,ht _ _ z.2.1,z.2.2⟩,ob,es,ep,k _ _ (.inl rfl) e,c⟩
 | set S n=> obtain ⟨ob,es,ep,t,e,c⟩:=x; exact ⟨ob,es,ep,t,k _ _ (.inl rfl) e,c⟩
 | ins C dx fs=>
  obtain ⟨d,z,ne,e,mA,⟨od,es,ep,e2,c⟩,r⟩:=x
  exact ⟨ho _ d,z,ne,k _ _ (.inl rfl) e,mA,⟨od,es,ep,k _ _ (.inr d) e2,c⟩,r⟩
 | own y=> obtain ⟨ob,e⟩:=x; exact ⟨ob,k _ _ (.inl rfl) e⟩
 | xd fs=> obtain ⟨mA,⟨od,es,ep,e,c⟩,r⟩:=x; exact ⟨mA,⟨od,es,ep,k _ _ (.inl rfl) e,c⟩,r⟩
 | rng lo hi=> obtain ⟨t,u,v,e⟩:=x; exact ⟨t,u,v,k _ _ (.inl rfl) e⟩
 | frz ob u ih=> obtain ⟨e,q⟩:=x; exact ⟨k _ _ (.inl rfl) e,ih q⟩
 | tbl ps=>
  have e:h.get? a=some { cls:=.none,data:=.fields ps }:=x
  show h'.get? a=some { cls:=.none,data:=.fields ps }
  exact k a _ (.inl rfl) e
 | met f y=>
  have e:h.get? a=some (PySem.W.methodObj (.ref f) (.ref y)):=x
  show h'.get? a=some (PySem.W.methodObj (.ref f) (.ref y))
  exact k a _ (.inl rfl) e
 | ext φ=> obtain ⟨p,⟨o,e⟩,st⟩:=x; exact ⟨st _ _ p fun o q=> k _ _ (.inl rfl) q,⟨o,k _ _ (.inl rfl) e⟩,st⟩
theorem HOk.lt (x:HOk P w H h) (e:H a=some o):a < h.objs.size:=(x a o e).lt
theorem HOk.fresh (x:HOk P w H h) (e:h.objs.size≤a):H a=none:=by
 cases q:H a with
 | none=> rfl
 | some u=> exact absurd (Nat.lt_of_lt_of_le (x.lt q) e) (Nat.lt_irrefl _)
theorem HOk.kept (x:HOk P w H h) (k:∀ b u,h.get? b=some u→h'.get? b=some u):HOk P w H h':=fun a o e=>
 (x a o e).stay (fun b u _ q=> k b u q) (fun _ q=> q) fun _ _ q=> q
theorem HOk.laid (x:HOk P w H h) (k:∀ b u,h.get? b=some u→h'.get? b=some u) (hp:h.objs.size≤a) (new:cC P w (upd H a o) h' a o):HOk P w (upd H a o) h':=fun b u e=> by
 have hn:=x.fresh hp
 by_cases hb:b=a
 ·subst hb; rw [aM] at e; cases e; exact new
 ·rw [aY hb] at e
  exact (x b u e).stay (fun c v _ q=> k c v q) (fun c q=> by rw [aY (cO q hn)]; exact q) fun c xs q=> by rw [aY (cO q hn)]; exact q
end
def Rd (H:Hp) (a:Addr) (u:HO):Prop:=H a=some u∨∃ o,H a=some (.frz o u)
theorem Rd.ok {P:Program} {w:World} {H:Hp} {h:Heap} {a:Addr} {u:HO} (r:Rd H a u) (x:HOk P w H h):cC P w H h a u:=by
 rcases r with r | ⟨o,r⟩
 ·exact x a u r
 ·obtain ⟨_,q⟩:=x a _ r
  exact q
def Mut:Option HO→Prop
 | some (.lst _)=> True
 | some (.dK _)=> True
 | some (.dT _)=> True
 | some (.set _ _)=> True
 | some (.ins _ _ _)=> True
 | some (.ext _)=> True
 | _=> False
section
variable {P:Program} {w:World} {H:Hp} {h h':Heap} {x e:Addr} {o':HO}
theorem HOk.write (ok:HOk P w H h) (mu:Mut (H x)) (he:e=x∨H e=some (.own x)) (k:∀ b u,b≠e→h.get? b=some u→h'.get? b=some u) (heo:∃ u,h'.get? e=some u)
  (new:cC P w (upd H x o') h' x o'):HOk P w (upd H x o') h':=fun b u q=> by
 have nown:∀ c y,H c=some (.own y)→c≠x:=fun c y r z=> by subst z; rw [r] at mu; exact mu
 have ntup:∀ c xs,H c=some (.tup xs)→c≠x:=fun c xs r z=> by subst z; rw [r] at mu; exact mu
 by_cases hb:b=x
 ·subst hb; rw [aM] at q; cases q; exact new
 ·rw [aY hb] at q
  by_cases hbe:b=e
  ·have q':H b=some (.own x):=by
    rcases he with z | z
    ·exact absurd (hbe.trans z) hb
    ·rw [hbe]; exact z
   rw [q] at q'; cases q'
   obtain ⟨v,hv⟩:=heo
   exact ⟨v,by rw [hbe]; exact hv⟩
  ·refine (ok b u q).stay (fun c v hc r=> k c v ?_ r) (fun c r=> by rw [aY (nown c b r)]; exact r) fun c xs r=> by rw [aY (ntup c xs r)]; exact r
   rcases hc with rfl | hc
   ·exact hbe
   ·rintro rfl
    rcases he with z | z
    ·exact nown c b hc z
    ·rw [hc] at z; cases z; exact hb rfl
end
structure Un (fs ex:List Addr) (H H':Hp) (h h':Heap):Prop where
 keep:∀ b o,h.get? b=some o→H b=none→b ∉ fs→b ∉ ex→h'.get? b=some o
 slot:∀ b o,h.get? b=some o→H b=none→b∈fs→b ∉ ex→∃ sl,h'.get? b=some { o with slots:=sl }
 free:∀ b o,h.get? b=some o→H b=none→b ∉ ex→H' b=none
 there:∀ b o,h.get? b=some o→b ∉ ex→∃ o',h'.get? b=some o'
 tups:∀ b xs,H b=some (.tup xs)→H' b=some (.tup xs)
 frzs:∀ b o u,H b=some (.frz o u)→H' b=some (.frz o u)
 tbls:∀ b ps,H b=some (.tbl ps)→∃ more,H' b=some (.tbl (ps++more))
section
variable {fs fs' ex ex':List Addr} {H H1 H2:Hp} {h h1 h2 h':Heap} {a x e:Addr} {o:HO}
theorem Un.any (u:Un fs ex H H1 h h1) {b:Addr} {ob:Obj} (q:h.get? b=some ob) (n:H b=none) (hx:b ∉ ex):∃ sl,h1.get? b=some { ob with slots:=sl }:=by
 by_cases hb:b∈fs
 ·exact u.slot b ob q n hb hx
 ·exact ⟨ob.slots,u.keep b ob q n hb hx⟩
theorem Un.kept (k:∀ b u,h.get? b=some u→h'.get? b=some u):Un fs ex H H h h':=
 ⟨fun b ob q _ _ _=> k b ob q,fun b ob q _ _ _=> ⟨ob.slots,k b ob q⟩,fun _ _ _ n _=> n,fun b ob q _=> ⟨ob,k b ob q⟩,fun _ _ q=> q,fun _ _ _ q=> q,fun _ ps q=> ⟨#[],by rw [q]; simp⟩⟩
theorem Un.refl:Un fs ex H H h h:=Un.kept fun _ _ q=> q
theorem Un.laid (k:∀ b u,h.get? b=some u→h'.get? b=some u) (hp:h.objs.size≤a) (hn:H a=none):Un fs ex H (upd H a o) h h' where
 keep:=fun b u q _ _ _=> k b u q
 slot:=fun b u q _ _ _=> ⟨u.slots,k b u q⟩
 free:=fun b u q n _=> by rw [aY (Nat.ne_of_lt (Nat.lt_of_lt_of_le (Heap.lt_size q) hp))]; exact n
 there:=fun b u q _=> ⟨u,k b u q⟩
 tups:=fun b xs q=> by rw [aY (cO q hn)]; exact q
 frzs:=fun b u xs q=> by rw [aY (cO q hn)]; exact q
 tbls:=fun b ps q=> ⟨#[],by rw [aY (cO q hn),q]; simp⟩
theorem Un.write (mu:Mut (H x)) (he:e=x∨H e=some (.own x)) (k:∀ b u,b≠e→h.get? b=some u→h'.get? b=some u) (heo:∃ u,h'.get? e=some u):Un fs ex H (upd H x o) h h':=by
 have hx:∀ b,H b=none→b≠x:=fun b n z=> by subst z; rw [n] at mu; exact mu
 have hb:∀ b,H b=none→b≠e:=fun b n z=> by
  subst z
  rcases he with r | r
  ·exact hx b n r
  ·rw [n] at r; cases r
 have hm:∀ b u,H b=some u→¬ Mut (some u)→b≠x:=fun b u q nm z=> by subst z; rw [q] at mu; exact nm mu
 refine ⟨fun b u q n _ _=> k b u (hb b n) q,fun b u q n _ _=> ⟨u.slots,k b u (hb b n) q⟩,fun b u q n _=> by rw [aY (hx b n)]; exact n,fun b u q _=> ?_,
  fun b xs q=> by rw [aY (hm b _ q fun z=> z)]; exact q,fun b u xs q=> by rw [aY (hm b _ q fun z=> z)]; exact q,fun b ps q=> ⟨#[],by rw [aY (hm b _ q fun z=> z),q]; simp⟩⟩
 by_cases hbe:b=e
 ·subst hbe; exact heo
 ·exact ⟨u,k b u hbe q⟩
end
def trk (h:Heap) (H:Hp):List Addr:=(List.range h.objs.size).filter fun a=> (H a).isSome
def kY (h:Heap) (H:Hp):Heap:=PySem.W.hideAll h (trk h H)
theorem qK (h:Heap) (H:Hp):(kY h H).objs.size=h.objs.size:=PySem.W.hideAll_size _ _
theorem sL {h:Heap} {H:Hp} {b:Addr} {o:Obj} (e:h.get? b=some o) (n:H b=none):(kY h H).get? b=some o:=
 PySem.W.hideAll_get _ e fun hm=> by
  have q:(H b).isSome=true:=(List.mem_filter.mp hm).2
  rw [n] at q; simp at q
theorem vg {h:Heap} {H:Hp} {b:Addr} {o:Obj} (e:(kY h H).get? b=some o):h.get? b=some o∧H b=none:=by
 have e':h.get? b=some o:=PySem.W.of_hideAll (trk h H) e
 refine ⟨e',?_⟩
 cases q:H b with
 | none=> rfl
 | some x=>
  have hm:b∈trk h H:=List.mem_filter.mpr ⟨List.mem_range.mpr (Heap.lt_size e'),by simp [q]⟩
  have z:(kY h H).get? b=none:=PySem.W.hideAll_none (trk h H) hm
  rw [z] at e; cases e
def uK (g h:Heap) (L:Addr):List (Addr×Obj):=(List.range h.objs.size).filterMap fun a=> if a=L∨(g.get? a).isSome=true then none else (h.get? a).map fun o=> (a,o)
def rest (g h:Heap) (L d:Addr):List (Addr×Obj):=(uK g h L).filter fun p=> decide (p.1≠d)
end L2
namespace L2
open PySem PySem.Spec PyProof.Rows
structure Mod (K:PySem.W.Frag) (mg:Str→Option Value) (base:Heap):Prop where
 kin:K.In base
 glob:base.Ns mainGlobals mg
 blt:∃ mb,base.Ns builtinsNs mb∧∀ x:Str,x≠"__name__"→mb x=bootBuiltins x
 nolimit:base.NoLimit
structure Cx where
 prog:Program
 w:World
 K:PySem.W.Frag
 mg:Str→Option Value
 base:Heap
 A:Around
 N:List Str
 s₀:Shared
 H₀:Hp
 env:Env
 outer:List Env
 stack:List Env
 ex:List Addr
 fn:Str→Bool
 calm:Bool
 pn:List (Addr×Obj)
 xe:Value→Shared→Prop
def frs (l:List Env):List Addr:=l.filterMap (·.frame)
abbrev Cx.fs (X:Cx):List Addr:=frs X.outer
def Vis (sc:Scope) (x:Str):Prop:=sc.names.lookup x=some .local∨sc.names.lookup x=some .cell∨sc.names.lookup x=some .free
def Loc (sc:Scope) (x:Str):Prop:=sc.names.lookup x=some .local∨sc.names.lookup x=some .cell
def y_ (env:Env) (h:Heap) (m:Str→Option Value) (x:Str) (u:Value):Prop:=
 (env.kindOf x=some .local∧m x=some u)∨((env.kindOf x=some .cell∨env.kindOf x=some .free)∧∃ c,env.cells.lookup x=some c∧h.IsCell c (some u))
structure Cx.Ok (X:Cx):Prop where
 mod:Mod X.K X.mg X.base
 kind:X.env.scope.kind=.function
 glob:X.env.globals=mainGlobals
 blt:X.env.builtins=builtinsNs
 above:X.s₀.heap.objs.size≤X.env.locals
 inj:∀ x y c,X.env.cells.lookup x=some c→X.env.cells.lookup y=some c→x=y
 has:∀ x,(X.env.kindOf x=some .cell∨X.env.kindOf x=some .free)→∃ c,X.env.cells.lookup x=some c
 cab:∀ x c,X.fn x=true→X.env.cells.lookup x=some c→X.s₀.heap.objs.size≤c
 hd:X.calm=true→X.A.handled=none
 frames:X.A.frames=some X.stack
 stk:X.stack=X.outer∨(X.stack=X.env::X.outer∧X.env.frame=some X.env.locals)
 exf:∀ b∈X.ex,b≠X.env.locals∧∀ x c,X.env.cells.lookup x=some c→c≠b
 bs:∀ b o,X.base.get? b=some o→X.s₀.heap.get? b=some o∧X.H₀ b=none
 bsz:X.base.objs.size≤X.s₀.heap.objs.size
 noex:∀ b o,X.base.get? b=some o→b ∉ X.ex
 exfs:∀ b∈X.ex,b ∉ X.fs
 funs:X.s₀.heap.FunFrames X.base X.outer
 frf:∀ b∈X.fs,X.H₀ b=none
structure Inv (X:Cx) (pins:List (Addr×Obj)) (σ:List (Option V)) (H:Hp) (s:Shared):Prop where
 ok:X.Ok
 os:s.os=X.s₀.os
 bare:AllBare s.gens
 base:Un X.fs X.ex X.H₀ H X.s₀.heap s.heap
 loc:∃ m,s.heap.Ns X.env.locals m∧∀ (i:Nat) (x:Str) (v:V),X.N[i]?=some x→σ[i]?=some (some v)→Vis X.env.scope x→∃ u,bn v u∧y_ X.env s.heap m x u
 cell:∀ x c,X.env.cells.lookup x=some c→∃ v,s.heap.IsCell c v
 free:H X.env.locals=none
 freeC:∀ x c,X.env.cells.lookup x=some c→H c=none
 pin:∀ p∈X.pn++pins,s.heap.get? p.1=some p.2∧H p.1=none∧p.1≠X.env.locals∧p.1 ∉ X.fs∧∀ v,p.2.data≠.cell v
 hok:HOk X.prog X.w H s.heap
 len:σ.length=X.N.length
section
variable {X:Cx} {pins:List (Addr×Obj)} {σ:List (Option V)} {H H':Hp} {s:Shared} {h':Heap}
theorem Cx.Ok.nofr (ok:X.Ok) {b:Addr} {o:Obj} (e:X.base.get? b=some o):b ∉ X.fs:=fun hb=> by
 have:=(ok.funs.mem hb).1
 rw [e] at this; cases this
theorem Inv.bs (I:Inv X pins σ H s):∀ b o,X.base.get? b=some o→s.heap.get? b=some o∧H b=none:=fun b o e=>
 ⟨I.base.keep b o (I.ok.bs b o e).1 (I.ok.bs b o e).2 (I.ok.nofr e) (I.ok.noex b o e),I.base.free b o (I.ok.bs b o e).1 (I.ok.bs b o e).2 (I.ok.noex b o e)⟩
theorem Inv.bk (I:Inv X pins σ H s):∀ b o,X.base.get? b=some o→s.heap.get? b=some o:=fun b o e=> (I.bs b o e).1
theorem Inv.mod (I:Inv X pins σ H s):Mod X.K X.mg X.base:=I.ok.mod
theorem Inv.kIn (I:Inv X pins σ H s):X.K.In s.heap:=I.ok.mod.kin.keeps I.bk
theorem Inv.lt (I:Inv X pins σ H s):X.env.locals < s.heap.objs.size:=let ⟨_,hn,_⟩:=I.loc; hn.lt
theorem Inv.sz (I:Inv X pins σ H s):X.s₀.heap.objs.size≤s.heap.objs.size:=Nat.le_trans I.ok.above (Nat.le_of_lt I.lt)
theorem Inv.nofs (I:Inv X pins σ H s) {a:Addr} (h:s.heap.objs.size≤a):a ∉ X.fs:=fun hb=> by
 obtain ⟨_,o,ho,_⟩:=I.ok.funs.mem hb
 exact absurd (Nat.lt_of_lt_of_le (Heap.lt_size ho) (Nat.le_trans I.sz h)) (Nat.lt_irrefl _)
theorem Inv.cne (I:Inv X pins σ H s):∀ x c,X.env.cells.lookup x=some c→c≠X.env.locals:=fun x c e z=> by
 obtain ⟨v,o,ho,hd⟩:=I.cell x c e
 obtain ⟨m,⟨o',es,ep,ho',hd',_⟩,_⟩:=I.loc
 rw [z,ho'] at ho; cases ho; rw [hd'] at hd; cases hd
theorem Inv.funs (I:Inv X pins σ H s):s.heap.FunFrames X.base X.outer:=by
 have all:∀ (l:List Env),(∀ b∈frs l,b∈X.fs)→X.s₀.heap.FunFrames X.base l→s.heap.FunFrames X.base l:=by
  intro l
  induction l with
  | nil=> intro _ _; trivial
  | cons env r ih=>
   intro hs hl
   obtain ⟨hk,⟨L,o,hf,hn,ho,hd⟩,hr⟩:=hl
   have hL:L∈X.fs:=hs L (by unfold frs; rw [List.filterMap_cons,hf]; exact List.mem_cons_self)
   obtain ⟨sl,e⟩:=I.base.slot L o ho (I.ok.frf L hL) hL fun z=> I.ok.exfs L z hL
   exact ⟨hk,⟨L,_,hf,hn,e,hd⟩,ih (fun b hb=> hs b (by unfold frs; rw [List.filterMap_cons,hf]; exact List.mem_cons_of_mem _ hb)) hr⟩
 exact all X.outer (fun _ hb=> hb) I.ok.funs
theorem Inv.stack (I:Inv X pins σ H s):s.heap.FunFrames X.base X.stack:=by
 rcases I.ok.stk with e | ⟨e,hf⟩
 ·rw [e]; exact I.funs
 ·rw [e]
  obtain ⟨m,hn,_⟩:=I.loc
  refine .cons (by rw [I.ok.kind]; decide) hf hn ?_ I.funs
  exact Heap.get?_none_of_le (Nat.le_trans I.ok.bsz I.ok.above)
theorem Inv.stkSub (I:Inv X pins σ H s):∀ b∈frs X.stack,b∈X.env.locals::X.fs:=fun b hb=> by
 rcases I.ok.stk with e | ⟨e,hf⟩
 ·rw [e] at hb; exact List.mem_cons_of_mem _ hb
 ·rw [e] at hb
  unfold frs at hb
  rw [List.filterMap_cons,hf] at hb
  exact hb
theorem Inv.stkFree (I:Inv X pins σ H s):∀ b∈frs X.stack,H b=none:=fun b hb=> by
 rcases List.mem_cons.mp (I.stkSub b hb) with e | hb
 ·rw [e]; exact I.free
 ·obtain ⟨_,o,ho,_⟩:=I.ok.funs.mem hb
  exact I.base.free b o ho (I.ok.frf b hb) fun z=> I.ok.exfs b z hb
theorem Inv.step {g':Array GenState} {t':Nat} {d':Drawn} {ch:List Addr} (I:Inv X pins σ H s)
  (hch:∀ b∈ch,(b∈X.ex∨X.s₀.heap.objs.size≤b)∧b≠X.env.locals∧(∀ x c,X.env.cells.lookup x=some c→c≠b)∧∀ p∈X.pn++pins,p.1≠b)
  (keep:∀ b o,b≠X.env.locals→b ∉ X.fs→b ∉ ch→s.heap.get? b=some o→H b=none→h'.get? b=some o)
  (slot:∀ b o,b≠X.env.locals→b∈X.fs→b ∉ ch→s.heap.get? b=some o→H b=none→∃ sl,h'.get? b=some { o with slots:=sl }) (free:∀ b o,b ∉ ch→s.heap.get? b=some o→H b=none→H' b=none)
  (there:∀ b o,b ∉ ch→s.heap.get? b=some o→∃ o',h'.get? b=some o')
  (tups:∀ b xs,H b=some (.tup xs)→H' b=some (.tup xs)) (frzs:∀ b o u,H b=some (.frz o u)→H' b=some (.frz o u)) (tbls:∀ b ps,H b=some (.tbl ps)→∃ more,H' b=some (.tbl (ps++more)))
  (ns:∀ m,s.heap.Ns X.env.locals m→h'.Ns X.env.locals m) (hok:HOk X.prog X.w H' h') (hg:AllBare g'):
  Inv X pins σ H' { s with heap:=h',gens:=g',drawn:=d',toks:=t' }:=by
 have neL:∀ b o,X.s₀.heap.get? b=some o→b≠X.env.locals:=fun b o e=> Nat.ne_of_lt (Nat.lt_of_lt_of_le (Heap.lt_size e) I.ok.above)
 have neC:∀ b o,X.s₀.heap.get? b=some o→b ∉ X.ex→b ∉ ch:=fun b o e hx hb=> by
  rcases (hch b hb).1 with z | z
  ·exact hx z
  ·exact absurd (Nat.lt_of_lt_of_le (Heap.lt_size e) z) (Nat.lt_irrefl _)
 have cellK:∀ x c,X.env.cells.lookup x=some c→∀ v,s.heap.IsCell c v→h'.IsCell c v:=fun x c e v ⟨o,ho,hd⟩=> by
  have nch:c ∉ ch:=fun z=> (hch c z).2.2.1 x c e rfl
  by_cases hc:c∈X.fs
  ·obtain ⟨sl,q⟩:=slot c o (I.cne x c e) hc nch ho (I.freeC x c e)
   exact ⟨_,q,hd⟩
  ·exact ⟨o,keep c o (I.cne x c e) hc nch ho (I.freeC x c e),hd⟩
 refine ⟨I.ok,I.os,hg,⟨fun b o e n hb hx=> ?_,fun b o e n hb hx=> ?_,fun b o e n hx=> ?_,fun b o e hx=> ?_,fun b xs e=> tups b xs (I.base.tups b xs e),fun b o xs e=> frzs b o xs (I.base.frzs b o xs e),fun b ps e=> ?_⟩,?_,fun x c e=> ?_,?_,fun x c e=> ?_,fun p hp=> ?_,hok,I.len⟩
 ·exact keep b o (neL b o e) hb (neC b o e hx) (I.base.keep b o e n hb hx) (I.base.free b o e n hx)
 ·obtain ⟨sl,e1⟩:=I.base.slot b o e n hb hx
  obtain ⟨sl',e2⟩:=slot b _ (neL b o e) hb (neC b o e hx) e1 (I.base.free b o e n hx)
  exact ⟨sl',e2⟩
 ·obtain ⟨o',e1⟩:=I.base.there b o e hx
  exact free b o' (neC b o e hx) e1 (I.base.free b o e n hx)
 ·obtain ⟨o',e1⟩:=I.base.there b o e hx
  exact there b o' (neC b o e hx) e1
 ·obtain ⟨m1,e1⟩:=I.base.tbls b ps e
  obtain ⟨m2,e2⟩:=tbls b _ e1
  exact ⟨m1++m2,by rw [e2,Array.append_assoc]⟩
 ·obtain ⟨m,hn,hl⟩:=I.loc
  refine ⟨m,ns m hn,fun i x v e1 e2 e3=> ?_⟩
  obtain ⟨u,r,l⟩:=hl i x v e1 e2 e3
  refine ⟨u,r,?_⟩
  rcases l with l | ⟨k,c,e,z⟩
  ·exact .inl l
  ·exact .inr ⟨k,c,e,cellK x c e _ z⟩
 ·obtain ⟨v,z⟩:=I.cell x c e
  exact ⟨v,cellK x c e v z⟩
 ·obtain ⟨m,⟨o,_,_,ho,_⟩,_⟩:=I.loc
  exact free _ o (fun z=> (hch _ z).2.1 rfl) ho I.free
 ·obtain ⟨v,o,ho,hd⟩:=I.cell x c e
  exact free c o (fun z=> (hch c z).2.2.1 x c e rfl) ho (I.freeC x c e)
 ·obtain ⟨e,n,ne,nf,d⟩:=I.pin p hp
  have nch:p.1 ∉ ch:=fun z=> (hch p.1 z).2.2.2 p hp rfl
  exact ⟨keep p.1 p.2 ne nf nch e n,free p.1 p.2 nch e n,ne,nf,d⟩
theorem Inv.un {t':Nat} (I:Inv X pins σ H s) (u:Un X.fs [] H H' s.heap h') (hok:HOk X.prog X.w H' h'):Inv X pins σ H' { s with heap:=h',toks:=t' }:=by
 obtain ⟨m,⟨o,es,ep,ho,r⟩,_⟩:=id I.loc
 obtain ⟨sl,hL⟩:=u.any ho I.free (by simp)
 exact I.step (g':=s.gens) (d':=s.drawn) (ch:=[]) (fun _ z=> nomatch z) (fun b o _ hb _ e n=> u.keep b o e n hb (by simp)) (fun b o _ hb _ e n=> u.slot b o e n hb (by simp)) (fun b o _ e n=> u.free b o e n (by simp)) (fun b o _ e=> u.there b o e (by simp)) u.tups u.frzs u.tbls (fun m' hm=> by
  obtain ⟨o',es',ep',ho',r'⟩:=hm
  rw [ho] at ho'; cases ho'
  exact ⟨_,es',ep',hL,r'⟩) hok I.bare
theorem Inv.call {g':Array GenState} {t':Nat} {d':Drawn} {ch:List Addr} (I:Inv X pins σ H s) (u:Un (frs X.stack) ch H H' s.heap h') (hok:HOk X.prog X.w H' h') (hg:AllBare g')
  (hch:∀ b∈ch,(b∈X.ex∨X.s₀.heap.objs.size≤b)∧b≠X.env.locals∧(∀ x c,X.env.cells.lookup x=some c→c≠b)∧∀ p∈X.pn++pins,p.1≠b):
  Inv X pins σ H' { s with heap:=h',gens:=g',drawn:=d',toks:=t' }:=by
 obtain ⟨m,⟨o,es,ep,ho,r⟩,_⟩:=id I.loc
 obtain ⟨sl,hL⟩:=u.any ho I.free fun z=> (hch _ z).2.1 rfl
 exact I.step (ch:=ch) hch (fun b o hL hb hc e n=> u.keep b o e n (fun z=> (List.mem_cons.mp (I.stkSub b z)).elim hL hb) hc) (fun b o _ _ hc e n=> u.any e n hc) (fun b o hc e n=> u.free b o e n hc) (fun b o hc e=> u.there b o e hc) u.tups u.frzs u.tbls (fun m' hm=> by
  obtain ⟨o',es',ep',ho',r'⟩:=hm
  rw [ho] at ho'; cases ho'
  exact ⟨_,es',ep',hL,r'⟩) hok hg
theorem Inv.turned {t':Nat} {it:Addr} (I:Inv X pins σ H s) (k:∀ b o,b≠it→s.heap.get? b=some o→h'.get? b=some o) (hn:H it=none) (hL:it≠X.env.locals)
  (h1:it∈X.ex∨X.s₀.heap.objs.size≤it) (h2:∀ x c,X.env.cells.lookup x=some c→c≠it) (h3:∀ p∈X.pn++pins,p.1≠it):Inv X pins σ H { s with heap:=h',toks:=t' }:=by
 have nit:∀ b u,H b=some u→b≠it:=fun b u e z=> by rw [z,hn] at e; cases e
 refine I.step (g':=s.gens) (d':=s.drawn) (ch:=[it]) (fun b hb=> ?_) (fun b o _ _ hc e _=> k b o (fun z=> hc (by simp [z])) e) (fun b o _ _ hc e _=> ⟨o.slots,k b o (fun z=> hc (by simp [z])) e⟩) (fun _ _ _ _ n=> n)
  (fun b o hc e=> ⟨o,k b o (fun z=> hc (by simp [z])) e⟩) (fun _ _ e=> e) (fun _ _ _ e=> e) (fun b ps e=> ⟨#[],by rw [e]; simp⟩) (fun m hm=> ?_) (fun b u e=> ?_) I.bare
 ·have e:b=it:=by simpa using hb
  subst e
  exact ⟨h1,hL,h2,h3⟩
 ·obtain ⟨o,es,ep,ho,r⟩:=hm
  exact ⟨o,es,ep,k _ o (Ne.symm hL) ho,r⟩
 ·refine (I.hok b u e).stay (fun c v hc q=> k c v ?_ q) (fun _ q=> q) fun _ _ q=> q
  rcases hc with z | z
  ·rw [z]; exact nit b u e
  ·exact nit c _ z
theorem Inv.tok (I:Inv X pins σ H s) (t:Nat):Inv X pins σ H { s with toks:=t }:=I.un (h':=s.heap) (t':=t) Un.refl I.hok
theorem Inv.kept {t':Nat} (I:Inv X pins σ H s) (k:∀ b u,s.heap.get? b=some u→h'.get? b=some u):Inv X pins σ H { s with heap:=h',toks:=t' }:=I.un (Un.kept k) (I.hok.kept k)
theorem Inv.laid {a:Addr} {o:HO} {t':Nat} (I:Inv X pins σ H s) (k:∀ b u,s.heap.get? b=some u→h'.get? b=some u) (hp:s.heap.objs.size≤a) (new:cC X.prog X.w (upd H a o) h' a o):
  Inv X pins σ (upd H a o) { s with heap:=h',toks:=t' }:=I.un (Un.laid k hp (I.hok.fresh hp)) (I.hok.laid k hp new)
theorem Inv.write {x e:Addr} {o:HO} {t':Nat} (I:Inv X pins σ H s) (mu:Mut (H x)) (he:e=x∨H e=some (.own x)) (k:∀ b u,b≠e→s.heap.get? b=some u→h'.get? b=some u) (heo:∃ u,h'.get? e=some u)
  (new:cC X.prog X.w (upd H x o) h' x o):Inv X pins σ (upd H x o) { s with heap:=h',toks:=t' }:=I.un (Un.write mu he k heo) (I.hok.write mu he k heo new)
theorem Inv.weak {σ':List (Option V)} (I:Inv X pins σ H s) (hl:σ'.length=σ.length) (w:∀ (i:Nat) v,σ'[i]?=some (some v)→σ[i]?=some (some v)):Inv X pins σ' H s:=
 ⟨I.ok,I.os,I.bare,I.base,let ⟨m,hn,hl'⟩:=I.loc; ⟨m,hn,fun i x v e1 e2 e3=> hl' i x v e1 (w i v e2) e3⟩,I.cell,I.free,I.freeC,I.pin,I.hok,hl.trans I.len⟩
theorem Inv.pins_of {pins':List (Addr×Obj)} (I:Inv X pins σ H s) (h:∀ p∈pins',s.heap.get? p.1=some p.2∧H p.1=none∧p.1≠X.env.locals∧p.1 ∉ X.fs∧∀ v,p.2.data≠.cell v):Inv X pins' σ H s:=
 ⟨I.ok,I.os,I.bare,I.base,I.loc,I.cell,I.free,I.freeC,fun p hp=> (List.mem_append.mp hp).elim (fun z=> I.pin p (List.mem_append_left _ z)) (h p),I.hok,I.len⟩
theorem mO {N:List Str} (hN:N.Nodup) {i j:Nat} {x:Str} (a:N[i]?=some x) (b:N[j]?=some x):i=j:=by
 obtain ⟨h1,e1⟩:=List.getElem?_eq_some_iff.mp a
 obtain ⟨h2,e2⟩:=List.getElem?_eq_some_iff.mp b
 exact (List.getElem_inj hN).mp (e1.trans e2.symm)
theorem j0 {M:Model} {A:Around} {E:Value→Shared→Prop} {i:Nat} {x:Str} {v:V} {u:Value} {Q:Unit→Shared→Prop} (I:Inv X pins σ H s) (hN:X.N.Nodup) (hi:X.N[i]?=some x) (hx:Loc X.env.scope x) (r:bn v u)
  (h:∀ s',Inv X pins (σ.set i (some v)) H s'→(∃ a,Heap.SameBut a s.heap s'.heap∧(a=X.env.locals∨X.env.cells.lookup x=some a))→Q () s') (hf:X.fn x=true∨X.env.scope.names.lookup x=some .local:=by first | exact .inl rfl | exact .inr rfl | assumption):wpAny M A (storeName X.env x u) Q E s:=by
 obtain ⟨m,hn,hl⟩:=id I.loc
 have hcls:(X.env.scope.kind==.class || (X.env.scope.kind==.module && X.env.locals !=X.env.globals))=false:=by rw [I.ok.kind]; rfl
 have hiσ:i < σ.length:=by rw [I.len]; exact (List.getElem?_eq_some_iff.mp hi).1
 have cne:=I.cne
 have tracked:∀ {a:Addr} {h':Heap},(∃ o,s.heap.get? a=some o∧H a=none)→Heap.SameBut a s.heap h'→HOk X.prog X.w H h':=fun {a h'} ha hs b ob e=> by
  obtain ⟨_,_,hfree⟩:=ha
  refine (I.hok b ob e).stay (fun c w' hc q=> (hs.2 c ?_).trans q) (fun _ q=> q) fun _ _ q=> q
  rintro rfl
  rcases hc with rfl | hc
  ·rw [hfree] at e; cases e
  ·rw [hfree] at hc; cases hc
 rcases hx with hk | hk
 ·refine wpAny_storeName_local hk hn (fun h' hn' hs=> ?_) hcls
  obtain ⟨oL,_,_,hoL,_⟩:=id hn
  refine h _ ⟨I.ok,I.os,I.bare,⟨fun b o e n hb hx=> ?_,fun b o e n hb hx=> ?_,I.base.free,fun b o e hx=> ?_,I.base.tups,I.base.frzs,I.base.tbls⟩,⟨_,hn',fun j y v' e1 e2 e3=> ?_⟩,fun y c e=> ?_,I.free,I.freeC,fun p hp=> ?_,tracked ⟨oL,hoL,I.free⟩ hs,by simpa using I.len⟩ ⟨_,hs,.inl rfl⟩
  ·exact (hs.2 b (Nat.ne_of_lt (Nat.lt_of_lt_of_le (Heap.lt_size e) I.ok.above))).trans (I.base.keep b o e n hb hx)
  ·obtain ⟨sl,e1⟩:=I.base.slot b o e n hb hx
   exact ⟨sl,(hs.2 b (Nat.ne_of_lt (Nat.lt_of_lt_of_le (Heap.lt_size e) I.ok.above))).trans e1⟩
  ·obtain ⟨o',e1⟩:=I.base.there b o e hx
   exact ⟨o',(hs.2 b (Nat.ne_of_lt (Nat.lt_of_lt_of_le (Heap.lt_size e) I.ok.above))).trans e1⟩
  ·by_cases hj:j=i
   ·subst hj
    rw [hi] at e1; cases e1
    rw [List.getElem?_set_self hiσ] at e2
    cases e2
    exact ⟨u,r,.inl ⟨hk,by simp⟩⟩
   ·rw [List.getElem?_set_ne (Ne.symm hj)] at e2
    obtain ⟨u',r',q⟩:=hl j y v' e1 e2 e3
    refine ⟨u',r',?_⟩
    rcases q with ⟨k,e⟩ | ⟨k,c,e,z⟩
    ·refine .inl ⟨k,?_⟩
     have:y≠x:=fun e=> hj (mO hN e1 (e ▸ hi))
     simp [this,e]
    ·exact .inr ⟨k,c,e,z.sameBut hs (cne y c e)⟩
  ·obtain ⟨w',z⟩:=I.cell y c e
   exact ⟨w',z.sameBut hs (cne y c e)⟩
  ·obtain ⟨e,n,ne,nf,d⟩:=I.pin p hp
   exact ⟨(hs.2 p.1 ne).trans e,n,ne,nf,d⟩
 ·have hfn:X.fn x=true:=by
   rcases hf with z | z
   ·exact z
   ·rw [z] at hk; cases hk
  obtain ⟨c,hc⟩:=I.ok.has x (.inl hk)
  obtain ⟨w',z⟩:=I.cell x c hc
  refine wpAny_storeName_cell I.ok.kind hk hc z (fun h' hc' hs=> ?_)
  obtain ⟨oc,hoc,hocd⟩:=id z
  refine h { s with heap:=h' } ⟨I.ok,I.os,I.bare,⟨fun b o e n hb hx=> ?_,fun b o e n hb hx=> ?_,I.base.free,fun b o e hx=> ?_,I.base.tups,I.base.frzs,I.base.tbls⟩,⟨m,hn.sameBut hs (Ne.symm (cne x c hc)),fun j y v' e1 e2 e3=> ?_⟩,fun y c' e=> ?_,I.free,I.freeC,fun p hp=> ?_,tracked ⟨oc,hoc,I.freeC x c hc⟩ hs,by simpa using I.len⟩ ⟨c,hs,.inr hc⟩
  ·exact (hs.2 b (Nat.ne_of_lt (Nat.lt_of_lt_of_le (Heap.lt_size e) (I.ok.cab x c hfn hc)))).trans (I.base.keep b o e n hb hx)
  ·obtain ⟨sl,e1⟩:=I.base.slot b o e n hb hx
   exact ⟨sl,(hs.2 b (Nat.ne_of_lt (Nat.lt_of_lt_of_le (Heap.lt_size e) (I.ok.cab x c hfn hc)))).trans e1⟩
  ·obtain ⟨o',e1⟩:=I.base.there b o e hx
   exact ⟨o',(hs.2 b (Nat.ne_of_lt (Nat.lt_of_lt_of_le (Heap.lt_size e) (I.ok.cab x c hfn hc)))).trans e1⟩
  ·by_cases hj:j=i
   ·subst hj
    rw [hi] at e1; cases e1
    rw [List.getElem?_set_self hiσ] at e2
    cases e2
    exact ⟨u,r,.inr ⟨.inl hk,c,hc,hc'⟩⟩
   ·rw [List.getElem?_set_ne (Ne.symm hj)] at e2
    obtain ⟨u',r',q⟩:=hl j y v' e1 e2 e3
    refine ⟨u',r',?_⟩
    rcases q with q | ⟨k,c',e,z'⟩
    ·exact .inl q
    ·refine .inr ⟨k,c',e,z'.sameBut hs ?_⟩
     rintro rfl
     exact hj (mO hN e1 (I.ok.inj _ _ _ e hc ▸ hi))
  ·by_cases hcc:c'=c
   ·subst hcc; exact ⟨_,hc'⟩
   ·obtain ⟨w2,z2⟩:=I.cell y c' e
    exact ⟨w2,z2.sameBut hs hcc⟩
  ·obtain ⟨e,n,ne,nf,d⟩:=I.pin p hp
   refine ⟨(hs.2 p.1 ?_).trans e,n,ne,nf,d⟩
   intro q
   rw [q,hoc] at e
   have q':oc=p.2:=Option.some.inj e
   exact d w' (by rw [← q']; exact hocd)
theorem jF {M:Model} {A:Around} {E:Value→Shared→Prop} {i:Nat} {x:Str} {v:V} {u:Value} {Q:Unit→Shared→Prop} (I:Inv X pins σ H s) (hN:X.N.Nodup) (hi:X.N[i]?=some x) (hx:Loc X.env.scope x) (r:bn v u)
  (h:∀ s',Inv X pins (σ.set i (some v)) H s'→Q () s') (hf:X.fn x=true∨X.env.scope.names.lookup x=some .local:=by first | exact .inl rfl | exact .inr rfl | assumption):wpAny M A (storeName X.env x u) Q E s:=
 j0 I hN hi hx r (fun s' I' _=> h s' I') hf
theorem Inv.call' {s':Shared} {ch:List Addr} (I:Inv X pins σ H s) (ho:s'.os=s.os) (u:Un (frs X.stack) ch H H' s.heap s'.heap) (hok:HOk X.prog X.w H' s'.heap) (hg:AllBare s'.gens)
  (hch:∀ b∈ch,(b∈X.ex∨X.s₀.heap.objs.size≤b)∧b≠X.env.locals∧(∀ x c,X.env.cells.lookup x=some c→c≠b)∧∀ p∈X.pn++pins,p.1≠b):Inv X pins σ H' s':=by
 obtain ⟨h',g',d',t',o'⟩:=s'
 have e:o'=s.os:=ho
 subst e
 exact I.call (g':=g') (t':=t') (d':=d') u hok hg hch
end
abbrev XK:=Value→Option Addr→Hp→Prop
abbrev St:=List (Option V)
abbrev VK:=V→Hp→Prop
abbrev TE:=St→Hp→VK→Prop
abbrev TT:=St→Hp→(Bool→Hp→Prop)→Prop
abbrev TA:=St→Hp→(List V→Hp→Prop)→Prop
structure kB where
 nx:St→Hp→Prop
 rt:VK
 bk:St→Hp→Prop:=fun _ _=> False
 ct:St→Hp→Prop:=fun _ _=> False
abbrev TS:=kB→St→Hp→Prop
def EP (X:Cx) (pins:List (Addr×Obj)) (σ:St) (Q:VK) (u:Value) (s':Shared):Prop:=∃ v H',Inv X pins σ H' s'∧bn v u∧Q v H'
def TP (X:Cx) (pins:List (Addr×Obj)) (σ:St) (Q:Bool→Hp→Prop) (b:Bool) (s':Shared):Prop:=∃ H',Inv X pins σ H' s'∧Q b H'
def AP (X:Cx) (pins:List (Addr×Obj)) (σ:St) (Q:List V→Hp→Prop) (us:List Value) (s':Shared):Prop:=∃ vs H',Inv X pins σ H' s'∧aR vs us∧Q vs H'
def SP (X:Cx) (pins:List (Addr×Obj)) (D:kB) (f:Flow) (s':Shared):Prop:=
 match f with
 | .next=> ∃ σ' H',Inv X pins σ' H' s'∧D.nx σ' H'
 | .brk=> ∃ σ' H',Inv X pins σ' H' s'∧D.bk σ' H'
 | .cont=> ∃ σ' H',Inv X pins σ' H' s'∧D.ct σ' H'
 | .ret u=> ∃ v σ' H',Inv X pins σ' H' s'∧bn v u∧D.rt v H'
def PE (X:Cx) (e:Expr) (t:TE):Prop:=
 ∀ (pins:List (Addr×Obj)) (s:Shared) (σ:St) (H:Hp) (Q:VK),Inv X pins σ H s→t σ H Q→wpAny (model X.prog X.w) X.A (eval e X.env) (EP X pins σ Q) X.xe s
def PT (X:Cx) (e:Expr) (t:TT):Prop:=
 ∀ (pins:List (Addr×Obj)) (s:Shared) (σ:St) (H:Hp) (Q:Bool→Hp→Prop),Inv X pins σ H s→t σ H Q→wpAny (model X.prog X.w) X.A (isTrue e X.env (eval e X.env)) (TP X pins σ Q) X.xe s
def PW (X:Cx) (e:Expr) (t:TT):Prop:=
 ∀ (whole:Sem Value) (pins:List (Addr×Obj)) (s:Shared) (σ:St) (H:Hp) (Q:Bool→Hp→Prop),Inv X pins σ H s→t σ H Q→wpAny (model X.prog X.w) X.A (isTrue e X.env whole) (TP X pins σ Q) X.xe s
theorem PW.pt {X:Cx} {e:Expr} {t:TT} (h:PW X e t):PT X e t:=h _
def PA (X:Cx) (es:List Expr) (t:TA):Prop:=
 ∀ (pos:Pos) (pins:List (Addr×Obj)) (s:Shared) (σ:St) (H:Hp) (Q:List V→Hp→Prop),Inv X pins σ H s→t σ H Q→wpAny (model X.prog X.w) X.A (spliced (backTo pos (starEach es X.env))) (AP X pins σ Q) X.xe s
def PS (X:Cx) (st:Stmt) (t:TS):Prop:=
 ∀ (pins:List (Addr×Obj)) (s:Shared) (σ:St) (H:Hp) (D:kB),Inv X pins σ H s→t D σ H→wpAny (model X.prog X.w) X.A (exec st X.env) (SP X pins D) X.xe s
def PSs (X:Cx) (st:List Stmt) (t:TS):Prop:=
 ∀ (pins:List (Addr×Obj)) (s:Shared) (σ:St) (H:Hp) (D:kB),Inv X pins σ H s→t D σ H→wpAny (model X.prog X.w) X.A (execs st X.env) (SP X pins D) X.xe s
theorem thn {α:Type} {t:Sem α} {Q Q':α→Shared→Prop} {M:Model} {A:Around} {E:Value→Shared→Prop} {s:Shared} (h:wpAny M A t Q E s) (hQ:∀ a s,Q a s→Q' a s):wpAny M A t Q' E s:=wpAny_mono h hQ fun _ _ x=> x
end L2
namespace L2
open PySem PySem.Spec PyProof.Rows
section
variable {X:Cx}
def yR (i:Nat):TE:=fun σ H Q=> ∃ v,σ[i]?=some (some v)∧Q v H
def tC (v:V):TE:=fun _ H Q=> Q v H
theorem fz {i:Nat} {x:Str} {pos:Pos} (hN:X.N[i]?=some x) (hv:Vis X.env.scope x) (hd:(x==("__debug__":Str))=false:=by decide) (hcd:(x==("__classdict__":Str))=false:=by decide):PE X (.Name x pos) (yR i):=by
 intro pins s σ H Q I h
 obtain ⟨v,e,h⟩:=h
 obtain ⟨m,hn,hl⟩:=I.loc
 obtain ⟨u,r,l⟩:=hl i x v hN e hv
 have fin:EP X pins σ Q u s:=⟨v,H,I,r,h⟩
 rcases l with ⟨hk,hm⟩ | ⟨hk,c,hc,hcell⟩
 ·exact wpAny_Name (wpAny_loadName_local I.ok.kind hk hn hm fin) hd
 ·rcases hk with hk | hk
  ·exact wpAny_Name (wpAny_loadName_cell I.ok.kind hk hc hcell fin) hd
  ·exact wpAny_Name (wpAny_loadName_free I.ok.kind hk hc hcell fin hcd) hd
theorem wt {i j pos}:PE X (.Constant (.int i) j pos) (tC (.int i)):=fun _ _ _ H _ I h=> wpAny_Constant_int ⟨.int i,H,I.tok _,⟨_,rfl⟩,h⟩
theorem wn {x j pos}:PE X (.Constant (.str x) j pos) (tC (.str x)):=fun _ _ _ H _ I h=> Calls.Constant_str ⟨.str x,H,I.tok _,⟨_,rfl⟩,h⟩
def Gl (X:Cx) (x:Str):Prop:=X.env.kindOf x=some .globalImplicit
theorem pQ {E:Value→Shared→Prop} {pins:List (Addr×Obj)} {s:Shared} {σ:St} {H:Hp} {x:Str} {u:Value} {pos:Pos} {Q:Value→Shared→Prop} (I:Inv X pins σ H s) (hg:Gl X x) (hm:X.mg x=some u) (h:Q u s)
  (hd:(x==("__debug__":Str))=false:=by decide):wpAny (model X.prog X.w) X.A (eval (.Name x pos) X.env) Q E s:=
 Calls.Name_function_global I.ok.kind hg (Calls.loadGlobal_global (by rw [I.ok.glob]; exact I.mod.glob.keeps I.bk) hm h) hd
theorem dX {E:Value→Shared→Prop} {pins:List (Addr×Obj)} {s:Shared} {σ:St} {H:Hp} {x:Str} {u:Value} {pos:Pos} {Q:Value→Shared→Prop} (I:Inv X pins σ H s) (hg:Gl X x) (hm:X.mg x=none) (hv:bootBuiltins x=some u) (h:Q u s)
  (hn:x≠"__name__":=by decide) (hd:(x==("__debug__":Str))=false:=by decide):wpAny (model X.prog X.w) X.A (eval (.Name x pos) X.env) Q E s:=by
 obtain ⟨mb,h1,h2⟩:=I.mod.blt
 exact Calls.Name_function_global I.ok.kind hg (Calls.loadGlobal_builtin (by rw [I.ok.glob]; exact I.mod.glob.keeps I.bk) hm (by rw [I.ok.blt]; exact h1.keeps I.bk) ((h2 x hn).trans hv) h) hd
theorem vj {x:Str} {v:V} {u:Value} {pos:Pos} (hg:Gl X x) (hm:X.mg x=none) (hv:bootBuiltins x=some u) (r:bn v u) (hn:x≠"__name__":=by decide) (hd:(x==("__debug__":Str))=false:=by decide):PE X (.Name x pos) (tC v):=
 fun _ _ _ H _ I h=> dX I hg hm hv ⟨v,H,I,r,h⟩ hn hd
variable {a b:Expr} {ta tb:TE} {pos:Pos}
def tB (t:TE):TT:=fun σ H Q=> t σ H fun x H1=> ∃ c,x=.bl c∧Q c H1
theorem xq {e:Expr} {t:TE} (h:PE X e t) (he:∀ whole,isTrue e X.env whole=(do let v ← whole; standAt e.pos; holding [v] (truthy v)):=by intro _; rfl):PT X e (tB t):=by
 intro pins s σ H Q I hw
 refine isTrue_plain (thn (h pins s σ H _ I hw) fun v s1 ⟨x,H1,I1,r1,q1⟩=> ?_) (he _)
 obtain ⟨d,rfl,q⟩:=q1
 cases r1
 exact wpAny_truthy_bool ⟨H1,I1,q⟩
variable {tA tB':TT} {rest:List Expr}
def yI (t u:TT):TT:=fun σ H Q=> t σ H fun c H1=> if c=true then u σ H1 Q else Q false H1
def tOr (t u:TT):TT:=fun σ H Q=> t σ H fun c H1=> if c=true then Q true H1 else u σ H1 Q
def yP (t:TT):TT:=fun σ H Q=> t σ H fun c H1=> Q (!c) H1
theorem uf (ha:PT X a tA):PW X (.BoolOp .And [a] pos) tA:=by
 intro wh pins s σ H Q I h
 refine isTrue_and (thn (ha pins s σ H Q I h) fun c s1 e=> ?_)
 cases c with
 | true=> exact isTrue_and_nil e
 | false=> exact e
theorem xr (ha:PT X a tA):PW X (.BoolOp .Or [a] pos) tA:=by
 intro wh pins s σ H Q I h
 refine isTrue_or (thn (ha pins s σ H Q I h) fun c s1 e=> ?_)
 cases c with
 | false=> exact isTrue_or_nil e
 | true=> exact e
theorem sU (ha:PT X a tA) (hb:PW X (.BoolOp .And (b::rest) pos) tB'):PW X (.BoolOp .And (a::b::rest) pos) (yI tA tB'):=by
 intro wh pins s σ H Q I h
 refine isTrue_and (thn (ha pins s σ H _ I h) fun c s1 ⟨H1,I1,q1⟩=> ?_)
 cases c with
 | true=> exact hb wh pins s1 σ H1 Q I1 q1
 | false=> exact ⟨H1,I1,q1⟩
theorem vR (ha:PT X a tA) (hb:PW X (.BoolOp .Or (b::rest) pos) tB'):PW X (.BoolOp .Or (a::b::rest) pos) (tOr tA tB'):=by
 intro wh pins s σ H Q I h
 refine isTrue_or (thn (ha pins s σ H _ I h) fun c s1 ⟨H1,I1,q1⟩=> ?_)
 cases c with
 | true=> exact ⟨H1,I1,q1⟩
 | false=> exact hb wh pins s1 σ H1 Q I1 q1
theorem xH (ha:PT X a tA):PT X (.UnaryOp .Not a pos) (yP tA):=by
 intro pins s σ H Q I h
 exact isTrue_not (ha pins s σ H (fun c H1=> Q (!c) H1) I h)
def xZ (ta tb:TE):TE:=fun σ H Q=> ta σ H fun x H1=> ∃ c,x=.bl c∧if c=true then tb σ H1 Q else Q (.bl false) H1
def yD (ta:TE):TE:=fun σ H Q=> ta σ H fun x H1=> ∃ c,x=.bl c∧Q (.bl (!c)) H1
theorem ww {op} {t:TE} (h:PE X a t):PE X (.BoolOp op [a] pos) t:=fun pins s σ H Q I hw=> BoolOp_one (h pins s σ H Q I hw)
theorem tX (ha:PE X a ta) (hb:PE X (.BoolOp .And (b::rest) pos) tb):PE X (.BoolOp .And (a::b::rest) pos) (xZ ta tb):=by
 intro pins s σ H Q I h
 refine BoolOp_and (thn (ha pins s σ H _ I h) fun v s1 ⟨x,H1,I1,r1,q1⟩=> ?_)
 obtain ⟨c,rfl,q1⟩:=q1
 cases r1
 refine wpAny_truthy_bool ?_
 cases c with
 | true=> exact hb pins s1 σ H1 Q I1 q1
 | false=> exact ⟨.bl false,H1,I1,rfl,q1⟩
theorem wB (ha:PE X a ta):PE X (.UnaryOp .Not a pos) (yD ta):=by
 intro pins s σ H Q I h
 refine UnaryOp_ (thn (ha pins s σ H _ I h) fun v s1 ⟨x,H1,I1,r1,q1⟩=> ?_)
 obtain ⟨c,rfl,q1⟩:=q1
 cases r1
 exact not_of (wpAny_truthy_bool ⟨.bl (!c),H1,I1,rfl,q1⟩)
end
end L2
namespace L2
open PySem PySem.Spec PyProof.Rows
def SqL (K:PySem.W.Frag) (H:Hp) (a:Addr) (xs:List V):Prop:=
 Rd H a (.lst xs)∨
  ∃ (o:Obj) (its:Array Value) (n:Nat),K.lookup a=some o∧o.cls=.type "list"∧o.dict=none∧o.data=.seq its n∧its.size≤sizeLine∧aR xs its.toList
def SqT (K:PySem.W.Frag) (H:Hp) (a:Addr) (xs:List V):Prop:=
 Rd H a (.tup xs)∨
  ∃ (o:Obj) (its:Array Value) (n:Nat),K.lookup a=some o∧o.cls=.type "tuple"∧o.data=.seq its n∧its.size≤sizeLine∧aR xs its.toList
def yM:Value→Option V
 | .none=> some .non
 | .bool b=> some (.bl b)
 | .int i _=> some (.int i)
 | .str x _=> some (.str x)
 | .bytes b _=> some (.byt b)
 | .float b _=> some (.flt b)
 | .ref a=> some (.ref a)
 | .type n=> some (.ty n)
 | _=> none
theorem bn.abs {x:V} {u:Value} (r:bn x u):yM u=some x:=by
 cases x with
 | non=> cases r; rfl
 | bl _=> cases r; rfl
 | int _=> obtain ⟨t,rfl⟩:=r; rfl
 | str _=> obtain ⟨t,rfl⟩:=r; rfl
 | byt _=> obtain ⟨t,rfl⟩:=r; rfl
 | flt _=> obtain ⟨t,rfl⟩:=r; rfl
 | ref _=> cases r; rfl
 | ty _=> cases r; rfl
theorem bn.inj {x y:V} {u:Value} (r:bn x u) (q:bn y u):x=y:=Option.some.inj (r.abs.symm.trans q.abs)
theorem aR.inj:∀ {xs ys:List V} {us:List Value},aR xs us→aR ys us→xs=ys
 | _,_,_,.nil,.nil=> rfl
 | _,_,_,.cons r t,.cons r' t'=> by rw [r.inj r',aR.inj t t']
section
variable {X:Cx} {pins:List (Addr×Obj)} {σ:St} {H:Hp} {s:Shared} {a:Addr} {xs ys:List V}
theorem SqL.of {K:PySem.W.Frag} (h:H a=some (.lst xs)):SqL K H a xs:=.inl (.inl h)
theorem SqT.of {K:PySem.W.Frag} (h:H a=some (.tup xs)):SqT K H a xs:=.inl (.inl h)
theorem Inv.list (I:Inv X pins σ H s) (h:SqL X.K H a xs):∃ its:List Value,aR xs its∧PlainL s.heap a its.toArray∧xs.length≤sizeLine:=by
 rcases h with h | ⟨o,its,n,hk,hc,hd,hs,hz,r⟩
 ·obtain ⟨z,its,n,r,e⟩:=h.ok I.hok
  exact ⟨its,r,⟨_,n,e,rfl,rfl,rfl⟩,z⟩
 ·refine ⟨its.toList,r,⟨o,n,I.kIn a o hk,hc,hd,by simpa using hs⟩,?_⟩
  have e:=r.length
  simp only [Array.length_toList] at e
  omega
theorem Inv.tuple (I:Inv X pins σ H s) (h:SqT X.K H a xs):∃ its:List Value,aR xs its∧IsTup s.heap a its.toArray∧xs.length≤sizeLine:=by
 rcases h with h | ⟨o,its,n,hk,hc,hs,hz,r⟩
 ·obtain ⟨z,its,r,p⟩:=h.ok I.hok
  exact ⟨its,r,p,z⟩
 ·refine ⟨its.toList,r,⟨o,I.kIn a o hk,hc,n,by simpa using hs⟩,?_⟩
  have e:=r.length
  simp only [Array.length_toList] at e
  omega
theorem Inv.list_inj (I:Inv X pins σ H s) (h:SqL X.K H a xs) (h':SqL X.K H a ys):xs=ys:=by
 obtain ⟨its,r,⟨o,n,e,_,_,d⟩,_⟩:=I.list h
 obtain ⟨its',r',⟨o',n',e',_,_,d'⟩,_⟩:=I.list h'
 rw [e] at e'; cases e'
 rw [d] at d'
 injection d' with d1 _
 have:its=its':=by simpa using congrArg Array.toList d1
 subst this
 exact r.inj r'
theorem Inv.tuple_inj (I:Inv X pins σ H s) (h:SqT X.K H a xs) (h':SqT X.K H a ys):xs=ys:=by
 obtain ⟨its,r,⟨o,e,_,n,d⟩,_⟩:=I.tuple h
 obtain ⟨its',r',⟨o',e',_,n',d'⟩,_⟩:=I.tuple h'
 rw [e] at e'; cases e'
 rw [d] at d'
 injection d' with d1 _
 have:its=its':=by simpa using congrArg Array.toList d1
 subst this
 exact r.inj r'
end
abbrev Cx.wish (X:Cx) (E:Value→Shared→Prop):Cx:={ X with xe:=E }
abbrev Cx.nox (X:Cx):Cx:=X.wish fun _ _=> False
theorem Cx.Ok.wish {X:Cx} (ok:X.Ok) (E:Value→Shared→Prop):(X.wish E).Ok:=
 ⟨ok.mod,ok.kind,ok.glob,ok.blt,ok.above,ok.inj,ok.has,ok.cab,ok.hd,ok.frames,ok.stk,ok.exf,ok.bs,ok.bsz,ok.noex,ok.exfs,ok.funs,ok.frf⟩
theorem Cx.Ok.unwish {X:Cx} {E:Value→Shared→Prop} (ok:(X.wish E).Ok):X.Ok:=
 ⟨ok.mod,ok.kind,ok.glob,ok.blt,ok.above,ok.inj,ok.has,ok.cab,ok.hd,ok.frames,ok.stk,ok.exf,ok.bs,ok.bsz,ok.noex,ok.exfs,ok.funs,ok.frf⟩
section
variable {X:Cx} {pins:List (Addr×Obj)} {σ:St} {H:Hp} {s:Shared} {E:Value→Shared→Prop}
theorem Inv.wish (I:Inv X pins σ H s) (E:Value→Shared→Prop):Inv (X.wish E) pins σ H s:=⟨I.ok.wish E,I.os,I.bare,I.base,I.loc,I.cell,I.free,I.freeC,I.pin,I.hok,I.len⟩
theorem Inv.unwish (I:Inv (X.wish E) pins σ H s):Inv X pins σ H s:=⟨I.ok.unwish,I.os,I.bare,I.base,I.loc,I.cell,I.free,I.freeC,I.pin,I.hok,I.len⟩
theorem SP.unwish {D:kB} {f:Flow} {s':Shared} (h:SP (X.wish E) pins D f s'):SP X pins D f s':=by
 cases f with
 | next=> obtain ⟨σ',H',I,q⟩:=h; exact ⟨σ',H',I.unwish,q⟩
 | brk=> obtain ⟨σ',H',I,q⟩:=h; exact ⟨σ',H',I.unwish,q⟩
 | cont=> obtain ⟨σ',H',I,q⟩:=h; exact ⟨σ',H',I.unwish,q⟩
 | ret u=> obtain ⟨v,σ',H',I,r,q⟩:=h; exact ⟨v,σ',H',I.unwish,r,q⟩
theorem PSs.nox {st:List Stmt} {t:TS} (h:PSs X.nox st t):PSs X st t:=fun pins s σ H D I hw=>
 wpAny_mono (h pins s σ H D (I.wish _) hw) (fun _ _ q=> q.unwish) fun _ _ z=> False.elim z
end
section
variable {X:Cx} {st:Stmt} {rest:List Stmt} {t u:TS} {e:Expr} {te:TE} {pos:Pos}
def yF:TS:=fun D σ H=> D.nx σ H
def yU (t u:TS):TS:=fun D σ H=> t { D with nx:=u D } σ H
theorem o_:PSs X [] yF:=fun _ _ σ H _ I h=> wpAny_execs_nil ⟨σ,H,I,h⟩
theorem g7 (h1:PS X st t) (h2:PSs X rest u):PSs X (st::rest) (yU t u):=by
 intro pins s σ H D I h
 refine wpAny_execs_cons (thn (h1 pins s σ H { D with nx:=u D } I h) fun f s1 q=> ?_)
 cases f with
 | next=>
  obtain ⟨σ',H',I',q⟩:=q
  exact h2 pins s1 σ' H' D I' q
 | ret v=> exact q
 | brk=> exact q
 | cont=> exact q
theorem Inv.quiet {pins:List (Addr×Obj)} {σ:St} {H:Hp} {s:Shared} (I:Inv X pins σ H s):interactive X.env=false:=by simp [interactive,I.ok.kind]
def yf (te:TE):TS:=fun D σ H=> te σ H fun _ H1=> D.nx σ H1
theorem kD (he:PE X e te) (hs:swapsWith e none pos.line X.env=pure false:=by rfl):PS X (.Expr e pos) (yf te):=by
 intro pins s σ H D I h
 exact wpAny_Expr_any (thn (he pins s σ H _ I h) fun v s1 ⟨x,H1,I1,r1,q1⟩=> ⟨σ,H1,I1,q1⟩) I.quiet hs
def zb (te:TE):TS:=fun D σ H=> te σ H D.rt
theorem nW (he:PE X e te):PS X (.Return (some e) pos) (zb te):=by
 intro pins s σ H D I h
 exact wpAny_Return_some (thn (he pins s σ H _ I h) fun v s1 ⟨x,H1,I1,r1,q1⟩=> ⟨x,σ,H1,I1,r1,q1⟩)
def y3 (c:TT) (t u:TS):TS:=fun D σ H=> c σ H fun b H1=> if b=true then t D σ H1 else u D σ H1
theorem vP {c:Expr} {a b:List Stmt} {tc:TT} (hc:PT X c tc) (ha:PSs X a t) (hb:PSs X b u):PS X (.If c a b pos) (y3 tc t u):=by
 intro pins s σ H D I h
 refine wpAny_If (thn (hc pins s σ H _ I h) fun d s1 ⟨H1,I1,q1⟩=> ?_)
 cases d with
 | true=> exact ha pins s1 σ H1 D I1 q1
 | false=> exact hb pins s1 σ H1 D I1 q1
end
abbrev TG:=V→St→Hp→(St→Hp→Prop)→Prop
abbrev TGs:=List V→St→Hp→(St→Hp→Prop)→Prop
def PG (X:Cx) (target:Expr) (t:TG):Prop:=
 ∀ (pins:List (Addr×Obj)) (s:Shared) (σ:St) (H:Hp) (v:V) (u:Value) (Q:St→Hp→Prop),Inv X pins σ H s→bn v u→t v σ H Q→
  wpAny (model X.prog X.w) X.A (assign target X.env u) (fun _ s'=> ∃ σ' H',Inv X pins σ' H' s'∧Q σ' H') X.xe s
def PGs (X:Cx) (ts:List Expr) (t:TGs):Prop:=
 ∀ (pins:List (Addr×Obj)) (s:Shared) (σ:St) (H:Hp) (vs:List V) (us:List Value) (Q:St→Hp→Prop),Inv X pins σ H s→aR vs us→t vs σ H Q→
  wpAny (model X.prog X.w) X.A (assignInOrder ((assignEach ts X.env).map (·.2)) us) (fun _ s'=> ∃ σ' H',Inv X pins σ' H' s'∧Q σ' H') X.xe s
abbrev TIp:=V→V→Hp→VK→Prop
def PIp (X:Cx) (op:Operator) (t:TIp):Prop:=
 ∀ (pins:List (Addr×Obj)) (s:Shared) (σ:St) (H:Hp) (x y:V) (v u:Value) (Q:VK),Inv X pins σ H s→bn x v→bn y u→t x y H Q→
  wpAny (model X.prog X.w) X.A (inplaceOp op v u) (EP X pins σ Q) X.xe s
section
variable {X:Cx} {pos:Pos}
def m9 (i:Nat):TG:=fun v σ H Q=> Q (σ.set i (some v)) H
theorem bF {i:Nat} {x:Str} (hN:X.N.Nodup) (hi:X.N[i]?=some x) (hx:Loc X.env.scope x) (hf:X.fn x=true∨X.env.scope.names.lookup x=some .local:=by first | exact .inl rfl | exact .inr rfl | assumption):PG X (.Name x pos) (m9 i):=by
 intro pins s σ H v u Q I r h
 exact wpAny_assign_Name (jF I hN hi hx r (fun s' I'=> ⟨_,H,I',h⟩) hf)
def x5:TGs:=fun vs σ H Q=> vs=[]∧Q σ H
def v6 (t:TG) (u:TGs):TGs:=fun vs σ H Q=> ∃ v r,vs=v::r∧t v σ H fun σ' H'=> u r σ' H' Q
theorem gT:PGs X [] x5:=by
 intro pins s σ H vs us Q I r h
 obtain ⟨e,h⟩:=h
 subst e
 cases r
 exact assignInOrder_nil ⟨σ,H,I,h⟩
theorem b_ {e:Expr} {es:List Expr} {t:TG} {u:TGs} (h1:PG X e t) (h2:PGs X es u)
  (hs:(assignEach (e::es) X.env).map (·.2)=assign e X.env::(assignEach es X.env).map (·.2):=by rfl):PGs X (e::es) (v6 t u):=by
 intro pins s σ H vs us Q I r h
 obtain ⟨v,vr,e1,h⟩:=h
 subst e1
 cases r with
 | cons r rr=>
  rw [hs]
  refine assignInOrder_cons (thn (h1 pins s σ H _ _ _ I r h) fun _ s1 ⟨σ1,H1,I1,q1⟩=> ?_)
  exact h2 pins s1 σ1 H1 _ _ Q I1 rr q1
def yE (K:PySem.W.Frag) (n:Nat) (t:TGs):TG:=fun v σ H Q=> ∃ a xs,v=.ref a∧SqT K H a xs∧xs.length=n∧t xs σ H Q
theorem kQ {es:List Expr} {k:Nat} {t:TGs} {n:Nat} (hc:X.calm=true) (h:PGs X es t)
  (hn:(assignEach es X.env).length=n:=by rfl) (hst:(assignEach es X.env).findIdx? (·.1)=none:=by rfl):PG X (.Tuple es k pos) (yE X.K n t):=by
 intro pins s σ H v u Q I r hw
 obtain ⟨a,xs,e1,hq,hl,hw⟩:=hw
 subst e1
 cases r
 obtain ⟨its,rv,ht,hz⟩:=I.tuple hq
 refine assign_Tuple_tuple (I.ok.hd hc) ht (by simp [hn,← hl,rv.length]) hst fun h' hx=> ?_
 have I1:Inv X pins σ H { s with heap:=h' }:=I.kept (t':=s.toks) fun b o e=> hx b o (Nat.ne_of_lt (Heap.lt_size e)) e
 exact h pins _ σ H xs _ Q I1 (by simpa using rv) hw
def wy (te:TE) (g:TG):TS:=fun D σ H=> te σ H fun x H1=> g x σ H1 D.nx
theorem wW {tg e:Expr} {te:TE} {g:TG} (he:PE X e te) (hg:PG X tg g) (hs:swapsWithSole [tg] e pos.line X.env=pure false:=by rfl) (hw:swappedStores [tg] e X.env=pure none:=by rfl)
  (h1:(assignEach [tg] X.env).map (·.2)=[assign tg X.env]:=by rfl):PS X (.Assign [tg] e pos) (wy te g):=by
 intro pins s σ H D I h
 refine wpAny_Assign_stores (thn (he pins s σ H _ I h) fun v s1 ⟨x,H1,I1,r1,q1⟩=> ?_) hs hw
 rw [h1]
 exact thn (hg pins s1 σ H1 x v _ I1 r1 q1) fun _ s2 q=> q
theorem nB {i:Nat} {x:Str} {e:Expr} {te:TE} {pos':Pos} (hN:X.N.Nodup) (hi:X.N[i]?=some x) (hx:Loc X.env.scope x) (he:PE X e te) (hs:swapsWith e (some (.Name x pos')) pos.line X.env=pure false:=by rfl) (hf:X.fn x=true∨X.env.scope.names.lookup x=some .local:=by first | exact .inl rfl | exact .inr rfl | assumption):
  PS X (.Assign [.Name x pos'] e pos) (wy te (m9 i)):=by
 intro pins s σ H D I h
 refine wpAny_Assign_Name (thn (he pins s σ H _ I h) fun v s1 ⟨y,H1,I1,r1,q1⟩=> ?_) hs
 exact jF I1 hN hi hx r1 (fun s2 I2=> ⟨_,H1,I2,q1⟩) hf
def y9 (i:Nat) (te:TE) (ti:TIp):TS:=fun D σ H=> ∃ x,σ[i]?=some (some x)∧te σ H fun y H1=> ti x y H1 fun z H2=> D.nx (σ.set i (some z)) H2
theorem xy {i:Nat} {x:Str} {e:Expr} {te:TE} {op:Operator} {ti:TIp} {pos':Pos} (hN:X.N.Nodup) (hi:X.N[i]?=some x) (hx:Loc X.env.scope x) (he:PE X e te) (ho:PIp X op ti) (hf:X.fn x=true∨X.env.scope.names.lookup x=some .local:=by first | exact .inl rfl | exact .inr rfl | assumption):
  PS X (.AugAssign (.Name x pos') op e pos) (y9 i te ti):=by
 intro pins s σ H D I h
 obtain ⟨v,e1,h⟩:=h
 obtain ⟨m,hn,hl⟩:=I.loc
 have vis:Vis X.env.scope x:=by rcases hx with k | k; exact .inl k; exact .inr (.inl k)
 obtain ⟨u,r,l⟩:=hl i x v hi e1 vis
 refine wpAny_AugAssign_Name ?_
 have go:wpAny (model X.prog X.w) X.A (eval e X.env) (fun w s₂=> wpAny (model X.prog X.w) X.A (inplaceOp op u w) (fun r s₃=> wpAny (model X.prog X.w) X.A (storeName X.env x r) (fun _=> SP X pins D .next) X.xe s₃) X.xe s₂) X.xe s:=by
  refine thn (he pins s σ H _ I h) fun w s1 ⟨y,H1,I1,r1,q1⟩=> ?_
  refine thn (ho pins s1 σ H1 v y u w _ I1 r r1 q1) fun z s2 ⟨zv,H2,I2,r2,q2⟩=> ?_
  exact jF I2 hN hi hx r2 (fun s3 I3=> ⟨_,H2,I3,q2⟩) hf
 rcases l with ⟨hk,hm⟩ | ⟨hk,c,hc,hcell⟩
 ·exact wpAny_loadName_local I.ok.kind hk hn hm go
 ·rcases hk with hk | hk
  ·exact wpAny_loadName_cell I.ok.kind hk hc hcell go
  ·rcases hx with k | k
   ·have:X.env.scope.names.lookup x=some .free:=hk
    rw [k] at this; cases this
   ·have:X.env.scope.names.lookup x=some .free:=hk
    rw [k] at this; cases this
def ipI (f:Int→Int→Int):TIp:=fun x y H Q=> ∃ i j,x=.int i∧y=.int j∧Q (.int (f i j)) H
theorem xK:PIp X .Add (ipI fun i j=> i+j):=by
 intro pins s σ H x y v u Q I r1 r2 h
 obtain ⟨i,j,e1,e2,q⟩:=h
 subst e1; subst e2
 obtain ⟨t,rfl⟩:=r1
 obtain ⟨t',rfl⟩:=r2
 exact iadd_int ⟨.int _,H,I.tok _,⟨_,rfl⟩,q⟩
end
section
variable {X:Cx} {pos:Pos}
def xu (c:TT) (tb:TS):TS:=fun D σ H=> ∃ W:Nat→St→Hp→Prop,(∃ m,W m σ H)∧∀ m σ H,W m σ H→
 c σ H fun b H1=> if b=true then ∃ N:St→Hp→Prop,(∀ σ' H',N σ' H'→∃ m',m' < m∧W m' σ' H')∧tb { D with nx:=N,ct:=N,bk:=D.nx } σ H1 else D.nx σ H1
theorem tp {c:Expr} {body:List Stmt} {tc:TT} {tb:TS} (hp:PassesOwn (model X.prog X.w) X.A X.env X.xe) (hc:PT X c tc) (hb:PSs X body tb):PS X (.While c body [] pos) (xu tc tb):=by
 intro pins s σ H D I h
 obtain ⟨W,⟨m0,w0⟩,turn⟩:=h
 refine wpAny_While (codeAny_whileLoop (fun n s'=> ∃ σ' H',Inv X pins σ' H' s'∧W n σ' H') ?_ m0 ⟨σ,H,I,w0⟩)
 rintro n s1 ⟨σ1,H1,I1,w1⟩
 refine wpAny_passesOwn hp (thn (hc pins s1 σ1 H1 _ I1 (turn n σ1 H1 w1)) fun b s2 ⟨H2,I2,q2⟩=> ?_)
 cases b with
 | true=>
  obtain ⟨N,hN,q2⟩:=q2
  rw [if_pos rfl]
  refine wpAny_passesOwn hp (thn (hb pins s2 σ1 H2 _ I2 q2) fun f s3 q3=> ?_)
  cases f with
  | next=>
   obtain ⟨σ3,H3,I3,n3⟩:=q3
   obtain ⟨m',hm,w3⟩:=hN σ3 H3 n3
   exact ⟨m',hm,σ3,H3,I3,w3⟩
  | cont=>
   obtain ⟨σ3,H3,I3,n3⟩:=q3
   obtain ⟨m',hm,w3⟩:=hN σ3 H3 n3
   exact ⟨m',hm,σ3,H3,I3,w3⟩
  | brk=> exact q3
  | ret v=> exact q3
 | false=>
  rw [if_neg Bool.false_ne_true]
  exact wpAny_execs_nil ⟨σ1,H2,I2,q2⟩
end
structure It where
 go:Nat→Hp→Prop
 yld:Nat→Hp→V→Hp→Prop
 stop:Nat→Hp→Prop
def lj (X:Cx) (pins:List (Addr×Obj)) (H:Hp) (b:Addr):Prop:=
 H b=none∧b≠X.env.locals∧b ∉ X.fs∧(b∈X.ex∨X.s₀.heap.objs.size≤b)∧(∀ x c,X.env.cells.lookup x=some c→c≠b)∧∀ p∈X.pn++pins,p.1≠b
theorem Inv.fpOk {X:Cx} {pins:List (Addr×Obj)} {σ:St} {H H':Hp} {s:Shared} {b:Addr} (I:Inv X pins σ H s) (hb:s.heap.objs.size≤b) (hn:H' b=none):lj X pins H' b:=by
 refine ⟨hn,Nat.ne_of_gt (Nat.lt_of_lt_of_le I.lt hb),I.nofs hb,.inr (Nat.le_trans I.sz hb),fun x c e z=> ?_,fun p hp z=> ?_⟩
 ·obtain ⟨v,q⟩:=I.cell x c e
  exact absurd (Nat.lt_of_lt_of_le q.lt (by rw [z]; exact hb)) (Nat.lt_irrefl _)
 ·exact absurd (Nat.lt_of_lt_of_le (Heap.lt_size (I.pin p hp).1) (by rw [z]; exact hb)) (Nat.lt_irrefl _)
structure wA (P:Program) (w:World) (K:PySem.W.Frag) (tg:Expr) (J:It) (fp:List Addr) (it:Addr) (tn:Nat→Heap→Prop):Prop where
 mem:it∈fp
 obj:∀ i h,tn i h→∀ b∈fp,∃ o,h.get? b=some o∧∀ v,o.data≠.cell v
 keep:∀ i h h',tn i h→(∀ b∈fp,∀ o,h.get? b=some o→h'.get? b=some o)→tn i h'
 item:∀ (X:Cx),X.prog=P→X.w=w→X.K=K→X.calm=true→∀ (i:Nat) (pins:List (Addr×Obj)) (s:Shared) (σ:St) (H:Hp) (E:Value→Shared→Prop),Inv X pins σ H s→(∀ b∈fp,lj X pins H b)→tn i s.heap→J.go i H→
  wpAny (model P w) X.A (pyNext (.ref it)) (fun r s1=> ∃ u,r=some u∧
   wpAny (model P w) X.A (letOwnedTupleGo tg (.ref it) u) (fun _ s2=> ∃ x H',Inv X pins σ H' s2∧bn x u∧J.yld i H x H'∧tn (i+1) s2.heap∧∀ b∈fp,H' b=none) E s1) E s
 done:∀ (X:Cx),X.prog=P→X.w=w→X.K=K→X.calm=true→∀ (i:Nat) (pins:List (Addr×Obj)) (s:Shared) (σ:St) (H:Hp) (E:Value→Shared→Prop),Inv X pins σ H s→(∀ b∈fp,lj X pins H b)→tn i s.heap→J.stop i H→
  wpAny (model P w) X.A (pyNext (.ref it)) (fun r s1=> r=none∧Inv X pins σ H s1) E s
 self:∀ (A:Around) (i:Nat) (s:Shared) (Q:Value→Shared→Prop) (E:Value→Shared→Prop),tn i s.heap→Q (.ref it) s→wpAny (model P w) A (pyIter (.ref it)) Q E s
abbrev TI:=St→Hp→(It→Hp→Prop)→Prop
def PIE (X:Cx) (pins:List (Addr×Obj)) (σ:St) (tg:Expr) (R:It→Hp→Prop) (itv:Value) (s2:Shared):Prop:=
 ∃ (it:Addr) (fp:List Addr) (tn:Nat→Heap→Prop) (J:It) (H':Hp),itv=.ref it∧Inv X pins σ H' s2∧wA X.prog X.w X.K tg J fp it tn∧tn 0 s2.heap∧(∀ b∈fp,lj X pins H' b)∧R J H'
def PI (X:Cx) (tg iter:Expr) (wi:TI):Prop:=
 ∀ (pins:List (Addr×Obj)) (s:Shared) (σ:St) (H:Hp) (R:It→Hp→Prop),Inv X pins σ H s→wi σ H R→
  wpAny (model X.prog X.w) X.A (eval iter X.env) (fun v s1=> wpAny (model X.prog X.w) X.A (pyIter v) (PIE X pins σ tg R) X.xe s1) X.xe s
theorem wa {M:Model} {A:Around} {E:Value→Shared→Prop} {s:Shared} {tg:Expr} {it:Addr} {u:Value} {o:Obj} {n:String} {vs:Array Value} {Q:Unit→Shared→Prop} (ho:s.heap.get? it=some o) (hc:o.cls=.type n) (hd:o.data=.fields vs)
  (hn:["enumerate","zip","dict_itemiterator","dict_reverseitemiterator","odict_iterator","itertools.zip_longest","itertools.pairwise"].contains n=false) (hQ:Q () s):wpAny M A (letOwnedTupleGo tg (.ref it) u) Q E s:=by
 unfold letOwnedTupleGo
 cases tg <;> first
  | exact wpAny_pure hQ
  | (cases u <;> first
    | exact wpAny_pure hQ
    | (refine wpAny_bind (wpAny_load ho ?_)
       rw [hc,hd]
       show wpAny M A (if (["enumerate","zip","dict_itemiterator","dict_reverseitemiterator","odict_iterator","itertools.zip_longest","itertools.pairwise"].contains n && vs[0]?==some (rawInt _))=true then _ else _) Q E s
       rw [if_neg (by intro h; rw [hn,Bool.false_and] at h; cases h)]
       exact wpAny_pure hQ))
def Itl (K:PySem.W.Frag) (a:Addr):It:=
 ⟨fun i H=> ∃ xs x,SqL K H a xs∧xs[i]?=some x,fun i H x H'=> H'=H∧∀ xs,SqL K H a xs→xs[i]?=some x,fun i H=> ∃ xs,SqL K H a xs∧xs.length≤i⟩
def Itr (lo:Int) (n:Nat):It:=⟨fun i _=> i < n,fun i H x H'=> H'=H∧x=.int (lo+i),fun i _=> n≤i⟩
theorem qB {P:Program} {w:World} {K:PySem.W.Frag} {tg:Expr} (a it:Addr):wA P w K tg (Itl K a) [it] it (fun i h=> h.IsListIter it a i) where
 mem:=by simp
 obj:=fun i h st b hb=> by
  have e:b=it:=by simpa using hb
  subst e
  obtain ⟨o,e,c,d⟩:=st
  exact ⟨o,e,fun v z=> by rw [d] at z; cases z⟩
 keep:=fun i h h' st k=> st.at fun o e=> k it (by simp) o e
 item:=by
  intro X hP hw hK hc i pins s σ H E I hf st hg
  subst hP hw hK
  obtain ⟨xs,x,hq,hx⟩:=hg
  obtain ⟨its,rv,p,hz⟩:=I.list hq
  obtain ⟨u,hu,ru⟩:=rv.get hx
  obtain ⟨f0,f1,f2,f3,f4,f5⟩:=hf it (by simp)
  refine wpAny_pyNext_list_item st p.isList (x:=u) (by simpa using hu) fun h' st' sb=> ?_
  have I1:Inv X pins σ H { s with heap:=h' }:=I.turned (t':=s.toks) (fun b o hb e=> (sb.2 b hb).trans e) f0 f1 f3 f4 f5
  obtain ⟨o,e,c,d⟩:=id st'
  exact ⟨u,rfl,wa (s:={ s with heap:=h' }) e c d (by decide) ⟨x,H,I1,ru,⟨rfl,fun ys hy=> by rw [I.list_inj hy hq]; exact hx⟩,st',fun b hb=> (hf b hb).1⟩⟩
 done:=by
  intro X hP hw hK hc i pins s σ H E I hf st hg
  subst hP hw hK
  obtain ⟨xs,hq,hx⟩:=hg
  obtain ⟨its,rv,p,hz⟩:=I.list hq
  obtain ⟨f0,f1,f2,f3,f4,f5⟩:=hf it (by simp)
  have hl:=rv.length
  exact wpAny_pyNext_list_end (I.ok.hd hc) st p.isList (by simp; omega) fun h' eb=> ⟨rfl,I.turned (t':=s.toks) (fun b o hb e=> eb b o hb e) f0 f1 f3 f4 f5⟩
 self:=fun _ _ _ _ _ st h=> wpAny_pyIter_listiter st h
theorem nR {P:Program} {w:World} {K:PySem.W.Frag} {tg:Expr} (it:Addr) (lo:Int) (n:Nat):wA P w K tg (Itr lo n) [it] it (fun i h=> IsRangeIter h it (lo+(i:Nat) * 1) ((n:Int) - (i:Nat)) 1) where
 mem:=by simp
 obj:=fun i h st b hb=> by
  have e:b=it:=by simpa using hb
  subst e
  exact ⟨_,st,fun v z=> by
   have z':Data.fields _=Data.cell v:=z
   cases z'⟩
 keep:=fun i h h' st k=> k it (by simp) _ st
 item:=by
  intro X hP hw hK hc i pins s σ H E I hf st hg
  subst hP hw hK
  obtain ⟨f0,f1,f2,f3,f4,f5⟩:=hf it (by simp)
  have W:=Walks.range (prog:=X.prog) (w:=X.w) (I.ok.hd hc) it lo 1 n
  refine W.item i s _ _ hg st fun v h' tk hv st' kk=> ?_
  obtain ⟨t,rfl⟩:=hv
  have I1:Inv X pins σ H { s with heap:=h',toks:=tk }:=I.turned (fun b o hb e=> kk b o (by simpa using hb) e) f0 f1 f3 f4 f5
  refine ⟨_,rfl,wa (s:={ s with heap:=h',toks:=tk }) (n:="range_iterator") st' rfl rfl (by decide) ⟨.int (lo+i),H,I1,⟨t,?_⟩,⟨rfl,rfl⟩,st',fun b hb=> (hf b hb).1⟩⟩
  rw [Int.mul_one]
 done:=by
  intro X hP hw hK hc i pins s σ H E I hf st hg
  subst hP hw hK
  obtain ⟨f0,f1,f2,f3,f4,f5⟩:=hf it (by simp)
  exact wpAny_pyNext_range_end (I.ok.hd hc) st (by have:n≤i:=hg; omega) fun h' eb=> ⟨rfl,I.turned (t':=s.toks) (fun b o hb e=> eb b o hb e) f0 f1 f3 f4 f5⟩
 self:=fun _ _ _ _ _ st h=> wpAny_pyIter_rangeiter st h
end L2
namespace L2
open PySem PySem.Spec PyProof.Rows
section
variable {X:Cx} {tg:Expr}
def yz (K:PySem.W.Frag) (tl:TE):TI:=fun σ H R=> tl σ H fun x H1=> ∃ a,x=.ref a∧(∃ xs,SqL K H1 a xs)∧R (Itl K a) H1
theorem uP {l:Expr} {tl:TE} (hl:PE X l tl):PI X tg l (yz X.K tl):=by
 intro pins s σ H R I h
 refine thn (hl pins s σ H _ I h) fun v s1 ⟨x,H1,I1,r1,q1⟩=> ?_
 obtain ⟨a,e,⟨xs,hq⟩,q⟩:=q1
 subst e
 cases r1
 obtain ⟨its,rv,p,hz⟩:=I1.list hq
 refine wpAny_pyIter_list p.isList ?_
 refine ⟨s1.heap.objs.size,[s1.heap.objs.size],_,_,H1,rfl,I1.kept (t':=s1.toks) fun b o e=> Heap.get?_push_of_some _ e,qB a _,⟨_,Heap.get?_push_size _ rfl,rfl,rfl⟩,fun b hb=> ?_,q⟩
 have e:b=s1.heap.objs.size:=by simpa using hb
 subst e
 exact I1.fpOk (Nat.le_refl _) (I1.hok.fresh (Nat.le_refl _))
theorem mX {pins:List (Addr×Obj)} {σ:St} {H:Hp} {s:Shared} {R:It→Hp→Prop} {E:Value→Shared→Prop} {lo hi:Int} {t u v:Tok} {tk:Nat} (I:Inv X pins σ H s) (h1:-(2 ^ 62)≤lo) (h2:lo < 2 ^ 62) (h3:-(2 ^ 62)≤hi) (h4:hi < 2 ^ 62)
  (q:R (Itr lo (hi - lo).toNat) H):wpAny (model X.prog X.w) X.A (pyIter (.ref s.heap.objs.size)) (PIE X pins σ tg R) E { s with heap:=s.heap.push { cls:=.type "range",data:=.fields #[.int lo t,.int hi u,.int 1 v] },toks:=tk }:=by
 refine wpAny_pyIter_range (IsRange.new ..) (small_one h1 h2 h3 h4) ?_
 have I1:Inv X pins σ H { s with heap:=s.heap.push { cls:=.type "range",data:=.fields #[.int lo t,.int hi u,.int 1 v] },toks:=tk }:=I.kept fun b o e=> Heap.get?_push_of_some _ e
 refine ⟨(s.heap.push { cls:=.type "range",data:=.fields #[.int lo t,.int hi u,.int 1 v] }).objs.size,[(s.heap.push { cls:=.type "range",data:=.fields #[.int lo t,.int hi u,.int 1 v] }).objs.size],_,_,H,rfl,
  I1.kept (t':=tk) fun b o e=> Heap.get?_push_of_some _ e,nR _ lo (hi - lo).toNat,?_,fun b hb=> ?_,q⟩
 ·have e1:lo+((0:Nat):Int) * 1=lo:=by simp
  have e2:(((hi - lo).toNat:Nat):Int) - ((0:Nat):Int)=Builtin.Range.rangeSize lo hi 1:=by rw [rangeSize_one]; split <;> omega
  show IsRangeIter _ _ (lo+((0:Nat):Int) * 1) ((((hi - lo).toNat:Nat):Int) - ((0:Nat):Int)) 1
  rw [e1,e2]
  exact Heap.get?_push_size _ rfl
 ·have e:b=(s.heap.push { cls:=.type "range",data:=.fields #[.int lo t,.int hi u,.int 1 v] }).objs.size:=by simpa using hb
  subst e
  exact I1.fpOk (Nat.le_refl _) (I1.hok.fresh (Nat.le_refl _))
def yq (ta:TA):TI:=fun σ H R=> ta σ H fun vs H1=> ∃ j:Int,vs=[.int j]∧-(2 ^ 62)≤j∧j < 2 ^ 62∧R (Itr 0 j.toNat) H1
def yC (ta:TA):TI:=fun σ H R=> ta σ H fun vs H1=> ∃ i j:Int,vs=[.int i,.int j]∧(-(2 ^ 62)≤i∧i < 2 ^ 62∧-(2 ^ 62)≤j∧j < 2 ^ 62)∧R (Itr i (j - i).toNat) H1
theorem qC {a:Expr} {ta:TA} {p pos:Pos} (hg:Gl X "range") (hm:X.mg "range"=none) (ha:PA X [a] ta) (hs:starEach [a] X.env=[(false,eval a X.env)]:=by rfl):PI X tg (.Call (.Name "range" p) [a] [] pos) (yq ta):=by
 intro pins s σ H R I h
 refine Call_ (dX I hg hm boot_range (PyProof.Rows.callWith_type1 (thn (ha pos pins s σ H _ I h) fun us s1 ⟨vs,H1,I1,r1,q1⟩=> ?_) hs rfl))
 obtain ⟨j,e,q1,q2,q⟩:=q1
 subst e
 cases r1 with
 | cons r rr=>
  cases rr
  obtain ⟨t,rfl⟩:=r
  exact call_range_1 (mX I1 (by omega) (by omega) q1 q2 (by simpa using q))
theorem qr {a b:Expr} {ta:TA} {p pos:Pos} (hg:Gl X "range") (hm:X.mg "range"=none) (ha:PA X [a,b] ta) (hs:starEach [a,b] X.env=[(false,eval a X.env),(false,eval b X.env)]:=by rfl) (hs2:starEach [b] X.env=[(false,eval b X.env)]:=by rfl):
  PI X tg (.Call (.Name "range" p) [a,b] [] pos) (yC ta):=by
 intro pins s σ H R I h
 refine Call_ (dX I hg hm boot_range (PyProof.Rows.callWith_type1 (thn (ha pos pins s σ H _ I h) fun us s1 ⟨vs,H1,I1,r1,q1⟩=> ?_) (by rw [hs,hs2]) (by rw [hs2]; rfl)))
 obtain ⟨i,j,e,⟨q1,q2,q3,q4⟩,q⟩:=q1
 subst e
 cases r1 with
 | cons r rr=>
  cases rr with
  | cons r' rr=>
   cases rr
   obtain ⟨t,rfl⟩:=r
   obtain ⟨t',rfl⟩:=r'
   exact call_range_2 (mX I1 q1 q2 q3 q4 q)
def yJ (wi:TI) (g:TG) (tb:TS):TS:=fun D σ H=> wi σ H fun J H1=> ∃ W:Nat→Nat→St→Hp→Prop,(∃ m,W 0 m σ H1)∧∀ i m σ H,W i m σ H→
 (J.stop i H∧D.nx σ H)∨(J.go i H∧∃ N:St→Hp→Prop,(∀ σ' H',N σ' H'→∃ m',m' < m∧W (i+1) m' σ' H')∧∀ x H',J.yld i H x H'→g x σ H' fun σ2 H2=> tb { D with nx:=N,ct:=N,bk:=D.nx } σ2 H2)
def kG (fp:List Addr) (h:Heap):List (Addr×Obj):=fp.filterMap fun b=> (h.get? b).map fun o=> (b,o)
theorem fh {fp:List Addr} {h:Heap} {b:Addr} {o:Obj} (hb:b∈fp) (e:h.get? b=some o):(b,o)∈kG fp h:=List.mem_filterMap.mpr ⟨b,hb,by rw [e]; rfl⟩
theorem q9 {fp:List Addr} {h:Heap} {p:Addr×Obj} (hp:p∈kG fp h):p.1∈fp∧h.get? p.1=some p.2:=by
 obtain ⟨b,hb,e⟩:=List.mem_filterMap.mp hp
 cases q:h.get? b with
 | none=> rw [q] at e; cases e
 | some o=>
  rw [q] at e
  have e':(b,o)=p:=Option.some.inj e
  subst e'
  exact ⟨hb,q⟩
theorem Inv.pinned {pins:List (Addr×Obj)} {σ:St} {H:Hp} {s:Shared} {fp:List Addr} (I:Inv X pins σ H s) (hf:∀ b∈fp,lj X pins H b) (ho:∀ b∈fp,∃ o,s.heap.get? b=some o∧∀ v,o.data≠.cell v):Inv X (pins++kG fp s.heap) σ H s:=
 I.pins_of fun p hp=> (List.mem_append.mp hp).elim (fun z=> I.pin p (List.mem_append_right _ z)) fun z=> by
  obtain ⟨hb,e⟩:=q9 z
  obtain ⟨f0,f1,f2,_⟩:=hf p.1 hb
  obtain ⟨o,e',d⟩:=ho p.1 hb
  rw [e] at e'; cases e'
  exact ⟨e,f0,f1,f2,d⟩
theorem Inv.unpinned {pins pl:List (Addr×Obj)} {σ:St} {H:Hp} {s:Shared} (I:Inv X (pins++pl) σ H s):Inv X pins σ H s:=I.pins_of fun p hp=> I.pin p (List.mem_append_right _ (List.mem_append_left _ hp))
theorem rW {iter:Expr} {body:List Stmt} {wi:TI} {g:TG} {tb:TS} {pos:Pos} (hp:PassesOwn (model X.prog X.w) X.A X.env X.xe) (hc:X.calm=true) (hi:PI X tg iter wi) (hg:PG X tg g) (hb:PSs X body tb)
  (hs:∀ x,foldedSetIterable iter X.env x=pure x:=by intro _; rfl):PS X (.For tg iter body [] pos) (yJ wi g tb):=by
 intro pins s σ H D I h
 refine wpAny_For (thn (hi pins s σ H _ I h) fun v s1 h1=> thn h1 fun itv s2 h2=> ?_) hs
 obtain ⟨it,fp,tn,J,H2,e,I2,T,st2,f2,W,⟨m0,w0⟩,turn⟩:=h2
 subst e
 have stat:∀ {H':Hp},(∀ b∈fp,H' b=none)→∀ b∈fp,lj X pins H' b:=fun hn b hb=> ⟨hn b hb,(f2 b hb).2⟩
 refine codeAny_forLoop_any (fun n s'=> ∃ i σ' H',Inv X pins σ' H' s'∧tn i s'.heap∧(∀ b∈fp,H' b=none)∧W i n σ' H') ?_ m0 ⟨0,σ,H2,I2,st2,fun b hb=> (f2 b hb).1,w0⟩
 rintro n s3 ⟨i,σ3,H3,I3,st3,fr3,w3⟩
 rcases turn i n σ3 H3 w3 with ⟨stop,qn⟩ | ⟨go,N,hN,step⟩
 ·refine wpAny_passesOwn hp (thn (T.done X rfl rfl rfl hc i pins s3 σ3 H3 X.xe I3 (stat fr3) st3 stop) fun r s4 ⟨hr,I4⟩=> ?_)
  subst hr
  exact wpAny_execs_nil ⟨σ3,H3,I4,qn⟩
 ·refine wpAny_passesOwn hp (thn (T.item X rfl rfl rfl hc i pins s3 σ3 H3 X.xe I3 (stat fr3) st3 go) fun r s4 ⟨u,hr,h4⟩=> ?_)
  subst hr
  refine wpAny_passesOwn hp (thn h4 fun _ s5 ⟨x,H5,I5,r5,y5,st5,fr5⟩=> ?_)
  have I5':=I5.pinned (stat fr5) (T.obj _ _ st5)
  refine wpAny_passesOwn hp (thn (hg _ s5 σ3 H5 x u _ I5' r5 (step x H5 y5)) fun _ s6 ⟨σ6,H6,I6,q6⟩=> ?_)
  refine wpAny_passesOwn hp (thn (hb _ s6 σ6 H6 _ I6 q6) fun f s7 q7=> ?_)
  have again:∀ {σ7:St} {H7:Hp},Inv X (pins++kG fp s5.heap) σ7 H7 s7→N σ7 H7→∃ m,m < n∧∃ i σ' H',Inv X pins σ' H' s7∧tn i s7.heap∧(∀ b∈fp,H' b=none)∧W i m σ' H':=fun {σ7 H7} I7 n7=> by
   obtain ⟨m',hm,w7⟩:=hN σ7 H7 n7
   refine ⟨m',hm,i+1,σ7,H7,I7.unpinned,T.keep _ _ _ st5 fun b hb o e=> (I7.pin (b,o) (List.mem_append_right _ (List.mem_append_right _ (fh hb e)))).1,fun b hb=> ?_,w7⟩
   obtain ⟨o,e,d⟩:=T.obj _ _ st5 b hb
   exact (I7.pin (b,o) (List.mem_append_right _ (List.mem_append_right _ (fh hb e)))).2.1
  cases f with
  | next=> obtain ⟨σ7,H7,I7,n7⟩:=q7; exact again I7 n7
  | cont=> obtain ⟨σ7,H7,I7,n7⟩:=q7; exact again I7 n7
  | brk=> obtain ⟨σ7,H7,I7,q7⟩:=q7; exact ⟨σ7,H7,I7.unpinned,q7⟩
  | ret v=> obtain ⟨x7,σ7,H7,I7,r7,q7⟩:=q7; exact ⟨x7,σ7,H7,I7.unpinned,r7,q7⟩
end
end L2
namespace L2
open PySem PySem.Spec PyProof.Rows
abbrev R2:=V→V→Hp→VK→Prop
def OpR (X:Cx) (f:Value→Value→Sem Value) (r:R2):Prop:=
 ∀ (pins:List (Addr×Obj)) (s:Shared) (σ:St) (H:Hp) (x y:V) (v u:Value) (Q:VK),Inv X pins σ H s→bn x v→bn y u→r x y H Q→
  wpAny (model X.prog X.w) X.A (f v u) (EP X pins σ Q) X.xe s
def UnR (X:Cx) (f:Value→Sem Value) (r:V→Hp→VK→Prop):Prop:=
 ∀ (pins:List (Addr×Obj)) (s:Shared) (σ:St) (H:Hp) (x:V) (v:Value) (Q:VK),Inv X pins σ H s→bn x v→r x H Q→
  wpAny (model X.prog X.w) X.A (f v) (EP X pins σ Q) X.xe s
def d9 (X:Cx) (f:Value) (r:List V→Hp→VK→Prop):Prop:=
 ∀ (pins:List (Addr×Obj)) (s:Shared) (σ:St) (H:Hp) (xs:List V) (us:List Value) (Q:VK),Inv X pins σ H s→aR xs us→r xs H Q→
  wpAny (model X.prog X.w) X.A (call f us) (EP X pins σ Q) X.xe s
def tOp (r:R2) (ta tb:TE):TE:=fun σ H Q=> ta σ H fun x H1=> tb σ H1 fun y H2=> r x y H2 Q
def tUn (r:V→Hp→VK→Prop) (ta:TE):TE:=fun σ H Q=> ta σ H fun x H1=> r x H1 Q
def rI (C:Int→Int→Prop) (g:Int→Int→V):R2:=fun x y H Q=> ∃ i j,x=.int i∧y=.int j∧C i j∧Q (g i j) H
def rI0 (g:Int→Int→V):R2:=fun x y H Q=> ∃ i j,x=.int i∧y=.int j∧Q (g i j) H
def rU (g:Int→V):V→Hp→VK→Prop:=fun x H Q=> ∃ i,x=.int i∧Q (g i) H
section
variable {X:Cx} {a b c:Expr} {ta tb tc:TE} {pos:Pos}
theorem xD (ha:PE X a ta) (hb:PE X b tb) {pins:List (Addr×Obj)} {s:Shared} {σ:St} {H:Hp} {R:V→V→Hp→Prop} (I:Inv X pins σ H s)
  (h:ta σ H fun x H1=> tb σ H1 fun y H2=> R x y H2) {Q:Value→Shared→Prop} {f:Value→Value→Sem Value}
  (hf:∀ v u s2 x y H2,Inv X pins σ H2 s2→bn x v→bn y u→R x y H2→wpAny (model X.prog X.w) X.A (f v u) Q X.xe s2):
  wpAny (model X.prog X.w) X.A (eval a X.env) (fun v s₁=> wpAny (model X.prog X.w) X.A (eval b X.env) (fun u s₂=> wpAny (model X.prog X.w) X.A (f v u) Q X.xe s₂) X.xe s₁) X.xe s:=by
 refine thn (ha pins s σ H _ I h) fun v s1 ⟨x,H1,I1,r1,q1⟩=> ?_
 refine thn (hb pins s1 σ H1 _ I1 q1) fun u s2 ⟨y,H2,I2,r2,q2⟩=> ?_
 exact hf v u s2 x y H2 I2 r1 r2 q2
theorem rM {op:Operator} {r:R2} (ho:OpR X (binaryOp op) r) (ha:PE X a ta) (hb:PE X b tb):PE X (.BinOp a op b pos) (tOp r ta tb):=by
 intro pins s σ H Q I h
 exact wpAny_BinOp (xD ha hb I h fun v u s2 x y H2 I2 rx ry q=> ho pins s2 σ H2 x y v u Q I2 rx ry q)
theorem yb {op:UnaryOp} {r:V→Hp→VK→Prop} (ho:UnR X (unaryOp op) r) (ha:PE X a ta):PE X (.UnaryOp op a pos) (tUn r ta):=by
 intro pins s σ H Q I h
 exact UnaryOp_ (thn (ha pins s σ H _ I h) fun v s1 ⟨x,H1,I1,r1,q1⟩=> ho pins s1 σ H1 x v Q I1 r1 q1)
theorem opI {f:Value→Value→Sem Value} {C:Int→Int→Prop} {g:Int→Int→Int}
  (rule:∀ (i j:Int) (t u:Tok) (s:Shared) (Q:Value→Shared→Prop) (E:Value→Shared→Prop),C i j→Q (.int (g i j) s.toks) { s with toks:=s.toks+1 }→wpAny (model X.prog X.w) X.A (f (.int i t) (.int j u)) Q E s):
  OpR X f (rI C fun i j=> .int (g i j)):=by
 intro pins s σ H x y v u Q I rx ry h
 obtain ⟨i,j,rfl,rfl,hc,q⟩:=h
 obtain ⟨t,rfl⟩:=rx
 obtain ⟨t',rfl⟩:=ry
 exact rule i j t t' s _ _ hc ⟨.int (g i j),H,I.tok _,⟨_,rfl⟩,q⟩
theorem yk {f:Value→Value→Sem Value} {g:Int→Int→Int}
  (rule:∀ (i j:Int) (t u:Tok) (s:Shared) (Q:Value→Shared→Prop) (E:Value→Shared→Prop),Q (.int (g i j) s.toks) { s with toks:=s.toks+1 }→wpAny (model X.prog X.w) X.A (f (.int i t) (.int j u)) Q E s):
  OpR X f (rI0 fun i j=> .int (g i j)):=by
 intro pins s σ H x y v u Q I rx ry h
 obtain ⟨i,j,rfl,rfl,q⟩:=h
 obtain ⟨t,rfl⟩:=rx
 obtain ⟨t',rfl⟩:=ry
 exact rule i j t t' s _ _ ⟨.int (g i j),H,I.tok _,⟨_,rfl⟩,q⟩
theorem vI {f:Value→Value→Sem Value} {g:Int→Int→Bool}
  (rule:∀ (i j:Int) (t u:Tok) (s:Shared) (Q:Value→Shared→Prop) (E:Value→Shared→Prop),Q (.bool (g i j)) s→wpAny (model X.prog X.w) X.A (f (.int i t) (.int j u)) Q E s):
  OpR X f (rI0 fun i j=> .bl (g i j)):=by
 intro pins s σ H x y v u Q I rx ry h
 obtain ⟨i,j,rfl,rfl,q⟩:=h
 obtain ⟨t,rfl⟩:=rx
 obtain ⟨t',rfl⟩:=ry
 exact rule i j t t' s _ _ ⟨.bl (g i j),H,I,rfl,q⟩
def x6 (i j:Int):Prop:=0≤j∧j≤1000000∧i.natAbs < 2 ^ 64
theorem xj:OpR X (binaryOp .Add) (rI0 fun i j=> .int (i+j)):=yk fun _ _ _ _ _ _ _ q=> add_int q
theorem w6:OpR X (binaryOp .Sub) (rI0 fun i j=> .int (i - j)):=yk fun _ _ _ _ _ _ _ q=> sub_int q
theorem xt:OpR X (binaryOp .Mod) (rI (fun _ j=> 0 < j) fun i j=> .int (i % j)):=opI fun i j _ _ _ _ _ hc q=> by
 have h1:(0:Int) < j:=hc
 exact mod_int' (by omega) (by rw [Int.fmod_eq_emod_of_nonneg i (by omega)]; exact q)
theorem wZ:OpR X (binaryOp .Pow) (rI x6 fun i j=> .int (i ^ j.toNat)):=opI fun _ _ _ _ _ _ _ hc q=> pow_int_small hc.1 hc.2.1 hc.2.2 q
theorem unI {f:Value→Sem Value} {g:Int→Int}
  (rule:∀ (i:Int) (t:Tok) (s:Shared) (Q:Value→Shared→Prop) (E:Value→Shared→Prop),Q (.int (g i) s.toks) { s with toks:=s.toks+1 }→wpAny (model X.prog X.w) X.A (f (.int i t)) Q E s):
  UnR X f (rU fun i=> .int (g i)):=by
 intro pins s σ H x v Q I rx h
 obtain ⟨i,rfl,q⟩:=h
 obtain ⟨t,rfl⟩:=rx
 exact rule i t s _ _ ⟨.int (g i),H,I.tok _,⟨_,rfl⟩,q⟩
theorem xk:UnR X (unaryOp .USub) (rU fun i=> .int (-i)):=unI fun _ _ _ _ _ q=> neg_int q
end
def yZ:V→V→Bool
 | .non,.non=> true | .non,.int _=> true | .int _,.non=> true | .non,.bl _=> true | .bl _,.non=> true | .non,.str _=> true | .str _,.non=> true
 | .int _,.int _=> true | .bl _,.bl _=> true | .str _,.str _=> true | .byt _,.byt _=> true
 | .int _,.str _=> true | .str _,.int _=> true | .bl _,.str _=> true | .str _,.bl _=> true
 | _,_=> false
def rEq:R2:=fun x y H Q=> yZ x y=true∧Q (.bl (decide (x=y))) H
theorem p9 {i j:Int}:decide (V.int i=V.int j)=(i==j):=by
 rw [Bool.eq_iff_iff]
 simp
theorem wV {i j:Bool}:decide (V.bl i=V.bl j)=(i==j):=by
 rw [Bool.eq_iff_iff]
 simp
theorem uM {i j:Str}:decide (V.str i=V.str j)=(i==j):=by
 rw [Bool.eq_iff_iff]
 simp
theorem uJ {i j:Array UInt8}:decide (V.byt i=V.byt j)=(i.toList==j.toList):=by
 rw [Bool.eq_iff_iff]
 cases i
 cases j
 simp
section
variable {X:Cx} {a b c:Expr} {ta tb tc:TE} {pos:Pos}
theorem bY {pins:List (Addr×Obj)} {σ:St} {H:Hp} {s:Shared} {Q:VK} {k k':Bool} (I:Inv X pins σ H s) (q:Q (.bl k) H) (e:k=k'):EP X pins σ Q (.bool k') s:=by
 subst e
 exact ⟨.bl k,H,I,rfl,q⟩
theorem xU:OpR X (compareOp .Eq) rEq:=by
 intro pins s σ H x y v u Q I rx ry h
 obtain ⟨hs,q⟩:=h
 cases x with
 | non=>
  cases rx
  cases y with
  | non=> cases ry; exact PySem.EqNone.eq_none_none (bY I q (by simp))
  | bl j=> cases ry; exact PySem.EqNone.eq_none_bool (bY I q (by simp))
  | int j=> obtain ⟨t',rfl⟩:=ry; exact PySem.EqNone.eq_none_int (bY I q (by simp))
  | str j=> obtain ⟨t',rfl⟩:=ry; exact PySem.EqNone.eq_none_str (bY I q (by simp))
  | _=> exact absurd (show false=true from hs) Bool.false_ne_true
 | bl i=>
  cases rx
  cases y with
  | non=> cases ry; exact PySem.EqNone.eq_bool_none (bY I q (by simp))
  | bl j=> cases ry; exact eq_bool (bY I q wV)
  | str j=> obtain ⟨t',rfl⟩:=ry; exact PySem.EqMixed.eq_bool_str (bY I q (by simp))
  | _=> exact absurd (show false=true from hs) Bool.false_ne_true
 | int i=>
  obtain ⟨t,rfl⟩:=rx
  cases y with
  | non=> cases ry; exact PySem.EqNone.eq_int_none (bY I q (by simp))
  | int j=> obtain ⟨t',rfl⟩:=ry; exact eq_int (bY I q p9)
  | str j=> obtain ⟨t',rfl⟩:=ry; exact PySem.EqMixed.eq_int_str (bY I q (by simp))
  | _=> exact absurd (show false=true from hs) Bool.false_ne_true
 | str i=>
  obtain ⟨t,rfl⟩:=rx
  cases y with
  | non=> cases ry; exact PySem.EqNone.eq_str_none (bY I q (by simp))
  | bl j=> cases ry; exact PySem.EqMixed.eq_str_bool (bY I q (by simp))
  | int j=> obtain ⟨t',rfl⟩:=ry; exact PySem.EqMixed.eq_str_int (bY I q (by simp))
  | str j=> obtain ⟨t',rfl⟩:=ry; exact eq_str (bY I q uM)
  | _=> exact absurd (show false=true from hs) Bool.false_ne_true
 | byt i=>
  obtain ⟨t,rfl⟩:=rx
  cases y with
  | byt j=> obtain ⟨t',rfl⟩:=ry; exact PySem.W.eq_bytes (bY I q uJ)
  | _=> exact absurd (show false=true from hs) Bool.false_ne_true
 | _=> cases y <;> exact absurd (show false=true from hs) Bool.false_ne_true
theorem xN:OpR X (compareOp .Lt) (rI0 fun i j=> .bl (decide (i < j))):=vI fun _ _ _ _ _ _ _ q=> lt_int q
theorem yr:OpR X (compareOp .LtE) (rI0 fun i j=> .bl (decide (i≤j))):=vI fun _ _ _ _ _ _ _ q=> le_int q
theorem x9:OpR X (compareOp .Gt) (rI0 fun i j=> .bl (decide (j < i))):=vI fun _ _ _ _ _ _ _ q=> gt_int q
theorem yx:OpR X (compareOp .GtE) (rI0 fun i j=> .bl (decide (j≤i))):=vI fun _ _ _ _ _ _ _ q=> ge_int q
theorem tK (b:Expr) {op:CmpOp} (h:op≠.In:=by decide) (h2:op≠.NotIn:=by decide):behindInMarks op b=false:=by
 have e1:(op==CmpOp.In)=false:=by cases op <;> first | rfl | exact absurd rfl h
 have e2:(op==CmpOp.NotIn)=false:=by cases op <;> first | rfl | exact absurd rfl h2
 cases b <;> simp [behindInMarks,e1,e2]
theorem u9 {op:CmpOp} {r:R2} (ho:OpR X (compareOp op) r) (ha:PE X a ta) (hb:PE X b tb) (hm:behindInMarks op b=false):PE X (.Compare a [op] [b] pos) (tOp r ta tb):=by
 intro pins s σ H Q I h
 exact wpAny_Compare1 (xD ha hb I h fun v u s2 x y H2 I2 rx ry q=> ho pins s2 σ H2 x y v u Q I2 rx ry q) hm
def yy (t:TE):TT:=fun σ H Q=> t σ H fun x H'=> ∃ k,x=.bl k∧Q k H'
theorem vo {op:CmpOp} {r:R2} (ho:OpR X (compareOp op) r) (ha:PE X a ta) (hb:PE X b tb) (hm:behindInMarks op b=false):PT X (.Compare a [op] [b] pos) (yy (tOp r ta tb)):=by
 intro pins s σ H Q I h
 refine wpAny_isTrue_Compare1 (thn (ha pins s σ H _ I h) fun v s1 ⟨x,H1,I1,r1,q1⟩=> thn (hb pins s1 σ H1 _ I1 q1) fun u s2 ⟨y,H2,I2,r2,q2⟩=>
  thn (ho pins s2 σ H2 x y v u _ I2 r1 r2 q2) fun c s3 ⟨z,H3,I3,r3,k,e,q3⟩=> ?_) hm
 subst e
 cases r3
 exact wpAny_truthy_bool ⟨H3,I3,q3⟩
theorem nX:(sizeLine:Nat) < 2 ^ 63:=by rw [sizeLine_eq]; decide
theorem j4 {x:V} {us:List Value} (r:aR [x] us):∃ u,us=[u]∧bn x u:=by
 cases r with
 | cons r1 r2=> cases r2; exact ⟨_,rfl,r1⟩
theorem j7 {x y:V} {us:List Value} (r:aR [x,y] us):∃ u w',us=[u,w']∧bn x u∧bn y w':=by
 cases r with
 | cons r1 r2=>
  cases r2 with
  | cons r3 r4=> cases r4; exact ⟨_,_,rfl,r1,r3⟩
theorem rf (hc:X.calm=true):d9 X (.builtin "max") (fun xs H Q=> ∃ i j,xs=[.int i,.int j]∧Q (.int (if j > i then j else i)) H):=by
 intro pins s σ H xs us Q I r h
 obtain ⟨i,j,rfl,q⟩:=h
 obtain ⟨u,w',rfl,⟨t,rfl⟩,⟨t',rfl⟩⟩:=j7 r
 refine max_two_ints (I.ok.hd hc) fun h' tk k=> ⟨_,H,I.kept k,?_,q⟩
 by_cases hj:j > i
 ·rw [if_pos hj,if_pos hj]; exact ⟨_,rfl⟩
 ·rw [if_neg hj,if_neg hj]; exact ⟨_,rfl⟩
theorem qU (hc:X.calm=true):d9 X (.builtin "min") (fun xs H Q=> ∃ i j,xs=[.int i,.int j]∧Q (.int (if j < i then j else i)) H):=by
 intro pins s σ H xs us Q I r h
 obtain ⟨i,j,rfl,q⟩:=h
 obtain ⟨u,w',rfl,⟨t,rfl⟩,⟨t',rfl⟩⟩:=j7 r
 refine min_two_ints (I.ok.hd hc) fun h' tk k=> ⟨_,H,I.kept k,?_,q⟩
 by_cases hj:j < i
 ·rw [if_pos hj,if_pos hj]; exact ⟨_,rfl⟩
 ·rw [if_neg hj,if_neg hj]; exact ⟨_,rfl⟩
end
end L2
namespace L2
open PySem PySem.Spec PyProof.Rows
structure wI (h:Heap) (x dx C:Addr) (mA:Str→Option Value):Prop where
 obj:h.get? x=some (PySem.W.instObj C dx)
 ns:h.Ns1 dx mA
 ne:dx≠x
theorem qR {h:Heap} {dx:Addr} {mA:Str→Option Value} (n:h.Ns1 dx mA):∃ od,h.get? dx=some od∧∀ name,PySem.W.lookIn name od=some (mA name):=by
 obtain ⟨o,es,ep,ho,hd,hk,_,hm⟩:=n
 refine ⟨o,ho,fun name=> ?_⟩
 have e:=hm name
 unfold nsFind findBy at e
 rw [← Array.find?_toList] at e
 unfold PySem.W.lookIn
 rw [hd]
 dsimp only
 split
 ·rename_i y q
  rw [q] at e
  exact congrArg some e
 ·rename_i q
  rw [q] at e
  have a:es.toList.any (·.refKey)=false:=by
   rw [List.any_eq_false]
   intro y hy
   obtain ⟨z,t,hkey⟩:=hk y (Array.mem_toList_iff.mp hy)
   simp [DictEntry.refKey,hkey]
  have a':¬ es.toList.any (·.refKey)=true:=by rw [a]; exact Bool.false_ne_true
  rw [if_neg a']
  exact congrArg some e
theorem wI.look {h:Heap} {x dx C:Addr} {mA:Str→Option Value} (I:wI h x dx C mA):∃ od,PySem.W.InstAt h x (PySem.W.instObj C dx) C (some od)∧∀ name,PySem.W.lookIn name od=some (mA name):=
 let ⟨od,ho,hl⟩:=qR I.ns
 ⟨od,⟨I.obj,rfl,rfl,ho⟩,hl⟩
section
variable {prog:Program} {w:World} {A:Around} {E:Value→Shared→Prop} {s:Shared} {K:PySem.W.Frag} {x dx C f:Addr} {mA:Str→Option Value} {name:Str} {v:Value}
end
section
variable {P:Program} {w:World} {H H':Hp} {h h':Heap} {a C dx:Addr} {fs fs':List (Str×V)}
theorem vt (hok:HOk P w H h) (e:H a=some (.ins C dx fs)):∃ mA,wI h a dx C mA∧(∀ f,wR (fs.lookup f) (mA f))∧PySem.Within mA (fs.map (·.1))∧fs.length≤1000∧H dx=some (.own a):=by
 obtain ⟨d,z,ne,ob,mA,n,r,q⟩:=(show cC P w H h a (.ins C dx fs) from hok a _ e)
 exact ⟨mA,⟨ob,n,ne⟩,r,q,z,d⟩
end
structure Cls (K:PySem.W.Frag) (C:Addr):Prop where
 pg:PySem.W.plainGet K C Str.empty=true
 hd:PySem.W.hasDictIn K C=true
 po:PySem.W.plainOver K C=true
 sa:PySem.W.findIn K (.ref C) "__setattr__"=some (some (.builtin "object.__setattr__"))
theorem Cls.get {K:PySem.W.Frag} {C:Addr} (c:Cls K C) (f:Str):PySem.W.plainGet K C f=true:=c.pg
structure Con (K:PySem.W.Frag) (C:Addr) (f:Str) (v:V) (u:Value):Prop where
 at_:PySem.W.findIn K (.ref C) f=some (some u)
 rel:bn v u
 get:PySem.W.specialIn K u "__get__"=some none
 cp:PySem.W.copiedNames.contains f=false
structure zl (K:PySem.W.Frag) (C:Addr) (m:Str) (f:Addr):Prop where
 at_:PySem.W.findIn K (.ref C) m=some (some (.ref f))
 fn:PySem.W.isFn K (.ref f)=true
 kp:PySem.W.keepIn K (.ref f)=true
section
variable {X:Cx} {pins:List (Addr×Obj)} {σ:St} {H:Hp} {s:Shared} {a C dx:Addr} {fs:List (Str×V)} {f:Str} {v:V} {A:Around} {E:Value→Shared→Prop}
end
section
variable {X:Cx} {o e value:Expr} {f:Str} {pos pos' tpos:Pos} {ta tv:TE}
end
section
variable {X:Cx} {pins:List (Addr×Obj)} {σ:St} {H:Hp} {s:Shared} {A:Around} {E:Value→Shared→Prop} {Q:Value→Shared→Prop} {c:Value} {b:Bool}
inductive iC (K:PySem.W.Frag) (H:Hp):V→Value→Prop where
 | non:iC K H .non (.type "NoneType")
 | bl (x:Bool):iC K H (.bl x) (.type "bool")
 | int (i:Int):iC K H (.int i) (.type "int")
 | str (x:Str):iC K H (.str x) (.type "str")
 | flt (x:UInt64):iC K H (.flt x) (.type "float")
 | lst {a:Addr} {xs:List V} (e:H a=some (.lst xs)):iC K H (.ref a) (.type "list")
 | frz {a:Addr} {o:Obj} {xs:List V} (e:H a=some (.frz o (.lst xs))):iC K H (.ref a) (.type "list")
 | tup {a:Addr} {xs:List V} (e:H a=some (.tup xs)):iC K H (.ref a) (.type "tuple")
 | dK {a:Addr} {kvs:List (Key×V)} (e:H a=some (.dK kvs)):iC K H (.ref a) (.type "dict")
 | dT {a:Addr} {kvs:List (List Key×V)} (e:H a=some (.dT kvs)):iC K H (.ref a) (.type "dict")
 | ins {a C dx:Addr} {fs:List (Str×V)} (e:H a=some (.ins C dx fs)) (cl:Cls K C) (ha:PySem.W.findIn K (.ref C) "__class__"=some (some (.builtin "object.__class__")))
   (hn:PySem.W.specialIn K (.builtin "object.__class__") "__get__"=some (some (.builtin "getset_descriptor.__get__"))) (htk:PySem.W.takesIn K (.builtin "object.__class__")=some true)
   (hm:PySem.W.mroIn K C (.type "object")=some true):iC K H (.ref a) (.ref C)
theorem dN {x:V} {u t:Value} (I:Inv X pins σ H s) (rx:bn x u) (ty:iC X.K H x t) (e:PySem.W.kitOne X.K t c=some b) (h:∀ tk,Q (.bool b) { s with toks:=tk }):
  wpAny (model X.prog X.w) A (call (.builtin "isinstance") [u,c]) Q E s:=by
 cases ty with
 | non=> cases (show u=Value.none from rx); exact PySem.W.kia_one PySem.W.kitx_none I.kIn True.intro e (fun z=> nomatch z) h
 | bl y=> cases (show u=Value.bool y from rx); exact PySem.W.kia_one PySem.W.kitx_bool I.kIn True.intro e (fun z=> nomatch z) h
 | int i=> obtain ⟨t,q⟩:=(show ∃ t,u=Value.int i t from rx); cases q; exact PySem.W.kia_one PySem.W.kitx_int I.kIn True.intro e (fun z=> nomatch z) h
 | str y=> obtain ⟨t,q⟩:=(show ∃ t,u=Value.str y t from rx); cases q; exact PySem.W.kia_one PySem.W.kitx_str I.kIn True.intro e (fun z=> nomatch z) h
 | flt y=> obtain ⟨t,q⟩:=(show ∃ t,u=Value.float y t from rx); cases q; exact PySem.W.kia_one PySem.W.kitx_float I.kIn True.intro e (fun z=> nomatch z) h
 | @lst a xs ea=>
  cases (show u=Value.ref a from rx)
  obtain ⟨_,_,n,_,h1⟩:=(show cC X.prog X.w H s.heap a (.lst xs) from I.hok a _ ea)
  exact PySem.W.kia_one PySem.W.kitx_list I.kIn ⟨_,h1,rfl⟩ e (fun z=> nomatch z) h
 | @frz a ob xs ea=>
  cases (show u=Value.ref a from rx)
  obtain ⟨_,_,_,n,_,h1⟩:=(show cC X.prog X.w H s.heap a (.frz ob (.lst xs)) from I.hok a _ ea)
  exact PySem.W.kia_one PySem.W.kitx_list I.kIn ⟨_,h1,rfl⟩ e (fun z=> nomatch z) h
 | @tup a xs ea=>
  cases (show u=Value.ref a from rx)
  obtain ⟨_,_,_,p⟩:=(show cC X.prog X.w H s.heap a (.tup xs) from I.hok a _ ea)
  obtain ⟨o,h1,h2,_⟩:=p
  exact PySem.W.kia_one PySem.W.kitx_tuple I.kIn ⟨o,h1,h2⟩ e (fun z=> nomatch z) h
 | @dK a kvs ea=>
  cases (show u=Value.ref a from rx)
  obtain ⟨_,_,vs,_,p⟩:=(show cC X.prog X.w H s.heap a (.dK kvs) from I.hok a _ ea)
  obtain ⟨o,es,ep,h1,h2,_⟩:=p
  exact PySem.W.kia_one PySem.W.kitx_dict I.kIn ⟨o,h1,h2.1⟩ e (fun z=> nomatch z) h
 | @dT a kvs ea=>
  cases (show u=Value.ref a from rx)
  obtain ⟨_,_,xs,_,o,es,ep,h1,h2,_⟩:=(show cC X.prog X.w H s.heap a (.dT kvs) from I.hok a _ ea)
  exact PySem.W.kia_one PySem.W.kitx_dict I.kIn ⟨o,h1,h2.1⟩ e (fun z=> nomatch z) h
 | @ins a C dx fs ea cl ha hn htk hm=>
  cases (show u=Value.ref a from rx)
  obtain ⟨mA,O,_⟩:=vt I.hok ea
  obtain ⟨od,J,_⟩:=O.look
  exact PySem.W.kia_one (PySem.W.kitx_own (cl.get _) cl.hd ha hn htk hm) I.kIn J e (fun z=> nomatch z) h
end
end L2
namespace L2
open PySem PySem.Spec PyProof.Rows
structure eW (k:Nat) (A:Around):Prop where
 hd:A.handled=none
 dp:A.depth+3 * k+5 < recursionLimit
 un:A.units+16 * k+200 < cLine
theorem eW.mono {j k:Nat} {A:Around} (r:eW k A) (h:j≤k):eW j A:=⟨r.hd,by have:=r.dp; omega,by have:=r.un; omega⟩
theorem eW.deeper {k:Nat} {A:Around} (r:eW (k+1) A) (env:Env):eW k (A.deeper env):=
 ⟨r.hd,by have:=r.dp; show A.depth+1+3 * k+5 < _; omega,by have:=r.un; show A.units+3+16 * k+200 < _; omega⟩
theorem eW.depth {k:Nat} {A:Around} (r:eW k A):A.depth < recursionLimit:=by have:=r.dp; omega
def yS:TA:=fun _ H Q=> Q [] H
def ye (ta:TE) (tr:TA):TA:=fun σ H Q=> ta σ H fun x H1=> tr σ H1 fun xs H2=> Q (x::xs) H2
section
variable {X:Cx} {e:Expr} {es:List Expr} {te:TE} {t:TA} {pos:Pos}
theorem dY:PA X [] yS:=fun _ _ _ _ H Q I h=> Calls.spliced_nil ⟨[],H,I,.nil,h⟩
theorem cI (ha:PE X e te) (hr:PA X es t) (hs:starEach (e::es) X.env=(false,eval e X.env)::starEach es X.env:=by rfl):PA X (e::es) (ye te t):=by
 intro pos pins s σ H Q I h
 rw [hs]
 show wpAny _ _ (spliced ((false,eval e X.env)::backTo pos (starEach es X.env))) _ _ s
 refine Calls.spliced_cons (thn (ha pins s σ H _ I h) fun u s1 ⟨x,H1,I1,r1,q1⟩=> ?_)
 exact thn (hr pos pins s1 σ H1 _ I1 q1) fun us s2 ⟨xs,H2,I2,r2,q2⟩=> ⟨x::xs,H2,I2,.cons r1 r2,q2⟩
def zh (t:TA):TE:=fun σ H Q=> t σ H fun xs H1=> xs.length≤sizeLine∧∀ p,H1 p=none→Q (.ref p) (upd H1 p (.tup xs))
def yX (t:TA):TE:=fun σ H Q=> t σ H fun xs H1=> xs.length≤sizeLine∧∀ p,H1 p=none→Q (.ref p) (upd H1 p (.lst xs))
theorem wo {x1} (h:PA X es t):PE X (.Tuple es x1 pos) (zh t):=by
 intro pins s σ H Q I hq
 refine wpAny_Tuple_spliced (thn (h pos pins s σ H _ I hq) fun us s1 ⟨xs,H1,I1,r,z,q⟩=> ⟨by rw [← r.length]; exact z,?_⟩)
 have hf:H1 s1.heap.objs.size=none:=I1.hok.fresh (Nat.le_refl _)
 refine ⟨.ref s1.heap.objs.size,upd H1 s1.heap.objs.size (.tup xs),I1.laid (t':=s1.toks) (fun b u e=> Heap.get?_push_of_some _ e) (Nat.le_refl _) ?_,rfl,q _ hf⟩
 exact ⟨z,us,r,⟨_,Heap.get?_push_size _ rfl,rfl,_,rfl⟩⟩
theorem jD (h:PA X es t):PE X (.List es pos) (yX t):=by
 intro pins s σ H Q I hq
 refine wpAny_List_spliced (thn (h pos pins s σ H _ I hq) fun us s1 ⟨xs,H1,I1,r,z,q⟩=> ⟨by rw [← r.length]; exact z,?_⟩)
 have hf:H1 s1.heap.objs.size=none:=I1.hok.fresh (Nat.le_refl _)
 refine ⟨.ref s1.heap.objs.size,upd H1 s1.heap.objs.size (.lst xs),I1.laid (t':=s1.toks) (fun b u e=> Heap.get?_push_of_some _ e) (Nat.le_refl _) ?_,rfl,q _ hf⟩
 exact ⟨z,us,0,r,Heap.get?_push_size _ rfl⟩
end
abbrev Sp:=List V→Hp→VK→XK→Prop
abbrev CXT:=List Env→Hp→Shared→XK→Value→Shared→Prop
structure uo (P:Program) (w:World) (K:PySem.W.Frag) (mg:Str→Option Value) (base:Heap) (A:Around) (outer:List Env) (s:Shared) (H:Hp):Prop where
 frames:A.frames=some outer
 mod:Mod K mg base
 bs:∀ b o,base.get? b=some o→s.heap.get? b=some o∧H b=none
 bsz:base.objs.size≤s.heap.objs.size
 funs:s.heap.FunFrames base outer
 frf:∀ b∈frs outer,H b=none
 hok:HOk P w H s.heap
 bare:AllBare s.gens
def CE (outer:List Env) (P:Program) (w:World) (H:Hp) (s:Shared) (Q:VK) (u:Value) (s':Shared):Prop:=
 ∃ v H',s'.os=s.os∧AllBare s'.gens∧Un (frs outer) [] H H' s.heap s'.heap∧HOk P w H' s'.heap∧bn v u∧Q v H'
def CR (CX:CXT) (outer:List Env) (P:Program) (w:World) (H:Hp) (s:Shared) (Q:VK) (E:XK) (r:Result) (s':Shared):Prop:=
 match r with
 | .ok (.ret u)=> CE outer P w H s Q u s'
 | .ok _=> False
 | .error e=> CX outer H s E e s'
structure bE (P:Program) (w:World) (K:PySem.W.Frag) (mg:Str→Option Value) (base:Heap) (CX:CXT) (k:Nat) (f:Addr) (fd:FuncData) (ps:List Str) (sp:Sp):Prop where
 len:∀ vs H Q E,sp vs H Q E→vs.length=ps.length
 run:∀ (A:Around) (outer:List Env) (s:Shared) (H:Hp) (args:Args) (us:List Value) (vs:List V) (Q:VK) (E:XK),eW k A→uo P w K mg base A outer s H→BindsTo s fd args (ps.zip us)→aR vs us→sp vs H Q E→
  codeAny (model P w) A (.call (.ref f) args) (CR CX outer P w H s Q E) s
theorem bE.mono {P:Program} {w:World} {K:PySem.W.Frag} {mg:Str→Option Value} {base:Heap} {CX:CXT} {j k:Nat} {f:Addr} {fd:FuncData} {ps:List Str} {sp:Sp} (F:bE P w K mg base CX j f fd ps sp) (h:j≤k):
  bE P w K mg base CX k f fd ps sp:=⟨F.len,fun A outer s H args us vs Q E hr=> F.run A outer s H args us vs Q E (hr.mono h)⟩
section
variable {X:Cx} {pins:List (Addr×Obj)} {σ:St} {H:Hp} {s s':Shared}
theorem Inv.env0 (I:Inv X pins σ H s):uo X.prog X.w X.K X.mg X.base X.A X.stack s H:=
 ⟨I.ok.frames,I.ok.mod,I.bs,Nat.le_trans I.ok.bsz I.sz,I.stack,I.stkFree,I.hok,I.bare⟩
theorem Inv.after {Q:VK} {u:Value} (I:Inv X pins σ H s) (h:CE X.stack X.prog X.w H s Q u s'):EP X pins σ Q u s':=by
 obtain ⟨v,H',os,bare,un,hok,r,q⟩:=h
 obtain ⟨hh,g,d,t,os'⟩:=s'
 obtain rfl:os'=s.os:=os
 exact ⟨v,H',I.call (h':=hh) (g':=g) (d':=d) (t':=t) (ch:=[]) un hok bare (fun b z=> absurd z (by simp)),r,q⟩
end
def xX (sp:Sp) (dvs:List V) (E:XK) (t:TA):TE:=fun σ H Q=> t σ H fun vs H1=> sp (vs++dvs) H1 Q E
def bo (K:PySem.W.Frag) (fd:FuncData) (ps:List Str) (ds:List Value):Prop:=
 ∀ (s:Shared) (us:List Value),K.In s.heap→(us++ds).length=ps.length→BindsTo s fd ⟨us,[]⟩ (ps.zip (us++ds))
theorem bo.all {K:PySem.W.Frag} {fd:FuncData} {ps:List Str} (h:∀ us:List Value,us.length=ps.length→bindArgs fd ⟨us,[]⟩=pure (ps.zip us)):bo K fd ps []:=fun s us _ hl=> by
 rw [List.append_nil] at hl ⊢
 exact .of_eq (h us hl)
def ig (CX:CXT) (X:Cx) (E:XK):Prop:=∀ (pins:List (Addr×Obj)) (σ:St) (H:Hp) (s:Shared) (e:Value) (s':Shared),Inv X pins σ H s→CX X.stack H s E e s'→X.xe e s'
section
variable {X:Cx} {CX:CXT} {k:Nat} {f C:Addr} {fd:FuncData} {ps:List Str} {sp:Sp} {dvs:List V} {ds:List Value} {E:XK} {x m:Str} {p pos apos:Pos} {e o:Expr} {es:List Expr} {ta:TE} {t:TA}
theorem w_ {pins:List (Addr×Obj)} {σ:St} {H:Hp} {s:Shared} {Q:VK} {us:List Value} {vs:List V} (F:bE X.prog X.w X.K X.mg X.base CX k f fd ps sp) (hr:eW k X.A) (hb:bo X.K fd ps ds) (hd:aR dvs ds) (hx:ig CX X E)
  (I:Inv X pins σ H s) (r:aR vs us) (h:sp (vs++dvs) H Q E):wpAny (model X.prog X.w) X.A (call (.ref f) us) (EP X pins σ Q) X.xe s:=by
 have r2:aR (vs++dvs) (us++ds):=r.append hd
 have hl:(us++ds).length=ps.length:=by rw [← r2.length]; exact F.len _ _ _ _ h
 refine wpAny_call (codeAny_mono (F.run X.A X.stack s H ⟨us,[]⟩ (us++ds) (vs++dvs) Q E hr I.env0 (hb s us I.kIn hl) r2 h) fun r s' hq=> ?_)
 cases r with
 | error e=> exact hx pins σ H s e s' I hq
 | ok fl=>
  cases fl with
  | ret u=> exact I.after hq
  | next=> exact False.elim hq
  | brk=> exact False.elim hq
  | cont=> exact False.elim hq
theorem ku (F:bE X.prog X.w X.K X.mg X.base CX k f fd ps sp) (hr:eW k X.A) (hg:Gl X x) (hm:X.mg x=some (.ref f)) (hk:PySem.W.keepIn X.K (.ref f)=true) (hb:bo X.K fd ps ds) (hd:aR dvs ds) (hx:ig CX X E)
  (ha:PA X (e::es) t) (hdb:(x==("__debug__":Str))=false:=by decide) (he:starEach (e::es) X.env=(false,eval e X.env)::starEach es X.env:=by rfl) (hpl:(backTo pos (starEach es X.env)).any (·.1)=false:=by rfl):
  PE X (.Call (.Name x p) (e::es) [] pos) (xX sp dvs E t):=by
 intro pins s σ H Q I h
 refine wpAny_Call_Name_kw (pQ I hg hm ?_ hdb)
 refine PySem.W.callWith_K (h₀:=X.base) I.ok.mod.kin hk (thn (ha pos pins s σ H _ I h) fun us s1 ⟨vs,H1,I1,r,q⟩=> ⟨I1.kIn,?_⟩) he hpl
 exact w_ F hr hb hd hx I1 r q
structure Mk (K:PySem.W.Frag) (C f:Addr):Prop where
 makes:PySem.W.makesIn K C=true
 init:PySem.W.findIn K (.ref C) "__init__"=some (some (.ref f))
 fn:PySem.W.isFn K (.ref f)=true
 kp:PySem.W.keepIn K (.ref C)=true
end
section
variable {X:Cx} {CX:CXT} {k:Nat} {f C:Addr} {fd:FuncData} {ps ks:List Str} {sp:Sp} {E:XK} {x m:Str} {p pos apos kpos:Pos} {e o:Expr} {es:List Expr} {kws:List Keyword} {te ta:TE} {t tk:TA} {nm:Option Str}
structure yQ (K:PySem.W.Frag) (fd:FuncData) (ps ks:List Str) (g:List Value→List Value→List Value) (gV:List V→List V→List V):Prop where
 to:∀ (s:Shared) (us ws:List Value),K.In s.heap→(g us ws).length=ps.length→BindsTo s fd ⟨us,ks.zip ws⟩ (ps.zip (g us ws))
 rel:∀ {vs:List V} {us:List Value} {zs:List V} {ws:List Value},aR vs us→aR zs ws→aR (gV vs zs) (g us ws)
variable {g:List Value→List Value→List Value} {gV:List V→List V→List V}
end
structure aK (N P:List Str) (sc:Scope):Prop where
 kind:sc.kind=.function
 co:sc.isCoroutine=false
 gen:sc.isGenerator=false
 nd:N.Nodup
 pre:N.take P.length=P
 par:∀ x∈P,sc.names.lookup x=some .local∨sc.names.lookup x=some .cell
 nofree:∀ y∈sc.names,y.2≠.free
theorem kg {kindOf:Str→Option NameKind} {x:Str}:∀ {binds:List (Str×Value)} {m:Str→Option Value},(∀ v,(x,v) ∉ binds)→bindL kindOf binds m x=m x
 | [],_,_=> rfl
 | (n,v)::r,m,h=> by
  unfold bindL
  rw [kg fun w hw=> h w (List.mem_cons_of_mem _ hw)]
  split
  ·have:x≠n:=by rintro rfl; exact h v List.mem_cons_self
   simp [this]
  ·rfl
theorem ka {kindOf:Str→Option NameKind} {x:Str}:∀ {binds:List (Str×Value)} {m:Str→Option Value},(∀ v,(x,v) ∉ binds)→bindC kindOf binds m x=m x
 | [],_,_=> rfl
 | (n,v)::r,m,h=> by
  unfold bindC
  rw [ka fun w hw=> h w (List.mem_cons_of_mem _ hw)]
  split
  ·rfl
  ·have:x≠n:=by rintro rfl; exact h v List.mem_cons_self
   simp [this]
theorem jR {kindOf:Str→Option NameKind} {x:Str} {v:Value}:∀ {P:List Str} {vs:List Value} {i:Nat} {m:Str→Option Value},P.Nodup→P[i]?=some x→vs[i]?=some v→kindOf x=some .local→
  bindL kindOf (P.zip vs) m x=some v
 | [],_,_,_,_,h,_,_=> by simp at h
 | _::_,[],_,_,_,_,h,_=> by simp at h
 | p::P,w::vs,0,m,nd,h1,h2,hk=> by
  simp at h1 h2; subst h1; subst h2
  show bindL kindOf ((p,w)::P.zip vs) m p=_
  unfold bindL
  rw [kg fun v hv=> (List.nodup_cons.mp nd).1 (List.of_mem_zip hv).1,if_pos hk]
  simp
 | p::P,w::vs,i+1,m,nd,h1,h2,hk=> by
  show bindL kindOf ((p,w)::P.zip vs) m x=_
  unfold bindL
  exact jR (i:=i) (List.nodup_cons.mp nd).2 (by simpa using h1) (by simpa using h2) hk
theorem kh {kindOf:Str→Option NameKind} {x:Str} {v:Value}:∀ {P:List Str} {vs:List Value} {i:Nat} {m:Str→Option Value},P.Nodup→P[i]?=some x→vs[i]?=some v→kindOf x≠some .local→
  bindC kindOf (P.zip vs) m x=some v
 | [],_,_,_,_,h,_,_=> by simp at h
 | _::_,[],_,_,_,_,h,_=> by simp at h
 | p::P,w::vs,0,m,nd,h1,h2,hk=> by
  simp at h1 h2; subst h1; subst h2
  show bindC kindOf ((p,w)::P.zip vs) m p=_
  unfold bindC
  rw [ka fun v hv=> (List.nodup_cons.mp nd).1 (List.of_mem_zip hv).1,if_neg hk]
  simp
 | p::P,w::vs,i+1,m,nd,h1,h2,hk=> by
  show bindC kindOf ((p,w)::P.zip vs) m x=_
  unfold bindC
  exact kh (i:=i) (List.nodup_cons.mp nd).2 (by simpa using h1) (by simpa using h2) hk
def start (N:List Str) (vs:List V):St:=vs.map some++List.replicate (N.length - vs.length) none
def fi (CX:CXT) (P:Program) (w:World) (K:PySem.W.Frag) (mg:Str→Option Value) (base:Heap) (N:List Str) (qual:Str) (scope:Scope) (f:Addr) (cd:Value) (A:Around) (outer:List Env) (s:Shared) (H:Hp) (E:XK):Cx where
 prog:=P
 w:=w
 K:=K
 mg:=mg
 base:=base
 A:=A.deeper (envOfC qual scope s.heap.objs.size f cd)
 N:=N
 s₀:=s
 H₀:=H
 env:=envOfC qual scope s.heap.objs.size f cd
 outer:=outer
 stack:=envOfC qual scope s.heap.objs.size f cd::outer
 ex:=[]
 calm:=true
 fn:=fun _=> true
 pn:=[]
 xe:=fun e s'=> wpAny (model P w) (A.deeper (envOfC qual scope s.heap.objs.size f cd)) (leaving (envOfC qual scope s.heap.objs.size f cd) e) (fun _ s''=> CX outer H s E e s'') (fun e' s''=> CX outer H s E e' s'') s'
theorem lW {sc:Scope} {n:Nat} {x:Str} (h:sc.names.lookup x=some .cell):∃ c,(cellsFrom n sc.names []).lookup x=some c:=by
 have q:=PySem.W.cellsFrom_some sc.names n [] (.inl h)
 exact Option.isSome_iff_exists.mp q
theorem qb {CX:CXT} {P:Program} {w:World} {K:PySem.W.Frag} {mg:Str→Option Value} {base:Heap} {N ps:List Str} {qual:Str} {scope:Scope} {f:Addr} {cd:Value} {A:Around} {outer:List Env} {s s1:Shared} {H:Hp} {E:XK} {us:List Value} {vs:List V}
  (S:aK N ps scope) (hd:A.handled=none) (e0:uo P w K mg base A outer s H) (hl:vs.length=ps.length) (r:aR vs us)
  (x:InCallC s s.heap.objs.size (bindL (envOfC qual scope s.heap.objs.size f cd).kindOf (ps.zip us) fun _=> none) (cellsFrom (s.heap.objs.size+1) scope.names []) (bindC (envOfC qual scope s.heap.objs.size f cd).kindOf (ps.zip us) fun _=> none) s1):
  Inv (fi CX P w K mg base N qual scope f cd A outer s H E) [] (start N vs) H s1:=by
 have hpl:ps.length≤N.length:=by have:=congrArg List.length S.pre; rw [List.length_take] at this; omega
 obtain ⟨h1,tk,rfl,hk⟩:=x.done
 have noA:∀ b:Addr,b ∉ (fi CX P w K mg base N qual scope f cd A outer s H E).ex:=fun b z=> absurd (show b∈([]:List Addr) from z) (by simp)
 refine ⟨⟨e0.mod,S.kind,rfl,rfl,Nat.le_refl _,fun y z c h1 h2=> ?_,fun y hy=> ?_,fun y c _ h=> ?_,fun _=> hd,Around.frames_deeper e0.frames,.inr ⟨rfl,rfl⟩,fun b z=> absurd z (noA b),e0.bs,e0.bsz,fun b _ _=> noA b,fun b z=> absurd z (noA b),e0.funs,e0.frf⟩,
  rfl,e0.bare,Un.kept hk,⟨_,x.toInCall.ns,fun i y v h1 h2 h3=> ?_⟩,fun y c h=> ⟨_,x.cell y c h⟩,e0.hok.fresh (Nat.le_refl _),fun y c h=> ?_,fun p hp=> absurd (show p∈([]:List (Addr×Obj)) from hp) (by simp),e0.hok.kept hk,?_⟩
 ·exact name_of_addr x.apart (PySem.mem_of_lookup h1) (PySem.mem_of_lookup h2)
 ·have hy:scope.names.lookup y=some .cell∨scope.names.lookup y=some .free:=hy
  rcases hy with hy | hy
  ·exact lW hy
  ·exact absurd rfl (S.nofree _ (PySem.mem_of_lookup hy))
 ·exact Nat.le_of_lt (x.above y c (PySem.mem_of_lookup h))
 ·have hi:i < vs.length:=by
   unfold start at h2
   by_cases hi:i < vs.length
   ·exact hi
   ·rw [List.getElem?_append_right (by simpa using hi)] at h2
    rw [List.getElem?_replicate] at h2
    split at h2 <;> cases h2
  have ha:vs[i]?=some v:=by
   unfold start at h2
   rw [List.getElem?_append_left (by simpa using hi),List.getElem?_map] at h2
   cases e:vs[i]? with
   | none=> rw [e] at h2; cases h2
   | some a=> rw [e] at h2; cases h2; rfl
  obtain ⟨u,hu,rv⟩:=r.get ha
  have hp:ps[i]?=some y:=by
   rw [← S.pre,List.getElem?_take_of_lt (by omega)]; exact h1
  have ndP:ps.Nodup:=by rw [← S.pre]; exact S.nd.sublist (List.take_sublist _ _)
  refine ⟨u,rv,?_⟩
  rcases S.par y (List.mem_of_getElem? hp) with k | k
  ·exact .inl ⟨k,jR ndP hp hu k⟩
  ·obtain ⟨c,e⟩:=lW (n:=s.heap.objs.size+1) k
   refine .inr ⟨.inl k,c,e,?_⟩
   have q:=x.cell y c e
   rw [kh ndP hp hu (by show scope.names.lookup y≠_; rw [k]; decide)] at q
   exact q
 ·exact e0.hok.fresh (Nat.le_of_lt (x.above y c (PySem.mem_of_lookup h)))
 ·unfold start
  show _=N.length
  rw [List.length_append,List.length_map,List.length_replicate]
  omega
theorem xP {CX:CXT} {P:Program} {w:World} {K:PySem.W.Frag} {mg:Str→Option Value} {base:Heap} {k:Nat} {f:Addr} {name qual:Str} {params:Arguments} {body:List Stmt} {scope:Scope} {dV kV doc pm cdv ct oc:Value} {an od:Option Addr}
  {osl:Array (Option Value)} {N ps:List Str} {sp:Sp} (lk:K.lookup f=some ⟨oc,od,.func (PySem.W.fnOf name qual params body scope dV kV doc pm an cdv ct),osl⟩) (hcd:PySem.W.codeIn K cdv qual=true) (S:aK N ps scope)
  (len:∀ vs H Q E,sp vs H Q E→vs.length=ps.length)
  (hbody:∀ (A:Around) (outer:List Env) (s:Shared) (H:Hp) (vs:List V) (Q:VK) (E:XK),eW k (A.deeper (envOfC qual scope s.heap.objs.size f cdv))→sp vs H Q E→
   ∃ t,PSs (fi CX P w K mg base N qual scope f cdv A outer s H E) body t∧t { nx:=fun _ H'=> Q .non H',rt:=Q } (start N vs) H):
  bE P w K mg base CX (k+1) f (PySem.W.fnOf name qual params body scope dV kV doc pm an cdv ct) ps sp:=by
 refine ⟨len,fun A outer s H args us vs Q E hr e0 hb r hsp=> ?_⟩
 have hl:=len _ _ _ _ hsp
 have KX:K.In s.heap:=e0.mod.kin.keeps fun b o e=> (e0.bs b o e).1
 have lim:s.heap.NoLimit:=e0.mod.nolimit.keeps fun b o e=> (e0.bs b o e).1
 have hkind:∀ y∈ps.zip us,scope.names.lookup y.1=some .local∨(scope.names.lookup y.1=some .cell∧((cellsFrom (s.heap.objs.size+1) scope.names []).lookup y.1).isSome=true):=fun ⟨n,v⟩ hy=> by
  rcases S.par n (List.of_mem_zip hy).1 with q | q
  ·exact .inl q
  ·exact .inr ⟨q,PySem.W.cellsFrom_some _ _ _ (.inl q)⟩
 refine codeAny_call_function hr.depth (KX _ _ lk) rfl S.co S.gen rfl (PySem.W.codeRec_of KX hcd) (hb _ _ _ _ ?_)
 refine wpAny_newFunctionEnv_cells S.kind hkind fun env he s1 x=> ?_
 subst he
 refine ⟨lim.keeps x.toInCall.keep,codeAny_func ?_⟩
 obtain ⟨t,ht,hq⟩:=hbody A outer s H vs Q E (hr.deeper _) hsp
 have I:Inv (fi CX P w K mg base N qual scope f cdv A outer s H E) [] (start N vs) H s1:=qb S hr.hd e0 hl r x
 refine wpAny_mono (ht [] s1 (start N vs) H _ I hq) (fun fl s' hs=> ?_) fun e s' hs=> hs
 have fin:∀ {σ':St} {H':Hp} {v:V} {u:Value},Inv (fi CX P w K mg base N qual scope f cdv A outer s H E) [] σ' H' s'→bn v u→Q v H'→CE outer P w H s Q u s':=
  fun {σ' H' v u} J rv q=> ⟨v,H',J.os,J.bare,J.base,J.hok,rv,q⟩
 cases fl with
 | ret u=>
  obtain ⟨v,σ',H',J,rv,q⟩:=hs
  exact fin J rv q
 | next=>
  obtain ⟨σ',H',J,q⟩:=hs
  exact fin (v:=V.non) (u:=Value.none) J rfl q
 | brk=>
  obtain ⟨_,_,_,q⟩:=hs
  exact False.elim q
 | cont=>
  obtain ⟨_,_,_,q⟩:=hs
  exact False.elim q
end L2
namespace L2
open PySem PySem.Spec PyProof.Rows
section
variable {X:Cx} {x:Str} {p pos:Pos} {e:Expr} {es:List Expr} {t:TA} {id T:String} {r:List V→Hp→VK→Prop}
def tCB (r:List V→Hp→VK→Prop) (t:TA):TE:=fun σ H Q=> t σ H fun vs H1=> r vs H1 Q
theorem lG (hc:d9 X (.builtin id) r) (hg:Gl X x) (hm:X.mg x=none) (hv:bootBuiltins x=some (.builtin id)) (ha:PA X (e::es) t) (hn:x≠"__name__":=by decide) (hdb:(x==("__debug__":Str))=false:=by decide)
  (he:starEach (e::es) X.env=(false,eval e X.env)::starEach es X.env:=by rfl) (hpl:(backTo pos (starEach es X.env)).any (·.1)=false:=by rfl):PE X (.Call (.Name x p) (e::es) [] pos) (tCB r t):=by
 intro pins s σ H Q I h
 refine wpAny_Call_Name_kw (dX I hg hm hv ?_ hn hdb)
 exact PyProof.Rows.callWith_builtin1 (thn (ha pos pins s σ H _ I h) fun us s1 ⟨vs,H1,I1,r1,q1⟩=> hc pins s1 σ H1 vs us Q I1 r1 q1) he hpl
theorem qj (hc:d9 X (.type T) r) (hg:Gl X x) (hm:X.mg x=none) (hv:bootBuiltins x=some (.type T)) (ha:PA X (e::es) t) (hn:x≠"__name__":=by decide) (hdb:(x==("__debug__":Str))=false:=by decide)
  (he:starEach (e::es) X.env=(false,eval e X.env)::starEach es X.env:=by rfl) (hpl:(backTo pos (starEach es X.env)).any (·.1)=false:=by rfl):PE X (.Call (.Name x p) (e::es) [] pos) (tCB r t):=by
 intro pins s σ H Q I h
 refine wpAny_Call_Name_kw (dX I hg hm hv ?_ hn hdb)
 exact PyProof.Rows.callWith_type1 (thn (ha pos pins s σ H _ I h) fun us s1 ⟨vs,H1,I1,r1,q1⟩=> hc pins s1 σ H1 vs us Q I1 r1 q1) he hpl
end
end L2
namespace HT
open PySem PyProof.Rows
section
open PySem.SeqAt
open PySem.AutoSeq1 (wpAny_loadPart')
open PySem.MeetsSeq PySem.MeetsSeq2 PySem.MeetsSeq3
end
section
variable {prog:Program} {w:World} {A:Around} {E:Value→Shared→Prop} {s:Shared}
def sIx (n d:Nat):Option Int→Nat
 | none=> d
 | some v=> if v < 0 then (v+(n:Int)).toNat else min v.toNat n
theorem sIx_none (n d:Nat):sIx n d none=d:=rfl
end
end HT
namespace L2
open PySem PySem.Spec PyProof.Rows
abbrev TO:=St→Hp→(Option Int→Hp→Prop)→Prop
def PO (X:Cx) (e:Option Expr) (t:TO):Prop:=
 ∀ (pins:List (Addr×Obj)) (s:Shared) (σ:St) (H:Hp) (Q:Option Int→Hp→Prop),Inv X pins σ H s→t σ H Q→
  wpAny (model X.prog X.w) X.A (evalPart e X.env) (fun u s'=> ∃ o H',Inv X pins σ H' s'∧IsPart u o∧Q o H') X.xe s
def vM:TO:=fun _ H Q=> Q none H
def yc (t:TE):TO:=fun σ H Q=> t σ H fun x H1=> ∃ i,x=.int i∧Q (some i) H1
section
variable {X:Cx} {e:Expr} {te:TE} {lo hi:Option Expr} {tl th:TO} {pos p2:Pos}
theorem ui:PO X none vM:=by
 intro pins s σ H Q I h
 rw [evalPart_none]
 exact wpAny_pure ⟨none,H,I,.none,h⟩
theorem vf (h:PE X e te):PO X (some e) (yc te):=by
 intro pins s σ H Q I hw
 rw [evalPart_some]
 refine thn (h pins s σ H _ I hw) fun u s1 ⟨x,H1,I1,r1,q1⟩=> ?_
 obtain ⟨i,rfl,q⟩:=q1
 obtain ⟨t,rfl⟩:=r1
 exact ⟨some i,H1,I1,.int i t,q⟩
def SlR (X:Cx) (r:V→Option Int→Option Int→Hp→VK→Prop):Prop:=
 ∀ (pins:List (Addr×Obj)) (s:Shared) (σ:St) (H:Hp) (x:V) (v vl vu:Value) (lo hi:Option Int) (sl:Addr) (Q:VK),Inv X pins σ H s→bn x v→s.heap.IsSliceOf sl vl vu .none→IsPart vl lo→IsPart vu hi→r x lo hi H Q→
  ∃ T id,typeLookup (.type T) "__getitem__"=pure (some (.builtin id))∧s.TypeIs v T∧wpAny (model X.prog X.w) X.A (getItem v (.ref sl)) (EP X pins σ Q) X.xe s
def tSl (r:V→Option Int→Option Int→Hp→VK→Prop) (te:TE) (tl th:TO):TE:=fun σ H Q=> te σ H fun x H1=> tl σ H1 fun l H2=> th σ H2 fun u H3=> r x l u H3 Q
theorem r0 {r:V→Option Int→Option Int→Hp→VK→Prop} (hr:SlR X r) (he:PE X e te) (hl:PO X lo tl) (hu:PO X hi th):PE X (.Subscript e (.Slice lo hi none p2) pos) (tSl r te tl th):=by
 intro pins s σ H Q I h
 refine Subscript_ (thn (he pins s σ H _ I h) fun v s1 ⟨x,H1,I1,r1,q1⟩=> ?_)
 refine wpAny_Slice (thn (hl pins s1 σ H1 _ I1 q1) fun vl s2 ⟨l,H2,I2,pl,q2⟩=> thn (hu pins s2 σ H2 _ I2 q2) fun vu s3 ⟨u,H3,I3,pu,q3⟩=> ?_)
 rw [evalPart_none]
 refine wpAny_pure ?_
 have I4:Inv X pins σ H3 { s3 with heap:=s3.heap.push { cls:=.type "slice",data:=.fields #[vl,vu,.none] } }:=I3.kept (t':=s3.toks) fun b ob q=> Heap.get?_push_of_some _ q
 obtain ⟨T,id,hT,ht,hg⟩:=hr pins { s3 with heap:=s3.heap.push { cls:=.type "slice",data:=.fields #[vl,vu,.none] } } σ H3 x v vl vu l u s3.heap.objs.size Q I4 r1 (Heap.IsSliceOf.new ..) pl pu q3
 show wpAny (model X.prog X.w) X.A (subscriptTail e (.Slice lo hi none p2) v (.ref s3.heap.objs.size)) (EP X pins σ Q) X.xe { s3 with heap:=s3.heap.push { cls:=.type "slice",data:=.fields #[vl,vu,.none] } }
 exact tail_any (ops:=[.ref s3.heap.objs.size,v]) ht hT hg (by with_unfolding_all rfl)
def qo (xs:List V) (lo hi:Option Int):List V:=(xs.drop (HT.sIx xs.length 0 lo)).take (HT.sIx xs.length xs.length hi - HT.sIx xs.length 0 lo)
theorem mF (xs:List V) (lo hi:Option Int):(qo xs lo hi).length≤xs.length:=by
 unfold qo
 rw [List.length_take,List.length_drop]
 omega
end
end L2
namespace L2
open PySem PySem.Spec PyProof.Rows
def ixN (n:Nat) (i:Int):Option Nat:=if 0≤i then (if i < n then some i.toNat else none) else if -(n:Int)≤i then some (i+n).toNat else none
def atI {α:Type} (xs:List α) (i:Int):Option α:=(ixN xs.length i).bind fun j=> xs[j]?
theorem vN {n:Nat} {i:Int} {j:Nat} (h:ixN n i=some j):seqIndex? i n=some j∧j < n∧-(n:Int)≤i∧i < n:=by
 unfold ixN at h
 by_cases h0:0≤i
 ·rw [if_pos h0] at h
  by_cases h1:i < n
  ·rw [if_pos h1] at h
   have e:i.toNat=j:=Option.some.inj h
   exact ⟨by rw [seqIndex_of h0 h1,e],by omega,by omega,h1⟩
  ·rw [if_neg h1] at h; cases h
 ·rw [if_neg h0] at h
  by_cases h1:-(n:Int)≤i
  ·rw [if_pos h1] at h
   have e:(i+n).toNat=j:=Option.some.inj h
   exact ⟨by rw [seqIndex_neg (by omega) h1,e],by omega,h1,by omega⟩
  ·rw [if_neg h1] at h; cases h
theorem oS {α:Type} {xs:List α} {i:Int} {v:α} (h:atI xs i=some v):∃ j,seqIndex? i xs.length=some j∧xs[j]?=some v∧j < xs.length∧-(xs.length:Int)≤i∧i < xs.length:=by
 unfold atI at h
 cases e:ixN xs.length i with
 | none=> rw [e] at h; cases h
 | some j=>
  rw [e] at h
  obtain ⟨h1,h2,h3,h4⟩:=vN e
  exact ⟨j,h1,h,h2,h3,h4⟩
theorem pG {α:Type} {xs:List α} {j:Nat} {v:α} (h:xs[j]?=some v):atI xs (j:Int)=some v:=by
 have hj:j < xs.length:=(List.getElem?_eq_some_iff.mp h).1
 have e:ixN xs.length (j:Int)=some j:=by
  unfold ixN
  rw [if_pos (by omega),if_pos (by omega)]; simp
 unfold atI; rw [e]; exact h
def iN (b:Expr):Prop:=∀ o i,subscripted b false o i=operate [o,i] (getItem o i)
def IxR (X:Cx) (r:R2):Prop:=
 ∀ (value slice:Expr) (pins:List (Addr×Obj)) (s:Shared) (σ:St) (H:Hp) (x y:V) (v u:Value) (Q:VK),Inv X pins σ H s→bn x v→bn y u→r x y H Q→
  subscripted slice false v u=operate [v,u] (getItem v u)→wpAny (model X.prog X.w) X.A (subscriptTail value slice v u) (EP X pins σ Q) X.xe s
def MtR (X:Cx) (id:String) (r:V→List V→Hp→VK→Prop):Prop:=
 ∀ (pins:List (Addr×Obj)) (s:Shared) (σ:St) (H:Hp) (x:V) (xs:List V) (v:Value) (us:List Value) (Q:VK),Inv X pins σ H s→bn x v→aR xs us→r x xs H Q→
  wpAny (model X.prog X.w) X.A (call (.builtin id) (v::us)) (EP X pins σ Q) X.xe s
section
variable {X:Cx} {a b:Expr} {ta tb:TE} {pos:Pos}
theorem IxR.or {r r':R2} (h:IxR X r) (h':IxR X r'):IxR X (fun x y H Q=> r x y H Q∨r' x y H Q):=by
 intro value slice pins s σ H x y v u Q I rx ry q hs
 rcases q with q | q
 ·exact h value slice pins s σ H x y v u Q I rx ry q hs
 ·exact h' value slice pins s σ H x y v u Q I rx ry q hs
theorem su {r:R2} (hr:IxR X r) (ha:PE X a ta) (hb:PE X b tb) (hs:iN b):PE X (.Subscript a b pos) (tOp r ta tb):=by
 intro pins s σ H Q I h
 exact Subscript_ (xD ha hb I h fun v u s2 x y H2 I2 rx ry q=> hr a b pins s2 σ H2 x y v u Q I2 rx ry q (hs _ _))
def yK (K:PySem.W.Frag):R2:=fun x y H Q=> ∃ p xs i v,x=.ref p∧y=.int i∧SqL K H p xs∧atI xs i=some v∧Q v H
def yT (K:PySem.W.Frag):R2:=fun x y H Q=> ∃ p xs i v,x=.ref p∧y=.int i∧SqT K H p xs∧atI xs i=some v∧Q v H
theorem ln:IxR X (yK X.K):=by
 intro value slice pins s σ H x y v u Q I rx ry h hs
 obtain ⟨p,xs,i,z,rfl,rfl,hq,he,q⟩:=h
 cases rx
 obtain ⟨t,rfl⟩:=ry
 obtain ⟨its,r,pl,hz⟩:=I.list hq
 obtain ⟨j,h1,h2,h3,h4,h5⟩:=oS he
 obtain ⟨w,ew,rw'⟩:=r.get h2
 have hl:=r.length
 have hn:=nX
 have fin:EP X pins σ Q w s:=⟨z,H,I,rw',q⟩
 by_cases h0:0≤i
 ·have hj:i.toNat=j:=by
   rw [seqIndex_of h0 h5] at h1
   exact Option.some.inj h1
  exact item_listR pl.isList h0 (by omega) (by rw [hj]; simpa using ew) fin hs
 ·have hj:(i+(its.toArray.size:Int)).toNat=j:=by
   rw [seqIndex_neg (by omega) h4] at h1
   rw [List.size_toArray,← hl]
   exact Option.some.inj h1
  exact subscriptTail_builtinR (x:=w) pl.isList.typeIs slot_list_getitem.lookup
   (wpAny_getItem_list_neg (Q:=fun r s'=> r=w∧EP X pins σ Q r s') pl.isList (by omega) (by rw [List.size_toArray] <;> omega) (by omega) (by rw [hj]; simpa using ew) ⟨rfl,fin⟩) hs
theorem wD:IxR X (yT X.K):=by
 intro value slice pins s σ H x y v u Q I rx ry h hs
 obtain ⟨p,xs,i,z,rfl,rfl,hq,he,q⟩:=h
 cases rx
 obtain ⟨t,rfl⟩:=ry
 obtain ⟨its,r,pl,hz⟩:=I.tuple hq
 obtain ⟨j,h1,h2,h3,h4,h5⟩:=oS he
 obtain ⟨w,ew,rw'⟩:=r.get h2
 have hl:=r.length
 have hn:=nX
 have fin:EP X pins σ Q w s:=⟨z,H,I,rw',q⟩
 exact subscriptTail_builtinR (x:=w) pl.typeIs slot_tuple_getitem.lookup
  (getItem_tuple (j:=j) (Q:=fun r s'=> r=w∧EP X pins σ Q r s') pl (by omega) (by omega) (by rw [List.size_toArray,← hl]; exact h1) (by simpa using ew) ⟨rfl,fin⟩) hs
theorem li (lo hi:Option Int) (n:Nat):(sliceBounds lo hi none n).1=((HT.sIx n 0 lo:Nat):Int)∧(sliceBounds lo hi none n).2.1=((HT.sIx n n hi:Nat):Int)∧(sliceBounds lo hi none n).2.2=1:=by
 refine ⟨?_,?_,rfl⟩
 ·cases lo with
  | none=> simp [sliceBounds,HT.sIx]
  | some i=>
   simp only [sliceBounds,HT.sIx,Option.getD_none,show (1:Int) > 0 by decide,if_true]
   by_cases h:i < 0
   ·simp only [h,if_true] <;> omega
   ·simp only [h,if_false] <;> omega
 ·cases hi with
  | none=> simp [sliceBounds,HT.sIx]
  | some i=>
   simp only [sliceBounds,HT.sIx,Option.getD_none,show (1:Int) > 0 by decide,if_true]
   by_cases h:i < 0
   ·simp only [h,if_true] <;> omega
   ·simp only [h,if_false] <;> omega
theorem jL (its:List Value) (lo hi:Option Int):slicePick its.toArray lo hi none=((its.drop (HT.sIx its.length 0 lo)).take (HT.sIx its.length its.length hi - HT.sIx its.length 0 lo)).toArray:=by
 obtain ⟨h1,h2,h3⟩:=li lo hi its.toArray.size
 unfold slicePick
 rw [h1,h2,h3]
 simp only [sliceRange_one,pick_run,List.size_toArray] <;> rfl
def yL (K:PySem.W.Frag):V→Option Int→Option Int→Hp→VK→Prop:=fun x lo hi H Q=> ∃ a xs,x=.ref a∧SqL K H a xs∧∀ p,H p=none→Q (.ref p) (upd H p (.lst (qo xs lo hi)))
theorem uI:SlR X (yL X.K):=by
 intro pins s σ H x v vl vu lo hi sl Q I rx hs pl pu h
 obtain ⟨a,xs,rfl,hx,q⟩:=h
 cases rx
 obtain ⟨its,r,ht,hz⟩:=I.list hx
 have hlen:=r.length
 refine ⟨"list",_,slot_list_getitem.lookup,ht.isList.typeIs,?_⟩
 refine wpAny_getItem_list_slice ht.isList hs pl pu .none (by simp) ?_ (by rw [List.size_toArray] <;> omega)
 rw [jL,← hlen]
 refine ⟨.ref s.heap.objs.size,_,I.laid (t':=s.toks) (o:=.lst (qo xs lo hi)) (fun b ob q=> Heap.get?_push_of_some _ q) (Nat.le_refl _) ?_,rfl,q _ (I.hok.fresh (Nat.le_refl _))⟩
 exact ⟨Nat.le_trans (mF xs lo hi) hz,_,0,(r.drop (HT.sIx xs.length 0 lo)).take (HT.sIx xs.length xs.length hi - HT.sIx xs.length 0 lo),Heap.get?_push_size _ rfl⟩
theorem g6:d9 X (.builtin "len") (fun xs H Q=> ∃ p ys,xs=[.ref p]∧(SqL X.K H p ys∨SqT X.K H p ys)∧Q (.int ys.length) H):=by
 intro pins s σ H xs us Q I r h
 obtain ⟨p,ys,rfl,hq,q⟩:=h
 obtain ⟨u,rfl,rx⟩:=j4 r
 cases rx
 have hn:=nX
 rcases hq with hq | hq
 ·obtain ⟨its,r',pl,hz⟩:=I.list hq
  have hlen:=r'.length
  exact Calls.call_len_list pl.isList (by simp only [List.size_toArray] <;> omega) ⟨.int ys.length,H,I.tok _,⟨s.toks+1,by rw [List.size_toArray,hlen]⟩,q⟩
 ·obtain ⟨its,r',pl,hz⟩:=I.tuple hq
  have hlen:=r'.length
  exact len_tuple pl (by simp only [List.size_toArray] <;> omega) ⟨.int ys.length,H,I.tok _,⟨s.toks+1,by rw [List.size_toArray,hlen]⟩,q⟩
theorem kJ:d9 X (.type "list") (fun xs H Q=> ∃ p ys,xs=[.ref p]∧(SqL X.K H p ys∨SqT X.K H p ys)∧∀ l,H l=none→Q (.ref l) (upd H l (.lst ys))):=by
 intro pins s σ H xs us Q I r h
 obtain ⟨p,ys,rfl,hq,q⟩:=h
 obtain ⟨u,rfl,rx⟩:=j4 r
 cases rx
 have fin:∀ (its:List Value),aR ys its→ys.length≤sizeLine→∀ (h':Heap) (c':Nat),(∀ b o',s.heap.get? b=some o'→h'.get? b=some o')→
   h'.get? s.heap.objs.size=some { cls:=.type "list",dict:=none,data:=.seq its.toArray c',slots:=#[] }→EP X pins σ Q (.ref s.heap.objs.size) { s with heap:=h' }:=fun its r' hz h' c' kp e=>
  ⟨.ref s.heap.objs.size,_,I.laid (t':=s.toks) kp (Nat.le_refl _) (show cC X.prog X.w _ h' _ (.lst ys) from ⟨hz,its,c',r',e⟩),rfl,q _ (I.hok.fresh (Nat.le_refl _))⟩
 rcases hq with hq | hq
 ·obtain ⟨its,r',pl,hz⟩:=I.list hq
  have hlen:=r'.length
  obtain ⟨o,ho,hc,n,hd⟩:=pl.isList
  exact call_list_seq p (.inl rfl) ho hc hd (fun h' c' kp e=> fin its r' hz h' c' kp e) (by simp only [List.size_toArray] <;> omega)
 ·obtain ⟨its,r',pl,hz⟩:=I.tuple hq
  have hlen:=r'.length
  obtain ⟨o,ho,hc,n,hd⟩:=pl
  exact call_list_seq p (.inr rfl) ho hc hd (fun h' c' kp e=> fin its r' hz h' c' kp e) (by simp only [List.size_toArray] <;> omega)
def tyV (K:PySem.W.Frag) (T:String) (x:V) (H:Hp):Prop:=match x with
 | .str _=> T="str"
 | .int _=> T="int"
 | .ref p=> (T="list"∧∃ xs,SqL K H p xs)∨(T="tuple"∧∃ o,K.lookup p=some o∧o.cls=.type "tuple"∧o.dict=none)∨
   (T="dict"∧((∃ kvs,H p=some (.dK kvs))∨∃ kvs,H p=some (.dT kvs)))∨(T="set"∧∃ S n,H p=some (.set S n))
 | _=> False
theorem sD {pins:List (Addr×Obj)} {σ:St} {H:Hp} {s:Shared} {T:String} {x:V} {v:Value} (I:Inv X pins σ H s) (r:bn x v) (ty:tyV X.K T x H):
  s.TypeIs v T∧∀ a,v=.ref a→∃ ob,s.heap.get? a=some ob∧ob.dict=none:=by
 cases x with
 | str z=>
  obtain ⟨t,rfl⟩:=r
  cases (show T="str" from ty)
  exact ⟨typeIs_str s z t,fun _ e=> nomatch e⟩
 | int i=>
  obtain ⟨t,rfl⟩:=r
  cases (show T="int" from ty)
  exact ⟨typeIs_int s i t,fun _ e=> nomatch e⟩
 | ref p=>
  cases r
  rcases ty with ⟨rfl,xs,hq⟩ | ⟨rfl,o,hk,hc,hd⟩ | ⟨rfl,hk⟩ | ⟨rfl,S,n,hk⟩
  ·obtain ⟨its,_,pl,_⟩:=I.list hq
   refine ⟨pl.isList.typeIs,fun a e=> ?_⟩
   cases e
   obtain ⟨o,n,e,c,hd,_⟩:=pl
   exact ⟨o,e,hd⟩
  ·refine ⟨⟨o,I.kIn p o hk,hc⟩,fun a e=> ?_⟩
   cases e
   exact ⟨o,I.kIn _ o hk,hd⟩
  ·have z:∃ o,s.heap.get? p=some o∧o.ExactDict:=by
    rcases hk with ⟨kvs,hk⟩ | ⟨kvs,hk⟩
    ·obtain ⟨_,_,_,_,o,_,_,e,ex,_⟩:=I.hok p _ hk
     exact ⟨o,e,ex⟩
    ·obtain ⟨_,_,_,_,o,_,_,e,ex,_⟩:=I.hok p _ hk
     exact ⟨o,e,ex⟩
   obtain ⟨o,e,ex⟩:=z
   refine ⟨⟨o,e,ex.1⟩,fun a e2=> ?_⟩
   cases e2
   exact ⟨o,e,ex.2.1⟩
  ·obtain ⟨o,_,_,_,e,ex,_⟩:=I.hok p _ hk
   refine ⟨⟨o,e,ex.1⟩,fun a e2=> ?_⟩
   cases e2
   exact ⟨o,e,ex.2.1⟩
 | _=> exact False.elim ty
def zi (K:PySem.W.Frag) (T:String) (r:V→List V→Hp→VK→Prop) (to:TE):TE:=fun σ H Q=> to σ H fun x H1=> tyV K T x H1∧r x [] H1 Q
def tBM (K:PySem.W.Frag) (T:String) (r:V→List V→Hp→VK→Prop) (to:TE) (t:TA):TE:=fun σ H Q=> to σ H fun x H1=> tyV K T x H1∧t σ H1 fun xs H2=> r x xs H2 Q
variable {o e:Expr} {es:List Expr} {to:TE} {t:TA} {name:Str} {apos cpos:Pos} {T id:String} {r:V→List V→Hp→VK→Prop}
theorem wF (pa:PlainAttrs T) (slot:Slot T name id) (hty:typeOf (.builtin id)=pure (.type "method_descriptor")) (hm:MtR X id r) (ho:PE X o to)
  (hbase:attributeBase o name X.env (eval o X.env)=eval o X.env:=by rfl) (hline:(apos.endLine==cpos.line)=true:=by rfl):PE X (.Call (.Attribute o name apos) [] [] cpos) (zi X.K T r to):=by
 intro pins s σ H Q I h
 refine wpAny_Call_method0_late hbase hline (thn (ho pins s σ H _ I h) fun v s1 ⟨x,H1,I1,r1,ty,q1⟩=> ?_)
 obtain ⟨h1,h2⟩:=sD I1 r1 ty
 exact ⟨T,id,pa,slot,hty,h1,h2,Calls.callWith_builtin rfl (PySem.evalArgs_none (hm pins s1 σ H1 x [] v [] Q I1 r1 .nil q1))⟩
theorem vY (pa:PlainAttrs T) (slot:Slot T name id) (hty:typeOf (.builtin id)=pure (.type "method_descriptor")) (hm:MtR X id r) (ho:PE X o to) (ha:PA X (e::es) t)
  (hbase:attributeBase o name X.env (eval o X.env)=eval o X.env:=by rfl)
  (hfew:((backTo cpos (starEach (e::es) X.env)).all (fun x=> !x.1) && (backToKw cpos (keywordEach [] X.env)).all (fun x=> x.1.isSome)
   && decide ((e::es).length+([]:List Keyword).length+(if ([]:List Keyword).isEmpty then 0 else 1) < 30))=true:=by rfl)
  (hline:(apos.endLine==cpos.line)=true:=by rfl) (hs:starEach (e::es) X.env=(false,eval e X.env)::starEach es X.env:=by rfl) (hplain:(backTo cpos (starEach es X.env)).any (·.1)=false:=by rfl):
  PE X (.Call (.Attribute o name apos) (e::es) [] cpos) (tBM X.K T r to t):=by
 intro pins s σ H Q I h
 refine wpAny_Call_method_late hbase hfew hline rfl (thn (ho pins s σ H _ I h) fun v s1 ⟨x,H1,I1,r1,ty,q1⟩=> ?_)
 obtain ⟨h1,h2⟩:=sD I1 r1 ty
 refine ⟨T,id,pa,slot,hty,h1,h2,?_⟩
 have hA:=ha cpos pins s1 σ H1 _ I1 q1
 rw [hs] at hA ⊢
 refine Calls.callWith_builtin (by show (false || (backTo cpos (starEach es X.env)).any (·.1))=false; rw [hplain] <;> rfl) (Calls.evalArgs_plain ?_)
 exact thn hA fun us s2 ⟨vs,H2,I2,r2,q2⟩=> hm pins s2 σ H2 x vs v us Q I2 r1 r2 q2
/- xs.append(e),list.index on a module's tuple .. are MtR facts of 06m -/
end
end L2
namespace L2
open PySem PySem.Spec PyProof.Rows
def MtM (X:Cx) (id:String) (r:V→List V→Hp→VK→Prop):Prop:=
 ∀ (pins:List (Addr×Obj)) (s:Shared) (σ:St) (H:Hp) (x:V) (xs:List V) (v:Value) (us:List Value) (Q:VK),Inv X pins σ H s→bn x v→aR xs us→r x xs H Q→
  wpAny (model X.prog X.w) X.A (call (.builtin id) (v::us)) (EP X pins σ Q) X.xe s
theorem aR.one:∀ {x:V} {us:List Value},aR [x] us→∃ u,us=[u]∧bn x u
 | _,_,.cons r .nil=> ⟨_,rfl,r⟩
theorem aR.zero:∀ {us:List Value},aR [] us→us=[]
 | _,.nil=> rfl
theorem aR.dropLast {xs:List V} {us:List Value} (h:aR xs us):aR xs.dropLast us.dropLast:=by
 induction h with
 | nil=> exact .nil
 | cons r t ih=>
  cases t with
  | nil=> exact .nil
  | cons q t'=> exact .cons r ih
theorem ox {α:Type} (l:List α):l.eraseIdx (l.length - 1)=l.dropLast:=by
 induction l with
 | nil=> rfl
 | cons a r ih=>
  cases r with
  | nil=> rfl
  | cons b r=>
   have e:(a::b::r).length - 1=((b::r).length - 1)+1:=by
    have h1:(a::b::r).length=r.length+2:=rfl
    have h2:(b::r).length=r.length+1:=rfl
    omega
   rw [e,List.eraseIdx_cons_succ,ih]
   all_goals rfl
section
variable {X:Cx} {pins:List (Addr×Obj)} {σ:St} {H:Hp} {s:Shared} {l b:Addr} {xs ys zs:List V}
theorem Inv.lset {its its':List Value} {n:Nat} {f:Array Value→Array Value} {t':Nat} (I:Inv X pins σ H s) (hH:H l=some (.lst xs))
  (e:s.heap.get? l=some { cls:=.type "list",data:=.seq its.toArray n }) (hf:f its.toArray=its'.toArray) (hv:aR ys its') (hz:ys.length≤sizeLine):
  Inv X pins σ (upd H l (.lst ys)) { s with heap:=s.heap.update l (Obj.mapSeq f),toks:=t' }:=by
 have q:=PySem.IsL.update e f
 rw [hf] at q
 refine I.write (x:=l) (e:=l) (by rw [hH]; exact trivial) (.inl rfl) (fun b' u hb hu=> (Heap.get?_update_other s.heap (Obj.mapSeq f) (Ne.symm hb)).trans hu) ⟨_,q⟩ ?_
 exact ⟨hz,its',_,hv,q⟩
theorem Inv.lnew {its:List Value} {t':Nat} (I:Inv X pins σ H s) (hv:aR ys its) (hz:ys.length≤sizeLine):
  Inv X pins σ (upd H s.heap.objs.size (.lst ys)) { s with heap:=s.heap.push { cls:=.type "list",data:=.seq its.toArray },toks:=t' }:=
 I.laid (fun _ _ q=> Heap.get?_push_of_some _ q) (Nat.le_refl _) ⟨hz,its,0,hv,Heap.get?_push_size _ rfl⟩
theorem Inv.fresh (I:Inv X pins σ H s):H s.heap.objs.size=none:=I.hok.fresh (Nat.le_refl _)
theorem Inv.lstM (I:Inv X pins σ H s) (hH:H l=some (.lst xs)):xs.length≤sizeLine∧∃ (its:List Value) (n:Nat),aR xs its∧xs.length=its.length∧s.heap.get? l=some { cls:=.type "list",data:=.seq its.toArray n }:=by
 obtain ⟨z,its,n,r,e⟩:=I.hok l _ hH
 exact ⟨z,its,n,r,r.length,e⟩
theorem xT {n:Nat} (h:n≤sizeLine):Builtin.List.listTooLong n=false:=by
 unfold Builtin.List.listTooLong
 exact decide_eq_false (by omega)
end
section
variable {X:Cx}
def ur:V→List V→Hp→VK→Prop:=fun x vs H Q=> ∃ l xs y,x=.ref l∧vs=[y]∧H l=some (.lst xs)∧xs.length < sizeLine∧Q .non (upd H l (.lst (xs++[y])))
theorem h_:MtM X "list.append" ur:=by
 intro pins s σ H x vs v us Q I rx rv h
 obtain ⟨l,xs,y,rfl,rfl,hH,hz,q⟩:=h
 cases rx
 obtain ⟨u,rfl,ru⟩:=rv.one
 obtain ⟨z,its,n,r,hl,e⟩:=I.lstM hH
 refine call_meets F.slot_list_append ⟨_,e,rfl⟩ F.entry_list_append (F.args_list_append_2 _ _) (PySem.list_append l its.toArray n u (by rw [List.size_toArray]; omega)) ⟨e,?_⟩
 refine ⟨.non,_,I.lset (its':=its++[u]) hH e (by simp) (r.append (.cons ru .nil)) ?_,rfl,q⟩
 rw [List.length_append,List.length_singleton]
 omega
def yY:V→List V→Hp→VK→Prop:=fun x vs H Q=> ∃ l xs y,x=.ref l∧vs=[]∧H l=some (.lst xs)∧xs[xs.length - 1]?=some y∧Q y (upd H l (.lst xs.dropLast))
theorem wM:MtM X "list.pop" yY:=by
 intro pins s σ H x vs v us Q I rx rv h
 obtain ⟨l,xs,y,rfl,rfl,hH,hy,q⟩:=h
 cases rx
 have hus:=rv.zero
 subst hus
 obtain ⟨z,its,n,r,hl,e⟩:=I.lstM hH
 obtain ⟨u,hu,ru⟩:=r.get hy
 have hy':its.toArray[its.toArray.size - 1]?=some u:=by
  show its.toArray[its.length - 1]?=some u
  rw [← Array.getElem?_toList,← hl]
  exact hu
 refine call_meets F.slot_list_pop ⟨_,e,rfl⟩ F.entry_list_pop (F.args_list_pop_1 _) (MeetsSeq.list_pop_last l its.toArray n u hy' (by rw [List.size_toArray]; omega)) ⟨e,?_⟩
 refine ⟨y,_,I.lset (its':=its.dropLast) hH e ?_ r.dropLast ?_,ru,q⟩
 ·show its.toArray.eraseIdxIfInBounds (its.toArray.size - 1)=its.dropLast.toArray
  rw [List.size_toArray,List.eraseIdxIfInBounds_toArray,ox]
 ·rw [List.length_dropLast]
  omega
def ze:R2:=fun x y H Q=> ∃ l b xs zs,x=.ref l∧y=.ref b∧H l=some (.lst xs)∧H b=some (.lst zs)∧xs.length+zs.length≤sizeLine∧∀ p,H p=none→Q (.ref p) (upd H p (.lst (xs++zs)))
theorem wC:OpR X (binaryOp .Add) ze:=by
 intro pins s σ H x y v u Q I rx ry h
 obtain ⟨l,b,xs,zs,rfl,rfl,hH,hB,hz,q⟩:=h
 cases rx
 cases ry
 obtain ⟨z,its,n,r,hl,e⟩:=I.lstM hH
 obtain ⟨z2,its2,n2,r2,hl2,e2⟩:=I.lstM hB
 refine PySem.P.add_list e e2 ?_ (by rw [List.size_toArray,List.size_toArray]; omega)
 have ea:its.toArray++its2.toArray=(its++its2).toArray:=by simp
 rw [ea]
 exact ⟨.ref _,_,I.lnew (t':=s.toks) (r.append r2) (by rw [List.length_append]; omega),rfl,q _ I.fresh⟩
end
section
variable {prog:Program} {w:World} {A:Around} {E:Value→Shared→Prop} {s:Shared}
end
section
variable {X:Cx}
end
end L2
namespace Att
open PySem PySem.W PySem.Calls PyProof.Rows
theorem iD {P:Params} {h:Heap}:∀ (ns:List Int) (vs:List Value),WellAll P h vs (ns.map WData.int)→IntsAre vs ns:=by
 intro ns
 induction ns with
 | nil=>
  intro vs w
  rw [List.map_nil] at w
  cases w
  exact .nil
 | cons n ns ih=>
  intro vs w
  rw [List.map_cons] at w
  cases w with
  | cons a b=>
   cases a
   exact .cons _ _ (ih _ b)
theorem script_of {l:OpenLaw} {n:Nat} (hn:l.most=some n) {P:Params} {h:Heap} {args:List WData} {vals:List Value}
  (hpre:l.row.toRowW.claim.pre args=true) (hwl:WellAll P h vals args):
  ∃ a vs ns,vals=[Value.ref a]∧args=[WData.list (ns.map WData.int)]∧h.get? a=some { cls:=.type "list",data:=.seq vs.toArray }∧IntsAre vs ns∧ns.length≤n:=by
 have hsh:WShape.hasAll [] args [.list .int]=true:=(pre_splitW hpre).1
 have hc:l.pre.holds [] { args:=args }=true:=(pre_splitW hpre).2
 obtain ⟨d,r,rfl,h1,h2⟩:=hasAllW_cons hsh
 obtain rfl:=hasAllW_nil h2
 obtain ⟨xs,rfl,h3⟩:=hasW_list h1
 obtain ⟨ns,rfl⟩:=items_int h3
 have hlen:ns.length≤n:=by
  unfold OpenLaw.pre at hc
  have h4:(WTm.not (.lt (.lit (.int (n:Int))) (.len (.arg 0)))).holds [] { args:=[.list (ns.map .int)] }=true:=by
   have h4:=(holds_andW hc).1
   rw [hn] at h4
   exact h4
  have h5:=condW_of h4 (w_not (w_lt w_lit (w_len_list (w_arg rfl))))
  rw [List.length_map] at h5
  refine Nat.le_of_not_lt fun q=> ?_
  have q':(n:Int) < ((ns.length:Nat):Int):=by omega
  first
   | (rw [decide_eq_true q'] at h5; exact absurd h5 (by decide))
   | (simp at h5; omega)
 cases hwl with
 | cons w1 w2=>
  cases w2
  cases w1 with
  | list ho hall=> exact ⟨_,_,ns,rfl,rfl,ho,iD ns _ hall,hlen⟩
theorem post_true (l:OpenLaw) (args:List WData):l.row.toRowW.claim.post args (.bool true) args=true:=
 postW_of (r:=l.row.toRowW) (X:=(true==true))
  (show WShape.has [] (.bool true) .bool=true by first | rfl | decide | simp [WShape.has,WShape.arms,WShape.armsAll])
  (show (WTm.eq .res (.lit (.bool true))).value [] { args:=args,res:=some (.bool true),after:=args }=some (.bool (true==true)) from w_eq_bool (w_res rfl) w_lit) rfl
section
variable {prog:Program} {w:World} {A:Around} {E:Value→Shared→Prop} {s:Shared} {K:Frag}
end
end Att
namespace L2
open PySem PySem.Spec PyProof.Rows
theorem jY:∀ {vs:List Value} {ns:List Int},IntsAre vs ns→aR (ns.map V.int) vs
 | _,_,.nil=> .nil
 | _,_,.cons n t h=> .cons ⟨t,rfl⟩ (jY h)
def ve (H:Hp):Prop:=∀ b,H b=none∨∃ o xs,H b=some (.frz o (.lst xs))
theorem t6 {P:Program} {w:World} {K:PySem.W.Frag} {mg mb:Str→Option Value} {CX:CXT} {k:Nat} {fa a:Addr} {fd:FuncData} {x:Str} {sp:Sp} {s₁:Shared} {vs:List Value} {ns:List Int}
  (KX:K.In s₁.heap) (hns:s₁.heap.Ns mainGlobals mg) (hb:s₁.heap.Ns builtinsNs mb) (hbb:∀ x:Str,x≠"__name__"→mb x=bootBuiltins x) (hlim:s₁.heap.NoLimit) (hg:s₁.gens=#[])
  (ha:s₁.heap.get? a=some { cls:=.type "list",data:=.seq vs.toArray }) (hi:IntsAre vs ns) (hl:ns.length≤sizeLine) (hr:eW k callerA)
  (F:∀ base:Heap,K.In base→base.Ns mainGlobals mg→bE P w K mg base CX k fa fd [x] sp) (hbind:∀ (s:Shared) (u:Value),BindsTo s fd ⟨[u],[]⟩ [(x,u)])
  (hsp:∀ H:Hp,ve H→SqL K H a (ns.map V.int)→sp [.ref a] H (fun v _=> v=.bl true) fun _ _ _=> False)
  (hCX:∀ H e s',CX [] H s₁ (fun _ _ _=> False) e s'→False):
  codeAny (model P w) callerA (.call (.ref fa) ⟨[.ref a],[]⟩) (fun r s'=> r=.ok (.ret (.bool true))∧OldK s₁.heap s'.heap∧s'.os=s₁.os∧AllBare s'.gens) s₁:=by
 have rv:=jY hi
 have lenV:=hi.length
 have core:∀ H:Hp,ve H→SqL K H a (ns.map V.int)→HOk P w H s₁.heap→(∀ b,H b≠none→b=a)→(H a≠none→K.lookup a=none)→
   codeAny (model P w) callerA (.call (.ref fa) ⟨[.ref a],[]⟩) (fun r s'=> r=.ok (.ret (.bool true))∧OldK s₁.heap s'.heap∧s'.os=s₁.os∧AllBare s'.gens) s₁:=by
  intro H hO hS hok hA hK
  have base_of:∀ {b:Addr} {o:Obj},s₁.heap.get? b=some o→H b=none→(kY s₁.heap H).get? b=some o:=fun e n=> sL e n
  have noA:∀ {b:Addr} {o:Obj} {es:Array DictEntry} {ep:Nat},s₁.heap.get? b=some o→o.data=.dict es ep→H b=none:=fun {b o es ep} e d=> by
   cases q:H b with
   | none=> rfl
   | some u=>
    have e':b=a:=hA b (by rw [q]; simp)
    subst e'
    rw [ha] at e; cases e
    have d':Data.seq vs.toArray _=Data.dict es ep:=d
    cases d'
  have nsK:∀ {b:Addr} {m:Str→Option Value},s₁.heap.Ns b m→(kY s₁.heap H).Ns b m:=fun {b m} ⟨o,es,ep,e,d,r⟩=> ⟨o,es,ep,base_of e (noA e d),d,r⟩
  have hKb:K.In (kY s₁.heap H):=fun b o e=> base_of (KX b o e) (by
   cases q:H b with
   | none=> rfl
   | some u=>
    have e':b=a:=hA b (by rw [q]; simp)
    subst e'
    rw [hK (by rw [q]; simp)] at e; cases e)
  have hM:Mod K mg (kY s₁.heap H):=⟨hKb,nsK hns,⟨mb,nsK hb,hbb⟩,let ⟨mc,h1,h2⟩:=hlim; ⟨mc,nsK h1,h2⟩⟩
  have e0:uo P w K mg (kY s₁.heap H) callerA [] s₁ H:=⟨rfl,hM,fun b o e=> vg e,Nat.le_of_eq (qK _ _),trivial,fun b hb=> absurd (show b∈([]:List Addr) from hb) (by simp),hok,.of_eq hg⟩
  refine codeAny_mono ((F _ hKb (nsK hns)).run callerA [] s₁ H ⟨[.ref a],[]⟩ [.ref a] [.ref a] _ _ hr e0 (hbind s₁ (.ref a)) (.cons rfl .nil) (hsp H hO hS)) fun r s' h=> ?_
  cases r with
  | error e=> exact (hCX H e s' h).elim
  | ok fl=>
   cases fl with
   | next=> exact False.elim h
   | brk=> exact False.elim h
   | cont=> exact False.elim h
   | ret u=>
    obtain ⟨v,H',os,bare,un,hok',r',q⟩:=h
    have q':v=.bl true:=q
    subst q'
    obtain rfl:u=Value.bool true:=r'
    refine ⟨rfl,OldK.of_keep fun b o e=> ?_,os,bare⟩
    cases q:H b with
    | none=> exact un.keep b o e q (by intro z; exact absurd (show b∈([]:List Addr) from z) (by simp)) (by simp)
    | some u=>
     rcases hO b with z | ⟨ob,xs,z⟩
     ·rw [q] at z; cases z
     ·have z2:=un.frzs b ob _ z
      obtain ⟨e1,_⟩:=hok b _ z
      obtain ⟨e2,_⟩:=hok' b _ z2
      rw [e] at e1; cases e1
      exact e2
 cases hk:K.lookup a with
 | some o=>
  have e:=KX a o hk
  rw [ha] at e
  cases e
  refine core (fun _=> none) (fun _=> .inl rfl) (.inr ⟨_,vs.toArray,_,hk,rfl,rfl,rfl,by rw [List.size_toArray,lenV]; exact hl,by simpa using rv⟩) (fun b u z=> by have z':(none:Option HO)=some u:=z; cases z') (fun b z=> absurd rfl z) fun z=> absurd rfl z
 | none=>
  refine core (fun b=> if b=a then some (.frz { cls:=.type "list",data:=.seq vs.toArray } (.lst (ns.map V.int))) else none) (fun b=> ?_) (.inl (.inr ⟨{ cls:=.type "list",data:=.seq vs.toArray },if_pos rfl⟩)) (fun b u z=> ?_) (fun b z=> ?_) fun _=> hk
  ·by_cases hb:b=a
   ·exact .inr ⟨_,_,if_pos hb⟩
   ·exact .inl (if_neg hb)
  ·by_cases hb:b=a
   ·have z':=(if_pos hb).symm.trans z
    cases z'
    subst hb
    exact ⟨ha,by rw [List.length_map]; exact hl,vs,_,rv,ha⟩
   ·have z':=(if_neg hb).symm.trans z
    cases z'
  ·by_cases hb:b=a
   ·exact hb
   ·exact absurd (if_neg hb) z
end L2
namespace L2
open PySem PySem.Spec PyProof.Rows
abbrev KOf {K:PySem.W.Frag} {h:Heap} (_:K.In h):PySem.W.Frag:=K
end L2
/- THE LAST THEOREM (shape; LID,My.* are yours):
   My.Adr:a structure of the addresses that your layer names (classes,functions); My.Txt K t:a structure (Prop) of the equations over K;
   My.txt_mk:{K} {implicit addresses ..} (e1:nsIn K mainGlobals "law"=some (some (.ref f))) (e2:K.lookup f=some ⟨oc,od,.func (fnOf "law" "law" params body scope dV kV doc pm an cdv ct),sl⟩) (e3:codeIn K cdv "law"=true) ..:∃ t,My.Txt K t
set_option maxRecDepth 100000 in
set_option maxHeartbeats 0 in
theorem PySem.Challenge.cw_LID_holds : PySem.Challenge.rw_LID.Holds := by
 w_on; o_law; k_head; (case hw=> w_witness2)
 k_fill
 refine L2.walk_of (l:=PySem.Challenge.rw_LID) (n:=63) (k:=40) (x:="script") (CX:=fun w=> ..) (sp:=fun _=> My.sp_law) rfl (by decide) rfl ⟨rfl,by decide,by decide⟩ (fun w h Y=> PySem.W.kIn_of Y) ?F ?S ?C
 case F=>
  intro w mg fa h KX G hmg
  have T:∃ t,My.Txt (L2.KOf KX) t:=by
   dsimp only [L2.KOf]                          -- K must stand as «<heap const> w.params» for k_is
   refine' My.txt_mk ?e1 ?e2 ?e3 ..
   (case e1=> PySem.W.k_is)                    -- in the order:a name -> its address -> its object -> its parts
   (case e2=> PySem.W.k_is)
   ..
  obtain ⟨t,T⟩:=T
  have e0:=hmg.symm.trans (PySem.W.mg_of KX G T.law)
  cases e0                                       -- fa is the law's own address
  exact ⟨_,fun s u=> .of_eq rfl,fun base kb nb=> My.law_fn T kb nb⟩     -- if «.of_eq rfl» comes too early:refine' ⟨_,?b,fun base kb nb=> My.law_fn T kb nb⟩; exact fun s u=> .of_eq rfl
 case S=> exact fun w H a ns hl hO hS=> ..
 case C=> exact ..
(the tactic k_is has no namespace:write k_is) -/
namespace L2
open PySem PySem.Spec PyProof.Rows
def aE (s:Stmt):Arguments:=match s with
 | .FunctionDef _ a _ _ _ _ _ _ _ _=> a
 | _=> { posonlyargs:=[],args:=[],vararg:=none,kwonlyargs:=[],kw_defaults:=[],kwarg:=none,defaults:=[] }
def aC (s:Stmt):List Stmt:=match s with
 | .FunctionDef _ _ b _ _ _ _ _ _ _=> b
 | _=> []
def aj (s:Stmt):Scope:=match s with
 | .FunctionDef _ _ _ _ _ _ sc _ _ _=> sc
 | _=> { kind:=.function,names:=[],isGenerator:=false,isCoroutine:=false }
abbrev CX0:CXT:=fun _ _ _ _ _ _=> False
abbrev E0:XK:=fun _ _ _=> False
structure Fun (K:PySem.W.Frag) (x qual:Str) (st:Stmt) (f:Addr) (fd:FuncData):Prop where
 ex:∃ (oc:Value) (od:Option Addr) (kV doc pm:Value) (an:Option Addr) (cdv ct:Value) (osl:Array (Option Value)),
  fd=PySem.W.fnOf x qual (aE st) (aC st) (aj st) .none kV doc pm an cdv ct∧K.lookup f=some ⟨oc,od,.func fd,osl⟩∧PySem.W.codeIn K cdv qual=true
 kp:PySem.W.keepIn K (.ref f)=true
section
variable {P:Program} {w:World} {K:PySem.W.Frag} {mg:Str→Option Value} {base:Heap}
theorem Fun.binds {x qual:Str} {st:Stmt} {f:Addr} {fd:FuncData} {ps:List Str} (F:Fun K x qual st f fd)
  (h:∀ (kV doc pm:Value) (an:Option Addr) (cdv ct:Value) (us:List Value),us.length=ps.length→bindArgs (PySem.W.fnOf x qual (aE st) (aC st) (aj st) .none kV doc pm an cdv ct) ⟨us,[]⟩=pure (ps.zip us)):bo K fd ps []:=by
 obtain ⟨oc,od,kV,doc,pm,an,cdv,ct,osl,rfl,lk,hcd⟩:=F.ex
 exact .all (h kV doc pm an cdv ct)
theorem bi {x qual:Str} {st:Stmt} {f:Addr} {oc:Value} {od an:Option Addr} {osl:Array (Option Value)} {kV doc pm cdv ct:Value} (l:K.lookup f=some ⟨oc,od,.func (PySem.W.fnOf x qual (aE st) (aC st) (aj st) .none kV doc pm an cdv ct),osl⟩)
  (c:PySem.W.codeIn K cdv qual=true) (k:PySem.W.keepIn K (.ref f)=true):Fun K x qual st f (PySem.W.fnOf x qual (aE st) (aC st) (aj st) .none kV doc pm an cdv ct):=⟨⟨oc,od,kV,doc,pm,an,cdv,ct,osl,rfl,l,c⟩,k⟩
end
theorem bh {n:Nat} (h:n≤1000):n < sizeLine:=Nat.lt_of_le_of_lt h (by decide)
section
variable {X:Cx}
end
theorem rQ {A B:Prop} (h:B):if false=true then A else B:=by
 rw [if_neg Bool.false_ne_true]
 exact h
theorem ri {A B:Prop} (h:A):if true=true then A else B:=by
 rw [if_pos rfl]
 exact h
def aJ (H H':Hp):Prop:=∀ b o,H b=some o→H' b=some o
theorem aJ.refl (H:Hp):aJ H H:=fun _ _ h=> h
theorem aJ.trans {H H1 H2:Hp} (a:aJ H H1) (b:aJ H1 H2):aJ H H2:=fun c o h=> b c o (a c o h)
theorem aJ.free {H H':Hp} (e:aJ H H') {l:Addr} (h:H' l=Option.none):H l=Option.none:=by
 cases q:H l with
 | none=> rfl
 | some o=>
  rw [e l o q] at h
  cases h
theorem aJ.seq {K:PySem.W.Frag} {H H':Hp} {a:Addr} {xs:List V} (e:aJ H H') (h:SqL K H a xs):SqL K H' a xs:=by
 rcases h with (h | ⟨o,h⟩) | h
 ·exact .inl (.inl (e _ _ h))
 ·exact .inl (.inr ⟨o,e _ _ h⟩)
 ·exact .inr h
end L2
namespace L2
open PySem PySem.Spec PyProof.Rows
def Sz (m:Nat) (x:Int):Prop:=x.natAbs < 2 ^ m
theorem Sz.mono {m n:Nat} {x:Int} (h:Sz m x) (hmn:m≤n):Sz n x:=Nat.lt_of_lt_of_le h (Nat.pow_le_pow_right (by decide) hmn)
theorem Sz.neg {m:Nat} {x:Int} (h:Sz m x):Sz m (-x):=by unfold Sz at *; rw [Int.natAbs_neg]; exact h
theorem Sz.add {m:Nat} {x y:Int} (hx:Sz m x) (hy:Sz m y):Sz (m+1) (x+y):=by
 unfold Sz at *
 have:=Int.natAbs_add_le x y
 rw [Nat.pow_succ]; omega
theorem Sz.sub {m:Nat} {x y:Int} (hx:Sz m x) (hy:Sz m y):Sz (m+1) (x - y):=by
 rw [Int.sub_eq_add_neg]; exact hx.add hy.neg
theorem Sz.mul {m n:Nat} {x y:Int} (hx:Sz m x) (hy:Sz n y):Sz (m+n) (x * y):=by
 unfold Sz at *
 rw [Int.natAbs_mul,Nat.pow_add]
 exact Nat.mul_lt_mul'' hx hy
theorem Sz.le {m:Nat} {x y:Int} (h:x.natAbs≤y.natAbs) (hy:Sz m y):Sz m x:=Nat.lt_of_le_of_lt h hy
theorem Sz.ediv {m:Nat} {x y:Int} (hx:Sz m x):Sz m (x / y):=Sz.le (Int.natAbs_ediv_le_natAbs x y) hx
theorem Sz.emod {m:Nat} {x y:Int} (h0:0 < y) (hy:Sz m y):Sz m (x % y):=by
 have h1:=Int.emod_nonneg x (show y≠0 by omega)
 have h2:=Int.emod_lt_of_pos x h0
 exact Sz.le (by omega) hy
instance (m:Nat) (x:Int):Decidable (Sz m x):=inferInstanceAs (Decidable (x.natAbs < 2 ^ m))
theorem Sz.add' {m n:Nat} {x y:Int} (hx:Sz m x) (hy:Sz n y):Sz (max m n+1) (x+y):=(hx.mono (Nat.le_max_left m n)).add (hy.mono (Nat.le_max_right m n))
theorem Sz.sub' {m n:Nat} {x y:Int} (hx:Sz m x) (hy:Sz n y):Sz (max m n+1) (x - y):=(hx.mono (Nat.le_max_left m n)).sub (hy.mono (Nat.le_max_right m n))
theorem Sz.lit {m:Nat} {x:Int} (h:Sz m x):Sz m x:=h
theorem Sz.ok {m n:Nat} {x y:Int} (hx:Sz m x) (hy:Sz n y) (h:m+n≤134217728):IntMulOk x y:=
 PyProof.Rows.mulOk_of_bits (intBits_le_iff.mpr hx) (intBits_le_iff.mpr hy) h
theorem Sz.log {m:Nat} {x:Int} (h:Sz m x) (hm:m≤9000) (h0:x≠0):x.natAbs.log2 < 9000:=by
 have q:=(Nat.log2_lt (by omega)).mpr (show x.natAbs < 2 ^ m from h)
 omega
def v5 (_ j:Int):Prop:=0 < j∧Sz 9000 j
section
variable {X:Cx} {a b c:Expr} {ta tb tc:TE} {pos:Pos}
theorem uj:OpR X (binaryOp .Mult) (rI IntMulOk fun i j=> .int (i * j)):=opI fun _ _ _ _ _ _ _ hc q=> mul_int q hc
theorem rD:OpR X (binaryOp .FloorDiv) (rI v5 fun i j=> .int (i / j)):=opI fun i j _ _ _ _ _ hc q=> by
 have h1:(0:Int) < j:=hc.1
 exact floordiv_int (by omega) (by rw [Int.fdiv_eq_ediv_of_nonneg i (by omega)]; exact q) (.inl (PyProof.noPylong_of_log2 (hc.2.log (by decide) (by omega))))
theorem ym {x:Str} {n:String} {pos:Pos} (hg:Gl X x) (hm:X.mg x=none) (hv:bootBuiltins x=some (.type n)) (hn:x≠"__name__":=by decide) (hd:(x==("__debug__":Str))=false:=by decide):PE X (.Name x pos) (tC (.ty n)):=
 vj hg hm hv rfl hn hd
end
section
variable {X:Cx}
end
theorem kit_int_int (K:PySem.W.Frag):PySem.W.kitOne K (.type "int") (.type "int")=some true:=rfl
theorem kit_int_bool (K:PySem.W.Frag):PySem.W.kitOne K (.type "int") (.type "bool")=some false:=rfl
section
variable {X:Cx} {tg:Expr}
end
theorem aU {H:Hp} {p:Addr} (h:H p=none) (o:HO):aJ H (upd H p o):=fun b u q=> by rw [aY (cO q h)]; exact q
theorem aJ.put {H H':Hp} {l:Addr} (e:aJ H H') (h:H l=none) (o:HO):aJ H (upd H' l o):=fun b u q=> by rw [aY (cO q h)]; exact e b u q
theorem aJ.tup {K:PySem.W.Frag} {H H':Hp} {a:Addr} {xs:List V} (e:aJ H H') (h:SqT K H a xs):SqT K H' a xs:=by
 rcases h with (h | ⟨o,h⟩) | h
 ·exact .inl (.inl (e _ _ h))
 ·exact .inl (.inr ⟨o,e _ _ h⟩)
 ·exact .inr h
end L2
namespace L2
open PySem PySem.W PySem.Calls PySem.Spec PyProof.Rows
theorem mt {ns:List Int} (h:WData.layableAll [WData.list (ns.map WData.int)]=true):∀ n∈ns,Sz 1048576 n:=by
 intro n hn
 have h1:=(PySem.W.layableW_arg h) _ (List.mem_singleton.mpr rfl)
 have h2:=PySem.W.layableW_item h1 (WData.int n) (List.mem_map.mpr ⟨n,hn,rfl⟩)
 have h3:=(PySem.W.layableW_iff.mp h2).2.2
 have h4:Builtin.Int.intBits n≤1048576:=by simpa only [WData.weight,Builtin.Int.intBits] using h3
 exact intBits_le_iff.mp h4
theorem lz {l:PySem.W.OpenLaw} {n:Nat} {q:Program} {loose:List Str} {XP:(Str→Option Value)→Heap→Prop} {YP:World→Heap→Prop} {d:DefRec}
  (hn:l.most=some n) (hdf:d.params.defaults=[])
  (call:∀ (w:World) (s₀ s₁:Shared) (mg mb:Str→Option Value) (fa:Addr) (o:Obj) (pm cd doc:Value) (a:Addr) (vs:List Value) (ns:List Int),
   PySem.W.Ground q loose [] XP w s₀ mg mb s₁.heap→YP w s₁.heap→
   s₁.heap.get? fa=some o→o.data=.func (docDef d.name d.params d.body d.scope pm cd doc)→s₁.heap.CodeRec cd d.name→mg d.name=some (.ref fa)→
   s₁.heap.get? a=some { cls:=.type "list",data:=.seq vs.toArray }→IntsAre vs ns→ns.length≤n→(∀ m∈ns,Sz 1048576 m)→s₁.gens=#[]→
   codeAny (model l.prog w) callerA (.call (.ref fa) ⟨[.ref a],[]⟩) (fun r s'=> r=.ok (.ret (.bool true))∧OldK s₁.heap s'.heap∧s'.os=s₁.os∧AllBare s'.gens) s₁):
  PySem.W.WalkO q loose XP YP l.row.toRowW d [] (fun f vs=> PySem.call f vs):=by
 intro w s₀ s₁ mg mb G Y fa o pm cd doc dV kV ho hd hcd hD hmg hg args vals as hpre hlay hrd hwl hlo
 obtain rfl:dV=.none:=PySem.W.Dflts.none hD hdf
 obtain rfl:kV=.none:=PySem.W.Dflts.noKw hD
 obtain ⟨a,vs,ns,rfl,rfl,hobj,hints,hlen⟩:=Att.script_of hn hpre hwl
 refine PySem.W.enter_call (codeAny_mono (call w s₀ s₁ mg mb fa o pm cd doc a vs ns G Y ho (PySem.W.fd_plain hd) hcd hmg hobj hints hlen (mt hlay) hg) fun r s' hq=> ?_)
 obtain ⟨rfl,h2,h3,h4⟩:=hq
 exact ⟨.inl ⟨.bool true,.bool true,[],rfl,fun _=> rfl,.bool true,Att.post_true l _,fun _=> ⟨List.Pairwise.nil,fun _ hm=> (nomatch hm)⟩⟩,h2,h3,h4⟩
theorem walk_ofB {l:PySem.W.OpenLaw} {n k:Nat} {q:Program} {loose:List Str} {XP:(Str→Option Value)→Heap→Prop} {YP:World→Heap→Prop} {d:DefRec} {K:Params→PySem.W.Frag} {CX:CXT} {sp:PySem.W.Frag→Sp} {x:Str}
  (hn:l.most=some n) (hn2:n≤sizeLine) (hdf:d.params.defaults=[]) (hr:eW k callerA)
  (hY:∀ (w:World) (h:Heap),YP w h→(K w.params).In h)
  (F:∀ (w:World) (mg:Str→Option Value) (fa:Addr) (h:Heap),(K w.params).In h→h.Ns mainGlobals mg→mg d.name=some (.ref fa)→
   ∃ fd:FuncData,(∀ (s:Shared) (u:Value),BindsTo s fd ⟨[u],[]⟩ [(x,u)])∧
    ∀ base:Heap,(K w.params).In base→base.Ns mainGlobals mg→bE l.prog w (K w.params) mg base CX k fa fd [x] (sp (K w.params)))
  (hsp:∀ (K:PySem.W.Frag) (H:Hp) (a:Addr) (ns:List Int),ns.length≤n→(∀ m∈ns,Sz 1048576 m)→ve H→SqL K H a (ns.map V.int)→sp K [.ref a] H (fun v _=> v=.bl true) fun _ _ _=> False)
  (hCX:∀ (H:Hp) (s:Shared) (e:Value) (s':Shared),CX [] H s (fun _ _ _=> False) e s'→False):
  PySem.W.WalkO q loose XP YP l.row.toRowW d [] (fun f vs=> PySem.call f vs):=by
 refine lz hn hdf fun w s₀ s₁ mg mb fa o pm cd doc a vs ns G Y ho hd hcd hmg hobj hints hlen hbits hg=> ?_
 have KX:=hY w _ Y
 obtain ⟨fd,hb,hF⟩:=F w mg fa _ KX G.T.g hmg
 exact t6 KX G.T.g G.T.b G.T.builtins G.T.nolimit hg hobj hints (Nat.le_trans hlen hn2) hr hF hb (fun H hO hS=> hsp _ H a ns hlen hbits hO hS) fun H e s'=> hCX H s₁ e s'
end L2
namespace L2
theorem lu {α:Type} {xs:List α} {k:Int} {i:Nat} {v:α} (e:k=(i:Int)) (h:xs[i]?=some v):atI xs k=some v:=by subst e; exact pG h
end L2
namespace L2
end L2
namespace L2
open PySem PySem.Spec PyProof.Rows
abbrev bq (X:Cx) (scope:Scope) (cl:List (Str×Addr)) (C:Addr) (s:Shared) (H:Hp) (fp:List Addr):Cx:=
 { X with s₀:=s,H₀:=H,env:=compEnvC scope cl C X.env,outer:=X.stack,ex:=fp,fn:=fun _=> false,pn:=[],xe:=fun _ _=> False }
def mask:List Nat→St→St
 | [],σ=> σ
 | i::is,σ=> mask is (σ.set i none)
theorem iY:∀ (is:List Nat) (σ:St),(mask is σ).length=σ.length
 | [],_=> rfl
 | i::is,σ=> by rw [mask,iY is]; simp
theorem i8:∀ (is:List Nat) (σ:St) (j:Nat) (v:V),(mask is σ)[j]?=some (some v)→σ[j]?=some (some v)∧j ∉ is
 | [],σ,j,v,h=> ⟨h,by simp⟩
 | i::is,σ,j,v,h=> by
  obtain ⟨h1,h2⟩:=i8 is _ j v h
  by_cases e:i=j
  ·subst e
   rw [List.getElem?_set] at h1
   simp at h1
  ·rw [List.getElem?_set_ne e] at h1
   exact ⟨h1,by simp [Ne.symm e,h2]⟩
structure fk (X:Cx) (scope:Scope) (cl:List (Str×Addr)) (is:List Nat):Prop where
 clos:closureFor scope X.env=pure cl
 cell:∀ y∈scope.names,y.2≠.cell
 kind:scope.kind=.function
 names:∀ y∈scope.names,y.2=.local→scope.names.lookup y.1=some .local
 cls:∀ x c,cl.lookup x=some c→X.env.cells.lookup x=some c
 free:∀ x,((relabel scope X.env).names.lookup x=some .cell∨(relabel scope X.env).names.lookup x=some .free)→Vis X.env.scope x∧X.env.scope.names.lookup x≠some .local∧∃ c,cl.lookup x=some c
 own:∀ i x,X.N[i]?=some x→(relabel scope X.env).names.lookup x=some .local→i∈is
def sM (J:It) (is:List Nat) (g:TG) (te:TE) (σ:St) (H1:Hp) (l:Addr) (Q:VK):Prop:=
 ∃ W:Nat→Nat→Hp→Prop,(∃ m,W 0 m (upd H1 l (.lst [])))∧∀ i m H2,W i m H2→
  (J.stop i H2∧Q (.ref l) H2)∨(J.go i H2∧∀ x H3,J.yld i H2 x H3→g x (mask is σ) H3 fun σ4 H4=> te σ4 H4 fun y H5=>
   (∀ (j:Nat) (v:V),(mask is σ)[j]?=some (some v)→σ4[j]?=some (some v))∧∃ vs,H5 l=some (.lst vs)∧vs.length < sizeLine∧∃ m',m' < m∧W (i+1) m' (upd H5 l (.lst (vs++[y]))))
def v3 (is:List Nat) (g:TG) (te:TE) (σ:St) (Q:VK) (J:It) (H1:Hp):Prop:=∀ l,H1 l=none→sM J is g te σ H1 l Q
def s_ (is:List Nat) (wi:TI) (g:TG) (te:TE):TE:=fun σ H Q=> wi σ H (v3 is g te σ Q)
section
variable {X:Cx} {pins:List (Addr×Obj)} {σ:St} {H:Hp} {s:Shared}
theorem lR {scope:Scope} {cl:List (Str×Addr)} {is:List Nat} {fp:List Addr} {h₁:Heap} {m:Str→Option Value} {t':Nat} (I:Inv X pins σ H s) (B:fk X scope cl is) (hf:∀ b∈fp,lj X pins H b) (hfl:∀ b∈fp,b < s.heap.objs.size)
  (hn:h₁.Ns s.heap.objs.size m) (hk:∀ b o,s.heap.get? b=some o→h₁.get? b=some o):
  Inv (bq X scope cl s.heap.objs.size s H fp) [] (mask is σ) H { s with heap:=h₁,toks:=t' }:=by
 refine ⟨⟨I.ok.mod,B.kind,I.ok.glob,I.ok.blt,Nat.le_refl _,fun x y c h1 h2=> I.ok.inj x y c (B.cls x c h1) (B.cls y c h2),fun x hx=> (B.free x hx).2.2,fun x c h=> (by cases h),I.ok.hd,I.ok.frames,.inl rfl,fun b hb=> ⟨Nat.ne_of_lt (hfl b hb),fun x c e=> (hf b hb).2.2.2.2.1 x c (B.cls x c e)⟩,
  I.bs,Nat.le_trans I.ok.bsz I.sz,fun b o e hb=> ?_,fun b hb z=> ?_,I.stack,I.stkFree⟩,rfl,I.bare,Un.kept hk,⟨m,hn,fun i x v h1 h2 h3=> ?_⟩,fun x c e=> ?_,I.hok.fresh (Nat.le_refl _),fun x c e=> I.freeC x c (B.cls x c e),fun p hp=> absurd (show p∈([]:List (Addr×Obj)) from hp) (by simp),I.hok.kept hk,?_⟩
 ·rcases (hf b hb).2.2.2.1 with z | z
  ·exact I.ok.noex b o e z
  ·exact absurd (Nat.lt_of_lt_of_le (Heap.lt_size e) (Nat.le_trans I.ok.bsz z)) (Nat.lt_irrefl _)
 ·rcases List.mem_cons.mp (I.stkSub b z) with e | e
  ·exact (hf b hb).2.1 e
  ·exact (hf b hb).2.2.1 e
 ·obtain ⟨e2,ni⟩:=i8 is σ i v h2
  have h3':(relabel scope X.env).names.lookup x=some .local∨(relabel scope X.env).names.lookup x=some .cell∨(relabel scope X.env).names.lookup x=some .free:=h3
  rcases h3' with z | z
  ·exact absurd (B.own i x h1 z) ni
  ·obtain ⟨hv,hnl,c,hc⟩:=B.free x z
   obtain ⟨m0,_,hl⟩:=I.loc
   obtain ⟨u,r,l⟩:=hl i x v h1 e2 hv
   refine ⟨u,r,.inr ⟨z,c,hc,?_⟩⟩
   rcases l with ⟨k,_⟩ | ⟨_,c',hc',o,ho,hd⟩
   ·exact absurd k hnl
   ·have ec:=B.cls x c hc
    rw [hc'] at ec
    cases ec
    exact ⟨o,hk _ _ ho,hd⟩
 ·obtain ⟨v,o,ho,hd⟩:=I.cell x c (B.cls x c e)
  exact ⟨v,o,hk _ _ ho,hd⟩
 ·show (mask is σ).length=X.N.length
  rw [iY]; exact I.len
theorem lM {elt iter tg:Expr} {scope:Scope} {cl:List (Str×Addr)} {pos pos0:Pos} {is:List Nat} {wi:TI} {g:TG} {te:TE} {use:Option (Value→Sem Unit)} {Q0:VK} {Q:Value→Shared→Prop} (hc:X.calm=true) (B:fk X scope cl is)
  (hi:PI X tg iter wi) (hg:∀ C s H fp,PG (bq X scope cl C s H fp) tg g) (he:∀ C s H fp,PE (bq X scope cl C s H fp) elt te) (hs:∀ x,foldedSetIterable iter X.env x=pure x)
  (I:Inv X pins σ H s) (h:s_ is wi g te σ H Q0)
  (fin:∀ (l C:Addr) (H':Hp) (s':Shared) (m:Str→Option Value),Inv X pins σ H' s'→s'.heap.Ns C m→H' C=none→C≠X.env.locals→C ∉ X.fs→X.s₀.heap.objs.size≤C→(∀ x c,X.env.cells.lookup x=some c→c≠C)→(∀ p∈X.pn++pins,p.1≠C)→Q0 (.ref l) H'→
   compPost (model X.prog X.w) X.A X.xe use Q (.ref l) C (.ok .next) s'):
  wpAny (model X.prog X.w) X.A (comprehension (.ListComp elt [⟨tg,iter,[],0⟩] scope pos) scope X.env pos0 (newList []) false (eval iter X.env) use) Q X.xe s:=by
 refine wpAny_comprehension_free rfl hs B.clos B.kind B.names (thn (hi pins s σ H _ I h) fun xv s1 h1=> thn h1 fun itv s2 h2=> ?_)
 obtain ⟨it,fp,tn,J,H2,e,I2,T,st2,f2,R⟩:=h2
 subst e
 refine wpAny_newObj_type (wpAny_newFunctionEnv B.cell (by intro y hy; simp at hy) (fun h₁ hns hsb=> ?_) B.kind)
 have hl:H2 s2.heap.objs.size=none:=I2.hok.fresh (Nat.le_refl _)
 obtain ⟨W,⟨m0,w0⟩,turn⟩:=R s2.heap.objs.size hl
 have I3:Inv X pins σ (upd H2 s2.heap.objs.size (.lst [])) { s2 with heap:=s2.heap.push { cls:=.type "list",dict:=none,data:=.seq ([]:List Value).toArray } }:=
  I2.laid (t':=s2.toks) (o:=.lst []) (fun b u e=> Heap.get?_push_of_some _ e) (Nat.le_refl _) ⟨Nat.zero_le _,[],0,.nil,Heap.get?_push_size _ rfl⟩
 have hfl:∀ b∈fp,b < s2.heap.objs.size:=fun b hb=> let ⟨o,e,_⟩:=T.obj 0 _ st2 b hb; Heap.lt_size e
 have f3:∀ b∈fp,lj X pins (upd H2 s2.heap.objs.size (.lst [])) b:=fun b hb=> ⟨by rw [aY (Nat.ne_of_lt (hfl b hb))]; exact (f2 b hb).1,(f2 b hb).2⟩
 have kp:∀ b o,(s2.heap.push { cls:=.type "list",dict:=none,data:=.seq ([]:List Value).toArray }).get? b=some o→h₁.get? b=some o:=fun b o e=>
  hsb.extBut b o (Nat.ne_of_lt (Heap.lt_size e)) (Heap.get?_push_of_some _ e)
 have st4:tn 0 h₁:=T.keep 0 _ _ st2 fun b _ o e=> kp b o (Heap.get?_push_of_some _ e)
 have hfl3:∀ b∈fp,b < (s2.heap.push { cls:=.type "list",dict:=none,data:=.seq ([]:List Value).toArray }).objs.size:=fun b hb=> by
  rw [Heap.size_push]; exact Nat.lt_succ_of_lt (hfl b hb)
 have I4:=lR (t':=s2.toks+([]:List (Str×Value)).length) I3 B f3 hfl3 hns kp
 have loop:codeAny (model X.prog X.w) X.A (.compLoop (.ListComp elt [⟨tg,iter,[],0⟩] scope pos) 0 (.ref it) (.ref s2.heap.objs.size) (compEnvC scope cl (s2.heap.push { cls:=.type "list",dict:=none,data:=.seq ([]:List Value).toArray }).objs.size X.env))
   (compPost (model X.prog X.w) X.A X.xe use Q (.ref s2.heap.objs.size) (s2.heap.push { cls:=.type "list",dict:=none,data:=.seq ([]:List Value).toArray }).objs.size)
   { s2 with heap:=h₁,toks:=s2.toks+([]:List (Str×Value)).length }:=by
  generalize hs3:({ s2 with heap:=s2.heap.push { cls:=.type "list",dict:=none,data:=.seq ([]:List Value).toArray } }:Shared)=s3 at *
  have hC:(s2.heap.push { cls:=.type "list",dict:=none,data:=.seq ([]:List Value).toArray }).objs.size=s3.heap.objs.size:=by rw [← hs3]
  rw [hC]
  have hstat:∀ {H':Hp},(∀ b∈fp,H' b=none)→∀ b∈fp,lj (bq X scope cl s3.heap.objs.size s3 (upd H2 s2.heap.objs.size (.lst [])) fp) [] H' b:=fun hn b hb=>
   ⟨hn b hb,(I4.ok.exf b hb).1,I4.ok.exfs b hb,.inl hb,fun x c e=> (I4.ok.exf b hb).2 x c e,fun p hp=> absurd (show p∈([]:List (Addr×Obj)) from hp) (by simp)⟩
  have back:∀ {σ':St} {H':Hp} {pp:List (Addr×Obj)} {s':Shared},Inv (bq X scope cl s3.heap.objs.size s3 (upd H2 s2.heap.objs.size (.lst [])) fp) pp σ' H' s'→Inv X pins σ H' s':=fun I'=>
   I3.call' (ch:=fp) I'.os I'.base I'.hok I'.bare fun b hb=> ⟨(f3 b hb).2.2.2.1,(f3 b hb).2.1,(f3 b hb).2.2.2.2.1,(f3 b hb).2.2.2.2.2⟩
  refine codeAny_loop rfl (fun n s'=> ∃ i H',Inv (bq X scope cl s3.heap.objs.size s3 (upd H2 s2.heap.objs.size (.lst [])) fp) [] (mask is σ) H' s'∧tn i s'.heap∧(∀ b∈fp,H' b=none)∧W i n H') ?_ m0 ⟨0,_,(by subst hs3; exact I4),st4,fun b hb=> (f3 b hb).1,w0⟩
  rintro n s5 ⟨i,H5,I5,st5,fr5,w5⟩
  show wpAny _ _ ((compTurn (.ListComp elt [⟨tg,iter,[],0⟩] scope pos) 0 (.ref it) (.ref s2.heap.objs.size) (compEnvC scope cl s3.heap.objs.size X.env)).onRaise (fun x=> do noteFrame x (compEnvC scope cl s3.heap.objs.size X.env); theTreesLotGoes x)) _ _ s5
  refine wpAny_noted ?_
  rw [compTurn_list1]
  refine wpAny_bind (wpAny_standAt (wpAny_bind ?_))
  rcases turn i n H5 w5 with ⟨stop,q⟩ | ⟨go,step⟩
  ·refine thn (T.done (bq X scope cl s3.heap.objs.size s3 (upd H2 s2.heap.objs.size (.lst [])) fp) rfl rfl rfl hc i [] s5 _ H5 _ I5 (hstat fr5) st5 stop) fun r s6 ⟨hr,I6⟩=> ?_
   subst hr
   refine wpAny_pure ?_
   obtain ⟨m6,hn6,_⟩:=I6.loc
   have hCn:∀ b,b < s3.heap.objs.size→b≠s3.heap.objs.size:=fun b hb=> Nat.ne_of_lt hb
   refine fin _ s3.heap.objs.size H5 s6 m6 (back I6) hn6 I6.free (Nat.ne_of_gt I3.lt) (I3.nofs (Nat.le_refl _)) I3.sz (fun x c e=> ?_) (fun p hp=> ?_) q
   ·obtain ⟨v,z⟩:=I3.cell x c e
    exact Nat.ne_of_lt z.lt
   ·exact Nat.ne_of_lt (Heap.lt_size (I3.pin p hp).1)
  ·refine thn (T.item (bq X scope cl s3.heap.objs.size s3 (upd H2 s2.heap.objs.size (.lst [])) fp) rfl rfl rfl hc i [] s5 _ H5 _ I5 (hstat fr5) st5 go) fun r s6 ⟨u,hr,h6⟩=> ?_
   subst hr
   refine wpAny_bind (thn h6 fun _ s7 ⟨x,H7,I7,r7,y7,st7,fr7⟩=> ?_)
   have I7':=I7.pinned (hstat fr7) (T.obj _ _ st7)
   refine wpAny_bind (wpAny_mono (hg _ _ _ _ _ s7 (mask is σ) H7 x u _ I7' r7 (step x H7 y7)) (fun _ s8 ⟨σ8,H8,I8,q8⟩=> ?_) fun _ _ z=> z.elim)
   refine wpAny_bind (wpAny_bind (wpAny_mono (he _ _ _ _ _ s8 σ8 H8 _ I8 q8) (fun v s9 ⟨y,H9,I9,r9,sub,vs,hl9,hz,m',hm,w'⟩=> ?_) fun _ _ z=> z.elim))
   refine wpAny_bind (wpAny_mono (h_ (X:=bq X scope cl s3.heap.objs.size s3 (upd H2 s2.heap.objs.size (.lst [])) fp) _ s9 σ8 H9 (.ref s2.heap.objs.size) [y] (.ref s2.heap.objs.size) [v] (fun _ H'=> H'=upd H9 s2.heap.objs.size (.lst (vs++[y]))) I9 rfl (.cons r9 .nil) ⟨_,vs,y,rfl,rfl,hl9,hz,rfl⟩) (fun z s10 ⟨zv,H10,I10,_,e10⟩=> ?_) fun _ _ z=> z.elim)
   subst e10
   refine wpAny_pure (wpAny_pure ⟨rfl,m',hm,i+1,_,(I10.unpinned (pins:=[])).weak (by rw [I10.len,iY,I.len]) sub,T.keep _ _ _ st7 fun b hb o e=> (I10.pin (b,o) (List.mem_append_right _ (List.mem_append_right _ (fh hb e)))).1,fun b hb=> ?_,w'⟩)
   obtain ⟨o,e,d⟩:=T.obj _ _ st7 b hb
   exact (I10.pin (b,o) (List.mem_append_right _ (List.mem_append_right _ (fh hb e)))).2.1
 exact codeAny_compStart_list loop (T.self X.A 0 _ _ _ st4 loop)
theorem vd {elt iter tg:Expr} {scope:Scope} {cl:List (Str×Addr)} {pos:Pos} {is:List Nat} {wi:TI} {g:TG} {te:TE} (hc:X.calm=true) (B:fk X scope cl is)
  (hi:PI X tg iter wi) (hg:∀ C s H fp,PG (bq X scope cl C s H fp) tg g) (he:∀ C s H fp,PE (bq X scope cl C s H fp) elt te) (hs:∀ x,foldedSetIterable iter X.env x=pure x:=by intro _; rfl):
  PE X (.ListComp elt [⟨tg,iter,[],0⟩] scope pos) (s_ is wi g te):=by
 intro pins s σ H Q I h
 rw [eval_ListComp]
 refine lM (use:=none) hc B hi hg he hs I h fun l C H' s' m I' hn h1 h2 h3 h4 h5 h6 q=> ⟨m,hn,fun h' hsb=> ?_⟩
 exact ⟨.ref l,H',I'.turned (t':=s'.toks) (fun b o hb e=> hsb.extBut b o hb e) h1 (Ne.symm h2.symm) (.inr h4) h5 h6,rfl,q⟩
end
end L2
namespace L2
open PySem PySem.Spec PyProof.Rows
section
variable {X:Cx}
theorem oA {elt iter tg:Expr} {scope:Scope} {cl:List (Str×Addr)} {pos spos py:Pos} {y:Str} {j:Nat} {is:List Nat} {wi:TI} {g:TG} {te:TE} (hc:X.calm=true) (hN:X.N.Nodup) (hj:X.N[j]?=some y) (hy:Loc X.env.scope y) (B:fk X scope cl is)
  (hi:PI X tg iter wi) (hg:∀ C s H fp,PG (bq X scope cl C s H fp) tg g) (he:∀ C s H fp,PE (bq X scope cl C s H fp) elt te) (hs:∀ x,foldedSetIterable iter X.env x=pure x:=by intro _; rfl)
  (hsw:swapsWith (.ListComp elt [⟨tg,iter,[],0⟩] scope pos) (some (.Name y py)) spos.line X.env=pure true:=by rfl) (hf:X.fn y=true∨X.env.scope.names.lookup y=some .local:=by first | exact .inl rfl | exact .inr rfl | assumption):
  PS X (.Assign [.Name y py] (.ListComp elt [⟨tg,iter,[],0⟩] scope pos) spos) (wy (s_ is wi g te) (m9 j)):=by
 intro pins s σ H D I h
 rw [exec_Assign_Name_used _ _ _ _ hsw]
 refine wpAny_bind (wpAny_standAt (wpAny_bind ?_))
 show wpAny _ X.A (do let _ ← comprehension (.ListComp elt [⟨tg,iter,[],0⟩] scope pos) scope X.env _ (newList []) false (eval iter X.env) (some (assign (.Name y py) X.env))) _ _ s
 refine wpAny_bind (wpAny_mono (lM (Q0:=fun v H'=> D.nx (σ.set j (some v)) H') (use:=some (assign (.Name y py) X.env)) (Q:=fun _ s'=> SP X pins D .next s') hc B hi hg he hs I h fun l C H' s' m I' hn h1 h2 h3 h4 h5 h6 q=> ?_) (fun _ s' hq=> wpAny_pure (wpAny_pure hq)) fun _ _ e=> e)
 show wpAny _ X.A (assign (.Name y py) X.env (.ref l)) _ _ _
 refine wpAny_assign_Name (j0 I' hN hj hy (v:=.ref l) rfl (fun s2 I2 ⟨a,hsb,ha⟩=> ?_) hf)
 have hCa:C≠a:=by
  rcases ha with e | e
  ·rw [e]; exact h2
  ·exact Ne.symm (h5 _ _ e)
 refine ⟨m,hn.sameBut hsb hCa,fun h' hsb'=> ⟨_,H',I2.turned (t':=s2.toks) (fun b o hb e=> hsb'.extBut b o hb e) h1 h2 (.inr h4) h5 h6,q⟩⟩
end
section
variable {prog:Program} {w:World} {A:Around} {E:Value→Shared→Prop}
theorem jW {it t:Addr} {items:Array Value} (hne:t≠it):∀ (n i:Nat) (s:Shared) (Q:List Value→Shared→Prop),s.heap.IsListIter it t i→s.heap.IsList t items→i+n≤items.size→
  (∀ h',h'.IsListIter it t (i+n)→Heap.SameBut it s.heap h'→Q ((items.toList.drop i).take n) { s with heap:=h' })→wpAny (model prog w) A (draw (.ref it) n) Q E s
 | 0,i,s,Q,hit,_,_,hQ=> by
  show wpAny _ _ (pure []) Q E s
  exact wpAny_pure (by simpa using hQ s.heap hit (Heap.SameBut.refl ..))
 | n+1,i,s,Q,hit,ht,hle,hQ=> by
  have hlt:i < items.size:=by omega
  show wpAny _ _ (pyNext (.ref it) >>=_) Q E s
  refine wpAny_bind (wpAny_pyNext_list_item hit ht (x:=items[i]) (by simp [hlt]) fun h₁ hit₁ hs₁=> ?_)
  refine wpAny_bind (wpAny_holding (jW hne n (i+1) _ _ hit₁ (ht.extBut hs₁.extBut hne) (by omega) fun h₂ hit₂ hs₂=> wpAny_pure ?_))
  have hd:items.toList.drop i=items[i]::items.toList.drop (i+1):=by simp [List.drop_eq_getElem_cons,hlt]
  have:=hQ h₂ (by rw [show i+(n+1)=i+1+n by omega]; exact hit₂) (hs₁.trans hs₂)
  rw [hd,List.take_succ_cons] at this
  exact this
theorem hG {s:Shared} {t:Addr} {items:Array Value} {Q:List Value→Shared→Prop} (hh:A.handled=none) (ht:s.heap.IsList t items)
  (hQ:∀ h',Heap.ExtBut s.heap.objs.size s.heap h'→Q items.toList { s with heap:=h' }):wpAny (model prog w) A (unpackItems (.ref t) items.size none) Q E s:=by
 have hlt:t≠s.heap.objs.size:=by obtain ⟨o,ho,_⟩:=ht; exact Nat.ne_of_lt (Heap.lt_size ho)
 unfold unpackItems
 refine wpAny_bind ?_
 ·unfold notIterableAtAll
  refine wpAny_bind (wpAny_specialOf ht.typeIs PySem.slot_list_iter.lookup ?_)
  refine wpAny_pure ?_
  simp only [Bool.false_eq_true,if_false]
  refine wpAny_bind (wpAny_holding (wpAny_pyIter_list ht ?_))
  refine wpAny_bind (wpAny_holding (jW hlt items.size 0 _ _ ⟨_,Heap.get?_push_size _ rfl,rfl,rfl⟩ (ht.push _) (by omega) fun h₁ hit₁ hs₁=> ?_))
  have hall:List.take items.size (List.drop 0 items.toList)=items.toList:=by
   rw [List.drop_zero]; exact List.take_of_length_le (by simp)
  rw [hall]
  rw [if_neg (by simp)]
  have ht₁:h₁.IsList t items:=(ht.push _).extBut hs₁.extBut hlt
  refine wpAny_bind (wpAny_holding (wpAny_pyNext_list_end hh hit₁ ht₁ (by simp) fun h₂ he₂=> ?_))
  simp only [Option.isSome_none,Bool.false_eq_true,if_false]
  refine wpAny_pure (hQ h₂ fun b o hb e=> he₂ b o hb (hs₁.extBut b o hb (Heap.get?_push_of_some _ e)))
end
section
variable {X:Cx} {pos:Pos}
def zj (K:PySem.W.Frag) (n:Nat) (t:TGs):TG:=fun v σ H Q=> ∃ a xs,v=.ref a∧SqL K H a xs∧xs.length=n∧t xs σ H Q
theorem wQ {es:List Expr} {k:Nat} {t:TGs} {n:Nat} (hc:X.calm=true) (h:PGs X es t)
  (hn:(assignEach es X.env).length=n:=by rfl) (hst:(assignEach es X.env).findIdx? (·.1)=none:=by rfl):PG X (.Tuple es k pos) (zj X.K n t):=by
 intro pins s σ H v u Q I r hw
 obtain ⟨a,xs,e1,hq,hl,hw⟩:=hw
 subst e1
 cases r
 obtain ⟨its,rv,ht,hz⟩:=I.list hq
 rw [assign_Tuple]
 refine wpAny_bind (wpAny_standAt ?_)
 unfold unpack
 rw [hst,hn,← hl,rv.length,← List.size_toArray]
 refine wpAny_bind (wpAny_holding (hG (I.ok.hd hc) ht.isList fun h' hx=> ?_))
 have I1:Inv X pins σ H { s with heap:=h' }:=I.kept (t':=s.toks) fun b o e=> hx b o (Nat.ne_of_lt (Heap.lt_size e)) e
 exact h pins _ σ H xs _ Q I1 (by simpa using rv) hw
end
end L2
namespace L2
open PySem PySem.Spec PyProof.Rows
def goC (cells:List (Str×Addr)):List (Str×NameKind)→List (Str×Addr)→List (Str×Addr)
 | [],acc=> acc
 | (n,k)::r,acc=> goC cells r (if (k==.free)=true then (n,(cells.lookup n).getD 0)::acc else acc)
theorem oh {env:Env} {scope:Scope} (h:∀ y∈scope.names,y.2=.free→(env.cells.lookup y.1).isSome=true):closureFor scope env=pure (goC env.cells scope.names []):=by
 have all:∀ (names:List (Str×NameKind)) (acc:List (Str×Addr)),(∀ y∈names,y.2=.free→(env.cells.lookup y.1).isSome=true)→
   (forIn names acc (fun x cs=> match x with | (name,kind)=> if (kind==.free)=true then (do let c ← cellOf env name; pure (ForInStep.yield ((name,c)::cs))) else pure (ForInStep.yield cs)):Sem (List (Str×Addr)))=pure (goC env.cells names acc):=by
  intro names
  induction names with
  | nil=> intro acc _; rfl
  | cons y r ih=>
   intro acc hy
   obtain ⟨n,k⟩:=y
   rw [List.forIn_cons]
   by_cases hk:k=.free
   ·subst hk
    have:=hy (n,.free) List.mem_cons_self rfl
    obtain ⟨c,hc⟩:=Option.isSome_iff_exists.mp this
    have e:cellOf env n=pure c:=by unfold cellOf; rw [hc]
    simp only [beq_self_eq_true,if_true,e,pure_bind]
    rw [ih _ fun y hy'=> hy y (List.mem_cons_of_mem _ hy')]
    simp only [goC,beq_self_eq_true,if_true,hc,Option.getD_some]
   ·have hb:(k==NameKind.free)=false:=by simpa using hk
    simp only [hb,Bool.false_eq_true,if_false,pure_bind]
    rw [ih _ fun y hy'=> hy y (List.mem_cons_of_mem _ hy')]
    simp only [goC,hb,Bool.false_eq_true,if_false]
 simp only [closureFor]
 have:=all scope.names [] h
 simpa using this
theorem pE {cells:List (Str×Addr)}:∀ (names:List (Str×NameKind)) (acc:List (Str×Addr)),(∀ y∈names,y.2=.free→(cells.lookup y.1).isSome=true)→(∀ x c,acc.lookup x=some c→cells.lookup x=some c)→
  ∀ x c,(goC cells names acc).lookup x=some c→cells.lookup x=some c
 | [],_,_,ha,x,c,h=> ha x c h
 | (n,k)::r,acc,hy,ha,x,c,h=> by
  rw [goC] at h
  refine pE r _ (fun y hy'=> hy y (List.mem_cons_of_mem _ hy')) (fun x' c' e=> ?_) x c h
  by_cases hk:k=.free
  ·subst hk
   simp only [beq_self_eq_true,if_true] at e
   rw [List.lookup_cons] at e
   by_cases hx:(x'==n)=true
   ·rw [hx] at e
    have hx':x'=n:=by simpa using hx
    obtain ⟨c2,hc2⟩:=Option.isSome_iff_exists.mp (hy (n,.free) List.mem_cons_self rfl)
    simp only [hc2,Option.getD_some] at e
    rw [hx',hc2]; exact e
   ·have:(x'==n)=false:=by simpa using hx
    rw [this] at e
    exact ha x' c' e
  ·have hb:(k==NameKind.free)=false:=by simpa using hk
   rw [hb] at e
   exact ha x' c' e
theorem qa {cells:List (Str×Addr)} {x:Str}:∀ (names:List (Str×NameKind)) (acc:List (Str×Addr)),((x,NameKind.free)∈names∨∃ c,acc.lookup x=some c)→∃ c,(goC cells names acc).lookup x=some c
 | [],_,h=> by
  rcases h with h | h
  ·cases h
  ·exact h
 | (n,k)::r,acc,h=> by
  rw [goC]
  refine qa r _ ?_
  rcases h with h | ⟨c,h⟩
  ·rcases List.mem_cons.mp h with e | h
   ·cases e
    right
    simp
   ·exact .inl h
  ·right
   by_cases hk:k=.free
   ·subst hk
    simp only [beq_self_eq_true,if_true]
    rw [List.lookup_cons]
    cases hx:x==n with
    | true=> exact ⟨_,rfl⟩
    | false=> exact ⟨c,h⟩
   ·have hb:(k==NameKind.free)=false:=by simpa using hk
    rw [hb]; exact ⟨c,h⟩
theorem dg {env:Env} {x:Str} {kd:NameKind}:∀ {names:List (Str×NameKind)},
  (names.map fun (n,k)=> if (k==NameKind.free && env.scope.kind==.function && env.kindOf n==some .cell) then (n,NameKind.cell) else (n,k)).lookup x=some kd→names.lookup x=some kd∨(kd=.cell∧names.lookup x=some .free)
 | [],h=> by simp at h
 | (n,k)::r,h=> by
  have ih:=@dg env x kd r
  change List.lookup x ((if (k==NameKind.free && env.scope.kind==.function && env.kindOf n==some .cell)=true then (n,NameKind.cell) else (n,k))::_)=_ at h
  by_cases hc:(k==NameKind.free && env.scope.kind==.function && env.kindOf n==some .cell)=true
  ·rw [if_pos hc] at h
   rw [List.lookup_cons] at h ⊢
   cases hx:x==n with
   | true=>
    rw [hx] at h
    have hk:k=.free:=by
     have:=(Bool.and_eq_true_iff.mp (Bool.and_eq_true_iff.mp hc).1).1
     simpa using this
    subst hk
    have h':some NameKind.cell=some kd:=h
    cases h'
    exact .inr ⟨rfl,rfl⟩
   | false=> rw [hx] at h; exact ih h
  ·rw [if_neg hc] at h
   rw [List.lookup_cons] at h ⊢
   cases hx:x==n with
   | true=> rw [hx] at h; exact .inl h
   | false=> rw [hx] at h; exact ih h
def tE (scope fscope:Scope) (N:List Str) (is:List Nat):Bool:=
 scope.names.all (fun y=> y.2 !=.cell) && scope.names.all (fun y=> y.2 !=.local || scope.names.lookup y.1==some .local) && scope.names.all (fun y=> y.2 !=.free || fscope.names.lookup y.1==some .cell) &&
  (List.range N.length).all fun i=> match N[i]? with | some x=> scope.names.lookup x !=some .local || is.contains i | none=> true
theorem blk {X:Cx} {scope:Scope} (fscope:Scope) (N:List Str) (is:List Nat) (hNN:X.N=N) (hs:X.env.scope=fscope) (hcs:X.env.cells=cellsFrom (X.env.locals+1) fscope.names []) (hk:scope.kind=.function) (h:tE scope fscope N is=true):fk X scope (goC X.env.cells scope.names []) is:=by
 subst hNN
 unfold tE at h
 simp only [Bool.and_eq_true,List.all_eq_true] at h
 obtain ⟨⟨⟨h1,h2⟩,h3⟩,h4⟩:=h
 have f1:∀ y∈scope.names,y.2=.free→fscope.names.lookup y.1=some .cell:=fun y hy e=> by
  have:=h3 y hy
  simp only [Bool.or_eq_true,bne_iff_ne,ne_eq,beq_iff_eq] at this
  exact this.resolve_left fun z=> z e
 have f2:∀ y∈scope.names,y.2=.free→(X.env.cells.lookup y.1).isSome=true:=fun y hy e=> by
  rw [hcs]; exact PySem.W.cellsFrom_some _ _ _ (.inl (f1 y hy e))
 have nc:∀ y∈scope.names,y.2≠.cell:=fun y hy=> by have:=h1 y hy; simpa using this
 refine ⟨oh f2,nc,hk,fun y hy e=> ?_,pE _ _ f2 (fun x c e=> by simp at e),fun x hx=> ?_,fun i x hi hl=> ?_⟩
 ·have:=h2 y hy
  simp only [Bool.or_eq_true,bne_iff_ne,ne_eq,beq_iff_eq] at this
  exact this.resolve_left fun z=> z e
 ·have hf:(x,NameKind.free)∈scope.names:=by
   rcases hx with hx | hx
   ·rcases dg hx with z | ⟨_,z⟩
    ·exact absurd rfl (nc _ (PySem.mem_of_lookup z))
    ·exact PySem.mem_of_lookup z
   ·rcases dg hx with z | ⟨z,_⟩
    ·exact PySem.mem_of_lookup z
    ·cases z
  have hc:=f1 _ hf rfl
  refine ⟨.inr (.inl (by rw [hs]; exact hc)),(by rw [hs,show fscope.names.lookup x=some .cell from hc]; intro z; cases z),qa _ _ (.inl hf)⟩
 ·have hi':i < X.N.length:=(List.getElem?_eq_some_iff.mp hi).1
  have:=h4 i (List.mem_range.mpr hi')
  rw [hi] at this
  have hl':scope.names.lookup x=some .local:=by
   rcases dg hl with z | ⟨z,_⟩
   ·exact z
   ·cases z
  simp only [hl',bne_self_eq_false,Bool.false_or,List.contains_iff_mem] at this
  exact this
end L2
namespace L2
end L2
namespace L2
open PySem PySem.Spec PySem.W PyProof.Rows
theorem uy {K:Frag} {h:Heap} {mg:Str→Option Value} {x:Str} {C:Addr} {bmB:List Value} {newId:String} (X:K.In h) (hb:mg x=some (.ref C)) (q:excIn K C bmB newId=true):OwnCls x C bmB newId mg h:=by
 refine ⟨hb,?_⟩
 unfold excIn at q
 split at q
 ·rename_i dd cd sl ho
  split at q
  ·rename_i C' bm k0 k1 k2 k3 n k5 hm hs
   simp only [Bool.and_eq_true,beq_iff_eq,Bool.not_eq_true'] at q
   obtain ⟨⟨⟨⟨⟨e1,e2⟩,hdel⟩,ht⟩,hok⟩,hni⟩:=q
   subst e1 e2
   obtain ⟨nm,bs,mro,ns,qn,hd,sn,sub,ab,col,del⟩:=cd
   dsimp only at hm hdel hok hni
   subst hm hdel
   have hsl:sl=#[k0,k1,k2,k3,some (.builtin n),k5]:=by cases sl; simp only at hs; rw [hs]
   subst hsl
   exact ⟨bm,ns,nm,qn,bs,hd,sn,sub,ab,col,dd,k0,k1,k2,k3,k5,_,X _ _ ho,.of_isNs (isNs_of_in X hok),nsMap_none_of_in X hok hni,tail_of_in X ht⟩
  ·cases q
 ·cases q
def CXF (P:Program) (w:World):CXT:=fun outer H s E e s'=> ∃ (ea:Addr) (cls a0:Value) (B:Heap) (H':Hp),e=.ref ea∧s'.os=s.os∧AllBare s'.gens∧Un (frs outer) [] H H' s.heap s'.heap∧HOk P w H' s'.heap∧H' ea=none∧
 (∀ b o,s.heap.get? b=some o→b ∉ frs outer→H b=none→B.get? b=some o)∧(∀ b u,H' b=some u→∃ o,B.get? b=some o)∧(∀ b o,s.heap.get? b=some o→b ∉ frs outer→∃ o',B.get? b=some o')∧
 Heap.FlyingW B outer ea cls a0 s'.heap∧E cls none H'
theorem ay {P:Program} {w:World} {X:Cx}:ig (CXF P w) X E0:=fun _ _ _ _ _ _ _ h=> by
 obtain ⟨_,_,_,_,_,_,_,_,_,_,_,_,_,_,_,hE⟩:=h
 exact hE.elim
theorem jU {P:Program} {w:World} {H:Hp} {h:Heap} {a:Addr} {o:HO} (x:cC P w H h a o):∃ ob,h.get? a=some ob:=by
 cases o with
 | lst xs=> obtain ⟨_,_,_,_,e⟩:=x; exact ⟨_,e⟩
 | tup xs=> obtain ⟨_,_,_,ob,e,_⟩:=x; exact ⟨_,e⟩
 | dK kvs=> obtain ⟨_,_,_,_,o,_,_,e,_⟩:=x; exact ⟨_,e⟩
 | dT kvs=> obtain ⟨_,_,_,_,o,_,_,e,_⟩:=x; exact ⟨_,e⟩
 | set S n=> obtain ⟨o,_,_,_,e,_⟩:=x; exact ⟨_,e⟩
 | ins C dx fs=> obtain ⟨_,_,_,e,_⟩:=x; exact ⟨_,e⟩
 | own y=> obtain ⟨_,e⟩:=x; exact ⟨_,e⟩
 | xd fs=> obtain ⟨_,⟨_,_,_,e,_⟩,_⟩:=x; exact ⟨_,e⟩
 | rng lo hi=> obtain ⟨_,_,_,e⟩:=x; exact ⟨_,e⟩
 | frz ob u=> obtain ⟨e,_⟩:=x; exact ⟨_,e⟩
 | tbl ps=> exact ⟨_,(show h.get? a=some _ from x)⟩
 | met f y=> exact ⟨_,(show h.get? a=some _ from x)⟩
 | ext φ=> obtain ⟨_,⟨_,e⟩,_⟩:=x; exact ⟨_,e⟩
theorem vh {P:Program} {w:World} {H':Hp} {h h' B:Heap} (ok:HOk P w H' h) (hB:∀ b u,H' b=some u→∃ o,B.get? b=some o) (s1:B.StaysIn h) (s2:B.StaysIn h'):HOk P w H' h':=fun a o e=> by
 refine (ok a o e).stay (fun b u hb q=> ?_) (fun _ q=> q) fun _ _ q=> q
 have:∃ v,H' b=some v:=by
  rcases hb with z | z
  ·subst z; exact ⟨_,e⟩
  ·exact ⟨_,z⟩
 obtain ⟨v,hv⟩:=this
 obtain ⟨ob,hob⟩:=hB b v hv
 have:=s1 b ob hob
 rw [q] at this
 cases this
 exact s2 b _ hob
theorem ph {h base:Heap}:∀ {l:List Env},h.FunFrames base l→∀ b∈frs l,∀ o,h.get? b=some o→∀ vs,o.data≠.fields vs
 | [],_,b,hb,_,_=> absurd (show b∈([]:List Addr) from hb) (by simp)
 | env::r,⟨_,⟨L,o',hf,_,ho,hd⟩,hr⟩,b,hb,o,e=> by
  unfold frs at hb
  rw [List.filterMap_cons,hf] at hb
  rcases List.mem_cons.mp hb with z | z
  ·subst z; rw [ho] at e; cases e; exact hd
  ·exact ph hr b z o e
section
variable {P:Program} {w:World} {K:Frag} {mg:Str→Option Value} {base:Heap} {N:List Str} {qual:Str} {scope:Scope} {f:Addr} {cd:Value} {A:Around} {outer:List Env} {s:Shared} {H:Hp} {E:XK}
theorem tS {env:Env} {L:Addr} {l:List Env} (h:env.frame=some L):frs (env::l)=L::frs l:=by unfold frs; rw [List.filterMap_cons,h]
theorem t4 {pins:List (Addr×Obj)} {σ:St} {H1 H':Hp} {s1:Shared} {B h1 h2:Heap} (I:Inv (fi (CXF P w) P w K mg base N qual scope f cd A outer s H E) pins σ H1 s1)
  (un:Un (frs (envOfC qual scope s.heap.objs.size f cd::outer)) [] H1 H' s1.heap h1)
  (k1:∀ b o,s1.heap.get? b=some o→b ∉ frs (envOfC qual scope s.heap.objs.size f cd::outer)→H1 b=none→B.get? b=some o) (k3:∀ b o,s1.heap.get? b=some o→b ∉ frs (envOfC qual scope s.heap.objs.size f cd::outer)→∃ o',B.get? b=some o')
  (st:B.StaysIn h2) (up:h1.UpToSlots h2):
  Un (frs outer) [] H H' s.heap h2∧(∀ b o,s.heap.get? b=some o→b ∉ frs outer→H b=none→B.get? b=some o)∧(∀ b o,s.heap.get? b=some o→b ∉ frs outer→∃ o',B.get? b=some o'):=by
 have ef:frs (envOfC qual scope s.heap.objs.size f cd::outer)=s.heap.objs.size::frs outer:=tS rfl
 rw [ef] at un k1 k3
 have ne:∀ b o,s.heap.get? b=some o→b ∉ frs outer→b ∉ s.heap.objs.size::frs outer:=fun b o e hb z=> by
  rcases List.mem_cons.mp z with y | y
  ·exact absurd (Heap.lt_size e) (by rw [y]; exact Nat.lt_irrefl _)
  ·exact hb y
 have ib:Un (frs outer) [] H H1 s.heap s1.heap:=I.base
 have K1:∀ b o,s.heap.get? b=some o→b ∉ frs outer→H b=none→B.get? b=some o:=fun b o e hb n=>
  k1 b o (ib.keep b o e n hb (by simp)) (ne b o e hb) (ib.free b o e n (by simp))
 have K3:∀ b o,s.heap.get? b=some o→b ∉ frs outer→∃ o',B.get? b=some o':=fun b o e hb=> by
  obtain ⟨o',e'⟩:=ib.there b o e (by simp)
  exact k3 b o' e' (ne b o e hb)
 have ffr:∀ b∈frs outer,∀ o,s.heap.get? b=some o→∀ vs,o.data≠.fields vs:=ph I.ok.funs
 have frf:∀ b∈frs outer,H b=none:=I.ok.frf
 refine ⟨⟨fun b o e n hb _=> st b o (K1 b o e hb n),fun b o e n hb hx=> ?_,fun b o e n hx=> ?_,fun b o e hx=> ?_,fun b xs e=> un.tups b xs (ib.tups b xs e),fun b o u e=> un.frzs b o u (ib.frzs b o u e),fun b ps e=> ?_⟩,K1,K3⟩
 ·obtain ⟨sl,e1⟩:=ib.slot b o e n hb hx
  obtain ⟨sl2,e2⟩:=un.slot b _ e1 (ib.free b o e n hx) (List.mem_cons_of_mem _ hb) hx
  obtain ⟨sl3,e3⟩:=up b _ e2 (ffr b hb o e)
  exact ⟨sl3,e3⟩
 ·obtain ⟨o',e1⟩:=ib.there b o e hx
  exact un.free b o' e1 (ib.free b o e n hx) hx
 ·by_cases hb:b∈frs outer
  ·obtain ⟨sl,e1⟩:=ib.slot b o e (frf b hb) hb hx
   obtain ⟨sl2,e2⟩:=un.slot b _ e1 (ib.free b o e (frf b hb) hx) (List.mem_cons_of_mem _ hb) hx
   obtain ⟨sl3,e3⟩:=up b _ e2 (ffr b hb o e)
   exact ⟨_,e3⟩
  ·obtain ⟨o',e'⟩:=K3 b o e hb
   exact ⟨o',st b o' e'⟩
 ·obtain ⟨m1,e1⟩:=ib.tbls b ps e
  obtain ⟨m2,e2⟩:=un.tbls b _ e1
  exact ⟨m1++m2,by rw [e2,Array.append_assoc]⟩
def wu (E:XK) (C:Addr) (te:TE):TS:=fun _ σ H=> te σ H fun _ H1=> E (.ref C) none H1
theorem tx {x:Str} {C:Addr} {e0:Expr} {te:TE} {np cpos pos:Pos} (hex:excIn K C [.type "ValueError",.type "Exception",.type "BaseException",.type "object"] "ValueError.__new__"=true)
  (hg:Gl (fi (CXF P w) P w K mg base N qual scope f cd A outer s H E) x) (hm:mg x=some (.ref C)) (he:PE (fi (CXF P w) P w K mg base N qual scope f cd A outer s H E) e0 te)
  (hst:starEach [e0] (fi (CXF P w) P w K mg base N qual scope f cd A outer s H E).env=[(false,eval e0 (fi (CXF P w) P w K mg base N qual scope f cd A outer s H E).env)]:=by rfl) (hd:(x==("__debug__":Str))=false:=by decide):
  PS (fi (CXF P w) P w K mg base N qual scope f cd A outer s H E) (.Raise (some (.Call (.Name x np) [e0] [] cpos)) none pos) (wu E C te):=by
 intro pins s1 σ H1 D I h
 have O:=uy I.ok.mod.kin hm hex
 obtain ⟨tl,NN,nm,q,bs,hdct,sn,sub,ab,col,dd,k0,k1,k2,k3,k5,mN,hC,hN,hni,T⟩:=O.obj
 have hpl:(backTo cpos (starEach [e0] (fi (CXF P w) P w K mg base N qual scope f cd A outer s H E).env)).any (·.1)=false:=by rw [hst]; rfl
 refine wpAny_Raise_call_subT (C:=C) (nm:=nm) (q:=q) (N:=NN) (bs:=bs) (bm:=tl) (hdct:=hdct) (sn:=sn) (sub:=sub) (ab:=ab) (col:=col) (dd:=dd) (k0:=k0) (k1:=k1) (k2:=k2) (k3:=k3) (k5:=k5)
  PySem.F.excBase_ValueError (mN:=mN) (T.hasType PySem.F.excBase_ValueError.hasBase) (I.ok.hd rfl) hpl hni (pQ I hg hm ⟨rfl,?_⟩ hd)
 rw [hst]
 refine Calls.evalArgs_plain ?_
 show wpAny _ _ (spliced ((false,eval e0 _)::backTo cpos [])) _ _ s1
 refine Calls.spliced_cons (thn (he pins s1 σ H1 _ I h) fun v s2 ⟨y,H2,I2,r2,hE⟩=> Calls.spliced_nil ⟨rfl,by show 1≤sizeLine; decide,I2.bk _ _ hC,hN.keeps I2.bk,T.keeps I2.bk,fun h' e hx=> ?_⟩)
 show wpAny _ _ (leaving (envOfC qual scope s.heap.objs.size f cd) (.ref e)) _ _ { s2 with heap:=h' }
 have stk:s2.heap.FunFrames base (envOfC qual scope s.heap.objs.size f cd::outer):=I2.stack
 refine wpAny_leaves_madeW (base:=hideAll s2.heap (frs (envOfC qual scope s.heap.objs.size f cd::outer))) (h:=s2.heap) (L:=s.heap.objs.size) I2.ok.frames rfl (fun b o q=> of_hideAll _ q)
  (funFrames_hide stk fun env he b hb=> List.mem_filterMap.mpr ⟨env,he,hb⟩) hx fun h2 t fl _ _ up=> ?_
 have k2':∀ b u,H2 b=some u→∃ o,(hideAll s2.heap (frs (envOfC qual scope s.heap.objs.size f cd::outer))).get? b=some o:=fun b u e=> by
  obtain ⟨ob,hob⟩:=jU (I2.hok b u e)
  exact ⟨ob,hideAll_get _ hob fun z=> by have:=I2.stkFree b z; rw [e] at this; cases this⟩
 obtain ⟨u,K1,K3⟩:=t4 (h1:=h') I2 (Un.kept hx.keeps) (fun b o e hb _=> hideAll_get _ e hb) (fun b o e hb=> ⟨o,hideAll_get _ e hb⟩) fl.1 up
 refine ⟨e,.ref C,.ref t,_,H2,rfl,I2.os,I2.bare,u,vh (h:=s2.heap) I2.hok k2' (fun b o q=> of_hideAll _ q) fl.1,?_,K1,k2',K3,fl,hE⟩
 cases z:H2 e with
 | none=> rfl
 | some u=>
  obtain ⟨ob,hob⟩:=jU (I2.hok e u z)
  rw [hx.new] at hob; cases hob
end
theorem Fun.okF {P:Program} {w:World} {K:Frag} {mg:Str→Option Value} {base:Heap} {x qual:Str} {st:Stmt} {f:Addr} {fd:FuncData} {N ps:List Str} {k:Nat} {sp:Sp} (F:Fun K x qual st f fd) (S:aK N ps (aj st)) (len:∀ vs H Q E,sp vs H Q E→vs.length=ps.length)
  (hbody:∀ (cdv:Value) (A:Around) (outer:List Env) (s:Shared) (H:Hp) (vs:List V) (Q:VK) (E:XK),eW k (A.deeper (envOfC qual (aj st) s.heap.objs.size f cdv))→sp vs H Q E→
   ∃ t,PSs (fi (CXF P w) P w K mg base N qual (aj st) f cdv A outer s H E) (aC st) t∧t { nx:=fun _ H'=> Q .non H',rt:=Q } (start N vs) H):bE P w K mg base (CXF P w) (k+1) f fd ps sp:=by
 obtain ⟨oc,od,kV,doc,pm,an,cdv,ct,osl,rfl,lk,hcd⟩:=F.ex
 exact xP lk hcd S len fun A outer s H vs Q E hr hsp=> hbody cdv A outer s H vs Q E hr hsp
end L2
namespace L2
open PySem PySem.Spec PySem.W PyProof.Rows
section
variable {X:Cx} {pins:List (Addr×Obj)} {σ:St} {H:Hp} {s:Shared}
end
section
variable {X:Cx}
end
end L2
namespace L2
open PySem PySem.Spec PyProof.Rows
theorem qE {n:Nat} {e:Nat→Bool}:(List.range n).all e=true↔∀ j,j < n→e j=true:=by
 rw [List.all_eq_true]
 exact ⟨fun h j hj=> h j (List.mem_range.mpr hj),fun h j hj=> h j (List.mem_range.mp hj)⟩
section
variable {X:Cx}
end
end L2
namespace PySem.W
open PySem PySem.Spec PySem.Calls PyProof.Rows PySem.Builtin PySem.Builtin.ObjectAttr PySem.Builtin.Getset_descriptor
section
variable {prog:Program} {w:World} {A:Around} {E:Value→Shared→Prop} {s:Shared} {K:Frag} {x C:Addr}
def OfCls (x C:Addr) (h:Heap):Prop:=∃ o,h.get? x=some o∧o.cls=.ref C
variable (hga:findIn K (.ref C) "__getattribute__"=some (some (.builtin "BaseException.__getattribute__"))) (hgn:findIn K (.ref C) "__getattr__"=some none) (ha:findIn K (.ref C) "__class__"=some (some (.builtin "object.__class__")))
 (hn:specialIn K (.builtin "object.__class__") "__get__"=some (some (.builtin "getset_descriptor.__get__"))) (htk:takesIn K (.builtin "object.__class__")=some true) (hm:mroIn K C (.type "object")=some true) (hmB:mroIn K C (.type "BaseException")=some true)
include ha hn htk hm in
end
structure XcOk (K:Frag) (C:Addr):Prop where
 ga:findIn K (.ref C) "__getattribute__"=some (some (.builtin "BaseException.__getattribute__"))
 gn:findIn K (.ref C) "__getattr__"=some none
 at_:findIn K (.ref C) "__class__"=some (some (.builtin "object.__class__"))
 sp:specialIn K (.builtin "object.__class__") "__get__"=some (some (.builtin "getset_descriptor.__get__"))
 tk:takesIn K (.builtin "object.__class__")=some true
 mo:mroIn K C (.type "object")=some true
 mb:mroIn K C (.type "BaseException")=some true
theorem XcOk.off {x C:Addr} {h:Heap} {o:Obj} {T:String} (I:OfCls x C h) (e:h.get? x=some o) (c:o.cls=.type T):False:=by
 obtain ⟨o',e',c'⟩:=I
 rw [e] at e'; cases e'
 rw [c] at c'; cases c'
end PySem.W
namespace L2
open PySem PySem.Spec PyProof.Rows
inductive TyX where
 | nm (n:String) | xc (C:Addr)
inductive U where
 | non | bl (b:Bool) | int (i:Int) | str (x:Str) | ty (n:TyX) | dic | scr (xs:List U) | tup (xs:List U) | lst (xs:List U)
def U.items:U→Option (List U)
 | .scr xs=> some xs
 | .tup xs=> some xs
 | .lst xs=> some xs
 | _=> none
def hid (H:Hp) (O:List Addr):Hp:=fun b=> if b∈O then none else H b
theorem fO {H:Hp} {O:List Addr} {b:Addr} {o:HO} (h:hid H O b=some o):H b=some o∧b ∉ O:=by
 unfold hid at h
 split at h
 ·cases h
 ·exact ⟨h,by assumption⟩
theorem cM {H:Hp} {O:List Addr} {b:Addr} {o:HO} (h:H b=some o) (n:b ∉ O):hid H O b=some o:=by
 unfold hid; rw [if_neg n]; exact h
theorem aF {H:Hp} {O:List Addr}:aJ (hid H O) H:=fun _ _ h=> (fO h).1
theorem bw {H H':Hp} {O:List Addr} (e:aJ H H'):aJ (hid H O) (hid H' O):=fun _ _ h=> cM (e _ _ (fO h).1) (fO h).2
theorem cX {H:Hp} {O O':List Addr} (e:∀ a∈O',a∈O):aJ (hid H O) (hid H O'):=fun _ _ h=> cM (fO h).1 fun z=> (fO h).2 (e _ z)
theorem bS {H H':Hp} {O:List Addr} {a:Addr} (e:aJ H H') (n:H a=none):aJ (hid H O) (hid H' (a::O)):=fun b o h=> by
 obtain ⟨h1,h2⟩:=fO h
 refine cM (e _ _ h1) fun z=> ?_
 rcases List.mem_cons.mp z with y | y
 ·subst y; rw [n] at h1; cases h1
 ·exact h2 y
theorem lf {H:Hp} {O:List Addr} {a:Addr} {o:HO} (h:a∈O):hid (upd H a o) O=hid H O:=by
 funext b
 unfold hid
 split
 ·rfl
 ·rename_i n
  rw [aY fun e=> n (by rw [e]; exact h)]
inductive Rp (K:PySem.W.Frag) (H:Hp):V→U→Prop where
 | non:Rp K H .non .non
 | bl (b:Bool):Rp K H (.bl b) (.bl b)
 | int (i:Int):Rp K H (.int i) (.int i)
 | str (x:Str):Rp K H (.str x) (.str x)
 | ty (n:String):Rp K H (.ty n) (.ty (.nm n))
 | dic {a:Addr} {kvs:List (Key×V)} (h:H a=some (.dK kvs)):Rp K H (.ref a) .dic
 | xc {a C:Addr} (h:H a=some (.ext (PySem.W.OfCls a C))) (k:PySem.W.XcOk K C):Rp K H (.ref a) (.ty (.xc C))
 | scr {a:Addr} {vs:List V} {xs:List U} (h:SqL K H a vs) (hl:vs.length=xs.length) (hi:∀ (i:Nat) (v:V) (x:U),vs[i]?=some v→xs[i]?=some x→Rp K H v x):Rp K H (.ref a) (.scr xs)
 | tup {a:Addr} {vs:List V} {xs:List U} (h:SqT K H a vs) (hl:vs.length=xs.length) (hi:∀ (i:Nat) (v:V) (x:U),vs[i]?=some v→xs[i]?=some x→Rp K H v x):Rp K H (.ref a) (.tup xs)
 | lst {a:Addr} {vs:List V} {xs:List U} (h:H a=some (.lst vs)) (hl:vs.length=xs.length) (hi:∀ (i:Nat) (v:V) (x:U),vs[i]?=some v→xs[i]?=some x→Rp K H v x):Rp K H (.ref a) (.lst xs)
theorem Rp.same {K:PySem.W.Frag} {H H':Hp} {v:V} {u:U} (e:aJ H H') (h:Rp K H v u):Rp K H' v u:=by
 induction h with
 | non=> exact .non
 | bl b=> exact .bl b
 | int i=> exact .int i
 | str x=> exact .str x
 | ty n=> exact .ty n
 | dic h=> exact .dic (e _ _ h)
 | xc h k=> exact .xc (e _ _ h) k
 | scr h hl hi ih=> exact .scr (e.seq h) hl ih
 | tup h hl hi ih=> exact .tup (e.tup h) hl ih
 | lst h hl hi ih=> exact .lst (e _ _ h) hl ih
structure Rps (K:PySem.W.Frag) (H:Hp) (vs:List V) (xs:List U):Prop where
 len:vs.length=xs.length
 at_:∀ (i:Nat) (v:V) (x:U),vs[i]?=some v→xs[i]?=some x→Rp K H v x
theorem Rps.same {K:PySem.W.Frag} {H H':Hp} {vs:List V} {xs:List U} (e:aJ H H') (h:Rps K H vs xs):Rps K H' vs xs:=⟨h.len,fun i v x a b=> (h.at_ i v x a b).same e⟩
theorem Rps.nil {K:PySem.W.Frag} {H:Hp}:Rps K H [] []:=⟨rfl,fun i v x h=> by simp at h⟩
theorem Rps.cons {K:PySem.W.Frag} {H:Hp} {v:V} {x:U} {vs:List V} {xs:List U} (h:Rp K H v x) (t:Rps K H vs xs):Rps K H (v::vs) (x::xs):=by
 refine ⟨by simp [t.len],fun i a b h1 h2=> ?_⟩
 cases i with
 | zero=> simp at h1 h2; subst h1; subst h2; exact h
 | succ i=> exact t.at_ i a b (by simpa using h1) (by simpa using h2)
theorem Rps.snoc {K:PySem.W.Frag} {H:Hp} {vs ws:List V} {xs ys:List U} (h:Rps K H vs xs) (t:Rps K H ws ys):Rps K H (vs++ws) (xs++ys):=by
 refine ⟨by simp [h.len,t.len],fun i a b h1 h2=> ?_⟩
 by_cases hi:i < vs.length
 ·rw [List.getElem?_append_left hi] at h1
  rw [List.getElem?_append_left (by rw [← h.len]; exact hi)] at h2
  exact h.at_ i a b h1 h2
 ·have hle:vs.length≤i:=Nat.le_of_not_lt hi
  rw [List.getElem?_append_right hle] at h1
  rw [List.getElem?_append_right (by rw [← h.len]; exact hle),← h.len] at h2
  exact t.at_ _ a b h1 h2
theorem Rps.get {K:PySem.W.Frag} {H:Hp} {vs:List V} {xs:List U} {i:Nat} {x:U} (h:Rps K H vs xs) (e:xs[i]?=some x):∃ v,vs[i]?=some v∧Rp K H v x:=by
 have hi:i < vs.length:=by rw [h.len]; exact (List.getElem?_eq_some_iff.mp e).1
 exact ⟨vs[i],List.getElem?_eq_getElem hi,h.at_ i _ x (List.getElem?_eq_getElem hi) e⟩
theorem Rps.atI {K:PySem.W.Frag} {H:Hp} {vs:List V} {xs:List U} {i:Int} {x:U} (h:Rps K H vs xs) (e:L2.atI xs i=some x):∃ v,L2.atI vs i=some v∧Rp K H v x:=by
 unfold L2.atI at e ⊢
 rw [h.len]
 cases q:ixN xs.length i with
 | none=> rw [q] at e; cases e
 | some j=>
  rw [q] at e
  obtain ⟨v,h1,h2⟩:=h.get (show xs[j]?=some x from e)
  exact ⟨v,h1,h2⟩
theorem Rps.cons_inv {K:PySem.W.Frag} {H:Hp} {vs:List V} {x:U} {xs:List U} (h:Rps K H vs (x::xs)):∃ v ws,vs=v::ws∧Rp K H v x∧Rps K H ws xs:=by
 cases vs with
 | nil=> have:=h.len; simp at this
 | cons v ws=>
  refine ⟨v,ws,rfl,h.at_ 0 v x rfl rfl,by have:=h.len; simpa using this,fun i a b h1 h2=> h.at_ (i+1) a b (by simpa using h1) (by simpa using h2)⟩
theorem Rps.nil_inv {K:PySem.W.Frag} {H:Hp} {vs:List V} (h:Rps K H vs []):vs=[]:=List.length_eq_zero_iff.mp (by rw [h.len]; rfl)
inductive Sl where
 | val (u:U) | own (xs:List U) | pin (w:V) (u:U)
abbrev PSt:=List (Option Sl)
def vq (K:PySem.W.Frag) (H:Hp) (O O0:List Addr) (v:V):Sl→Prop
 | .val u=> Rp K (hid H O) v u
 | .own xs=> ∃ a vs,v=.ref a∧a∈O∧a ∉ O0∧H a=some (.lst vs)∧Rps K (hid H O) vs xs
 | .pin w u=> v=w∧Rp K (hid H O) v u
structure Rs (K:PySem.W.Frag) (H0:Hp) (O0:List Addr) (ps:PSt) (σ:St) (H:Hp) (O:List Addr):Prop where
 same:aJ H0 H
 old:∀ a∈O0,a∈O
 new:∀ a∈O,a∈O0∨H0 a=none
 dom:∀ a∈O,H a≠none
 len:σ.length=ps.length
 at_:∀ (i:Nat) (s:Sl),ps[i]?=some (some s)→∃ v,σ[i]?=some (some v)∧vq K H O O0 v s
 inj:∀ (i j:Nat) (xs ys:List U) (a:Addr),ps[i]?=some (some (.own xs))→ps[j]?=some (some (.own ys))→σ[i]?=some (some (.ref a))→σ[j]?=some (some (.ref a))→i=j
section
variable {K:PySem.W.Frag} {H0 H H':Hp} {O0 O:List Addr} {ps:PSt} {σ:St}
theorem vq.same {v:V} {s:Sl} (e:aJ H H') (h:vq K H O O0 v s):vq K H' O O0 v s:=by
 cases s with
 | val u=> exact Rp.same (bw e) h
 | own xs=> obtain ⟨a,vs,h1,h2,h3,h4,h5⟩:=h; exact ⟨a,vs,h1,h2,h3,e _ _ h4,h5.same (bw e)⟩
 | pin w u=> exact ⟨h.1,Rp.same (bw e) h.2⟩
theorem Rs.go (R:Rs K H0 O0 ps σ H O) (e:aJ H H'):Rs K H0 O0 ps σ H' O:=
 ⟨R.same.trans e,R.old,R.new,fun a ha z=> R.dom a ha (e.free z),R.len,fun i s h=> let ⟨v,h1,h2⟩:=R.at_ i s h; ⟨v,h1,h2.same e⟩,R.inj⟩
theorem cY {α:Type} {xs:List α} {i j:Nat} {y x:α} (h:(xs.set i y)[j]?=some x):(i=j∧x=y)∨(i≠j∧xs[j]?=some x):=by
 by_cases e:i=j
 ·subst e
  rw [List.getElem?_set] at h
  simp at h
  exact .inl ⟨rfl,h.2.symm⟩
 ·rw [List.getElem?_set_ne e] at h
  exact .inr ⟨e,h⟩
theorem fG {α:Type} {xs:List α} {i:Nat} {y:α} (h:i < xs.length):(xs.set i y)[i]?=some y:=by rw [List.getElem?_set]; simp [h]
theorem aB {α:Type} {xs:List α} {i:Nat} {y:α} (h:xs[i]?=some y):i < xs.length:=(List.getElem?_eq_some_iff.mp h).1
theorem gB {i:Nat} {u:U} {j:Nat} {xs:List U} (h:(ps.set i (some (.val u)))[j]?=some (some (.own xs))):i≠j∧ps[j]?=some (some (.own xs)):=by
 rcases cY h with ⟨_,e⟩ | h
 ·cases e
 ·exact h
theorem Rs.set {i:Nat} {v:V} {u:U} (R:Rs K H0 O0 ps σ H O) (r:Rp K (hid H O) v u):Rs K H0 O0 (ps.set i (some (.val u))) (σ.set i (some v)) H O:=by
 refine ⟨R.same,R.old,R.new,R.dom,by simp [R.len],fun j s h=> ?_,fun j k xs ys a h1 h2 h3 h4=> ?_⟩
 ·rcases cY h with ⟨e,q⟩ | ⟨n,q⟩
  ·subst e
   cases q
   have hi:=aB h
   rw [List.length_set] at hi
   exact ⟨v,fG (by rw [R.len]; exact hi),r⟩
  ·obtain ⟨w,h1,h2⟩:=R.at_ j s q
   exact ⟨w,by rw [List.getElem?_set_ne n]; exact h1,h2⟩
 ·obtain ⟨n1,q1⟩:=gB h1
  obtain ⟨n2,q2⟩:=gB h2
  rw [List.getElem?_set_ne n1] at h3
  rw [List.getElem?_set_ne n2] at h4
  exact R.inj j k xs ys a q1 q2 h3 h4
theorem Rs.drop {i:Nat} {o:Option V} (R:Rs K H0 O0 ps σ H O):Rs K H0 O0 (ps.set i none) (σ.set i o) H O:=by
 have key:∀ {j:Nat} {s:Sl},(ps.set i none)[j]?=some (some s)→i≠j∧ps[j]?=some (some s):=fun {j s} h=> by
  rcases cY h with ⟨_,e⟩ | h
  ·cases e
  ·exact h
 refine ⟨R.same,R.old,R.new,R.dom,by simp [R.len],fun j s h=> ?_,fun j k xs ys a h1 h2 h3 h4=> ?_⟩
 ·obtain ⟨n,q⟩:=key h
  obtain ⟨w,h1,h2⟩:=R.at_ j s q
  exact ⟨w,by rw [List.getElem?_set_ne n]; exact h1,h2⟩
 ·obtain ⟨n1,q1⟩:=key h1
  obtain ⟨n2,q2⟩:=key h2
  rw [List.getElem?_set_ne n1] at h3
  rw [List.getElem?_set_ne n2] at h4
  exact R.inj j k xs ys a q1 q2 h3 h4
theorem Rs.own {i:Nat} {a:Addr} {vs:List V} {xs:List U} (R:Rs K H0 O0 ps σ H O) (e:aJ H H') (n:H a=none) (h:H' a=some (.lst vs)) (r:Rps K (hid H' (a::O)) vs xs):
  Rs K H0 O0 (ps.set i (some (.own xs))) (σ.set i (some (.ref a))) H' (a::O):=by
 have na:a ∉ O:=fun z=> R.dom a z n
 have na0:a ∉ O0:=fun z=> na (R.old a z)
 have n0:H0 a=none:=R.same.free n
 have noref:∀ (j:Nat) (ys:List U),ps[j]?=some (some (.own ys))→σ[j]?≠some (some (.ref a)):=fun j ys h1 h2=> by
  obtain ⟨v,h3,b,ws,h4,h5,_⟩:=R.at_ j _ h1
  rw [h2] at h3
  cases h3
  cases h4
  exact na h5
 refine ⟨R.same.trans e,fun b hb=> List.mem_cons_of_mem _ (R.old b hb),fun b hb=> ?_,fun b hb z=> ?_,by simp [R.len],fun j s q=> ?_,fun j k ys zs b h1 h2 h3 h4=> ?_⟩
 ·rcases List.mem_cons.mp hb with y | y
  ·subst y; exact .inr n0
  ·exact R.new b y
 ·rcases List.mem_cons.mp hb with y | y
  ·subst y; rw [h] at z; cases z
  ·exact R.dom b y (e.free z)
 ·rcases cY q with ⟨e',q'⟩ | ⟨ne,q'⟩
  ·subst e'
   cases q'
   have hi:=aB q
   rw [List.length_set] at hi
   exact ⟨.ref a,fG (by rw [R.len]; exact hi),a,vs,rfl,List.mem_cons_self,na0,h,r⟩
  ·obtain ⟨w,h1,h2⟩:=R.at_ j s q'
   refine ⟨w,by rw [List.getElem?_set_ne ne]; exact h1,?_⟩
   cases s with
   | val u=> exact Rp.same (bS e n) h2
   | own ys=>
    obtain ⟨b,ws,k1,k2,k3,k4,k5⟩:=h2
    exact ⟨b,ws,k1,List.mem_cons_of_mem _ k2,k3,e _ _ k4,k5.same (bS e n)⟩
   | pin z u=> exact ⟨h2.1,Rp.same (bS e n) h2.2⟩
 ·rcases cY h1 with ⟨e1,q1⟩ | ⟨n1,q1⟩ <;> rcases cY h2 with ⟨e2,q2⟩ | ⟨n2,q2⟩
  ·rw [← e1,← e2]
  ·subst e1
   have hi:=aB h3
   rw [List.length_set] at hi
   rw [fG hi] at h3
   cases h3
   rw [List.getElem?_set_ne n2] at h4
   exact absurd h4 (noref k zs q2)
  ·subst e2
   have hi:=aB h4
   rw [List.length_set] at hi
   rw [fG hi] at h4
   cases h4
   rw [List.getElem?_set_ne n1] at h3
   exact absurd h3 (noref j ys q1)
  ·rw [List.getElem?_set_ne n1] at h3
   rw [List.getElem?_set_ne n2] at h4
   exact R.inj j k ys zs b q1 q2 h3 h4
theorem Rs.write {i:Nat} {a:Addr} {vs:List V} {xs ys:List U} (R:Rs K H0 O0 ps σ H O) (hp:ps[i]?=some (some (.own xs))) (hs:σ[i]?=some (some (.ref a))) (r:Rps K (hid H O) vs ys):
  Rs K H0 O0 (ps.set i (some (.own ys))) σ (upd H a (.lst vs)) O:=by
 obtain ⟨v,h1,b,ws,h2,h3,h4,h5,h6⟩:=R.at_ i _ hp
 rw [hs] at h1
 cases h1
 cases h2
 have h0:H0 a=none:=(R.new a h3).resolve_left h4
 have eh:hid (upd H a (.lst vs)) O=hid H O:=lf h3
 refine ⟨R.same.put h0 _,R.old,R.new,fun b hb z=> ?_,by simp [R.len],fun j s q=> ?_,fun j k zs us b q1 q2 q3 q4=> ?_⟩
 ·by_cases e:b=a
  ·subst e; rw [aM] at z; cases z
  ·rw [aY e] at z; exact R.dom b hb z
 ·rcases cY q with ⟨e',q'⟩ | ⟨ne,q'⟩
  ·subst e'
   cases q'
   exact ⟨.ref a,hs,a,vs,rfl,h3,h4,aM,by rw [eh]; exact r⟩
  ·obtain ⟨w,k1,k2⟩:=R.at_ j s q'
   refine ⟨w,k1,?_⟩
   cases s with
   | val u=> exact (show Rp K (hid (upd H a (.lst vs)) O) w u by rw [eh]; exact k2)
   | own zs=>
    obtain ⟨b,us,e1,e2,e3,e4,e5⟩:=k2
    subst e1
    have:b≠a:=fun z=> by subst z; exact ne (R.inj i j xs zs b hp q' hs k1)
    exact ⟨b,us,rfl,e2,e3,by rw [aY this]; exact e4,by rw [eh]; exact e5⟩
   | pin z u=> exact ⟨k2.1,by rw [eh]; exact k2.2⟩
 ·have c1:∃ zs',ps[j]?=some (some (.own zs')):=by
   rcases cY q1 with ⟨e,_⟩ | ⟨_,z⟩
   ·subst e; exact ⟨_,hp⟩
   ·exact ⟨_,z⟩
  have c2:∃ zs',ps[k]?=some (some (.own zs')):=by
   rcases cY q2 with ⟨e,_⟩ | ⟨_,z⟩
   ·subst e; exact ⟨_,hp⟩
   ·exact ⟨_,z⟩
  obtain ⟨_,c1⟩:=c1
  obtain ⟨_,c2⟩:=c2
  exact R.inj j k _ _ b c1 c2 q3 q4
def SubP:PSt→PSt→Prop
 | [],[]=> True
 | none::p,_::q=> SubP p q
 | some s::p,t::q=> t=some s∧SubP p q
 | _,_=> False
theorem SubP.at_:∀ {p q:PSt},SubP p q→p.length=q.length∧∀ (i:Nat) (s:Sl),p[i]?=some (some s)→q[i]?=some (some s)
 | [],[],_=> ⟨rfl,fun i s h=> by simp at h⟩
 | none::p,t::q,h=> by
  obtain ⟨h1,h2⟩:=SubP.at_ (p:=p) (q:=q) h
  refine ⟨by simp [h1],fun i s e=> ?_⟩
  cases i with
  | zero=> simp at e
  | succ i=> exact h2 i s (by simpa using e)
 | some s0::p,t::q,h=> by
  obtain ⟨h0,h⟩:=h
  obtain ⟨h1,h2⟩:=SubP.at_ (p:=p) (q:=q) h
  refine ⟨by simp [h1],fun i s e=> ?_⟩
  cases i with
  | zero=> simp at e; subst e; rw [h0]; rfl
  | succ i=> exact h2 i s (by simpa using e)
 | [],_::_,h=> h.elim
 | none::_,[],h=> h.elim
 | some _::_,[],h=> h.elim
theorem Rs.sub {ps':PSt} (R:Rs K H0 O0 ps σ H O) (h:SubP ps' ps):Rs K H0 O0 ps' σ H O:=by
 obtain ⟨h1,h2⟩:=h.at_
 exact ⟨R.same,R.old,R.new,R.dom,R.len.trans h1.symm,fun i s e=> R.at_ i s (h2 i s e),fun i j xs ys a e1 e2=> R.inj i j xs ys a (h2 _ _ e1) (h2 _ _ e2)⟩
end
def Ev (X:Cx) (H0:Hp) (O0:List Addr) (ps:PSt) (e:Expr) (u:U):Prop:=
 PE X e fun σ H Q=> ∃ O,Rs X.K H0 O0 ps σ H O∧∀ v H',aJ H H'→Rp X.K (hid H' O) v u→Q v H'
def EvN (X:Cx) (H0:Hp) (O0:List Addr) (ps:PSt) (e:Expr) (xs:List U):Prop:=
 PE X e fun σ H Q=> ∃ O,Rs X.K H0 O0 ps σ H O∧∀ a vs H',aJ H H'→H a=none→H' a=some (.lst vs)→Rps X.K (hid H' (a::O)) vs xs→Q (.ref a) H'
def Tt (X:Cx) (H0:Hp) (O0:List Addr) (ps:PSt) (e:Expr) (b:Bool):Prop:=
 PT X e fun σ H Q=> ∃ O,Rs X.K H0 O0 ps σ H O∧∀ H',aJ H H'→Q b H'
def Tw (X:Cx) (H0:Hp) (O0:List Addr) (ps:PSt) (e:Expr) (b:Bool):Prop:=
 PW X e fun σ H Q=> ∃ O,Rs X.K H0 O0 ps σ H O∧∀ H',aJ H H'→Q b H'
def EvA (X:Cx) (H0:Hp) (O0:List Addr) (ps:PSt) (es:List Expr) (us:List U):Prop:=
 PA X es fun σ H Q=> ∃ O,Rs X.K H0 O0 ps σ H O∧∀ vs H',aJ H H'→Rps X.K (hid H' O) vs us→Q vs H'
theorem PE.mono {X:Cx} {e:Expr} {t t':TE} (h:PE X e t) (m:∀ σ H Q,t' σ H Q→t σ H Q):PE X e t':=fun pins s σ H Q I q=> h pins s σ H Q I (m σ H Q q)
theorem PT.mono {X:Cx} {e:Expr} {t t':TT} (h:PT X e t) (m:∀ σ H Q,t' σ H Q→t σ H Q):PT X e t':=fun pins s σ H Q I q=> h pins s σ H Q I (m σ H Q q)
theorem PW.mono {X:Cx} {e:Expr} {t t':TT} (h:PW X e t) (m:∀ σ H Q,t' σ H Q→t σ H Q):PW X e t':=fun wh pins s σ H Q I q=> h wh pins s σ H Q I (m σ H Q q)
theorem PA.mono {X:Cx} {e:List Expr} {t t':TA} (h:PA X e t) (m:∀ σ H Q,t' σ H Q→t σ H Q):PA X e t':=fun pos pins s σ H Q I q=> h pos pins s σ H Q I (m σ H Q q)
theorem PS.mono {X:Cx} {e:Stmt} {t t':TS} (h:PS X e t) (m:∀ D σ H,t' D σ H→t D σ H):PS X e t':=fun pins s σ H D I q=> h pins s σ H D I (m D σ H q)
theorem PSs.mono {X:Cx} {e:List Stmt} {t t':TS} (h:PSs X e t) (m:∀ D σ H,t' D σ H→t D σ H):PSs X e t':=fun pins s σ H D I q=> h pins s σ H D I (m D σ H q)
section
variable {X:Cx} {H0:Hp} {O0:List Addr} {ps:PSt} {a b c e:Expr} {es:List Expr} {pos p:Pos} {u x y:U} {xs ys us:List U} {i j:Int}
theorem EvN.ev (h:EvN X H0 O0 ps e xs):Ev X H0 O0 ps e (.lst xs):=PE.mono h fun σ H Q ⟨O,R,k⟩=> ⟨O,R,fun a vs H' s n h r=> by
 have na:a ∉ O:=fun z=> R.dom a z n
 have less:aJ (hid H' (a::O)) (hid H' O):=cX fun b hb=> List.mem_cons_of_mem _ hb
 exact k _ H' s (.lst (cM h na) (r.same less).len (r.same less).at_)⟩
theorem ac (i:Nat) {x:Str} {u:U} (h:ps[i]?=some (some (.val u))) (hN:X.N[i]?=some x:=by rfl) (hv:Vis X.env.scope x:=by first | exact Or.inl rfl | exact Or.inr (Or.inl rfl) | exact Or.inr (Or.inr rfl)) (hd:(x==("__debug__":Str))=false:=by decide)
  (hcd:(x==("__classdict__":Str))=false:=by decide):Ev X H0 O0 ps (.Name x pos) u:=PE.mono (fz hN hv hd hcd) fun σ H Q ⟨O,R,k⟩=> by
 obtain ⟨v,h1,h2⟩:=R.at_ i _ h
 exact ⟨v,h1,k v H (.refl H) h2⟩
theorem af {i j pos}:Ev X H0 O0 ps (.Constant (.int i) j pos) (.int i):=PE.mono wt fun _ H _ ⟨_,_,k⟩=> k _ H (.refl H) (.int i)
theorem yh {i j pos}:Ev X H0 O0 ps (.Constant (.str i) j pos) (.str i):=PE.mono wn fun _ H _ ⟨_,_,k⟩=> k _ H (.refl H) (.str i)
theorem xV {x:Str} {n:String} {pos:Pos} (hg:Gl X x) (hm:X.mg x=none) (hv:bootBuiltins x=some (.type n)) (hn:x≠"__name__":=by decide) (hd:(x==("__debug__":Str))=false:=by decide):Ev X H0 O0 ps (.Name x pos) (.ty (.nm n)):=
 PE.mono (ym hg hm hv hn hd) fun _ H _ ⟨_,_,k⟩=> k _ H (.refl H) (.ty n)
theorem two {ta tb:TE} {σ:St} {H:Hp} {Q:VK} {O:List Addr} {r:R2} (R:Rs X.K H0 O0 ps σ H O)
  (ha:∀ σ H Q,(∃ O,Rs X.K H0 O0 ps σ H O∧∀ v H',aJ H H'→Rp X.K (hid H' O) v x→Q v H')→ta σ H Q) (hb:∀ σ H Q,(∃ O,Rs X.K H0 O0 ps σ H O∧∀ v H',aJ H H'→Rp X.K (hid H' O) v y→Q v H')→tb σ H Q)
  (h:∀ v w H',aJ H H'→Rs X.K H0 O0 ps σ H' O→Rp X.K (hid H' O) v x→Rp X.K (hid H' O) w y→r v w H' Q):tOp r ta tb σ H Q:=
 ha σ H _ ⟨O,R,fun v H1 s1 r1=> hb σ H1 _ ⟨O,R.go s1,fun w H2 s2 r2=> h v w H2 (s1.trans s2) (R.go (s1.trans s2)) (r1.same (bw s2)) r2⟩⟩
theorem v7 {op:Operator} {g:Int→Int→Int} (ho:OpR X (binaryOp op) (rI0 fun i j=> .int (g i j))) (ha:Ev X H0 O0 ps a (.int i)) (hb:Ev X H0 O0 ps b (.int j)):Ev X H0 O0 ps (.BinOp a op b pos) (.int (g i j)):=
 PE.mono (rM ho ha hb) fun σ H Q ⟨O,R,k⟩=> two (x:=.int i) (y:=.int j) R (fun _ _ _ z=> z) (fun _ _ _ z=> z) fun v w H' s _ r1 r2=> by
  cases r1; cases r2; exact ⟨i,j,rfl,rfl,k _ H' s (.int _)⟩
theorem p8 {op:Operator} {C:Int→Int→Prop} {g:Int→Int→Int} (ho:OpR X (binaryOp op) (rI C fun i j=> .int (g i j))) (ha:Ev X H0 O0 ps a (.int i)) (hb:Ev X H0 O0 ps b (.int j)) (hc:C i j):Ev X H0 O0 ps (.BinOp a op b pos) (.int (g i j)):=
 PE.mono (rM ho ha hb) fun σ H Q ⟨O,R,k⟩=> two (x:=.int i) (y:=.int j) R (fun _ _ _ z=> z) (fun _ _ _ z=> z) fun v w H' s _ r1 r2=> by
  cases r1; cases r2; exact ⟨i,j,rfl,rfl,hc,k _ H' s (.int _)⟩
theorem dG (ha:Ev X H0 O0 ps a (.int i)) (hb:Ev X H0 O0 ps b (.int j)):Ev X H0 O0 ps (.BinOp a .Add b pos) (.int (i+j)):=v7 xj ha hb
theorem bO (ha:Ev X H0 O0 ps a (.int i)) (hb:Ev X H0 O0 ps b (.int j)):Ev X H0 O0 ps (.BinOp a .Sub b pos) (.int (i - j)):=v7 w6 ha hb
theorem bD (ha:Ev X H0 O0 ps a (.int i)) (hb:Ev X H0 O0 ps b (.int j)) (hc:IntMulOk i j):Ev X H0 O0 ps (.BinOp a .Mult b pos) (.int (i * j)):=p8 uj ha hb hc
theorem iq (ha:Ev X H0 O0 ps a (.int i)) (hb:Ev X H0 O0 ps b (.int j)) (hc:v5 i j):Ev X H0 O0 ps (.BinOp a .FloorDiv b pos) (.int (i / j)):=p8 rD ha hb hc
theorem eX (ha:Ev X H0 O0 ps a (.int i)) (hb:Ev X H0 O0 ps b (.int j)) (hc:0 < j):Ev X H0 O0 ps (.BinOp a .Mod b pos) (.int (i % j)):=p8 xt ha hb hc
theorem jb (ha:Ev X H0 O0 ps a (.int i)) (hb:Ev X H0 O0 ps b (.int j)) (hc:x6 i j):Ev X H0 O0 ps (.BinOp a .Pow b pos) (.int (i ^ j.toNat)):=p8 wZ ha hb hc
theorem fy (ha:Ev X H0 O0 ps a (.int i)):Ev X H0 O0 ps (.UnaryOp .USub a pos) (.int (-i)):=
 PE.mono (yb xk ha) fun σ H Q ⟨O,R,k⟩=> ⟨O,R,fun v H' s r=> by cases r; exact ⟨i,rfl,k _ H' s (.int _)⟩⟩
end
end L2
namespace L2
open PySem PySem.Spec PyProof.Rows
mutual
def eqW:U→U→Bool
 | .non,.non=> true
 | .bl a,.bl b=> a==b
 | .bl a,.int j=> (if a then 1 else 0)==j
 | .int i,.bl b=> i==(if b then 1 else 0)
 | .int i,.int j=> i==j
 | .str a,.str b=> a==b
 | .tup xs,.tup ys=> eqWs xs ys
 | .lst xs,.lst ys=> eqWs xs ys
 | .lst xs,.scr ys=> eqWs xs ys
 | .scr xs,.lst ys=> eqWs xs ys
 | .scr xs,.scr ys=> eqWs xs ys
 | _,_=> false
def eqWs:List U→List U→Bool
 | [],[]=> true
 | x::xs,y::ys=> eqW x y && eqWs xs ys
 | _,_=> false
end
mutual
def okU:Nat→U→Bool
 | _,.ty _=> false
 | _,.dic=> false
 | 0,.tup _=> false
 | 0,.lst _=> false
 | 0,.scr _=> false
 | n+1,.tup xs=> okUs n xs
 | n+1,.lst xs=> okUs n xs
 | n+1,.scr xs=> okUs n xs
 | _,_=> true
def okUs:Nat→List U→Bool
 | _,[]=> true
 | n,x::xs=> okU n x && okUs n xs
end
theorem iI:∀ {n:Nat} {xs:List U} {i:Nat} {x:U},okUs n xs=true→xs[i]?=some x→okU n x=true
 | n,[],i,x,_,h=> by simp at h
 | n,y::xs,0,x,h,e=> by simp at e; subst e; simp [okUs] at h; exact h.1
 | n,y::xs,i+1,x,h,e=> by simp [okUs] at h; exact iI (i:=i) h.2 (by simpa using e)
theorem dB:∀ (xs ys:List U),((List.range (min xs.length ys.length)).all (fun j=> eqW (xs.getD j .non) (ys.getD j .non)) && xs.length==ys.length)=eqWs xs ys
 | [],[]=> rfl
 | [],y::ys=> by simp [eqWs]
 | x::xs,[]=> by simp [eqWs]
 | x::xs,y::ys=> by
  have ih:=dB xs ys
  rw [eqWs,← ih]
  simp only [List.length_cons,Nat.succ_min_succ]
  rw [List.range_succ_eq_map,List.all_cons,List.all_map]
  have e:((xs.length+1==ys.length+1))=(xs.length==ys.length):=by simp
  rw [e,Bool.and_assoc]
  rfl
theorem Rp.one {X:Cx} {pins:List (Addr×Obj)} {σ:St} {H:Hp} {s:Shared} (I:Inv X pins σ H s) {v:V} {x:U} (h:Rp X.K H v x):∀ {n:Nat} {y:U},Rp X.K H v y→okU n x=true→eqW x y=true:=by
 have key:∀ {vs ws:List V} {xs ys:List U},vs=ws→vs.length=xs.length→ws.length=ys.length→(∀ (i:Nat) (x y:U),xs[i]?=some x→ys[i]?=some y→eqW x y=true)→eqWs xs ys=true:=fun {vs ws xs ys} e h1 h2 hh=> by
  subst e
  rw [← dB,Bool.and_eq_true,qE]
  refine ⟨fun j hj=> ?_,by simp [← h1,← h2]⟩
  have j1:j < xs.length:=by omega
  have j2:j < ys.length:=by omega
  rw [List.getD_eq_getElem?_getD,List.getElem?_eq_getElem j1,List.getD_eq_getElem?_getD,List.getElem?_eq_getElem j2]
  exact hh j _ _ (List.getElem?_eq_getElem j1) (List.getElem?_eq_getElem j2)
 have key2:∀ {vs:List V} {xs ys:List U} {n:Nat},vs.length=xs.length→(∀ (i:Nat) (v:V) (x:U),vs[i]?=some v→xs[i]?=some x→∀ {n:Nat} {y:U},Rp X.K H v y→okU n x=true→eqW x y=true)→(∀ (i:Nat) (v:V) (y:U),vs[i]?=some v→ys[i]?=some y→Rp X.K H v y)→okUs n xs=true→
   ∀ (i:Nat) (x y:U),xs[i]?=some x→ys[i]?=some y→eqW x y=true:=fun {vs xs ys n} h1 ih hi ok i x y e1 e2=> by
  have hlt:i < vs.length:=by rw [h1]; exact aB e1
  exact ih i _ x (List.getElem?_eq_getElem hlt) e1 (hi i _ y (List.getElem?_eq_getElem hlt) e2) (iI ok e1)
 induction h with
 | non=> intro n y q _; cases q; rfl
 | bl b=> intro n y q _; cases q; simp [eqW]
 | int i=> intro n y q _; cases q; simp [eqW]
 | str i=> intro n y q _; cases q; simp [eqW]
 | ty=> intro n y q ok; simp [okU] at ok
 | dic=> intro n y q ok; simp [okU] at ok
 | xc=> intro n y q ok; simp [okU] at ok
 | @scr a vs xs hq hl hi ih=>
  intro n y q ok
  cases n with
  | zero=> simp [okU] at ok
  | succ n=>
   rw [okU] at ok
   cases q with
   | scr hq' hl' hi'=> rw [eqW]; have e:=I.list_inj hq hq'; subst e; exact key rfl hl hl' (key2 hl (fun i v x a b=> ih i v x a b) hi' ok)
   | lst hq' hl' hi'=> rw [eqW]; have e:=I.list_inj hq (SqL.of hq'); subst e; exact key rfl hl hl' (key2 hl (fun i v x a b=> ih i v x a b) hi' ok)
   | xc hq' kk=>
    exfalso
    obtain ⟨_,_,pl,_⟩:=I.list hq
    obtain ⟨o,n,e,c,_⟩:=pl
    exact PySem.W.XcOk.off (I.hok _ _ hq').1 e c
   | dic hq'=>
    exfalso
    obtain ⟨_,_,pl,_⟩:=I.list hq
    obtain ⟨o,n,e,c,_⟩:=pl
    obtain ⟨_,_,_,_,o',_,_,e',ex,_⟩:=I.hok _ _ hq'
    rw [e] at e'; cases e'
    rw [ex.1] at c; exact absurd (Value.type.inj c) (by decide)
   | tup hq' hl' hi'=>
    exfalso
    obtain ⟨_,_,pl,_⟩:=I.list hq
    obtain ⟨_,_,pt,_⟩:=I.tuple hq'
    exact SeqAt.ne_of_list_tuple pl.isList pt rfl
 | @tup a vs xs hq hl hi ih=>
  intro n y q ok
  cases n with
  | zero=> simp [okU] at ok
  | succ n=>
   rw [okU] at ok
   cases q with
   | tup hq' hl' hi'=> rw [eqW]; have e:=I.tuple_inj hq hq'; subst e; exact key rfl hl hl' (key2 hl (fun i v x a b=> ih i v x a b) hi' ok)
   | scr hq' hl' hi'=>
    exfalso
    obtain ⟨_,_,pl,_⟩:=I.list hq'
    obtain ⟨_,_,pt,_⟩:=I.tuple hq
    exact SeqAt.ne_of_list_tuple pl.isList pt rfl
   | lst hq' hl' hi'=>
    exfalso
    obtain ⟨_,_,pl,_⟩:=I.list (SqL.of hq')
    obtain ⟨_,_,pt,_⟩:=I.tuple hq
    exact SeqAt.ne_of_list_tuple pl.isList pt rfl
   | xc hq' kk=>
    exfalso
    obtain ⟨_,_,pt,_⟩:=I.tuple hq
    obtain ⟨o,e,c,_⟩:=pt
    exact PySem.W.XcOk.off (I.hok _ _ hq').1 e c
   | dic hq'=>
    exfalso
    obtain ⟨_,_,pt,_⟩:=I.tuple hq
    obtain ⟨o,e,c,_⟩:=pt
    obtain ⟨_,_,_,_,o',_,_,e',ex,_⟩:=I.hok _ _ hq'
    rw [e] at e'; cases e'
    rw [ex.1] at c; exact absurd (Value.type.inj c) (by decide)
 | @lst a vs xs hq hl hi ih=>
  intro n y q ok
  cases n with
  | zero=> simp [okU] at ok
  | succ n=>
   rw [okU] at ok
   cases q with
   | lst hq' hl' hi'=> rw [eqW]; have e:=I.list_inj (SqL.of hq) (SqL.of hq'); subst e; exact key rfl hl hl' (key2 hl (fun i v x a b=> ih i v x a b) hi' ok)
   | scr hq' hl' hi'=> rw [eqW]; have e:=I.list_inj (SqL.of hq) hq'; subst e; exact key rfl hl hl' (key2 hl (fun i v x a b=> ih i v x a b) hi' ok)
   | tup hq' hl' hi'=>
    exfalso
    obtain ⟨_,_,pl,_⟩:=I.list (SqL.of hq)
    obtain ⟨_,_,pt,_⟩:=I.tuple hq'
    exact SeqAt.ne_of_list_tuple pl.isList pt rfl
   | xc hq' kk=>
    exfalso
    rw [hq] at hq'; cases hq'
   | dic hq'=>
    exfalso
    rw [hq] at hq'; cases hq'
theorem IsU.list {X:Cx} {pins:List (Addr×Obj)} {σ:St} {H:Hp} {s:Shared} (I:Inv X pins σ H s) {a:Addr} {xs:List U} {vs:List V} (h:SqL X.K H a vs) (hl:vs.length=xs.length):∃ its:List Value,aR vs its∧s.heap.IsList a its.toArray∧its.length=xs.length:=by
 obtain ⟨its,r,pl,_⟩:=I.list h
 exact ⟨its,r,pl.isList,by rw [← r.length,hl]⟩
theorem IsU.tup {X:Cx} {pins:List (Addr×Obj)} {σ:St} {H:Hp} {s:Shared} (I:Inv X pins σ H s) {a:Addr} {xs:List U} {vs:List V} (h:SqT X.K H a vs) (hl:vs.length=xs.length):∃ its:List Value,aR vs its∧IsTup s.heap a its.toArray∧its.length=xs.length:=by
 obtain ⟨its,r,pl,_⟩:=I.tuple h
 exact ⟨its,r,pl,by rw [← r.length,hl]⟩
section
variable {X:Cx} {pins:List (Addr×Obj)} {σ:St} {H:Hp} {s:Shared}
theorem cG (I:Inv X pins σ H s) {n:Nat} {vs ws:List V} {xs ys:List U} {its its2:List Value} (r1:aR vs its) (r2:aR ws its2) (hl1:vs.length=xs.length) (hl2:ws.length=ys.length)
  (h1:∀ (i:Nat) (v:V) (x:U),vs[i]?=some v→xs[i]?=some x→Rp X.K H v x) (h2:∀ (i:Nat) (v:V) (x:U),ws[i]?=some v→ys[i]?=some x→Rp X.K H v x) (ok1:okUs n xs=true) (ok2:okUs n ys=true) {A:Around}
  (rc0:∀ (x y:U) (v w:V) (p q:Value),Rp X.K H v x→Rp X.K H w y→bn v p→bn w q→okU n x=true→okU n y=true→SeqAt.RcAt A.in1 s p q (eqW x y)) (hu:A.units+n+1 < cLine)
  (j:Nat) (j1:j < its.length) (j2:j < its2.length):SeqAt.EqAt A.in1 s its[j] its2[j] (eqW (xs.getD j .non) (ys.getD j .non)):=by
 have a1:j < vs.length:=by rw [r1.length]; exact j1
 have a2:j < ws.length:=by rw [r2.length]; exact j2
 have b1:j < xs.length:=by omega
 have b2:j < ys.length:=by omega
 rw [List.getD_eq_getElem?_getD,List.getElem?_eq_getElem b1,List.getD_eq_getElem?_getD,List.getElem?_eq_getElem b2,Option.getD_some,Option.getD_some]
 have R1:=h1 j vs[j] xs[j] (List.getElem?_eq_getElem a1) (List.getElem?_eq_getElem b1)
 have R2:=h2 j ws[j] ys[j] (List.getElem?_eq_getElem a2) (List.getElem?_eq_getElem b2)
 obtain ⟨u1,e1,q1⟩:=r1.get (List.getElem?_eq_getElem a1)
 obtain ⟨u2,e2,q2⟩:=r2.get (List.getElem?_eq_getElem a2)
 rw [List.getElem?_eq_getElem j1] at e1
 rw [List.getElem?_eq_getElem j2] at e2
 cases e1; cases e2
 have o1:=iI ok1 (List.getElem?_eq_getElem b1)
 have o2:=iI ok2 (List.getElem?_eq_getElem b2)
 generalize vs[j]=v at *
 generalize ws[j]=w at *
 generalize its[j]=p at *
 generalize its2[j]=q at *
 generalize xs[j]=x at *
 generalize ys[j]=y at *
 have main:=rc0 x y v w p q R1 R2 q1 q2 o1 o2
 have ref_ref:∀ (a b:Addr),p=.ref a→q=.ref b→SeqAt.EqAt A.in1 s p q (eqW x y):=fun a b ea eb=> by
  subst ea eb
  by_cases e:a=b
  ·subst e
   have e2:v=w:=q1.inj q2
   subst e2
   rw [R1.one I R2 o1]
   exact SeqAt.EqAt.same _
  ·exact SeqAt.EqAt.of_refs e main
 have hu1:A.in1.units < cLine:=by show A.units+1 < _; omega
 cases R1 with
 | non=>
  cases (show p=Value.none from q1)
  cases R2 with
  | non=> cases (show q=Value.none from q2); exact SeqAt.EqAt.same _
  | bl b=> cases (show q=Value.bool b from q2); exact SeqAt.EqAt.none_bool b
  | int i=> obtain ⟨t,rfl⟩:=(show ∃ t,q=Value.int i t from q2); exact SeqAt.EqAt.none_int i t
  | str i=> obtain ⟨t,rfl⟩:=(show ∃ t,q=Value.str i t from q2); exact SeqAt.EqAt.none_str i t
  | ty=> simp [okU] at o2
  | dic=> simp [okU] at o2
  | xc=> simp [okU] at o2
  | scr hq hl hi=> cases q2; obtain ⟨_,_,pl,_⟩:=IsU.list I hq hl; exact SeqAt.EqAt.none_list pl hu1
  | tup hq hl hi=> cases q2; obtain ⟨_,_,pl,_⟩:=IsU.tup I hq hl; exact SeqAt.EqAt.none_tuple pl hu1
  | lst hq hl hi=> cases q2; obtain ⟨_,_,pl,_⟩:=IsU.list I (SqL.of hq) hl; exact SeqAt.EqAt.none_list pl hu1
 | bl c=>
  cases (show p=Value.bool c from q1)
  cases R2 with
  | non=> cases (show q=Value.none from q2); exact SeqAt.EqAt.bool_none c
  | bl b=> cases (show q=Value.bool b from q2); exact SeqAt.EqAt.bool_bool c b
  | int i=> obtain ⟨t,rfl⟩:=(show ∃ t,q=Value.int i t from q2); exact SeqAt.EqAt.bool_int c i t
  | str i=> obtain ⟨t,rfl⟩:=(show ∃ t,q=Value.str i t from q2); exact SeqAt.EqAt.bool_str c i t
  | ty=> simp [okU] at o2
  | dic=> simp [okU] at o2
  | xc=> simp [okU] at o2
  | scr hq hl hi=> cases q2; obtain ⟨_,_,pl,_⟩:=IsU.list I hq hl; exact SeqAt.EqAt.bool_list c pl hu1
  | tup hq hl hi=> cases q2; obtain ⟨_,_,pl,_⟩:=IsU.tup I hq hl; exact SeqAt.EqAt.bool_tuple c pl hu1
  | lst hq hl hi=> cases q2; obtain ⟨_,_,pl,_⟩:=IsU.list I (SqL.of hq) hl; exact SeqAt.EqAt.bool_list c pl hu1
 | int c=>
  obtain ⟨t0,rfl⟩:=(show ∃ t,p=Value.int c t from q1)
  cases R2 with
  | non=> cases (show q=Value.none from q2); exact SeqAt.EqAt.int_none c t0
  | bl b=> cases (show q=Value.bool b from q2); exact SeqAt.EqAt.int_bool c t0 b
  | int i=> obtain ⟨t,rfl⟩:=(show ∃ t,q=Value.int i t from q2); exact SeqAt.EqAt.int_int c t0 i t
  | str i=> obtain ⟨t,rfl⟩:=(show ∃ t,q=Value.str i t from q2); exact SeqAt.EqAt.int_str c t0 i t
  | ty=> simp [okU] at o2
  | dic=> simp [okU] at o2
  | xc=> simp [okU] at o2
  | scr hq hl hi=> cases q2; obtain ⟨_,_,pl,_⟩:=IsU.list I hq hl; exact SeqAt.EqAt.int_list c t0 pl hu1
  | tup hq hl hi=> cases q2; obtain ⟨_,_,pl,_⟩:=IsU.tup I hq hl; exact SeqAt.EqAt.int_tuple c t0 pl hu1
  | lst hq hl hi=> cases q2; obtain ⟨_,_,pl,_⟩:=IsU.list I (SqL.of hq) hl; exact SeqAt.EqAt.int_list c t0 pl hu1
 | str c=>
  obtain ⟨t0,rfl⟩:=(show ∃ t,p=Value.str c t from q1)
  cases R2 with
  | non=> cases (show q=Value.none from q2); exact SeqAt.EqAt.str_none c t0
  | bl b=> cases (show q=Value.bool b from q2); exact SeqAt.EqAt.str_bool c t0 b
  | int i=> obtain ⟨t,rfl⟩:=(show ∃ t,q=Value.int i t from q2); exact SeqAt.EqAt.str_int c t0 i t
  | str i=> obtain ⟨t,rfl⟩:=(show ∃ t,q=Value.str i t from q2); exact SeqAt.EqAt.str_str c t0 i t
  | ty=> simp [okU] at o2
  | dic=> simp [okU] at o2
  | xc=> simp [okU] at o2
  | scr hq hl hi=> cases q2; obtain ⟨_,_,pl,_⟩:=IsU.list I hq hl; exact SeqAt.EqAt.str_list c t0 pl hu1
  | tup hq hl hi=> cases q2; obtain ⟨_,_,pl,_⟩:=IsU.tup I hq hl; exact SeqAt.EqAt.str_tuple c t0 pl hu1
  | lst hq hl hi=> cases q2; obtain ⟨_,_,pl,_⟩:=IsU.list I (SqL.of hq) hl; exact SeqAt.EqAt.str_list c t0 pl hu1
 | ty=> simp [okU] at o1
 | dic=> simp [okU] at o1
 | xc=> simp [okU] at o1
 | @scr a vs xs hq hl hi=>
  cases q1
  obtain ⟨_,_,pl,_⟩:=IsU.list I hq hl
  cases R2 with
  | non=> cases (show q=Value.none from q2); exact SeqAt.EqAt.list_none pl hu1
  | bl b=> cases (show q=Value.bool b from q2); exact SeqAt.EqAt.list_bool b pl hu1
  | int i=> obtain ⟨t,rfl⟩:=(show ∃ t,q=Value.int i t from q2); exact SeqAt.EqAt.list_int i t pl hu1
  | str i=> obtain ⟨t,rfl⟩:=(show ∃ t,q=Value.str i t from q2); exact SeqAt.EqAt.list_str i t pl hu1
  | ty=> simp [okU] at o2
  | dic=> simp [okU] at o2
  | xc=> simp [okU] at o2
  | scr=> exact ref_ref _ _ rfl q2
  | tup=> exact ref_ref _ _ rfl q2
  | lst=> exact ref_ref _ _ rfl q2
 | @lst a vs xs hq hl hi=>
  cases q1
  obtain ⟨_,_,pl,_⟩:=IsU.list I (SqL.of hq) hl
  cases R2 with
  | non=> cases (show q=Value.none from q2); exact SeqAt.EqAt.list_none pl hu1
  | bl b=> cases (show q=Value.bool b from q2); exact SeqAt.EqAt.list_bool b pl hu1
  | int i=> obtain ⟨t,rfl⟩:=(show ∃ t,q=Value.int i t from q2); exact SeqAt.EqAt.list_int i t pl hu1
  | str i=> obtain ⟨t,rfl⟩:=(show ∃ t,q=Value.str i t from q2); exact SeqAt.EqAt.list_str i t pl hu1
  | ty=> simp [okU] at o2
  | dic=> simp [okU] at o2
  | xc=> simp [okU] at o2
  | scr=> exact ref_ref _ _ rfl q2
  | tup=> exact ref_ref _ _ rfl q2
  | lst=> exact ref_ref _ _ rfl q2
 | @tup a vs xs hq hl hi=>
  cases q1
  obtain ⟨_,_,pl,_⟩:=IsU.tup I hq hl
  cases R2 with
  | non=> cases (show q=Value.none from q2); exact SeqAt.EqAt.tuple_none pl hu1
  | bl b=> cases (show q=Value.bool b from q2); exact SeqAt.EqAt.tuple_bool b pl hu1
  | int i=> obtain ⟨t,rfl⟩:=(show ∃ t,q=Value.int i t from q2); exact SeqAt.EqAt.tuple_int i t pl hu1
  | str i=> obtain ⟨t,rfl⟩:=(show ∃ t,q=Value.str i t from q2); exact SeqAt.EqAt.tuple_str i t pl hu1
  | ty=> simp [okU] at o2
  | dic=> simp [okU] at o2
  | xc=> simp [okU] at o2
  | scr=> exact ref_ref _ _ rfl q2
  | tup=> exact ref_ref _ _ rfl q2
  | lst=> exact ref_ref _ _ rfl q2
theorem gJ {A:Around} {n:Nat} {a b:Addr} {xs ys:List U} {its its2:List Value} (p1:s.heap.IsList a its.toArray) (p2:s.heap.IsList b its2.toArray) (l1:its.length=xs.length) (l2:its2.length=ys.length) (hu:A.units+n < cLine)
  (he:∀ (j:Nat) (j1:j < its.length) (j2:j < its2.length),SeqAt.EqAt A.in1 s its[j] its2[j] (eqW (xs.getD j .non) (ys.getD j .non))):SeqAt.RcAt A s (.ref a) (.ref b) (eqWs xs ys):=by
 by_cases hl:its.length=its2.length
 ·have:=SeqAt.RcAt.lists (A:=A) (s:=s) (e:=fun j=> eqW (xs.getD j .non) (ys.getD j .non)) p1 p2 (by simpa using hl) (by omega) (fun j h1 h2=> by simpa using he j (by simpa using h1) (by simpa using h2))
  rw [← dB,← l1,← l2,hl,Nat.min_self,beq_self_eq_true,Bool.and_true]
  rwa [List.size_toArray,hl] at this
 ·have:=SeqAt.RcAt.lists_lengths (A:=A) (s:=s) p1 p2 (by simpa using hl) (by omega)
  rw [← dB,← l1,← l2,show (its.length==its2.length)=false by simpa using hl,Bool.and_false]
  exact this
theorem vD {A:Around} {n:Nat} {a b:Addr} {xs ys:List U} {its its2:List Value} (p1:IsTup s.heap a its.toArray) (p2:IsTup s.heap b its2.toArray) (l1:its.length=xs.length) (l2:its2.length=ys.length) (hu:A.units+n < cLine)
  (he:∀ (j:Nat) (j1:j < its.length) (j2:j < its2.length),SeqAt.EqAt A.in1 s its[j] its2[j] (eqW (xs.getD j .non) (ys.getD j .non))):SeqAt.RcAt A s (.ref a) (.ref b) (eqWs xs ys):=by
 have:=SeqAt.RcAt.tuples (A:=A) (s:=s) (e:=fun j=> eqW (xs.getD j .non) (ys.getD j .non)) p1 p2 (by omega) (fun j h1 h2=> by simpa using he j (by simpa using h1) (by simpa using h2))
 rw [List.size_toArray,List.size_toArray,l1,l2,dB] at this
 exact this
theorem yd (I:Inv X pins σ H s):∀ (n:Nat) (A:Around) (x y:U) (v w:V) (p q:Value),Rp X.K H v x→Rp X.K H w y→bn v p→bn w q→okU n x=true→okU n y=true→A.units+n < cLine→SeqAt.RcAt A s p q (eqW x y):=by
 intro n
 induction n with
 | zero=>
  intro A x y v w p q R1 R2 q1 q2 o1 o2 hu
  cases R1 with
  | non=>
   cases (show p=Value.none from q1)
   cases R2 with
   | non=> cases (show q=Value.none from q2); exact SeqAt.RcAt.none_none
   | bl b=> cases (show q=Value.bool b from q2); exact SeqAt.RcAt.none_bool b
   | int i=> obtain ⟨t,rfl⟩:=(show ∃ t,q=Value.int i t from q2); exact SeqAt.RcAt.none_int i t
   | str i=> obtain ⟨t,rfl⟩:=(show ∃ t,q=Value.str i t from q2); exact SeqAt.RcAt.none_str i t
   | _=> simp [okU] at o2
  | bl c=>
   cases (show p=Value.bool c from q1)
   cases R2 with
   | non=> cases (show q=Value.none from q2); exact SeqAt.RcAt.bool_none c
   | bl b=> cases (show q=Value.bool b from q2); exact SeqAt.RcAt.bool_bool c b
   | int i=> obtain ⟨t,rfl⟩:=(show ∃ t,q=Value.int i t from q2); exact SeqAt.RcAt.bool_int c i t
   | str i=> obtain ⟨t,rfl⟩:=(show ∃ t,q=Value.str i t from q2); exact SeqAt.RcAt.bool_str c i t
   | _=> simp [okU] at o2
  | int c=>
   obtain ⟨t0,rfl⟩:=(show ∃ t,p=Value.int c t from q1)
   cases R2 with
   | non=> cases (show q=Value.none from q2); exact SeqAt.RcAt.int_none c t0
   | bl b=> cases (show q=Value.bool b from q2); exact SeqAt.RcAt.int_bool c t0 b
   | int i=> obtain ⟨t,rfl⟩:=(show ∃ t,q=Value.int i t from q2); exact SeqAt.RcAt.int_int c t0 i t
   | str i=> obtain ⟨t,rfl⟩:=(show ∃ t,q=Value.str i t from q2); exact SeqAt.RcAt.int_str c t0 i t
   | _=> simp [okU] at o2
  | str c=>
   obtain ⟨t0,rfl⟩:=(show ∃ t,p=Value.str c t from q1)
   cases R2 with
   | non=> cases (show q=Value.none from q2); exact SeqAt.RcAt.str_none c t0
   | bl b=> cases (show q=Value.bool b from q2); exact SeqAt.RcAt.str_bool c t0 b
   | int i=> obtain ⟨t,rfl⟩:=(show ∃ t,q=Value.int i t from q2); exact SeqAt.RcAt.str_int c t0 i t
   | str i=> obtain ⟨t,rfl⟩:=(show ∃ t,q=Value.str i t from q2); exact SeqAt.RcAt.str_str c t0 i t
   | _=> simp [okU] at o2
  | _=> simp [okU] at o1
 | succ n ih=>
  intro A x y v w p q R1 R2 q1 q2 o1 o2 hu
  have hu1:A.units < cLine:=by omega
  have rc0:∀ (x y:U) (v w:V) (p q:Value),Rp X.K H v x→Rp X.K H w y→bn v p→bn w q→okU n x=true→okU n y=true→SeqAt.RcAt A.in1 s p q (eqW x y):=fun x y v w p q r1 r2 k1 k2 z1 z2=> ih A.in1 x y v w p q r1 r2 k1 k2 z1 z2 (by show A.units+1+n < _; omega)
  cases R1 with
  | non=>
   cases (show p=Value.none from q1)
   cases R2 with
   | non=> cases (show q=Value.none from q2); exact SeqAt.RcAt.none_none
   | bl b=> cases (show q=Value.bool b from q2); exact SeqAt.RcAt.none_bool b
   | int i=> obtain ⟨t,rfl⟩:=(show ∃ t,q=Value.int i t from q2); exact SeqAt.RcAt.none_int i t
   | str i=> obtain ⟨t,rfl⟩:=(show ∃ t,q=Value.str i t from q2); exact SeqAt.RcAt.none_str i t
   | ty=> simp [okU] at o2
   | dic=> simp [okU] at o2
   | xc=> simp [okU] at o2
   | scr hq hl hi=> cases q2; obtain ⟨_,_,pl,_⟩:=IsU.list I hq hl; exact SeqAt.RcAt.none_list pl hu1
   | tup hq hl hi=> cases q2; obtain ⟨_,_,pl,_⟩:=IsU.tup I hq hl; exact SeqAt.RcAt.none_tuple pl hu1
   | lst hq hl hi=> cases q2; obtain ⟨_,_,pl,_⟩:=IsU.list I (SqL.of hq) hl; exact SeqAt.RcAt.none_list pl hu1
  | bl c=>
   cases (show p=Value.bool c from q1)
   cases R2 with
   | non=> cases (show q=Value.none from q2); exact SeqAt.RcAt.bool_none c
   | bl b=> cases (show q=Value.bool b from q2); exact SeqAt.RcAt.bool_bool c b
   | int i=> obtain ⟨t,rfl⟩:=(show ∃ t,q=Value.int i t from q2); exact SeqAt.RcAt.bool_int c i t
   | str i=> obtain ⟨t,rfl⟩:=(show ∃ t,q=Value.str i t from q2); exact SeqAt.RcAt.bool_str c i t
   | ty=> simp [okU] at o2
   | dic=> simp [okU] at o2
   | xc=> simp [okU] at o2
   | scr hq hl hi=> cases q2; obtain ⟨_,_,pl,_⟩:=IsU.list I hq hl; exact SeqAt.RcAt.bool_list c pl hu1
   | tup hq hl hi=> cases q2; obtain ⟨_,_,pl,_⟩:=IsU.tup I hq hl; exact SeqAt.RcAt.bool_tuple c pl hu1
   | lst hq hl hi=> cases q2; obtain ⟨_,_,pl,_⟩:=IsU.list I (SqL.of hq) hl; exact SeqAt.RcAt.bool_list c pl hu1
  | int c=>
   obtain ⟨t0,rfl⟩:=(show ∃ t,p=Value.int c t from q1)
   cases R2 with
   | non=> cases (show q=Value.none from q2); exact SeqAt.RcAt.int_none c t0
   | bl b=> cases (show q=Value.bool b from q2); exact SeqAt.RcAt.int_bool c t0 b
   | int i=> obtain ⟨t,rfl⟩:=(show ∃ t,q=Value.int i t from q2); exact SeqAt.RcAt.int_int c t0 i t
   | str i=> obtain ⟨t,rfl⟩:=(show ∃ t,q=Value.str i t from q2); exact SeqAt.RcAt.int_str c t0 i t
   | ty=> simp [okU] at o2
   | dic=> simp [okU] at o2
   | xc=> simp [okU] at o2
   | scr hq hl hi=> cases q2; obtain ⟨_,_,pl,_⟩:=IsU.list I hq hl; exact SeqAt.RcAt.int_list c t0 pl hu1
   | tup hq hl hi=> cases q2; obtain ⟨_,_,pl,_⟩:=IsU.tup I hq hl; exact SeqAt.RcAt.int_tuple c t0 pl hu1
   | lst hq hl hi=> cases q2; obtain ⟨_,_,pl,_⟩:=IsU.list I (SqL.of hq) hl; exact SeqAt.RcAt.int_list c t0 pl hu1
  | str c=>
   obtain ⟨t0,rfl⟩:=(show ∃ t,p=Value.str c t from q1)
   cases R2 with
   | non=> cases (show q=Value.none from q2); exact SeqAt.RcAt.str_none c t0
   | bl b=> cases (show q=Value.bool b from q2); exact SeqAt.RcAt.str_bool c t0 b
   | int i=> obtain ⟨t,rfl⟩:=(show ∃ t,q=Value.int i t from q2); exact SeqAt.RcAt.str_int c t0 i t
   | str i=> obtain ⟨t,rfl⟩:=(show ∃ t,q=Value.str i t from q2); exact SeqAt.RcAt.str_str c t0 i t
   | ty=> simp [okU] at o2
   | dic=> simp [okU] at o2
   | xc=> simp [okU] at o2
   | scr hq hl hi=> cases q2; obtain ⟨_,_,pl,_⟩:=IsU.list I hq hl; exact SeqAt.RcAt.str_list c t0 pl hu1
   | tup hq hl hi=> cases q2; obtain ⟨_,_,pl,_⟩:=IsU.tup I hq hl; exact SeqAt.RcAt.str_tuple c t0 pl hu1
   | lst hq hl hi=> cases q2; obtain ⟨_,_,pl,_⟩:=IsU.list I (SqL.of hq) hl; exact SeqAt.RcAt.str_list c t0 pl hu1
  | ty=> simp [okU] at o1
  | dic=> simp [okU] at o1
  | xc=> simp [okU] at o1
  | @scr a vs xs hq hl hi=>
   cases q1
   obtain ⟨its,r1,pl,l1⟩:=IsU.list I hq hl
   rw [okU] at o1
   cases R2 with
   | non=> cases (show q=Value.none from q2); exact SeqAt.RcAt.list_none pl hu1
   | bl b=> cases (show q=Value.bool b from q2); exact SeqAt.RcAt.list_bool b pl hu1
   | int i=> obtain ⟨t,rfl⟩:=(show ∃ t,q=Value.int i t from q2); exact SeqAt.RcAt.list_int i t pl hu1
   | str i=> obtain ⟨t,rfl⟩:=(show ∃ t,q=Value.str i t from q2); exact SeqAt.RcAt.list_str i t pl hu1
   | ty=> simp [okU] at o2
   | dic=> simp [okU] at o2
   | xc=> simp [okU] at o2
   | scr hq' hl' hi'=> cases q2; rw [okU] at o2; obtain ⟨its2,r2,pl2,l2⟩:=IsU.list I hq' hl'; rw [eqW]; exact gJ pl pl2 l1 l2 hu (cG I r1 r2 hl hl' hi hi' o1 o2 rc0 (by omega))
   | lst hq' hl' hi'=> cases q2; rw [okU] at o2; obtain ⟨its2,r2,pl2,l2⟩:=IsU.list I (SqL.of hq') hl'; rw [eqW]; exact gJ pl pl2 l1 l2 hu (cG I r1 r2 hl hl' hi hi' o1 o2 rc0 (by omega))
   | tup hq' hl' hi'=> cases q2; obtain ⟨its2,r2,pl2,l2⟩:=IsU.tup I hq' hl'; exact SeqAt.RcAt.list_tuple pl pl2 hu1
  | @lst a vs xs hq hl hi=>
   cases q1
   obtain ⟨its,r1,pl,l1⟩:=IsU.list I (SqL.of hq) hl
   rw [okU] at o1
   cases R2 with
   | non=> cases (show q=Value.none from q2); exact SeqAt.RcAt.list_none pl hu1
   | bl b=> cases (show q=Value.bool b from q2); exact SeqAt.RcAt.list_bool b pl hu1
   | int i=> obtain ⟨t,rfl⟩:=(show ∃ t,q=Value.int i t from q2); exact SeqAt.RcAt.list_int i t pl hu1
   | str i=> obtain ⟨t,rfl⟩:=(show ∃ t,q=Value.str i t from q2); exact SeqAt.RcAt.list_str i t pl hu1
   | ty=> simp [okU] at o2
   | dic=> simp [okU] at o2
   | xc=> simp [okU] at o2
   | scr hq' hl' hi'=> cases q2; rw [okU] at o2; obtain ⟨its2,r2,pl2,l2⟩:=IsU.list I hq' hl'; rw [eqW]; exact gJ pl pl2 l1 l2 hu (cG I r1 r2 hl hl' hi hi' o1 o2 rc0 (by omega))
   | lst hq' hl' hi'=> cases q2; rw [okU] at o2; obtain ⟨its2,r2,pl2,l2⟩:=IsU.list I (SqL.of hq') hl'; rw [eqW]; exact gJ pl pl2 l1 l2 hu (cG I r1 r2 hl hl' hi hi' o1 o2 rc0 (by omega))
   | tup hq' hl' hi'=> cases q2; obtain ⟨its2,r2,pl2,l2⟩:=IsU.tup I hq' hl'; exact SeqAt.RcAt.list_tuple pl pl2 hu1
  | @tup a vs xs hq hl hi=>
   cases q1
   obtain ⟨its,r1,pl,l1⟩:=IsU.tup I hq hl
   rw [okU] at o1
   cases R2 with
   | non=> cases (show q=Value.none from q2); exact SeqAt.RcAt.tuple_none pl hu1
   | bl b=> cases (show q=Value.bool b from q2); exact SeqAt.RcAt.tuple_bool b pl hu1
   | int i=> obtain ⟨t,rfl⟩:=(show ∃ t,q=Value.int i t from q2); exact SeqAt.RcAt.tuple_int i t pl hu1
   | str i=> obtain ⟨t,rfl⟩:=(show ∃ t,q=Value.str i t from q2); exact SeqAt.RcAt.tuple_str i t pl hu1
   | ty=> simp [okU] at o2
   | dic=> simp [okU] at o2
   | xc=> simp [okU] at o2
   | scr hq' hl' hi'=> cases q2; obtain ⟨its2,r2,pl2,l2⟩:=IsU.list I hq' hl'; exact SeqAt.RcAt.tuple_list pl pl2 hu1
   | lst hq' hl' hi'=> cases q2; obtain ⟨its2,r2,pl2,l2⟩:=IsU.list I (SqL.of hq') hl'; exact SeqAt.RcAt.tuple_list pl pl2 hu1
   | tup hq' hl' hi'=> cases q2; rw [okU] at o2; obtain ⟨its2,r2,pl2,l2⟩:=IsU.tup I hq' hl'; rw [eqW]; exact vD pl pl2 l1 l2 hu (cG I r1 r2 hl hl' hi hi' o1 o2 rc0 (by omega))
end
end L2
namespace L2
open PySem PySem.Spec PyProof.Rows
section
variable {X:Cx} {pins:List (Addr×Obj)} {σ:St} {H:Hp} {s:Shared}
theorem fo {A:Around} {n:Nat} {a b:Addr} {xs ys:List U} {its its2:List Value} (p1:s.heap.IsList a its.toArray) (p2:s.heap.IsList b its2.toArray) (l1:its.length=xs.length) (l2:its2.length=ys.length) (hu:A.units+n < cLine)
  (he:∀ (j:Nat) (j1:j < its.length) (j2:j < its2.length),SeqAt.EqAt A.in1 s its[j] its2[j] (eqW (xs.getD j .non) (ys.getD j .non))):SeqAt.RcNeAt A s (.ref a) (.ref b) (!eqWs xs ys):=by
 by_cases hl:its.length=its2.length
 ·have:=SeqAt.RcNeAt.lists (A:=A) (s:=s) (e:=fun j=> eqW (xs.getD j .non) (ys.getD j .non)) p1 p2 (by simpa using hl) (by omega) (fun j h1 h2=> by simpa using he j (by simpa using h1) (by simpa using h2))
  rw [← dB,← l1,← l2,hl,Nat.min_self,beq_self_eq_true,Bool.and_true]
  rwa [List.size_toArray,hl] at this
 ·have:=SeqAt.RcNeAt.lists_lengths (A:=A) (s:=s) p1 p2 (by simpa using hl) (by omega)
  rw [← dB,← l1,← l2,show (its.length==its2.length)=false by simpa using hl,Bool.and_false]
  exact this
theorem qk {A:Around} {n:Nat} {a b:Addr} {xs ys:List U} {its its2:List Value} (p1:IsTup s.heap a its.toArray) (p2:IsTup s.heap b its2.toArray) (l1:its.length=xs.length) (l2:its2.length=ys.length) (hu:A.units+n < cLine)
  (he:∀ (j:Nat) (j1:j < its.length) (j2:j < its2.length),SeqAt.EqAt A.in1 s its[j] its2[j] (eqW (xs.getD j .non) (ys.getD j .non))):SeqAt.RcNeAt A s (.ref a) (.ref b) (!eqWs xs ys):=by
 have:=SeqAt.RcNeAt.tuples (A:=A) (s:=s) (e:=fun j=> eqW (xs.getD j .non) (ys.getD j .non)) p1 p2 (by omega) (fun j h1 h2=> by simpa using he j (by simpa using h1) (by simpa using h2))
 rw [List.size_toArray,List.size_toArray,l1,l2,dB] at this
 exact this
theorem xl (I:Inv X pins σ H s) (n:Nat) (A:Around) (x y:U) (v w:V) (p q:Value) (R1:Rp X.K H v x) (R2:Rp X.K H w y) (q1:bn v p) (q2:bn w q) (o1:okU (n+1) x=true) (o2:okU (n+1) y=true) (hu:A.units+(n+1) < cLine):SeqAt.RcNeAt A s p q (!eqW x y):=by
 have hu1:A.units < cLine:=by omega
 have rc0:∀ (x y:U) (v w:V) (p q:Value),Rp X.K H v x→Rp X.K H w y→bn v p→bn w q→okU n x=true→okU n y=true→SeqAt.RcAt A.in1 s p q (eqW x y):=fun x y v w p q r1 r2 k1 k2 z1 z2=> yd I n A.in1 x y v w p q r1 r2 k1 k2 z1 z2 (by show A.units+1+n < _; omega)
 cases R1 with
 | ty=> simp [okU] at o1
 | dic=> simp [okU] at o1
 | xc=> simp [okU] at o1
 | non=>
  cases (show p=Value.none from q1)
  cases R2 with
  | ty=> simp [okU] at o2
  | dic=> simp [okU] at o2
  | xc=> simp [okU] at o2
  | non=> cases (show q=Value.none from q2); exact SeqAt.RcNeAt.none_none
  | bl c2=> cases (show q=Value.bool c2 from q2); exact SeqAt.RcNeAt.none_bool c2
  | int c2=> obtain ⟨t2,rfl⟩:=(show ∃ t,q=Value.int c2 t from q2); exact SeqAt.RcNeAt.none_int c2 t2
  | str c2=> obtain ⟨t2,rfl⟩:=(show ∃ t,q=Value.str c2 t from q2); exact SeqAt.RcNeAt.none_str c2 t2
  | scr hq2 hl2 hi2=> cases q2; obtain ⟨its2,r2,pl2,l2⟩:=IsU.list I hq2 hl2; exact SeqAt.RcNeAt.none_list pl2 hu1
  | tup hq2 hl2 hi2=> cases q2; obtain ⟨its2,r2,pl2,l2⟩:=IsU.tup I hq2 hl2; exact SeqAt.RcNeAt.none_tuple pl2 hu1
  | lst hq2 hl2 hi2=> cases q2; obtain ⟨its2,r2,pl2,l2⟩:=IsU.list I (SqL.of hq2) hl2; exact SeqAt.RcNeAt.none_list pl2 hu1
 | bl c1=>
  cases (show p=Value.bool c1 from q1)
  cases R2 with
  | ty=> simp [okU] at o2
  | dic=> simp [okU] at o2
  | xc=> simp [okU] at o2
  | non=> cases (show q=Value.none from q2); exact SeqAt.RcNeAt.bool_none c1
  | bl c2=> cases (show q=Value.bool c2 from q2); exact SeqAt.RcNeAt.bool_bool c1 c2
  | int c2=> obtain ⟨t2,rfl⟩:=(show ∃ t,q=Value.int c2 t from q2); exact SeqAt.RcNeAt.bool_int c1 c2 t2
  | str c2=> obtain ⟨t2,rfl⟩:=(show ∃ t,q=Value.str c2 t from q2); exact SeqAt.RcNeAt.bool_str c1 c2 t2
  | scr hq2 hl2 hi2=> cases q2; obtain ⟨its2,r2,pl2,l2⟩:=IsU.list I hq2 hl2; exact SeqAt.RcNeAt.bool_list c1 pl2 hu1
  | tup hq2 hl2 hi2=> cases q2; obtain ⟨its2,r2,pl2,l2⟩:=IsU.tup I hq2 hl2; exact SeqAt.RcNeAt.bool_tuple c1 pl2 hu1
  | lst hq2 hl2 hi2=> cases q2; obtain ⟨its2,r2,pl2,l2⟩:=IsU.list I (SqL.of hq2) hl2; exact SeqAt.RcNeAt.bool_list c1 pl2 hu1
 | int c1=>
  obtain ⟨t1,rfl⟩:=(show ∃ t,p=Value.int c1 t from q1)
  cases R2 with
  | ty=> simp [okU] at o2
  | dic=> simp [okU] at o2
  | xc=> simp [okU] at o2
  | non=> cases (show q=Value.none from q2); exact SeqAt.RcNeAt.int_none c1 t1
  | bl c2=> cases (show q=Value.bool c2 from q2); exact SeqAt.RcNeAt.int_bool c1 t1 c2
  | int c2=> obtain ⟨t2,rfl⟩:=(show ∃ t,q=Value.int c2 t from q2); exact SeqAt.RcNeAt.int_int c1 t1 c2 t2
  | str c2=> obtain ⟨t2,rfl⟩:=(show ∃ t,q=Value.str c2 t from q2); exact SeqAt.RcNeAt.int_str c1 t1 c2 t2
  | scr hq2 hl2 hi2=> cases q2; obtain ⟨its2,r2,pl2,l2⟩:=IsU.list I hq2 hl2; exact SeqAt.RcNeAt.int_list c1 t1 pl2 hu1
  | tup hq2 hl2 hi2=> cases q2; obtain ⟨its2,r2,pl2,l2⟩:=IsU.tup I hq2 hl2; exact SeqAt.RcNeAt.int_tuple c1 t1 pl2 hu1
  | lst hq2 hl2 hi2=> cases q2; obtain ⟨its2,r2,pl2,l2⟩:=IsU.list I (SqL.of hq2) hl2; exact SeqAt.RcNeAt.int_list c1 t1 pl2 hu1
 | str c1=>
  obtain ⟨t1,rfl⟩:=(show ∃ t,p=Value.str c1 t from q1)
  cases R2 with
  | ty=> simp [okU] at o2
  | dic=> simp [okU] at o2
  | xc=> simp [okU] at o2
  | non=> cases (show q=Value.none from q2); exact SeqAt.RcNeAt.str_none c1 t1
  | bl c2=> cases (show q=Value.bool c2 from q2); exact SeqAt.RcNeAt.str_bool c1 t1 c2
  | int c2=> obtain ⟨t2,rfl⟩:=(show ∃ t,q=Value.int c2 t from q2); exact SeqAt.RcNeAt.str_int c1 t1 c2 t2
  | str c2=> obtain ⟨t2,rfl⟩:=(show ∃ t,q=Value.str c2 t from q2); exact SeqAt.RcNeAt.str_str c1 t1 c2 t2
  | scr hq2 hl2 hi2=> cases q2; obtain ⟨its2,r2,pl2,l2⟩:=IsU.list I hq2 hl2; exact SeqAt.RcNeAt.str_list c1 t1 pl2 hu1
  | tup hq2 hl2 hi2=> cases q2; obtain ⟨its2,r2,pl2,l2⟩:=IsU.tup I hq2 hl2; exact SeqAt.RcNeAt.str_tuple c1 t1 pl2 hu1
  | lst hq2 hl2 hi2=> cases q2; obtain ⟨its2,r2,pl2,l2⟩:=IsU.list I (SqL.of hq2) hl2; exact SeqAt.RcNeAt.str_list c1 t1 pl2 hu1
 | scr hq1 hl1 hi1=>
  cases q1; obtain ⟨its1,r1,pl1,l1⟩:=IsU.list I hq1 hl1
  cases R2 with
  | ty=> simp [okU] at o2
  | dic=> simp [okU] at o2
  | xc=> simp [okU] at o2
  | non=> cases (show q=Value.none from q2); exact SeqAt.RcNeAt.list_none pl1 hu1
  | bl c2=> cases (show q=Value.bool c2 from q2); exact SeqAt.RcNeAt.list_bool c2 pl1 hu1
  | int c2=> obtain ⟨t2,rfl⟩:=(show ∃ t,q=Value.int c2 t from q2); exact SeqAt.RcNeAt.list_int c2 t2 pl1 hu1
  | str c2=> obtain ⟨t2,rfl⟩:=(show ∃ t,q=Value.str c2 t from q2); exact SeqAt.RcNeAt.list_str c2 t2 pl1 hu1
  | scr hq2 hl2 hi2=> cases q2; obtain ⟨its2,r2,pl2,l2⟩:=IsU.list I hq2 hl2; rw [okU] at o1; rw [okU] at o2; rw [eqW]; exact fo pl1 pl2 l1 l2 hu (cG I r1 r2 hl1 hl2 hi1 hi2 o1 o2 rc0 (by omega))
  | tup hq2 hl2 hi2=> cases q2; obtain ⟨its2,r2,pl2,l2⟩:=IsU.tup I hq2 hl2; exact SeqAt.RcNeAt.list_tuple pl1 pl2 hu1
  | lst hq2 hl2 hi2=> cases q2; obtain ⟨its2,r2,pl2,l2⟩:=IsU.list I (SqL.of hq2) hl2; rw [okU] at o1; rw [okU] at o2; rw [eqW]; exact fo pl1 pl2 l1 l2 hu (cG I r1 r2 hl1 hl2 hi1 hi2 o1 o2 rc0 (by omega))
 | tup hq1 hl1 hi1=>
  cases q1; obtain ⟨its1,r1,pl1,l1⟩:=IsU.tup I hq1 hl1
  cases R2 with
  | ty=> simp [okU] at o2
  | dic=> simp [okU] at o2
  | xc=> simp [okU] at o2
  | non=> cases (show q=Value.none from q2); exact SeqAt.RcNeAt.tuple_none pl1 hu1
  | bl c2=> cases (show q=Value.bool c2 from q2); exact SeqAt.RcNeAt.tuple_bool c2 pl1 hu1
  | int c2=> obtain ⟨t2,rfl⟩:=(show ∃ t,q=Value.int c2 t from q2); exact SeqAt.RcNeAt.tuple_int c2 t2 pl1 hu1
  | str c2=> obtain ⟨t2,rfl⟩:=(show ∃ t,q=Value.str c2 t from q2); exact SeqAt.RcNeAt.tuple_str c2 t2 pl1 hu1
  | scr hq2 hl2 hi2=> cases q2; obtain ⟨its2,r2,pl2,l2⟩:=IsU.list I hq2 hl2; exact SeqAt.RcNeAt.tuple_list pl1 pl2 hu1
  | tup hq2 hl2 hi2=> cases q2; obtain ⟨its2,r2,pl2,l2⟩:=IsU.tup I hq2 hl2; rw [okU] at o1; rw [okU] at o2; rw [eqW]; exact qk pl1 pl2 l1 l2 hu (cG I r1 r2 hl1 hl2 hi1 hi2 o1 o2 rc0 (by omega))
  | lst hq2 hl2 hi2=> cases q2; obtain ⟨its2,r2,pl2,l2⟩:=IsU.list I (SqL.of hq2) hl2; exact SeqAt.RcNeAt.tuple_list pl1 pl2 hu1
 | lst hq1 hl1 hi1=>
  cases q1; obtain ⟨its1,r1,pl1,l1⟩:=IsU.list I (SqL.of hq1) hl1
  cases R2 with
  | ty=> simp [okU] at o2
  | dic=> simp [okU] at o2
  | xc=> simp [okU] at o2
  | non=> cases (show q=Value.none from q2); exact SeqAt.RcNeAt.list_none pl1 hu1
  | bl c2=> cases (show q=Value.bool c2 from q2); exact SeqAt.RcNeAt.list_bool c2 pl1 hu1
  | int c2=> obtain ⟨t2,rfl⟩:=(show ∃ t,q=Value.int c2 t from q2); exact SeqAt.RcNeAt.list_int c2 t2 pl1 hu1
  | str c2=> obtain ⟨t2,rfl⟩:=(show ∃ t,q=Value.str c2 t from q2); exact SeqAt.RcNeAt.list_str c2 t2 pl1 hu1
  | scr hq2 hl2 hi2=> cases q2; obtain ⟨its2,r2,pl2,l2⟩:=IsU.list I hq2 hl2; rw [okU] at o1; rw [okU] at o2; rw [eqW]; exact fo pl1 pl2 l1 l2 hu (cG I r1 r2 hl1 hl2 hi1 hi2 o1 o2 rc0 (by omega))
  | tup hq2 hl2 hi2=> cases q2; obtain ⟨its2,r2,pl2,l2⟩:=IsU.tup I hq2 hl2; exact SeqAt.RcNeAt.list_tuple pl1 pl2 hu1
  | lst hq2 hl2 hi2=> cases q2; obtain ⟨its2,r2,pl2,l2⟩:=IsU.list I (SqL.of hq2) hl2; rw [okU] at o1; rw [okU] at o2; rw [eqW]; exact fo pl1 pl2 l1 l2 hu (cG I r1 r2 hl1 hl2 hi1 hi2 o1 o2 rc0 (by omega))
end
end L2
namespace L2
open PySem PySem.Spec PyProof.Rows
def OpS (X:Cx) (f:Value→Value→Sem Value) (x y:U) (z:V):Prop:=OpR X f fun v w H Q=> Rp X.K H v x∧Rp X.K H w y∧Q z H
section
variable {X:Cx} {H0:Hp} {O0:List Addr} {ps:PSt} {a b c e:Expr} {es rest:List Expr} {pos p:Pos} {u x y:U} {xs ys us:List U} {i j:Int} {k m:Bool}
theorem Rp.out {K:PySem.W.Frag} {H:Hp} {O:List Addr} {v:V} {u:U} (h:Rp K (hid H O) v u):Rp K H v u:=h.same aF
theorem ir {op:CmpOp} (ho:OpS X (compareOp op) x y (.bl k)) (ha:Ev X H0 O0 ps a x) (hb:Ev X H0 O0 ps b y) (hm:behindInMarks op b=false:=by first | exact tK _ | with_unfolding_all rfl):Ev X H0 O0 ps (.Compare a [op] [b] pos) (.bl k):=
 PE.mono (u9 ho ha hb hm) fun σ H Q ⟨O,R,q⟩=> two R (fun _ _ _ z=> z) (fun _ _ _ z=> z) fun v w H' s _ r1 r2=> ⟨r1.out,r2.out,q _ H' s (.bl _)⟩
theorem ba {op:CmpOp} (ho:OpS X (compareOp op) x y (.bl k)) (ha:Ev X H0 O0 ps a x) (hb:Ev X H0 O0 ps b y) (hm:behindInMarks op b=false:=by first | exact tK _ | with_unfolding_all rfl):Tt X H0 O0 ps (.Compare a [op] [b] pos) k:=
 PT.mono (vo ho ha hb hm) fun σ H Q ⟨O,R,q⟩=> two R (fun _ _ _ z=> z) (fun _ _ _ z=> z) fun v w H' s _ r1 r2=> ⟨r1.out,r2.out,_,rfl,q H' s⟩
theorem o0 {op:CmpOp} {g:Int→Int→Bool} (ho:OpR X (compareOp op) (rI0 fun i j=> .bl (g i j))):OpS X (compareOp op) (.int i) (.int j) (.bl (g i j)):=by
 intro pins s σ H v w p q Q I r1 r2 h
 obtain ⟨h1,h2,h3⟩:=h
 cases h1; cases h2
 exact ho pins s σ H _ _ _ _ Q I r1 r2 ⟨i,j,rfl,rfl,h3⟩
theorem n8:OpS X (compareOp .Lt) (.int i) (.int j) (.bl (decide (i < j))):=o0 xN
theorem yV:OpS X (compareOp .LtE) (.int i) (.int j) (.bl (decide (i≤j))):=o0 yr
theorem lS:OpS X (compareOp .Gt) (.int i) (.int j) (.bl (decide (j < i))):=o0 x9
theorem y8:OpS X (compareOp .GtE) (.int i) (.int j) (.bl (decide (j≤i))):=o0 yx
theorem yg (hu:X.A.units+10 < cLine) (h1:okU 9 x=true) (h2:okU 9 y=true):OpS X (compareOp .Eq) x y (.bl (eqW x y)):=by
 intro pins s σ H v w p q Q I r1 r2 h
 obtain ⟨k1,k2,k3⟩:=h
 exact yd I 9 X.A x y v w p q k1 k2 r1 r2 h1 h2 (by omega) X.prog X.w _ _ (bY I k3 rfl)
theorem wY (hu:X.A.units+10 < cLine) (h1:okU 9 x=true) (h2:okU 9 y=true):OpS X (compareOp .NotEq) x y (.bl (!eqW x y)):=by
 intro pins s σ H v w p q Q I r1 r2 h
 obtain ⟨k1,k2,k3⟩:=h
 exact xl I 8 X.A x y v w p q k1 k2 r1 r2 h1 h2 (by omega) X.prog X.w _ _ (bY I k3 rfl)
theorem dy:OpS X (compareOp .Eq) (.int i) (.int j) (.bl (decide (i=j))):=by
 intro pins s σ H v w p q Q I r1 r2 h
 obtain ⟨h1,h2,h3⟩:=h
 cases h1; cases h2
 exact xU pins s σ H _ _ _ _ Q I r1 r2 ⟨rfl,by rw [p9,← Bool.beq_eq_decide_eq] at *; simpa [Bool.beq_eq_decide_eq] using h3⟩
theorem pF (h:Ev X H0 O0 ps e (.bl k)) (he:∀ whole,isTrue e X.env whole=(do let v ← whole; standAt e.pos; holding [v] (truthy v)):=by intro _; rfl):Tt X H0 O0 ps e k:=
 PT.mono (xq h he) fun σ H Q ⟨O,R,q⟩=> ⟨O,R,fun v H' s r=> by cases r; exact ⟨_,rfl,q H' s⟩⟩
theorem sF (h:Tt X H0 O0 ps a k):Tt X H0 O0 ps (.UnaryOp .Not a pos) (!k):=PT.mono (xH h) fun σ H Q ⟨O,R,q⟩=> ⟨O,R,q⟩
theorem Tw.t (h:Tw X H0 O0 ps e k):Tt X H0 O0 ps e k:=h.pt
theorem nM (h:Tt X H0 O0 ps a k):Tw X H0 O0 ps (.BoolOp .And [a] pos) k:=uf h
theorem x4 (h:Tt X H0 O0 ps a k):Tw X H0 O0 ps (.BoolOp .Or [a] pos) k:=xr h
theorem pO (ha:Tt X H0 O0 ps a k) (hb:k=true→Tw X H0 O0 ps (.BoolOp .And (b::rest) pos) m):Tw X H0 O0 ps (.BoolOp .And (a::b::rest) pos) (k && m):=by
 cases k with
 | true=> exact PW.mono (sU ha (hb rfl)) fun σ H Q ⟨O,R,q⟩=> ⟨O,R,fun H' s=> by exact ri (⟨O,R.go s,fun H2 s2=> q H2 (s.trans s2)⟩)⟩
 | false=> exact PW.mono (sU ha (fun _ _ _ _ _ _ _ h=> h.elim) (tB':=fun _ _ _=> False)) fun σ H Q ⟨O,R,q⟩=> ⟨O,R,fun H' s=> by exact rQ (q H' s)⟩
theorem zg (ha:Tt X H0 O0 ps a k) (hb:k=false→Tw X H0 O0 ps (.BoolOp .Or (b::rest) pos) m):Tw X H0 O0 ps (.BoolOp .Or (a::b::rest) pos) (k || m):=by
 cases k with
 | false=> exact PW.mono (vR ha (hb rfl)) fun σ H Q ⟨O,R,q⟩=> ⟨O,R,fun H' s=> by exact rQ (⟨O,R.go s,fun H2 s2=> q H2 (s.trans s2)⟩)⟩
 | true=> exact PW.mono (vR ha (fun _ _ _ _ _ _ _ h=> h.elim) (tB':=fun _ _ _=> False)) fun σ H Q ⟨O,R,q⟩=> ⟨O,R,fun H' s=> by exact ri (q H' s)⟩
theorem yj {op} (h:Ev X H0 O0 ps a u):Ev X H0 O0 ps (.BoolOp op [a] pos) u:=ww h
theorem t7 (ha:Ev X H0 O0 ps a (.bl k)) (hb:k=true→Ev X H0 O0 ps (.BoolOp .And (b::rest) pos) (.bl m)):Ev X H0 O0 ps (.BoolOp .And (a::b::rest) pos) (.bl (k && m)):=by
 cases k with
 | true=> exact PE.mono (tX ha (hb rfl)) fun σ H Q ⟨O,R,q⟩=> ⟨O,R,fun v H' s r=> by cases r; exact ⟨_,rfl,by exact ri (⟨O,R.go s,fun v H2 s2 r2=> q v H2 (s.trans s2) r2⟩)⟩⟩
 | false=> exact PE.mono (tX ha (fun _ _ _ _ _ _ h=> h.elim) (tb:=fun _ _ _=> False)) fun σ H Q ⟨O,R,q⟩=> ⟨O,R,fun v H' s r=> by cases r; exact ⟨_,rfl,by exact rQ (q _ H' s (.bl _))⟩⟩
theorem yn (ha:Ev X H0 O0 ps a (.bl k)):Ev X H0 O0 ps (.UnaryOp .Not a pos) (.bl (!k)):=PE.mono (wB ha) fun σ H Q ⟨O,R,q⟩=> ⟨O,R,fun v H' s r=> by cases r; exact ⟨_,rfl,q _ H' s (.bl _)⟩⟩
theorem aq:EvA X H0 O0 ps [] []:=PA.mono dY fun σ H Q ⟨O,R,q⟩=> q [] H (.refl H) .nil
theorem ae (ha:Ev X H0 O0 ps e u) (hr:EvA X H0 O0 ps es us) (hs:starEach (e::es) X.env=(false,eval e X.env)::starEach es X.env:=by rfl):EvA X H0 O0 ps (e::es) (u::us):=
 PA.mono (cI ha hr hs) fun σ H Q ⟨O,R,q⟩=> ⟨O,R,fun v H1 s1 r1=> ⟨O,R.go s1,fun vs H2 s2 r2=> q _ H2 (s1.trans s2) (.cons (r1.same (bw s2)) r2)⟩⟩
theorem Rs.hidnew {K:PySem.W.Frag} {σ:St} {H:Hp} {O:List Addr} (R:Rs K H0 O0 ps σ H O) {p:Addr} {o:HO} (n:H p=none):hid (upd H p o) O p=some o:=cM aM fun z=> R.dom p z n
theorem yw {x1} (h:EvA X H0 O0 ps es us) (hz:us.length≤sizeLine:=by first | decide | (simp only [List.length_cons,List.length_nil]; decide)):Ev X H0 O0 ps (.Tuple es x1 pos) (.tup us):=
 PE.mono (wo h) fun σ H Q ⟨O,R,q⟩=> ⟨O,R,fun vs H1 s1 r1=> ⟨by rw [r1.len]; exact hz,fun p hp=> by
  have s2:=aU hp (.tup vs)
  have r2:=r1.same (bw (O:=O) s2)
  exact q _ _ (s1.trans s2) (.tup (SqT.of ((R.go s1).hidnew hp)) r2.len r2.at_)⟩⟩
theorem xR (h:EvA X H0 O0 ps es us) (hz:us.length≤sizeLine:=by first | decide | (simp only [List.length_cons,List.length_nil]; decide)):EvN X H0 O0 ps (.List es pos) us:=
 PE.mono (jD h) fun σ H Q ⟨O,R,q⟩=> ⟨O,R,fun vs H1 s1 r1=> ⟨by rw [r1.len]; exact hz,fun p hp=> by
  exact q p vs _ (s1.trans (aU hp _)) (s1.free hp) aM (r1.same (bS (aU hp _) hp))⟩⟩
theorem a_ (ha:Ev X H0 O0 ps a x) (hb:Ev X H0 O0 ps b (.int i)) (hx:x.items=some xs) (hi:atI xs i=some u) (hs:iN b:=by intro _ _; rfl):Ev X H0 O0 ps (.Subscript a b pos) u:=
 PE.mono (su (ln.or wD) ha hb hs) fun σ H Q ⟨O,R,q⟩=> two (y:=.int i) R (fun _ _ _ z=> z) (fun _ _ _ z=> z) fun v w H' s _ r1 r2=> by
  cases r2
  cases r1 with
  | scr h hl hh=> cases hx; obtain ⟨z,h1,h2⟩:=Rps.atI ⟨hl,hh⟩ hi; exact .inl ⟨_,_,i,z,rfl,rfl,aF.seq h,h1,q z H' s h2⟩
  | lst h hl hh=> cases hx; obtain ⟨z,h1,h2⟩:=Rps.atI ⟨hl,hh⟩ hi; exact .inl ⟨_,_,i,z,rfl,rfl,aF.seq (SqL.of h),h1,q z H' s h2⟩
  | tup h hl hh=> cases hx; obtain ⟨z,h1,h2⟩:=Rps.atI ⟨hl,hh⟩ hi; exact .inr ⟨_,_,i,z,rfl,rfl,aF.tup h,h1,q z H' s h2⟩
  | _=> cases hx
theorem oU (n:Nat) {x:Str} (h:ps[n]?=some (some (.own xs))) (hb:Ev X H0 O0 ps b (.int i)) (hi:atI xs i=some u) (hN:X.N[n]?=some x:=by rfl) (hv:Vis X.env.scope x:=by first | exact Or.inl rfl | exact Or.inr (Or.inl rfl) | exact Or.inr (Or.inr rfl)) (hd:(x==("__debug__":Str))=false:=by decide)
  (hcd:(x==("__classdict__":Str))=false:=by decide) (hs:iN b:=by intro _ _; rfl):Ev X H0 O0 ps (.Subscript (.Name x p) b pos) u:=
 PE.mono (su ln (fz hN hv hd hcd) hb hs) fun σ H Q ⟨O,R,q⟩=> by
  obtain ⟨v,h1,a,vs,rfl,h3,h4,h5,h6⟩:=R.at_ n _ h
  refine ⟨_,h1,O,R,fun w H' s r=> ?_⟩
  cases r
  obtain ⟨z,k1,k2⟩:=h6.atI hi
  exact ⟨a,vs,i,z,rfl,rfl,SqL.of (s _ _ h5),k1,q z H' s (k2.same (bw s))⟩
def jf (X:Cx) (f:Value) (us:List U) (u:U):Prop:=d9 X f fun vs H Q=> ∃ O,(∀ a∈O,H a≠none)∧Rps X.K (hid H O) vs us∧∀ v H',aJ H H'→Rp X.K (hid H' O) v u→Q v H'
def vZ (X:Cx) (f:Value) (us:List U) (xs:List U):Prop:=d9 X f fun vs H Q=> ∃ O,(∀ a∈O,H a≠none)∧Rps X.K (hid H O) vs us∧∀ a vs H',aJ H H'→H a=none→H' a=some (.lst vs)→Rps X.K (hid H' (a::O)) vs xs→Q (.ref a) H'
theorem bG {id:String} {f:Str} (hc:jf X (.builtin id) us u) (hg:Gl X f) (hm:X.mg f=none) (hv:bootBuiltins f=some (.builtin id)) (ha:EvA X H0 O0 ps (e::es) us) (hn:f≠"__name__":=by decide) (hdb:(f==("__debug__":Str))=false:=by decide)
  (he:starEach (e::es) X.env=(false,eval e X.env)::starEach es X.env:=by rfl) (hpl:(backTo pos (starEach es X.env)).any (·.1)=false:=by rfl):Ev X H0 O0 ps (.Call (.Name f p) (e::es) [] pos) u:=
 PE.mono (lG hc hg hm hv ha hn hdb he hpl) fun σ H Q ⟨O,R,q⟩=> ⟨O,R,fun vs H1 s1 r1=> ⟨O,(R.go s1).dom,r1,fun v H2 s2 r2=> q v H2 (s1.trans s2) r2⟩⟩
theorem vL {id:String} {f:Str} (hc:vZ X (.type id) us xs) (hg:Gl X f) (hm:X.mg f=none) (hv:bootBuiltins f=some (.type id)) (ha:EvA X H0 O0 ps (e::es) us) (hn:f≠"__name__":=by decide) (hdb:(f==("__debug__":Str))=false:=by decide)
  (he:starEach (e::es) X.env=(false,eval e X.env)::starEach es X.env:=by rfl) (hpl:(backTo pos (starEach es X.env)).any (·.1)=false:=by rfl):EvN X H0 O0 ps (.Call (.Name f p) (e::es) [] pos) xs:=
 PE.mono (qj hc hg hm hv ha hn hdb he hpl) fun σ H Q ⟨O,R,q⟩=> ⟨O,R,fun vs H1 s1 r1=> ⟨O,(R.go s1).dom,r1,fun a vs H2 s2 n h r2=> q a vs H2 (s1.trans s2) (s1.free n) h r2⟩⟩
theorem gf {K:PySem.W.Frag} {H:Hp} {vs:List V} (h:Rps K H vs [x]):∃ v,vs=[v]∧Rp K H v x:=by
 obtain ⟨v,ws,rfl,h1,h2⟩:=h.cons_inv
 rw [h2.nil_inv]
 exact ⟨v,rfl,h1⟩
theorem iM {K:PySem.W.Frag} {H:Hp} {vs:List V} (h:Rps K H vs [x,y]):∃ v w,vs=[v,w]∧Rp K H v x∧Rp K H w y:=by
 obtain ⟨v,ws,rfl,h1,h2⟩:=h.cons_inv
 obtain ⟨w,rfl,h3⟩:=gf h2
 exact ⟨v,w,rfl,h1,h3⟩
theorem d9.mono {f:Value} {r r':List V→Hp→VK→Prop} (h:d9 X f r) (m:∀ vs H Q,r' vs H Q→r vs H Q):d9 X f r':=fun pins s σ H vs us Q I v q=> h pins s σ H vs us Q I v (m vs H Q q)
theorem oH {K:PySem.W.Frag} {H:Hp} {v:V} (h:Rp K H v x) (hx:x.items=some xs):∃ a vs,v=.ref a∧(SqL K H a vs∨SqT K H a vs)∧Rps K H vs xs:=by
 cases h with
 | scr h hl hh=> cases hx; exact ⟨_,_,rfl,.inl h,hl,hh⟩
 | lst h hl hh=> cases hx; exact ⟨_,_,rfl,.inl (SqL.of h),hl,hh⟩
 | tup h hl hh=> cases hx; exact ⟨_,_,rfl,.inr h,hl,hh⟩
 | _=> cases hx
theorem p4 {K:PySem.W.Frag} {H:Hp} {O:List Addr} {a:Addr} {vs:List V} (h:SqL K (hid H O) a vs∨SqT K (hid H O) a vs):SqL K H a vs∨SqT K H a vs:=h.imp (fun z=> aF.seq z) fun z=> aF.tup z
theorem gu (hx:x.items=some xs):jf X (.builtin "len") [x] (.int xs.length):=d9.mono g6 fun vs H Q ⟨O,d,r,q⟩=> by
 obtain ⟨v,rfl,h⟩:=gf r
 obtain ⟨a,ws,rfl,h1,h2⟩:=oH h hx
 exact ⟨a,ws,rfl,p4 h1,by rw [h2.len]; exact q _ H (.refl H) (.int _)⟩
theorem wk (n:Nat) {x:Str} (h:ps[n]?=some (some (.own xs))) (hg:Gl X "len") (hm:X.mg "len"=none) (hN:X.N[n]?=some x:=by rfl) (hv:Vis X.env.scope x:=by first | exact Or.inl rfl | exact Or.inr (Or.inl rfl) | exact Or.inr (Or.inr rfl)) (hd:(x==("__debug__":Str))=false:=by decide)
  (hcd:(x==("__classdict__":Str))=false:=by decide) {pc p':Pos} (hs:starEach [.Name x p'] X.env=(false,eval (.Name x p') X.env)::starEach [] X.env:=by rfl) (hpl:(backTo pos (starEach [] X.env)).any (·.1)=false:=by rfl):Ev X H0 O0 ps (.Call (.Name "len" pc) [.Name x p'] [] pos) (.int xs.length):=
 PE.mono (lG g6 hg hm PySem.boot_len (cI (fz hN hv hd hcd) dY hs) (by decide) (by decide) hs hpl) fun σ H Q ⟨O,R,q⟩=> by
  obtain ⟨v,h1,a,vs,rfl,h3,h4,h5,h6⟩:=R.at_ n _ h
  exact ⟨_,h1,a,vs,rfl,.inl (SqL.of h5),by rw [h6.len]; exact q _ H (.refl H) (.int _)⟩
theorem yG (hc:X.calm=true):jf X (.builtin "max") [.int i,.int j] (.int (if j > i then j else i)):=d9.mono (rf hc) fun vs H Q ⟨O,d,r,q⟩=> by
 obtain ⟨v,w,rfl,h,h2⟩:=iM r
 cases h; cases h2
 exact ⟨i,j,rfl,q _ H (.refl H) (.int _)⟩
theorem yB (hc:X.calm=true):jf X (.builtin "min") [.int i,.int j] (.int (if j < i then j else i)):=d9.mono (qU hc) fun vs H Q ⟨O,d,r,q⟩=> by
 obtain ⟨v,w,rfl,h,h2⟩:=iM r
 cases h; cases h2
 exact ⟨i,j,rfl,q _ H (.refl H) (.int _)⟩
theorem xg (hx:x.items=some xs):vZ X (.type "list") [x] xs:=d9.mono kJ fun vs H Q ⟨O,d,r,q⟩=> by
 obtain ⟨v,rfl,h⟩:=gf r
 obtain ⟨a,ws,rfl,h1,h2⟩:=oH h hx
 exact ⟨a,ws,rfl,p4 h1,fun l hl=> q l ws _ (aU hl _) hl aM (h2.same (bS (aU hl _) hl))⟩
def tyU:U→Value
 | .non=> .type "NoneType" | .bl _=> .type "bool" | .int _=> .type "int" | .str _=> .type "str" | .ty _=> .type "type" | .dic=> .type "dict" | .scr _=> .type "list" | .tup _=> .type "tuple" | .lst _=> .type "list"
theorem mZ {n:String} (hn:∀ m,x≠.ty m) (h:PySem.W.kitOne X.K (tyU x) (.type n)=some k):jf X (.builtin "isinstance") [x,.ty (.nm n)] (.bl k):=by
 intro pins s σ H vs us Q I r hq
 obtain ⟨O,d,rs,q⟩:=hq
 obtain ⟨v,w,rfl,h1,h2⟩:=iM rs
 cases h2
 obtain ⟨p1,p2,rfl,r1,r2⟩:=j7 r
 cases (show p2=Value.type n from r2)
 have fin:∀ tk,EP X pins σ Q (.bool k) { s with toks:=tk }:=fun tk=> ⟨.bl k,H,I.tok _,rfl,q _ H (.refl H) (.bl _)⟩
 cases h1 with
 | non=> exact dN I r1 .non h fin
 | bl b=> exact dN I r1 (.bl b) h fin
 | int b=> exact dN I r1 (.int b) h fin
 | str b=> exact dN I r1 (.str b) h fin
 | ty m=> exact absurd rfl (hn _)
 | dic e=> exact dN I r1 (.dK (aF _ _ e)) h fin
 | xc e kk=> exact absurd rfl (hn _)
 | scr e hl hh=>
  cases r1
  obtain ⟨its,_,pl,_⟩:=I.list (aF.seq e)
  obtain ⟨o,nn,e1,e2,_⟩:=pl
  exact PySem.W.kia_one PySem.W.kitx_list I.kIn ⟨o,e1,e2⟩ h (fun z=> nomatch z) fin
 | lst e hl hh=> exact dN I r1 (.lst (aF _ _ e)) h fin
 | tup e hl hh=>
  cases r1
  obtain ⟨its,_,pl,_⟩:=I.tuple (aF.tup e)
  obtain ⟨o,e1,e2,_⟩:=pl
  exact PySem.W.kia_one PySem.W.kitx_tuple I.kIn ⟨o,e1,e2⟩ h (fun z=> nomatch z) fin
end
end L2
namespace L2
open PySem PySem.Spec PyProof.Rows
inductive Out where
 | val (u:U) | new (xs:List U) | exc (C:Addr)
def nj (K:PySem.W.Frag) (H0:Hp) (O0:List Addr) (Q:VK) (E:XK):Out→Prop
 | .val u=> ∀ v H',aJ H0 H'→Rp K (hid H' O0) v u→Q v H'
 | .new xs=> ∀ a vs H',aJ H0 H'→H0 a=none→H' a=some (.lst vs)→Rps K (hid H' (a::O0)) vs xs→Q (.ref a) H'
 | .exc C=> ∀ H',aJ H0 H'→E (.ref C) none H'
theorem nj.later {K:PySem.W.Frag} {H0 H1:Hp} {O0:List Addr} {Q:VK} {E:XK} {o:Out} (e:aJ H0 H1) (h:nj K H0 O0 Q E o):nj K H1 O0 Q E o:=by
 cases o with
 | val u=> exact fun v H' s r=> h v H' (e.trans s) r
 | new xs=> exact fun a vs H' s n q r=> h a vs H' (e.trans s) (e.free n) q r
 | exc C=> exact fun H' s=> h H' (e.trans s)
structure PD where
 nx:PSt→Prop
 rt:Out→Prop
 bk:PSt→Prop:=fun _=> False
 ct:PSt→Prop:=fun _=> False
structure Lf (K:PySem.W.Frag) (H0:Hp) (O0:List Addr) (E:XK) (D:PD) (D':kB):Prop where
 nx:∀ ps σ H O,Rs K H0 O0 ps σ H O→D.nx ps→D'.nx σ H
 bk:∀ ps σ H O,Rs K H0 O0 ps σ H O→D.bk ps→D'.bk σ H
 ct:∀ ps σ H O,Rs K H0 O0 ps σ H O→D.ct ps→D'.ct σ H
 rt:∀ o,D.rt o→nj K H0 O0 D'.rt E o
def Ws (X:Cx) (H0:Hp) (O0:List Addr) (E:XK) (ss:List Stmt) (D:PD) (ps:PSt):Prop:=PSs X ss fun D' σ H=> Lf X.K H0 O0 E D D'∧∃ O,Rs X.K H0 O0 ps σ H O
def W1 (X:Cx) (H0:Hp) (O0:List Addr) (E:XK) (s:Stmt) (D:PD) (ps:PSt):Prop:=PS X s fun D' σ H=> Lf X.K H0 O0 E D D'∧∃ O,Rs X.K H0 O0 ps σ H O
section
variable {X:Cx} {H0:Hp} {O0:List Addr} {E:XK} {ps ps':PSt} {D:PD} {s:Stmt} {ss body:List Stmt} {a b c e:Expr} {es:List Expr} {pos p:Pos} {u x y:U} {xs ys us:List U} {k:Bool}
theorem aZ (h:D.nx ps):Ws X H0 O0 E [] D ps:=PSs.mono o_ fun D' σ H ⟨L,O,R⟩=> L.nx ps σ H O R h
theorem ag (h:W1 X H0 O0 E s { D with nx:=fun p=> Ws X H0 O0 E ss D p } ps):Ws X H0 O0 E (s::ss) D ps:=by
 have h2:PSs X ss fun D' σ H=> ∃ p,Ws X H0 O0 E ss D p∧Lf X.K H0 O0 E D D'∧∃ O,Rs X.K H0 O0 p σ H O:=fun pins s σ H D' I ⟨p,w,l,r⟩=> w pins s σ H D' I ⟨l,r⟩
 exact PSs.mono (g7 h h2) fun D' σ H ⟨L,O,R⟩=> ⟨⟨fun p σ H O R q=> ⟨p,q,L,O,R⟩,L.bk,L.ct,L.rt⟩,O,R⟩
theorem dR (h:Ws X H0 O0 E ss D ps') (hs:SubP ps' ps):Ws X H0 O0 E ss D ps:=PSs.mono h fun D' σ H ⟨L,O,R⟩=> ⟨L,O,R.sub hs⟩
theorem bu {i:Nat} {x:Str} {pos':Pos} (hN:X.N.Nodup) (hi:X.N[i]?=some x) (hx:Loc X.env.scope x) (he:Ev X H0 O0 ps e u) (h:D.nx (ps.set i (some (.val u)))) (hs:swapsWith e (some (.Name x pos')) pos.line X.env=pure false:=by rfl) (hf:X.fn x=true∨X.env.scope.names.lookup x=some .local:=by first | exact .inl rfl | exact .inr rfl | assumption):
  W1 X H0 O0 E (.Assign [.Name x pos'] e pos) D ps:=PS.mono (nB hN hi hx he hs hf) fun D' σ H ⟨L,O,R⟩=> ⟨O,R,fun v H' s r=> L.nx _ _ _ O ((R.go s).set r) h⟩
theorem iT {i:Nat} {x:Str} {pos':Pos} (hN:X.N.Nodup) (hi:X.N[i]?=some x) (hx:Loc X.env.scope x) (he:EvN X H0 O0 ps e xs) (h:D.nx (ps.set i (some (.own xs)))) (hs:swapsWith e (some (.Name x pos')) pos.line X.env=pure false:=by rfl) (hf:X.fn x=true∨X.env.scope.names.lookup x=some .local:=by first | exact .inl rfl | exact .inr rfl | assumption):
  W1 X H0 O0 E (.Assign [.Name x pos'] e pos) D ps:=PS.mono (nB hN hi hx he hs hf) fun D' σ H ⟨L,O,R⟩=> ⟨O,R,fun a vs H' s n q r=> L.nx _ _ _ _ (R.own s n q r) h⟩
theorem lF {tb fb:List Stmt} (hc:Tt X H0 O0 ps c k) (h1:k=true→Ws X H0 O0 E tb D ps) (h2:k=false→Ws X H0 O0 E fb D ps):W1 X H0 O0 E (.If c tb fb pos) D ps:=by
 cases k with
 | true=> exact PS.mono (vP hc (h1 rfl) (fun _ _ _ _ _ _ h=> h.elim) (u:=fun _ _ _=> False)) fun D' σ H ⟨L,O,R⟩=> ⟨O,R,fun H' s=> ri ⟨L,O,R.go s⟩⟩
 | false=> exact PS.mono (vP hc (fun _ _ _ _ _ _ h=> h.elim) (h2 rfl) (t:=fun _ _ _=> False)) fun D' σ H ⟨L,O,R⟩=> ⟨O,R,fun H' s=> rQ ⟨L,O,R.go s⟩⟩
theorem Rs.ret {K:PySem.W.Frag} {σ:St} {H:Hp} {O:List Addr} {v:V} (R:Rs K H0 O0 ps σ H O) (r:Rp K (hid H O) v u):Rp K (hid H O0) v u:=r.same (cX R.old)
theorem ca (he:Ev X H0 O0 ps e u) (h:D.rt (.val u)):W1 X H0 O0 E (.Return (some e) pos) D ps:=
 PS.mono (nW he) fun D' σ H ⟨L,O,R⟩=> ⟨O,R,fun v H' s r=> L.rt _ h v H' (R.same.trans s) ((R.go s).ret r)⟩
theorem fE (he:EvN X H0 O0 ps e xs) (h:D.rt (.new xs)):W1 X H0 O0 E (.Return (some e) pos) D ps:=
 PS.mono (nW he) fun D' σ H ⟨L,O,R⟩=> ⟨O,R,fun a vs H' s n q r=> L.rt _ h a vs H' (R.same.trans s) (R.same.free n) q (r.same (cX fun b hb=> by
  rcases List.mem_cons.mp hb with y | y
  ·subst y; exact List.mem_cons_self
  ·exact List.mem_cons_of_mem _ (R.old b y)))⟩
theorem km (i:Nat) {x:Str} (hp:ps[i]?=some (some (.own xs))) (h:D.rt (.new xs)) (hN:X.N[i]?=some x:=by rfl) (hv:Vis X.env.scope x:=by first | exact Or.inl rfl | exact Or.inr (Or.inl rfl) | exact Or.inr (Or.inr rfl)) (hd:(x==("__debug__":Str))=false:=by decide)
  (hcd:(x==("__classdict__":Str))=false:=by decide):W1 X H0 O0 E (.Return (some (.Name x p)) pos) D ps:=
 PS.mono (nW (fz hN hv hd hcd)) fun D' σ H ⟨L,O,R⟩=> by
  obtain ⟨v,h1,a,vs,rfl,h3,h4,h5,h6⟩:=R.at_ i _ hp
  refine ⟨_,h1,L.rt _ h a vs H R.same ((R.new a h3).resolve_left h4) h5 (h6.same (cX fun b hb=> ?_))⟩
  rcases List.mem_cons.mp hb with y | y
  ·subst y; exact h3
  ·exact R.old b y
theorem yu {i:Nat} {x:Str} {op:Operator} {pos':Pos} {n m:Int} {g:Int→Int→Int} (ho:PIp X op (ipI g)) (hN:X.N.Nodup) (hi:X.N[i]?=some x) (hx:Loc X.env.scope x) (hp:ps[i]?=some (some (.val (.int n)))) (he:Ev X H0 O0 ps e (.int m)) (h:D.nx (ps.set i (some (.val (.int (g n m))))))
  (hf:X.fn x=true∨X.env.scope.names.lookup x=some .local:=by first | exact .inl rfl | exact .inr rfl | assumption):W1 X H0 O0 E (.AugAssign (.Name x pos') op e pos) D ps:=
 PS.mono (xy hN hi hx he ho hf) fun D' σ H ⟨L,O,R⟩=> by
  obtain ⟨v,h1,h2⟩:=R.at_ i _ hp
  cases h2
  refine ⟨_,h1,O,R,fun v H' s r=> ?_⟩
  cases r
  exact ⟨n,m,rfl,rfl,L.nx _ _ _ O ((R.go s).set (.int _)) h⟩
theorem eV (i:Nat) {x:Str} {apos cpos xp:Pos} (hp:ps[i]?=some (some (.own xs))) (ha:Ev X H0 O0 ps e u) (hz:xs.length < sizeLine) (h:D.nx (ps.set i (some (.own (xs++[u])))))
  (hN:X.N[i]?=some x:=by rfl) (hv:Vis X.env.scope x:=by first | exact Or.inl rfl | exact Or.inr (Or.inl rfl) | exact Or.inr (Or.inr rfl)) (hd:(x==("__debug__":Str))=false:=by decide) (hcd:(x==("__classdict__":Str))=false:=by decide)
  (hbase:attributeBase (.Name x xp) "append" X.env (eval (.Name x xp) X.env)=eval (.Name x xp) X.env:=by rfl)
  (hfew:((backTo cpos (starEach [e] X.env)).all (fun x=> !x.1) && (backToKw cpos (keywordEach [] X.env)).all (fun x=> x.1.isSome) && decide ([e].length+([]:List Keyword).length+(if ([]:List Keyword).isEmpty then 0 else 1) < 30))=true:=by rfl)
  (hline:(apos.endLine==cpos.line)=true:=by rfl) (hse:starEach [e] X.env=(false,eval e X.env)::starEach [] X.env:=by rfl) (hplain:(backTo cpos (starEach [] X.env)).any (·.1)=false:=by rfl)
  (hs:swapsWith (.Call (.Attribute (.Name x xp) "append" apos) [e] [] cpos) none pos.line X.env=pure false:=by rfl):W1 X H0 O0 E (.Expr (.Call (.Attribute (.Name x xp) "append" apos) [e] [] cpos) pos) D ps:=
 PS.mono (kD (vY PySem.F.plainAttrs_list PySem.F.slot_list_append PySem.F.type_list_append h_ (fz hN hv hd hcd) (cI ha dY hse) hbase hfew hline hse hplain) hs) fun D' σ H ⟨L,O,R⟩=> by
  obtain ⟨v,h1,a,vs,rfl,h3,h4,h5,h6⟩:=R.at_ i _ hp
  refine ⟨_,h1,.inl ⟨rfl,_,SqL.of h5⟩,O,R,fun w H' s r=> ⟨a,vs,w,rfl,rfl,s _ _ h5,by rw [h6.len]; exact hz,?_⟩⟩
  exact L.nx _ _ _ O ((R.go s).write hp h1 ((h6.same (bw s)).snoc (.cons r .nil))) h
theorem vQ (i:Nat) {x:Str} {apos cpos xp:Pos} (hp:ps[i]?=some (some (.own xs))) (hne:xs≠[]) (h:D.nx (ps.set i (some (.own xs.dropLast))))
  (hN:X.N[i]?=some x:=by rfl) (hv:Vis X.env.scope x:=by first | exact Or.inl rfl | exact Or.inr (Or.inl rfl) | exact Or.inr (Or.inr rfl)) (hd:(x==("__debug__":Str))=false:=by decide) (hcd:(x==("__classdict__":Str))=false:=by decide)
  (hbase:attributeBase (.Name x xp) "pop" X.env (eval (.Name x xp) X.env)=eval (.Name x xp) X.env:=by rfl)
  (hline:(apos.endLine==cpos.line)=true:=by rfl)
  (hs:swapsWith (.Call (.Attribute (.Name x xp) "pop" apos) [] [] cpos) none pos.line X.env=pure false:=by rfl):W1 X H0 O0 E (.Expr (.Call (.Attribute (.Name x xp) "pop" apos) [] [] cpos) pos) D ps:=
 PS.mono (kD (wF PySem.F.plainAttrs_list PySem.F.slot_list_pop PySem.F.type_list_pop wM (fz hN hv hd hcd) hbase hline) hs) fun D' σ H ⟨L,O,R⟩=> by
  obtain ⟨v,h1,a,vs,rfl,h3,h4,h5,h6⟩:=R.at_ i _ hp
  have hpos:0 < vs.length:=by rw [h6.len]; exact List.length_pos_iff.mpr hne
  have hlt:vs.length - 1 < vs.length:=by omega
  refine ⟨_,h1,.inl ⟨rfl,_,SqL.of h5⟩,a,vs,vs[vs.length - 1],rfl,rfl,h5,List.getElem?_eq_getElem hlt,?_⟩
  refine L.nx _ _ _ O (R.write hp h1 ⟨by simp [h6.len],fun j v x e1 e2=> ?_⟩) h
  rw [List.getElem?_dropLast] at e1 e2
  split at e1
  ·split at e2
   ·exact h6.at_ j v x e1 e2
   ·cases e2
  ·cases e1
end
end L2
namespace L2
open PySem PySem.Spec PyProof.Rows
def ja:List Nat→TGs
 | []=> x5
 | j::js=> v6 (m9 j) (ja js)
def setAll:PSt→List Nat→List U→PSt
 | ps,j::js,u::us=> setAll (ps.set j (some (.val u))) js us
 | ps,_,_=> ps
def iO:St→List Nat→List V→St
 | σ,j::js,u::us=> iO (σ.set j (some u)) js us
 | σ,_,_=> σ
theorem Rs.setAll {K:PySem.W.Frag} {H0:Hp} {O0:List Addr} {H:Hp} {O:List Addr}:∀ {js:List Nat} {ps:PSt} {σ:St} {vs:List V} {us:List U},Rs K H0 O0 ps σ H O→Rps K (hid H O) vs us→Rs K H0 O0 (L2.setAll ps js us) (iO σ js vs) H O
 | [],ps,σ,vs,us,R,r=> by cases us <;> cases vs <;> exact R
 | j::js,ps,σ,vs,[],R,r=> by rw [r.nil_inv]; exact R
 | j::js,ps,σ,vs,u::us,R,r=> by
  obtain ⟨v,ws,rfl,h1,h2⟩:=r.cons_inv
  exact Rs.setAll (js:=js) (R.set h1) h2
theorem eS {Q:St→Hp→Prop} {H:Hp}:∀ {js:List Nat} {σ:St} {vs:List V},vs.length=js.length→Q (iO σ js vs) H→ja js vs σ H Q
 | [],σ,[],_,q=> ⟨rfl,q⟩
 | j::js,σ,v::vs,e,q=> ⟨v,vs,rfl,eS (js:=js) (by simpa using e) q⟩
 | [],_,_::_,e,_=> by simp at e
 | _::_,_,[],e,_=> by simp at e
def TgS (X:Cx) (H0:Hp) (O0:List Addr) (tg:Expr) (ps:PSt) (u:U) (ps':PSt):Prop:=
 PG X tg fun v σ H Q=> ∃ O,Rs X.K H0 O0 ps σ H O∧Rp X.K (hid H O) v u∧∀ σ' H',aJ H H'→Rs X.K H0 O0 ps' σ' H' O→Q σ' H'
theorem PG.mono {X:Cx} {e:Expr} {t t':TG} (h:PG X e t) (m:∀ v σ H Q,t' v σ H Q→t v σ H Q):PG X e t':=fun pins s σ H v u Q I r q=> h pins s σ H v u Q I r (m v σ H Q q)
theorem PI.mono {X:Cx} {tg e:Expr} {t t':TI} (h:PI X tg e t) (m:∀ σ H Q,t' σ H Q→t σ H Q):PI X tg e t':=fun pins s σ H Q I q=> h pins s σ H Q I (m σ H Q q)
def Yl (K:PySem.W.Frag) (J:It) (G:Hp) (xs:List U):Prop:=
 ∀ H2,aJ G H2→(∀ i,i < xs.length→J.go i H2∧∀ x H3,J.yld i H2 x H3→H3=H2∧∃ u,xs[i]?=some u∧Rp K G x u)∧J.stop xs.length H2
def EvI (X:Cx) (H0:Hp) (O0:List Addr) (ps:PSt) (tg iter:Expr) (xs:List U):Prop:=
 PI X tg iter fun σ H R=> ∃ O,Rs X.K H0 O0 ps σ H O∧∀ J H',aJ H H'→Yl X.K J (hid H' O) xs→R J H'
section
variable {X:Cx} {H0:Hp} {O0:List Addr} {E:XK} {ps ps':PSt} {D:PD} {s:Stmt} {ss body:List Stmt} {a b c e tg iter:Expr} {es:List Expr} {pos p:Pos} {u x y:U} {xs ys us:List U} {k:Bool}
theorem fP {i:Nat} {x:Str} (hN:X.N.Nodup) (hi:X.N[i]?=some x) (hx:Loc X.env.scope x) (hf:X.fn x=true∨X.env.scope.names.lookup x=some .local:=by first | exact .inl rfl | exact .inr rfl | assumption):TgS X H0 O0 (.Name x pos) ps u (ps.set i (some (.val u))):=
 PG.mono (bF hN hi hx hf) fun v σ H Q ⟨O,R,r,q⟩=> q _ H (.refl H) (R.set r)
theorem xO {k:Nat} (js:List Nat) (hc:X.calm=true) (h:PGs X es (ja js)) (hl:us.length=js.length) (hn:(assignEach es X.env).length=js.length:=by rfl) (hst:(assignEach es X.env).findIdx? (·.1)=none:=by rfl):TgS X H0 O0 (.Tuple es k pos) ps (.tup us) (setAll ps js us):=
 PG.mono (kQ hc h hn hst) fun v σ H Q ⟨O,R,r,q⟩=> by
  cases r with
  | tup hq hl' hh=> exact ⟨_,_,rfl,aF.tup hq,hl'.trans hl,eS (hl'.trans hl) (q _ H (.refl H) (R.setAll ⟨hl',hh⟩))⟩
theorem xS {k:Nat} (js:List Nat) (hc:X.calm=true) (h:PGs X es (ja js)) (hx:x=.lst us∨x=.scr us) (hl:us.length=js.length) (hn:(assignEach es X.env).length=js.length:=by rfl) (hst:(assignEach es X.env).findIdx? (·.1)=none:=by rfl):TgS X H0 O0 (.Tuple es k pos) ps x (setAll ps js us):=
 PG.mono (wQ hc h hn hst) fun v σ H Q ⟨O,R,r,q⟩=> by
  rcases hx with rfl | rfl
  ·cases r with
   | lst hq hl' hh=> exact ⟨_,_,rfl,aF.seq (SqL.of hq),hl'.trans hl,eS (hl'.trans hl) (q _ H (.refl H) (R.setAll ⟨hl',hh⟩))⟩
  ·cases r with
   | scr hq hl' hh=> exact ⟨_,_,rfl,aF.seq hq,hl'.trans hl,eS (hl'.trans hl) (q _ H (.refl H) (R.setAll ⟨hl',hh⟩))⟩
theorem xM (he:Ev X H0 O0 ps e u) (hg:TgS X H0 O0 tg ps u ps') (h:D.nx ps') (hs:swapsWithSole [tg] e pos.line X.env=pure false:=by rfl) (hw:swappedStores [tg] e X.env=pure none:=by rfl)
  (h1:(assignEach [tg] X.env).map (·.2)=[assign tg X.env]:=by rfl):W1 X H0 O0 E (.Assign [tg] e pos) D ps:=
 PS.mono (wW he hg hs hw h1) fun D' σ H ⟨L,O,R⟩=> ⟨O,R,fun v H1 s1 r1=> ⟨O,R.go s1,r1,fun σ' H2 s2 R2=> L.nx _ _ _ O R2 h⟩⟩
theorem d4 (he:Ev X H0 O0 ps iter x) (hx:x=.lst xs∨x=.scr xs):EvI X H0 O0 ps tg iter xs:=
 PI.mono (uP he) fun σ H Q ⟨O,R,q⟩=> ⟨O,R,fun v H' s r=> by
  have key:∃ a vs,v=.ref a∧SqL X.K (hid H' O) a vs∧Rps X.K (hid H' O) vs xs:=by
   rcases hx with rfl | rfl
   ·cases r with
    | lst hq hl hh=> exact ⟨_,_,rfl,SqL.of hq,hl,hh⟩
   ·cases r with
    | scr hq hl hh=> exact ⟨_,_,rfl,hq,hl,hh⟩
  obtain ⟨a,vs,rfl,hq,rs⟩:=key
  refine ⟨a,rfl,⟨vs,aF.seq hq⟩,q _ H' s fun H2 s2=> ⟨fun i hi=> ?_,⟨vs,s2.seq hq,by rw [rs.len]; exact Nat.le_refl _⟩⟩⟩
  have hi':i < vs.length:=by rw [rs.len]; exact hi
  refine ⟨⟨vs,vs[i],s2.seq hq,List.getElem?_eq_getElem hi'⟩,fun z H3 y=> ⟨y.1,xs[i],List.getElem?_eq_getElem hi,rs.at_ i z _ (y.2 vs (s2.seq hq)) (List.getElem?_eq_getElem hi)⟩⟩⟩
def d6 (lo:Int) (n:Nat):List U:=(List.range n).map fun (i:Nat)=> U.int (lo+(i:Int))
theorem dk {lo:Int} {n:Nat}:(d6 lo n).length=n:=by simp [d6]
theorem j8 {lo:Int} {n i:Nat} (h:i < n):(d6 lo n)[i]?=some (.int (lo+(i:Int))):=by
 unfold d6
 rw [List.getElem?_map,List.getElem?_range h]; rfl
theorem dj {lo:Int} {n i:Nat} {x:U} (h:(d6 lo n)[i]?=some x):i < n∧x=.int (lo+(i:Int)):=by
 have hi:=aB h
 rw [dk] at hi
 rw [j8 hi] at h
 exact ⟨hi,(Option.some.inj h).symm⟩
theorem my {K:PySem.W.Frag} {G:Hp} {lo:Int} {n:Nat}:Yl K (Itr lo n) G (d6 lo n):=fun H2 s2=> by
 rw [dk]
 refine ⟨fun i hi=> ⟨hi,fun z H3 y=> ⟨y.1,_,j8 hi,?_⟩⟩,Nat.le_refl _⟩
 rw [y.2]; exact .int _
theorem jt {j:Int} (hg:Gl X "range") (hm:X.mg "range"=none) (ha:EvA X H0 O0 ps [a] [.int j]) (h1:-(2 ^ 62)≤j) (h2:j < 2 ^ 62) (hs:starEach [a] X.env=[(false,eval a X.env)]:=by rfl):EvI X H0 O0 ps tg (.Call (.Name "range" p) [a] [] pos) (d6 0 j.toNat):=
 PI.mono (qC hg hm ha hs) fun σ H Q ⟨O,R,q⟩=> ⟨O,R,fun vs H' s r=> by
  obtain ⟨v,rfl,h⟩:=gf r
  cases h
  exact ⟨j,rfl,h1,h2,q _ H' s my⟩⟩
theorem mS {i j:Int} (hg:Gl X "range") (hm:X.mg "range"=none) (ha:EvA X H0 O0 ps [a,b] [.int i,.int j]) (h:-(2 ^ 62)≤i∧i < 2 ^ 62∧-(2 ^ 62)≤j∧j < 2 ^ 62) (hs:starEach [a,b] X.env=[(false,eval a X.env),(false,eval b X.env)]:=by rfl) (hs2:starEach [b] X.env=[(false,eval b X.env)]:=by rfl):
  EvI X H0 O0 ps tg (.Call (.Name "range" p) [a,b] [] pos) (d6 i (j - i).toNat):=
 PI.mono (qr hg hm ha hs hs2) fun σ H Q ⟨O,R,q⟩=> ⟨O,R,fun vs H' s r=> by
  obtain ⟨v,w,rfl,k1,k2⟩:=iM r
  cases k1; cases k2
  exact ⟨i,j,rfl,h,q _ H' s my⟩⟩
theorem Rs.rebase {K:PySem.W.Frag} {σ:St} {H:Hp} {O:List Addr} (R:Rs K H0 O0 ps σ H O):Rs K (hid H (O.filter fun a=> decide (a ∉ O0))) O0 ps σ H O:=
 ⟨aF,R.old,fun a ha=> by
  by_cases h:a∈O0
  ·exact .inl h
  ·right; unfold hid; rw [if_pos (List.mem_filter.mpr ⟨ha,by simpa using h⟩)],R.dom,R.len,R.at_,R.inj⟩
theorem Rs.base {K:PySem.W.Frag} {σ:St} {H:Hp} {O:List Addr} (R:Rs K H0 O0 ps σ H O):aJ H0 (hid H (O.filter fun a=> decide (a ∉ O0))):=fun b o h=> by
 refine cM (R.same b o h) fun z=> ?_
 obtain ⟨z1,z2⟩:=List.mem_filter.mp z
 rcases R.new b z1 with y | y
 ·simp [y] at z2
 ·rw [h] at y; cases y
theorem Rs.unbase {K:PySem.W.Frag} {H1:Hp} {σ:St} {H:Hp} {O:List Addr} (e:aJ H0 H1) (R:Rs K H1 O0 ps σ H O):Rs K H0 O0 ps σ H O:=
 ⟨e.trans R.same,R.old,fun a ha=> (R.new a ha).imp id fun z=> e.free z,R.dom,R.len,R.at_,R.inj⟩
theorem Rs.seen {K:PySem.W.Frag} {ps2:PSt} {σ σ2:St} {H H2:Hp} {O O2:List Addr} (R:Rs K H0 O0 ps σ H O) (R2:Rs K (hid H (O.filter fun a=> decide (a ∉ O0))) O0 ps2 σ2 H2 O2):aJ (hid H O) (hid H2 O2):=fun b o h=> by
 obtain ⟨h1,h2⟩:=fO h
 have h3:hid H (O.filter fun a=> decide (a ∉ O0)) b=some o:=cM h1 fun z=> h2 (List.mem_filter.mp z).1
 refine cM (R2.same b o h3) fun z=> ?_
 rcases R2.new b z with y | y
 ·exact h2 (R.old b y)
 ·rw [h3] at y; cases y
theorem xY (hc:X.calm=true) (hp:PassesOwn (model X.prog X.w) X.A X.env X.xe) (hi:EvI X H0 O0 ps tg iter xs) (Iv:Nat→PSt→Prop) (h0:Iv 0 ps)
  (hs:∀ (H0:Hp) (i:Nat) (x:U) (ps:PSt),xs[i]?=some x→Iv i ps→∃ ps',TgS X H0 O0 tg ps x ps'∧Ws X H0 O0 E body { D with nx:=Iv (i+1),ct:=Iv (i+1),bk:=D.nx } ps') (hd:∀ ps,Iv xs.length ps→D.nx ps)
  (hf:∀ x,foldedSetIterable iter X.env x=pure x:=by intro _; rfl):W1 X H0 O0 E (.For tg iter body [] pos) D ps:=by
 have hg:PG X tg fun v σ H Q=> ∃ H1 ps u ps',TgS X H1 O0 tg ps u ps'∧∃ O,Rs X.K H1 O0 ps σ H O∧Rp X.K (hid H O) v u∧∀ σ' H',aJ H H'→Rs X.K H1 O0 ps' σ' H' O→Q σ' H':=
  fun pins s σ H v u Q I r ⟨H1,ps,w,ps',t,z⟩=> t pins s σ H v u Q I r z
 have hb:PSs X body fun D' σ H=> ∃ H1 D1 ps',Ws X H1 O0 E body D1 ps'∧Lf X.K H1 O0 E D1 D'∧∃ O,Rs X.K H1 O0 ps' σ H O:=fun pins s σ H D' I ⟨H1,D1,ps',w,z⟩=> w pins s σ H D' I z
 refine PS.mono (rW hp hc hi hg hb hf) fun D' σ H ⟨L,O,R⟩=> ⟨O,R,fun J H1 s1 Y=> ?_⟩
 have R1:=R.go s1
 have base:=R1.base
 refine ⟨fun i m σ H=> m=xs.length - i∧i≤xs.length∧∃ ps O',Iv i ps∧Rs X.K (hid H1 (O.filter fun a=> decide (a ∉ O0))) O0 ps σ H O',⟨_,rfl,Nat.zero_le _,ps,O,h0,R1.rebase⟩,?_⟩
 rintro i m σ2 H2 ⟨rfl,hi2,ps2,O2,iv,R2⟩
 have seen:=R1.seen R2
 obtain ⟨y1,y2⟩:=Y H2 (seen.trans aF)
 by_cases hlt:i < xs.length
 ·obtain ⟨g1,g2⟩:=y1 i hlt
  refine .inr ⟨g1,fun σ' H'=> ∃ ps O',Iv (i+1) ps∧Rs X.K (hid H1 (O.filter fun a=> decide (a ∉ O0))) O0 ps σ' H' O',fun σ' H' z=> ⟨xs.length - (i+1),by omega,rfl,hlt,z⟩,fun x H3 y=> ?_⟩
  obtain ⟨rfl,u,hu,r⟩:=g2 x H3 y
  obtain ⟨ps',t,w⟩:=hs (hid H1 (O.filter fun a=> decide (a ∉ O0))) i u ps2 hu iv
  refine ⟨_,ps2,u,ps',t,O2,R2,r.same seen,fun σ' H' s' R'=> ⟨_,_,ps',w,?_,O2,R'⟩⟩
  exact ⟨fun p σ H O R q=> ⟨p,O,q,R⟩,fun p σ H O R q=> L.nx _ _ _ _ (R.unbase base) q,fun p σ H O R q=> ⟨p,O,q,R⟩,fun o q=> (L.rt o q).later base⟩
 ·have e:i=xs.length:=by omega
  subst e
  exact .inl ⟨y2,L.nx _ _ _ _ (R2.unbase base) (hd ps2 iv)⟩
theorem vH (hp:PassesOwn (model X.prog X.w) X.A X.env X.xe) (Iv:Nat→PSt→Prop) (m:Nat) (h0:Iv m ps)
  (hs:∀ m ps,Iv m ps→∃ b,Tt X H0 O0 ps c b∧(b=true→Ws X H0 O0 E body { D with nx:=fun p=> ∃ m',m' < m∧Iv m' p,ct:=fun p=> ∃ m',m' < m∧Iv m' p,bk:=D.nx } ps)∧(b=false→D.nx ps)):W1 X H0 O0 E (.While c body [] pos) D ps:=by
 have ht:PT X c fun σ H Q=> ∃ ps b,Tt X H0 O0 ps c b∧∃ O,Rs X.K H0 O0 ps σ H O∧∀ H',aJ H H'→Q b H':=fun pins s σ H Q I ⟨ps,b,t,z⟩=> t pins s σ H Q I z
 have hb:PSs X body fun D' σ H=> ∃ D1 ps',Ws X H0 O0 E body D1 ps'∧Lf X.K H0 O0 E D1 D'∧∃ O,Rs X.K H0 O0 ps' σ H O:=fun pins s σ H D' I ⟨D1,ps',w,z⟩=> w pins s σ H D' I z
 refine PS.mono (tp hp ht hb) fun D' σ H ⟨L,O,R⟩=> ⟨fun m σ H=> ∃ ps O,Iv m ps∧Rs X.K H0 O0 ps σ H O,⟨m,ps,O,h0,R⟩,?_⟩
 rintro m σ2 H2 ⟨ps2,O2,iv,R2⟩
 obtain ⟨b,t,h1,h2⟩:=hs m ps2 iv
 refine ⟨ps2,b,t,O2,R2,fun H3 s3=> ?_⟩
 cases b with
 | true=>
  refine ri ⟨fun σ H=> ∃ m',m' < m∧∃ ps O,Iv m' ps∧Rs X.K H0 O0 ps σ H O,fun σ' H' z=> z,_,ps2,h1 rfl,?_,O2,R2.go s3⟩
  exact ⟨fun p σ H O R ⟨m',l,q⟩=> ⟨m',l,p,O,q,R⟩,fun p σ H O R q=> L.nx _ _ _ _ R q,fun p σ H O R ⟨m',l,q⟩=> ⟨m',l,p,O,q,R⟩,L.rt⟩
 | false=> exact rQ (L.nx _ _ _ _ (R2.go s3) (h2 rfl))
def i5:List Nat→PSt→PSt
 | [],ps=> ps
 | i::is,ps=> i5 is (ps.set i none)
theorem Rs.mask {K:PySem.W.Frag} {H:Hp} {O:List Addr}:∀ {is:List Nat} {ps:PSt} {σ:St},Rs K H0 O0 ps σ H O→Rs K H0 O0 (i5 is ps) (L2.mask is σ) H O
 | [],ps,σ,R=> R
 | i::is,ps,σ,R=> Rs.mask (is:=is) (R.drop (i:=i) (o:=none))
theorem Rs.hide {K:PySem.W.Frag} {σ:St} {H H':Hp} {O:List Addr} {l:Addr} (R:Rs K H0 O0 ps σ H O) (e:aJ H H') (n:H l=none) (d:H' l≠none):Rs K H0 O0 ps σ H' (l::O):=by
 refine ⟨R.same.trans e,fun a ha=> List.mem_cons_of_mem _ (R.old a ha),fun a ha=> ?_,fun a ha z=> ?_,R.len,fun i s h=> ?_,R.inj⟩
 ·rcases List.mem_cons.mp ha with y | y
  ·subst y; exact .inr (R.same.free n)
  ·exact R.new a y
 ·rcases List.mem_cons.mp ha with y | y
  ·subst y; exact d z
  ·exact R.dom a y (e.free z)
 ·obtain ⟨w,h1,h2⟩:=R.at_ i s h
  refine ⟨w,h1,?_⟩
  cases s with
  | val u=> exact Rp.same (bS e n) h2
  | own ys=>
   obtain ⟨b,ws,k1,k2,k3,k4,k5⟩:=h2
   exact ⟨b,ws,k1,List.mem_cons_of_mem _ k2,k3,e _ _ k4,k5.same (bS e n)⟩
  | pin z u=> exact ⟨h2.1,Rp.same (bS e n) h2.2⟩
theorem mT {js is:List Nat}:∀ {σ:St} {vs:List V},(∀ j∈js,j∈is)→∀ (n:Nat) (v:V),n ∉ is→σ[n]?=some (some v)→(iO σ js vs)[n]?=some (some v):=by
 induction js with
 | nil=> intro σ vs _ n v _ h; cases vs <;> exact h
 | cons j js ih=>
  intro σ vs hj n v hn h
  cases vs with
  | nil=> exact h
  | cons w ws=> exact ih (fun z hz=> hj z (List.mem_cons_of_mem _ hz)) n v hn (by rw [List.getElem?_set_ne (fun z=> hn (by rw [← z]; exact hj j List.mem_cons_self))]; exact h)
def GOk (g:TG) (K:PySem.W.Frag) (is:List Nat) (f:PSt→U→PSt) (dom:U→Prop):Prop:=
 ∀ (H0:Hp) (O0:List Addr) (ps:PSt) (σ:St) (H:Hp) (O:List Addr) (v:V) (u:U) (Q:St→Hp→Prop),dom u→Rs K H0 O0 ps σ H O→Rp K (hid H O) v u→
  (∀ σ',Rs K H0 O0 (f ps u) σ' H O→(∀ (n:Nat) (w:V),n ∉ is→σ[n]?=some (some w)→σ'[n]?=some (some w))→Q σ' H)→g v σ H Q
theorem jj {K:PySem.W.Frag} {is:List Nat} {i:Nat} (h:i∈is):GOk (m9 i) K is (fun ps u=> ps.set i (some (.val u))) fun _=> True:=fun H0 O0 ps σ H O v u Q _ R r q=>
 q _ (R.set r) fun n w hn e=> by rw [List.getElem?_set_ne (fun z=> hn (by rw [← z]; exact h))]; exact e
theorem kC {K:PySem.W.Frag} {is js:List Nat} (h:∀ j∈js,j∈is):GOk (yE K js.length (ja js)) K is (fun ps u=> match u with | .tup us=> setAll ps js us | _=> ps) fun u=> ∃ us,u=.tup us∧us.length=js.length:=fun H0 O0 ps σ H O v u Q d R r q=> by
 obtain ⟨us,rfl,hl⟩:=d
 cases r with
 | tup hq hl' hh=> exact ⟨_,_,rfl,aF.tup hq,hl'.trans hl,eS (hl'.trans hl) (q _ (R.setAll ⟨hl',hh⟩) fun n w hn e=> mT h n w hn e)⟩
theorem j_ {is:List Nat} {g:TG} {f:PSt→U→PSt} {dom:U→Prop} {σ:St} {H1:Hp} {O:List Addr} {Q:VK} {J:It} {te:TE} (hg:GOk g X.K is f dom) (R1:Rs X.K H0 O0 ps σ H1 O) (Y:Yl X.K J (hid H1 O) xs) (hlen:ys.length=xs.length) (hz:xs.length≤sizeLine) (hdom:∀ x∈xs,dom x)
  (hte:∀ (i:Nat) (x y:U) (σ:St) (H:Hp) (O':List Addr) (Q:VK),xs[i]?=some x→ys[i]?=some y→Rs X.K H0 O0 (f (i5 is ps) x) σ H O'→(∀ v H',aJ H H'→Rp X.K (hid H' O') v y→Q v H')→te σ H Q)
  (fin:∀ a vs H',aJ H1 H'→H1 a=none→H' a=some (.lst vs)→Rps X.K (hid H' (a::O)) vs ys→Q (.ref a) H'):v3 is g te σ Q J H1:=by
 intro l hl
 refine ⟨fun i m H2=> m=xs.length - i∧i≤xs.length∧aJ H1 H2∧∃ vs,H2 l=some (.lst vs)∧vs.length=i∧Rps X.K (hid H2 (l::O)) vs (ys.take i),⟨_,rfl,Nat.zero_le _,aU hl _,[],aM,rfl,by rw [List.take_zero]; exact .nil⟩,?_⟩
 rintro i m H2 ⟨rfl,hi,s2,vs,h2,hv,rs⟩
 have seen:aJ (hid H1 O) (hid H2 (l::O)):=bS s2 hl
 obtain ⟨y1,y2⟩:=Y H2 (seen.trans aF)
 by_cases hlt:i < xs.length
 ·obtain ⟨g1,g2⟩:=y1 i hlt
  refine .inr ⟨g1,fun x H3 y=> ?_⟩
  obtain ⟨rfl,u,hu,r⟩:=g2 x H3 y
  have R2:=(R1.mask (is:=is)).hide s2 hl (by rw [h2]; intro z; cases z)
  refine hg H0 O0 _ _ H3 (l::O) x u _ (hdom u (List.mem_of_getElem? hu)) R2 (r.same seen) fun σ4 R4 keep=> ?_
  have hy:ys[i]?=some (ys[i]'(by omega)):=List.getElem?_eq_getElem _
  refine hte i u _ σ4 H3 (l::O) _ hu hy R4 fun v H5 s5 r5=> ⟨fun j w e=> keep j w (i8 is σ j w e).2 e,vs,s5 _ _ h2,?_,xs.length - (i+1),by omega,rfl,hlt,(s2.trans s5).put hl _,vs++[v],aM,by simp [hv],?_⟩
  ·rw [hv]; omega
  ·rw [lf List.mem_cons_self,List.take_succ,hy]
   exact (rs.same (bw s5)).snoc (.cons r5 .nil)
 ·have e:i=xs.length:=by omega
  subst e
  rw [← hlen,List.take_length] at rs
  exact .inl ⟨y2,fin l vs H2 s2 hl h2 rs⟩
theorem jz {elt:Expr} {scope:Scope} {cl:List (Str×Addr)} {is:List Nat} {g:TG} {f:PSt→U→PSt} {dom:U→Prop} (hc:X.calm=true) (B:fk X scope cl is) (hi:EvI X H0 O0 ps tg iter xs) (hg:∀ C s H fp,PG (bq X scope cl C s H fp) tg g) (gk:GOk g X.K is f dom)
  (hlen:ys.length=xs.length) (hz:xs.length≤sizeLine) (hdom:∀ x∈xs,dom x) (he:∀ C s H fp (i:Nat) (x y:U),xs[i]?=some x→ys[i]?=some y→Ev (bq X scope cl C s H fp) H0 O0 (f (i5 is ps) x) elt y)
  (hs:∀ x,foldedSetIterable iter X.env x=pure x:=by intro _; rfl):EvN X H0 O0 ps (.ListComp elt [⟨tg,iter,[],0⟩] scope pos) ys:=by
 have hte:∀ C s H fp,PE (bq X scope cl C s H fp) elt fun σ H Q=> ∃ i x y,xs[i]?=some x∧ys[i]?=some y∧∃ O',Rs X.K H0 O0 (f (i5 is ps) x) σ H O'∧∀ v H',aJ H H'→Rp X.K (hid H' O') v y→Q v H':=
  fun C s H fp pins s' σ H' Q I ⟨i,x,y,h1,h2,z⟩=> he C s H fp i x y h1 h2 pins s' σ H' Q I z
 refine PE.mono (vd hc B hi hg hte hs) fun σ H Q ⟨O,R,q⟩=> ⟨O,R,fun J H1 s1 Y=> ?_⟩
 exact j_ gk (R.go s1) Y hlen hz hdom (fun i x y σ H O' Q h1 h2 R' z=> ⟨i,x,y,h1,h2,O',R',z⟩) fun a vs H' s n h r=> q a vs H' (s1.trans s) (s1.free n) h r
theorem qS {elt:Expr} {scope:Scope} {cl:List (Str×Addr)} {spos py:Pos} {y:Str} {j:Nat} {is:List Nat} {g:TG} {f:PSt→U→PSt} {dom:U→Prop} (own:Bool) (hc:X.calm=true) (hN:X.N.Nodup) (hj:X.N[j]?=some y) (hy:Loc X.env.scope y) (B:fk X scope cl is)
  (hi:EvI X H0 O0 ps tg iter xs) (hg:∀ C s H fp,PG (bq X scope cl C s H fp) tg g) (gk:GOk g X.K is f dom) (hlen:ys.length=xs.length) (hz:xs.length≤sizeLine) (hdom:∀ x∈xs,dom x)
  (he:∀ C s H fp (i:Nat) (x y:U),xs[i]?=some x→ys[i]?=some y→Ev (bq X scope cl C s H fp) H0 O0 (f (i5 is ps) x) elt y) (h:D.nx (ps.set j (some (if own then .own ys else .val (.lst ys)))))
  (hs:∀ x,foldedSetIterable iter X.env x=pure x:=by intro _; rfl)
  (hsw:swapsWith (.ListComp elt [⟨tg,iter,[],0⟩] scope pos) (some (.Name y py)) spos.line X.env=pure true:=by rfl) (hf:X.fn y=true∨X.env.scope.names.lookup y=some .local:=by first | exact .inl rfl | exact .inr rfl | assumption):
  W1 X H0 O0 E (.Assign [.Name y py] (.ListComp elt [⟨tg,iter,[],0⟩] scope pos) spos) D ps:=by
 have hte:∀ C s H fp,PE (bq X scope cl C s H fp) elt fun σ H Q=> ∃ i x y,xs[i]?=some x∧ys[i]?=some y∧∃ O',Rs X.K H0 O0 (f (i5 is ps) x) σ H O'∧∀ v H',aJ H H'→Rp X.K (hid H' O') v y→Q v H':=
  fun C s H fp pins s' σ H' Q I ⟨i,x,y,h1,h2,z⟩=> he C s H fp i x y h1 h2 pins s' σ H' Q I z
 refine PS.mono (oA hc hN hj hy B hi hg hte hs hsw hf) fun D' σ H ⟨L,O,R⟩=> ⟨O,R,fun J H1 s1 Y=> ?_⟩
 refine j_ gk (R.go s1) Y hlen hz hdom (fun i x y σ H O' Q h1 h2 R' z=> ⟨i,x,y,h1,h2,O',R',z⟩) fun a vs H' s n h' r=> ?_
 cases own with
 | true=> exact L.nx _ _ _ _ ((R.go s1).own s n h' r) h
 | false=>
  have na:a ∉ O:=fun z=> (R.go s1).dom a z n
  have r':=r.same (cX fun b hb=> List.mem_cons_of_mem a hb)
  exact L.nx _ _ _ _ (((R.go s1).go s).set (.lst (cM h' na) r'.len r'.at_)) h
end
end L2
namespace L2
open PySem PySem.Spec PyProof.Rows
def spU (K:PySem.W.Frag) (spec:List U→Out→Prop):Sp:=fun vs H Q E=> ∃ us O o,(∀ a∈O,H a≠none)∧Rps K (hid H O) vs us∧spec us o∧nj K H O Q E o
section
variable {X:Cx} {H0:Hp} {O0:List Addr} {E:XK} {ps ps':PSt} {D:PD} {s:Stmt} {ss body:List Stmt} {a b c e:Expr} {es:List Expr} {pos p:Pos} {u x y:U} {xs ys us:List U} {k:Bool}
 {CX:CXT} {n:Nat} {f C:Addr} {fd:FuncData} {pn:List Str} {spec:List U→Out→Prop} {nm:Str}
theorem aD (F:bE X.prog X.w X.K X.mg X.base CX n f fd pn (spU X.K spec)) (hr:eW n X.A) (hg:Gl X nm) (hm:X.mg nm=some (.ref f)) (hk:PySem.W.keepIn X.K (.ref f)=true) (hb:bo X.K fd pn []) (hx:ig CX X E0)
  (ha:EvA X H0 O0 ps (e::es) us) (h:spec us (.val u)) (hdb:(nm==("__debug__":Str))=false:=by decide) (he:starEach (e::es) X.env=(false,eval e X.env)::starEach es X.env:=by rfl) (hpl:(backTo pos (starEach es X.env)).any (·.1)=false:=by rfl):
  Ev X H0 O0 ps (.Call (.Name nm p) (e::es) [] pos) u:=
 PE.mono (ku F hr hg hm hk hb .nil hx ha hdb he hpl) fun σ H Q ⟨O,R,q⟩=> ⟨O,R,fun vs H1 s1 r1=> by
  show spU X.K spec (vs++[]) H1 Q _
  rw [List.append_nil]
  exact ⟨us,O,.val u,(R.go s1).dom,r1,h,fun v H2 s2 r2=> q v H2 (s1.trans s2) r2⟩⟩
theorem cE (F:bE X.prog X.w X.K X.mg X.base CX n f fd pn (spU X.K spec)) (hr:eW n X.A) (hg:Gl X nm) (hm:X.mg nm=some (.ref f)) (hk:PySem.W.keepIn X.K (.ref f)=true) (hb:bo X.K fd pn []) (hx:ig CX X E0)
  (ha:EvA X H0 O0 ps (e::es) us) (h:spec us (.new xs)) (hdb:(nm==("__debug__":Str))=false:=by decide) (he:starEach (e::es) X.env=(false,eval e X.env)::starEach es X.env:=by rfl) (hpl:(backTo pos (starEach es X.env)).any (·.1)=false:=by rfl):
  EvN X H0 O0 ps (.Call (.Name nm p) (e::es) [] pos) xs:=
 PE.mono (ku F hr hg hm hk hb .nil hx ha hdb he hpl) fun σ H Q ⟨O,R,q⟩=> ⟨O,R,fun vs H1 s1 r1=> by
  show spU X.K spec (vs++[]) H1 Q _
  rw [List.append_nil]
  exact ⟨us,O,.new xs,(R.go s1).dom,r1,h,fun a vs H2 s2 n2 h2 r2=> q a vs H2 (s1.trans s2) (s1.free n2) h2 r2⟩⟩
end
section
variable {P:Program} {w:World} {K:PySem.W.Frag} {mg:Str→Option Value} {base:Heap} {N pn:List Str} {qual nm:Str} {scope:Scope} {f:Addr} {cd:Value} {A:Around} {outer:List Env} {s:Shared} {H H0:Hp} {O0:List Addr} {E:XK} {D:PD} {ps:PSt} {u:U}
theorem vn {x:Str} {C:Addr} {e0:Expr} {np cpos pos:Pos} (hex:PySem.W.excIn K C [.type "ValueError",.type "Exception",.type "BaseException",.type "object"] "ValueError.__new__"=true)
  (hg:Gl (fi (CXF P w) P w K mg base N qual scope f cd A outer s H E) x) (hm:mg x=some (.ref C)) (he:Ev (fi (CXF P w) P w K mg base N qual scope f cd A outer s H E) H0 O0 ps e0 u) (h:D.rt (.exc C))
  (hst:starEach [e0] (fi (CXF P w) P w K mg base N qual scope f cd A outer s H E).env=[(false,eval e0 (fi (CXF P w) P w K mg base N qual scope f cd A outer s H E).env)]:=by rfl) (hd:(x==("__debug__":Str))=false:=by decide):
  W1 (fi (CXF P w) P w K mg base N qual scope f cd A outer s H E) H0 O0 E (.Raise (some (.Call (.Name x np) [e0] [] cpos)) none pos) D ps:=
 PS.mono (tx hex hg hm he hst hd) fun D' σ H ⟨L,O,R⟩=> ⟨O,R,fun v H' s r=> L.rt _ h H' (R.same.trans s)⟩
def kO (N:List Str) (us:List U):PSt:=us.map (fun u=> some (.val u))++List.replicate (N.length - us.length) none
theorem bU {st:Stmt} {fd:FuncData} {k:Nat} {spec:List U→Out→Prop} (F:Fun K nm qual st f fd) (S:aK N pn (aj st)) (len:∀ us o,spec us o→us.length=pn.length)
  (hbody:∀ (cdv:Value) (A:Around) (outer:List Env) (s:Shared) (H:Hp) (E:XK) (O:List Addr) (us:List U) (o:Out),eW k (A.deeper (envOfC qual (aj st) s.heap.objs.size f cdv))→spec us o→
   Ws (fi (CXF P w) P w K mg base N qual (aj st) f cdv A outer s H E) H O E (aC st) ⟨fun _=> o=.val .non,fun o'=> o'=o,fun _=> False,fun _=> False⟩ (kO N us)):bE P w K mg base (CXF P w) (k+1) f fd pn (spU K spec):=by
 refine F.okF S (fun vs H Q E h=> ?_) fun cdv A outer s H vs Q E hr h=> ?_
 ·obtain ⟨us,O,o,_,r,hsp,_⟩:=h
  rw [r.len]; exact len us o hsp
 ·obtain ⟨us,O,o,d,r,hsp,q⟩:=h
  refine ⟨_,hbody cdv A outer s H E O us o hr hsp,⟨fun ps σ H' O' R e=> ?_,fun _ _ _ _ _ e=> e.elim,fun _ _ _ _ _ e=> e.elim,fun o' e=> by subst e; exact q⟩,O,?_⟩
  ·subst e; exact q .non H' R.same .non
  ·refine ⟨.refl H,fun a h=> h,fun a h=> .inl h,d,?_,fun i sl e=> ?_,fun i j xs ys a e1 e2 _ _=> ?_⟩
   ·unfold start kO
    rw [List.length_append,List.length_append,List.length_map,List.length_map,List.length_replicate,List.length_replicate,r.len]
   ·unfold kO at e
    by_cases hi:i < us.length
    ·rw [List.getElem?_append_left (by simpa using hi),List.getElem?_map,List.getElem?_eq_getElem hi] at e
     cases e
     obtain ⟨v,h1,h2⟩:=r.get (List.getElem?_eq_getElem hi)
     refine ⟨v,?_,h2⟩
     unfold start
     rw [List.getElem?_append_left (by simpa [r.len] using hi),List.getElem?_map,h1]; rfl
    ·rw [List.getElem?_append_right (by simpa using hi),List.getElem?_replicate] at e
     split at e <;> cases e
   ·exfalso
    unfold kO at e1
    by_cases hi:i < us.length
    ·rw [List.getElem?_append_left (by simpa using hi),List.getElem?_map,List.getElem?_eq_getElem hi] at e1
     cases e1
    ·rw [List.getElem?_append_right (by simpa using hi),List.getElem?_replicate] at e1
     split at e1 <;> cases e1
end
section
variable {X:Cx} {H0:Hp} {O0:List Addr} {ps:PSt} {a b c e:Expr} {es rest:List Expr} {pos p p2:Pos} {u x y:U} {xs ys us:List U} {i j:Int} {k m:Bool} {lo hi:Option Expr} {l h:Option Int}
def EvO (X:Cx) (H0:Hp) (O0:List Addr) (ps:PSt) (e:Option Expr) (n:Option Int):Prop:=PO X e fun σ H Q=> ∃ O,Rs X.K H0 O0 ps σ H O∧∀ H',aJ H H'→Q n H'
theorem gD:EvO X H0 O0 ps none none:=fun pins s σ H Q I ⟨O,R,q⟩=> ui pins s σ H Q I (q H (.refl H))
theorem gC (he:Ev X H0 O0 ps e (.int i)):EvO X H0 O0 ps (some e) (some i):=fun pins s σ H Q I ⟨O,R,q⟩=> vf he pins s σ H Q I ⟨O,R,fun v H' s r=> by cases r; exact ⟨i,rfl,q H' s⟩⟩
def gy (xs:List U) (lo hi:Option Int):List U:=(xs.drop (HT.sIx xs.length 0 lo)).take (HT.sIx xs.length xs.length hi - HT.sIx xs.length 0 lo)
theorem Rps.drop {K:PySem.W.Frag} {H:Hp} {vs:List V} {xs:List U} (r:Rps K H vs xs) (n:Nat):Rps K H (vs.drop n) (xs.drop n):=⟨by simp [r.len],fun i v x h1 h2=> r.at_ _ v x (by rwa [List.getElem?_drop] at h1) (by rwa [List.getElem?_drop] at h2)⟩
theorem Rps.take {K:PySem.W.Frag} {H:Hp} {vs:List V} {xs:List U} (r:Rps K H vs xs) (n:Nat):Rps K H (vs.take n) (xs.take n):=⟨by simp [r.len],fun i v x h1 h2=> by
 by_cases hn:i < n
 ·rw [List.getElem?_take_of_lt hn] at h1 h2
  exact r.at_ i v x h1 h2
 ·rw [List.getElem?_take_eq_none (by omega)] at h1
  cases h1⟩
theorem Rps.cut {K:PySem.W.Frag} {H:Hp} {vs:List V} {xs:List U} (r:Rps K H vs xs):Rps K H (qo vs l h) (gy xs l h):=by
 unfold qo gy
 rw [r.len]
 exact (r.drop _).take _
theorem fm (he:Ev X H0 O0 ps e x) (hl:EvO X H0 O0 ps lo l) (hh:EvO X H0 O0 ps hi h) (hx:x=.lst xs∨x=.scr xs):EvN X H0 O0 ps (.Subscript e (.Slice lo hi none p2) pos) (gy xs l h):=
 PE.mono (r0 uI he hl hh) fun σ H Q ⟨O,R,q⟩=> ⟨O,R,fun v H1 s1 r1=> ⟨O,R.go s1,fun H2 s2=> ⟨O,R.go (s1.trans s2),fun H3 s3=> by
  have key:∃ a vs,v=.ref a∧SqL X.K (hid H1 O) a vs∧Rps X.K (hid H1 O) vs xs:=by
   rcases hx with rfl | rfl
   ·cases r1 with
    | lst hq hl hh=> exact ⟨_,_,rfl,SqL.of hq,hl,hh⟩
   ·cases r1 with
    | scr hq hl hh=> exact ⟨_,_,rfl,hq,hl,hh⟩
  obtain ⟨a,vs,rfl,hq,rs⟩:=key
  have s13:=s2.trans s3
  refine ⟨a,vs,rfl,s13.seq (aF.seq hq),fun p hp=> q p _ _ ((s1.trans s13).trans (aU hp _)) ((s1.trans s13).free hp) aM ?_⟩
  exact (rs.cut.same (bw s13)).same (bS (aU hp _) hp)⟩⟩⟩
theorem oX (ha:Ev X H0 O0 ps a (.lst xs)) (hb:Ev X H0 O0 ps b (.lst ys)) (hz:xs.length+ys.length≤sizeLine):EvN X H0 O0 ps (.BinOp a .Add b pos) (xs++ys):=
 PE.mono (rM wC ha hb) fun σ H Q ⟨O,R,q⟩=> two R (fun _ _ _ z=> z) (fun _ _ _ z=> z) fun v w H' s _ r1 r2=> by
  cases r1 with
  | lst hq hl hh=>
   cases r2 with
   | lst hq' hl' hh'=>
    refine ⟨_,_,_,_,rfl,rfl,aF _ _ hq,aF _ _ hq',by rw [hl,hl']; exact hz,fun p hp=> q p _ _ (s.trans (aU hp _)) (s.free hp) aM ?_⟩
    exact (Rps.snoc ⟨hl,hh⟩ ⟨hl',hh'⟩).same (bS (aU hp _) hp)
def fl:U→V
 | .bl b=> .bl b | .int i=> .int i | .str x=> .str x | _=> .non
end
end L2
namespace L2
open PySem PySem.Spec PyProof.Rows
section
variable {X:Cx} {pins:List (Addr×Obj)} {σ:St} {H:Hp} {s:Shared}
end
section
variable {X:Cx} {H0:Hp} {O0:List Addr} {E:XK} {ps ps':PSt} {D:PD} {tg iter cond:Expr} {pos p:Pos} {xs:List U} {fs:List (Option U)}
end
end L2
namespace L2
open PySem PySem.Spec PyProof.Rows
inductive wg:List (Option Expr)→List Expr→Prop where
 | nil:wg [] []
 | cons {k v:Int} {a b:Nat} {p q:Pos} {ks:List (Option Expr)} {vs:List Expr} (h:wg ks vs):wg (some (.Constant (.int k) a p)::ks) (.Constant (.int v) b q::vs)
section
variable {X:Cx} {H0:Hp} {O0:List Addr} {ps:PSt} {pos:Pos} {keys:List (Option Expr)} {values:List Expr} {k m:Bool}
end
end L2
namespace L2
open PySem PySem.Spec PyProof.Rows
theorem Ws.nox {X:Cx} {H0:Hp} {O0:List Addr} {E:XK} {ss:List Stmt} {D:PD} {ps:PSt} (h:Ws X.nox H0 O0 E ss D ps):Ws X H0 O0 E ss D ps:=PSs.nox h
theorem bE.calm {P:Program} {w:World} {K:PySem.W.Frag} {mg:Str→Option Value} {base:Heap} {k:Nat} {f:Addr} {fd:FuncData} {ps:List Str} {sp:Sp} (F:bE P w K mg base (CXF P w) k f fd ps sp) (h:∀ vs H Q E,sp vs H Q E→sp vs H Q E0):bE P w K mg base CX0 k f fd ps sp:=by
 refine ⟨F.len,fun A outer s H args us vs Q E hr he hb hv hs=> codeAny_mono (F.run A outer s H args us vs Q E0 hr he hb hv (h _ _ _ _ hs)) fun r s' q=> ?_⟩
 cases r with
 | ok fl=>
  cases fl with
  | ret u=> exact q
  | next=> exact q
  | brk=> exact q
  | cont=> exact q
 | error e=>
  obtain ⟨_,_,_,_,_,_,_,_,_,_,_,_,_,_,_,hE⟩:=q
  exact hE.elim
def gW:List U→Out→Prop:=fun us o=> ∃ ns:List Int,us=[.scr (ns.map U.int)]∧ns.length≤63∧(∀ m∈ns,Sz 1048576 m)∧o=.val (.bl true)
theorem tW {K:PySem.W.Frag} (vs:List V) (H:Hp) (Q:VK) (E:XK) (h:spU K gW vs H Q E):spU K gW vs H Q E0:=by
 obtain ⟨us,O,o,d,r,⟨ns,h1,h2,h3,rfl⟩,q⟩:=h
 exact ⟨us,O,_,d,r,⟨ns,h1,h2,h3,rfl⟩,q⟩
theorem qP {K:PySem.W.Frag} {H:Hp} {a:Addr} {ns:List Int} {E:XK} (h1:ns.length≤63) (h2:∀ m∈ns,Sz 1048576 m) (h3:SqL K H a (ns.map V.int)):spU K gW [.ref a] H (fun v _=> v=.bl true) E:=by
 refine ⟨[.scr (ns.map U.int)],[],.val (.bl true),fun a ha=> (nomatch ha),.cons ?_ .nil,⟨ns,rfl,h1,h2,rfl⟩,fun v H' s r=> by cases r; rfl⟩
 have e:hid H []=H:=by funext b; unfold hid; rw [if_neg (by simp)]
 rw [e]
 refine .scr h3 (by simp) fun i v x e1 e2=> ?_
 rw [List.getElem?_map] at e1 e2
 cases q:ns[i]? with
 | none=> rw [q] at e1; cases e1
 | some n=> rw [q] at e1 e2; cases e1; cases e2; exact .int n
theorem gH {k:Nat} {A:Around} (hr:eW k A):A.units+10 < cLine:=by have:=hr.un; omega
theorem rq {ns:List Int} {k:Int} (h0:0≤k) (h:k < (ns.length:Int)):atI (ns.map U.int) k=some (.int (ns.getD k.toNat 0)):=by
 have hk:k.toNat < ns.length:=by omega
 have q:atI (ns.map U.int) ((k.toNat:Nat):Int)=some (.int (ns.getD k.toNat 0)):=pG (by rw [List.getElem?_map,List.getD_eq_getElem?_getD,List.getElem?_eq_getElem hk] <;> rfl)
 rwa [show ((k.toNat:Nat):Int)=k by omega] at q
theorem uT {ns:List Int} (h:∀ m∈ns,Sz 1048576 m) (i:Nat):Sz 1048576 (ns.getD i 0):=by
 by_cases hk:i < ns.length
 ·rw [List.getD_eq_getElem?_getD,List.getElem?_eq_getElem hk,Option.getD_some]; exact h _ (List.getElem_mem hk)
 ·rw [List.getD_eq_getElem?_getD,List.getElem?_eq_none (by omega),Option.getD_none]; exact Sz.mono (m:=8) (by decide) (by decide)
abbrev pt (x y:Int):U:=.tup [.int x,.int y]
theorem dTb {p:Prop} [Decidable p] (h:decide p=true):p:=of_decide_eq_true h
theorem dFb {p:Prop} [Decidable p] (h:decide p=false):¬ p:=of_decide_eq_false h
theorem vB {a b:Bool} (h:a=b):Out.val (.bl a)=Out.val (.bl b):=by rw [h]
theorem vIO {a b:Int} (h:a=b):Out.val (.int a)=Out.val (.int b):=by rw [h]
mutual
theorem lL:∀ (n:Nat) (u:U),okU n u=true→eqW u u=true
 | _,.non,_=> rfl
 | _,.bl b,_=> by simp [eqW]
 | _,.int b,_=> by simp [eqW]
 | _,.str b,_=> by simp [eqW]
 | _,.ty _,h=> by simp [okU] at h
 | _,.dic,h=> by simp [okU] at h
 | 0,.tup _,h=> by simp [okU] at h
 | 0,.lst _,h=> by simp [okU] at h
 | 0,.scr _,h=> by simp [okU] at h
 | n+1,.tup xs,h=> by rw [eqW]; rw [okU] at h; exact eqWs_refl n xs h
 | n+1,.lst xs,h=> by rw [eqW]; rw [okU] at h; exact eqWs_refl n xs h
 | n+1,.scr xs,h=> by rw [eqW]; rw [okU] at h; exact eqWs_refl n xs h
theorem eqWs_refl:∀ (n:Nat) (xs:List U),okUs n xs=true→eqWs xs xs=true
 | _,[],_=> rfl
 | n,x::xs,h=> by
  simp only [okUs,Bool.and_eq_true] at h
  simp only [eqWs,Bool.and_eq_true]
  exact ⟨lL n x h.1,eqWs_refl n xs h.2⟩
end
theorem tY {α:Type} {n:Nat} {f:α→U} {l:List α} (h:∀ a∈l,okU n (f a)=true):okUs n (l.map f)=true:=by
 induction l with
 | nil=> rfl
 | cons a l ih=>
  rw [List.map_cons,okUs,Bool.and_eq_true]
  exact ⟨h a List.mem_cons_self,ih fun b hb=> h b (List.mem_cons_of_mem _ hb)⟩
theorem rE {α:Type} {n:Nat} {f:α→U} {l:List α} (h:∀ a,okU n (f a)=true):okU (n+1) (.lst (l.map f))=true:=by rw [okU]; exact tY fun a _=> h a
end L2
namespace L2
open PySem PySem.Spec PyProof.Rows
section
variable {X:Cx} {H0:Hp} {O0:List Addr} {E:XK} {ps:PSt} {D:PD} {a b c e:Expr} {rest:List Expr} {pos:Pos} {k:Bool}
theorem iy {tb fb:List Stmt} (hc:Tt X H0 O0 ps c k) (hk:k=true) (h:Ws X H0 O0 E tb D ps):W1 X H0 O0 E (.If c tb fb pos) D ps:=lF hc (fun _=> h) (fun e=> by rw [hk] at e; cases e)
theorem eG {tb fb:List Stmt} (hc:Tt X H0 O0 ps c k) (hk:k=false) (h:Ws X H0 O0 E fb D ps):W1 X H0 O0 E (.If c tb fb pos) D ps:=lF hc (fun e=> by rw [hk] at e; cases e) (fun _=> h)
theorem jA (ha:Tt X H0 O0 ps a k) (hk:k=false):Tw X H0 O0 ps (.BoolOp .And (a::b::rest) pos) false:=by
 subst hk
 exact pO (m:=true) ha fun h=> by cases h
end
end L2
namespace L2
open PySem PySem.Spec PyProof.Rows
section
variable {X:Cx} {H0:Hp} {O0:List Addr} {E:XK} {ps:PSt} {D:PD} {body:List Stmt} {tg iter c:Expr} {pos:Pos} {xs:List U} {α:Type}
theorem TgS.sub {p p':PSt} {u:U} {ps':PSt} (h:TgS X H0 O0 tg p u ps') (hs:SubP p p'):TgS X H0 O0 tg p' u ps':=PG.mono h fun v σ H Q ⟨O,R,r,q⟩=> ⟨O,R.sub hs,r,q⟩
theorem Tt.sub {p p':PSt} {e:Expr} {k:Bool} (h:Tt X H0 O0 p e k) (hs:SubP p p'):Tt X H0 O0 p' e k:=PT.mono h fun σ H Q ⟨O,R,q⟩=> ⟨O,R.sub hs,q⟩
theorem fe (st:α→PSt) (Q:Nat→α→Prop) (hc:X.calm=true) (hp:PassesOwn (model X.prog X.w) X.A X.env X.xe) (hi:EvI X H0 O0 ps tg iter xs) (h0:∃ a,Q 0 a∧SubP (st a) ps)
  (hs:∀ (H0:Hp) (i:Nat) (x:U) (a:α),xs[i]?=some x→Q i a→∃ ps',TgS X H0 O0 tg (st a) x ps'∧Ws X H0 O0 E body { D with nx:=fun p=> ∃ b,Q (i+1) b∧SubP (st b) p,ct:=fun p=> ∃ b,Q (i+1) b∧SubP (st b) p,bk:=D.nx } ps')
  (hd:∀ a ps,Q xs.length a→SubP (st a) ps→D.nx ps) (hf:∀ x,foldedSetIterable iter X.env x=pure x:=by intro _; rfl):W1 X H0 O0 E (.For tg iter body [] pos) D ps:=
 xY hc hp hi (fun i ps=> ∃ a,Q i a∧SubP (st a) ps) h0 (fun H0 i x ps hx ⟨a,q,sb⟩=> by
  obtain ⟨ps',t,w⟩:=hs H0 i x a hx q
  exact ⟨ps',t.sub sb,w⟩) (fun ps ⟨a,q,sb⟩=> hd a ps q sb) hf
theorem iZ (st:α→PSt) (Q:Nat→α→Prop) (hp:PassesOwn (model X.prog X.w) X.A X.env X.xe) (h0:∃ m a,Q m a∧SubP (st a) ps)
  (hs:∀ m a,Q m a→∃ b,Tt X H0 O0 (st a) c b∧(b=true→Ws X H0 O0 E body { D with nx:=fun p=> ∃ m' a',m' < m∧Q m' a'∧SubP (st a') p,ct:=fun p=> ∃ m' a',m' < m∧Q m' a'∧SubP (st a') p,bk:=D.nx } (st a))∧(b=false→∀ ps,SubP (st a) ps→D.nx ps)):W1 X H0 O0 E (.While c body [] pos) D ps:=by
 obtain ⟨m,a,q,sb⟩:=h0
 refine vH hp (fun m ps=> ∃ a,Q m a∧SubP (st a) ps) m ⟨a,q,sb⟩ fun m ps ⟨a,q,sb⟩=> ?_
 obtain ⟨b,t,h1,h2⟩:=hs m a q
 refine ⟨b,t.sub sb,fun e=> ?_,fun e=> h2 e ps sb⟩
 refine dR (PSs.mono (h1 e) fun D' σ H ⟨L,O,R⟩=> ⟨⟨fun p σ H O R ⟨m',a',l,q',sb'⟩=> L.nx p σ H O R ⟨m',l,a',q',sb'⟩,L.bk,fun p σ H O R ⟨m',a',l,q',sb'⟩=> L.ct p σ H O R ⟨m',l,a',q',sb'⟩,L.rt⟩,O,R⟩) sb
end
abbrev P2:=Int×Int
abbrev pu (p:P2):U:=.tup [.int p.1,.int p.2]
abbrev lp (l:List P2):U:=.lst (l.map pu)
theorem jZ {l:List P2} {i:Nat} {x:U} (h:(l.map pu)[i]?=some x):∃ p,l[i]?=some p∧p∈l∧x=pu p:=by
 rw [List.getElem?_map] at h
 cases q:l[i]? with
 | none=> rw [q] at h; cases h
 | some p=> rw [q] at h; cases h; exact ⟨p,rfl,List.mem_of_getElem? q,rfl⟩
theorem iP {α:Type} {l:List α} {f:α→U} {g:α→U} {i:Nat} {x y:U} (hx:(l.map f)[i]?=some x) (hy:(l.map g)[i]?=some y):∃ a,l[i]?=some a∧a∈l∧x=f a∧y=g a:=by
 rw [List.getElem?_map] at hx hy
 cases q:l[i]? with
 | none=> rw [q] at hx; cases hx
 | some p=> rw [q] at hx hy; cases hx; cases hy; exact ⟨p,rfl,List.mem_of_getElem? q,rfl,rfl⟩
end L2
namespace L2
open PySem PySem.Spec PyProof.Rows
theorem W1.mono {X:Cx} {H0:Hp} {O0:List Addr} {E:XK} {s:Stmt} {D:PD} {J:PSt→Prop} {ps:PSt} (h:W1 X H0 O0 E s { D with nx:=J } ps) (m:∀ ps,J ps→D.nx ps):W1 X H0 O0 E s D ps:=
 PS.mono h fun D' σ H ⟨L,O,R⟩=> ⟨⟨fun p σ H O R q=> L.nx p σ H O R (m p q),L.bk,L.ct,L.rt⟩,O,R⟩
theorem hV {X:Cx} {H0:Hp} {O0:List Addr} {E:XK} {s:Stmt} {ss:List Stmt} {D:PD} {ps:PSt} (J:PSt→Prop) (h1:W1 X H0 O0 E s { D with nx:=J } ps) (h2:∀ ps,J ps→Ws X H0 O0 E ss D ps):Ws X H0 O0 E (s::ss) D ps:=
 ag (W1.mono (J:=J) (D:={ D with nx:=fun p=> Ws X H0 O0 E ss D p }) h1 h2)
end L2
namespace PySem.W
open PySem PySem.Spec PySem.Calls PyProof.Rows
end PySem.W
namespace L2
open PySem PySem.Spec PySem.W PyProof.Rows
section
variable {X:Cx} {pins:List (Addr×Obj)} {σ:St} {H:Hp} {s:Shared}
end
section
variable {X:Cx}
def kB.drop (D:kB) (i:Nat):kB:=⟨fun σ H=> D.nx (σ.set i none) H,D.rt,fun σ H=> D.bk (σ.set i none) H,fun σ H=> D.ct (σ.set i none) H⟩
end
section
variable {X:Cx} {H0:Hp} {O0:List Addr} {E:XK} {ps:PSt} {D:PD} {a e:Expr} {es:List Expr} {us:List U} {k:Bool} {n:Nat} {fd:FuncData} {pn:List Str} {spec:List U→Out→Prop}
def PD.drop (D:PD) (i:Nat):PD:=⟨fun p=> D.nx (p.set i none),D.rt,fun p=> D.bk (p.set i none),fun p=> D.ct (p.set i none)⟩
end
section
variable {X:Cx} {H0:Hp} {O0:List Addr} {ps:PSt} {pos:Pos}
end
end L2
namespace L2
open PySem
theorem aX {c:Const} {j:Nat} {pos:Pos} {es:List Expr} {env:Env}:starEach (.Constant c j pos::es) env=(false,eval (.Constant c j pos) env)::starEach es env:=by rw [starEach]; intro e p h; cases h
theorem w9 {l:List Expr} {j:Nat} {pos:Pos} {es:List Expr} {env:Env}:starEach (.Tuple l j pos::es) env=(false,eval (.Tuple l j pos) env)::starEach es env:=by rw [starEach]; intro e p h; cases h
theorem nE {l:List Expr} {pos:Pos} {es:List Expr} {env:Env}:starEach (.List l pos::es) env=(false,eval (.List l pos) env)::starEach es env:=by rw [starEach]; intro e p h; cases h
theorem be {a b:Expr} {o:Operator} {pos:Pos} {es:List Expr} {env:Env}:starEach (.BinOp a o b pos::es) env=(false,eval (.BinOp a o b pos) env)::starEach es env:=by rw [starEach]; intro e p h; cases h
theorem am {x:Str} {pos:Pos} {es:List Expr} {env:Env}:starEach (.Name x pos::es) env=(false,eval (.Name x pos) env)::starEach es env:=by rw [starEach]; intro e p h; cases h
theorem ci {a b:Expr} {pos:Pos} {es:List Expr} {env:Env}:starEach (.Subscript a b pos::es) env=(false,eval (.Subscript a b pos) env)::starEach es env:=by rw [starEach]; intro e p h; cases h
theorem bp {f:Expr} {a:List Expr} {k:List Keyword} {pos:Pos} {es:List Expr} {env:Env}:starEach (.Call f a k pos::es) env=(false,eval (.Call f a k pos) env)::starEach es env:=by rw [starEach]; intro e p h; cases h
theorem ls {e:Expr} {g:List Comprehension} {sc:Scope} {pos:Pos} {es:List Expr} {env:Env}:starEach (.ListComp e g sc pos::es) env=(false,eval (.ListComp e g sc pos) env)::starEach es env:=by rw [starEach]; intro e p h; cases h
structure EvS (X:Cx) (H0:Hp) (O0:List Addr) (ps:PSt) (es:List Expr) (us:List U):Prop where
 a:EvA X H0 O0 ps es us
section
variable {X:Cx} {H0:Hp} {O0:List Addr} {ps:PSt} {e:Expr} {es:List Expr} {u:U} {us:List U} {pos:Pos}
theorem cg:EvS X H0 O0 ps [] []:=⟨aq⟩
theorem aA (ha:Ev X H0 O0 ps e u) (hr:EvS X H0 O0 ps es us) (hs:starEach (e::es) X.env=(false,eval e X.env)::starEach es X.env):EvS X H0 O0 ps (e::es) (u::us):=⟨ae ha hr.a hs⟩
theorem cf {x1} (h:EvS X H0 O0 ps es us) (hz:us.length≤sizeLine:=by first | decide | (simp only [List.length_cons,List.length_nil]; decide)):Ev X H0 O0 ps (.Tuple es x1 pos) (.tup us):=yw h.a hz
theorem hJ (h:EvS X H0 O0 ps es us) (hz:us.length≤sizeLine:=by first | decide | (simp only [List.length_cons,List.length_nil]; decide)):EvN X H0 O0 ps (.List es pos) us:=xR h.a hz
end
end L2
namespace ST
open PySem PySem.SetTable
def Ris (xs:Array Nat):Prop:=∀ (i j x y:Nat),i < j→xs[i]?=some x→xs[j]?=some y→x < y
theorem Ris.inj {xs:Array Nat} (h:Ris xs) {i j x:Nat} (h1:xs[i]?=some x) (h2:xs[j]?=some x):i=j:=by
 rcases Nat.lt_trichotomy i j with z | z | z
 ·exact absurd (h i j x x z h1 h2) (Nat.lt_irrefl _)
 ·exact z
 ·exact absurd (h j i x x z h2 h1) (Nat.lt_irrefl _)
theorem eK {xs:Array Nat} {i:Nat} (h:i < xs.size):xs[i]?=some xs[i]:=by simp [h]
theorem pU {xs:Array Nat} {i x:Nat} (h:xs[i]?=some x):i < xs.size:=(Array.getElem?_eq_some_iff.mp h).1
theorem lv {xs:Array Nat} (R:Ris xs) (j:Nat):∀ (fuel lo hi:Nat),lo≤hi→hi≤xs.size→hi - lo≤fuel→(∀ (i x:Nat),i < lo→xs[i]?=some x→x < j)→(∀ (i x:Nat),hi≤i→xs[i]?=some x→j≤x)→
  (∀ (i x:Nat),i < below.go xs j fuel lo hi→xs[i]?=some x→x < j)∧(∀ (i x:Nat),below.go xs j fuel lo hi≤i→xs[i]?=some x→j≤x)∧below.go xs j fuel lo hi≤xs.size
 | 0,lo,hi,h1,h2,h3,h4,h5=> by
  have e:lo=hi:=by omega
  subst e
  rw [below.go]
  exact ⟨h4,h5,h2⟩
 | fuel+1,lo,hi,h1,h2,h3,h4,h5=> by
  rw [below.go]
  by_cases hlt:lo < hi
  ·rw [if_pos hlt]
   have hm:(lo+hi) / 2 < xs.size:=by omega
   have e:xs.getD ((lo+hi) / 2) j=xs[(lo+hi) / 2]:=by simp [Array.getD,hm]
   simp only [e]
   split
   ·rename_i hl
    refine lv R j fuel _ hi (by omega) h2 (by omega) (fun i x hi' hx=> ?_) h5
    rcases Nat.lt_or_eq_of_le (show i≤(lo+hi) / 2 by omega) with z | z
    ·exact Nat.lt_trans (R i _ x _ z hx (eK hm)) hl
    ·subst z; rw [eK hm] at hx; cases hx; exact hl
   ·rename_i hl
    refine lv R j fuel lo _ (by omega) (by omega) (by omega) h4 (fun i x hi' hx=> ?_)
    rcases Nat.lt_or_eq_of_le hi' with z | z
    ·exact Nat.le_trans (Nat.le_of_not_lt hl) (Nat.le_of_lt (R _ i _ x z (eK hm) hx))
    ·subst z; rw [eK hm] at hx; cases hx; exact Nat.le_of_not_lt hl
  ·rw [if_neg hlt]
   have e:lo=hi:=by omega
   subst e
   exact ⟨h4,h5,h2⟩
theorem fq {xs:Array Nat} (R:Ris xs) (j:Nat):(∀ (i x:Nat),i < below xs j→xs[i]?=some x→x < j)∧(∀ (i x:Nat),below xs j≤i→xs[i]?=some x→j≤x)∧below xs j≤xs.size:=
 lv R j xs.size 0 xs.size (Nat.zero_le _) (Nat.le_refl _) (by omega) (fun i x h=> absurd h (Nat.not_lt_zero _)) (fun i x h e=> absurd (pU e) (by omega))
theorem tm {xs:Array Nat} (R:Ris xs) {i j:Nat} (h:xs[i]?=some j):below xs j=i:=by
 obtain ⟨h1,h2,h3⟩:=fq R j
 rcases Nat.lt_trichotomy (below xs j) i with z | z | z
 ·have hk:below xs j < xs.size:=Nat.lt_trans z (pU h)
  have:=h2 _ _ (Nat.le_refl _) (eK hk)
  have:=R _ _ _ _ z (eK hk) h
  omega
 ·exact z
 ·have:=h1 i j z h
  omega
theorem jV {t:SetTable} (R:Ris t.place) {i j:Nat} (h:t.place[i]?=some j):t.slot j=.live i:=by
 unfold SetTable.slot
 simp only [tm R h,h,beq_self_eq_true,if_true]
theorem qc {t:SetTable} (hd:t.dummies=#[]) {j:Nat} (h:∀ i:Nat,t.place[i]?≠some j):t.slot j=.empty:=by
 unfold SetTable.slot
 have e:(t.place[below t.place j]?==some j)=false:=by simpa using h _
 simp only [e,hd]
 simp [SetTable.has]
theorem nJ {t:SetTable} (R:Ris t.place) (hd:t.dummies=#[]) (j:Nat):(t.slot j=.empty∧∀ i:Nat,t.place[i]?≠some j)∨∃ i:Nat,t.slot j=.live i∧t.place[i]?=some j:=by
 by_cases h:∃ i:Nat,t.place[i]?=some j
 ·obtain ⟨i,hi⟩:=h
  exact .inr ⟨i,jV R hi,hi⟩
 ·exact .inl ⟨qc hd fun i e=> h ⟨i,e⟩,fun i e=> h ⟨i,e⟩⟩
theorem qz {xs:Array Nat} (R:Ris xs) {mask:Nat} (hn:xs.size≤mask):∃ s,s≤mask∧∀ i:Nat,xs[i]?≠some s:=by
 apply Classical.byContradiction
 intro hno
 have all:∀ s,s≤mask→∃ i:Nat,xs[i]?=some s:=fun s hs=> by
  apply Classical.byContradiction
  intro h
  exact hno ⟨s,hs,fun i e=> h ⟨i,e⟩⟩
 have key:∀ s,s≤mask→∃ i:Nat,xs[i]?=some s∧s≤i:=by
  intro s
  induction s with
  | zero=> intro h; obtain ⟨i,hi⟩:=all 0 h; exact ⟨i,hi,Nat.zero_le _⟩
  | succ s ih=>
   intro h
   obtain ⟨i,hi,hle⟩:=ih (by omega)
   obtain ⟨k,hk⟩:=all (s+1) h
   refine ⟨k,hk,?_⟩
   rcases Nat.lt_trichotomy i k with z | z | z
   ·omega
   ·subst z; rw [hi] at hk; cases hk
   ·have:=R k i _ _ z hk hi; omega
 obtain ⟨i,hi,hle⟩:=key mask (Nat.le_refl _)
 have:=pU hi
 omega
def adv (mask:Nat) (p:Probe):Probe:=
 if p.more > 0 then { p with j:=p.j+1,more:=p.more - 1 } else
 { p with j:=(leap mask p.i p.perturb).1,more:=runEnd mask (leap mask p.i p.perturb).1 - (leap mask p.i p.perturb).1,i:=(leap mask p.i p.perturb).1,perturb:=(leap mask p.i p.perturb).2 }
theorem jy (t:SetTable) (p:Probe):t.advance p=adv t.mask p:=by
 unfold SetTable.advance adv
 split
 ·rfl
 ·rfl
def start (mask:Nat) (h:Int):Probe:={ j:=bits h % (mask+1),more:=runEnd mask (bits h % (mask+1)) - bits h % (mask+1),i:=bits h % (mask+1),perturb:=bits h,dummy:=none }
def pth (mask:Nat) (h:Int):Nat→Probe
 | 0=> start mask h
 | n+1=> adv mask (pth mask h n)
def aP (mask:Nat) (h:Int):Nat→Nat×Nat
 | 0=> (bits h % (mask+1),bits h)
 | r+1=> leap mask (aP mask h r).1 (aP mask h r).2
theorem iL {mask:Nat}:∀ (m:Nat) (p:Probe) (f:Nat→Probe),f 0=p→(∀ n,f (n+1)=adv mask (f n))→m≤p.more→f m={ p with j:=p.j+m,more:=p.more - m }
 | 0,p,f,h0,_,_=> by rw [h0]; rfl
 | m+1,p,f,h0,hs,hm=> by
  rw [hs m,iL m p f h0 hs (by omega)]
  unfold adv
  rw [if_pos (by show p.more - m > 0; omega)]
  simp only [Probe.mk.injEq]
  exact ⟨by omega,by omega,trivial,trivial,trivial⟩
theorem jC (mask:Nat) (h:Int):∀ n,(pth mask h n).dummy=none
 | 0=> rfl
 | n+1=> by
  rw [pth]; unfold adv
  split
  ·exact jC mask h n
  ·exact jC mask h n
theorem qY (mask i:Nat):runEnd mask i - i≤9:=by unfold runEnd; split <;> omega
theorem o7 (mask:Nat) (h:Int):∀ r,∃ n,n≤10 * r∧pth mask h n={ j:=(aP mask h r).1,more:=runEnd mask (aP mask h r).1 - (aP mask h r).1,i:=(aP mask h r).1,perturb:=(aP mask h r).2,dummy:=none }
 | 0=> ⟨0,Nat.le_refl _,rfl⟩
 | r+1=> by
  obtain ⟨n,hn,e⟩:=o7 mask h r
  have hL:=qY mask (aP mask h r).1
  have step:=iL (mask:=mask) (runEnd mask (aP mask h r).1 - (aP mask h r).1) (pth mask h n) (fun m=> pth mask h (n+m)) rfl (fun m=> rfl) (by rw [e]; exact Nat.le_refl _)
  refine ⟨n+(runEnd mask (aP mask h r).1 - (aP mask h r).1)+1,by omega,?_⟩
  rw [pth]
  have step':pth mask h (n+(runEnd mask (aP mask h r).1 - (aP mask h r).1))=_:=step
  rw [step',e]
  unfold adv
  rw [if_neg (by simp)]
  rfl
theorem uG (h:Int):bits h < 2 ^ 64:=by
 unfold bits
 have h1:=Int.emod_nonneg h (show (2 ^ 64:Int)≠0 by decide)
 have h2:=Int.emod_lt_of_pos h (show (0:Int) < 2 ^ 64 by decide)
 omega
theorem kc (mask:Nat) (h:Int):∀ r,(aP mask h r).2=bits h / 32 ^ r
 | 0=> by simp [aP]
 | r+1=> by
  rw [aP]
  show (aP mask h r).2 / 32=_
  rw [kc mask h r,Nat.div_div_eq_div_mul,Nat.pow_succ]
theorem qi (mask:Nat) (h:Int) (r:Nat) (hr:12≤r):(aP mask h r).2 / 32=0:=by
 rw [kc]
 have h1:=uG h
 rw [Nat.div_div_eq_div_mul]
 apply Nat.div_eq_of_lt
 have:32 ^ 12 * 32≤32 ^ r * 32:=Nat.mul_le_mul_right _ (Nat.pow_le_pow_right (by decide) hr)
 exact Nat.lt_of_lt_of_le (Nat.lt_of_lt_of_le h1 (by decide)) this
def cK:Nat→Nat
 | 0=> 1
 | k+1=> cK k * (4 * cK k+2)
theorem rX:∀ k,∃ m,cK k=2 ^ k * (2 * m+1)
 | 0=> ⟨0,by simp [cK]⟩
 | k+1=> by
  obtain ⟨m,e⟩:=rX k
  refine ⟨2 * (cK k) * m+m+cK k,?_⟩
  rw [cK,Nat.pow_succ]
  have:cK k * (4 * cK k+2)=2 ^ k * (2 * m+1) * (4 * cK k+2):=by rw [← e]
  rw [this]
  generalize cK k=c
  generalize 2 ^ k=p
  grind
def gl:Nat→Nat→Nat
 | 0,x=> x
 | n+1,x=> 5 * gl n x+1
theorem i6 (m x:Nat):∀ n,gl (m+n) x=gl n (gl m x)
 | 0=> rfl
 | n+1=> by rw [← Nat.add_assoc,gl,i6 m x n,gl]
theorem i9:∀ (k x:Nat),gl (2 ^ k) x=(1+4 * cK k) * x+cK k
 | 0,x=> by simp [gl,cK]
 | k+1,x=> by
  rw [Nat.pow_succ,Nat.mul_two,i6,i9 k,i9 k,cK]
  generalize cK k=c
  grind
theorem nD (k x:Nat):gl (2 ^ k) x % 2 ^ (k+1)=(x+2 ^ k) % 2 ^ (k+1):=by
 rw [i9]
 obtain ⟨m,e⟩:=rX k
 rw [e]
 have:(1+4 * (2 ^ k * (2 * m+1))) * x+2 ^ k * (2 * m+1)=(x+2 ^ k)+2 ^ (k+1) * (2 * (2 * m+1) * x+m):=by
  rw [Nat.pow_succ]
  generalize 2 ^ k=p
  grind
 rw [this,Nat.add_mul_mod_self_left]
theorem gw (x:Nat):∀ (k y:Nat),∃ n,n < 2 ^ k∧gl n x % 2 ^ k=y % 2 ^ k
 | 0,y=> ⟨0,by simp,by simp [Nat.mod_one]⟩
 | k+1,y=> by
  obtain ⟨n,hn,e⟩:=gw x k y
  have hp:2 ^ (k+1)=2 ^ k+2 ^ k:=by rw [Nat.pow_succ]; omega
  have h2:0 < 2 ^ k:=Nat.pow_pos (by decide)
  by_cases h:gl n x % 2 ^ (k+1)=y % 2 ^ (k+1)
  ·exact ⟨n,by omega,h⟩
  ·refine ⟨n+2 ^ k,by omega,?_⟩
   rw [i6,nD]
   generalize gl n x=z at *
   have d1:z % 2 ^ (k+1) % 2 ^ k=z % 2 ^ k:=Nat.mod_mod_of_dvd _ ⟨2,by rw [Nat.pow_succ]⟩
   have d2:y % 2 ^ (k+1) % 2 ^ k=y % 2 ^ k:=Nat.mod_mod_of_dvd _ ⟨2,by rw [Nat.pow_succ]⟩
   have l1:=Nat.mod_lt z (show 0 < 2 ^ (k+1) by omega)
   have l2:=Nat.mod_lt y (show 0 < 2 ^ (k+1) by omega)
   rw [← Nat.mod_add_mod]
   rw [← d1,← d2] at e
   generalize z % 2 ^ (k+1)=a at *
   generalize y % 2 ^ (k+1)=b at *
   rw [hp] at *
   generalize 2 ^ k=p at *
   have ea:a % p=if a < p then a else a - p:=by
    split
    ·exact Nat.mod_eq_of_lt (by assumption)
    ·rw [Nat.mod_eq_sub_mod (by omega),Nat.mod_eq_of_lt (by omega)]
   have eb:b % p=if b < p then b else b - p:=by
    split
    ·exact Nat.mod_eq_of_lt (by assumption)
    ·rw [Nat.mod_eq_sub_mod (by omega),Nat.mod_eq_of_lt (by omega)]
   rw [ea,eb] at e
   by_cases ha:a < p
   ·rw [if_pos ha] at e
    rw [Nat.mod_eq_of_lt (by omega)]
    split at e <;> omega
   ·rw [if_neg ha] at e
    rw [Nat.mod_eq_sub_mod (by omega),Nat.mod_eq_of_lt (by omega)]
    split at e <;> omega
theorem jr {mask k:Nat} (hk:mask+1=2 ^ k) (h:Int):∀ q,(aP mask h (12+q)).1=gl q (aP mask h 12).1 % 2 ^ k
 | 0=> by
  rw [gl]
  have:(aP mask h 12).1 < 2 ^ k:=by
   rw [← hk]
   show (leap mask (aP mask h 11).1 (aP mask h 11).2).1 < _
   exact Nat.mod_lt _ (by omega)
  exact (Nat.mod_eq_of_lt this).symm
 | q+1=> by
  show (leap mask (aP mask h (12+q)).1 (aP mask h (12+q)).2).1=_
  unfold leap
  simp only [qi mask h (12+q) (by omega)]
  rw [jr hk h q,hk,gl,Nat.add_zero,Nat.mul_comm 5 _]
  generalize gl q (aP mask h 12).1=z
  generalize 2 ^ k=m
  rw [Nat.add_mod,Nat.mod_mul_mod,← Nat.add_mod]
theorem cover {mask k:Nat} (hk:mask+1=2 ^ k) (h:Int) (s:Nat) (hs:s≤mask):∃ n,n < 10 * turns mask∧(pth mask h n).j=s:=by
 obtain ⟨q,hq,e⟩:=gw (aP mask h 12).1 k s
 obtain ⟨n,hn,en⟩:=o7 mask h (12+q)
 refine ⟨n,?_,?_⟩
 ·unfold turns; omega
 ·rw [en]
  show (aP mask h (12+q)).1=s
  rw [jr hk h q,e]
  exact Nat.mod_eq_of_lt (by omega)
end ST
namespace ST
open PySem PySem.SetTable
def Liv (t:SetTable) (j:Nat):Prop:=∃ i:Nat,t.place[i]?=some j
structure TOk (t:SetTable) (hs:List Int):Prop where
 R:Ris t.place
 d:t.dummies=#[]
 k:∃ k,3≤k∧t.mask+1=2 ^ k
 n:t.place.size=hs.length
 f:t.place.size≤t.mask
 le:∀ (i x:Nat),t.place[i]?=some x→x≤t.mask
 reach:∀ (i j:Nat) (h:Int),t.place[i]?=some j→hs[i]?=some h→∃ m,(pth t.mask h m).j=j∧∀ m',m' < m→Liv t (pth t.mask h m').j
theorem least {P:Nat→Prop}:∀ n,P n→∃ m,m≤n∧P m∧∀ k,k < m→¬ P k:=by
 intro n
 induction n using Nat.strongRecOn with
 | _ n ih=>
  intro h
  by_cases hk:∃ k,k < n∧P k
  ·obtain ⟨k,hk,hp⟩:=hk
   obtain ⟨m,h1,h2,h3⟩:=ih k hk hp
   exact ⟨m,by omega,h2,h3⟩
  ·exact ⟨n,Nat.le_refl _,h,fun k hk' hp=> hk ⟨k,hk',hp⟩⟩
theorem oC {t:SetTable} {hs:List Int} (T:TOk t hs) (h:Int):∃ N,N < 10 * turns t.mask∧¬ Liv t (pth t.mask h N).j∧∀ m,m < N→Liv t (pth t.mask h m).j:=by
 obtain ⟨s,hs1,hs2⟩:=qz T.R T.f
 obtain ⟨k,_,hk⟩:=T.k
 obtain ⟨n,hn,e⟩:=cover hk h s hs1
 obtain ⟨m,h1,h2,h3⟩:=least (P:=fun n=> ¬ Liv t (pth t.mask h n).j) n (by show ¬ Liv t (pth t.mask h n).j; rw [e]; rintro ⟨i,hi⟩; exact hs2 i hi)
 exact ⟨m,by omega,h2,fun k hk'=> Classical.byContradiction fun z=> h3 k hk' z⟩
theorem lP {t:SetTable} {hs:List Int} (T:TOk t hs) (hashAt:Nat→Int) (h:Int) {N:Nat} (h0:¬ Liv t (pth t.mask h N).j) (h1:∀ m,m < N→Liv t (pth t.mask h m).j):∀ (fuel n:Nat),n≤N→N - n < fuel→
  (probe.go t hashAt h fuel (pth t.mask h n)=some (.empty (pth t.mask h N).j none)∧∀ (m i:Nat),n≤m→m < N→t.place[i]?=some (pth t.mask h m).j→hashAt i≠h)∨
  ∃ m i:Nat,n≤m∧m < N∧t.place[i]?=some (pth t.mask h m).j∧hashAt i=h∧probe.go t hashAt h fuel (pth t.mask h n)=some (.candidate (pth t.mask h m).j i (pth t.mask h (m+1)))∧
   ∀ (m' i':Nat),n≤m'→m' < m→t.place[i']?=some (pth t.mask h m').j→hashAt i'≠h
 | 0,n,_,hf=> by omega
 | fuel+1,n,hn,hf=> by
  rw [probe.go]
  rcases nJ T.R T.d (pth t.mask h n).j with ⟨e,hno⟩ | ⟨i,e,hi⟩
  ·have hN:n=N:=by
    rcases Nat.lt_or_eq_of_le hn with z | z
    ·obtain ⟨i,hi⟩:=h1 n z; exact absurd hi (hno i)
    ·exact z
   subst hN
   refine .inl ⟨by simp only [e,jC],fun m i z1 z2=> by omega⟩
  ·have hN:n < N:=by
    rcases Nat.lt_or_eq_of_le hn with z | z
    ·exact z
    ·subst z; exact absurd ⟨i,hi⟩ h0
   simp only [e]
   by_cases hh:hashAt i=h
   ·refine .inr ⟨n,i,Nat.le_refl _,hN,hi,hh,?_,fun m' i' z1 z2=> by omega⟩
    simp only [hh,beq_self_eq_true,if_true,jy]
    rfl
   ·have hb:(hashAt i==h)=false:=by simpa using hh
    simp only [hb,Bool.false_eq_true,if_false,jy]
    have ih:=lP T hashAt h h0 h1 fuel (n+1) (by omega) (by omega)
    rcases ih with ⟨q1,q2⟩ | ⟨m,i2,q1,q2,q3,q4,q5,q6⟩
    ·refine .inl ⟨q1,fun m i' z1 z2 z3=> ?_⟩
     rcases Nat.lt_or_eq_of_le z1 with z | z
     ·exact q2 m i' z z2 z3
     ·subst z
      rw [T.R.inj z3 hi]; exact hh
    ·refine .inr ⟨m,i2,by omega,q2,q3,q4,q5,fun m' i' z1 z2 z3=> ?_⟩
     rcases Nat.lt_or_eq_of_le z1 with z | z
     ·exact q6 m' i' z z2 z3
     ·subst z
      rw [T.R.inj z3 hi]; exact hh
theorem tP {t:SetTable} {hs:List Int} (T:TOk t hs) {h:Int} {N i:Nat} (h0:¬ Liv t (pth t.mask h N).j) (hi:hs[i]?=some h):∃ (m j:Nat),m < N∧t.place[i]?=some j∧(pth t.mask h m).j=j:=by
 have hlt:i < t.place.size:=by rw [T.n]; exact (List.getElem?_eq_some_iff.mp hi).1
 obtain ⟨m,e,hm⟩:=T.reach i _ h (eK hlt) hi
 refine ⟨m,_,?_,eK hlt,e⟩
 rcases Nat.lt_trichotomy m N with z | z | z
 ·exact z
 ·subst z; exact absurd ⟨i,by rw [e]; exact eK hlt⟩ h0
 ·exact absurd (hm N z) h0
theorem eM {α:Type} (xs:Array α) (p:Nat) (x:α):(insertAt xs p x).toList=xs.toList.take p++x::xs.toList.drop p:=by
 unfold insertAt
 simp [Array.toList_extract]
 exact List.take_of_length_le (by simp)
theorem cu {α:Type} {xs:Array α} {p:Nat} {x:α} (hp:p≤xs.size) (i:Nat):(insertAt xs p x)[i]?=if i < p then xs[i]? else if i=p then some x else xs[i - 1]?:=by
 rw [← Array.getElem?_toList,eM]
 have hl:(xs.toList.take p).length=p:=by simp; omega
 by_cases h1:i < p
 ·rw [if_pos h1,List.getElem?_append_left (by omega),List.getElem?_take_of_lt h1,Array.getElem?_toList]
 ·rw [if_neg h1,List.getElem?_append_right (by omega),hl]
  by_cases h2:i=p
  ·subst h2; simp
  ·rw [if_neg h2]
   obtain ⟨q,hq⟩:∃ q,i - p=q+1:=⟨i - p - 1,by omega⟩
   rw [hq,List.getElem?_cons_succ,List.getElem?_drop,Array.getElem?_toList]
   congr 1; omega
theorem gq {α:Type} (xs:Array α) (p:Nat) (x:α) (hp:p≤xs.size):(insertAt xs p x).size=xs.size+1:=by
 rw [← Array.length_toList,eM]; simp; omega
def gj {α:Type} (xs:List α) (p:Nat) (x:α):List α:=xs.take p++x::xs.drop p
theorem r_ {α:Type} {xs:List α} {p:Nat} {x:α} (hp:p≤xs.length) (i:Nat):(gj xs p x)[i]?=if i < p then xs[i]? else if i=p then some x else xs[i - 1]?:=by
 unfold gj
 have hl:(xs.take p).length=p:=by simp; omega
 by_cases h1:i < p
 ·rw [if_pos h1,List.getElem?_append_left (by omega),List.getElem?_take_of_lt h1]
 ·rw [if_neg h1,List.getElem?_append_right (by omega),hl]
  by_cases h2:i=p
  ·subst h2; simp
  ·rw [if_neg h2]
   obtain ⟨q,hq⟩:∃ q,i - p=q+1:=⟨i - p - 1,by omega⟩
   rw [hq,List.getElem?_cons_succ,List.getElem?_drop]
   congr 1; omega
theorem uB {xs:Array Nat} (R:Ris xs) {j:Nat} (hno:∀ i:Nat,xs[i]?≠some j):Ris (insertAt xs (below xs j) j):=by
 obtain ⟨h1,h2,h3⟩:=fq R j
 have gt:∀ (i x:Nat),below xs j≤i→xs[i]?=some x→j < x:=fun i x hi hx=> by
  rcases Nat.lt_or_eq_of_le (h2 i x hi hx) with z | z
  ·exact z
  ·subst z; exact absurd hx (hno i)
 intro a b x y hab hx hy
 rw [cu h3] at hx hy
 by_cases a1:a < below xs j
 ·rw [if_pos a1] at hx
  by_cases b1:b < below xs j
  ·rw [if_pos b1] at hy; exact R a b x y hab hx hy
  ·rw [if_neg b1] at hy
   by_cases b2:b=below xs j
   ·rw [if_pos b2] at hy; cases hy; exact h1 a x a1 hx
   ·rw [if_neg b2] at hy; exact R a (b - 1) x y (by omega) hx hy
 ·rw [if_neg a1] at hx
  have b1:¬ b < below xs j:=by omega
  rw [if_neg b1] at hy
  have b2:¬ b=below xs j:=by omega
  rw [if_neg b2] at hy
  by_cases a2:a=below xs j
  ·rw [if_pos a2] at hx; cases hx; exact gt (b - 1) y (by omega) hy
  ·rw [if_neg a2] at hx; exact R (a - 1) (b - 1) x y (by omega) hx hy
theorem o5 {xs:Array Nat} {p j:Nat} (hp:p≤xs.size) (s:Nat):(∃ i:Nat,(insertAt xs p j)[i]?=some s)↔s=j∨∃ i:Nat,xs[i]?=some s:=by
 constructor
 ·rintro ⟨i,hi⟩
  rw [cu hp] at hi
  split at hi
  ·exact .inr ⟨i,hi⟩
  ·split at hi
   ·cases hi; exact .inl rfl
   ·exact .inr ⟨i - 1,hi⟩
 ·rintro (rfl | ⟨i,hi⟩)
  ·exact ⟨p,by rw [cu hp,if_neg (Nat.lt_irrefl _),if_pos rfl]⟩
  ·by_cases h:i < p
   ·exact ⟨i,by rw [cu hp,if_pos h]; exact hi⟩
   ·exact ⟨i+1,by rw [cu hp,if_neg (by omega),if_neg (by omega)]; simpa using hi⟩
theorem TOk.put {t:SetTable} {hs:List Int} (T:TOk t hs) {h:Int} {N:Nat} (h0:¬ Liv t (pth t.mask h N).j) (h1:∀ m,m < N→Liv t (pth t.mask h m).j) (hle:(pth t.mask h N).j≤t.mask) (hf:t.place.size+1≤t.mask):
  TOk (t.put (pth t.mask h N).j).1 (gj hs (t.put (pth t.mask h N).j).2 h):=by
 have hno:∀ i:Nat,t.place[i]?≠some (pth t.mask h N).j:=fun i e=> h0 ⟨i,e⟩
 obtain ⟨_,_,hb⟩:=fq T.R (pth t.mask h N).j
 have hbl:below t.place (pth t.mask h N).j≤hs.length:=by rw [← T.n]; exact hb
 have ed:(if SetTable.has t.dummies (pth t.mask h N).j then eraseAt t.dummies (below t.dummies (pth t.mask h N).j) else t.dummies)=#[]:=by
  rw [T.d]; simp [SetTable.has]
 unfold SetTable.put
 simp only [ed]
 refine ⟨uB T.R hno,rfl,T.k,?_,?_,fun i x e=> ?_,fun i j hh e1 e2=> ?_⟩
 ·show (insertAt _ _ _).size=(gj hs _ h).length
  rw [gq _ _ _ hb,T.n]; unfold gj; simp; omega
 ·show (insertAt _ _ _).size≤t.mask
  rw [gq _ _ _ hb]; exact hf
 ·rcases (o5 hb x).mp ⟨i,e⟩ with z | ⟨q,hq⟩
  ·rw [z]; exact hle
  ·exact T.le q x hq
 ·have liv:∀ s,Liv t s→Liv { t with place:=insertAt t.place (below t.place (pth t.mask h N).j) (pth t.mask h N).j,dummies:=#[] } s:=fun s z=> (o5 hb s).mpr (.inr z)
  change (insertAt t.place _ _)[i]?=some j at e1
  rw [cu hb] at e1
  rw [r_ hbl] at e2
  split at e1
  ·rename_i z
   rw [if_pos z] at e2
   obtain ⟨m,q1,q2⟩:=T.reach i j hh e1 e2
   exact ⟨m,q1,fun m' hm=> liv _ (q2 m' hm)⟩
  ·rename_i z
   rw [if_neg z] at e2
   split at e1
   ·rename_i z2
    rw [if_pos z2] at e2
    cases e1; cases e2
    exact ⟨N,rfl,fun m' hm=> liv _ (h1 m' hm)⟩
   ·rename_i z2
    rw [if_neg z2] at e2
    obtain ⟨m,q1,q2⟩:=T.reach (i - 1) j hh e1 e2
    exact ⟨m,q1,fun m' hm=> liv _ (q2 m' hm)⟩
theorem rH {mask:Nat} (h:Int):∀ n,(pth mask h n).j+(pth mask h n).more≤mask
 | 0=> by
  show bits h % (mask+1)+(runEnd mask (bits h % (mask+1)) - bits h % (mask+1))≤mask
  have:=Nat.mod_lt (bits h) (show 0 < mask+1 by omega)
  unfold runEnd; split <;> omega
 | n+1=> by
  have ih:=rH (mask:=mask) h n
  rw [pth]; unfold adv
  split
  ·simp only; omega
  ·show (leap mask _ _).1+(runEnd mask (leap mask _ _).1 - (leap mask _ _).1)≤mask
   have:(leap mask (pth mask h n).i (pth mask h n).perturb).1 < mask+1:=Nat.mod_lt _ (by omega)
   unfold runEnd; split <;> omega
end ST
namespace ST
open PySem PySem.SetTable
def OL (owner:Array (Option Nat)) (j:Nat):Prop:=∃ k:Nat,owner[j]?=some (some k)
def nr (mask:Nat) (h:Int):Nat→Nat
 | 0=> 0
 | r+1=> nr mask h r+(runEnd mask (aP mask h r).1 - (aP mask h r).1)+1
theorem v8 (mask:Nat) (h:Int):∀ r,pth mask h (nr mask h r)={ j:=(aP mask h r).1,more:=runEnd mask (aP mask h r).1 - (aP mask h r).1,i:=(aP mask h r).1,perturb:=(aP mask h r).2,dummy:=none }
 | 0=> rfl
 | r+1=> by
  have e:=v8 mask h r
  have step:=iL (mask:=mask) (runEnd mask (aP mask h r).1 - (aP mask h r).1) (pth mask h (nr mask h r)) (fun m=> pth mask h (nr mask h r+m)) rfl (fun m=> rfl) (by rw [e]; exact Nat.le_refl _)
  have step':pth mask h (nr mask h r+(runEnd mask (aP mask h r).1 - (aP mask h r).1))=_:=step
  rw [nr,pth,step',e]
  unfold adv
  rw [if_neg (by simp)]
  rfl
theorem nv (mask:Nat) (h:Int) (r k:Nat) (hk:k≤runEnd mask (aP mask h r).1 - (aP mask h r).1):(pth mask h (nr mask h r+k)).j=(aP mask h r).1+k:=by
 have e:=v8 mask h r
 have step:=iL (mask:=mask) k (pth mask h (nr mask h r)) (fun m=> pth mask h (nr mask h r+m)) rfl (fun m=> rfl) (by rw [e]; exact hk)
 have step':pth mask h (nr mask h r+k)=_:=step
 rw [step',e]
theorem qA (mask i:Nat):i≤runEnd mask i:=by unfold runEnd; split <;> omega
theorem ux (mask:Nat) (h:Int):∀ r,(aP mask h r).1≤mask
 | 0=> Nat.le_of_lt_succ (Nat.mod_lt _ (by omega))
 | r+1=> Nat.le_of_lt_succ (Nat.mod_lt _ (by omega))
theorem ma {mask i:Nat} (h:i≤mask):runEnd mask i≤mask:=by unfold runEnd; split <;> omega
theorem pI {mask:Nat} {owner:Array (Option Nat)} (hsz:owner.size=mask+1) (h:Int):∀ (fuel r:Nat),(∃ r',r≤r'∧r' < r+fuel∧owner[(aP mask h r').1]?=some none)→(∀ m,m < nr mask h r→OL owner (pth mask h m).j)→
  ∃ N,layClean.free mask owner fuel (aP mask h r).1 (aP mask h r).2=some (pth mask h N).j∧owner[(pth mask h N).j]?=some none∧∀ m,m < N→OL owner (pth mask h m).j
 | 0,r,⟨r',h1,h2,_⟩,_=> by omega
 | fuel+1,r,hex,hl=> by
  rw [layClean.free]
  have hge:=qA mask (aP mask h r).1
  have hmk:=ma (ux mask h r)
  have hin:∀ k,k < runEnd mask (aP mask h r).1+1 - (aP mask h r).1→(aP mask h r).1+k < owner.size:=fun k hk=> by omega
  cases hf:(List.range (runEnd mask (aP mask h r).1+1 - (aP mask h r).1)).find? fun k=> (owner.getD ((aP mask h r).1+k) (some 0)).isNone with
  | some k=>
   obtain ⟨p1,p2,p3⟩:=List.find?_range_eq_some.mp hf
   have hk:=List.mem_range.mp p2
   have hlt:=hin k hk
   have e1:owner[(aP mask h r).1+k]?=some none:=by
    have:owner.getD ((aP mask h r).1+k) (some 0)=owner[(aP mask h r).1+k]:=by simp [Array.getD,hlt]
    rw [this] at p1
    have:owner[(aP mask h r).1+k]=none:=by simpa using p1
    simp [hlt,this]
   have ej:=nv mask h r k (by omega)
   refine ⟨nr mask h r+k,by simp only [ej],by rw [ej]; exact e1,fun m hm=> ?_⟩
   by_cases hm1:m < nr mask h r
   ·exact hl m hm1
   ·obtain ⟨q,rfl⟩:∃ q,m=nr mask h r+q:=⟨m - nr mask h r,by omega⟩
    have hq:=p3 q (by omega)
    have hlt2:=hin q (by omega)
    rw [nv mask h r q (by omega)]
    have:owner.getD ((aP mask h r).1+q) (some 0)=owner[(aP mask h r).1+q]:=by simp [Array.getD,hlt2]
    rw [this] at hq
    cases hv:owner[(aP mask h r).1+q] with
    | none=> rw [hv] at hq; simp at hq
    | some v=> exact ⟨v,by simp [hlt2,hv]⟩
  | none=>
   have hall:∀ q,q < runEnd mask (aP mask h r).1+1 - (aP mask h r).1→OL owner ((aP mask h r).1+q):=fun q hq=> by
    have:=List.find?_eq_none.mp hf q (List.mem_range.mpr hq)
    have hlt2:=hin q hq
    have e:owner.getD ((aP mask h r).1+q) (some 0)=owner[(aP mask h r).1+q]:=by simp [Array.getD,hlt2]
    rw [e] at this
    cases hv:owner[(aP mask h r).1+q] with
    | none=> rw [hv] at this; simp at this
    | some v=> exact ⟨v,by simp [hlt2,hv]⟩
   have next:=pI hsz h fuel (r+1) (by
    obtain ⟨r',h1,h2,h3⟩:=hex
    refine ⟨r',?_,by omega,h3⟩
    rcases Nat.lt_or_eq_of_le h1 with z | z
    ·exact z
    ·subst z
     obtain ⟨v,hv⟩:=hall 0 (by omega)
     rw [Nat.add_zero,h3] at hv
     cases hv) (fun m hm=> by
    by_cases hm1:m < nr mask h r
    ·exact hl m hm1
    ·obtain ⟨q,rfl⟩:∃ q,m=nr mask h r+q:=⟨m - nr mask h r,by omega⟩
     have hm2:nr mask h r+q < nr mask h r+(runEnd mask (aP mask h r).1 - (aP mask h r).1)+1:=hm
     rw [nv mask h r q (by omega)]
     exact hall q (by omega))
   exact next
structure OI (mask:Nat) (owner:Array (Option Nat)) (hs:List Int):Prop where
 sz:owner.size=mask+1
 lt:∀ (j k:Nat),owner[j]?=some (some k)→k < hs.length
 inj:∀ (i j k:Nat),owner[i]?=some (some k)→owner[j]?=some (some k)→i=j
 all:∀ k:Nat,k < hs.length→∃ j:Nat,owner[j]?=some (some k)
 reach:∀ (j k:Nat) (h:Int),owner[j]?=some (some k)→hs[k]?=some h→∃ m,(pth mask h m).j=j∧∀ m',m' < m→OL owner (pth mask h m').j
theorem OI.free {mask:Nat} {owner:Array (Option Nat)} {hs:List Int} (O:OI mask owner hs) (hn:hs.length≤mask):∃ s,s≤mask∧owner[s]?=some none:=by
 apply Classical.byContradiction
 intro hno
 have hlive:∀ s,s≤mask→OL owner s:=fun s hs'=> by
  have hlt:s < owner.size:=by rw [O.sz]; omega
  cases e:owner[s] with
  | none=> exact absurd ⟨s,hs',by simp [hlt,e]⟩ hno
  | some k=> exact ⟨k,by simp [hlt,e]⟩
 have nd:((List.range (mask+1)).map fun s=> (owner.getD s none).getD 0).Nodup:=by
  rw [List.nodup_iff_pairwise_ne,List.pairwise_map]
  refine List.Pairwise.imp_of_mem ?_ (List.pairwise_lt_range (n:=mask+1))
  intro a b ha hb hab e
  obtain ⟨k1,h1⟩:=hlive a (by have:=List.mem_range.mp ha; omega)
  obtain ⟨k2,h2⟩:=hlive b (by have:=List.mem_range.mp hb; omega)
  have e1:(owner.getD a none).getD 0=k1:=by simp [Array.getD_eq_getD_getElem?,h1]
  have e2:(owner.getD b none).getD 0=k2:=by simp [Array.getD_eq_getD_getElem?,h2]
  rw [e1,e2] at e
  subst e
  have:=O.inj a b k1 h1 h2
  omega
 have sub:((List.range (mask+1)).map fun s=> (owner.getD s none).getD 0) ⊆ List.range hs.length:=by
  intro x hx
  obtain ⟨s,hs1,rfl⟩:=List.mem_map.mp hx
  obtain ⟨k1,h1⟩:=hlive s (by have:=List.mem_range.mp hs1; omega)
  have e1:(owner.getD s none).getD 0=k1:=by simp [Array.getD_eq_getD_getElem?,h1]
  rw [e1]
  exact List.mem_range.mpr (O.lt s k1 h1)
 have:=List.Nodup.length_le_of_subset nd sub
 simp at this
 omega
theorem OI.step {mask k:Nat} (hk:mask+1=2 ^ k) {owner:Array (Option Nat)} {hs:List Int} (O:OI mask owner hs) (hn:hs.length≤mask) (h:Int):
  ∃ j,layClean.free mask owner (turns mask) (bits h % (mask+1)) (bits h)=some j∧OI mask (owner.setIfInBounds j (some hs.length)) (hs++[h]):=by
 obtain ⟨s,hs1,hs2⟩:=O.free hn
 obtain ⟨q,hq,e⟩:=gw (aP mask h 12).1 k s
 have er:(aP mask h (12+q)).1=s:=by rw [jr hk h q,e]; exact Nat.mod_eq_of_lt (by omega)
 obtain ⟨N,f1,f2,f3⟩:=pI O.sz h (turns mask) 0 ⟨12+q,Nat.zero_le _,by unfold turns; omega,by rw [er]; exact hs2⟩ (fun m hm=> absurd hm (Nat.not_lt_zero _))
 refine ⟨_,f1,?_⟩
 generalize hj:(pth mask h N).j=j at *
 have hjs:j < owner.size:=(Array.getElem?_eq_some_iff.mp f2).1
 have get:∀ i:Nat,(owner.setIfInBounds j (some hs.length))[i]?=if j=i then some (some hs.length) else owner[i]?:=fun i=> by
  rw [Array.getElem?_setIfInBounds]
  split
  ·rename_i z; subst z; simp [hjs]
  ·rfl
 have liv:∀ i,OL owner i→OL (owner.setIfInBounds j (some hs.length)) i:=fun i ⟨v,hv⟩=> by
  refine ⟨v,?_⟩
  rw [get,if_neg (fun z=> by subst z; rw [f2] at hv; cases hv)]
  exact hv
 refine ⟨by simp [O.sz],fun i v e=> ?_,fun a b v e1 e2=> ?_,fun v hv=> ?_,fun i v hh e1 e2=> ?_⟩
 ·rw [get] at e
  split at e
  ·cases e; simp
  ·have:=O.lt i v e; simp; omega
 ·rw [get] at e1 e2
  split at e1 <;> split at e2
  ·omega
  ·cases e1; exact absurd (O.lt b _ e2) (Nat.lt_irrefl _)
  ·cases e2; exact absurd (O.lt a _ e1) (Nat.lt_irrefl _)
  ·exact O.inj a b v e1 e2
 ·simp at hv
  rcases Nat.lt_or_eq_of_le (Nat.le_of_lt_succ hv) with z | z
  ·obtain ⟨i,hi⟩:=O.all v z
   refine ⟨i,?_⟩
   rw [get,if_neg (fun y=> by subst y; rw [f2] at hi; cases hi)]
   exact hi
  ·subst z; exact ⟨j,by rw [get,if_pos rfl]⟩
 ·rw [get] at e1
  split at e1
  ·rename_i z
   cases e1
   rw [List.getElem?_append_right (Nat.le_refl _)] at e2
   simp at e2
   subst e2
   exact ⟨N,by rw [hj]; exact z,fun m hm=> liv _ (f3 m hm)⟩
  ·have hv:=O.lt i v e1
   rw [List.getElem?_append_left hv] at e2
   obtain ⟨m,q1,q2⟩:=O.reach i v hh e1 e2
   exact ⟨m,q1,fun m' hm=> liv _ (q2 m' hm)⟩
theorem o4 {mask k:Nat} (hk:mask+1=2 ^ k):∀ (more done:List Int) (owner:Array (Option Nat)),OI mask owner done→done.length+more.length≤mask+1→∃ owner',more.foldl (fun acc h=> do
  let (owner,k) ← acc
  let j ← layClean.free mask owner (turns mask) (bits h % (mask+1)) (bits h)
  pure (owner.setIfInBounds j (some k),k+1)) (some (owner,done.length))=some (owner',done.length+more.length)∧OI mask owner' (done++more)
 | [],done,owner,O,_=> ⟨owner,by simp,by simpa using O⟩
 | h::more,done,owner,O,hl=> by
  obtain ⟨j,e,O2⟩:=O.step hk (by simp at hl; omega) h
  obtain ⟨ow,e2,O3⟩:=o4 hk more (done++[h]) _ O2 (by simp at hl ⊢; omega)
  refine ⟨ow,?_,by simpa using O3⟩
  rw [List.foldl_cons]
  have:(do
   let (owner,k) ← some (owner,done.length)
   let j ← layClean.free mask owner (turns mask) (bits h % (mask+1)) (bits h)
   pure (owner.setIfInBounds j (some k),k+1):Option (Array (Option Nat)×Nat))=some (owner.setIfInBounds j (some done.length),done.length+1):=by
   simp [e]
  rw [this]
  simp only [List.length_append,List.length_singleton] at e2
  rw [e2]
  simp; omega
theorem m_ {mask k:Nat} (hk:mask+1=2 ^ k) {hs:Array Int} (hl:hs.size≤mask+1):∃ owner,layClean mask hs=some owner∧OI mask owner hs.toList:=by
 have O0:OI mask (Array.replicate (mask+1) none) []:=⟨by simp,fun j k e=> by simp [Array.getElem?_replicate] at e,fun i j k e=> by simp [Array.getElem?_replicate] at e,fun k h=> by simp at h,fun j k h e=> by simp [Array.getElem?_replicate] at e⟩
 obtain ⟨ow,e,O⟩:=o4 hk hs.toList [] _ O0 (by simpa using hl)
 refine ⟨ow,?_,by simpa using O⟩
 unfold layClean
 rw [← Array.foldl_toList]
 simp only [List.length_nil] at e
 rw [e]
 rfl
end ST
namespace ST
open PySem PySem.SetTable
theorem lJ (n:Nat):∀ (fuel k:Nat),n < 2 ^ (k+fuel)→∃ k',k≤k'∧sizeAbove.go n fuel (2 ^ k)=2 ^ k'∧n < 2 ^ k'∧(2 ^ k'≤2 * n∨k'=k)
 | 0,k,h=> ⟨k,Nat.le_refl _,rfl,by simpa using h,.inr rfl⟩
 | fuel+1,k,h=> by
  rw [sizeAbove.go]
  by_cases hle:2 ^ k≤n
  ·rw [if_pos hle,← Nat.pow_succ]
   obtain ⟨k',h1,h2,h3,h4⟩:=lJ n fuel (k+1) (by rw [show k+1+fuel=k+(fuel+1) by omega]; exact h)
   refine ⟨k',by omega,h2,h3,.inl ?_⟩
   rcases h4 with z | z
   ·exact z
   ·subst z; rw [Nat.pow_succ]; omega
  ·rw [if_neg hle]
   exact ⟨k,Nat.le_refl _,rfl,by omega,.inr rfl⟩
theorem above (n:Nat) (h:n < 2 ^ 60):∃ k,3≤k∧sizeAbove n=2 ^ k∧n < 2 ^ k∧2 ^ k≤2 * n+8:=by
 obtain ⟨k,h1,h2,h3,h4⟩:=lJ n 64 3 (Nat.lt_of_lt_of_le h (Nat.pow_le_pow_right (by decide) (by decide)))
 refine ⟨k,h1,h2,h3,?_⟩
 rcases h4 with z | z
 ·omega
 ·subst z; omega
def dt (mask:Nat) (owner:Array (Option Nat)):List (Nat×Nat):=(List.range (mask+1)).filterMap fun j=> (owner.getD j none).map (j,·)
theorem mh (owner:Array (Option Nat)):∀ l:List Nat,(l.filterMap fun j=> (owner.getD j none).map (j,·)).map (·.1)=l.filter fun j=> (owner.getD j none).isSome
 | []=> rfl
 | a::l=> by
  have ih:=mh owner l
  rw [List.filterMap_cons,List.filter_cons]
  cases owner.getD a none with
  | none=> simpa using ih
  | some v=> simpa using ih
theorem dZ {mask:Nat} {owner:Array (Option Nat)} (hsz:owner.size=mask+1) (j k:Nat):(j,k)∈dt mask owner↔owner[j]?=some (some k):=by
 unfold dt
 rw [List.mem_filterMap]
 constructor
 ·rintro ⟨a,ha,e⟩
  have hlt:a < owner.size:=by rw [hsz]; exact List.mem_range.mp ha
  cases hv:owner.getD a none with
  | none=> rw [hv] at e; cases e
  | some v=>
   rw [hv] at e
   cases e
   have:owner.getD j none=owner[j]:=by simp [Array.getD,hlt]
   rw [this] at hv
   simp [hlt,hv]
 ·intro e
  have hlt:=(Array.getElem?_eq_some_iff.mp e).1
  refine ⟨j,List.mem_range.mpr (by omega),?_⟩
  rw [Array.getD_eq_getD_getElem?,e]; rfl
theorem qv (mask:Nat) (owner:Array (Option Nat)):(dt mask owner).Pairwise fun a b=> a.1 < b.1:=by
 have:=(List.pairwise_lt_range (n:=mask+1)).filter fun j=> (owner.getD j none).isSome
 rw [← mh owner (List.range (mask+1)),List.pairwise_map] at this
 exact this
theorem xa {l:List Nat} (h:l.Pairwise (· < ·)):Ris l.toArray:=by
 intro i j x y hij hx hy
 rw [List.getElem?_toArray] at hx hy
 obtain ⟨h1,e1⟩:=List.getElem?_eq_some_iff.mp hx
 obtain ⟨h2,e2⟩:=List.getElem?_eq_some_iff.mp hy
 have:=List.pairwise_iff_getElem.mp h i j h1 h2 hij
 rw [e1,e2] at this
 exact this
theorem um {mask k:Nat} (h3:3≤k) (hk:mask+1=2 ^ k) {hs:Array Int} (hl:hs.size≤mask) (finger moves:Nat) (led plain:Bool):
  ∃ t order,laid mask finger moves led plain hs=some (t,order)∧TOk t (order.toList.map fun i=> hs.getD i 0)∧order.toList.Perm (List.range hs.size)∧t.mask=mask∧t.led=led∧t.plain=plain∧t.moves=moves:=by
 obtain ⟨owner,e,O⟩:=m_ hk (hs:=hs) (by omega)
 have pr:=qv mask owner
 have nd:((dt mask owner).map (·.2)).Nodup:=by
  rw [List.nodup_iff_pairwise_ne,List.pairwise_map]
  refine List.Pairwise.imp_of_mem ?_ pr
  intro a b ha hb hab ee
  have h1:=(dZ O.sz a.1 a.2).mp ha
  have h2:=(dZ O.sz b.1 b.2).mp hb
  rw [ee] at h1
  have:=O.inj a.1 b.1 b.2 h1 h2
  omega
 have perm:((dt mask owner).map (·.2)).Perm (List.range hs.size):=by
  refine (List.perm_ext_iff_of_nodup nd List.nodup_range).mpr fun x=> ?_
  rw [List.mem_map,List.mem_range]
  constructor
  ·rintro ⟨⟨j,v⟩,hm,rfl⟩
   have:=O.lt j v ((dZ O.sz j v).mp hm)
   simpa using this
  ·intro hx
   obtain ⟨j,hj⟩:=O.all x (by simpa using hx)
   exact ⟨(j,x),(dZ O.sz j x).mpr hj,rfl⟩
 have len:(dt mask owner).length=hs.size:=by have:=perm.length_eq; simpa using this
 refine ⟨_,_,by unfold laid; rw [e]; rfl,⟨?_,rfl,⟨k,h3,hk⟩,?_,?_,fun i x ee=> ?_,fun i j h e1 e2=> ?_⟩,?_,rfl,rfl,rfl,rfl⟩
 ·show Ris ((dt mask owner).map (·.1)).toArray
  exact xa (by rw [List.pairwise_map]; exact pr)
 ·show ((dt mask owner).map (·.1)).toArray.size=_
  simp [dt]
 ·show ((dt mask owner).map (·.1)).toArray.size≤mask
  simp [len,hl]
 ·change ((dt mask owner).map (·.1)).toArray[i]?=some x at ee
  rw [List.getElem?_toArray,List.getElem?_map] at ee
  cases q:(dt mask owner)[i]? with
  | none=> rw [q] at ee; cases ee
  | some p=>
   rw [q] at ee
   cases ee
   have:=(dZ O.sz p.1 p.2).mp (List.mem_of_getElem? q)
   have:=(Array.getElem?_eq_some_iff.mp this).1
   show p.1≤mask
   have hz:=O.sz
   omega
 ·change ((dt mask owner).map (·.1)).toArray[i]?=some j at e1
  change (((dt mask owner).map (·.2)).toArray.toList.map fun i=> hs.getD i 0)[i]?=some h at e2
  rw [List.getElem?_toArray,List.getElem?_map] at e1
  rw [List.getElem?_map,List.getElem?_map] at e2
  cases q:(dt mask owner)[i]? with
  | none=> rw [q] at e1; cases e1
  | some p=>
   rw [q] at e1 e2
   cases e1
   have hp:=(dZ O.sz p.1 p.2).mp (List.mem_of_getElem? q)
   have hlt:=O.lt _ _ hp
   have e3:hs.toList[p.2]?=some h:=by
    have e4:hs.getD p.2 0=h:=by simpa using e2
    have:p.2 < hs.size:=by simpa using hlt
    rw [← e4]
    simp [Array.getD,this]
   obtain ⟨m,q1,q2⟩:=O.reach _ _ h hp e3
   refine ⟨m,q1,fun m' hm=> ?_⟩
   obtain ⟨v,hv⟩:=q2 m' hm
   obtain ⟨n,hn⟩:=List.mem_iff_getElem?.mp ((dZ O.sz _ v).mpr hv)
   refine ⟨n,?_⟩
   show ((dt mask owner).map (·.1)).toArray[n]?=_
   rw [List.getElem?_toArray,List.getElem?_map,hn]; rfl
 ·show ((dt mask owner).map (·.2)).toArray.toList.Perm _
  simpa using perm
end ST
namespace ST
open PySem PySem.SetTable
section
variable {prog:Program} {w:World} {A:Around} {E:Value→Shared→Prop} {s:Shared}
abbrev TK (prog:Program) (w:World) (h:Heap) (k:List Int) (b:Addr):Prop:=IsTupleKey (intKind prog w) h k b
abbrev hsh (prog:Program) (w:World) (k:List Int):Int:=tupleKeyHash (intKind prog w) k
theorem TK.ints {h:Heap} {k:List Int} {vs:List Value} (x:ItemsAre (intKind prog w) k vs):∀ v∈vs,∃ n t,v=.int n t:=by
 induction x with
 | nil=> intro v hv; simp at hv
 | cons h1 _ ih=>
  intro v hv
  rcases List.mem_cons.mp hv with rfl | hv
  ·obtain ⟨t,rfl⟩:=Value.isInt_shape h1; exact ⟨_,t,rfl⟩
  ·exact ih v hv
theorem jX {k:List Int} {a:Addr} {Q:Bool→Shared→Prop} (hk:TK prog w s.heap k a) (h:Q false s):wpAny (model prog w) A (ofAClassStatement 8 (.ref a)) Q E s:=by
 have hT:=hk.typeIs
 obtain ⟨o,items,n,ho,_,hd,hi⟩:=hk
 unfold ofAClassStatement
 refine wpAny_bind (wpAny_typeOf hT ?_)
 dsimp only
 rw [if_pos (by decide)]
 refine wpAny_bind (wpAny_pure ?_)
 simp only [Bool.not_true,Bool.false_eq_true,if_false]
 refine wpAny_bind (wpAny_seqItems ho hd ?_)
 dsimp only
 refine wpAny_bind ?_
 rw [← Array.forIn_toList]
 refine wpAny_forIn_list _ (fun rest r s'=> r.1=none∧s'=s∧∀ v∈rest,∃ n t,v=Value.int n t) _ ?_ ?_ _ _ ⟨rfl,rfl,TK.ints (h:=s.heap) hi⟩
 ·rintro v rest r s' ⟨hr,rfl,hall⟩
  obtain ⟨n,t,rfl⟩:=hall v List.mem_cons_self
  have e:ofAClassStatement 7 (Value.int n t)=pure false:=by unfold ofAClassStatement; rfl
  rw [e]
  refine wpAny_bind (wpAny_pure ?_)
  simp only [Bool.false_eq_true,if_false]
  exact wpAny_pure ⟨rfl,rfl,fun u hu'=> hall u (List.mem_cons_of_mem _ hu')⟩
 ·rintro ⟨r1,r2⟩ s' ⟨hr,rfl,_⟩
  simp only at hr
  subst hr
  exact wpAny_pure h
theorem yA {k:List Int} {a:Addr} {Q:Bool→Shared→Prop} (hk:TK prog w s.heap k a) (h:Q true s):wpAny (model prog w) A (hashByValue 8 (.ref a)) Q E s:=by
 have hT:=hk.typeIs
 obtain ⟨o,items,n,ho,_,hd,hi⟩:=hk
 unfold hashByValue
 refine wpAny_bind (wpAny_specialOf hT F.slot_tuple_hash.lookup ?_)
 show wpAny _ _ (seqItems? (.ref a) >>=_) _ _ s
 refine wpAny_bind (wpAny_seqItems ho hd ?_)
 refine wpAny_bind ?_
 show wpAny _ _ (forIn items _ _) _ _ s
 rw [← Array.forIn_toList]
 refine wpAny_forIn_list _ (fun rest r s'=> r.1=none∧s'=s∧∀ v∈rest,∃ n t,v=Value.int n t) _ ?_ ?_ _ _ ⟨rfl,rfl,TK.ints (h:=s.heap) hi⟩
 ·rintro v rest r s' ⟨hr,rfl,hall⟩
  obtain ⟨n,t,rfl⟩:=hall v List.mem_cons_self
  have e:hashByValue 7 (Value.int n t)=pure true:=by unfold hashByValue; rfl
  rw [e]
  refine wpAny_bind (wpAny_pure ?_)
  simp only [Bool.not_true,Bool.false_eq_true,if_false]
  exact wpAny_pure ⟨rfl,rfl,fun u hu'=> hall u (List.mem_cons_of_mem _ hu')⟩
 ·rintro ⟨r1,r2⟩ s' ⟨hr,rfl,_⟩
  simp only at hr
  subst hr
  exact wpAny_pure h
theorem n9 {k:List Int} {a:Addr} {l:List Value} {Q:Bool→Shared→Prop} (hk:TK prog w s.heap k a) (hl:∀ v∈l,∃ k' b,v=.ref b∧TK prog w s.heap k' b) (h:Q false s):
  wpAny (model prog w) A (searchCouldBeSeen (.ref a) l) Q E s:=by
 unfold searchCouldBeSeen
 refine wpAny_bind ?_
 refine wpAny_forIn_list _ (fun rest r s'=> r.1=none∧s'=s∧∀ v∈rest,∃ k' b,v=.ref b∧TK prog w s.heap k' b) _ ?_ ?_ _ _ ⟨rfl,rfl,hl⟩
 ·rintro v rest r s' ⟨hr,rfl,hall⟩
  obtain ⟨k',b,rfl,hb⟩:=hall v List.mem_cons_self
  dsimp only
  split
  ·exact wpAny_pure ⟨rfl,rfl,fun u hu'=> hall u (List.mem_cons_of_mem _ hu')⟩
  ·refine wpAny_bind (wpAny_eqIsQuiet_tuple hk ?_)
   simp only [Bool.not_true,Bool.false_eq_true,if_false]
   refine wpAny_bind (wpAny_eqIsQuiet_tuple hb ?_)
   simp only [Bool.not_true,Bool.false_eq_true,if_false]
   refine wpAny_bind (jX hk ?_)
   simp only [Bool.false_eq_true,if_false]
   refine wpAny_bind (jX hb ?_)
   simp only [Bool.false_eq_true,if_false]
   exact wpAny_pure ⟨rfl,rfl,fun u hu'=> hall u (List.mem_cons_of_mem _ hu')⟩
 ·rintro ⟨r1,r2⟩ s' ⟨hr,rfl,_⟩
  simp only at hr
  subst hr
  exact wpAny_pure h
def fu (prog:Program) (w:World) (kb:List (List Int×Addr)):List (Int×Value):=kb.map fun p=> (hsh prog w p.1,.ref p.2)
theorem oI {kb:List (List Int×Addr)} {i:Nat}:(fu prog w kb)[i]?=(kb[i]?).map fun p=> (hsh prog w p.1,.ref p.2):=by unfold fu; rw [List.getElem?_map]
theorem vE (kb:List (List Int×Addr)):(fu prog w kb).map (·.1)=kb.map fun p=> hsh prog w p.1:=by unfold fu; rw [List.map_map]; rfl
theorem TOk.fits {t:SetTable} {hs:List Int} (T:TOk t hs) {n:Nat} (hn:hs.length=n):t.fits n=true:=by
 have h1:=T.n
 have h2:=T.f
 have h3:t.fill=t.place.size:=by unfold fill; rw [T.d]; rfl
 unfold SetTable.fits
 rw [h3]
 simp [h1,hn]
 omega
theorem TOk.gave {t:SetTable} {hs:List Int} (T:TOk t hs):t.gaveWay=false:=by
 obtain ⟨k,h3,hk⟩:=T.k
 unfold SetTable.gaveWay
 obtain ⟨j,rfl⟩:∃ j,k=j+1:=⟨k - 1,by omega⟩
 rw [Nat.pow_succ] at hk
 have:t.mask % 2=1:=by omega
 simp [this]
theorem m8 {S:Addr} {o:Obj} {es:Array (Int×Value)} {ep:Nat} {t:SetTable} {kb:List (List Int×Addr)} {k:List Int} {x:Addr} (hu:A.units < cLine)
  (ho:s.heap.get? S=some o) (hd:o.data=.set es ep t) (he:es.toList=fu prog w kb) (T:TOk t (kb.map fun p=> hsh prog w p.1)) (hkb:∀ p∈kb,TK prog w s.heap p.1 p.2) (hx:TK prog w s.heap k x)
  {N:Nat} (hN:N < 10 * turns t.mask) (h0:¬ Liv t (pth t.mask (hsh prog w k) N).j) (h1:∀ m,m < N→Liv t (pth t.mask (hsh prog w k) m).j) {Q:SetFound→Shared→Prop}
  (qf:(∀ p∈kb,p.1≠k)→Q (.free (pth t.mask (hsh prog w k) N).j false) s) (qt:(∃ p∈kb,p.1=k)→Q (.there none) s):
  ∀ (fuel n:Nat) (stand:Option Probe),n≤N→N - n < fuel→stand.getD (t.probeStart (hsh prog w k))=pth t.mask (hsh prog w k) n→
   (∀ (m i:Nat) (p:List Int×Addr),m < n→t.place[i]?=some (pth t.mask (hsh prog w k) m).j→kb[i]?=some p→p.1≠k)→
   wpAny (model prog w) A (setSearchFrom S (.ref x) (hsh prog w k) true fuel stand) Q E s:=by
 have hsz:es.size=kb.length:=by rw [← Array.length_toList,he]; simp [fu]
 have hfit:t.fits es.size=true:=T.fits (by rw [List.length_map,hsz])
 have eat:∀ i:Nat,es[i]?=(kb[i]?).map fun (p:List Int×Addr)=> (hsh prog w p.1,Value.ref p.2):=fun i=> by rw [← Array.getElem?_toList,he,oI]
 intro fuel
 induction fuel with
 | zero=> intro n stand _ h; omega
 | succ fuel ih=>
  intro n stand hn hf hst hpre
  unfold setSearchFrom
  refine wpAny_bind (wpAny_setState_of ho hd hfit ?_)
  dsimp only
  rw [T.gave]
  simp only [Bool.false_eq_true,if_false]
  rw [hst]
  have hash:∀ (i:Nat) (p:List Int×Addr),kb[i]?=some p→((es[i]?.map (fun (e:Int×Value)=> e.1)).getD 0:Int)=hsh prog w p.1:=fun i p hp=> by rw [eat,hp]; rfl
  have pg:=lP T (fun (i:Nat)=> (es[i]?.map (fun (e:Int×Value)=> e.1)).getD 0) (hsh prog w k) h0 h1 (10 * turns t.mask) n hn (by omega)
  split
  ·rename_i met hmet
   rcases pg with ⟨e,hne⟩ | ⟨m,i,hnm,hmN,hpl,hhi,e,hbef⟩
   ·have q:some met=some (.empty (pth t.mask (hsh prog w k) N).j none):=hmet.symm.trans e
    cases q
    dsimp only
    refine wpAny_pure (qf fun p hp hpk=> ?_)
    obtain ⟨i,hi⟩:=List.mem_iff_getElem?.mp hp
    obtain ⟨m,j,hm,hpl,hj⟩:=tP T (h:=hsh prog w k) h0 (i:=i) (by rw [List.getElem?_map,hi,← hpk]; rfl)
    rcases Nat.lt_or_ge m n with hmn | hmn
    ·exact hpre m i p hmn (by rw [hj]; exact hpl) hi hpk
    ·exact hne m i hmn hm (by rw [hj]; exact hpl) (by rw [hash i p hi,hpk])
   ·have q:some met=some (.candidate (pth t.mask (hsh prog w k) m).j i (pth t.mask (hsh prog w k) (m+1))):=hmet.symm.trans e
    cases q
    dsimp only
    have hik:i < kb.length:=by rw [← hsz,← show t.place.size=es.size by rw [T.n,List.length_map,hsz]]; exact pU hpl
    obtain ⟨p,hp⟩:∃ p,kb[i]?=some p:=⟨_,List.getElem?_eq_getElem hik⟩
    have hpm:p∈kb:=List.mem_of_getElem? hp
    have hei:es[i]?=some (hsh prog w p.1,Value.ref p.2):=by rw [eat,hp]; rfl
    have rest:wpAny (model prog w) A (do
      let equal ← holding [Value.ref p.2] (eqBool (Value.ref p.2) (.ref x))
      let (es',_,t') ← setState S
      if true && equal then return .there none
      let some same:=t'.sameMemory t.moves t.mask | unsupported "set.changed-during-lookup:is-the-new-block-at-the-old-address"
      let still ← match (if same then t'.slot (pth t.mask (hsh prog w k) m).j else .empty) with
       | .live i'=> match es'[i']? with
        | some (_,y')=> do pure (if ← isSame y' (Value.ref p.2) then some i' else none)
        | none=> pure none
       | _=> pure none
      match still with
      | none=> rule "set.search.anew"; setSearchFrom S (.ref x) (hsh prog w k) true fuel none
      | some i'=> if equal then return .there (some i') else setSearchFrom S (.ref x) (hsh prog w k) true fuel (some (pth t.mask (hsh prog w k) (m+1)))) Q E s:=by
     refine wpAny_bind (wpAny_holding (wpAny_eqBool_tuple hu (hkb p hpm) hx ?_))
     refine wpAny_bind (wpAny_setState_of ho hd hfit ?_)
     dsimp only
     by_cases hpk:p.1=k
     ·rw [decide_eq_true hpk]
      simp only [Bool.and_self,if_true]
      exact wpAny_pure (qt ⟨p,hpm,hpk⟩)
     ·rw [decide_eq_false hpk]
      simp only [Bool.and_false,Bool.false_eq_true,if_false]
      have hsm:t.sameMemory t.moves t.mask=some true:=by unfold SetTable.sameMemory; simp
      rw [hsm]
      dsimp only
      rw [if_pos rfl,jV T.R hpl]
      dsimp only
      rw [hei]
      dsimp only
      refine wpAny_bind (wpAny_isSame_ref_self ?_)
      refine wpAny_bind (wpAny_pure ?_)
      simp only [if_true]
      refine ih (m+1) (some (pth t.mask (hsh prog w k) (m+1))) (by omega) (by omega) rfl fun m' i' p' hm' hpl' hp'=> ?_
      rcases Nat.lt_or_ge m' n with z | z
      ·exact hpre m' i' p' z hpl' hp'
      ·rcases Nat.lt_or_eq_of_le (Nat.le_of_lt_succ hm') with y | y
       ·have:=hbef m' i' z y hpl'
        intro e'
        exact this (by rw [hash i' p' hp',e'])
       ·subst y
        have ei:=T.R.inj hpl hpl'
        subst ei
        rw [hp] at hp'
        cases hp'
        exact hpk
    by_cases hled:t.led=true
    ·rw [hled]
     simp only [Bool.not_true,Bool.false_eq_true,if_false]
     rw [hei]
     exact rest
    ·rw [show t.led=false by simpa using hled]
     simp only [Bool.not_false,if_true]
     refine wpAny_bind (n9 hx (fun v hv=> ?_) ?_)
     ·obtain ⟨e',he',rfl⟩:=List.mem_map.mp hv
      have hm':e'∈es.toList:=by
       have:=Array.mem_toList_iff.mp he'
       exact Array.mem_toList_iff.mpr (Array.mem_filter.mp this).1
      rw [he] at hm'
      obtain ⟨p',hp',rfl⟩:=List.mem_map.mp hm'
      exact ⟨p'.1,p'.2,rfl,hkb p' hp'⟩
     ·simp only [Bool.false_eq_true,if_false]
      rw [hei]
      exact rest
  ·rename_i hno
   rcases pg with ⟨e,hne⟩ | ⟨m,i,hnm,hmN,hpl,hhi,e,hbef⟩
   ·exact absurd e (hno _)
   ·exact absurd e (hno _)
end
end ST
namespace ST
open PySem PySem.SetTable
section
variable {prog:Program} {w:World} {A:Around} {E:Value→Shared→Prop} {s:Shared}
structure SP (prog:Program) (w:World) (h:Heap) (S:Addr) (kb:List (List Int×Addr)):Prop where
 ex:∃ o es ep t,h.get? S=some o∧o.ExactSet∧o.data=.set es ep t∧es.toList=fu prog w kb∧TOk t (kb.map fun p=> hsh prog w p.1)∧t.led=(!w.params.followText "set-order")∧t.plain=true∧t.tooFull=false∧t.mask < 8 * kb.length+8
 keys:∀ p∈kb,TK prog w h p.1 p.2
 nd:(kb.map (·.1)).Nodup
theorem TK.keep {h h':Heap} {k:List Int} {b S:Addr} {o:Obj} {es ep t} (x:TK prog w h k b) (ho:h.get? S=some o) (hd:o.data=.set es ep t) (hs:Heap.SameBut S h h'):TK prog w h' k b:=by
 obtain ⟨o',items,n,ho',hc,hd',hi⟩:=x
 have hne:b≠S:=by
  rintro rfl
  obtain rfl:o'=o:=Option.some.inj (ho'.symm.trans ho)
  rw [hd] at hd'; exact nomatch hd'
 exact ⟨o',items,n,(hs.2 b hne).trans ho',hc,hd',hi⟩
theorem oj (x:Addr) (es:Array (Int×Value)):byScan (.ref x) es=false:=by simp [byScan,Value.scannable]
theorem l_ {α β:Type} (f:α→β) (xs:List α) (p:Nat) (x:α):(gj xs p x).map f=gj (xs.map f) p (f x):=by
 unfold gj; rw [List.map_append,List.map_cons,List.map_take,List.map_drop]
theorem e7 {α:Type} (xs:List α) (p:Nat) (x:α):(gj xs p x).Perm (xs++[x]):=by
 unfold gj
 refine List.perm_middle.trans ?_
 rw [List.take_append_drop]
 exact (List.perm_append_singleton x xs).symm
theorem mr {α β:Type} {kb:List α} (f:α→β) (d:β):∀ (o:List Nat),(∀ i∈o,i < kb.length)→o.map (fun i=> ((kb.map f).toArray).getD i d)=(o.filterMap fun i=> kb[i]?).map f
 | [],_=> rfl
 | i::o,h=> by
  have hi:=h i List.mem_cons_self
  rw [List.map_cons,List.filterMap_cons,List.getElem?_eq_getElem hi,mr f d o fun j hj=> h j (List.mem_cons_of_mem _ hj)]
  simp [Array.getD,hi]
theorem qX {α:Type} {kb:List α} {o:List Nat} (h:o.Perm (List.range kb.length)):(o.filterMap fun i=> kb[i]?).Perm kb:=by
 refine (h.filterMap _).trans ?_
 suffices (List.range kb.length).filterMap (fun i=> kb[i]?)=kb by rw [this]
 have:∀ (l pre:List α),(List.range' pre.length l.length).filterMap (fun i=> (pre++l)[i]?)=l:=by
  intro l
  induction l with
  | nil=> intro pre; rfl
  | cons x l ih=>
   intro pre
   rw [List.length_cons,List.range'_succ,List.filterMap_cons]
   have e:(pre++x::l)[pre.length]?=some x:=by rw [List.getElem?_append_right (Nat.le_refl _)]; simp
   rw [e]
   have:=ih (pre++[x])
   rw [List.append_assoc,List.length_append] at this
   simpa using this
 have q:=this kb []
 simpa [List.range_eq_range'] using q
theorem uq {t:SetTable} {hs:List Int} (T:TOk t hs) (h:t.tooFull=false):t.place.size+1≤t.mask:=by
 obtain ⟨k,h3,hk⟩:=T.k
 have hf:t.fill=t.place.size:=by unfold fill; rw [T.d]; rfl
 have h8:2 ^ 3≤2 ^ k:=Nat.pow_le_pow_right (by decide) h3
 unfold tooFull at h
 rw [hf] at h
 simp at h
 omega
set_option maxHeartbeats 1000000 in
theorem x_ {S:Addr} {o:Obj} {es:Array (Int×Value)} {ep:Nat} {t:SetTable} {kb:List (List Int×Addr)} {Q:Unit→Shared→Prop} (ho:s.heap.get? S=some o) (hex:o.ExactSet) (hd:o.data=.set es ep t) (he:es.toList=fu prog w kb)
  (T:TOk t (kb.map fun p=> hsh prog w p.1)) (hl:t.led=(!w.params.followText "set-order")) (hp:t.plain=true) (hkb:∀ p∈kb,TK prog w s.heap p.1 p.2) (hnd:(kb.map (·.1)).Nodup) (h1:0 < kb.length) (hn:kb.length≤1000)
  (h:∀ h' kb',Heap.SameBut S s.heap h'→SP prog w h' S kb'→kb'.Perm kb→Q () { s with heap:=h' }):wpAny (model prog w) A (setRelay S (grown kb.length)) Q E s:=by
 have hsz:es.size=kb.length:=by rw [← Array.length_toList,he]; simp [fu]
 have hfit:t.fits es.size=true:=T.fits (by rw [List.length_map,hsz])
 have eat:∀ i:Nat,es[i]?=(kb[i]?).map fun (p:List Int×Addr)=> (hsh prog w p.1,Value.ref p.2):=fun i=> by rw [← Array.getElem?_toList,he,oI]
 have hg:grown kb.length=kb.length * 4:=by unfold grown; rw [if_neg (by omega)]
 rw [hg]
 obtain ⟨k,k3,ek,lk,uk⟩:=above (kb.length * 4) (by omega)
 have hmask:(sizeAbove (kb.length * 4) - 1)+1=2 ^ k:=by omega
 obtain ⟨t',order,e,T',hord,em,el,ep',_⟩:=um k3 hmask (hs:=es.map (·.1)) (by rw [Array.size_map,hsz]; omega) t.finger (t.movedTo (sizeAbove (kb.length * 4) - 1)) t.led t.plain
 have hrel:t.relaid (es.map (·.1)) (kb.length * 4)=some (t',order):=e
 have hord':order.toList.Perm (List.range kb.length):=by rw [Array.size_map,hsz] at hord; exact hord
 have hlt:∀ i∈order.toList,i < kb.length:=fun i hi=> List.mem_range.mp (hord'.mem_iff.mp hi)
 have hpk:=qX hord'
 have hes:(order.filterMap (fun i=> es[i]?)).toList=fu prog w (order.toList.filterMap fun i=> kb[i]?):=by
  rw [Array.toList_filterMap]
  unfold fu
  rw [List.map_filterMap]
  congr 1
  funext i
  rw [eat]
 have hes2:(order.filterMap (fun i=> es[i]?)).size=es.size:=by
  rw [← Array.length_toList,hes,hsz]
  unfold fu
  rw [List.length_map,hpk.length_eq]
 unfold setRelay
 refine wpAny_bind (wpAny_setState_of ho hd hfit ?_)
 dsimp only
 rw [if_neg (by rw [ek,sizeLine_eq]; omega),hrel]
 have goal:wpAny (model prog w) A (do
   if (order.filterMap (fun i=> es[i]?)).size !=es.size then unsupported "internal:set-table-lost-an-element"
   pure (order.filterMap (fun i=> es[i]?),t'):Sem (Array (Int×Value)×SetTable)) (fun r s'=> wpAny (model prog w) A (storeSet S r.1 r.2) Q E s') E s:=by
  rw [hes2]
  simp only [bne_self_eq_false,Bool.false_eq_true,if_false]
  refine wpAny_pure ?_
  refine wpAny_storeSet_of ho hd ?_ (by rw [hes2,hsz,sizeLine_eq]; omega)
  have hg':(s.heap.update S (Obj.putSet (order.filterMap (fun i=> es[i]?)) t')).get? S=some { o with data:=.set (order.filterMap (fun i=> es[i]?)) (ep+1) t' }:=by
   have:=Heap.get?_update_self (Obj.putSet (order.filterMap (fun i=> es[i]?)) t') ho (by rw [putSet_of _ t' hd]; rfl)
   rw [putSet_of _ t' hd] at this; exact this
  have hsb:=Heap.SameBut.update s.heap S (Obj.putSet (order.filterMap (fun i=> es[i]?)) t')
  refine h _ (order.toList.filterMap fun i=> kb[i]?) hsb ⟨⟨_,_,_,t',hg',hex,rfl,hes,?_,by rw [el]; exact hl,by rw [ep']; exact hp,?_,?_⟩,fun p hp'=> ?_,?_⟩ hpk
  ·have:=mr (kb:=kb) (fun p=> hsh prog w p.1) 0 order.toList hlt
   rw [← this]
   have e2:(es.map (·.1))=((kb.map fun p=> hsh prog w p.1)).toArray:=by
    apply Array.toList_inj.mp
    rw [Array.toList_map,he,vE]
   rw [e2] at T'
   exact T'
  ·have hf:t'.fill=t'.place.size:=by unfold fill; rw [T'.d]; rfl
   have hn':=T'.n
   rw [List.length_map,hord'.length_eq,List.length_range] at hn'
   unfold tooFull
   rw [hf,hn',em]
   simp
   omega
  ·rw [em,hpk.length_eq]; omega
  ·exact (hkb p (hpk.mem_iff.mp hp')).keep ho hd hsb
  ·exact ((hpk.map (·.1)).nodup_iff).mpr hnd
 exact wpAny_bind goal
end
end ST
namespace ST
open PySem PySem.SetTable
section
variable {prog:Program} {w:World} {A:Around} {E:Value→Shared→Prop} {s:Shared}
set_option maxHeartbeats 1000000 in
theorem oa {S x:Addr} {kb:List (List Int×Addr)} {k:List Int} {Q:Bool→Shared→Prop} (hu:A.units < cLine) (P:SP prog w s.heap S kb) (hx:TK prog w s.heap k x) (hn:kb.length < 1000)
  (h:∀ b h' kb',Heap.SameBut S s.heap h'→SP prog w h' S kb'→(if k∈kb.map (·.1) then kb'=kb else kb'.Perm (kb++[(k,x)]))→Q b { s with heap:=h' }):
  wpAny (model prog w) A (setAddHashed S (.ref x) (hsh prog w k)) Q E s:=by
 obtain ⟨⟨o,es,ep,t,ho,hex,hd,he,T,hl,hp,hfull,hmask⟩,hkb,hnd⟩:=P
 have P0:SP prog w s.heap S kb:=⟨⟨o,es,ep,t,ho,hex,hd,he,T,hl,hp,hfull,hmask⟩,hkb,hnd⟩
 have hsz:es.size=kb.length:=by rw [← Array.length_toList,he]; simp [fu]
 have hfit:t.fits es.size=true:=T.fits (by rw [List.length_map,hsz])
 obtain ⟨N,hN,h0,h1⟩:=oC T (hsh prog w k)
 have hN':N < 100000:=by unfold turns at hN; omega
 unfold setAddHashed setAddHashedIn
 refine wpAny_holding (wpAny_bind (wpAny_setState_of ho hd hfit ?_))
 dsimp only
 rw [oj]
 simp only [Bool.false_eq_true,if_false]
 unfold setSearch
 refine wpAny_bind (m8 hu ho hd he T hkb hx hN h0 h1 (fun hno=> ?_) (fun hyes=> ?_) 100000 0 none (Nat.zero_le _) (by omega) rfl fun m i p hm=> by omega)
 ·dsimp only
  have hk:k ∉ kb.map (·.1):=fun z=> by obtain ⟨p,hp',e⟩:=List.mem_map.mp z; exact hno p hp' e
  refine wpAny_bind (wpAny_setState_of ho hd hfit ?_)
  dsimp only
  generalize hj:(pth t.mask (hsh prog w k) N).j=j at *
  have T1:=T.put (h:=hsh prog w k) (N:=N) (by rw [hj]; exact h0) h1 (by have:=rH (mask:=t.mask) (hsh prog w k) N; omega) (uq T hfull)
  rw [hj] at T1
  have epl:(t.put j).1.plain=true:=hp
  have eled:(t.put j).1.led=(!w.params.followText "set-order"):=hl
  have emask:(t.put j).1.mask=t.mask:=rfl
  generalize (t.put j).1=t1 at *
  generalize (t.put j).2=q at *
  have hlen1:(gj kb q (k,x)).length=kb.length+1:=by rw [(e7 kb q (k,x)).length_eq]; simp
  have he1:(insertAt es q (hsh prog w k,Value.ref x)).toList=fu prog w (gj kb q (k,x)):=by
   rw [eM,he]
   unfold fu
   rw [l_]
   rfl
  have hsz1:(insertAt es q (hsh prog w k,Value.ref x)).size=kb.length+1:=by
   rw [← Array.length_toList,he1]; unfold fu; rw [List.length_map,hlen1]
  have T2:TOk t1 ((gj kb q (k,x)).map fun p=> hsh prog w p.1):=by rw [l_]; exact T1
  rw [if_pos epl]
  refine wpAny_bind (yA hx ?_)
  rw [if_pos rfl]
  have hg1:(s.heap.update S (Obj.putSet (insertAt es q (hsh prog w k,Value.ref x)) t1)).get? S=some { o with data:=.set (insertAt es q (hsh prog w k,Value.ref x)) (ep+1) t1 }:=by
   have:=Heap.get?_update_self (Obj.putSet (insertAt es q (hsh prog w k,Value.ref x)) t1) ho (by rw [putSet_of _ t1 hd]; rfl)
   rw [putSet_of _ t1 hd] at this; exact this
  have hsb:=Heap.SameBut.update s.heap S (Obj.putSet (insertAt es q (hsh prog w k,Value.ref x)) t1)
  have hkb1:∀ p∈gj kb q (k,x),TK prog w (s.heap.update S (Obj.putSet (insertAt es q (hsh prog w k,Value.ref x)) t1)) p.1 p.2:=fun p hp'=> by
   have:=(e7 kb q (k,x)).mem_iff.mp hp'
   rcases List.mem_append.mp this with z | z
   ·exact (hkb p z).keep ho hd hsb
   ·rw [List.mem_singleton.mp z]; exact hx.keep ho hd hsb
  have hnd1:((gj kb q (k,x)).map (·.1)).Nodup:=by
   rw [((e7 kb q (k,x)).map (·.1)).nodup_iff,List.map_append,List.nodup_append]
   refine ⟨hnd,by simp,fun a ha b hb=> ?_⟩
   simp at hb
   subst hb
   rintro rfl
   exact hk ha
  refine wpAny_bind (wpAny_storeSet_of ho hd ?_ (by rw [hsz1,sizeLine_eq]; omega))
  rw [Bool.not_false,Bool.true_and]
  by_cases hft:t1.tooFull=true
  ·rw [if_pos hft,hsz,← hlen1]
   refine wpAny_bind (x_ (s:={ s with heap:=s.heap.update S (Obj.putSet (insertAt es q (hsh prog w k,Value.ref x)) t1) }) hg1 hex rfl he1 T2 eled epl hkb1 hnd1 (by omega) (by omega) fun h' kb' hsb' P' pm=> wpAny_pure ?_)
   exact h true h' kb' (hsb.trans hsb') P' (by rw [if_neg hk]; exact pm.trans (e7 kb q (k,x)))
  ·rw [if_neg hft]
   refine wpAny_pure (h true _ (gj kb q (k,x)) hsb ⟨⟨_,_,_,t1,hg1,hex,rfl,he1,T2,eled,epl,by simpa using hft,by rw [emask,hlen1]; omega⟩,hkb1,hnd1⟩ (by rw [if_neg hk]; exact e7 kb q (k,x)))
 ·dsimp only
  refine wpAny_pure ?_
  have hk:k∈kb.map (·.1):=by obtain ⟨p,hp',e⟩:=hyes; exact List.mem_map.mpr ⟨p,hp',e⟩
  exact h false s.heap kb (Heap.SameBut.refl S s.heap) P0 (by rw [if_pos hk])
end
end ST
namespace ST
open PySem PySem.SetTable
section
variable {prog:Program} {w:World} {A:Around}
theorem TK.moved {s s':Shared} {wr:List Addr} {G:Array GenState→Array GenState→Prop} {k:List Int} {b:Addr} (x:TK prog w s.heap k b) (hb:b ∉ wr) (m:Moved wr G s s'):TK prog w s'.heap k b:=by
 obtain ⟨o,its,n,ho,hc,hd,hi⟩:=x
 exact ⟨o,its,n,m.heap b o hb ho,hc,hd,hi⟩
theorem SP.moved {s s':Shared} {wr:List Addr} {G:Array GenState→Array GenState→Prop} {S:Addr} {kb:List (List Int×Addr)} (x:SP prog w s.heap S kb) (hS:S ∉ wr) (hb:∀ p∈kb,p.2 ∉ wr) (m:Moved wr G s s'):SP prog w s'.heap S kb:=by
 obtain ⟨⟨o,es,ep,t,ho,r⟩,hk,hn⟩:=x
 exact ⟨⟨o,es,ep,t,m.heap S o hS ho,r⟩,fun p hp=> (hk p hp).moved (hb p hp) m,hn⟩
structure Got (kx:Nat→List Int×Addr) (i:Nat) (kb:List (List Int×Addr)):Prop where
 src:∀ p∈kb,∃ j,j < i∧p=kx j
 all:∀ j,j < i→(kx j).1∈kb.map (·.1)
 len:kb.length≤i
variable {R:Result→Shared→Prop} {I:Addr} {fp wr:List Addr} {G:Array GenState→Array GenState→Prop} {n:Nat} {P:Nat→Value→Prop} {St:Nat→Shared→Prop}
set_option maxHeartbeats 1000000 in
theorem tG (W:WalksS prog w A.in1 I fp wr G n P St) (hu:A.in1.units < cLine) {S:Addr} (hSf:S ∉ fp) (kx:Nat→List Int×Addr) (hP:∀ i v,P i v→v=.ref (kx i).2) (hwr:∀ i,i < n→(kx i).2 ∉ wr) (hn:n≤1000):
  ∀ (k i:Nat) (s:Shared) (kb:List (List Int×Addr)),n - i=k→i≤n→St i s→SP prog w s.heap S kb→Got kx i kb→(∀ j,j < n→TK prog w s.heap (kx j).1 (kx j).2)→
   (∀ s' kb',Moved (S::wr) G s s'→SP prog w s'.heap S kb'→Got kx n kb'→R (.ok (.ret .none)) s')→
   codeAny (model prog w) A (.builtin "set.update.loop" ⟨[.ref S,.ref I],[]⟩) R s:=by
 have hSw:S ∉ wr:=fun h=> hSf (W.sub _ h)
 have more:∀ b∈wr,b∈S::wr:=fun b hb=> List.mem_cons_of_mem _ hb
 intro k
 induction k with
 | zero=>
  intro i s kb hk hi st hS g tk hR
  obtain rfl:i=n:=by omega
  refine codeAny_builtin PyProof.Rows.F.entry_set_update_loop ?_
  rw [Around.under_plainId PyProof.Rows.F.plain_set_update_loop _]
  show wpAny _ A.in1 (pyNext (.ref I) >>=_) _ _ s
  refine wpAny_bind (W.done s _ _ st fun s' m=> ?_)
  exact wpAny_pure (hR s' kb (m.mono more) (hS.moved hSw (fun p hp=> by obtain ⟨j,hj,rfl⟩:=g.src p hp; exact hwr j hj) m) g)
 | succ k ih=>
  intro i s kb hk hi st hS g tk hR
  have hlt:i < n:=by omega
  have hkb:∀ p∈kb,p.2 ∉ wr:=fun p hp=> by obtain ⟨j,hj,rfl⟩:=g.src p hp; exact hwr j (by omega)
  refine codeAny_builtin PyProof.Rows.F.entry_set_update_loop ?_
  rw [Around.under_plainId PyProof.Rows.F.plain_set_update_loop _]
  show wpAny _ A.in1 (pyNext (.ref I) >>=_) _ _ s
  refine wpAny_bind (W.item i s _ _ hlt st fun v s1 pv st1 m=> ?_)
  obtain rfl:=hP i v pv
  have hS1:=hS.moved hSw hkb m
  have tk1:∀ j,j < n→TK prog w s1.heap (kx j).1 (kx j).2:=fun j hj=> (tk j hj).moved (hwr j hj) m
  show wpAny _ A.in1 (holding [Value.ref (kx i).2] (setAdd S (.ref (kx i).2)) >>=_) _ _ s1
  refine wpAny_bind (wpAny_holding ?_)
  unfold setAdd
  refine wpAny_holding (wpAny_bind (wpAny_pyHash_tuple hu (tk1 i hlt) ?_))
  refine oa (s:={ s1 with toks:=s1.toks+((kx i).1.length+1) }) hu hS1 (tk1 i hlt) (by have:=g.len; omega) fun b h' kb' sb hS2 hkk=> ?_
  obtain ⟨⟨o,es,ep,t,ho,hex,hd,hrest⟩,hks,hnd⟩:=hS1
  have same:∀ b o,b ∉ S::wr→s1.heap.get? b=some o→h'.get? b=some o:=fun b o hb e=> by rw [sb.2 b (fun z=> hb (by rw [z]; exact List.mem_cons_self))]; exact e
  refine wpAny_pure ⟨plainId_quiet PyProof.Rows.F.plain_set_update_loop _,ih (i+1) _ kb' (by omega) hlt (W.frame _ s1 _ _ st1 (by show s1.toks≤s1.toks+_; omega) fun b hb o e=> ?_) hS2 ?_ (fun j hj=> (tk1 j hj).keep ho hd sb) fun s2 kb2 m2 hS3 g2=> ?_⟩
  ·rw [sb.2 b (fun z=> hSf (by rw [← z]; exact hb))]; exact e
  ·by_cases hin:(kx i).1∈kb.map (·.1)
   ·rw [if_pos hin] at hkk
    subst hkk
    refine ⟨fun p hp=> ?_,fun j hj=> ?_,by have:=g.len; omega⟩
    ·obtain ⟨j,hj,e⟩:=g.src p hp; exact ⟨j,by omega,e⟩
    ·rcases Nat.lt_or_eq_of_le (Nat.le_of_lt_succ hj) with z | z
     ·exact g.all j z
     ·rw [z]; exact hin
   ·rw [if_neg hin] at hkk
    refine ⟨fun p hp=> ?_,fun j hj=> ?_,by rw [hkk.length_eq]; have:=g.len; simp; omega⟩
    ·rcases List.mem_append.mp (hkk.mem_iff.mp hp) with z | z
     ·obtain ⟨j,hj,e⟩:=g.src p z; exact ⟨j,by omega,e⟩
     ·exact ⟨i,Nat.lt_succ_self i,by rw [List.mem_singleton.mp z]⟩
    ·rw [(hkk.map (·.1)).mem_iff,List.map_append]
     rcases Nat.lt_or_eq_of_le (Nat.le_of_lt_succ hj) with z | z
     ·exact List.mem_append_left _ (g.all j z)
     ·rw [z]; exact List.mem_append_right _ (by simp)
  ·exact hR s2 kb2 (Moved.trans W.gtrans ((m.mono more).then_heap (by show s1.toks≤s1.toks+_; omega) same) m2) hS3 g2
end
section
variable {prog:Program} {w:World} {A:Around} {E:Value→Shared→Prop} {s:Shared}
abbrev cj (w:World):Obj:={ cls:=.type "set",dict:=none,data:=.set #[] 0 (.fresh 0 0 (!w.params.followText "set-order")) }
theorem tI:TOk (.fresh 0 0 (!w.params.followText "set-order")) [] where
 R:=by intro i j x y _ h; simp [SetTable.fresh] at h
 d:=rfl
 k:=⟨3,by decide,rfl⟩
 n:=rfl
 f:=by show 0≤7; decide
 le:=by intro i x h; simp [SetTable.fresh] at h
 reach:=by intro i x h hi; simp [SetTable.fresh] at hi
theorem ro {h:Heap} {S:Addr} (e:h.get? S=some (cj w)):SP prog w h S []:=by
 refine ⟨⟨_,_,_,_,e,⟨rfl,rfl,rfl⟩,rfl,rfl,tI,rfl,rfl,by simp [SetTable.tooFull,SetTable.fresh,SetTable.fill],by show 7 < 8; decide⟩,fun p hp=> by simp at hp,by simp⟩
theorem u4 (a:Value) {Q:Value→Shared→Prop} (h:Q (.ref s.heap.objs.size) { s with heap:=s.heap.push (cj w) }):
  codeAny (model prog w) A (.call (.builtin "set.__new__") ⟨[.type "set",a],[]⟩) (wants Q E) s:=by
 refine codeAny_of_tree ?_
 show wpAny _ A.in1 (do checkBuiltinCall "set.__new__" ⟨[.type "set",a],[]⟩; again (.builtin "set.__new__" ⟨[.type "set",a],[]⟩)) _ _ s
 refine wpAny_bind (wpAny_of_eq (PySem.F.newCall_set_1 a) (wpAny_pure ⟨plainId_quiet PySem.F.plain_set_new _,codeAny_builtin PySem.F.entry_set_new ?_⟩))
 rw [Around.under_plainId PySem.F.plain_set_new _]
 unfold Builtin.«set.__new__» Builtin.Frozenset.newClass
 have hsub:=sub_set_self
 obtain ⟨hp,g,d,tk,os⟩:=s
 dsimp only
 wp_walk
 refine wpAny_askSetting (wpAny_pure ?_)
 dsimp only
 simp only [newObj]
 exact wpAny_bind (wpAny_alloc (wpAny_pure (wpAny_pure h)))
end
end ST
namespace ST
open PySem PySem.SetTable
section
variable {prog:Program} {w:World} {A:Around} {E:Value→Shared→Prop} {s:Shared}
set_option maxRecDepth 100000 in
set_option maxHeartbeats 3200000 in
theorem call_set_pts {l:Addr} {items:Array Value} {Q:Value→Shared→Prop} (kx:Nat→List Int×Addr) (hh:A.handled=none) (hu:A.in1.in1.in1.units < cLine) (hl:s.heap.IsList l items)
  (hit:∀ (i:Nat) (v:Value),items[i]?=some v→v=.ref (kx i).2) (htk:∀ i,i < items.size→TK prog w s.heap (kx i).1 (kx i).2) (hn:items.size≤1000)
  (h:∀ (h':Heap) (tk:Nat) (kb:List (List Int×Addr)),SP prog w h' s.heap.objs.size kb→Got kx items.size kb→(∀ b o,s.heap.get? b=some o→h'.get? b=some o)→Q (.ref s.heap.objs.size) { s with heap:=h',toks:=tk }):
  wpAny (model prog w) A (call (.type "set") [.ref l]) Q E s:=by
 obtain ⟨cc,tl,hmro⟩:=PySem.F.called_set.mro
 have hmade:=PySem.F.called_set.made
 have hsub:=PySem.F.called_set.sub
 refine wpAny_call (codeAny_of_tree ?_)
 show wpAny _ _ (callAny (.type "set") _) _ _ _
 refine wpAny_pure ⟨Code.quiet_builtin _ (by decide+kernel),codeAny_builtin PySem.F.entry_type_call ?_⟩
 rw [Around.under_plain (weight_type_call_type "set" [.ref l] []) rfl]
 have g1:=PySem.F.called_set.notType
 have g2:=PySem.F.called_set.canCreate
 have g3:=PySem.F.typeCall_set_1 (.ref l)
 repeat (any_goals (first | assumption | wp_step))
 refine codeAny_mono (u4 (w:=w) (.ref l) (E:=E) (Q:=fun obj s₁=> obj=.ref s.heap.objs.size∧s₁={ s with heap:=s.heap.push (cj w) }) ⟨rfl,rfl⟩) fun r s₁ hr=> ?_
 cases r with
 | error e=> exact hr
 | ok fl=>
  cases fl with
  | ret obj=>
   obtain ⟨rfl,rfl⟩:=hr
   have hS:(s.heap.push (cj w)).get? s.heap.objs.size=some (cj w):=Heap.get?_push_size _ rfl
   have hT:Shared.TypeIs { s with heap:=s.heap.push (cj w) } (.ref s.heap.objs.size) "set":=⟨_,hS,rfl⟩
   have hli:=PySem.F.called_set.init.lookup
   have hbi:=PySem.F.called_set.init.bind (.ref s.heap.objs.size)
   repeat (any_goals (first | assumption | wp_step))
   refine codeAny_mono (codeAny_call_builtin (R:=wants (fun r s₂=> r=.none∧∃ h' tk kb,s₂={ s with heap:=h',toks:=tk }∧
     SP prog w h' s.heap.objs.size kb∧Got kx items.size kb∧(∀ b o,s.heap.get? b=some o→h'.get? b=some o)) E) PySem.F.called_set.init.plain PySem.F.entry_set_init (check_set_init_1 hT ?_)) fun r₂ s₂ hr₂=> ?_
   ·obtain ⟨ol,hol,hcl,nl,hdl⟩:=hl
    obtain ⟨ocls,odict,odata,oslots⟩:=ol
    simp only at hcl hdl
    subst hcl; subst hdl
    have hol':(s.heap.push (cj w)).get? l=some { cls:=.type "list",dict:=odict,data:=.seq items nl,slots:=oslots }:=Heap.get?_push_of_some _ hol
    have k1:=PySem.F.sub_list_set
    have k2:=PySem.F.sub_list_frozenset
    have k3:(Value.type "list"==Value.type "dict")=false:=by decide
    have hl1:(s.heap.push (cj w)).IsList l items:=⟨_,hol',rfl,nl,rfl⟩
    unfold Builtin.«set.__init__» noKeywords Builtin.Frozenset.updateFrom
    generalize hPI:pyIter=PI
    wp_walk
    subst hPI
    refine wpAny_pyIter_list hl1 (wpAny_bind (wpAny_runValue ?_))
    have hlS:l < s.heap.objs.size:=Heap.lt_size hol
    have h3:A.in1.in1.in1.handled=none:=by simp [hh]
    have szI:(s.heap.push (cj w)).objs.size=s.heap.objs.size+1:=Heap.size_push ..
    have hneI:l≠(s.heap.push (cj w)).objs.size:=by rw [szI]; exact Nat.ne_of_lt (Nat.lt_succ_of_lt hlS)
    have hSf:s.heap.objs.size ∉ [(s.heap.push (cj w)).objs.size,l]:=by
     rw [szI]
     intro z
     rcases List.mem_cons.mp z with z | z
     ·exact absurd z (Nat.ne_of_lt (Nat.lt_succ_self _))
     ·exact absurd (List.mem_singleton.mp z) (Nat.ne_of_gt hlS)
    refine tG ((Walks.list h3 _ l hneI items).toS) hu hSf kx hit (fun i hi=> ?_) hn (items.size - 0) 0 _ [] (by omega) (Nat.zero_le _)
     ⟨⟨_,Heap.get?_push_size _ rfl,rfl,rfl⟩,(hl1.push _)⟩ ?_ ⟨fun p hp=> by simp at hp,fun j hj=> by omega,by simp⟩ (fun j hj=> ?_) fun s' kb m hS' g=> ?_
    ·intro z
     have z':=List.mem_singleton.mp z
     obtain ⟨o,_,_,ho,_⟩:=htk i hi
     have:=Heap.lt_size ho
     rw [z',szI] at this
     exact Nat.lt_irrefl _ (Nat.lt_trans (Nat.lt_succ_self _) this)
    ·exact ro (Heap.get?_push_of_some _ hS)
    ·obtain ⟨o,its,k,ho,r⟩:=htk j hj
     exact ⟨o,its,k,Heap.get?_push_of_some _ (Heap.get?_push_of_some _ ho),r⟩
    ·obtain ⟨h',g',d',tk',os'⟩:=s'
     obtain rfl:g'=s.gens:=m.gens
     obtain rfl:d'=s.drawn:=m.drawn
     obtain rfl:os'=s.os:=m.os
     refine wpAny_pure ?_
     show wpAny _ _ (ret Value.none) _ _ _
     refine wpAny_pure ⟨rfl,h',tk',kb,rfl,hS',g,fun b o e=> ?_⟩
     have hb:=Heap.lt_size e
     refine m.heap b o (fun z=> ?_) (Heap.get?_push_of_some _ (Heap.get?_push_of_some _ e))
     rcases List.mem_cons.mp z with z | z
     ·exact absurd z (Nat.ne_of_lt hb)
     ·have z':=List.mem_singleton.mp z
      rw [z',szI] at hb
      exact Nat.lt_irrefl _ (Nat.lt_trans (Nat.lt_succ_self _) hb)
   ·cases r₂ with
    | error e=> exact hr₂
    | ok fl₂=>
     cases fl₂ with
     | ret r=>
      obtain ⟨rfl,h',tk,kb,rfl,hS',g,hk'⟩:=hr₂
      repeat (any_goals (first | assumption | wp_step))
      exact h _ _ kb hS' g hk'
     | _=> exact hr₂.elim
  | _=> exact hr.elim
end
end ST
namespace ST
open PySem PySem.SetTable
theorem dP:Slot "set_iterator" "__next__" "set_iterator.__next__":=
 .of (owner:="set_iterator") (n:="__next__") (by rw [typeLookup_type,builtinLookup_eq_fast]; kernel_rfl) (by decide+kernel) (by decide+kernel) (by decide+kernel) (by first | exact .inl (by decide+kernel) | exact .inr (by decide+kernel)) (by rw [isSubtype_type]; kernel_rfl)
theorem jB:entryFor table "set_iterator.__next__"=some Builtin.«set_iterator.__next__»:=entryFor_of_tree (by kernel_rfl)
theorem j3 (a:Value):argsOk "set_iterator.__next__" ⟨[a],[]⟩:=by unfold argsOk; kernel_rfl
theorem ov:entryFor table "set.__iter__"=some Builtin.«frozenset.__iter__»:=entryFor_alias (id':="frozenset.__iter__") (by kernel_rfl) rfl (by decide+kernel) (by kernel_rfl)
theorem nK {α:Type} {l:List α} {i:Nat} (h:i < l.length):(l[i]::l.eraseIdx i).Perm l:=by
 rw [List.eraseIdx_eq_take_drop_succ]
 refine List.perm_middle.symm.trans ?_
 rw [← List.drop_eq_getElem_cons h,List.take_append_drop]
theorem pe {α:Type} (next:Nat→Nat):∀ (fuel k:Nat) (left:List α) (out:Array α),left.length=fuel→(pickOrder.go next fuel k left out).toList.Perm (out.toList++left)
 | 0,k,left,out,h=> by
  obtain rfl:left=[]:=List.length_eq_zero_iff.mp h
  rw [pickOrder.go,List.append_nil]
 | fuel+1,k,left,out,h=> by
  have hi:next k % left.length < left.length:=Nat.mod_lt _ (by omega)
  rw [pickOrder.go,List.getElem?_eq_getElem hi]
  refine (pe next fuel (k+1) _ _ (by rw [List.length_eraseIdx_of_lt hi]; omega)).trans ?_
  rw [Array.toList_push,List.append_assoc]
  refine List.Perm.append_left _ ?_
  rw [List.singleton_append]
  exact nK hi
theorem uc {α:Type} (next:Nat→Nat) (xs:Array α):(pickOrder next xs).toList.Perm xs.toList:=by
 unfold pickOrder
 have:=pe next xs.size 0 xs.toList #[] (by simp)
 simpa using this
section
variable {prog:Program} {w:World} {A:Around} {E:Value→Shared→Prop} {s:Shared}
def cy (w:World) (S:Addr) (es:Array (Int×Value)) (ep:Nat):List Value:=(if w.params.followText "set-order"=true then pickOrder (w.params.setOrder S ep) es else es).toList.map (·.2)
theorem eR (w:World) (S:Addr) (es:Array (Int×Value)) (ep:Nat):(cy w S es ep).Perm (es.toList.map (·.2)):=by
 unfold cy
 refine List.Perm.map _ ?_
 split
 ·exact uc _ es
 ·exact List.Perm.refl _
def fQ (t:SetTable):Nat→Nat
 | 0=> 0
 | j+1=> t.place.getD j 0+1
def aQ (w:World) (t:SetTable) (i:Nat):Nat:=if w.params.followText "set-order"=true then 0 else fQ t i
def ot (w:World) (h:Heap) (it S:Addr) (t:SetTable) (i n ep:Nat):Prop:=∃ o,h.get? it=some o∧o.cls=.type "set_iterator"∧o.data=.fields #[rawInt (aQ w t i),rawInt i,.ref S,rawInt n,rawInt ep]
theorem ot.ty {it S:Addr} {t:SetTable} {i n ep:Nat} (x:ot w s.heap it S t i n ep):s.TypeIs (.ref it) "set_iterator":=let ⟨o,ho,hc,_⟩:=x; ⟨o,ho,hc⟩
structure SO (prog:Program) (w:World) (o:Obj) (es:Array (Int×Value)) (ep:Nat) (t:SetTable) (hs:List Int):Prop where
 ex:o.ExactSet
 d:o.data=.set es ep t
 T:TOk t hs
 n:hs.length=es.size
 led:t.led=(!w.params.followText "set-order")
 plain:t.plain=true
theorem tj {S:Addr} {o:Obj} {es ep t hs} {Q:Bool→Shared→Prop} (O:SO prog w o es ep t hs) (ho:s.heap.get? S=some o) (h:Q false s):wpAny (model prog w) A (setDrawn S) Q E s:=by
 unfold setDrawn setsByText
 refine wpAny_bind (wpAny_setState_of ho O.d (O.T.fits O.n) (wpAny_bind (wpAny_bind (wpAny_askSetting (wpAny_pure (wpAny_pure ?_))))))
 have q:Q (!w.params.followText "set-order" && (!t.plain && decide (es.size > 1))) s:=by rw [O.plain]; simpa using h
 exact q
theorem t3 {S:Addr} {o:Obj} {es ep t hs} {Q:Value→Shared→Prop} (O:SO prog w o es ep t hs) (ho:s.heap.get? S=some o)
  (hQ:Q (.ref s.heap.objs.size) { s with heap:=s.heap.push { cls:=.type "set_iterator",data:=.fields #[rawInt 0,rawInt 0,.ref S,rawInt es.size,rawInt ep] } }):wpAny (model prog w) A (pyIter (.ref S)) Q E s:=by
 have hT:s.TypeIs (.ref S) "set":=⟨o,ho,O.ex.1⟩
 refine wpAny_pyIter_slot hT PySem.F.slot_set_iter (wpAny_call_entry PySem.F.slot_set_iter hT ov ?_ (PySem.F.args_set_iter_1 _))
 unfold Builtin.«frozenset.__iter__»
 show wpAny _ _ (Builtin.Frozenset.sizeOf S >>=_) _ _ s
 unfold Builtin.Frozenset.sizeOf
 refine wpAny_bind (wpAny_bind (wpAny_setEntries_of ho O.d (O.T.fits O.n) (wpAny_pure ?_)))
 refine wpAny_bind (tj O ho ?_)
 simp only [Bool.false_eq_true,if_false]
 refine wpAny_bind (wpAny_pure ?_)
 refine wpAny_bind (wpAny_setEpoch_of ho O.d (O.T.fits O.n) ?_)
 refine wpAny_bind (wpAny_newObj_type (wpAny_pure ⟨_,rfl,"set_iterator",_,⟨_,Heap.get?_push_size _ rfl,rfl⟩,dP.lookup,?_⟩))
 exact hQ
theorem nG {t:SetTable} {hs:List Int} (T:TOk t hs) {i:Nat} (hi:i≤t.place.size):below t.place (fQ t i)=i:=by
 obtain ⟨h1,h2,h3⟩:=fq T.R (fQ t i)
 cases i with
 | zero=>
  dsimp only [fQ] at *
  rcases Nat.eq_zero_or_pos (below t.place 0) with z | z
  ·exact z
  ·have:=h1 0 _ z (eK (by omega)); omega
 | succ j=>
  dsimp only [fQ] at *
  have hj:j < t.place.size:=by omega
  have ej:t.place.getD j 0=t.place[j]:=by simp [Array.getD,hj]
  rw [ej] at h1 h2 h3 ⊢
  generalize hb:below t.place (t.place[j]+1)=b at *
  rcases Nat.lt_trichotomy b (j+1) with z | z | z
  ·have:=h2 j t.place[j] (by omega) (eK hj); omega
  ·exact z
  ·have q:=h1 (j+1) _ z (eK (by omega))
   have:=T.R j (j+1) _ _ (by omega) (eK hj) (eK (show j+1 < t.place.size by omega))
   omega
theorem jq {S:Addr} {o:Obj} {es ep t hs} {i:Nat} {Q:Option (Value×Nat)→Shared→Prop} (O:SO prog w o es ep t hs) (ho:s.heap.get? S=some o) (hi:i≤es.size)
  (h:Q (((cy w S es ep)[i]?).map fun v=> (v,aQ w t (i+1))) s):wpAny (model prog w) A (setNext S (aQ w t i) i ep) Q E s:=by
 have hfit:=O.T.fits O.n
 have hpl:t.place.size=es.size:=by rw [O.T.n,O.n]
 unfold setNext setsByText
 refine wpAny_bind (wpAny_setState_of ho O.d hfit (wpAny_bind (wpAny_bind (wpAny_askSetting (wpAny_pure ?_)))))
 by_cases bt:w.params.followText "set-order"=true
 ·dsimp only
  rw [show (model prog w).w.params.followText "set-order"=true from bt,if_pos rfl,if_neg (by simp)]
  unfold setWalk setsByText
  refine wpAny_bind (wpAny_bind (wpAny_setState_of ho O.d hfit (wpAny_bind (wpAny_bind (wpAny_askSetting (wpAny_pure ?_))))))
  dsimp only
  rw [show (model prog w).w.params.followText "set-order"=true from bt,if_pos rfl]
  refine wpAny_bind (wpAny_askSetting (wpAny_pure (wpAny_pure ?_)))
  have e:Option.map (fun (e:Int×Value)=> (e.2,aQ w t i)) (pickOrder (w.params.setOrder S ep) es)[i]?=((cy w S es ep)[i]?).map fun v=> (v,aQ w t (i+1)):=by
   unfold cy aQ
   rw [if_pos bt,if_pos bt,if_pos bt,List.getElem?_map,Array.getElem?_toList,Option.map_map]
   rfl
  have q:Q (Option.map (fun (e:Int×Value)=> (e.2,aQ w t i)) (pickOrder (w.params.setOrder S ep) es)[i]?) s:=by rw [e]; exact h
  exact q
 ·have bf:w.params.followText "set-order"=false:=by simpa using bt
  dsimp only
  rw [show (model prog w).w.params.followText "set-order"=false from bf,if_neg (by simp)]
  have e1:aQ w t i=fQ t i:=by unfold aQ; rw [if_neg bt]
  have e2:below t.place (aQ w t i)=i:=by rw [e1]; exact nG O.T (by omega)
  have e3:(match es[below t.place (aQ w t i)]?,t.place[below t.place (aQ w t i)]? with
    | some (_,x),some j=> some (x,j+1)
    | _,_=> none)=((cy w S es ep)[i]?).map fun v=> (v,aQ w t (i+1)):=by
   rw [e2]
   unfold cy aQ
   rw [if_neg bt,if_neg bt,List.getElem?_map,Array.getElem?_toList]
   rcases Nat.lt_or_ge i es.size with z | z
   ·have z':i < t.place.size:=by omega
    simp [z,z',Array.getD,fQ]
   ·have z':t.place.size≤i:=by omega
    simp [z,z']
  split
  ·rename_i hc
   exact absurd (show (!t.plain && decide (es.size > 1))=true from hc) (by rw [O.plain]; simp)
  ·refine wpAny_bind ?_
   show wpAny _ _ (if (!t.led && !es.isEmpty)=true then unsupported "set:maker-not-led" else pure ()) _ _ _
   rw [O.led,bf,if_neg (by simp)]
   refine wpAny_pure (wpAny_pure ?_)
   have q:Q (match es[below t.place (aQ w t i)]?,t.place[below t.place (aQ w t i)]? with
    | some (_,x),some j=> some (x,j+1)
    | _,_=> none) s:=by rw [e3]; exact h
   exact q
set_option maxHeartbeats 1000000 in
theorem qq {S it:Addr} {o:Obj} {es ep t hs} {i:Nat} {v:Value} {Q:Option Value→Shared→Prop} (O:SO prog w o es ep t hs) (ho:s.heap.get? S=some o) (hit:ot w s.heap it S t i es.size ep) (hv:(cy w S es ep)[i]?=some v)
  (hQ:∀ h',ot w h' it S t (i+1) es.size ep→Heap.SameBut it s.heap h'→Q (some v) { s with heap:=h' }):wpAny (model prog w) A (pyNext (.ref it)) Q E s:=by
 obtain ⟨oi,hoi,hc,hd⟩:=id hit
 have hfit:=O.T.fits O.n
 unfold pyNext
 refine wpAny_bind (wpAny_attempt (wpAny_callSpecial?_slot (name:=Str.ofString "__next__") hit.ty dP (wpAny_call_entry dP hit.ty jB ?_ (j3 _))))
 unfold Builtin.«set_iterator.__next__»
 refine wpAny_bind (m:=slotArgs "__next__" 0 _) (wpAny_pure ?_)
 dsimp only
 refine wpAny_bind (wpAny_fieldsOf hoi hd ?_)
 dsimp only [rawInt]
 refine wpAny_bind (wpAny_setEntries_of ho O.d hfit ?_)
 rw [if_neg (by simp)]
 have hlt:i < es.size:=by
  have q:=(List.getElem?_eq_some_iff.mp hv).1
  rw [(eR w S es ep).length_eq,List.length_map,Array.length_toList] at q
  exact q
 rw [show ((aQ w t i:Nat):Int).toNat=aQ w t i from Int.toNat_natCast _,show ((i:Nat):Int).toNat=i from Int.toNat_natCast _,show ((ep:Nat):Int).toNat=ep from Int.toNat_natCast _]
 refine wpAny_bind (jq O ho (Nat.le_of_lt hlt) ?_)
 rw [hv]
 dsimp only [Option.map]
 refine wpAny_bind (wpAny_setField hoi hd (by simp) ?_)
 have g1:=Heap.get?_update_self (Obj.mapFields (·.setIfInBounds 0 (Value.int ((aQ w t (i+1):Nat):Int) 0))) hoi (Obj.isFreed_of_fields (Obj.data_mapFields hd _))
 refine wpAny_bind (wpAny_setField g1 (Obj.data_mapFields hd _) (by simp) ?_)
 refine wpAny_pure ⟨_,rfl,wpAny_pure (hQ _ ?_ ((Heap.SameBut.update ..).trans (Heap.SameBut.update ..)))⟩
 refine ⟨_,Heap.get?_update_self _ g1 (Obj.isFreed_of_fields (Obj.data_mapFields (Obj.data_mapFields hd _) _)),(Obj.cls_mapFields ..).trans ((Obj.cls_mapFields ..).trans hc),?_⟩
 rw [Obj.data_mapFields (Obj.data_mapFields hd _)]
 simp [rawInt]
set_option maxHeartbeats 1000000 in
theorem sV {S it:Addr} {o:Obj} {es ep t hs} {Q:Option Value→Shared→Prop} (hh:A.handled=none) (O:SO prog w o es ep t hs) (ho:s.heap.get? S=some o) (hit:ot w s.heap it S t es.size es.size ep)
  (hQ:∀ h',Heap.ExtBut it s.heap h'→Q none { s with heap:=h' }):wpAny (model prog w) A (pyNext (.ref it)) Q E s:=by
 obtain ⟨oi,hoi,hc,hd⟩:=id hit
 have hfit:=O.T.fits O.n
 unfold pyNext
 refine wpAny_bind (wpAny_attempt (wpAny_callSpecial?_slot (name:=Str.ofString "__next__") hit.ty dP (wpAny_call_entry dP hit.ty jB ?_ (j3 _))))
 unfold Builtin.«set_iterator.__next__»
 refine wpAny_bind (m:=slotArgs "__next__" 0 _) (wpAny_pure ?_)
 dsimp only
 refine wpAny_bind (wpAny_fieldsOf hoi hd ?_)
 dsimp only [rawInt]
 refine wpAny_bind (wpAny_setEntries_of ho O.d hfit ?_)
 rw [if_neg (by simp)]
 rw [show ((aQ w t es.size:Nat):Int).toNat=aQ w t es.size from Int.toNat_natCast _,show ((es.size:Nat):Int).toNat=es.size from Int.toNat_natCast _,show ((ep:Nat):Int).toNat=ep from Int.toNat_natCast _]
 refine wpAny_bind (jq O ho (Nat.le_refl _) ?_)
 rw [show (cy w S es ep)[es.size]?=none from List.getElem?_eq_none (by rw [(eR w S es ep).length_eq,List.length_map,Array.length_toList]; exact Nat.le_refl _)]
 dsimp only [Option.map]
 refine wpAny_bind (wpAny_setField hoi hd (by simp) ?_)
 refine wpAny_bind ?_
 simp only [newExc,newTuple]
 refine wpAny_bind (wpAny_newObj_type ?_ (by size_fits))
 refine wpAny_bind (m:=firstArgMember _ _) (wpAny_of_eq (a:=Value.none) (by first | rfl | (simp only [firstArgMember]; rfl)) ?_)
 refine wpAny_newObj_type ?_ (by size_fits)
 simp only [raiseNew]
 refine wpAny_bind (wpAny_handled ?_)
 rw [show A.in1.handled=none from hh]
 refine wpAny_bind (wpAny_pure (wpAny_throw ?_))
 refine wpAny_bind (wpAny_isInstance (T:="StopIteration") (b:=true) ⟨_,Heap.get?_push_size _ rfl,rfl⟩ isSubtype_stop ?_)
 exact wpAny_pure (hQ _ (((Heap.SameBut.update ..).extBut.push _).push _))
end
end ST
namespace ST
open PySem PySem.SetTable PySem.W
theorem j9:Slot "set_iterator" "__iter__" "set_iterator.__iter__":=
 .of (owner:="set_iterator") (n:="__iter__") (by rw [typeLookup_type,builtinLookup_eq_fast]; kernel_rfl) (by decide+kernel) (by decide+kernel) (by decide+kernel) (by first | exact .inl (by decide+kernel) | exact .inr (by decide+kernel)) (by rw [isSubtype_type]; kernel_rfl)
theorem nQ:entryFor table "set_iterator.__iter__"=some Builtin.«dict_keyiterator.__iter__»:=entryFor_alias (id':="dict_keyiterator.__iter__") (by kernel_rfl) rfl (by decide+kernel) (by kernel_rfl)
theorem qh (a:Value):argsOk "set_iterator.__iter__" ⟨[a],[]⟩:=by unfold argsOk; kernel_rfl
section
variable {prog:Program} {w:World} {A:Around} {E:Value→Shared→Prop} {s:Shared}
theorem uS {it S:Addr} {t:SetTable} {i n ep:Nat} {Q:Value→Shared→Prop} (hit:ot w s.heap it S t i n ep) (h:Q (.ref it) s):wpAny (model prog w) A (pyIter (.ref it)) Q E s:=by
 refine wpAny_pyIter_slot hit.ty j9 (wpAny_call_entry j9 hit.ty nQ ?_ (qh _))
 exact wpAny_pure ⟨_,rfl,"set_iterator",_,hit.ty,dP.lookup,h⟩
theorem rc (hh:A.handled=none) {it S:Addr} (hne:S≠it) {o:Obj} {es ep t hs} (O:SO prog w o es ep t hs):
  Walks prog w A it [it,S] [it] es.size (fun i v=> (cy w S es ep)[i]?=some v) (fun i h=> ot w h it S t i es.size ep∧h.get? S=some o) where
 sub:=fun b hb=> by simp at hb; simp [hb]
 frame:=fun _ _ _ st hk=> ⟨let ⟨x,hx,r⟩:=st.1; ⟨x,hk it (by simp) x hx,r⟩,hk S (by simp) o st.2⟩
 item:=fun i s Q E hi st hQ=> by
  obtain ⟨v,hv⟩:∃ v,(cy w S es ep)[i]?=some v:=⟨_,List.getElem?_eq_getElem (by rw [(eR w S es ep).length_eq,List.length_map,Array.length_toList]; exact hi)⟩
  refine qq O st.2 st.1 hv fun h' hit' sb=> ?_
  exact hQ v h' s.toks hv ⟨hit',(sb.2 S hne).trans st.2⟩ fun b x hb e=> sb.extBut b x (fun z=> hb (by simp [z])) e
 done:=fun s Q E st hQ=> sV hh O st.2 st.1 fun h' xb=> hQ h' s.toks fun b x hb e=> xb b x (fun z=> hb (by simp [z])) e
 self:=fun _ _ _ _ st hQ=> uS st.1 hQ
theorem t8 {r:Addr} {Q:Bool→Shared→Prop} (hT:s.TypeIs (.ref r) "set") (h:Q false s):wpAny (model prog w) A (Builtin.List.listLengthHint (.ref r)) Q E s:=by
 unfold Builtin.List.listLengthHint
 refine wpAny_bind (wpAny_specialOf hT PySem.F.slot_set_len.lookup ?_)
 generalize hid:("set.__len__":String)=id0
 wp_delta
 rw [show splitId id0=some ("set","__len__") from by subst hid; decide+kernel]
 subst hid
 refine wpAny_bind (wpAny_isInstance (T:="set") (b:=true) hT (by rw [isSubtype_type]; kernel_rfl) ?_)
 refine wpAny_ite_split (fun z=> absurd z (by decide)) (fun _=> ?_)
 refine wpAny_ite_split (fun _=> ?_) (fun z=> absurd (by decide+kernel) z)
 exact wpAny_bind (wpAny_typeOf hT (wpAny_pure h))
theorem uN {S:Addr} {o:Obj} {es ep t hs} (O:SO prog w o es ep t hs):KdlSrc prog w "set" S S es.size (fun i v=> (cy w S es ep)[i]?=some v) (fun h=> h.get? S=some o) where
 type:=fun _ hm=> ⟨o,hm,O.ex.1⟩
 there:=fun _ hm=> ⟨Heap.lt_size hm,Heap.lt_size hm⟩
 keep:=fun _ _ hm hk=> hk S (.inl rfl) o hm
 notList:=by decide
 notTuple:=by decide
 hint:=fun _ _ _ _ hm hq=> t8 ⟨o,hm,O.ex.1⟩ hq
 iter:=fun _ s hh hm=> ⟨_,_,(fun _ _ hq=> t3 O hm hq),rc hh (Nat.ne_of_lt (Heap.lt_size hm)) O,⟨⟨_,Heap.get?_push_size _ rfl,rfl,by simp [aQ,fQ]⟩,Heap.get?_push_of_some _ hm⟩⟩
end
end ST
namespace ST
open PySem PySem.W PyProof.Rows
inductive fJ (lt:Nat→Nat→Bool) (n:Nat) {α:Type}:KasT α→α→Prop
 | ret (a:α):fJ lt n (.ret a) a
 | ask {i j:Nat} {k:Bool→KasT α} {a:α}:i < n→j < n→fJ lt n (k (lt i j)) a→fJ lt n (.ask i j k) a
variable {lt:Nat→Nat→Bool} {n:Nat}
theorem fJ.bind {α β:Type} {t:KasT α} {a:α} {f:α→KasT β} {b:β} (h:fJ lt n t a) (h':fJ lt n (f a) b):fJ lt n (t.bind f) b:=by
 induction h with
 | ret a=> exact h'
 | ask hi hj _ ih=> exact fJ.ask hi hj (ih h')
theorem fJ.wp {α:Type} {t:KasT α} {a:α} (h:fJ lt n t a) {cmp:Nat→Nat→(Bool→Shared→Prop)→Shared→Prop} {s:Shared} (hc:∀ i j C,i < n→j < n→C (lt i j) s→cmp i j C s) {Q:α→Shared→Prop} (q:Q a s):t.kasWp cmp Q s:=by
 induction h with
 | ret a=> exact q
 | ask hi hj _ ih=> exact hc _ _ _ hi hj (ih q)
structure LtO (n:Nat) (lt:Nat→Nat→Bool):Prop where
 tr:∀ i j k,lt i j=true→lt j k=true→lt i k=true
 tot:∀ i j,i < n→j < n→i≠j→lt i j=false→lt j i=true
 asy:∀ i j,lt i j=true→lt j i=false
abbrev g (p:Array Nat) (k:Nat):Nat:=p.getD k 0
theorem vv {p q:Array Nat} {k l:Nat} (h:p[k]?=q[l]?):g p k=g q l:=by
 unfold g
 rw [Array.getD_eq_getD_getElem?,Array.getD_eq_getD_getElem?,h]
structure PP (n:Nat) (p:Array Nat):Prop where
 perm:p.toList.Perm (List.range n)
theorem PP.size {p:Array Nat} (h:PP n p):p.size=n:=by rw [← Array.length_toList,h.perm.length_eq,List.length_range]
theorem PP.mem {p:Array Nat} (h:PP n p) {k:Nat} (hk:k < n):g p k < n:=by
 have hk':k < p.size:=by rw [h.size]; exact hk
 have e:g p k=p[k]:=by simp [g,Array.getD,hk']
 rw [e]
 exact List.mem_range.mp (h.perm.mem_iff.mp (by simp))
theorem PP.inj {p:Array Nat} (h:PP n p) {k l:Nat} (hk:k < n) (hl:l < n) (e:g p k=g p l):k=l:=by
 have hk':k < p.toList.length:=by rw [Array.length_toList,h.size]; exact hk
 have hl':l < p.toList.length:=by rw [Array.length_toList,h.size]; exact hl
 have nd:p.toList.Nodup:=h.perm.nodup_iff.mpr List.nodup_range
 have e1:g p k=p.toList[k]:=by simp [g,Array.getD,h.size,hk]
 have e2:g p l=p.toList[l]:=by simp [g,Array.getD,h.size,hl]
 exact (List.getElem_inj nd).mp (by rw [← e1,← e2,e])
theorem PP.of {p q:Array Nat} (h:PP n p) (hq:q.Perm p):PP n q:=⟨(Array.perm_iff_toList_perm.mp hq).trans h.perm⟩
def Srt (lt:Nat→Nat→Bool) (p:Array Nat) (m:Nat):Prop:=∀ i j,i < j→j < m→lt (g p i) (g p j)=true
def Dsc (lt:Nat→Nat→Bool) (p:Array Nat) (m:Nat):Prop:=∀ i j,i < j→j < m→lt (g p j) (g p i)=true
theorem Srt.one (p:Array Nat):Srt lt p 1:=fun i j h1 h2=> by omega
theorem Srt.more (O:LtO n lt) {p:Array Nat} {m:Nat} (S:Srt lt p m) (h1:1≤m) (h:lt (g p (m - 1)) (g p m)=true):Srt lt p (m+1):=fun i j hij hj=> by
 rcases Nat.lt_or_eq_of_le (Nat.le_of_lt_succ hj) with z | z
 ·exact S i j hij z
 ·subst z
  rcases Nat.lt_or_eq_of_le (show i≤j - 1 by omega) with y | y
  ·exact O.tr _ _ _ (S i (j - 1) y (by omega)) h
  ·subst y; exact h
theorem Dsc.more (O:LtO n lt) {p:Array Nat} {m:Nat} (S:Dsc lt p m) (h1:1≤m) (h:lt (g p m) (g p (m - 1))=true):Dsc lt p (m+1):=fun i j hij hj=> by
 rcases Nat.lt_or_eq_of_le (Nat.le_of_lt_succ hj) with z | z
 ·exact S i j hij z
 ·subst z
  rcases Nat.lt_or_eq_of_le (show i≤j - 1 by omega) with y | y
  ·exact O.tr _ _ _ h (S i (j - 1) y (by omega))
  ·subst y; exact h
theorem kF (O:LtO n lt) {p:Array Nat} (P:PP n p):∀ (f m:Nat),1≤m→m+f=n→Srt lt p m→∃ m',fJ lt n (kas_asc p f m) m'∧m≤m'∧m'≤n∧Srt lt p m'∧(m' < n→lt (g p m') (g p (m' - 1))=true)
 | 0,m,h1,hf,S=> ⟨m,.ret m,Nat.le_refl _,by omega,S,fun h=> by omega⟩
 | f+1,m,h1,hf,S=> by
  by_cases hc:lt (g p m) (g p (m - 1))=true
  ·refine ⟨m,.ask (P.mem (by omega)) (P.mem (by omega)) ?_,Nat.le_refl _,by omega,S,fun _=> hc⟩
   rw [if_pos hc]; exact .ret m
  ·have hc':lt (g p m) (g p (m - 1))=false:=by simpa using hc
   have ht:=O.tot _ _ (P.mem (show m < n by omega)) (P.mem (show m - 1 < n by omega)) (fun e=> by have:=P.inj (by omega) (by omega) e; omega) hc'
   obtain ⟨m',r,a1,a2,a3,a4⟩:=kF O P f (m+1) (by omega) (by omega) (S.more O h1 ht)
   refine ⟨m',.ask (P.mem (by omega)) (P.mem (by omega)) ?_,by omega,a2,a3,a4⟩
   rw [if_neg hc]; exact r
theorem nu (O:LtO n lt) {p:Array Nat} (P:PP n p):∀ (f m:Nat),1≤m→m+f=n→Dsc lt p m→∃ m',fJ lt n (kas_desc f p m 0) (p,m',0)∧m≤m'∧m'≤n∧Dsc lt p m'
 | 0,m,h1,hf,S=> ⟨m,.ret _,Nat.le_refl _,by omega,S⟩
 | f+1,m,h1,hf,S=> by
  by_cases hc:lt (g p m) (g p (m - 1))=true
  ·obtain ⟨m',r,a1,a2,a3⟩:=nu O P f (m+1) (by omega) (by omega) (S.more O h1 hc)
   refine ⟨m',.ask (P.mem (by omega)) (P.mem (by omega)) ?_,by omega,a2,a3⟩
   rw [if_pos hc,if_neg (by omega)]; exact r
  ·have hc':lt (g p m) (g p (m - 1))=false:=by simpa using hc
   have ht:=O.tot _ _ (P.mem (show m < n by omega)) (P.mem (show m - 1 < n by omega)) (fun e=> by have:=P.inj (by omega) (by omega) e; omega) hc'
   refine ⟨m,.ask (P.mem (by omega)) (P.mem (by omega)) ?_,Nat.le_refl _,by omega,S⟩
   rw [if_neg hc]
   refine .ask (P.mem (by omega)) (P.mem (by omega)) ?_
   rw [if_pos ht]; exact .ret _
theorem sQ {p:Array Nat} (P:PP n p) {m k:Nat} (hm:m≤n) (hk:k < m):g (kas_rev p 0 m) k=g p (m - 1 - k):=by
 refine vv ?_
 unfold kas_rev
 rw [getElem?_mirror (by rw [P.size]; exact hm) _ (by omega)]
 split
 ·congr 1; omega
 ·congr 1; omega
theorem sJ {p:Array Nat} (P:PP n p) (i j:Nat):PP n (kas_rev p i j):=P.of (mirror_perm _ _ _ _)
theorem uV {p:Array Nat} (P:PP n p) {m:Nat} (hm:m≤n) (D:Dsc lt p m):Srt lt (kas_rev p 0 m) m:=fun i j hij hj=> by
 rw [sQ P hm (by omega),sQ P hm hj]
 exact D _ _ (by omega) (by omega)
theorem ql (O:LtO n lt) {p:Array Nat} (P:PP n p) (h2:2≤n):∃ m p',fJ lt n (kas_count n p) (m,p')∧PP n p'∧1≤m∧m≤n∧Srt lt p' m:=by
 obtain ⟨m,r,a1,a2,a3,a4⟩:=kF O P (n - 1) 1 (Nat.le_refl _) (by omega) (Srt.one p)
 by_cases hm:m=n
 ·exact ⟨m,p,r.bind (by rw [if_pos (by simp [hm])]; exact .ret _),P,a1,a2,a3⟩
 ·have hne:¬ ((m==n)=true):=by simpa using hm
  by_cases h1:m > 1
  ·refine ⟨m,p,r.bind ?_,P,a1,a2,a3⟩
   rw [if_neg hne,if_pos h1]
   refine .ask (P.mem (by omega)) (P.mem (by omega)) ?_
   rw [if_pos (a3 0 (m - 1) (by omega) (by omega))]
   exact .ret _
  ·obtain rfl:m=1:=by omega
   have D2:Dsc lt p 2:=Dsc.more O (fun i j x y=> by omega) (Nat.le_refl _) (a4 (by omega))
   obtain ⟨d,rd,b1,b2,b3⟩:=nu O P (n - 2) 2 (by omega) (by omega) D2
   obtain ⟨e,re,c1,c2,c3,c4⟩:=kF O (sJ P 0 d) (n - d) d (by omega) (by omega) (uV P b2 b3)
   refine ⟨e,kas_rev p 0 d,r.bind ?_,sJ P 0 d,by omega,c2,c3⟩
   rw [if_neg hne,if_neg h1]
   unfold kas_descPart
   refine fJ.bind (a:=(p,d,0)) rd ?_
   rw [if_neg (by simp)]
   unfold kas_tail3
   exact re.bind (.ret _)
theorem im (O:LtO n lt) {p:Array Nat} (P:PP n p) {k:Nat} (hk:k < n) (S:Srt lt p k):∀ (f l r:Nat),l≤r→r≤k→r - l≤f→(∀ i,i < l→lt (g p i) (g p k)=true)→(∀ i,r≤i→i < k→lt (g p k) (g p i)=true)→
  ∃ l',fJ lt n (kas_place p k f l r) l'∧l'≤k∧(∀ i,i < l'→lt (g p i) (g p k)=true)∧(∀ i,l'≤i→i < k→lt (g p k) (g p i)=true)
 | 0,l,r,h1,h2,h3,a,b=> ⟨l,.ret l,by omega,a,fun i x y=> b i (by omega) y⟩
 | f+1,l,r,h1,h2,h3,a,b=> by
  unfold kas_place
  by_cases hlr:l ≥ r
  ·rw [if_pos hlr]
   exact ⟨l,.ret l,by omega,a,fun i x y=> b i (by omega) y⟩
  ·rw [if_neg hlr]
   have hm:(l+r) / 2 < k:=by omega
   by_cases hc:lt (g p k) (g p ((l+r) / 2))=true
   ·obtain ⟨l',r',x1,x2,x3⟩:=im O P hk S f l ((l+r) / 2) (by omega) (by omega) (by omega) a fun i hi hik=> by
     rcases Nat.lt_or_eq_of_le hi with z | z
     ·exact O.tr _ _ _ hc (S _ _ z hik)
     ·rw [← z]; exact hc
    refine ⟨l',.ask (P.mem hk) (P.mem (by omega)) ?_,x1,x2,x3⟩
    rw [if_pos hc]; exact r'
   ·have hc':lt (g p k) (g p ((l+r) / 2))=false:=by simpa using hc
    have ht:=O.tot _ _ (P.mem hk) (P.mem (show (l+r) / 2 < n by omega)) (fun e=> by have:=P.inj hk (by omega) e; omega) hc'
    obtain ⟨l',r',x1,x2,x3⟩:=im O P hk S f ((l+r) / 2+1) r (by omega) h2 (by omega) (fun i hi=> by
     rcases Nat.lt_or_eq_of_le (Nat.le_of_lt_succ hi) with z | z
     ·exact O.tr _ _ _ (S _ _ z hm) ht
     ·rw [z]; exact ht) b
    refine ⟨l',.ask (P.mem hk) (P.mem (by omega)) ?_,x1,x2,x3⟩
    rw [if_neg hc]; exact r'
theorem oQ (O:LtO n lt):∀ (f k:Nat) (p:Array Nat),k+f=n→PP n p→Srt lt p k→∃ p',fJ lt n (kas_bin f p k) p'∧PP n p'∧Srt lt p' n
 | 0,k,p,hf,P,S=> ⟨p,.ret p,P,by rw [← hf]; exact S⟩
 | f+1,k,p,hf,P,S=> by
  obtain ⟨l,rl,x1,x2,x3⟩:=im O P (show k < n by omega) S k 0 k (Nat.zero_le _) (Nat.le_refl _) (by omega) (fun i h=> by omega) (fun i h h'=> by omega)
  have at_:∀ j,g (bubble p k (k - l)) j=if j=l then g p k else if l < j∧j≤k then g p (j - 1) else g p j:=fun j=> by
   have e:=getElem?_bubble (xs:=p) (src:=k) (by rw [P.size]; omega) (k - l) (by omega) j
   rw [show k - (k - l)=l by omega] at e
   split
   ·rename_i z; rw [if_pos z] at e; exact vv e
   ·rename_i z
    rw [if_neg z] at e
    split
    ·rename_i y; rw [if_pos y] at e; exact vv e
    ·rename_i y; rw [if_neg y] at e; exact vv e
  have e1:g (bubble p k (k - l)) l=g p k:=by rw [at_,if_pos rfl]
  have e2:∀ j,l < j→j≤k→g (bubble p k (k - l)) j=g p (j - 1):=fun j y z=> by rw [at_,if_neg (by omega),if_pos ⟨y,z⟩]
  have e3:∀ j,j < l→g (bubble p k (k - l)) j=g p j:=fun j y=> by rw [at_,if_neg (by omega),if_neg (by omega)]
  have S':Srt lt (bubble p k (k - l)) (k+1):=fun i j hij hj=> by
   rcases Nat.lt_trichotomy j l with y | y | y
   ·rw [e3 i (by omega),e3 j y]; exact S _ _ hij (by omega)
   ·rw [y,e1,e3 i (by omega)]; exact x2 i (by omega)
   ·rw [e2 j y (by omega)]
    rcases Nat.lt_trichotomy i l with z | z | z
    ·rw [e3 i z]; exact S _ _ (by omega) (by omega)
    ·rw [z,e1]; exact x3 (j - 1) (by omega) (by omega)
    ·rw [e2 i z (by omega)]; exact S _ _ (by omega) (by omega)
  obtain ⟨p',r',P',S''⟩:=oQ O f (k+1) (bubble p k (k - l)) (by omega) (P.of (bubble_perm _ _ _)) S'
  exact ⟨p',rl.bind r',P',S''⟩
theorem tJ (O:LtO n lt) (h2:2≤n):∃ p,fJ lt n (kas_sort n) p∧PP n p∧Srt lt p n:=by
 obtain ⟨m,p,r,P,a1,a2,S⟩:=ql O (p:=List.toArray (List.range n)) ⟨by simp⟩ h2
 by_cases hm:m < n
 ·obtain ⟨p',r',P',S'⟩:=oQ O (n - max m 1) (max m 1) p (by omega) P (by rw [show max m 1=m by omega]; exact S)
  exact ⟨p',r.bind (by rw [if_pos hm]; exact r'),P',S'⟩
 ·obtain rfl:m=n:=by omega
  exact ⟨p,r.bind (by rw [if_neg hm]; exact .ret _),P,S⟩
end ST
namespace ST
open PySem PySem.W PyProof.Rows
def ltP (a b:Int×Int):Bool:=decide (a.1 < b.1∨(a.1=b.1∧a.2 < b.2))
theorem tw {a b c:Int×Int} (h1:ltP a b=true) (h2:ltP b c=true):ltP a c=true:=by
 unfold ltP at *; simp at *; omega
theorem o8 {a b:Int×Int} (h1:ltP a b=true):ltP b a=false:=by
 unfold ltP at *; simp at *; omega
theorem pL {a b:Int×Int} (h:a≠b) (h1:ltP a b=false):ltP b a=true:=by
 unfold ltP at *
 have:¬ (a.1=b.1∧a.2=b.2):=fun z=> h (Prod.ext z.1 z.2)
 simp at *; omega
section
variable {prog:Program} {w:World} {A:Around} {E:Value→Shared→Prop} {s:Shared}
theorem TK.two {h:Heap} {x y:Int} {b:Addr} (k:TK prog w h [x,y] b):∃ o its n t u,h.get? b=some o∧o.cls=.type "tuple"∧o.data=.seq its n∧its.toList=[.int x t,.int y u]:=by
 obtain ⟨o,its,n,ho,hc,hd,hi⟩:=k
 cases hi':its.toList with
 | nil=> rw [hi'] at hi; cases hi
 | cons v1 r=>
  rw [hi'] at hi
  cases hi with
  | cons h1 hr=>
   cases hr with
   | cons h2 hr2=>
    cases hr2
    obtain ⟨t,rfl⟩:=Value.isInt_shape h1
    obtain ⟨u,rfl⟩:=Value.isInt_shape h2
    exact ⟨o,its,n,t,u,ho,hc,hd,hi'⟩
theorem wv {x y:Addr} {a b:Int×Int} {Q:Bool→Shared→Prop} (hx:TK prog w s.heap [a.1,a.2] x) (hy:TK prog w s.heap [b.1,b.2] y) (h:Q (ltP a b) s):wpAny (model prog w) A (keyLt' (tuples' true) (.ref x) (.ref y)) Q E s:=by
 obtain ⟨o,its,n,t,u,ho,_,hd,hi⟩:=hx.two
 obtain ⟨o',its',n',t',u',ho',_,hd',hi'⟩:=hy.two
 refine kat_lt ho hd ho' hd' ?_
 rw [hi,hi']
 refine kat_cons ((intKind prog w).eqBool (a:=a.1) (b:=b.1) (intKind_is _ _ _ _) (intKind_is _ _ _ _) ?_)
 by_cases e1:a.1=b.1
 ·rw [decide_eq_true e1]
  refine kat_yes (kat_cons ((intKind prog w).eqBool (a:=a.2) (b:=b.2) (intKind_is _ _ _ _) (intKind_is _ _ _ _) ?_))
  by_cases e2:a.2=b.2
  ·rw [decide_eq_true e2]
   refine kat_yes (kat_nil ?_)
   have z:ltP a b=false:=by unfold ltP; simp; omega
   rw [z] at h
   have z2:decide (its.size < its'.size)=false:=by
    rw [← Array.length_toList,← Array.length_toList,hi,hi']; simp
   rw [z2]; exact h
  ·rw [decide_eq_false e2]
   refine kat_no (kat_one _ _ (lt_int ?_))
   have z:ltP a b=decide (a.2 < b.2):=by unfold ltP; rw [e1]; simp
   rw [z] at h
   exact h
 ·rw [decide_eq_false e1]
  refine kat_no (oneLt_int ?_)
  have z:ltP a b=decide (a.1 < b.1):=by unfold ltP; simp [e1]
  rw [z] at h
  exact h
abbrev PB:=List ((Int×Int)×Addr)
abbrev refs (pb:PB):List Value:=pb.map fun p=> Value.ref p.2
def dfl:(Int×Int)×Addr:=((0,0),0)
theorem om (pb:PB):(List.range pb.length).map (fun i=> pb.getD i dfl)=pb:=by
 apply List.ext_getElem
 ·simp
 ·intro i h1 h2
  simp at h1
  simp [h1]
theorem tO {pb:PB} {Q:SortKind→Shared→Prop} (htk:∀ p∈pb,TK prog w s.heap [p.1.1,p.1.2] p.2) (h0:0 < pb.length) (h:Q (tuples' true) s):wpAny (model prog w) A (keyKind' (refs pb).toArray) Q E s:=by
 obtain ⟨fs,hf,hl,hi⟩:∃ fs,KatTups s.heap (refs pb) fs∧fs.length=pb.length∧∀ v∈fs,∃ n t,v=Value.int n t:=by
  clear h h0
  induction pb with
  | nil=> exact ⟨[],.nil,rfl,fun v hv=> by simp at hv⟩
  | cons p r ih=>
   obtain ⟨fs,hf,hl,hi⟩:=ih fun q hq=> htk q (List.mem_cons_of_mem _ hq)
   obtain ⟨o,its,n,t,u,ho,hc,hd,hit⟩:=(htk p List.mem_cons_self).two
   refine ⟨.int p.1.1 t::fs,.cons ho hc hd (by rw [← Array.getElem?_toList,hit]; rfl) hf,by simp [hl],fun v hv=> ?_⟩
   rcases List.mem_cons.mp hv with z | z
   ·exact ⟨_,_,z⟩
   ·exact hi v z
 refine kat_kind (T:=.type "int") hf (by omega) (fun v hv=> ?_) (by decide) h
 obtain ⟨n,t,rfl⟩:=hi v hv
 exact Looks.of_pure rfl
set_option maxHeartbeats 1000000 in
theorem rn {a:Addr} {pb:PB} {n:Nat} {P:PySem.Fin→Shared→Prop} (ho:s.heap.get? a=some (seqObj "list" (refs pb).toArray n)) (htk:∀ p∈pb,TK prog w s.heap [p.1.1,p.1.2] p.2) (hnd:(pb.map (·.1)).Nodup) (h64:pb.length < 64)
  (h:∀ pb':PB,pb'.Perm pb→(pb'.map (·.1)).Pairwise (fun x y=> ltP x y=true)→P (.done (.ret .none)) { s with heap:=sortedHeap s.heap a (refs pb) (refs pb').toArray }):
  wpAny (model prog w) A (Builtin.«list.sort» ⟨[.ref a],[]⟩) P E s:=by
 have hvl:(refs pb).length=pb.length:=by simp
 have hva:(refs pb).toArray.size=pb.length:=by simp
 rw [list_sort_plain]
 have ha:a < s.heap.objs.size:=Heap.lt_size ho
 refine wpAny_bind (listItems_at ho rfl (wpAny_bind (listUpdate_at ho rfl ?_ (by rw [hva,sizeLine_eq]; omega) (Nat.zero_le _))))
 obtain ⟨e1,ho1⟩:∃ e1,(s.heap.update a (Obj.mapSeq fun _=> (#[]:Array Value))).get? a=some (seqObj "list" #[] e1):=⟨_,get?_update_seq ho (fun _=> #[])⟩
 refine wpAny_bind (seqEpoch_at ho1 rfl (wpAny_bind (wpAny_newTuple ?_ (by show (refs pb).length≤_; rw [hvl,sizeLine_eq]; omega))))
 refine wpAny_bind (wpAny_newList ?_ (Nat.zero_le _))
 refine wpAny_holding ?_
 generalize hh6:((s.heap.update a (Obj.mapSeq fun _=> (#[]:Array Value))).push (seqObj "tuple" (refs pb).toArray 0)).push (seqObj "list" #[] 0)=h6
 have old6:∀ b o,b≠a→s.heap.get? b=some o→h6.get? b=some o:=fun b o hb e=> by
  rw [← hh6]
  exact Heap.get?_push_of_some _ (Heap.get?_push_of_some _ ((Heap.get?_update_other _ _ (Ne.symm hb)).trans e))
 have ho6:h6.get? a=some (seqObj "list" #[] e1):=by rw [← hh6]; exact Heap.get?_push_of_some _ (Heap.get?_push_of_some _ ho1)
 have tk6:∀ p∈pb,TK prog w h6 [p.1.1,p.1.2] p.2:=fun p hp=> by
  obtain ⟨o,its,k,hop,hc,r⟩:=htk p hp
  refine ⟨o,its,k,old6 p.2 o (fun z=> ?_) hop,hc,r⟩
  rw [z,ho] at hop
  cases hop
  exact absurd hc (by show ¬ (Value.type "list"=Value.type "tuple"); decide)
 have fin:∀ pb':PB,pb'.Perm pb→(pb'.map (·.1)).Pairwise (fun x y=> ltP x y=true)→P (.done (.ret .none)) { s with heap:=h6.update a (Obj.mapSeq fun _=> (refs pb').toArray) }:=fun pb' p1 p2=> by
  rw [← hh6]; exact h pb' p1 p2
 show wpAny (model prog w) A _ P E { s with heap:=h6 }
 dsimp only
 by_cases h2:(refs pb).toArray.size < 2
 ·rw [if_pos h2,if_pos h2]
  refine wpAny_bind (wpAny_pure ?_)
  rw [StateT.run_pure]
  refine wpAny_bind (wpAny_pure ?_)
  dsimp only
  have eout:(arrOf (SortSt.mk' general' ((refs pb).toArray.zip (refs pb).toArray) #[] 7 none)).map (·.2)=(refs pb).toArray:=by
   show (((refs pb).toArray.zip (refs pb).toArray)).map (·.2)=_
   apply Array.toList_inj.mp
   have zip2:∀ l:List Value,(l.zip l).map (·.2)=l:=fun l=> by
    induction l with
    | nil=> rfl
    | cons x r ih=> rw [List.zip_cons_cons,List.map_cons,ih]
   rw [Array.toList_map,Array.toList_zip]
   exact zip2 _
  rw [eout]
  refine wpAny_bind (seqEpoch_at ho6 rfl (wpAny_bind (listUpdate_at ho6 rfl ?_ (Nat.zero_le _) (by rw [hva,sizeLine_eq]; omega))))
  show wpAny _ _ (if (e1 !=e1)=true then _ else _) _ _ _
  rw [if_neg (by simp)]
  refine wpAny_pure (fin pb (List.Perm.refl _) ?_)
  match pb,hva,h2 with
  | [],_,_=> simp
  | [_],_,_=> simp
  | _::_::r,hva,h2=> rw [hva] at h2; exact absurd h2 (by simp)
 ·rw [if_neg h2,if_neg h2]
  rw [hva] at h2
  have h2':2≤(refs pb).length:=by rw [hvl]; omega
  refine wpAny_bind (tO (s:={ s with heap:=h6 }) tk6 (by omega) ?_)
  have inj:∀ i j,i < pb.length→j < pb.length→i≠j→(pb.getD i dfl).1≠(pb.getD j dfl).1:=fun i j hi hj hij e=> by
   refine hij ((List.getElem_inj (xs:=pb.map (·.1)) (h₀:=by simpa using hi) (h₁:=by simpa using hj) hnd).mp ?_)
   simpa [hi,hj] using e
  have O:LtO pb.length (fun i j=> ltP (pb.getD i dfl).1 (pb.getD j dfl).1):=⟨fun i j k=> tw,fun i j hi hj hij=> pL (inj i j hi hj hij),fun i j=> o8⟩
  obtain ⟨p,R,PP',S⟩:=tJ O (by omega)
  have hcmp:∀ i j C,i < pb.length→j < pb.length→C (ltP (pb.getD i dfl).1 (pb.getD j dfl).1) { s with heap:=h6 }→kas_ask prog w A (tuples' true) (refs pb) i j C { s with heap:=h6 }:=fun i j C hi hj c=> by
   unfold kas_ask
   have ei:(refs pb).getD i Value.none=.ref (pb.getD i dfl).2:=by simp [hi]
   have ej:(refs pb).getD j Value.none=.ref (pb.getD j dfl).2:=by simp [hj]
   rw [ei,ej]
   have mi:pb.getD i dfl∈pb:=by simp [hi]
   have mj:pb.getD j dfl∈pb:=by simp [hj]
   exact wv (s:={ s with heap:=h6 }) (tk6 _ mi) (tk6 _ mj) c
  have tree:(kas_sort (refs pb).length).kasWp (kas_ask prog w A (tuples' true) (refs pb)) (fun p' s'=> p'=p∧s'={ s with heap:=h6 }) { s with heap:=h6 }:=by
   rw [hvl]
   exact R.wp hcmp ⟨rfl,rfl⟩
  refine wpAny_bind (wpAny_mono (kat_run (Q:=fun st' s'=> s'={ s with heap:=h6 }∧failedOf st'=none∧(arrOf st').map (·.2)=List.toArray (p.toList.map fun i=> (refs pb).getD i Value.none)) rfl h2' (by rw [hvl]; exact h64) (fun p' st' s' _ a2 a3 a4=> ?_) tree) ?_ fun _ _ e=> e)
  ·obtain ⟨rfl,rfl⟩:=a4
   exact ⟨rfl,a3,kat_snds rfl a2⟩
  ·rintro ⟨⟨⟩,st'⟩ s' ⟨rfl,hf,hout⟩
   dsimp only
   rw [hout]
   have hlt:∀ i∈p.toList,i < pb.length:=fun i hi=> List.mem_range.mp (PP'.perm.mem_iff.mp hi)
   have er:(p.toList.map fun i=> (refs pb).getD i Value.none)=refs (p.toList.map fun i=> pb.getD i dfl):=by
    unfold refs
    rw [List.map_map]
    refine List.map_congr_left fun i hi=> ?_
    have:=hlt i hi
    simp [this]
   rw [er]
   have hperm:(p.toList.map fun i=> pb.getD i dfl).Perm pb:=by
    refine (PP'.perm.map _).trans ?_
    rw [om]
   have hs2:(refs (p.toList.map fun i=> pb.getD i dfl)).toArray.size=pb.length:=by simp [PP'.size]
   refine wpAny_bind (seqEpoch_at ho6 rfl (wpAny_bind (listUpdate_at ho6 rfl ?_ (Nat.zero_le _) (by rw [hs2,sizeLine_eq]; omega))))
   rw [hf]
   show wpAny _ _ (if (e1 !=e1)=true then _ else _) _ _ _
   rw [if_neg (by simp)]
   refine wpAny_pure (fin _ hperm ?_)
   rw [List.map_map,List.pairwise_map,List.pairwise_iff_getElem]
   intro i j hi hj hij
   have hj':j < pb.length:=by rw [Array.length_toList,PP'.size] at hj; exact hj
   have q:=S i j hij hj'
   have ei:g p i=p.toList[i]:=by simp [g,Array.getD,PP'.size,show i < pb.length by omega]
   have ej:g p j=p.toList[j]:=by simp [g,Array.getD,PP'.size,hj']
   rw [ei,ej] at q
   exact q
end
end ST
namespace ST
open PySem PySem.W PyProof.Rows PySem.Calls
theorem ua {α β:Type} (f:α→β) {l m:List β} (h:l.Perm m):∀ kb:List α,m=kb.map f→∃ kb':List α,List.Perm kb' kb∧l=List.map f kb':=by
 induction h with
 | nil=> intro kb e; exact ⟨kb,.refl _,e⟩
 | @cons x l m _ ih=>
  intro kb e
  match kb,e with
  | [],e=> simp at e
  | k::kb,e=>
   rw [List.map_cons,List.cons.injEq] at e
   obtain ⟨kb',p,e'⟩:=ih kb e.2
   exact ⟨k::kb',p.cons k,by rw [List.map_cons,← e',e.1]⟩
 | swap x y l=>
  intro kb e
  match kb,e with
  | [],e=> simp at e
  | [_],e=> simp at e
  | k::k'::kb,e=>
   simp only [List.map_cons,List.cons.injEq] at e
   exact ⟨k'::k::kb,.swap k k' kb,by rw [List.map_cons,List.map_cons,← e.2.2,e.1,e.2.1]⟩
 | trans _ _ ih1 ih2=>
  intro kb e
  obtain ⟨kb2,p2,e2⟩:=ih2 kb e
  obtain ⟨kb1,p1,e1⟩:=ih1 kb2 e2
  exact ⟨kb1,p1.trans p2,e1⟩
def ptsOf (kb:List (List Int×Addr)):PB:=kb.map fun p=> ((p.1.getD 0 0,p.1.getD 1 0),p.2)
section
variable {prog:Program} {w:World} {A:Around} {E:Value→Shared→Prop} {s:Shared}
set_option maxHeartbeats 1000000 in
theorem call_sorted_set {S:Addr} {kb:List (List Int×Addr)} {Q:Value→Shared→Prop} (hh:A.handled=none) (P:SP prog w s.heap S kb) (h64:kb.length < 64) (h2:∀ p∈kb,p.1.length=2)
  (h:∀ (h1 h':Heap) (tk:Nat) (pb:PB) (e:Nat),List.Perm pb (ptsOf kb)→(pb.map (·.1)).Pairwise (fun x y=> ltP x y=true)→(∀ b o,s.heap.get? b=some o→h1.get? b=some o)→(∀ b o,h1.get? b=some o→h'.get? b=some o)→h'.get? h1.objs.size=some (seqObj "list" (refs pb).toArray e)→Q (.ref h1.objs.size) { s with heap:=h',toks:=tk }):
  wpAny (model prog w) A (call (.builtin "sorted") [.ref S]) Q E s:=by
 obtain ⟨⟨o,es,ep,t,ho,hex,hd,he,T,hl,hp,_,_⟩,hk,hnd⟩:=P
 have hsz:es.size=kb.length:=by rw [← Array.length_toList,he]; simp [fu]
 have O:SO prog w o es ep t (kb.map fun p=> hsh prog w p.1):=⟨hex,hd,T,by rw [List.length_map,hsz],hl,hp⟩
 have two:∀ p∈kb,p.1=[p.1.getD 0 0,p.1.getD 1 0]:=fun p hp'=> by
  have:=h2 p hp'
  match hq:p.1,this with
  | [x,y],_=> rfl
 refine call_function_entry kind_sorted plain_sorted entry_sorted (args_sorted1 _) ?_
 unfold Builtin.«sorted»
 refine wpAny_bind (m:=checkCount "sorted" 1 1 _) (wpAny_pure ?_)
 refine wpAny_bind (kdu_collect (A:=A.in1) (uN O) hh ho (by rw [hsz,sizeLine_eq]; omega) fun h' tk acc keep hacc=> ?_)
 have hal:acc.toList=cy w S es ep:=by
  apply List.ext_getElem?
  intro i
  rcases Nat.lt_or_ge i acc.size with z | z
  ·rw [Array.getElem?_toList,Array.getElem?_eq_getElem z]
   exact (hacc.2 i _ (Array.getElem?_eq_getElem z)).symm
  ·rw [List.getElem?_eq_none (by simpa using z),List.getElem?_eq_none]
   rw [(eR w S es ep).length_eq,List.length_map,Array.length_toList,← hacc.1]; exact z
 obtain ⟨kb1,pk,ek⟩:=ua (fun (p:List Int×Addr)=> Value.ref p.2) (eR w S es ep) kb (by rw [he]; unfold fu; rw [List.map_map]; rfl)
 have hl1:acc.toList=refs (ptsOf kb1):=by
  rw [hal,ek]; unfold refs ptsOf; rw [List.map_map]; rfl
 have hlen1:(ptsOf kb1).length=kb.length:=by unfold ptsOf; rw [List.length_map,pk.length_eq]
 have hlenA:acc.toList.length=kb.length:=by rw [hl1]; simp [hlen1]
 refine wpAny_bind (wpAny_newList ?_ (by rw [hlenA,sizeLine_eq]; omega))
 have hD:(h'.push { cls:=.type "list",data:=.seq acc.toList.toArray }).get? h'.objs.size=some (seqObj "list" (refs (ptsOf kb1)).toArray 0):=by
  rw [← hl1]; exact Heap.get?_push_size _ rfl
 have tk1:∀ p∈ptsOf kb1,TK prog w (h'.push { cls:=.type "list",data:=.seq acc.toList.toArray }) [p.1.1,p.1.2] p.2:=fun p hp'=> by
  obtain ⟨q,hq,rfl⟩:=List.mem_map.mp hp'
  have hq':=pk.mem_iff.mp hq
  obtain ⟨oq,its,k,hoq,r⟩:=hk q hq'
  have e2:=two q hq'
  refine ⟨oq,its,k,Heap.get?_push_of_some _ (keep _ _ hoq),?_⟩
  rw [← e2]; exact r
 have nd1:((ptsOf kb1).map (·.1)).Nodup:=by
  have n1:(kb1.map (·.1)).Nodup:=((pk.map (·.1)).nodup_iff).mpr hnd
  unfold ptsOf
  rw [List.map_map]
  refine List.pairwise_map.mpr ((List.pairwise_map.mp n1).imp_of_mem fun {a b} ha hb hab=> ?_)
  intro z
  have ea:=two a (pk.mem_iff.mp ha)
  have eb:=two b (pk.mem_iff.mp hb)
  have z':(a.1.getD 0 0,a.1.getD 1 0)=(b.1.getD 0 0,b.1.getD 1 0):=z
  rw [Prod.mk.injEq] at z'
  rw [z'.1,z'.2] at ea
  exact hab (ea.trans eb.symm)
 refine wpAny_bind (wpAny_holding (wpAny_call_entry slot_list_sort ⟨_,hD,rfl⟩ entry_list_sort ?_ (args_list_sort _)))
 refine rn (s:={ s with heap:=h'.push { cls:=.type "list",data:=.seq acc.toList.toArray },toks:=tk }) hD tk1 nd1 (by omega) fun pb' pp so=> ⟨_,rfl,wpAny_pure ⟨_,rfl,?_⟩⟩
 obtain ⟨e,eD⟩:=sortedHeap_at (out:=(refs pb').toArray) hD
 refine h h' _ tk pb' e (pp.trans ?_) so keep (fun b x hb'=> ?_) eD
 ·unfold ptsOf; exact pk.map _
 ·have hlt:=Heap.lt_size hb'
  rw [sortedHeap_old (Nat.ne_of_lt hlt) (by rw [Heap.size_push]; exact Nat.lt_succ_of_lt hlt)]
  exact Heap.get?_push_of_some _ hb'
end
end ST
namespace ST
open PySem
def ins (x:Int×Int):List (Int×Int)→List (Int×Int)
 | []=> [x]
 | y::r=> if x=y then y::r else if ltP x y=true then x::y::r else y::ins x r
def srt (pts:List (Int×Int)):List (Int×Int):=pts.foldr ins []
theorem kM (x z:Int×Int):∀ l,z∈ins x l↔z=x∨z∈l
 | []=> by simp [ins]
 | y::r=> by
  unfold ins
  split
  ·rename_i h; subst h; simp
  ·split
   ·simp
   ·rw [List.mem_cons,kM x z r,List.mem_cons]
    constructor
    ·rintro (h | h | h)
     ·exact .inr (.inl h)
     ·exact .inl h
     ·exact .inr (.inr h)
    ·rintro (h | h | h)
     ·exact .inr (.inl h)
     ·exact .inl h
     ·exact .inr (.inr h)
abbrev Asc (l:List (Int×Int)):Prop:=l.Pairwise (fun x y=> ltP x y=true)
theorem oR (x:Int×Int):∀ l,Asc l→Asc (ins x l)
 | [],_=> by simp [ins]
 | y::r,h=> by
  unfold ins
  split
  ·exact h
  ·rename_i hne
   obtain ⟨h1,h2⟩:=List.pairwise_cons.mp h
   split
   ·rename_i hlt
    refine List.pairwise_cons.mpr ⟨fun z hz=> ?_,h⟩
    rcases List.mem_cons.mp hz with e | e
    ·rw [e]; exact hlt
    ·exact tw hlt (h1 z e)
   ·rename_i hlt
    refine List.pairwise_cons.mpr ⟨fun z hz=> ?_,oR x r h2⟩
    rcases (kM x z r).mp hz with e | e
    ·rw [e]; exact pL hne (by simpa using hlt)
    ·exact h1 z e
theorem srt_mem (z:Int×Int):∀ l,z∈srt l↔z∈l
 | []=> by simp [srt]
 | y::r=> by
  show z∈ins y (srt r)↔_
  rw [kM,srt_mem z r,List.mem_cons]
theorem srt_asc:∀ l,Asc (srt l)
 | []=> List.Pairwise.nil
 | y::r=> oR y (srt r) (srt_asc r)
theorem pB {x:Int×Int}:ltP x x=false:=by unfold ltP; simp
theorem asc_one:∀ {l m:List (Int×Int)},Asc l→Asc m→(∀ z,z∈l↔z∈m)→l=m
 | [],[],_,_,_=> rfl
 | [],y::r,_,_,h=> by have:=(h y).mpr List.mem_cons_self; simp at this
 | x::l,[],_,_,h=> by have:=(h x).mp List.mem_cons_self; simp at this
 | x::l,y::m,hl,hm,h=> by
  obtain ⟨a1,a2⟩:=List.pairwise_cons.mp hl
  obtain ⟨b1,b2⟩:=List.pairwise_cons.mp hm
  have e:x=y:=by
   rcases List.mem_cons.mp ((h x).mp List.mem_cons_self) with z | z
   ·exact z
   ·rcases List.mem_cons.mp ((h y).mpr List.mem_cons_self) with z' | z'
    ·exact z'.symm
    ·have:=o8 (b1 x z)
     rw [a1 y z'] at this; cases this
  subst e
  congr 1
  refine asc_one a2 b2 fun z=> ⟨fun hz=> ?_,fun hz=> ?_⟩
  ·rcases List.mem_cons.mp ((h z).mp (List.mem_cons_of_mem _ hz)) with e | e
   ·have:=a1 z hz; rw [e,pB] at this; cases this
   ·exact e
  ·rcases List.mem_cons.mp ((h z).mpr (List.mem_cons_of_mem _ hz)) with e | e
   ·have:=b1 z hz; rw [e,pB] at this; cases this
   ·exact e
theorem asc_srt {l:List (Int×Int)} (h:Asc l):srt l=l:=asc_one (srt_asc l) h fun z=> srt_mem z l
theorem p_ (x:Int×Int):∀ l,(ins x l).length≤l.length+1
 | []=> by simp [ins]
 | y::r=> by
  have:=p_ x r
  unfold ins
  split
  ·simp
  ·split
   ·simp
   ·simp only [List.length_cons]; omega
theorem srt_len:∀ l,(srt l).length≤l.length
 | []=> Nat.le_refl _
 | y::r=> by
  have h1:=p_ y (srt r)
  have h2:=srt_len r
  show (ins y (srt r)).length≤_
  simp only [List.length_cons]; omega
end ST
namespace L2
open PySem PySem.Spec PyProof.Rows
theorem yW {p:Nat→Addr→Prop} {n:Nat} (h:∀ i,i < n→∃ b,p i b):∃ f:Nat→Addr,∀ i,i < n→p i (f i):=by
 refine ⟨fun i=> if k:i < n then Classical.choose (h i k) else 0,fun i hi=> ?_⟩
 dsimp only
 rw [dif_pos hi]
 exact Classical.choose_spec (h i hi)
theorem rF:bootBuiltins "set"=some (.type "set"):=by decide+kernel
section
variable {X:Cx} {H0:Hp} {O0:List Addr} {ps:PSt} {e:Expr} {pts:List P2} {pos pos' p p':Pos}
set_option maxHeartbeats 2000000 in
theorem fY (hc:X.calm=true) (hu:X.A.units+10 < cLine) (hg:Gl X "sorted") (hm:X.mg "sorted"=none) (hgs:Gl X "set") (hms:X.mg "set"=none) (ha:Ev X H0 O0 ps e (lp pts)) (hl:pts.length < 64)
  (he:starEach [e] X.env=(false,eval e X.env)::starEach [] X.env:=by rfl):EvN X H0 O0 ps (.Call (.Name "sorted" p) [.Call (.Name "set" p') [e] [] pos'] [] pos) ((ST.srt pts).map pu):=by
 rintro pins s σ H Q I ⟨O,R,q⟩
 have hh:X.A.handled=none:=I.ok.hd hc
 refine wpAny_Call_Name_kw (dX I hg hm boot_sorted ?_)
 refine callWith_builtin1 (e:=.Call (.Name "set" p') [e] [] pos') (rest:=[]) ?_ rfl rfl
 show wpAny _ _ (spliced ((false,eval (.Call (.Name "set" p') [e] [] pos') X.env)::backTo pos (starEach [] X.env))) _ _ s
 refine Calls.spliced_cons ?_
 refine wpAny_Call_Name_kw (dX I hgs hms rF ?_)
 refine callWith_type1 (thn (cI ha dY he pos' pins s σ H (fun vs H1=> ∃ v,vs=[v]∧aJ H H1∧Rp X.K (hid H1 O) v (lp pts)) I ⟨O,R,fun v H1 s1 r1=> ⟨v,rfl,s1,r1⟩⟩) fun us s1 hx=> ?_) he rfl
 obtain ⟨vs,H1,I1,rv,v,rfl,sm,rp⟩:=hx
 obtain ⟨u,rfl,ru⟩:=j4 rv
 cases rp with
 | @lst a ws _ hq hwl hwi=>
  cases ru
  obtain ⟨its,rw',pl,hz⟩:=I1.list (SqL.of (aF _ _ hq))
  have hlp:ws.length=pts.length:=by rw [hwl,List.length_map]
  have hil:its.length=pts.length:=by rw [← rw'.length,hlp]
  have item:∀ i,i < pts.length→∃ b,its[i]?=some (.ref b)∧Rp X.K (hid H1 O) (.ref b) (pu (pts.getD i (0,0)))∧ST.TK X.prog X.w s1.heap [(pts.getD i (0,0)).1,(pts.getD i (0,0)).2] b:=fun i hi=> by
   have hw:ws[i]?=some ws[i]:=List.getElem?_eq_getElem (by omega)
   have hp:(pts.map pu)[i]?=some (pu (pts.getD i (0,0))):=by rw [List.getElem?_map,List.getElem?_eq_getElem hi]; simp [hi]
   have r:=hwi i _ _ hw hp
   obtain ⟨u',e1,e2⟩:=rw'.get hw
   generalize ws[i]=z at *
   cases r with
   | @tup b zs _ hs hsl hsi=>
    cases e2
    refine ⟨b,e1,Rp.tup hs hsl hsi,?_⟩
    obtain ⟨jts,rj,ht,_⟩:=I1.tuple (by exact aF.tup hs)
    have z0:zs.length=2:=hsl
    match zs,z0,hsi,rj with
    | [z1,z2],_,hsi,rj=>
     have q1:=hsi 0 z1 _ rfl rfl
     have q2:=hsi 1 z2 _ rfl rfl
     cases q1
     cases q2
     obtain ⟨u1,u2,rfl,r1,r2⟩:=j7 rj
     obtain ⟨t1,rfl⟩:=r1
     obtain ⟨t2,rfl⟩:=r2
     obtain ⟨o,ho,hoc,n,hod⟩:=ht
     exact ⟨o,_,n,ho,hoc,hod,.cons (intKind_is _ _ _ _) (.cons (intKind_is _ _ _ _) .nil)⟩
  obtain ⟨ad',adE⟩:=yW item
  have hsz:its.toArray.size=pts.length:=by simp [hil]
  refine ST.call_set_pts (fun i=> ([(pts.getD i (0,0)).1,(pts.getD i (0,0)).2],ad' i)) hh (by show X.A.units+1+1+1 < cLine; omega) pl.isList (fun i z ez=> ?_) (fun i hi=> ?_) (by rw [hsz]; omega) fun h2 tk kb sp got keep=> ?_
  ·have hi:i < pts.length:=by have:=aB (show its[i]?=some z by simpa using ez); omega
   have:=(adE i hi).1
   rw [show its.toArray[i]?=its[i]? by simp,this] at ez
   cases ez; rfl
  ·exact (adE i (by rw [hsz] at hi; exact hi)).2.2
  ·rw [hsz] at got
   have I2:Inv X pins σ H1 { s1 with heap:=h2,toks:=tk }:=I1.kept (t':=tk) keep
   refine Calls.spliced_nil ?_
   have hkl:kb.length < 64:=by have:=got.len; omega
   refine ST.call_sorted_set (s:={ s1 with heap:=h2,toks:=tk }) hh sp hkl (fun z hz=> by obtain ⟨j,_,rfl⟩:=got.src z hz; rfl) fun h3 h4 tk2 pb ep pm so k1 k2 hD=> ?_
   have I3:Inv X pins σ H1 { s1 with heap:=h3,toks:=tk2 }:=I2.kept (t':=tk2) k1
   have src:∀ z∈pb,∃ j,j < pts.length∧z=(pts.getD j (0,0),ad' j):=fun z hz=> by
    obtain ⟨y,hy,rfl⟩:=List.mem_map.mp (pm.mem_iff.mp hz)
    obtain ⟨j,hj,rfl⟩:=got.src y hy
    exact ⟨j,hj,rfl⟩
   have epts:pb.map (·.1)=ST.srt pts:=by
    refine ST.asc_one so (ST.srt_asc pts) fun z=> ?_
    rw [ST.srt_mem]
    constructor
    ·intro hz
     obtain ⟨y,hy,rfl⟩:=List.mem_map.mp hz
     obtain ⟨j,hj,rfl⟩:=src y hy
     simp [hj]
    ·intro hz
     obtain ⟨j,hj⟩:=List.mem_iff_getElem?.mp hz
     have hjl:=aB hj
     have hk:=got.all j hjl
     obtain ⟨y,hy,ey⟩:=List.mem_map.mp hk
     have hin:((y.1.getD 0 0,y.1.getD 1 0),y.2)∈ST.ptsOf kb:=List.mem_map.mpr ⟨y,hy,rfl⟩
     have hin':=pm.mem_iff.mpr hin
     refine List.mem_map.mpr ⟨_,hin',?_⟩
     rw [ey]
     have:pts.getD j (0,0)=z:=by rw [List.getD_eq_getElem?_getD,hj]; rfl
     show ((pts.getD j (0,0)).1,(pts.getD j (0,0)).2)=z
     rw [this]
   have fr:H1 h3.objs.size=none:=I3.hok.fresh (Nat.le_refl _)
   refine ⟨.ref h3.objs.size,upd H1 h3.objs.size (.lst (pb.map fun z=> V.ref z.2)),?_,rfl,?_⟩
   ·refine I3.laid (t':=tk2) k2 (Nat.le_refl _) ⟨?_,(ST.refs pb),ep,?_,hD⟩
    ·rw [List.length_map,← List.length_map (f:=(·.1)),epts,sizeLine_eq]
     have:=ST.srt_len pts
     omega
    ·have all:∀ l:ST.PB,aR (l.map fun z=> V.ref z.2) (ST.refs l):=fun l=> by
      induction l with
      | nil=> exact .nil
      | cons z r ih=> exact .cons rfl ih
     exact all pb
   ·refine q _ _ _ (sm.trans (aU fr _)) (sm.free fr) aM ⟨?_,fun i z x e1 e2=> ?_⟩
    ·rw [List.length_map,← epts,List.length_map,List.length_map]
    ·rw [← epts,List.map_map,List.getElem?_map] at e2
     rw [List.getElem?_map] at e1
     cases hpi:pb[i]? with
     | none=> rw [hpi] at e1; cases e1
     | some y=>
      rw [hpi] at e1 e2
      cases e1
      cases e2
      obtain ⟨j,hj,rfl⟩:=src y (List.mem_of_getElem? hpi)
      exact (adE j hj).2.1.same (bS (aU fr _) fr)
end
end L2
namespace ST
open PySem
section
variable {prog:Program} {w:World} {A:Around} {s:Shared} {R:Result→Shared→Prop} {I:Addr} {fp wr:List Addr} {G:Array GenState→Array GenState→Prop} {n:Nat} {P:Nat→Value→Prop} {St:Nat→Shared→Prop} {T:String}
def rO (prog:Program) (w:World) (T:String):Prop:=∀ (A:Around) (E:Value→Shared→Prop) (s:Shared) (r:Addr) (Q:Bool→Shared→Prop),s.TypeIs (.ref r) T→(∀ b,Q b s)→wpAny (model prog w) A (Builtin.List.listLengthHint (.ref r)) Q E s
theorem qe (W:WalksS prog w A.in1 I fp wr G n P St) (hT:∀ i s,St i s→s.TypeIs (.ref I) T) (hl:(Value.type T==Value.type "list")=false) (ht:(Value.type T==Value.type "tuple")=false) (hint:rO prog w T) (S:Addr) (res:Value) (c₀:Nat) (hst:St 0 s) (hSf:S ∉ fp) (hI:I∈fp)
  (hS:s.heap.get? S=some { cls:=.type "list",data:=.seq #[] c₀ })
  (hR:∀ s' acc' c',Moved (S::wr) G s s'→s'.heap.get? S=some { cls:=.type "list",dict:=none,data:=.seq acc' c',slots:=#[] }→ItemsOf P acc' n→R (.ok (.ret res)) s') (hn:n≤sizeLine):
  wpAny (model prog w) A.in1 (Builtin.List.listExtendWith (.ref S) (.ref I) res)
   (fun fin s'=> match fin with | .done f=> R (.ok f) s' | .again c'=> c'.quiet=true∧codeAny (model prog w) A c' R s') (fun e s'=> R (.error e) s') s:=by
 have hSI:S≠I:=fun e=> hSf (e ▸ hI)
 unfold Builtin.List.listExtendWith
 refine wpAny_bind (wpAny_typeOf (hT 0 _ hst) ?_)
 have k1:Builtin.List.listSameRef (.ref S) (.ref I)=false:=by simp [Builtin.List.listSameRef,hSI]
 simp only [k1,hl,ht,Bool.or_false,Bool.false_eq_true,if_false]
 refine wpAny_bind (W.self 0 _ _ _ hst (wpAny_bind (wpAny_holding (hint _ _ _ _ _ (hT 0 _ hst) fun b=> ?_))))
 refine wpAny_ite_split (fun _=> ?_) (fun _=> ?_)
 ·refine wpAny_bind (wpAny_rule (wpAny_bind ?_))
  show wpAny _ A.in1 (updateSeq S (·.push .none) >>=fun _=> updateSeq S (·.pop)) _ _ _
  refine wpAny_bind (wpAny_updateSeq hS rfl ?_)
  have g2:=Heap.get?_update_self (Obj.mapSeq (·.push Value.none)) hS rfl
  refine wpAny_updateSeq (hz:=by seq_fits) g2 rfl ?_
  have g3:=Heap.get?_update_self (Obj.mapSeq (·.pop)) g2 rfl
  have oth:∀ b o,b≠S→s.heap.get? b=some o→((s.heap.update S (Obj.mapSeq (·.push Value.none))).update S (Obj.mapSeq (·.pop))).get? b=some o:=fun b o hb e=> (Heap.get?_update_other _ _ (Ne.symm hb)).trans ((Heap.get?_update_other _ _ (Ne.symm hb)).trans e)
  refine wpAny_pure ⟨plainId_quiet PySem.F.plain_extend_loop _,codeAny_extend_loopS W hn _ hSf _ n 0 _ _ _ rfl (Nat.zero_le _) (W.frame 0 s _ s.toks hst (Nat.le_refl _) fun b hb o e=> oth b o (fun z=> hSf (z ▸ hb)) e) g3 (ItemsOf.nil P) fun s' acc' c' m g' it=> ?_⟩
  exact hR s' acc' c' (Moved.trans W.gtrans ((Moved.refl W.grefl).then_heap (Nat.le_refl _) fun b o hb e=> oth b o (fun z=> hb (z ▸ List.mem_cons_self)) e) m) g' it
 ·exact wpAny_pure ⟨plainId_quiet PySem.F.plain_extend_loop _,codeAny_extend_loopS W hn _ hSf _ n 0 _ _ _ rfl (Nat.zero_le _) hst hS (ItemsOf.nil P) fun s' acc' c' m g' it=> hR s' acc' c' m g' it⟩
theorem vA (W:WalksS prog w A.in1 I fp wr G n P St) (hT:∀ i s,St i s→s.TypeIs (.ref I) T) (hl:(Value.type T==Value.type "list")=false) (ht:(Value.type T==Value.type "tuple")=false) (hint:rO prog w T) (S:Addr) (hst:St 0 s) (hSf:S ∉ fp) (hI:I∈fp)
  (hS:s.heap.get? S=some { cls:=.type "list",data:=.seq #[] })
  (hR:∀ s' acc' c',Moved (S::wr) G s s'→s'.heap.get? S=some { cls:=.type "list",dict:=none,data:=.seq acc' c',slots:=#[] }→ItemsOf P acc' n→R (.ok (.ret .none)) s') (hn:n≤sizeLine):
  wpAny (model prog w) A.in1 (Builtin.«list.__init__» ⟨[.ref S,.ref I],[]⟩)
   (fun fin s'=> match fin with | .done f=> R (.ok f) s' | .again c'=> c'.quiet=true∧codeAny (model prog w) A c' R s') (fun e s'=> R (.error e) s') s:=by
 show wpAny _ A.in1 (Builtin.List.listItems (.ref S) >>=fun old=> Builtin.List.listUpdate (.ref S) (fun _=> #[]) >>=fun _=> letGo old.toList.reverse >>=fun _=> Builtin.List.listExtendWith (.ref S) (.ref I) .none) _ _ s
 refine wpAny_bind ?_
 unfold Builtin.List.listItems
 refine wpAny_bind (wpAny_seqItems hS rfl (wpAny_pure ?_))
 show wpAny _ A.in1 (updateSeq S (fun _=> #[]) >>=fun _=> letGo (#[]:Array Value).toList.reverse >>=fun _=> Builtin.List.listExtendWith (.ref S) (.ref I) .none) _ _ s
 refine wpAny_bind (wpAny_updateSeq hS rfl ?_)
 have g2:=Heap.get?_update_self (Obj.mapSeq (fun _=> (#[]:Array Value))) hS rfl
 have oth:∀ b o,b≠S→s.heap.get? b=some o→(s.heap.update S (Obj.mapSeq (fun _=> (#[]:Array Value)))).get? b=some o:=fun b o hb e=> (Heap.get?_update_other _ _ (Ne.symm hb)).trans e
 refine wpAny_bind (wpAny_letGo ?_)
 refine qe W hT hl ht hint S .none _ (W.frame 0 s _ s.toks hst (Nat.le_refl _) fun b hb o e=> oth b o (fun z=> hSf (z ▸ hb)) e) hSf hI g2 (fun s' acc' c' m g' it=> ?_) hn
 exact hR s' acc' c' (Moved.trans W.gtrans ((Moved.refl W.grefl).then_heap (Nat.le_refl _) fun b o hb e=> oth b o (fun z=> hb (z ▸ List.mem_cons_self)) e) m) g' it
end
section
variable {prog:Program} {w:World} {A:Around} {E:Value→Shared→Prop} {s:Shared} {I:Addr} {fp wr:List Addr} {G:Array GenState→Array GenState→Prop} {n:Nat} {P:Nat→Value→Prop} {St:Nat→Shared→Prop} {T:String}
theorem call_list_it {Q:Value→Shared→Prop} (W:WalksS prog w A.in1.in1 I fp wr G n P St) (hT:∀ i s,St i s→s.TypeIs (.ref I) T) (hl:(Value.type T==Value.type "list")=false) (ht:(Value.type T==Value.type "tuple")=false) (hint:rO prog w T) (hst:St 0 s) (hfp:∀ b∈fp,b < s.heap.objs.size) (hI:I∈fp)
  (hQ:∀ s' acc' c',Moved (s.heap.objs.size::wr) G { s with heap:=s.heap.push { cls:=.type "list",data:=.seq #[] } } s'→
   s'.heap.get? s.heap.objs.size=some { cls:=.type "list",dict:=none,data:=.seq acc' c',slots:=#[] }→ItemsOf P acc' n→Q (.ref s.heap.objs.size) s') (hn:n≤sizeLine):
  wpAny (model prog w) A (call (.type "list") [.ref I]) Q E s:=by
 have hSf:s.heap.objs.size ∉ fp:=fun hm=> Nat.lt_irrefl _ (hfp _ hm)
 refine callType_codes (Q₁:=fun obj s₁=> obj=.ref s.heap.objs.size∧s₁={ s with heap:=s.heap.push { cls:=.type "list",data:=.seq #[] } }) PySem.F.called_list (PySem.F.typeCall_list_1 _) PySem.F.entry_list_init (code_list_new _ ⟨rfl,rfl⟩) fun obj s₁ h₁=> ?_
 obtain ⟨rfl,rfl⟩:=h₁
 have hS:(s.heap.push { cls:=.type "list",data:=.seq #[] }).get? s.heap.objs.size=some { cls:=.type "list",data:=.seq #[] }:=Heap.get?_push_size _ rfl
 refine ⟨⟨_,hS,rfl⟩,PySem.F.args_list_init_2 _ _,vA W hT hl ht hint _ (W.frame 0 s _ s.toks hst (Nat.le_refl _) fun b _ o e=> Heap.get?_push_of_some _ e) hSf hI hS (fun s' acc' c' m g' it=> ?_) hn⟩
 exact ⟨rfl,hQ s' acc' c' m g' it⟩
end
theorem vC:typeLookup (.type "list_reverseiterator") "__len__"=pure none:=by rw [typeLookup_type,builtinLookup_eq_fast]; kernel_rfl
theorem jH:Slot "list_reverseiterator" "__length_hint__" "list_reverseiterator.__length_hint__":=
 .of (owner:="list_reverseiterator") (n:="__length_hint__") (by rw [typeLookup_type,builtinLookup_eq_fast]; kernel_rfl) (by decide+kernel) (by decide+kernel) (by decide+kernel) (by first | exact .inl (by decide+kernel) | exact .inr (by decide+kernel)) (by rw [isSubtype_type]; kernel_rfl)
theorem hint_rev (prog:Program) (w:World):rO prog w "list_reverseiterator":=fun A E s r Q hT h=> by
 unfold Builtin.List.listLengthHint
 refine wpAny_bind (wpAny_specialOf hT vC ?_)
 show wpAny _ A (specialOf (Value.ref r) (Str.ofString "__length_hint__") >>=_) _ _ _
 refine wpAny_bind (wpAny_specialOf hT jH.lookup ?_)
 generalize hid:("list_reverseiterator.__length_hint__":String)=id0
 wp_delta
 rw [show splitId id0=some ("list_reverseiterator","__length_hint__") from by subst hid; decide+kernel]
 subst hid
 refine wpAny_bind (wpAny_isInstance (T:="list_reverseiterator") (b:=true) hT (by rw [isSubtype_type]; kernel_rfl) ?_)
 refine wpAny_ite_split (fun z=> absurd z (by decide)) (fun _=> ?_)
 refine wpAny_ite_split (fun _=> ?_) (fun z=> absurd (by decide+kernel) z)
 refine wpAny_ite_split (fun z=> absurd z (by decide+kernel)) (fun _=> wpAny_pure (h _))
end ST
namespace L2
open PySem PySem.Spec PyProof.Rows
theorem jN:bootBuiltins "reversed"=some (.type "reversed"):=by decide+kernel
theorem aR.rev:∀ {xs:List V} {us:List Value},aR xs us→aR xs.reverse us.reverse:=fun {xs us} r=> by
 induction r with
 | nil=> exact .nil
 | @cons x u xs us r1 r2 ih=>
  rw [List.reverse_cons,List.reverse_cons]
  have app:∀ {a:List V} {b:List Value},aR a b→aR (a++[x]) (b++[u]):=fun {a b} q=> by
   induction q with
   | nil=> exact .cons r1 .nil
   | cons q1 _ ih'=> exact .cons q1 ih'
  exact app ih
theorem Rps.rev {K:PySem.W.Frag} {H:Hp} {vs:List V} {xs:List U} (r:Rps K H vs xs):Rps K H vs.reverse xs.reverse:=⟨by simp [r.len],fun i v x h1 h2=> by
 have hi:i < vs.length:=by have:=aB h1; simpa using this
 have hx:i < xs.length:=by rw [← r.len]; exact hi
 rw [List.getElem?_reverse hi] at h1
 rw [List.getElem?_reverse hx,← r.len] at h2
 exact r.at_ _ v x h1 h2⟩
section
variable {X:Cx} {H0:Hp} {O0:List Addr} {ps:PSt} {e k:Expr} {x:U} {xs:List U} {pos pos' p p' p2:Pos}
theorem uv {K:PySem.W.Frag} {H:Hp} {v:V} (rp:Rp K H v x) (hx:x=.lst xs∨x=.scr xs):∃ a vs,v=.ref a∧SqL K H a vs∧Rps K H vs xs:=by
 rcases hx with rfl | rfl
 ·cases rp with
  | lst hq hl hh=> exact ⟨_,_,rfl,SqL.of hq,hl,hh⟩
 ·cases rp with
  | scr hq hl hh=> exact ⟨_,_,rfl,hq,hl,hh⟩
theorem ya (he:Ev X H0 O0 ps e x) (hk:Ev X H0 O0 ps k (.int (-1))) (hx:x=.lst xs∨x=.scr xs):EvN X H0 O0 ps (.Subscript e (.Slice none none (some k) p2) pos) xs.reverse:=by
 rintro pins s σ H Q I ⟨O,R,q⟩
 refine Subscript_ (thn (he pins s σ H (fun v H1=> aJ H H1∧Rp X.K (hid H1 O) v x) I ⟨O,R,fun v H1 s1 r1=> ⟨s1,r1⟩⟩) fun u s1 ⟨v,H1,I1,r1,sm,rp⟩=> ?_)
 obtain ⟨a,vs,rfl,hq,rs⟩:=uv rp hx
 cases r1
 refine wpAny_Slice ?_
 rw [evalPart_none]
 refine wpAny_pure (wpAny_pure ?_)
 rw [evalPart_some]
 refine thn (hk pins s1 σ H1 (fun v H2=> aJ H1 H2∧v=.int (-1)) I1 ⟨O,R.go sm,fun v H2 s2 r2=> ⟨s2,by cases r2; rfl⟩⟩) fun uk s2 hy=> ?_
 obtain ⟨vk,H2,I2,rk,s12,rfl⟩:=hy
 obtain ⟨t,rfl⟩:=rk
 have I3:Inv X pins σ H2 { s2 with heap:=s2.heap.push { cls:=.type "slice",data:=.fields #[.none,.none,.int (-1) t] } }:=I2.kept (t':=s2.toks) fun b ob z=> Heap.get?_push_of_some _ z
 obtain ⟨its,rv,pl,hz⟩:=I3.list (s12.seq (aF.seq hq))
 have hlen:=rv.length
 show wpAny (model X.prog X.w) X.A (subscriptTail e (.Slice none none (some k) p2) (.ref a) (.ref s2.heap.objs.size)) (EP X pins σ Q) X.xe { s2 with heap:=s2.heap.push { cls:=.type "slice",data:=.fields #[.none,.none,.int (-1) t] } }
 refine tail_any (ops:=[.ref a,.ref s2.heap.objs.size]) pl.isList.typeIs slot_list_getitem.lookup ?_ (by with_unfolding_all rfl)
 refine wpAny_getItem_list_slice pl.isList (Heap.IsSliceOf.new ..) .none .none (IsPart.int _ _) (by simp) ?_ (by rw [List.size_toArray]; omega)
 rw [PySem.W.krv_pick]
 generalize hn:(s2.heap.push { cls:=.type "slice",data:=.fields #[.none,.none,.int (-1) t] }).objs.size=D
 have fr:H2 D=none:=I3.hok.fresh (by rw [← hn]; exact Nat.le_refl _)
 refine ⟨.ref D,upd H2 D (.lst vs.reverse),I3.laid (t':=s2.toks) (o:=.lst vs.reverse) (fun b ob z=> Heap.get?_push_of_some _ z) (by rw [← hn]; exact Nat.le_refl _) ⟨by rw [List.length_reverse]; exact hz,its.reverse,0,rv.rev,?_⟩,rfl,?_⟩
 ·rw [← hn]; exact Heap.get?_push_size _ rfl
 ·refine q D _ _ ((sm.trans s12).trans (aU fr _)) ((sm.trans s12).free fr) aM ?_
  exact (rs.rev.same (bw s12)).same (bS (aU fr _) fr)
theorem qI (hc:X.calm=true) (hg:Gl X "list") (hm:X.mg "list"=none) (hgr:Gl X "reversed") (hmr:X.mg "reversed"=none) (ha:Ev X H0 O0 ps e (.lst xs))
  (he:starEach [e] X.env=(false,eval e X.env)::starEach [] X.env:=by rfl):EvN X H0 O0 ps (.Call (.Name "list" p) [.Call (.Name "reversed" p') [e] [] pos'] [] pos) xs.reverse:=by
 rintro pins s σ H Q I ⟨O,R,q⟩
 have hh:X.A.handled=none:=I.ok.hd hc
 refine wpAny_Call_Name_kw (dX I hg hm boot_list ?_)
 refine callWith_type1 (e:=.Call (.Name "reversed" p') [e] [] pos') (rest:=[]) ?_ bp rfl
 rw [bp]
 show wpAny _ _ (spliced ((false,eval (.Call (.Name "reversed" p') [e] [] pos') X.env)::backTo pos (starEach [] X.env))) _ _ s
 refine Calls.spliced_cons ?_
 refine wpAny_Call_Name_kw (dX I hgr hmr jN ?_)
 refine callWith_type1 (thn (cI ha dY he pos' pins s σ H (fun vs H1=> ∃ v,vs=[v]∧aJ H H1∧Rp X.K (hid H1 O) v (.lst xs)) I ⟨O,R,fun v H1 s1 r1=> ⟨v,rfl,s1,r1⟩⟩) fun us s1 hx=> ?_) he rfl
 obtain ⟨vs,H1,I1,rv,v,rfl,sm,rp⟩:=hx
 obtain ⟨u,rfl,ru⟩:=j4 rv
 obtain ⟨a,ws,rfl,hq,rs⟩:=uv rp (.inl rfl)
 cases ru
 obtain ⟨its,rw',pl,hz⟩:=I1.list (aF.seq hq)
 have hlen:=rw'.length
 have hsz:its.toArray.size=its.length:=by simp
 refine call_reversed_list pl.isList ?_
 have I2:Inv X pins σ H1 { s1 with heap:=s1.heap.push (revObj a ((its.toArray.size:Int) - 1)) }:=I1.kept (t':=s1.toks) fun b ob z=> Heap.get?_push_of_some _ z
 refine Calls.spliced_nil ?_
 have hal:a < s1.heap.objs.size:=by obtain ⟨o,ho,_⟩:=pl.isList; exact Heap.lt_size ho
 have W:=(Walks.listRev (prog:=X.prog) (w:=X.w) (A:=X.A.in1.in1) hh s1.heap.objs.size a (Nat.ne_of_lt hal) its.toArray).toS
 refine ST.call_list_it (T:="list_reverseiterator") (s:={ s1 with heap:=s1.heap.push (revObj a ((its.toArray.size:Int) - 1)) }) W (fun i s' st=> st.2.1.typeIs) (by decide) (by decide) (ST.hint_rev _ _) ⟨Nat.zero_le _,⟨_,Heap.get?_push_size _ rfl,rfl,by simp [revObj]⟩,pl.isList.push _⟩ (fun b hb=> ?_) (by simp) (fun s3 acc c m hD hit=> ?_) (by rw [hsz]; omega)
 ·show b < (s1.heap.push _).objs.size
  rw [Heap.size_push]
  simp at hb
  rcases hb with z | z
  ·rw [z]; exact Nat.lt_succ_self _
  ·rw [z]; exact Nat.lt_succ_of_lt hal
 ·obtain ⟨h3,g3,d3,tk3,os3⟩:=s3
  obtain rfl:g3=s1.gens:=m.gens
  obtain rfl:d3=s1.drawn:=m.drawn
  obtain rfl:os3=s1.os:=m.os
  have szI:(s1.heap.push (revObj a ((its.toArray.size:Int) - 1))).objs.size=s1.heap.objs.size+1:=Heap.size_push ..
  have keep:∀ b ob,s1.heap.get? b=some ob→h3.get? b=some ob:=fun b ob z=> by
   have hb:=Heap.lt_size z
   refine m.heap b ob (fun y=> ?_) (Heap.get?_push_of_some _ (Heap.get?_push_of_some _ z))
   rcases List.mem_cons.mp y with y | y
   ·rw [y] at hb
    have hb':s1.heap.objs.size+1 < s1.heap.objs.size:=by rw [← szI]; exact hb
    exact absurd hb' (by omega)
   ·rw [List.mem_singleton.mp y] at hb; exact Nat.lt_irrefl _ hb
  have hacc:acc.toList=its.reverse:=by
   apply List.ext_getElem?
   intro i
   rcases Nat.lt_or_ge i acc.size with z | z
   ·have y:=hit.2 i _ (Array.getElem?_eq_getElem z)
    have hi:i < its.length:=by rw [hit.1,hsz] at z; exact z
    rw [Array.getElem?_toList,Array.getElem?_eq_getElem z,List.getElem?_reverse hi,← y,hsz]
    simp
   ·have hi:its.length≤i:=by rw [hit.1,hsz] at z; exact z
    rw [List.getElem?_eq_none (by simpa using z),List.getElem?_eq_none (by simpa using hi)]
  generalize hn:(s1.heap.push (revObj a ((its.toArray.size:Int) - 1))).objs.size=D at *
  have fr:H1 D=none:=I2.hok.fresh (by rw [← hn]; exact Nat.le_refl _)
  have I3:Inv X pins σ (upd H1 D (.lst ws.reverse)) { s1 with heap:=h3,toks:=tk3 }:=I1.laid (t':=tk3) (o:=.lst ws.reverse) keep (by rw [szI]; exact Nat.le_succ _) ⟨by rw [List.length_reverse]; exact hz,its.reverse,c,rw'.rev,by rw [← hacc,Array.toArray_toList]; exact hD⟩
  refine ⟨.ref D,_,I3,rfl,q D _ _ (sm.trans (aU fr _)) (sm.free fr) aM ?_⟩
  exact rs.rev.same (bS (aU fr _) fr)
end
end L2
namespace L2
open PySem PySem.Spec PyProof.Rows
theorem SubP.trans:∀ {p q r:PSt},SubP p q→SubP q r→SubP p r
 | [],[],[],_,_=> trivial
 | none::p,none::q,_::r,h1,h2=> SubP.trans (p:=p) (q:=q) h1 h2
 | none::p,some _::q,_::r,h1,h2=> SubP.trans (p:=p) (q:=q) h1 h2.2
 | some _::p,some _::q,_::r,h1,h2=> ⟨h2.1.trans h1.1,SubP.trans (p:=p) (q:=q) h1.2 h2.2⟩
 | some _::p,none::q,_::r,h1,h2=> by cases h1.1
 | [],_::_,_,h1,_=> h1.elim
 | none::_,[],_,h1,_=> h1.elim
 | some _::_,[],_,h1,_=> h1.elim
 | [],[],_::_,_,h2=> h2.elim
 | _::_,none::_,[],_,h2=> h2.elim
 | _::_,some _::_,[],_,h2=> h2.elim
section
variable {X:Cx} {H0:Hp} {O0:List Addr} {ps:PSt} {xs:List U} {us:List U} {es:List Expr} {x:Str} {pc p' pos:Pos}
theorem fv (n:Nat) (h:ps[n]?=some (some (.own xs))) (hg:Gl X "len") (hm:X.mg "len"=none) (hN:X.N[n]?=some x:=by rfl) (hv:Vis X.env.scope x:=by first | exact Or.inl rfl | exact Or.inr (Or.inl rfl) | exact Or.inr (Or.inr rfl)) (hd:(x==("__debug__":Str))=false:=by decide)
  (hcd:(x==("__classdict__":Str))=false:=by decide) (hpl:(backTo pos (starEach [] X.env)).any (·.1)=false:=by rfl):Ev X H0 O0 ps (.Call (.Name "len" pc) [.Name x p'] [] pos) (.int xs.length):=wk n h hg hm hN hv hd hcd am hpl
theorem Rps.pts {K:PySem.W.Frag} {H:Hp} {O' O:List Addr} {a:Addr} {ws vs:List V} (hO:∀ c∈O',c∈O∨c=a) (ha:H a=some (.lst ws)):∀ {l:List P2},Rps K (hid H O) vs (l.map pu)→Rps K (hid H O') vs (l.map pu):=fun {l} r=> ⟨r.len,fun i v x e1 e2=> by
 have q:=r.at_ i v x e1 e2
 rw [List.getElem?_map] at e2
 cases hp:l[i]? with
 | none=> rw [hp] at e2; cases e2
 | some p=>
  rw [hp] at e2
  cases e2
  cases q with
  | @tup b zs _ h hl hi=>
   refine .tup ?_ hl fun j z y f1 f2=> ?_
   ·have key:∀ {o:HO},(∀ us,o≠.lst us)→hid H O b=some o→hid H O' b=some o:=fun {o} no h=> by
     obtain ⟨h1,h2⟩:=fO h
     refine cM h1 fun z=> ?_
     rcases hO b z with z | z
     ·exact h2 z
     ·rw [z,ha] at h1; cases h1; exact no _ rfl
    rcases h with (h | ⟨o,h⟩) | h
    ·exact .inl (.inl (key (fun _ z=> (nomatch z)) h))
    ·exact .inl (.inr ⟨o,key (fun _ z=> (nomatch z)) h⟩)
    ·exact .inr h
   ·have f:=hi j z y f1 f2
    match j,f2 with
    | 0,f2=> cases f2; cases f; exact .int _
    | 1,f2=> cases f2; cases f; exact .int _
    | j+2,f2=> simp at f2⟩
theorem o6 {spec:List U→Out→Prop} {f:Addr} {fd:FuncData} {pn:List Str} {k:Nat} {nm:Str} {l:List P2} {CX} (n:Nat) (h:ps[n]?=some (some (.own xs))) (F:bE X.prog X.w X.K X.mg X.base CX k f fd pn (spU X.K spec)) (hr:eW k X.A) (hg:Gl X nm) (hm:X.mg nm=some (.ref f)) (hk:PySem.W.keepIn X.K (.ref f)=true) (hb:bo X.K fd pn []) (hx:ig CX X E0)
  (ha:EvA X H0 O0 ps es us) (hs:spec (.lst xs::us) (.new (l.map pu))) (hN:X.N[n]?=some x:=by rfl) (hv:Vis X.env.scope x:=by first | exact Or.inl rfl | exact Or.inr (Or.inl rfl) | exact Or.inr (Or.inr rfl)) (hd:(x==("__debug__":Str))=false:=by decide)
  (hcd:(x==("__classdict__":Str))=false:=by decide) (hdb:(nm==("__debug__":Str))=false:=by decide) (hpl:(backTo pos (starEach es X.env)).any (·.1)=false:=by rfl):
  EvN X H0 O0 ps (.Call (.Name nm pc) (.Name x p'::es) [] pos) (l.map pu):=
 PE.mono (ku F hr hg hm hk hb .nil hx (cI (fz hN hv hd hcd) ha am) hdb am hpl) fun σ H Q ⟨O,R,q⟩=> by
  obtain ⟨v,h1,a,vs,rfl,h3,h4,h5,h6⟩:=R.at_ n _ h
  refine ⟨_,h1,O,R,fun ws H1 s1 r1=> ?_⟩
  show spU X.K spec (V.ref a::ws++[]) H1 Q _
  rw [List.append_nil]
  have sub:∀ c∈O.filter (·≠a),c∈O:=fun c hc=> (List.mem_filter.mp hc).1
  refine ⟨.lst xs::us,O.filter (·≠a),.new (l.map pu),fun c hc=> (R.go s1).dom c (sub c hc),?_,hs,fun a' vs' H2 s2 n2 h2 r2=> ?_⟩
  ·refine Rps.cons (.lst (cM (s1 _ _ h5) (by simp)) h6.len fun i z y e1 e2=> ?_) (r1.same (cX sub))
   exact ((h6.at_ i z y e1 e2).same (bw s1)).same (cX sub)
  ·refine q a' vs' H2 (s1.trans s2) (s1.free n2) h2 (Rps.pts (O:=a'::O.filter (·≠a)) (a:=a) (fun c hc=> ?_) (s2 _ _ (s1 _ _ h5)) r2)
   by_cases e:c=a
   ·exact .inr e
   ·rcases List.mem_cons.mp hc with z | z
    ·exact .inl (by rw [z]; exact List.mem_cons_self)
    ·exact .inl (List.mem_cons_of_mem _ (List.mem_filter.mpr ⟨z,by simpa using e⟩))
end
end L2
namespace ST
open PySem
abbrev gI (h:Heap) (z TI TO T:Addr) (b:Bool):Prop:=h.get? z=some { cls:=.type "zip",dict:=none,data:=.fields #[rawInt T,.bool b,.bool false,.ref TI,.ref TO],slots:=#[] }
section
variable {prog:Program} {w:World} {A:Around} {E:Value→Shared→Prop} {s:Shared}
theorem xW {T:Addr} {o:Obj} {Q:Option Obj→Shared→Prop} (h:s.heap.get? T=some o) (q:Q (some o) s):wpAny (model prog w) A (loadIfAlive T) Q E s:=fun Γ p hΓ=> by
 unfold loadIfAlive
 rw [Sem.wp_loadIfAlive,h]
 simpa using q
theorem fF {z TI TO T:Addr} {b:Bool} {oT:Obj} {Q:Bool→Shared→Prop} (hz:gI s.heap z TI TO T b) (hT:s.heap.get? T=some oT) (h:∀ h',gI h' z TI TO T true→Heap.SameBut z s.heap h'→Q false { s with heap:=h' }):
  wpAny (model prog w) A (Builtin.SmallTypes.ownedTupleIsFree (.ref z)) Q E s:=by
 unfold Builtin.SmallTypes.ownedTupleIsFree
 refine wpAny_bind (wpAny_field hz rfl (x:=rawInt T) rfl ?_)
 dsimp only [rawInt]
 refine wpAny_bind (xW (T:=(T:Int).toNat) (o:=oT) (by rw [Int.toNat_natCast]; exact hT) ?_)
 rw [if_neg (by simp)]
 refine wpAny_bind (wpAny_field hz rfl (x:=.bool b) rfl ?_)
 cases b with
 | true=>
  rw [if_neg (by decide)]
  exact wpAny_pure (h s.heap hz (Heap.SameBut.refl _ _))
 | false=>
  rw [if_pos (by decide)]
  refine wpAny_bind (wpAny_setField_rec hz (by simp) fun h₁ hz₁ hs₁=> wpAny_pure (h h₁ hz₁ hs₁))
theorem rK {z TI TO i1 i2 l1 l2 T:Addr} {b:Bool} {oT:Obj} {k1 k2:Nat} {xs ys:Array Value} {x y:Value} {Q:Value→Shared→Prop} (D:ZipApart z TI TO i1 i2 l1 l2)
  (hz:gI s.heap z TI TO T b) (hT:s.heap.get? T=some oT) (hTI:IsPair s.heap TI (.ref i1) (.ref i2))
  (h1:s.heap.IsListIter i1 l1 k1) (h2:s.heap.IsListIter i2 l2 k2) (hl1:s.heap.IsList l1 xs) (hl2:s.heap.IsList l2 ys) (hx:xs[k1]?=some x) (hy:ys[k2]?=some y)
  (hQ:∀ h',gI h' z TI TO T true→h'.IsListIter i1 l1 (k1+1)→h'.IsListIter i2 l2 (k2+1)→IsPair h' s.heap.objs.size x y→(∀ c o,c≠z→c≠i1→c≠i2→s.heap.get? c=some o→h'.get? c=some o)→Q (.ref s.heap.objs.size) { s with heap:=h' }):
  wpAny (model prog w) A (Builtin.«zip.__next__» ⟨[.ref z],[]⟩) (fun fin s'=> ∃ v,fin=.done (.ret v)∧Q v s') E s:=by
 show wpAny _ _ (field (.ref z) 2 >>=_) _ _ _
 refine wpAny_bind (wpAny_field hz rfl (x:=.bool false) rfl ?_)
 show wpAny _ _ (field (.ref z) 3 >>=_) _ _ _
 refine wpAny_bind (wpAny_field hz rfl (x:=.ref TI) rfl (wpAny_bind (wpAny_seqItems hTI rfl ?_)))
 show wpAny _ _ (Builtin.SmallTypes.ownedTupleIsFree (.ref z) >>=_) _ _ _
 refine wpAny_bind (fF hz hT fun ha za sa=> ?_)
 simp only [Bool.false_eq_true,if_false]
 refine wpAny_bind ?_
 rw [← Array.forIn_toList]
 show wpAny _ _ (forIn [Value.ref i1,Value.ref i2] _ _) _ _ _
 simp only [List.forIn_cons,List.forIn_nil]
 refine wpAny_bind (wpAny_bind (wpAny_holding ?_))
 show wpAny _ _ (Builtin.SmallTypes.nextOf (.ref i1) >>=_) _ _ _
 refine wpAny_bind (wpAny_nextOf_list_item (h1.extBut sa.extBut D.i1z) (hl1.extBut sa.extBut D.l1z) hx fun hb b1 sb=> wpAny_pure ?_)
 dsimp only
 refine wpAny_pure ?_
 dsimp only
 refine wpAny_bind (wpAny_bind (wpAny_holding ?_))
 show wpAny _ _ (Builtin.SmallTypes.nextOf (.ref i2) >>=_) _ _ _
 refine wpAny_bind (wpAny_nextOf_list_item ((h2.extBut sa.extBut D.i2z).extBut sb.extBut D.i12.symm) ((hl2.extBut sa.extBut D.l2z).extBut sb.extBut D.l2i1) hy fun hc c2 sc=> wpAny_pure ?_)
 dsimp only
 refine wpAny_pure (wpAny_pure ?_)
 dsimp only
 refine wpAny_bind (wpAny_newTuple ?_ (by show 2≤sizeLine; rw [sizeLine_eq]; omega))
 have hsz:hc.objs.size=s.heap.objs.size:=by rw [sc.1,sb.1,sa.1]
 have zc:gI hc z TI TO T true:=sc.extBut _ _ D.i2z.symm (sb.extBut _ _ D.i1z.symm za)
 refine wpAny_pure ⟨_,rfl,?_⟩
 show Q (.ref hc.objs.size) _
 rw [hsz]
 refine hQ _ (Heap.get?_push_of_some _ zc) (((b1.extBut sc.extBut D.i12)).at fun o e=> Heap.get?_push_of_some _ e) (c2.at fun o e=> Heap.get?_push_of_some _ e) ?_ fun c o n1 n2 n3 e=> Heap.get?_push_of_some _ (sc.extBut _ _ n3 (sb.extBut _ _ n2 (sa.extBut _ _ n1 e)))
 rw [← hsz]
 exact Heap.get?_push_size _ rfl
theorem kU {z TI TO i1 i2 l1 l2 T:Addr} {b:Bool} {oT:Obj} {k1:Nat} {xs:Array Value} {Q:PySem.Fin→Shared→Prop} (hh:A.handled=none) (D:ZipApart z TI TO i1 i2 l1 l2)
  (hz:gI s.heap z TI TO T b) (hT:s.heap.get? T=some oT) (hTI:IsPair s.heap TI (.ref i1) (.ref i2))
  (h1:s.heap.IsListIter i1 l1 k1) (hl1:s.heap.IsList l1 xs) (hx:xs[k1]?=none)
  (hE:∀ h' e,(∀ c o,c≠z→c≠i1→c≠i2→s.heap.get? c=some o→h'.get? c=some o)→(∃ o,h'.get? e=some o∧o.cls=.type "StopIteration")→E (.ref e) { s with heap:=h' }):
  wpAny (model prog w) A (Builtin.«zip.__next__» ⟨[.ref z],[]⟩) Q E s:=by
 show wpAny _ _ (field (.ref z) 2 >>=_) _ _ _
 refine wpAny_bind (wpAny_field hz rfl (x:=.bool false) rfl ?_)
 show wpAny _ _ (field (.ref z) 3 >>=_) _ _ _
 refine wpAny_bind (wpAny_field hz rfl (x:=.ref TI) rfl (wpAny_bind (wpAny_seqItems hTI rfl ?_)))
 show wpAny _ _ (Builtin.SmallTypes.ownedTupleIsFree (.ref z) >>=_) _ _ _
 refine wpAny_bind (fF hz hT fun ha za sa=> ?_)
 simp only [Bool.false_eq_true,if_false]
 refine wpAny_bind ?_
 rw [← Array.forIn_toList]
 show wpAny _ _ (forIn [Value.ref i1,Value.ref i2] _ _) _ _ _
 simp only [List.forIn_cons,List.forIn_nil]
 refine wpAny_bind (wpAny_bind (wpAny_holding ?_))
 show wpAny _ _ (Builtin.SmallTypes.nextOf (.ref i1) >>=_) _ _ _
 refine wpAny_bind (wpAny_nextOf_list_end hh (h1.extBut sa.extBut D.i1z) (hl1.extBut sa.extBut D.l1z) hx fun hb e sb he=> ?_)
 exact hE hb e (fun c o n1 n2 n3 q=> sb _ _ n2 (sa.extBut _ _ n1 q)) he
theorem jO {z TI TO i1 i2 l1 l2 T:Addr} {b:Bool} {oT:Obj} {k1 k2:Nat} {xs ys:Array Value} {x:Value} {Q:PySem.Fin→Shared→Prop} (hh:A.handled=none) (D:ZipApart z TI TO i1 i2 l1 l2)
  (hz:gI s.heap z TI TO T b) (hT:s.heap.get? T=some oT) (hTI:IsPair s.heap TI (.ref i1) (.ref i2))
  (h1:s.heap.IsListIter i1 l1 k1) (h2:s.heap.IsListIter i2 l2 k2) (hl1:s.heap.IsList l1 xs) (hl2:s.heap.IsList l2 ys) (hx:xs[k1]?=some x) (hy:ys[k2]?=none)
  (hE:∀ h' e,(∀ c o,c≠z→c≠i1→c≠i2→s.heap.get? c=some o→h'.get? c=some o)→(∃ o,h'.get? e=some o∧o.cls=.type "StopIteration")→E (.ref e) { s with heap:=h' }):
  wpAny (model prog w) A (Builtin.«zip.__next__» ⟨[.ref z],[]⟩) Q E s:=by
 show wpAny _ _ (field (.ref z) 2 >>=_) _ _ _
 refine wpAny_bind (wpAny_field hz rfl (x:=.bool false) rfl ?_)
 show wpAny _ _ (field (.ref z) 3 >>=_) _ _ _
 refine wpAny_bind (wpAny_field hz rfl (x:=.ref TI) rfl (wpAny_bind (wpAny_seqItems hTI rfl ?_)))
 show wpAny _ _ (Builtin.SmallTypes.ownedTupleIsFree (.ref z) >>=_) _ _ _
 refine wpAny_bind (fF hz hT fun ha za sa=> ?_)
 simp only [Bool.false_eq_true,if_false]
 refine wpAny_bind ?_
 rw [← Array.forIn_toList]
 show wpAny _ _ (forIn [Value.ref i1,Value.ref i2] _ _) _ _ _
 simp only [List.forIn_cons,List.forIn_nil]
 refine wpAny_bind (wpAny_bind (wpAny_holding ?_))
 show wpAny _ _ (Builtin.SmallTypes.nextOf (.ref i1) >>=_) _ _ _
 refine wpAny_bind (wpAny_nextOf_list_item (h1.extBut sa.extBut D.i1z) (hl1.extBut sa.extBut D.l1z) hx fun hb b1 sb=> wpAny_pure ?_)
 dsimp only
 refine wpAny_pure ?_
 dsimp only
 refine wpAny_bind (wpAny_bind (wpAny_holding ?_))
 show wpAny _ _ (Builtin.SmallTypes.nextOf (.ref i2) >>=_) _ _ _
 refine wpAny_bind (wpAny_nextOf_list_end hh ((h2.extBut sa.extBut D.i2z).extBut sb.extBut D.i12.symm) ((hl2.extBut sa.extBut D.l2z).extBut sb.extBut D.l2i1) hy fun hc e sc he=> ?_)
 exact hE hc e (fun c o n1 n2 n3 q=> sc _ _ n3 (sb.extBut _ _ n2 (sa.extBut _ _ n1 q))) he
theorem qu {z TI TO i1 i2 l1 l2 T:Addr} {b:Bool} {oT:Obj} {k1 k2:Nat} {xs ys:Array Value} {x y:Value} {Q:Option Value→Shared→Prop} (D:ZipApart z TI TO i1 i2 l1 l2)
  (hz:gI s.heap z TI TO T b) (hT:s.heap.get? T=some oT) (hTI:IsPair s.heap TI (.ref i1) (.ref i2))
  (h1:s.heap.IsListIter i1 l1 k1) (h2:s.heap.IsListIter i2 l2 k2) (hl1:s.heap.IsList l1 xs) (hl2:s.heap.IsList l2 ys) (hx:xs[k1]?=some x) (hy:ys[k2]?=some y)
  (hQ:∀ h',gI h' z TI TO T true→h'.IsListIter i1 l1 (k1+1)→h'.IsListIter i2 l2 (k2+1)→IsPair h' s.heap.objs.size x y→(∀ c o,c≠z→c≠i1→c≠i2→s.heap.get? c=some o→h'.get? c=some o)→Q (some (.ref s.heap.objs.size)) { s with heap:=h' }):
  wpAny (model prog w) A (pyNext (.ref z)) Q E s:=by
 have hty:s.TypeIs (.ref z) "zip":=⟨_,hz,rfl⟩
 unfold pyNext
 exact wpAny_bind (wpAny_attempt (wpAny_callSpecial?_slot (name:=Str.ofString "__next__") hty PySem.F.slot_zip_next
  (wpAny_call_entry PySem.F.slot_zip_next hty PySem.F.entry_zip_next (rK D hz hT hTI h1 h2 hl1 hl2 hx hy fun h' a1 a2 a3 a4 a5=> wpAny_pure (hQ h' a1 a2 a3 a4 a5)) (PySem.F.args_zip_next_1 _))))
theorem jK {z TI TO i1 i2 l1 l2 T:Addr} {b:Bool} {oT:Obj} {k1:Nat} {xs:Array Value} {Q:Option Value→Shared→Prop} (hh:A.handled=none) (D:ZipApart z TI TO i1 i2 l1 l2)
  (hz:gI s.heap z TI TO T b) (hT:s.heap.get? T=some oT) (hTI:IsPair s.heap TI (.ref i1) (.ref i2)) (h1:s.heap.IsListIter i1 l1 k1) (hl1:s.heap.IsList l1 xs) (hx:xs[k1]?=none)
  (hQ:∀ h',(∀ c o,c≠z→c≠i1→c≠i2→s.heap.get? c=some o→h'.get? c=some o)→Q none { s with heap:=h' }):wpAny (model prog w) A (pyNext (.ref z)) Q E s:=by
 have hty:s.TypeIs (.ref z) "zip":=⟨_,hz,rfl⟩
 unfold pyNext
 refine wpAny_bind (wpAny_attempt (wpAny_callSpecial?_slot (name:=Str.ofString "__next__") hty PySem.F.slot_zip_next
  (wpAny_call_entry PySem.F.slot_zip_next hty PySem.F.entry_zip_next (kU hh D hz hT hTI h1 hl1 hx fun h' e hk he=> ?_) (PySem.F.args_zip_next_1 _))))
 obtain ⟨o,ho,hc⟩:=he
 refine wpAny_bind (wpAny_isInstance (T:="StopIteration") (b:=true) ⟨o,ho,hc⟩ isSubtype_stop ?_)
 exact wpAny_pure (hQ h' hk)
theorem iS {z TI TO i1 i2 l1 l2 T:Addr} {b:Bool} {oT:Obj} {k1 k2:Nat} {xs ys:Array Value} {x:Value} {Q:Option Value→Shared→Prop} (hh:A.handled=none) (D:ZipApart z TI TO i1 i2 l1 l2)
  (hz:gI s.heap z TI TO T b) (hT:s.heap.get? T=some oT) (hTI:IsPair s.heap TI (.ref i1) (.ref i2)) (h1:s.heap.IsListIter i1 l1 k1) (h2:s.heap.IsListIter i2 l2 k2) (hl1:s.heap.IsList l1 xs) (hl2:s.heap.IsList l2 ys) (hx:xs[k1]?=some x) (hy:ys[k2]?=none)
  (hQ:∀ h',(∀ c o,c≠z→c≠i1→c≠i2→s.heap.get? c=some o→h'.get? c=some o)→Q none { s with heap:=h' }):wpAny (model prog w) A (pyNext (.ref z)) Q E s:=by
 have hty:s.TypeIs (.ref z) "zip":=⟨_,hz,rfl⟩
 unfold pyNext
 refine wpAny_bind (wpAny_attempt (wpAny_callSpecial?_slot (name:=Str.ofString "__next__") hty PySem.F.slot_zip_next
  (wpAny_call_entry PySem.F.slot_zip_next hty PySem.F.entry_zip_next (jO hh D hz hT hTI h1 h2 hl1 hl2 hx hy fun h' e hk he=> ?_) (PySem.F.args_zip_next_1 _))))
 obtain ⟨o,ho,hc⟩:=he
 refine wpAny_bind (wpAny_isInstance (T:="StopIteration") (b:=true) ⟨o,ho,hc⟩ isSubtype_stop ?_)
 exact wpAny_pure (hQ h' hk)
end
structure ZL (xs ys:Array Value) (z TI TO i1 i2 l1 l2 S:Addr) (h:Heap) (i:Nat) (ad:List Addr) (c:Nat):Prop where
 ti:IsPair h TI (.ref i1) (.ref i2)
 a1:h.IsListIter i1 l1 i
 a2:h.IsListIter i2 l2 i
 b1:h.IsList l1 xs
 b2:h.IsList l2 ys
 acc:h.get? S=some { cls:=.type "list",dict:=none,data:=.seq (ad.map Value.ref).toArray c,slots:=#[] }
 len:ad.length=i
 tup:∀ (j:Nat) (a:Addr),ad[j]?=some a→∃ x y,xs[j]?=some x∧ys[j]?=some y∧IsPair h a x y
 far:∀ a∈ad,a≠z∧a≠TO∧a≠i1∧a≠i2∧a≠S
 to:∃ o,h.get? TO=some o
 nd:ad.Nodup
 zz:(i=0∧IsZip h z TI TO .none∧∃ a b,IsPair h TO a b)∨(∃ b T,ad[0]?=some T∧gI h z TI TO T b)
section
variable {prog:Program} {w:World} {A:Around} {R:Result→Shared→Prop}
theorem ZL.put {xs ys:Array Value} {z TI TO i1 i2 l1 l2 S:Addr} {h h':Heap} {i:Nat} {ad:List Addr} {c:Nat} {a:Addr} {x y:Value} (Z:ZL xs ys z TI TO i1 i2 l1 l2 S h i ad c) (D:ZipApart z TI TO i1 i2 l1 l2)
  (hS:S≠z∧S≠TI∧S≠TO∧S≠i1∧S≠i2∧S≠l1∧S≠l2) (ha:a=h.objs.size) (hzlt:z < h.objs.size) (nto:∃ o,h'.get? TO=some o) (hx:xs[i]?=some x) (hy:ys[i]?=some y)
  (n1:h'.IsListIter i1 l1 (i+1)) (n2:h'.IsListIter i2 l2 (i+1)) (np:IsPair h' a x y) (nk:∀ c o,c≠z→c≠TO→c≠i1→c≠i2→h.get? c=some o→h'.get? c=some o)
  (nz:∃ b T,(ad++[a])[0]?=some T∧gI h' z TI TO T b):
  ∃ c',ZL xs ys z TI TO i1 i2 l1 l2 S (h'.update S (Obj.mapSeq (·.push (.ref a)))) (i+1) (ad++[a]) c':=by
 obtain ⟨s1,s2,s3,s4,s5,s6,s7⟩:=hS
 have gS:h'.get? S=some { cls:=.type "list",dict:=none,data:=.seq (ad.map Value.ref).toArray c,slots:=#[] }:=nk S _ s1 s3 s4 s5 Z.acc
 have oth:∀ b o,b≠S→h'.get? b=some o→(h'.update S (Obj.mapSeq (·.push (.ref a)))).get? b=some o:=fun b o hb e=> (Heap.get?_update_other _ _ (Ne.symm hb)).trans e
 have hlt:∀ b o,h.get? b=some o→b≠a:=fun b o e z=> by rw [z,ha] at e; exact Nat.lt_irrefl _ (Heap.lt_size e)
 have aS:a≠S:=fun e=> hlt S _ Z.acc e.symm
 have ai1:a≠i1:=by obtain ⟨o,e,_⟩:=Z.a1; exact fun q=> hlt i1 o e q.symm
 have ai2:a≠i2:=by obtain ⟨o,e,_⟩:=Z.a2; exact fun q=> hlt i2 o e q.symm
 have az:a≠z:=by rw [ha]; exact Nat.ne_of_gt hzlt
 have aTO:a≠TO:=by obtain ⟨o,e⟩:=Z.to; exact fun q=> hlt TO o e q.symm
 obtain ⟨c',gS'⟩:∃ c',(h'.update S (Obj.mapSeq (·.push (.ref a)))).get? S=some { cls:=.type "list",dict:=none,data:=.seq ((ad.map Value.ref).toArray.push (.ref a)) c',slots:=#[] }:=⟨_,PyProof.Rows.get?_update_seq gS (·.push (.ref a))⟩
 refine ⟨c',⟨oth _ _ s2.symm (nk TI _ D.TIz D.TITO D.TIi1 D.TIi2 Z.ti),n1.at fun o e=> oth _ o s4.symm e,n2.at fun o e=> oth _ o s5.symm e,?_,?_,?_,by rw [List.length_append,Z.len]; rfl,?_,?_,?_,?_,?_⟩⟩
 ·exact (Z.b1.at fun o e=> nk l1 o D.l1z D.l1TO D.l1i1 D.l1i2 e).at fun o e=> oth _ o s6.symm e
 ·exact (Z.b2.at fun o e=> nk l2 o D.l2z D.l2TO D.l2i1 D.l2i2 e).at fun o e=> oth _ o s7.symm e
 ·rw [gS']; simp
 ·intro j b hj
  rcases Nat.lt_or_ge j ad.length with q | q
  ·rw [List.getElem?_append_left q] at hj
   obtain ⟨x',y',e1,e2,e3⟩:=Z.tup j b hj
   obtain ⟨f1,f2,f3,f4,f5⟩:=Z.far b (List.mem_of_getElem? hj)
   exact ⟨x',y',e1,e2,oth _ _ f5 (nk b _ f1 f2 f3 f4 e3)⟩
  ·rw [List.getElem?_append_right q] at hj
   have hj0:j=i:=by
    have:=(List.getElem?_eq_some_iff.mp hj).1
    simp at this; rw [Z.len] at *; omega
   subst hj0
   rw [Z.len,Nat.sub_self] at hj
   cases hj
   exact ⟨x,y,hx,hy,oth _ _ aS np⟩
 ·intro b hb
  rcases List.mem_append.mp hb with q | q
  ·exact Z.far b q
  ·rw [List.mem_singleton.mp q]; exact ⟨az,aTO,ai1,ai2,aS⟩
 ·obtain ⟨o,e⟩:=nto; exact ⟨o,oth _ _ s3.symm e⟩
 ·rw [List.nodup_append]
  refine ⟨Z.nd,by simp,fun p hp q hq=> ?_⟩
  rw [List.mem_singleton.mp hq]
  obtain ⟨j,hj⟩:=List.mem_iff_getElem?.mp hp
  obtain ⟨_,_,_,_,e⟩:=Z.tup j p hj
  exact hlt p _ e
 ·obtain ⟨b,T,e1,e2⟩:=nz
  exact .inr ⟨b,T,e1,oth _ _ s1.symm e2⟩
end
end ST
namespace ST
open PySem
section
variable {prog:Program} {w:World} {A:Around} {R:Result→Shared→Prop}
structure ZF (xs ys:Array Value) (S:Addr) (h:Heap) (ad:List Addr) (c:Nat):Prop where
 acc:h.get? S=some { cls:=.type "list",dict:=none,data:=.seq (ad.map Value.ref).toArray c,slots:=#[] }
 len:ad.length=ys.size
 tup:∀ (j:Nat) (a:Addr),ad[j]?=some a→∃ x y,xs[j]?=some x∧ys[j]?=some y∧IsPair h a x y
 ne:∀ a∈ad,a≠S
 nd:ad.Nodup
set_option maxHeartbeats 1000000 in
theorem mR (hh:A.in1.handled=none) {xs ys:Array Value} {z TI TO i1 i2 l1 l2 S:Addr} (D:ZipApart z TI TO i1 i2 l1 l2) (hS:S≠z∧S≠TI∧S≠TO∧S≠i1∧S≠i2∧S≠l1∧S≠l2) (hxy:ys.size≤xs.size) (hn:xs.size≤1000) (res:Value):
  ∀ (k i:Nat) (s:Shared) (ad:List Addr) (c:Nat),ys.size - i=k→i≤ys.size→ZL xs ys z TI TO i1 i2 l1 l2 S s.heap i ad c→
   (∀ h' ad' c',ZF xs ys S h' ad' c'→(∀ b o,b≠z→b≠TO→b≠i1→b≠i2→b≠S→s.heap.get? b=some o→h'.get? b=some o)→(∀ a∈ad',a∈ad∨s.heap.get? a=none)→R (.ok (.ret res)) { s with heap:=h' })→
   codeAny (model prog w) A (.builtin "list.extend.loop" ⟨[.ref S,.ref z,res],[]⟩) R s:=by
 intro k
 induction k with
 | zero=>
  intro i s ad c hk hi Z hR
  obtain rfl:i=ys.size:=by omega
  refine codeAny_builtin PySem.F.entry_extend_loop ?_
  rw [Around.under_plainId PySem.F.plain_extend_loop _]
  show wpAny _ A.in1 (pyNext (.ref z) >>=_) _ _ s
  have fin:∀ h',(∀ b o,b≠z→b≠TO→b≠i1→b≠i2→s.heap.get? b=some o→h'.get? b=some o)→R (.ok (.ret res)) { s with heap:=h' }:=fun h' kp=>
   hR h' ad c ⟨kp S _ hS.1 hS.2.2.1 hS.2.2.2.1 hS.2.2.2.2.1 Z.acc,Z.len,fun j a e=> by
    obtain ⟨x,y,e1,e2,e3⟩:=Z.tup j a e
    obtain ⟨f1,f2,f3,f4,f5⟩:=Z.far a (List.mem_of_getElem? e)
    exact ⟨x,y,e1,e2,kp a _ f1 f2 f3 f4 e3⟩,fun a ha=> (Z.far a ha).2.2.2.2,Z.nd⟩ (fun b o n1 n2 n3 n4 _ e=> kp b o n1 n2 n3 n4 e) fun a ha=> .inl ha
  rcases Z.zz with ⟨h0,hz,a,b,hTO⟩ | ⟨b,T,hT,hz⟩
  ·refine wpAny_bind (wpAny_pyNext_zip_end hh D hz Z.ti hTO Z.a1 Z.a2 Z.b1 Z.b2 (.inr (by simp)) fun h' kp=> ?_)
   exact wpAny_pure (fin h' kp)
  ·obtain ⟨x,y,_,_,hp⟩:=Z.tup 0 T hT
   by_cases hq:ys.size < xs.size
   ·refine wpAny_bind (iS hh D hz hp Z.ti Z.a1 Z.a2 Z.b1 Z.b2 (Array.getElem?_eq_getElem hq) (by simp) fun h' kp=> ?_)
    exact wpAny_pure (fin h' fun b o n1 _ n3 n4 e=> kp b o n1 n3 n4 e)
   ·refine wpAny_bind (jK hh D hz hp Z.ti Z.a1 Z.b1 (Array.getElem?_eq_none (by omega)) fun h' kp=> ?_)
    exact wpAny_pure (fin h' fun b o n1 _ n3 n4 e=> kp b o n1 n3 n4 e)
 | succ k ih=>
  intro i s ad c hk hi Z hR
  have hlt:i < xs.size:=by omega
  have hly:i+1≤ys.size:=by omega
  have hx:xs[i]?=some xs[i]:=Array.getElem?_eq_getElem hlt
  have hy:ys[i]?=some (ys[i]'(by omega)):=Array.getElem?_eq_getElem (by omega)
  refine codeAny_builtin PySem.F.entry_extend_loop ?_
  rw [Around.under_plainId PySem.F.plain_extend_loop _]
  show wpAny _ A.in1 (pyNext (.ref z) >>=_) _ _ s
  have go:∀ h',(∃ b T,(ad++[s.heap.objs.size])[0]?=some T∧gI h' z TI TO T b)→(∃ o,h'.get? TO=some o)→h'.IsListIter i1 l1 (i+1)→h'.IsListIter i2 l2 (i+1)→IsPair h' s.heap.objs.size xs[i] (ys[i]'(by omega))→
    (∀ b o,b≠z→b≠TO→b≠i1→b≠i2→s.heap.get? b=some o→h'.get? b=some o)→
    wpAny (model prog w) A.in1 (updateSeq S (·.push (.ref s.heap.objs.size)) >>=fun _=> again (.builtin "list.extend.loop" ⟨[.ref S,.ref z,res],[]⟩))
     (fun fin s'=> match fin with | .done f=> R (.ok f) s' | .again c'=> c'.quiet=true∧codeAny (model prog w) A c' R s') (fun e s'=> R (.error e) s') { s with heap:=h' }:=fun h' nz nto n1 n2 np nk=> by
   have gS:h'.get? S=some { cls:=.type "list",dict:=none,data:=.seq (ad.map Value.ref).toArray c,slots:=#[] }:=nk S _ hS.1 hS.2.2.1 hS.2.2.2.1 hS.2.2.2.2.1 Z.acc
   have hzlt:z < s.heap.objs.size:=by
    rcases Z.zz with ⟨_,hz,_⟩ | ⟨_,_,_,hz⟩ <;> exact Heap.lt_size hz
   obtain ⟨c',Z'⟩:=Z.put D hS rfl hzlt nto hx hy n1 n2 np nk nz
   have hal:((ad.map Value.ref).toArray).size=i:=by simp [Z.len]
   refine wpAny_bind (wpAny_updateSeq (s:={ s with heap:=h' }) gS rfl (wpAny_pure ⟨plainId_quiet PySem.F.plain_extend_loop _,ih (i+1) _ (ad++[s.heap.objs.size]) c' (by omega) hly Z' fun h2 ad2 c2 F kp fr=> ?_⟩) (by rw [hal,sizeLine_eq]; omega) (by rw [Array.size_push,hal,sizeLine_eq]; omega))
   refine hR h2 ad2 c2 F (fun b o m1 m2 m3 m4 m5 e=> kp b o m1 m2 m3 m4 m5 ((Heap.get?_update_other _ _ (Ne.symm m5)).trans (nk b o m1 m2 m3 m4 e))) fun a ha=> ?_
   rcases fr a ha with q | q
   ·rcases List.mem_append.mp q with q | q
    ·exact .inl q
    ·right; rw [List.mem_singleton.mp q]; exact Heap.get?_none_of_le (Nat.le_refl _)
   ·right
    cases hq:s.heap.get? a with
    | none=> rfl
    | some o=>
     exfalso
     by_cases e1:a=S
     ·subst e1; exact F.ne a ha rfl
     ·have q':h'.get? a=none:=by
       have:=q
       rw [Heap.get?_update_other _ _ (Ne.symm e1)] at this
       exact this
      by_cases f1:a=z
      ·obtain ⟨_,_,_,e⟩:=nz; rw [f1,e] at q'; cases q'
      ·by_cases f2:a=TO
       ·obtain ⟨o',e⟩:=nto; rw [f2,e] at q'; cases q'
       ·by_cases f3:a=i1
        ·obtain ⟨o',e,_⟩:=n1; rw [f3,e] at q'; cases q'
        ·by_cases f4:a=i2
         ·obtain ⟨o',e,_⟩:=n2; rw [f4,e] at q'; cases q'
         ·rw [nk a o f1 f2 f3 f4 hq] at q'; cases q'
  rcases Z.zz with ⟨h0,hz,a,b,hTO⟩ | ⟨b,T,hT,hz⟩
  ·subst h0
   have had:ad=[]:=List.length_eq_zero_iff.mp Z.len
   refine wpAny_bind (wpAny_pyNext_zip_item D hz Z.ti hTO Z.a1 Z.a2 Z.b1 Z.b2 hx hy fun h' m1 m2 m3 m4 m5 _ kp=> ?_)
   exact go h' ⟨false,_,by rw [had]; rfl,m1⟩ ⟨_,m2⟩ m3 m4 m5 kp
  ·obtain ⟨x,y,_,_,hp⟩:=Z.tup 0 T hT
   refine wpAny_bind (qu D hz hp Z.ti Z.a1 Z.a2 Z.b1 Z.b2 hx hy fun h' m1 m3 m4 m5 kp=> ?_)
   refine go h' ⟨true,T,?_,m1⟩ ?_ m3 m4 m5 fun b o n1 _ n3 n4 e=> kp b o n1 n3 n4 e
   ·rw [List.getElem?_append_left (List.getElem?_eq_some_iff.mp hT).1]; exact hT
   ·obtain ⟨o,e⟩:=Z.to; exact ⟨o,kp TO o D.TOz D.TOi1 D.TOi2 e⟩
end
end ST
namespace ST
open PySem
theorem ut:typeLookup (.type "zip") "__len__"=pure none:=by rw [typeLookup_type,builtinLookup_eq_fast]; kernel_rfl
theorem sS:typeLookup (.type "zip") "__length_hint__"=pure none:=by rw [typeLookup_type,builtinLookup_eq_fast]; kernel_rfl
theorem r8 (prog:Program) (w:World):rO prog w "zip":=fun A E s r Q hT h=> by
 unfold Builtin.List.listLengthHint
 refine wpAny_bind (wpAny_specialOf hT ut ?_)
 show wpAny _ A (specialOf (Value.ref r) (Str.ofString "__length_hint__") >>=_) _ _ _
 refine wpAny_bind (wpAny_specialOf hT sS ?_)
 exact wpAny_pure (h _)
section
variable {prog:Program} {w:World} {A:Around} {E:Value→Shared→Prop} {s:Shared}
theorem rJ {z TI TO:Addr} {f:Value} {Q:Value→Shared→Prop} (hz:IsZip s.heap z TI TO f) (h:Q (.ref z) s):wpAny (model prog w) A (pyIter (.ref z)) Q E s:=by
 have hT:s.TypeIs (.ref z) "zip":=⟨_,hz,rfl⟩
 refine wpAny_pyIter_slot hT PySem.F.slot_zip_iter (wpAny_call_entry PySem.F.slot_zip_iter hT PySem.F.entry_zip_iter ?_ (PySem.F.args_zip_iter_1 _))
 exact wpAny_pure ⟨_,rfl,"zip",_,hT,PySem.F.slot_zip_next.lookup,h⟩
end
section
variable {prog:Program} {w:World} {A:Around} {R:Result→Shared→Prop} {s:Shared}
theorem og (hh:A.in1.handled=none) {xs ys:Array Value} {z TI TO i1 i2 l1 l2 S:Addr} (D:ZipApart z TI TO i1 i2 l1 l2) (hS:S≠z∧S≠TI∧S≠TO∧S≠i1∧S≠i2∧S≠l1∧S≠l2) (hxy:ys.size≤xs.size) (hn:xs.size≤1000) (res:Value) {c₀:Nat}
  (hz:IsZip s.heap z TI TO .none) (Z:∀ h',(∀ b o,b≠S→s.heap.get? b=some o→h'.get? b=some o)→∀ c,h'.get? S=some { cls:=.type "list",dict:=none,data:=.seq #[] c,slots:=#[] }→ZL xs ys z TI TO i1 i2 l1 l2 S h' 0 [] c)
  (gS:s.heap.get? S=some { cls:=.type "list",data:=.seq #[] c₀ })
  (hR:∀ h' ad' c',ZF xs ys S h' ad' c'→(∀ b o,b≠z→b≠TO→b≠i1→b≠i2→b≠S→s.heap.get? b=some o→h'.get? b=some o)→(∀ a∈ad',s.heap.get? a=none)→R (.ok (.ret res)) { s with heap:=h' }):
  wpAny (model prog w) A.in1 (Builtin.List.listExtendWith (.ref S) (.ref z) res)
   (fun fin s'=> match fin with | .done f=> R (.ok f) s' | .again c'=> c'.quiet=true∧codeAny (model prog w) A c' R s') (fun e s'=> R (.error e) s') s:=by
 have hT:s.TypeIs (.ref z) "zip":=⟨_,hz,rfl⟩
 unfold Builtin.List.listExtendWith
 refine wpAny_bind (wpAny_typeOf hT ?_)
 have k1:Builtin.List.listSameRef (.ref S) (.ref z)=false:=by simp [Builtin.List.listSameRef,hS.1]
 have k2:(Value.type "zip"==Value.type "list")=false:=by decide
 have k3:(Value.type "zip"==Value.type "tuple")=false:=by decide
 simp only [k1,k2,k3,Bool.or_false,Bool.false_eq_true,if_false]
 refine wpAny_bind (rJ hz (wpAny_bind (wpAny_holding (r8 prog w _ _ _ _ _ hT fun b=> ?_))))
 refine wpAny_ite_split (fun _=> ?_) (fun _=> ?_)
 ·refine wpAny_bind (wpAny_rule (wpAny_bind ?_))
  show wpAny _ A.in1 (updateSeq S (·.push .none) >>=fun _=> updateSeq S (·.pop)) _ _ _
  refine wpAny_bind (wpAny_updateSeq gS rfl ?_)
  have g2:=Heap.get?_update_self (Obj.mapSeq (·.push Value.none)) gS rfl
  refine wpAny_updateSeq (hz:=by seq_fits) g2 rfl ?_
  have g3:=Heap.get?_update_self (Obj.mapSeq (·.pop)) g2 rfl
  have oth:∀ b o,b≠S→s.heap.get? b=some o→((s.heap.update S (Obj.mapSeq (·.push Value.none))).update S (Obj.mapSeq (·.pop))).get? b=some o:=fun b o hb e=> (Heap.get?_update_other _ _ (Ne.symm hb)).trans ((Heap.get?_update_other _ _ (Ne.symm hb)).trans e)
  refine wpAny_pure ⟨plainId_quiet PySem.F.plain_extend_loop _,mR (s:={ s with heap:=(s.heap.update S (Obj.mapSeq (·.push Value.none))).update S (Obj.mapSeq (·.pop)) }) hh D hS hxy hn res _ 0 [] _ rfl (Nat.zero_le _) (Z _ oth _ g3) fun h' ad' c' F kp fr=> ?_⟩
  refine hR h' ad' c' F (fun b o m1 m2 m3 m4 m5 e=> kp b o m1 m2 m3 m4 m5 (oth b o m5 e)) fun a ha=> ?_
  rcases fr a ha with q | q
  ·simp at q
  ·cases hq:s.heap.get? a with
   | none=> rfl
   | some o=>
    have e:=oth a o (F.ne a ha) hq
    rw [e] at q; cases q
 ·refine wpAny_pure ⟨plainId_quiet PySem.F.plain_extend_loop _,mR hh D hS hxy hn res _ 0 _ [] _ rfl (Nat.zero_le _) (Z _ (fun _ _ _ e=> e) _ gS) fun h' ad' c' F kp fr=> ?_⟩
  exact hR h' ad' c' F kp fun a ha=> (fr a ha).resolve_left (by simp)
end
section
variable {prog:Program} {w:World} {A:Around} {E:Value→Shared→Prop} {s:Shared}
set_option maxHeartbeats 1000000 in
theorem call_list_zip {Q:Value→Shared→Prop} (hh:A.handled=none) {xs ys:Array Value} {z TI TO i1 i2 l1 l2:Addr} (D:ZipApart z TI TO i1 i2 l1 l2) (hxy:ys.size≤xs.size) (hn:xs.size≤1000)
  (hz:IsZip s.heap z TI TO .none) (hTI:IsPair s.heap TI (.ref i1) (.ref i2)) {a b:Value} (hTO:IsPair s.heap TO a b) (h1:s.heap.IsListIter i1 l1 0) (h2:s.heap.IsListIter i2 l2 0) (hl1:s.heap.IsList l1 xs) (hl2:s.heap.IsList l2 ys)
  (hQ:∀ h' ad' c',ZF xs ys s.heap.objs.size h' ad' c'→(∀ b o,b≠z→b≠TO→b≠i1→b≠i2→s.heap.get? b=some o→h'.get? b=some o)→(∀ a∈ad',s.heap.get? a=none)→Q (.ref s.heap.objs.size) { s with heap:=h' }):
  wpAny (model prog w) A (call (.type "list") [.ref z]) Q E s:=by
 refine callType_codes (Q₁:=fun obj s₁=> obj=.ref s.heap.objs.size∧s₁={ s with heap:=s.heap.push { cls:=.type "list",data:=.seq #[] } }) PySem.F.called_list (PySem.F.typeCall_list_1 _) PySem.F.entry_list_init (code_list_new _ ⟨rfl,rfl⟩) fun obj s₁ h₁=> ?_
 obtain ⟨rfl,rfl⟩:=h₁
 generalize hSd:s.heap.objs.size=S at *
 have lt:∀ c o,s.heap.get? c=some o→S≠c:=fun c o e q=> by rw [← q,← hSd] at e; exact Nat.lt_irrefl _ (Heap.lt_size e)
 have gS:(s.heap.push { cls:=.type "list",data:=.seq #[] }).get? S=some { cls:=.type "list",data:=.seq #[] }:=by rw [← hSd]; exact Heap.get?_push_size _ rfl
 have up:∀ b o,s.heap.get? b=some o→(s.heap.push { cls:=.type "list",data:=.seq #[] }).get? b=some o:=fun b o e=> Heap.get?_push_of_some _ e
 have hS:S≠z∧S≠TI∧S≠TO∧S≠i1∧S≠i2∧S≠l1∧S≠l2:=⟨lt _ _ hz,lt _ _ hTI,lt _ _ hTO,by obtain ⟨o,e,_⟩:=h1; exact lt _ _ e,by obtain ⟨o,e,_⟩:=h2; exact lt _ _ e,by obtain ⟨o,e,_⟩:=hl1; exact lt _ _ e,by obtain ⟨o,e,_⟩:=hl2; exact lt _ _ e⟩
 refine ⟨⟨_,gS,rfl⟩,PySem.F.args_list_init_2 _ _,?_⟩
 show wpAny _ A.in1.in1 (Builtin.List.listItems (.ref S) >>=fun old=> Builtin.List.listUpdate (.ref S) (fun _=> #[]) >>=fun _=> letGo old.toList.reverse >>=fun _=> Builtin.List.listExtendWith (.ref S) (.ref z) .none) _ _ _
 refine wpAny_bind ?_
 unfold Builtin.List.listItems
 refine wpAny_bind (wpAny_seqItems gS rfl (wpAny_pure ?_))
 show wpAny _ A.in1.in1 (updateSeq S (fun _=> #[]) >>=fun _=> letGo (#[]:Array Value).toList.reverse >>=fun _=> Builtin.List.listExtendWith (.ref S) (.ref z) .none) _ _ _
 refine wpAny_bind (wpAny_updateSeq gS rfl ?_)
 have g2:=Heap.get?_update_self (Obj.mapSeq (fun _=> (#[]:Array Value))) gS rfl
 have oth:∀ b o,b≠S→s.heap.get? b=some o→((s.heap.push { cls:=.type "list",data:=.seq #[] }).update S (Obj.mapSeq (fun _=> (#[]:Array Value)))).get? b=some o:=fun b o hb e=> (Heap.get?_update_other _ _ (Ne.symm hb)).trans (up b o e)
 refine wpAny_bind (wpAny_letGo ?_)
 refine og (A:=A.in1) (s:={ s with heap:=(s.heap.push { cls:=.type "list",data:=.seq #[] }).update S (Obj.mapSeq (fun _=> (#[]:Array Value))) }) hh D hS hxy hn .none (oth _ _ hS.1.symm hz) (fun h' kp c e=> ?_) g2 fun h' ad' c' F kp fr=> ?_
 ·have k:∀ b o,b≠S→s.heap.get? b=some o→h'.get? b=some o:=fun b o hb e=> kp b o hb (oth b o hb e)
  exact ⟨k _ _ hS.2.1.symm hTI,h1.at fun o e=> k _ o hS.2.2.2.1.symm e,h2.at fun o e=> k _ o hS.2.2.2.2.1.symm e,hl1.at fun o e=> k _ o hS.2.2.2.2.2.1.symm e,hl2.at fun o e=> k _ o hS.2.2.2.2.2.2.symm e,e,rfl,fun j a e=> by simp at e,fun a ha=> by simp at ha,⟨_,k _ _ hS.2.2.1.symm hTO⟩,List.nodup_nil,.inl ⟨rfl,k _ _ hS.1.symm hz,a,b,k _ _ hS.2.2.1.symm hTO⟩⟩
 ·refine ⟨rfl,hQ h' ad' c' F (fun b o m1 m2 m3 m4 e=> kp b o m1 m2 m3 m4 (fun q=> lt b o e q.symm) (oth b o (fun q=> lt b o e q.symm) e)) fun a ha=> ?_⟩
  cases hq:s.heap.get? a with
  | none=> rfl
  | some o=>
   have e:=oth a o (F.ne a ha) hq
   have q:=fr a ha
   rw [show ({ s with heap:=(s.heap.push { cls:=.type "list",data:=.seq #[] }).update S (Obj.mapSeq (fun _=> (#[]:Array Value))) }:Shared).heap.get? a=some o from e] at q
   cases q
end
end ST
namespace L2
open PySem PySem.Spec PyProof.Rows
theorem sK {a b:Nat} (h:a < b∨b < a):@Ne Addr a b:=fun e=> by
 have e':a=b:=e
 omega
theorem t5:bootBuiltins "zip"=some (.type "zip"):=by decide+kernel
section
variable {P:Program} {w:World} {H:Hp} {h:Heap} {a:Addr} {o:HO}
theorem gA (x:cC P w H h a o):∃ ob,h.get? a=some ob:=by
 cases o with
 | lst xs=> obtain ⟨_,_,_,_,e⟩:=x; exact ⟨_,e⟩
 | tup xs=> obtain ⟨_,_,_,ob,e,_⟩:=x; exact ⟨_,e⟩
 | dK kvs=> obtain ⟨_,_,_,_,o,_,_,e,_⟩:=x; exact ⟨_,e⟩
 | dT kvs=> obtain ⟨_,_,_,_,o,_,_,e,_⟩:=x; exact ⟨_,e⟩
 | set S n=> obtain ⟨o,_,_,_,e,_⟩:=x; exact ⟨_,e⟩
 | ins C dx fs=> obtain ⟨_,_,_,e,_⟩:=x; exact ⟨_,e⟩
 | own y=> exact x
 | xd fs=> obtain ⟨_,⟨_,_,_,e,_⟩,_⟩:=x; exact ⟨_,e⟩
 | rng lo hi=> obtain ⟨_,_,_,e⟩:=x; exact ⟨_,e⟩
 | frz ob u=> obtain ⟨e,_⟩:=x; exact ⟨_,e⟩
 | tbl ps=> exact ⟨_,(show h.get? a=some _ from x)⟩
 | met f y=> exact ⟨_,(show h.get? a=some _ from x)⟩
 | ext φ=> exact x.2.1
end
theorem uZ {X:Cx} {pins:List (Addr×Obj)} {σ:List (Option V)} {H H':Hp} {s:Shared} {h':Heap} {t':Nat} (I:Inv X pins σ H s) (k:∀ b u,s.heap.get? b=some u→h'.get? b=some u)
  (old:∀ b u,s.heap.get? b=some u→H' b=H b) (new:∀ b o,s.heap.get? b=none→H' b=some o→cC X.prog X.w H' h' b o):Inv X pins σ H' { s with heap:=h',toks:=t' }:=by
 have at':∀ b o,H b=some o→H' b=some o:=fun b o e=> let ⟨ob,q⟩:=gA (I.hok b o e); (old b ob q).trans e
 refine I.un ⟨fun b u q _ _ _=> k b u q,fun b u q _ _ _=> ⟨u.slots,k b u q⟩,fun b u q n _=> (old b u q).trans n,fun b u q _=> ⟨u,k b u q⟩,fun b xs q=> at' b _ q,fun b u xs q=> at' b _ q,fun b ps q=> ⟨#[],by rw [at' b _ q]; simp⟩⟩ fun b u e=> ?_
 cases hb:s.heap.get? b with
 | some ob=>
  rw [old b ob hb] at e
  exact (I.hok b u e).stay (fun c v _ q=> k c v q) (fun c q=> at' c _ q) fun c xs q=> at' c _ q
 | none=> exact new b u hb e
def jv (H:Hp):List Addr→List (List V)→Hp
 | [],_=> H
 | a::as,ps=> match ps with
  | []=> H
  | p::ps=> upd (jv H as ps) a (.tup p)
theorem lX {H:Hp}:∀ {as:List Addr} {ps:List (List V)} {b:Addr},b ∉ as→jv H as ps b=H b
 | [],_,_,_=> rfl
 | a::as,[],_,_=> rfl
 | a::as,p::ps,b,h=> by
  show upd (jv H as ps) a (.tup p) b=H b
  rw [aY fun z=> h (by rw [z]; exact List.mem_cons_self)]
  exact lX fun z=> h (List.mem_cons_of_mem _ z)
theorem pJ {H:Hp}:∀ {as:List Addr} {ps:List (List V)} {j:Nat} {a:Addr} {p:List V},as.Nodup→as[j]?=some a→ps[j]?=some p→jv H as ps a=some (.tup p)
 | [],_,j,_,_,_,e,_=> by simp at e
 | _::_,[],j,_,_,_,_,e=> by simp at e
 | b::as,q::ps,0,a,p,_,e1,e2=> by
  simp at e1 e2
  subst e1; subst e2
  exact aM
 | b::as,q::ps,j+1,a,p,nd,e1,e2=> by
  show upd (jv H as ps) b (.tup q) a=_
  rw [List.getElem?_cons_succ] at e1 e2
  have nd':=List.nodup_cons.mp nd
  rw [aY fun z=> nd'.1 (by rw [← z]; exact List.mem_of_getElem? e1)]
  exact pJ nd'.2 e1 e2
theorem lN {H:Hp}:∀ {as:List Addr} {ps:List (List V)} {b:Addr} {o:HO},jv H as ps b=some o→H b=some o∨∃ (j:Nat) (p:List V),as[j]?=some b∧ps[j]?=some p∧o=.tup p
 | [],_,_,_,e=> .inl e
 | _::_,[],_,_,e=> .inl e
 | a::as,p::ps,b,o,e=> by
  have e':upd (jv H as ps) a (.tup p) b=some o:=e
  by_cases hb:b=a
  ·subst hb
   rw [aM] at e'
   cases e'
   exact .inr ⟨0,p,rfl,rfl,rfl⟩
  ·rw [aY hb] at e'
   rcases lN e' with z | ⟨j,q,e1,e2,e3⟩
   ·exact .inl z
   ·exact .inr ⟨j+1,q,by simpa using e1,by simpa using e2,e3⟩
theorem ki:∀ (ad:List Addr),aR (ad.map V.ref) (ad.map Value.ref)
 | []=> .nil
 | _::ad=> .cons rfl (ki ad)
section
variable {X:Cx} {H0:Hp} {O0:List Addr} {ps:PSt} {e f:Expr} {x y:U} {xs ys:List U} {pos pos' p p':Pos}
set_option maxHeartbeats 1000000 in
theorem oy (hc:X.calm=true) (hg:Gl X "list") (hm:X.mg "list"=none) (hgz:Gl X "zip") (hmz:X.mg "zip"=none) (ha:Ev X H0 O0 ps e x) (hx:x=.lst xs∨x=.scr xs) (hb:Ev X H0 O0 ps f y) (hy:y=.lst ys∨y=.scr ys) (hl:ys.length≤xs.length) (hn:xs.length≤1000)
  (he:starEach [e,f] X.env=(false,eval e X.env)::starEach [f] X.env:=by rfl) (hf:starEach [f] X.env=(false,eval f X.env)::starEach [] X.env:=by rfl):
  EvN X H0 O0 ps (.Call (.Name "list" p) [.Call (.Name "zip" p') [e,f] [] pos'] [] pos) (List.zipWith (fun a b=> U.tup [a,b]) xs ys):=by
 rintro pins s σ H Q I ⟨O,R,q⟩
 have hh:X.A.handled=none:=I.ok.hd hc
 refine wpAny_Call_Name_kw (dX I hg hm boot_list ?_)
 refine callWith_type1 (e:=.Call (.Name "zip" p') [e,f] [] pos') (rest:=[]) ?_ bp rfl
 rw [bp]
 show wpAny _ _ (spliced ((false,eval (.Call (.Name "zip" p') [e,f] [] pos') X.env)::backTo pos (starEach [] X.env))) _ _ s
 refine Calls.spliced_cons ?_
 refine wpAny_Call_Name_kw (dX I hgz hmz t5 ?_)
 refine callWith_type1 (thn (cI ha (cI hb dY hf) he pos' pins s σ H (fun vs H1=> ∃ v u,vs=[v,u]∧aJ H H1∧Rp X.K (hid H1 O) v x∧Rp X.K (hid H1 O) u y) I ⟨O,R,fun v H1 s1 r1=> ⟨O,R.go s1,fun u H2 s2 r2=> ⟨v,u,rfl,s1.trans s2,r1.same (bw s2),r2⟩⟩⟩) fun us s1 hx'=> ?_) he (by rw [hf]; rfl)
 obtain ⟨vs,H1,I1,rv,v,u,rfl,sm,rp1,rp2⟩:=hx'
 obtain ⟨w1,w2,rfl,ru1,ru2⟩:=j7 rv
 obtain ⟨a,va,rfl,hq1,rs1⟩:=uv rp1 hx
 obtain ⟨b,vb,rfl,hq2,rs2⟩:=uv rp2 hy
 cases ru1
 cases ru2
 obtain ⟨ia,ra,pl1,hz1⟩:=I1.list (aF.seq hq1)
 obtain ⟨ib,rb,pl2,hz2⟩:=I1.list (aF.seq hq2)
 have la:=ra.length
 have lb:=rb.length
 have l1:=rs1.len
 have l2:=rs2.len
 have al:@LT.lt Nat instLTNat a s1.heap.objs.size:=by obtain ⟨o,ho,_⟩:=pl1.isList; exact Heap.lt_size ho
 have bl:@LT.lt Nat instLTNat b s1.heap.objs.size:=by obtain ⟨o,ho,_⟩:=pl2.isList; exact Heap.lt_size ho
 refine PySem.call_zip_2 pl1.isList pl2.isList fun h' z1 z2 z3 z4 z5 z6 z7=> ?_
 refine Calls.spliced_nil ?_
 have D:ZipApart (s1.heap.objs.size+4) (s1.heap.objs.size+2) (s1.heap.objs.size+3) s1.heap.objs.size (s1.heap.objs.size+1) a b:=by constructor <;> exact sK (by omega)
 have sxy:ib.toArray.size≤ia.toArray.size:=by simp; omega
 have sx:ia.toArray.size≤1000:=by simp; omega
 refine ST.call_list_zip (s:={ s1 with heap:=h' }) hh D sxy sx z1 z2 z3 z4 z5 (pl1.isList.at fun o e=> z7 _ o e) (pl2.isList.at fun o e=> z7 _ o e) fun h3 ad c F kp fr=> ?_
 have lD:s1.heap.objs.size≤({ s1 with heap:=h' }:Shared).heap.objs.size:=by show _≤h'.objs.size; omega
 generalize ({ s1 with heap:=h' }:Shared).heap.objs.size=D0 at *
 have keep:∀ b o,s1.heap.get? b=some o→h3.get? b=some o:=fun b o e=> by
  have this:@LT.lt Nat instLTNat b s1.heap.objs.size:=Heap.lt_size e
  exact kp b o (sK (by omega)) (sK (by omega)) (sK (by omega)) (sK (by omega)) (z7 b o e)
 have fr':∀ a∈ad,s1.heap.get? a=none:=fun a ha=> by
  cases hq:s1.heap.get? a with
  | none=> rfl
  | some o=>
   have q1:=fr a ha
   rw [show ({ s1 with heap:=h' }:Shared).heap.get? a=some o from z7 a o hq] at q1
   cases q1
 have frD:s1.heap.get? D0=none:=Heap.get?_none_of_le lD
 have nH:∀ a,s1.heap.get? a=none→H1 a=none:=fun a e=> by
  cases hq:H1 a with
  | none=> rfl
  | some o=>
   obtain ⟨ob,z⟩:=gA (I1.hok a o hq)
   rw [e] at z; cases z
 generalize hP:List.zipWith (fun x y:V=> [x,y]) va vb=PS
 have old:∀ b u,s1.heap.get? b=some u→upd (jv H1 ad PS) D0 (.lst (ad.map V.ref)) b=H1 b:=fun b u e=> by
  rw [aY fun z=> by rw [z,frD] at e; cases e]
  exact lX fun z=> by rw [fr' b z] at e; cases e
 have sm1:aJ H1 (upd (jv H1 ad PS) D0 (.lst (ad.map V.ref))):=fun b o e=> let ⟨ob,z⟩:=gA (I1.hok b o e); (old b ob z).trans e
 have lad:ad.length=ib.length:=by rw [F.len]; simp
 have atT:∀ (j:Nat) (c:Addr) (v u:V),ad[j]?=some c→va[j]?=some v→vb[j]?=some u→upd (jv H1 ad PS) D0 (.lst (ad.map V.ref)) c=some (.tup [v,u]):=fun j c v u e1 e2 e3=> by
  rw [aY (F.ne c (List.mem_of_getElem? e1))]
  refine pJ F.nd e1 ?_
  rw [← hP]
  exact List.getElem?_zipWith_eq_some.mpr ⟨v,u,e2,e3,rfl⟩
 have I3:Inv X pins σ (upd (jv H1 ad PS) D0 (.lst (ad.map V.ref))) { s1 with heap:=h3 }:=by
  refine uZ (t':=s1.toks) I1 keep old fun b o nb e=> ?_
  by_cases hbD:b=D0
  ·subst hbD
   rw [aM] at e
   cases e
   exact ⟨by rw [List.length_map,lad,← lb]; exact hz2,ad.map Value.ref,c,ki ad,F.acc⟩
  ·rw [aY hbD] at e
   rcases lN e with z | ⟨j,pr,e1,e2,rfl⟩
   ·rw [nH b nb] at z; cases z
   ·rw [← hP] at e2
    obtain ⟨v,u,f1,f2,rfl⟩:=List.getElem?_zipWith_eq_some.mp e2
    obtain ⟨xv,g1,r1⟩:=ra.get f1
    obtain ⟨yv,g2,r2⟩:=rb.get f2
    obtain ⟨xv',yv',k1,k2,k3⟩:=F.tup j b e1
    have m1:xv'=xv:=by
     have:ia.toArray[j]?=some xv:=by simpa using g1
     rw [this] at k1; cases k1; rfl
    have m2:yv'=yv:=by
     have:ib.toArray[j]?=some yv:=by simpa using g2
     rw [this] at k2; cases k2; rfl
    subst m1; subst m2
    exact ⟨(show 2≤sizeLine by decide),[xv',yv'],.cons r1 (.cons r2 .nil),_,k3,rfl,_,rfl⟩
 refine ⟨.ref D0,_,I3,rfl,q D0 _ _ (sm.trans sm1) (sm.free (nH _ frD)) aM ⟨?_,fun i v u h1 h2=> ?_⟩⟩
 ·rw [List.length_map,List.length_zipWith]; omega
 ·rw [List.getElem?_map] at h1
  cases hi:ad[i]? with
  | none=> rw [hi] at h1; cases h1
  | some c'=>
   rw [hi] at h1
   obtain rfl:V.ref c'=v:=by simpa using h1
   obtain ⟨xi,yi,f1,f2,rfl⟩:=List.getElem?_zipWith_eq_some.mp h2
   obtain ⟨vi,g1,r1⟩:=rs1.get f1
   obtain ⟨wi,g2,r2⟩:=rs2.get f2
   have S:=bS (O:=O) sm1 (nH _ frD)
   have rr:=Rps.cons (r1.same S) (Rps.cons (r2.same S) Rps.nil)
   have hc':=List.mem_of_getElem? hi
   refine .tup (SqT.of (cM (atT i c' vi wi hi g1 g2) fun z=> ?_)) rr.len rr.at_
   rcases List.mem_cons.mp z with z | z
   ·exact F.ne c' hc' z
   ·exact (R.go sm).dom c' z (nH _ (fr' c' hc'))
theorem qg (hc:X.calm=true) (hg:Gl X "list") (hm:X.mg "list"=none) (hgz:Gl X "zip") (hmz:X.mg "zip"=none) (ha:Ev X H0 O0 ps e x) (hx:x=.lst xs∨x=.scr xs) (hb:Ev X H0 O0 ps f y) (hy:y=.lst ys∨y=.scr ys) (hl:ys.length=xs.length) (hn:xs.length≤1000)
  (he:starEach [e,f] X.env=(false,eval e X.env)::starEach [f] X.env:=by rfl) (hf:starEach [f] X.env=(false,eval f X.env)::starEach [] X.env:=by rfl):
  EvN X H0 O0 ps (.Call (.Name "list" p) [.Call (.Name "zip" p') [e,f] [] pos'] [] pos) (List.zipWith (fun a b=> U.tup [a,b]) xs ys):=oy hc hg hm hgz hmz ha hx hb hy (Nat.le_of_eq hl) hn he hf
end
end L2
namespace L2
open PySem PySem.Spec PyProof.Rows
theorem io (ns:List Int):∀ j,preSum (fun i=> ns.getD i 0) j=(ns.take j).sum
 | 0=> by simp [preSum]
 | j+1=> by rw [preSum,io ns j,PySem.sum_take_succ]
section
variable {X:Cx} {ns:List Int} {M:Int}
theorem me {K:PySem.W.Frag} {H:Hp} {ws:List V} {its:List Value} (rv:aR ws its) (rs:Rps K H ws (ns.map U.int)) (i:Nat) (z:Value) (e:its.toArray[i]?=some z):∃ t,z=.int (ns.getD i 0) t:=by
 have hl:=rs.len
 rw [List.length_map] at hl
 have e4:its[i]?=some z:=by simpa using e
 have hi:i < its.length:=aB e4
 have hw:i < ws.length:=by rw [rv.length]; exact hi
 have hb:i < ns.length:=by omega
 obtain ⟨u,e1,e2⟩:=rv.get (List.getElem?_eq_getElem hw)
 have e3:=rs.at_ i ws[i] (.int ns[i]) (List.getElem?_eq_getElem hw) (by rw [List.getElem?_map,List.getElem?_eq_getElem hb]; rfl)
 rw [e4] at e1
 cases e1
 generalize ws[i]=wi at *
 cases e3
 rw [List.getD_eq_getElem?_getD,List.getElem?_eq_getElem hb]
 obtain ⟨t,rfl⟩:=e2
 exact ⟨t,rfl⟩
theorem wH (hc:X.calm=true):jf X (.builtin "sum") [.lst (ns.map U.int)] (.int ns.sum):=by
 intro pins s σ H vs us Q I r hq
 obtain ⟨O,d,rs,q⟩:=hq
 obtain ⟨v,rfl,h1⟩:=gf rs
 obtain ⟨p1,rfl,r1⟩:=j4 r
 cases h1 with
 | @lst a ws _ hq hl hh=>
  cases r1
  obtain ⟨its,rv,pl,_⟩:=I.list (SqL.of (aF _ _ hq))
  have hlen:its.length=ns.length:=by rw [← rv.length,hl,List.length_map]
  have hat:=me (ns:=ns) rv ⟨hl,hh⟩
  refine call_sum_walkG (wpAny_pyIter_list pl.isList ?_)
  have hal:a < s.heap.objs.size:=by obtain ⟨o,e,_⟩:=pl.isList; exact Heap.lt_size e
  refine ⟨s.heap.objs.size,_,_,_,_,_,fun i=> ns.getD i 0,rfl,Walks.list (A:=X.A.in1) (I.ok.hd hc) s.heap.objs.size a (Nat.ne_of_lt hal) its.toArray,⟨⟨_,Heap.get?_push_size _ rfl,rfl,rfl⟩,pl.isList.push _⟩,fun b hb=> ?_,hat,fun h' tk t' hk=> ?_⟩
  ·show b < (s.heap.push _).objs.size
   rw [Heap.size_push]
   rcases List.mem_cons.mp hb with z | z
   ·rw [z]; exact Nat.lt_succ_self _
   ·rw [List.mem_singleton.mp z]; exact Nat.lt_succ_of_lt hal
  ·rw [io,List.size_toArray,hlen,List.take_length]
   refine ⟨.int ns.sum,H,I.kept (t':=tk) fun b o e=> hk b o ?_ (Heap.get?_push_of_some _ e),⟨t',rfl⟩,q _ H (.refl H) (.int _)⟩
   intro z
   have:b=s.heap.objs.size:=by simpa using z
   exact absurd (Heap.lt_size e) (by rw [this]; exact Nat.lt_irrefl _)
end
end L2
namespace ST
open PySem PyProof.Rows
section
variable {prog:Program} {w:World} {A:Around} {E:Value→Shared→Prop} {s:Shared}
end
end ST
namespace L2
open PySem PySem.Spec PyProof.Rows
section
variable {X:Cx} {H0:Hp} {O0:List Addr} {ps:PSt} {a b c:Expr} {pos:Pos} {x y z:U} {p q:P2} {k m:Bool}
theorem vV {pins:List (Addr×Obj)} {σ:List (Option V)} {H:Hp} {s:Shared} (I:Inv X pins σ H s) {v:V} {u:Value} (r:Rp X.K H v (pu p)) (e:bn v u):∃ b,u=.ref b∧ST.TK X.prog X.w s.heap [p.1,p.2] b:=by
 cases r with
 | @tup b zs _ hs hsl hsi=>
  cases e
  refine ⟨b,rfl,?_⟩
  obtain ⟨jts,rj,ht,_⟩:=I.tuple hs
  have z0:zs.length=2:=hsl
  match zs,z0,hsi,rj with
  | [z1,z2],_,hsi,rj=>
   have q1:=hsi 0 z1 _ rfl rfl
   have q2:=hsi 1 z2 _ rfl rfl
   cases q1
   cases q2
   obtain ⟨u1,u2,rfl,r1,r2⟩:=j7 rj
   obtain ⟨t1,rfl⟩:=r1
   obtain ⟨t2,rfl⟩:=r2
   obtain ⟨o,ho,hoc,n,hod⟩:=ht
   exact ⟨o,_,n,ho,hoc,hod,.cons (intKind_is _ _ _ _) (.cons (intKind_is _ _ _ _) .nil)⟩
end
end L2
namespace L2
open PySem PySem.Spec PyProof.Rows
section
variable {X:Cx} {p q:P2} {l:List P2}
end
end L2
namespace L2
open PySem PySem.Spec PyProof.Rows
section
variable {X:Cx} {H0:Hp} {O0:List Addr} {ps:PSt} {e:Expr} {pts:List P2} {pos pos' p p':Pos}
end
end L2
namespace ST
open PySem
section
variable {prog:Program} {w:World} {A:Around} {R:Result→Shared→Prop} {I S:Addr} {fp wr:List Addr} {n:Nat} {P:Nat→Value→Prop} {St:Nat→Heap→Prop} {G:Heap→Prop} {bt:Nat→Nat→Bool}
end
section
variable {prog:Program} {w:World} {A:Around} {E:Value→Shared→Prop} {s:Shared}
end
section
variable {prog:Program} {w:World} {A:Around} {R:Result→Shared→Prop} {I S:Addr} {fp wr:List Addr} {n:Nat} {P:Nat→Value→Prop} {St:Nat→Heap→Prop} {G:Heap→Prop} {bt:Nat→Nat→Bool}
end
section
variable {prog:Program} {w:World} {A:Around} {E:Value→Shared→Prop} {s:Shared}
end
end ST
namespace ST
open PySem PyProof.Rows
section
variable {prog:Program} {w:World} {A:Around} {E:Value→Shared→Prop} {s:Shared}
theorem pR {x y:Int} {t u:Tok} {Q:Value→Shared→Prop} (h:Q (.bool (decide (x < y))) s):wpAny (model prog w) A (richCompare .Lt (.int x t) (.int y u)) Q E s:=
 richCompare_gives (op:=.Lt) (typeIs_int s _ t) (typeIs_int s _ u) PySem.F.slot_int_lt PySem.F.entry_int_lt (PySem.F.args_int_lt_2 _ _) (gives_int_lt _ _ t u) (fun x=> nomatch x) h
theorem rP {x y:Addr} {a b:Int×Int} {P:Fin→Shared→Prop} (hx:TK prog w s.heap [a.1,a.2] x) (hy:TK prog w s.heap [b.1,b.2] y) (h:P (.done (.ret (.bool (ltP a b)))) s):
  wpAny (model prog w) A (Builtin.«tuple.__lt__» ⟨[.ref x,.ref y],[]⟩) P E s:=by
 have hTb:=hy.typeIs
 obtain ⟨o,its,n,t,u,ho,_,hd,hi⟩:=hx.two
 obtain ⟨o',its',n',t',u',ho',_,hd',hi'⟩:=hy.two
 show wpAny _ _ (isInstance (.ref y) (.type "tuple") >>=_) _ _ s
 refine wpAny_bind (wpAny_isInstance hTb isSubtype_tuple_tuple ?_)
 simp only [Bool.not_true,Bool.false_eq_true,if_false]
 refine wpAny_bind (wpAny_tupleItemsOf ho hd ?_)
 refine wpAny_bind (wpAny_tupleItemsOf ho' hd' ?_)
 have sz:its.size=its'.size:=by rw [← Array.length_toList,← Array.length_toList,hi,hi']; rfl
 rw [hi,hi']
 refine wpAny_bind ?_
 simp only [List.zip_cons_cons,List.zip_nil_left,List.forIn_cons,List.forIn_nil]
 refine wpAny_bind (wpAny_bind ((intKind prog w).eqBool (a:=a.1) (b:=b.1) (intKind_is _ _ _ _) (intKind_is _ _ _ _) ?_))
 by_cases e1:a.1=b.1
 ·rw [decide_eq_true e1]
  simp only [Bool.not_true,Bool.false_eq_true,if_false]
  refine wpAny_pure ?_
  refine wpAny_bind (wpAny_bind ((intKind prog w).eqBool (a:=a.2) (b:=b.2) (intKind_is _ _ _ _) (intKind_is _ _ _ _) ?_))
  by_cases e2:a.2=b.2
  ·rw [decide_eq_true e2]
   simp only [Bool.not_true,Bool.false_eq_true,if_false]
   refine wpAny_pure (wpAny_pure ?_)
   have z:ltP a b=false:=by unfold ltP; simp; omega
   rw [z] at h
   refine wpAny_pure ?_
   show P (.done (.ret (.bool (decide (its.size < its'.size))))) s
   rw [sz,decide_eq_false (Nat.lt_irrefl _)]
   exact h
  ·rw [decide_eq_false e2]
   simp only [Bool.not_false,if_true]
   have z:ltP a b=decide (a.2 < b.2):=by unfold ltP; rw [e1]; simp
   rw [z] at h
   exact wpAny_bind (wpAny_rule (wpAny_bind (pR (wpAny_bind (wpAny_pure (wpAny_pure (wpAny_pure (wpAny_pure h))))))))
 ·rw [decide_eq_false e1]
  simp only [Bool.not_false,if_true]
  have z:ltP a b=decide (a.1 < b.1):=by unfold ltP; simp [e1]
  rw [z] at h
  exact wpAny_bind (wpAny_rule (wpAny_bind (pR (wpAny_bind (wpAny_pure (wpAny_pure (wpAny_pure (wpAny_pure h))))))))
theorem lt_ptsR {x y:Addr} {a b:Int×Int} {Q:Value→Shared→Prop} (hu:A.units < cLine) (hx:TK prog w s.heap [a.1,a.2] x) (hy:TK prog w s.heap [b.1,b.2] y) (h:Q (.bool (ltP a b)) s):
  wpAny (model prog w) A (compareOp .Lt (.ref x) (.ref y)) Q E s:=
 wpAny_richCompare_same_room (op:=.Lt) hx.typeIs hy.typeIs PySem.F.slot_tuple_lt
  (wpAny_call_entry PySem.F.slot_tuple_lt hx.typeIs PySem.F.entry_tuple_lt (rP hx hy ⟨_,rfl,(fun e=> nomatch e),h⟩) (PySem.F.args_tuple_lt_2 _ _)) hu
end
end ST
namespace L2
open PySem PySem.Spec PyProof.Rows
section
variable {X:Cx} {pts:List P2} {M:P2}
end
end L2
namespace L2
open PySem PySem.Spec PyProof.Rows
section
variable {X:Cx} {H0:Hp} {O0:List Addr} {ps:PSt} {xs:List U} {x:Str} {pos pc p':Pos}
end
end L2
namespace L2
open PySem PySem.Spec PyProof.Rows
section
variable {X:Cx} {H0:Hp} {O0:List Addr} {ps:PSt} {x:Str} {pos:Pos} {a b:Expr} {i j:Int}
end
end L2
namespace L2
open PySem PySem.Spec PyProof.Rows
section
variable {X:Cx} {H0:Hp} {O0:List Addr} {ps:PSt} {e tg:Expr} {p pos:Pos} {xs:List U} {x:U}
end
end L2
namespace L2
open PySem PySem.Spec PyProof.Rows
section
variable {X:Cx} {H0:Hp} {O0:List Addr} {ps:PSt} {a b:Expr} {pos:Pos} {xs:List U} {u:U} {k:Int}
end
end L2
namespace L2
open PySem PySem.Spec PySem.W PyProof.Rows
section
variable {X:Cx}
end
end L2
namespace L2
open PySem PySem.Spec PyProof.Rows
section
variable {X:Cx} {H0:Hp} {O0:List Addr} {E:XK} {ps ps':PSt} {D:PD} {s:Stmt} {ss body:List Stmt} {a b c e:Expr} {es:List Expr} {pos p:Pos} {u x y:U} {xs ys us:List U} {k:Bool}
 {CX:CXT} {n:Nat} {f C:Addr} {fd:FuncData} {pn:List Str} {spec:List U→Out→Prop} {nm:Str}
end
end L2
namespace L2
open PySem PySem.Spec PyProof.Rows
theorem Rs.free {K:PySem.W.Frag} {H0 H:Hp} {O0 O:List Addr} {ps:PSt} {σ:St} {xs:List U} (n:Nat) (h:ps[n]?=some (some (.own xs))) (R:Rs K H0 O0 ps σ H O):∃ O',(∀ b∈O',b∈O)∧Rs K H0 O0 (ps.set n (some (.val (.lst xs)))) σ H O':=by
 obtain ⟨v,hv,a,vs,rfl,ha,ha0,hH,rs⟩:=R.at_ n _ h
 have less:∀ b∈O.filter (fun b=> decide (b≠a)),b∈O:=fun b hb=> (List.mem_filter.mp hb).1
 have keep:∀ b∈O,b≠a→b∈O.filter (fun b=> decide (b≠a)):=fun b hb ne=> List.mem_filter.mpr ⟨hb,by simpa using ne⟩
 have sm:aJ (hid H O) (hid H (O.filter (fun b=> decide (b≠a)))):=cX less
 have na:a ∉ O.filter (fun b=> decide (b≠a)):=fun z=> by have:=(List.mem_filter.mp z).2; simp at this
 refine ⟨O.filter (fun b=> decide (b≠a)),less,R.same,fun b hb=> keep b (R.old b hb) fun e=> ha0 (e ▸ hb),fun b hb=> R.new b (less b hb),fun b hb=> R.dom b (less b hb),by rw [R.len,List.length_set],fun i s hs=> ?_,fun i j ys zs b h1 h2 h3 h4=> ?_⟩
 ·rcases cY hs with ⟨rfl,e⟩ | ⟨ne,hs⟩
  ·cases e
   exact ⟨.ref a,hv,.lst (cM hH na) (rs.same sm).len (rs.same sm).at_⟩
  ·obtain ⟨w,hw,ok⟩:=R.at_ i s hs
   refine ⟨w,hw,?_⟩
   cases s with
   | val u=> exact Rp.same sm ok
   | own ys=>
    obtain ⟨b,ws,rfl,hb,hb0,hHb,rsb⟩:=ok
    refine ⟨b,ws,rfl,keep b hb fun e=> ?_,hb0,hHb,rsb.same sm⟩
    subst e
    exact ne (R.inj n i _ _ b h hs hv hw)
   | pin z u=> exact ⟨ok.1,Rp.same sm ok.2⟩
 ·rcases cY h1 with ⟨_,e⟩ | ⟨_,h1⟩
  ·cases e
  ·rcases cY h2 with ⟨_,e⟩ | ⟨_,h2⟩
   ·cases e
   ·exact R.inj i j _ _ b h1 h2 h3 h4
section
variable {X:Cx} {H0:Hp} {O0:List Addr} {E:XK} {ps:PSt} {D:PD} {ss:List Stmt} {e:Expr} {xs:List U} {b:Bool}
theorem xE (n:Nat) (h:ps[n]?=some (some (.own xs))) (w:Ws X H0 O0 E ss D (ps.set n (some (.val (.lst xs))))):Ws X H0 O0 E ss D ps:=
 PSs.mono w fun D' σ H ⟨L,O,R⟩=> by
  obtain ⟨O',_,R'⟩:=R.free n h
  exact ⟨L,O',R'⟩
end
end L2
namespace L2
open PySem PySem.Spec PyProof.Rows
section
variable {X:Cx} {ns:List Int} {M:Int}
theorem wf (hc:X.calm=true) (hM:M∈ns∧∀ a∈ns,a≤M):jf X (.builtin "max") [.lst (ns.map U.int)] (.int M):=by
 intro pins s σ H vs us Q I r hq
 obtain ⟨O,d,rs,q⟩:=hq
 obtain ⟨v,rfl,h1⟩:=gf rs
 obtain ⟨p1,rfl,r1⟩:=j4 r
 cases h1 with
 | @lst a ws _ hq hl hh=>
  cases r1
  obtain ⟨its,rv,pl,_⟩:=I.list (SqL.of (aF _ _ hq))
  have hlen:its.length=ns.length:=by rw [← rv.length,hl,List.length_map]
  have hat:=me (ns:=ns) rv ⟨hl,hh⟩
  have hn:0 < ns.length:=List.length_pos_of_mem hM.1
  refine call_max_walk (wpAny_pyIter_list pl.isList ?_)
  have hal:a < s.heap.objs.size:=by obtain ⟨o,e,_⟩:=pl.isList; exact Heap.lt_size e
  refine ⟨s.heap.objs.size,_,_,_,_,_,_,rfl,Walks.list (A:=X.A.in1) (I.ok.hd hc) s.heap.objs.size a (Nat.ne_of_lt hal) its.toArray,⟨⟨_,Heap.get?_push_size _ rfl,rfl,rfl⟩,pl.isList.push _⟩,fun b hb=> ?_,by rw [List.size_toArray,hlen]; exact hn,CmpOf.ints_gt (fun i=> ns.getD i 0) hat,fun v h' tk hP hk=> ?_⟩
  ·show b < (s.heap.push _).objs.size
   rw [Heap.size_push]
   rcases List.mem_cons.mp hb with z | z
   ·rw [z]; exact Nat.lt_succ_self _
   ·rw [List.mem_singleton.mp z]; exact Nat.lt_succ_of_lt hal
  ·obtain ⟨t,rfl⟩:=hat _ _ hP
   obtain ⟨b1,b2⟩:=argBest_gt (fun i=> ns.getD i 0) (its.toArray.size - 1)
   have e:ns.getD (argBest (fun i j=> decide (ns.getD i 0 > ns.getD j 0)) (its.toArray.size - 1)) 0=M:=by
    rw [List.size_toArray,hlen] at b1 b2 ⊢
    generalize argBest (fun i j=> decide (ns.getD i 0 > ns.getD j 0)) (ns.length - 1)=g at *
    have hg:g < ns.length:=by omega
    obtain ⟨j,hj,ej⟩:=List.getElem_of_mem hM.1
    have k1:=b2 j (by omega)
    have k2:=hM.2 ns[g] (List.getElem_mem hg)
    simp only [List.getD_eq_getElem?_getD,List.getElem?_eq_getElem hg,List.getElem?_eq_getElem hj,Option.getD_some] at k1 ⊢
    omega
   rw [e]
   refine ⟨.int M,H,I.kept (t':=tk) fun b o e=> hk b o ?_ (Heap.get?_push_of_some _ e),⟨t,rfl⟩,q _ H (.refl H) (.int _)⟩
   intro z
   have:b=s.heap.objs.size:=by simpa using z
   exact absurd (Heap.lt_size e) (by rw [this]; exact Nat.lt_irrefl _)
end
end L2
namespace L2
open PySem PySem.Spec PyProof.Rows
section
variable {X:Cx} {H0:Hp} {O0:List Addr} {E:XK} {ps:PSt} {D:PD} {e:Expr} {pos:Pos} {xs ys:List U}
end
end L2
namespace L2
open PySem PySem.Spec PySem.W PyProof.Rows
section
variable {X:Cx}
end
section
variable {X:Cx} {H0:Hp} {O0:List Addr} {E:XK} {ps:PSt} {D:PD} {a e:Expr} {es:List Expr} {us:List U} {k:Bool} {n:Nat} {fd:FuncData} {pn:List Str} {spec:List U→Out→Prop}
end
end L2
namespace L2
open PySem PySem.Spec PyProof.Rows
section
variable {X:Cx} {H0:Hp} {O0:List Addr} {ps:PSt} {a b:Expr} {p:P2} {l:List P2}
end
end L2
namespace ST
open PySem PySem.W PySem.Calls PyProof.Rows
section
variable {prog:Program} {w:World} {A:Around} {E:Value→Shared→Prop} {s:Shared}
end
end ST
namespace L2
open PySem PySem.Spec PyProof.Rows
section
variable {X:Cx} {H0:Hp} {O0:List Addr} {ps:PSt} {e:Expr} {p pos:Pos} {a b:P2}
end
end L2
namespace ST
open PySem PySem.W PySem.Calls PyProof.Rows
section
variable {prog:Program} {w:World} {A:Around} {E:Value→Shared→Prop} {s:Shared}
end
end ST
namespace L2
open PySem PySem.Spec PyProof.Rows
section
variable {X:Cx} {H0:Hp} {O0:List Addr} {ps:PSt} {e:Expr} {pts:List P2} {pos p:Pos}
end
end L2
namespace L2
open PySem PySem.Spec PySem.W PyProof.Rows
section
variable {X:Cx}
end
section
variable {X:Cx} {H0:Hp} {O0:List Addr} {E:XK} {ps:PSt} {D:PD} {a e:Expr} {es:List Expr} {us:List U} {k:Bool} {n:Nat} {fd:FuncData} {pn:List Str} {spec:List U→Out→Prop}
end
end L2
namespace L2
open PySem PySem.Spec PySem.W PyProof.Rows
structure zm (K:PySem.W.Frag) (x qual:Str) (st:Stmt) (f:Addr) (fd:FuncData) (D:Addr):Prop where
 ex:∃ (oc:Value) (od:Option Addr) (kV doc pm:Value) (an:Option Addr) (cdv ct:Value) (osl:Array (Option Value)),
  fd=PySem.W.fnOf x qual (aE st) (aC st) (aj st) (.ref D) kV doc pm an cdv ct∧K.lookup f=some ⟨oc,od,.func fd,osl⟩∧PySem.W.codeIn K cdv qual=true
 kp:PySem.W.keepIn K (.ref f)=true
section
variable {P:Program} {w:World} {K:PySem.W.Frag} {mg:Str→Option Value} {base:Heap} {N pn:List Str} {qual nm:Str} {f D:Addr}
end
section
variable {X:Cx} {H0:Hp} {O0:List Addr} {ps:PSt} {e:Expr} {es:List Expr} {pos p:Pos} {u:U} {us:List U} {xs:List U} {CX:CXT} {n:Nat} {f:Addr} {fd:FuncData} {pn:List Str} {spec:List U→Out→Prop} {nm:Str} {j:Int}
end
end L2
namespace L2
open PySem PySem.Spec PyProof.Rows
section
variable {X:Cx} {H0:Hp} {O0:List Addr} {ps:PSt} {a b:Expr} {k:Int} {ns:List Int}
end
end L2
namespace L2
open PySem PySem.Spec PyProof.Rows
section
variable {X:Cx} {tg:Expr}
variable {H0:Hp} {O0:List Addr} {ps:PSt} {a b:Expr} {p pos:Pos}
end
section
variable {X:Cx} {H0:Hp} {O0:List Addr} {E:XK} {ps ps':PSt} {D:PD} {tg iter cond:Expr} {pos p:Pos} {xs:List U}
end
end L2
namespace L2
open PySem PySem.Spec PyProof.Rows
section
variable {X:Cx} {H0:Hp} {O0:List Addr} {ps:PSt} {e:Expr} {ns:List Int} {pos p:Pos}
end
end L2
namespace L2
open PySem PySem.Spec PyProof.Rows
section
variable {X:Cx} {H0:Hp} {O0:List Addr} {E:XK} {ps:PSt} {D:PD} {c:Expr} {pos:Pos} {xs:List U}
end
end L2
namespace L2
open PySem PySem.Spec PyProof.Rows
end L2
namespace TS
open PySem PyProof.Rows
section
variable {prog:Program} {w:World} {A:Around} {E:Value→Shared→Prop} {s:Shared}
def gt (a:Array Keyed) (i:Nat):Keyed:=a.getD i (Value.none,Value.none)
end
section
variable {prog:Program} {w:World} {A:Around} {E:Value→Shared→Prop} {s:Shared}
end
section
variable {α:Type} {R:α→α→Bool} {A B out:List α} {ia ib:Nat}
structure MI (R:α→α→Bool) (A B out:List α) (ia ib:Nat):Prop where
 perm:out.Perm (A.take ia++B.take ib)
 srt:out.Pairwise fun x y=> R x y=true
 lA:∀ x∈out,∀ y∈A.drop ia,R x y=true
 lB:∀ x∈out,∀ y∈B.drop ib,R x y=true
structure MO (R:α→α→Bool) (A B:List α):Prop where
 tr:∀ x y z,R x y=true→R y z=true→R x z=true
 sA:A.Pairwise fun x y=> R x y=true
 sB:B.Pairwise fun x y=> R x y=true
 tot:∀ x∈A,∀ y∈B,R y x=false→R x y=true
end
section
variable {M:Model} {A:Around} {E:Value→Shared→Prop} {s:Shared} {σ:Type}
end
section
variable {prog:Program} {w:World} {A:Around} {E:Value→Shared→Prop} {s:Shared}
def nP (prog:Program) (w:World) (A:Around) (E:Value→Shared→Prop) (s:Shared) (κ:SortKind) (P:Keyed→Prop) (R:Keyed→Keyed→Bool):Prop:=
 ∀ x y st (Q:Option Bool→SortSt→Prop),P x→P y→kindOf st=κ→Q (some (R x y)) st→wpS (model prog w) A E s (lt' x y) Q st
variable {κ:SortKind} {P:Keyed→Prop} {R:Keyed→Keyed→Bool} (K:nP prog w A E s κ P R)
include K
end
section
variable {α:Type} {R:α→α→Bool} {A B:List α}
end
section
variable {prog:Program} {w:World} {A:Around} {E:Value→Shared→Prop} {s:Shared} {κ:SortKind} {P:Keyed→Prop} {R:Keyed→Keyed→Bool} (K:nP prog w A E s κ P R)
include K
end
end TS
namespace TS
open PySem PyProof.Rows
section
end
section
variable {prog:Program} {w:World} {A:Around} {E:Value→Shared→Prop} {s:Shared} {κ:SortKind} {P:Keyed→Prop} {R:Keyed→Keyed→Bool} (K:nP prog w A E s κ P R)
include K
end
end TS
namespace TS
open PySem PyProof.Rows
section
variable {prog:Program} {w:World} {A:Around} {E:Value→Shared→Prop} {s:Shared} {κ:SortKind} {P:Keyed→Prop} {R:Keyed→Keyed→Bool}
structure Ord (P:Keyed→Prop) (R:Keyed→Keyed→Bool) (l:List Keyed):Prop where
 tr:∀ x y z,R x y=true→R y z=true→R x z=true
 tot:∀ x∈l,∀ y∈l,x≠y→R x y=false→R y x=true
 nd:l.Nodup
 hp:∀ x∈l,P x
structure Stt (κ:SortKind) (l:List Keyed) (pd:Array (Nat×Nat×Nat)) (st:SortSt):Prop where
 kind:kindOf st=κ
 failed:failedOf st=none
 perm:(arrOf st).toList.Perm l
 pend:pendingOf st=pd
variable {l:List Keyed} {pd:Array (Nat×Nat×Nat)}
def Kept (a b:Array Keyed) (lo:Nat):Prop:=∀ j,j < lo→gt b j=gt a j
variable (K:nP prog w A E s κ P R)
include K
end
end TS
namespace TS
open PySem PyProof.Rows
section
variable {prog:Program} {w:World} {A:Around} {E:Value→Shared→Prop} {s:Shared} {κ:SortKind} {P:Keyed→Prop} {R:Keyed→Keyed→Bool} {l:List Keyed} {pd:Array (Nat×Nat×Nat)}
variable (K:nP prog w A E s κ P R)
include K
end
end TS
namespace TS
open PySem PyProof.Rows
section
variable {prog:Program} {w:World} {A:Around} {E:Value→Shared→Prop} {s:Shared} {κ:SortKind} {P:Keyed→Prop} {R:Keyed→Keyed→Bool} {l:List Keyed}
variable (K:nP prog w A E s κ P R)
include K
end
end TS
namespace TS
open PySem PyProof.Rows
section
variable {prog:Program} {w:World} {A:Around} {E:Value→Shared→Prop} {s:Shared} {κ:SortKind} {P:Keyed→Prop} {R:Keyed→Keyed→Bool} {l:List Keyed}
variable (K:nP prog w A E s κ P R)
include K
end
end TS
namespace ST
open PySem PySem.W PyProof.Rows
abbrev ky (p:(Int×Int)×Addr):Keyed:=(Value.ref p.2,Value.ref p.2)
open Classical in
noncomputable def RP (pb:PB) (x y:Keyed):Bool:=decide (∃ p∈pb,∃ q∈pb,x=ky p∧y=ky q∧ltP p.1 q.1=true)
section
variable {prog:Program} {w:World} {A:Around} {E:Value→Shared→Prop} {s:Shared}
end
end ST
namespace ST
open PySem PySem.W PyProof.Rows PySem.Calls
section
variable {prog:Program} {w:World} {A:Around} {E:Value→Shared→Prop} {s:Shared}
end
end ST
namespace L2
open PySem PySem.Spec PyProof.Rows
section
variable {X:Cx} {H0:Hp} {O0:List Addr} {ps:PSt} {e:Expr} {pts:List P2} {pos pos' p p':Pos}
end
end L2
namespace L2
open PySem PySem.Spec PyProof.Rows
section
variable {X:Cx} {tg:Expr}
variable {H0:Hp} {O0:List Addr} {ps:PSt} {a:Expr} {p pos:Pos}
end
end L2
namespace ST
open PySem PySem.W PySem.Calls PyProof.Rows
section
variable {prog:Program} {w:World} {A:Around} {E:Value→Shared→Prop} {s:Shared}
end
end ST
namespace L2
open PySem PySem.Spec PyProof.Rows
section
variable {X:Cx} {H0:Hp} {O0:List Addr} {ps:PSt} {e:Expr} {pts:List P2} {pos p:Pos}
end
end L2
namespace L2
open PySem PySem.Spec PyProof.Rows
section
variable {X:Cx} {H0:Hp} {O0:List Addr} {E:XK} {ps ps':PSt} {D:PD} {a b c e:Expr} {es:List Expr} {u:U} {xs ys us:List U}
 {n:Nat} {C:Addr} {fd:FuncData} {pn:List Str} {spec:List U→Out→Prop}
end
end L2
namespace L2
open PySem PySem.Spec PySem.W PyProof.Rows
section
variable {X:Cx} {H0:Hp} {O0:List Addr} {E:XK} {ps:PSt} {D:PD} {s:Stmt} {pos:Pos} {u:U} {xs:List U}
end
section
variable {P:Program} {w:World} {K:PySem.W.Frag} {mg:Str→Option Value} {base:Heap} {N pn:List Str} {qual nm:Str} {f:Addr}
end
section
variable {X:Cx} {H0:Hp} {O0:List Addr} {ps:PSt} {e:Expr} {xs:List U} {us:List U} {x nm:Str} {pc p' pos:Pos} {u:U}
end
end L2
namespace L2
open PySem PySem.Spec PySem.W PyProof.Rows
section
variable {X:Cx}
end
section
variable {X:Cx} {H0:Hp} {O0:List Addr} {E:XK} {ps:PSt} {D:PD} {e c:Expr} {es:List Expr} {us:List U} {n:Nat} {fd:FuncData} {pn:List Str} {spec:List U→Out→Prop} {AA rest:List Stmt} {nx:PSt→Prop} {ex:PSt→Addr→Prop}
end
end L2
namespace L2
open PySem PySem.Spec PySem.W PyProof.Rows
abbrev T' (l:List Nat):Str:=⟨l.toArray⟩
section
variable {X:Cx} {tg:Expr}
end
section
variable {X:Cx} {H0:Hp} {O0:List Addr} {ps:PSt} {a b e tg:Expr} {es:List Expr} {pos p p2:Pos} {x y:Str} {i:Int} {lo hi:Option Expr} {l h:Option Int}
variable {apos cpos:Pos}
end
inductive Cst:Expr→U→Prop
 | str (x:Str) (j) (p:Pos):Cst (.Constant (.str x) j p) (.str x)
 | int (i:Int) (j) (p:Pos):Cst (.Constant (.int i) j p) (.int i)
 | bl (b:Bool) (j) (p:Pos):Cst (.Constant (.bool b) j p) (.bl b)
 | non (j) (p:Pos):Cst (.Constant .none j p) .non
inductive we:List Expr→List U→Prop
 | nil:we [] []
 | cons {e:Expr} {u:U} {es:List Expr} {us:List U}:Cst e u→we es us→we (e::es) (u::us)
structure EvD (X:Cx) (H0:Hp) (O0:List Addr) (ps:PSt) (e:Expr) (u:U):Prop where
 ev:Ev X H0 O0 ps e u
end L2
namespace L2
open PySem PySem.Spec PySem.W PyProof.Rows
section
variable {X:Cx} {H0:Hp} {O0:List Addr} {ps:PSt} {a b e:Expr} {x y:Str}
variable {apos cpos:Pos}
end
section
variable {X:Cx} {H0:Hp} {O0:List Addr} {E:XK} {ps:PSt} {a b e:Expr} {es:List Expr} {y:Str} {l:List Nat} {c:Nat} {apos cpos pos:Pos} {u:U} {C:Addr}
end
end L2
namespace L2
open PySem PySem.Spec PySem.W PyProof.Rows
section
variable {M:Model} {A:Around} {E:Value→Shared→Prop} {s:Shared}
end
section
variable {P:Program} {w:World} {K:Frag} {mg:Str→Option Value} {base:Heap} {N:List Str} {qual:Str} {scope:Scope} {f:Addr} {cd:Value} {A:Around} {outer:List Env} {s:Shared} {H:Hp} {E:XK}
end
section
variable {X:Cx} {pins:List (Addr×Obj)} {σ:St} {H:Hp} {s:Shared} {E:XK}
end
section
variable {X:Cx} {H0:Hp} {O0:List Addr} {E:XK} {ps:PSt} {iter tg elt e:Expr} {es:List Expr} {pos p:Pos} {xs ys us:List U} {C0:Addr}
end
structure EvM (X:Cx) (H0:Hp) (O0:List Addr) (ps:PSt) (e:Expr) (us:List U):Prop where
 ev:EvN X H0 O0 ps e us
end L2
namespace L2
open PySem PySem.Spec PyProof.Rows
section
variable {X:Cx} {H0:Hp} {O0:List Addr} {E:XK} {ps:PSt} {D:PD} {e1 e2:Expr} {xs1 xs2:List U} {pos lpos:Pos} {body:List Stmt}
end
end L2
namespace L2
open PySem PySem.Spec PyProof.Rows
theorem mU {X:Cx} {p q:P2} (hu:X.A.units+10 < cLine):OpS X (compareOp .Lt) (pu p) (pu q) (.bl (ST.ltP p q)):=by
 intro pins s σ H v w e f Q I r1 r2 h
 obtain ⟨k1,k2,k3⟩:=h
 obtain ⟨b1,rfl,t1⟩:=vV I k1 r1
 obtain ⟨b2,rfl,t2⟩:=vV I k2 r2
 exact ST.lt_ptsR (by omega) t1 t2 (bY I k3 rfl)
theorem u6 {n:Nat} (h:n≤9000):n < sizeLine:=by rw [sizeLine_eq]; omega
end L2
namespace L2
open PySem PySem.Spec PyProof.Rows
def dU (ix:Nat→Nat) (us:Nat→U):Nat→Nat→List U
 | 0,_=> []
 | n+1,r=> if ix n=r then dU ix us n r++[us n] else dU ix us n r
theorem kj (ix:Nat→Nat) (us:Nat→U):∀ n r,(dU ix us n r).length≤n
 | 0,_=> Nat.le_refl _
 | n+1,r=> by
  have:=kj ix us n r
  rw [dU]
  split
  ·simp; omega
  ·omega
structure Dl (K:PySem.W.Frag) (ps:PSt) (j:Nat) (xss:Nat→List U) (H0:Hp) (O0:List Addr) (σ:St) (H:Hp) (O:List Addr) (d:Addr) (as:Nat→Addr):Prop where
 rs:Rs K H0 O0 ps σ H O
 vals:∀ (i:Nat) (s:Sl),ps[i]?=some (some s)→∃ u,s=.val u
 non:ps[j]?=some none
 at_:σ[j]?=some (some (.ref d))
 dO:d∈O
 dO0:d ∉ O0
 aO:∀ r,r < 3→as r∈O∧as r ∉ O0
 da:∀ r,r < 3→as r≠d
 inj:∀ r t,r < 3→t < 3→as r=as t→r=t
 dh:H d=some (.lst [.ref (as 0),.ref (as 1),.ref (as 2)])
 ah:∀ r,r < 3→∃ vs,H (as r)=some (.lst vs)∧Rps K (hid H O) vs (xss r)
section
variable {K:PySem.W.Frag} {H0 H H':Hp} {O0 O:List Addr} {ps:PSt} {σ:St} {j:Nat} {xss:Nat→List U} {d:Addr} {as:Nat→Addr}
theorem Dl.go (D:Dl K ps j xss H0 O0 σ H O d as) (e:aJ H H'):Dl K ps j xss H0 O0 σ H' O d as:=
 ⟨D.rs.go e,D.vals,D.non,D.at_,D.dO,D.dO0,D.aO,D.da,D.inj,e _ _ D.dh,fun r hr=> let ⟨vs,h1,h2⟩:=D.ah r hr; ⟨vs,e _ _ h1,h2.same (bw e)⟩⟩
theorem Dl.set {i:Nat} {v:V} {u:U} (D:Dl K ps j xss H0 O0 σ H O d as) (r:Rp K (hid H O) v u) (n:i≠j):Dl K (ps.set i (some (.val u))) j xss H0 O0 (σ.set i (some v)) H O d as:=
 ⟨D.rs.set r,fun k s h=> by
  rcases cY h with ⟨_,e⟩ | ⟨_,e⟩
  ·cases e; exact ⟨_,rfl⟩
  ·exact D.vals k s e,by rw [List.getElem?_set_ne n]; exact D.non,by rw [List.getElem?_set_ne n]; exact D.at_,D.dO,D.dO0,D.aO,D.da,D.inj,D.dh,D.ah⟩
theorem Dl.less {i:Nat} {s:Sl} (D:Dl K (ps.set i (some s)) j xss H0 O0 σ H O d as) (n:i≠j) (hi:ps[i]?=some none):Dl K ps j xss H0 O0 σ H O d as:=by
 have key:∀ {k:Nat} {t:Sl},ps[k]?=some (some t)→(ps.set i (some s))[k]?=some (some t):=fun {k t} h=> by
  have:i≠k:=fun z=> by rw [← z,hi] at h; cases h
  rw [List.getElem?_set_ne this]; exact h
 have R:=D.rs
 refine ⟨⟨R.same,R.old,R.new,R.dom,by have:=R.len; rwa [List.length_set] at this,fun k t h=> R.at_ k t (key h),fun a b xs ys c h1 h2=> R.inj a b xs ys c (key h1) (key h2)⟩,fun k t h=> D.vals k t (key h),?_,D.at_,D.dO,D.dO0,D.aO,D.da,D.inj,D.dh,D.ah⟩
 have:=D.non
 rwa [List.getElem?_set_ne n] at this
theorem Dl.app {r:Nat} {v:V} {u:U} {vs:List V} {ys:Nat→List U} (D:Dl K ps j xss H0 O0 σ H O d as) (hr:r < 3) (h:H (as r)=some (.lst vs)) (k:Rp K (hid H O) v u) (h1:ys r=xss r++[u]) (h2:∀ t,t≠r→ys t=xss t):Dl K ps j ys H0 O0 σ (upd H (as r) (.lst (vs++[v]))) O d as:=by
 have R:=D.rs
 obtain ⟨aO,aO0⟩:=D.aO r hr
 have h0:H0 (as r)=none:=(R.new _ aO).resolve_left aO0
 have eh:∀ o,hid (upd H (as r) o) O=hid H O:=fun o=> lf aO
 refine ⟨⟨R.same.put h0 _,R.old,R.new,fun b hb z=> ?_,R.len,fun i s q=> ?_,fun i k xs ys a q1=> ?_⟩,D.vals,D.non,D.at_,D.dO,D.dO0,D.aO,D.da,D.inj,by rw [aY (D.da r hr).symm]; exact D.dh,fun t ht=> ?_⟩
 ·by_cases e:b=as r
  ·rw [e,aM] at z; cases z
  ·rw [aY e] at z; exact R.dom b hb z
 ·obtain ⟨w,k1,k2⟩:=R.at_ i s q
  obtain ⟨u',rfl⟩:=D.vals i s q
  refine ⟨w,k1,?_⟩
  show Rp K (hid (upd H (as r) _) O) w u'
  rw [eh]; exact k2
 ·obtain ⟨u',z⟩:=D.vals _ _ q1
  cases z
 ·rw [eh]
  by_cases e:t=r
  ·subst e
   obtain ⟨ws,g1,g2⟩:=D.ah t ht
   rw [h] at g1
   cases g1
   exact ⟨_,aM,by rw [h1]; exact g2.snoc (.cons k .nil)⟩
  ·obtain ⟨ws,g1,g2⟩:=D.ah t ht
   exact ⟨ws,by rw [aY fun z=> e (D.inj _ _ ht hr z)]; exact g1,by rw [h2 t e]; exact g2⟩
open Classical in
theorem Dl.free (D:Dl K ps j xss H0 O0 σ H O d as):∃ O',Rs K H0 O0 (ps.set j (some (.val (.lst [.lst (xss 0),.lst (xss 1),.lst (xss 2)])))) σ H O':=by
 have R:=D.rs
 let P:Addr→Prop:=fun b=> b≠d∧∀ r,r < 3→b≠as r
 refine ⟨O.filter fun b=> decide (P b),?_⟩
 have sub:∀ b∈O.filter (fun b=> decide (P b)),b∈O:=fun b hb=> (List.mem_filter.mp hb).1
 have nd:d ∉ O.filter (fun b=> decide (P b)):=fun hb=> (of_decide_eq_true (List.mem_filter.mp hb).2).1 rfl
 have na:∀ r,r < 3→as r ∉ O.filter (fun b=> decide (P b)):=fun r hr hb=> (of_decide_eq_true (List.mem_filter.mp hb).2).2 r hr rfl
 have less:=cX (H:=H) sub
 have item:∀ r,r < 3→Rp K (hid H (O.filter fun b=> decide (P b))) (.ref (as r)) (.lst (xss r)):=fun r hr=> by
  obtain ⟨vs,h1,h2⟩:=D.ah r hr
  exact .lst (cM h1 (na r hr)) (h2.same less).len (h2.same less).at_
 have all:Rps K (hid H (O.filter fun b=> decide (P b))) [.ref (as 0),.ref (as 1),.ref (as 2)] [.lst (xss 0),.lst (xss 1),.lst (xss 2)]:=.cons (item 0 (by decide)) (.cons (item 1 (by decide)) (.cons (item 2 (by decide)) .nil))
 refine ⟨R.same,fun b hb=> List.mem_filter.mpr ⟨R.old b hb,decide_eq_true ⟨fun z=> D.dO0 (z ▸ hb),fun r hr z=> (D.aO r hr).2 (z ▸ hb)⟩⟩,fun b hb=> R.new b (sub b hb),fun b hb=> R.dom b (sub b hb),by simp [R.len],fun i s q=> ?_,fun i k zs us b q1=> ?_⟩
 ·rcases cY q with ⟨e',q'⟩ | ⟨ne,q'⟩
  ·subst e'
   cases q'
   exact ⟨_,D.at_,.lst (cM D.dh nd) all.len all.at_⟩
  ·obtain ⟨w,k1,k2⟩:=R.at_ i s q'
   obtain ⟨u,rfl⟩:=D.vals i s q'
   exact ⟨w,k1,Rp.same less k2⟩
 ·obtain ⟨_,q⟩:=gB q1
  obtain ⟨u,z⟩:=D.vals _ _ q
  cases z
theorem Rs.setn {o:Option V} (R:Rs K H0 O0 ps σ H O) (h:ps[j]?=some none):Rs K H0 O0 ps (σ.set j o) H O:=by
 have ne:∀ {i:Nat} {s:Sl},ps[i]?=some (some s)→j≠i:=fun {i s} q z=> by rw [← z,h] at q; cases q
 refine ⟨R.same,R.old,R.new,R.dom,by simp [R.len],fun i s q=> ?_,fun i k xs ys a q1 q2 q3 q4=> ?_⟩
 ·obtain ⟨v,h1,h2⟩:=R.at_ i s q
  exact ⟨v,by rw [List.getElem?_set_ne (ne q)]; exact h1,h2⟩
 ·rw [List.getElem?_set_ne (ne q1)] at q3
  rw [List.getElem?_set_ne (ne q2)] at q4
  exact R.inj i k xs ys a q1 q2 q3 q4
end
section
variable {X:Cx} {H0:Hp} {O0:List Addr} {E:XK} {ps:PSt} {D:PD} {iter e1 e2:Expr} {items:List U} {ss:List Stmt}
theorem wJ {j kk:Nat} {x y:Str} {xp1 xp2 yp p1 p2 p3 lp ap sp apos cpos ep fp:Pos} (ix:Nat→Nat) (us:Nat→U)
  (hc:X.calm=true) (hp:PassesOwn (model X.prog X.w) X.A X.env X.xe) (hN:X.N.Nodup) (hj:X.N[j]?=some x) (hk:X.N[kk]?=some y) (lx:Loc X.env.scope x) (ly:Loc X.env.scope y)
  (hjk:kk≠j) (pj:ps[j]?=some none) (pk:ps[kk]?=some none) (hv:∀ (i:Nat) (s:Sl),ps[i]?=some (some s)→∃ u,s=.val u)
  (hi:EvI X H0 O0 ps (.Name y yp) iter items)
  (he1:∀ (H0:Hp) (i:Nat) (x:U),items[i]?=some x→Ev X H0 O0 (ps.set kk (some (.val x))) e1 (.int ((ix i:Nat):Int)))
  (he2:∀ (H0:Hp) (i:Nat) (x:U),items[i]?=some x→Ev X H0 O0 (ps.set kk (some (.val x))) e2 (us i))
  (hb:∀ i,i < items.length→ix i < 3) (hz:items.length < sizeLine)
  (hs1:starEach [.List [] p1,.List [] p2,.List [] p3] X.env=(false,eval (.List [] p1) X.env)::starEach [.List [] p2,.List [] p3] X.env)
  (hs2:starEach [.List [] p2,.List [] p3] X.env=(false,eval (.List [] p2) X.env)::starEach [.List [] p3] X.env)
  (hs3:starEach [.List [] p3] X.env=(false,eval (.List [] p3) X.env)::starEach [] X.env)
  (h:Ws X H0 O0 E ss D (ps.set j (some (.val (.lst [.lst (dU ix us items.length 0),.lst (dU ix us items.length 1),.lst (dU ix us items.length 2)])))))
  (hx:Vis X.env.scope x:=by first | exact Or.inl rfl | exact Or.inr (Or.inl rfl) | exact Or.inr (Or.inr rfl)) (hd:(x==("__debug__":Str))=false:=by decide) (hcd:(x==("__classdict__":Str))=false:=by decide)
  (hbase:attributeBase (.Subscript (.Name x xp2) e1 sp) "append" X.env (eval (.Subscript (.Name x xp2) e1 sp) X.env)=eval (.Subscript (.Name x xp2) e1 sp) X.env:=by rfl)
  (hfew:((backTo cpos (starEach [e2] X.env)).all (fun x=> !x.1) && (backToKw cpos (keywordEach [] X.env)).all (fun x=> x.1.isSome) && decide ([e2].length+([]:List Keyword).length+(if ([]:List Keyword).isEmpty then 0 else 1) < 30))=true:=by rfl)
  (hline:(apos.endLine==cpos.line)=true:=by rfl) (hse:starEach [e2] X.env=(false,eval e2 X.env)::starEach [] X.env:=by rfl) (hplain:(backTo cpos (starEach [] X.env)).any (·.1)=false:=by rfl)
  (hsw:swapsWith (.Call (.Attribute (.Subscript (.Name x xp2) e1 sp) "append" apos) [e2] [] cpos) none ep.line X.env=pure false:=by rfl) (hpi:iN e1:=by intro _ _; rfl)
  (hsa:swapsWith (.List [.List [] p1,.List [] p2,.List [] p3] lp) (some (.Name x xp1)) ap.line X.env=pure false:=by rfl)
  (hfx:X.fn x=true∨X.env.scope.names.lookup x=some .local:=by first | exact .inl rfl | exact .inr rfl | assumption)
  (hfy:X.fn y=true∨X.env.scope.names.lookup y=some .local:=by first | exact .inl rfl | exact .inr rfl | assumption)
  (hf:∀ z,foldedSetIterable iter X.env z=pure z:=by intro _; rfl):
  Ws X H0 O0 E (.Assign [.Name x xp1] (.List [.List [] p1,.List [] p2,.List [] p3] lp) ap::.For (.Name y yp) iter [.Expr (.Call (.Attribute (.Subscript (.Name x xp2) e1 sp) "append" apos) [e2] [] cpos) ep] [] fp::ss) D ps:=by
 have q1:PE X e1 fun σ H Q=> ∃ B i z,items[i]?=some z∧∃ O,Rs X.K B O0 (ps.set kk (some (.val z))) σ H O∧∀ v H',aJ H H'→Rp X.K (hid H' O) v (.int ((ix i:Nat):Int))→Q v H':=fun pins s σ H Q I ⟨B,i,z,hz,w⟩=> he1 B i z hz pins s σ H Q I w
 have q2:PE X e2 fun σ H Q=> ∃ B i z,items[i]?=some z∧∃ O,Rs X.K B O0 (ps.set kk (some (.val z))) σ H O∧∀ v H',aJ H H'→Rp X.K (hid H' O) v (us i)→Q v H':=fun pins s σ H Q I ⟨B,i,z,hz,w⟩=> he2 B i z hz pins s σ H Q I w
 have hbody:=g7 (kD (vY PySem.F.plainAttrs_list PySem.F.slot_list_append PySem.F.type_list_append h_ (su (pos:=sp) ln (fz (pos:=xp2) hj hx hd hcd) q1 hpi) (cI q2 dY hse) hbase hfew hline hse hplain) hsw) (o_ (X:=X))
 refine PSs.mono (g7 (nB hN hj lx (jD (pos:=lp) (cI (jD (pos:=p1) dY) (cI (jD (pos:=p2) dY) (cI (jD (pos:=p3) dY) dY hs3) hs2) hs1)) hsa hfx) (g7 (rW hp hc hi (bF hN hk ly hfy) hbody hf) h)) fun D' σ H ⟨L,O,R⟩=> ?_
 refine ⟨Nat.zero_le _,fun a0 n0=> ⟨Nat.zero_le _,fun a1 n1=> ⟨Nat.zero_le _,fun a2 n2=> ⟨show 3≤sizeLine by decide,fun d nd=> ?_⟩⟩⟩⟩
 have s0:aJ H (upd H a0 (.lst [])):=aU n0 _
 have s1:aJ (upd H a0 (.lst [])) (upd (upd H a0 (.lst [])) a1 (.lst [])):=aU n1 _
 have s2:aJ (upd (upd H a0 (.lst [])) a1 (.lst [])) (upd (upd (upd H a0 (.lst [])) a1 (.lst [])) a2 (.lst [])):=aU n2 _
 have b0:(upd H a0 (.lst [])) a0=some (.lst []):=aM
 have b1:(upd (upd H a0 (.lst [])) a1 (.lst [])) a1=some (.lst []):=aM
 have b2:(upd (upd (upd H a0 (.lst [])) a1 (.lst [])) a2 (.lst [])) a2=some (.lst []):=aM
 generalize upd H a0 (.lst [])=G0 at *
 generalize upd G0 a1 (.lst [])=G1 at *
 generalize upd G1 a2 (.lst [])=G2 at *
 have s3:aJ G2 (upd G2 d (.lst [.ref a0,.ref a1,.ref a2])):=aU nd _
 have bd:(upd G2 d (.lst [.ref a0,.ref a1,.ref a2])) d=some (.lst [.ref a0,.ref a1,.ref a2]):=aM
 generalize upd G2 d (.lst [.ref a0,.ref a1,.ref a2])=G3 at *
 have R0:=R.hide s0 n0 (by rw [b0]; intro z; cases z)
 have R1:=R0.hide s1 n1 (by rw [b1]; intro z; cases z)
 have R2:=R1.hide s2 n2 (by rw [b2]; intro z; cases z)
 have R3:=R2.hide s3 nd (by rw [bd]; intro z; cases z)
 have e10:a1≠a0:=fun z=> by rw [z,b0] at n1; cases n1
 have e20:a2≠a0:=fun z=> by rw [z,s1 _ _ b0] at n2; cases n2
 have e21:a2≠a1:=fun z=> by rw [z,b1] at n2; cases n2
 have d0:d≠a0:=fun z=> by rw [z,s2 _ _ (s1 _ _ b0)] at nd; cases nd
 have d1:d≠a1:=fun z=> by rw [z,s2 _ _ b1] at nd; cases nd
 have d2:d≠a2:=fun z=> by rw [z,b2] at nd; cases nd
 have nO:∀ a,H a=none→a ∉ O0:=fun a hn z=> R.dom a (R.old a z) hn
 have D3:Dl X.K ps j (dU ix us 0) H0 O0 (σ.set j (some (.ref d))) G3 (d::a2::a1::a0::O) d (fun r=> if r=0 then a0 else if r=1 then a1 else a2):=by
  refine ⟨R3.setn pj,hv,pj,fG (by rw [R.len]; exact aB pj),List.mem_cons_self,nO d (s0.free (s1.free (s2.free nd))),fun r hr=> ?_,fun r hr=> ?_,fun r t hr ht=> ?_,bd,fun r hr=> ?_⟩
  ·rcases (show r=0∨r=1∨r=2 by omega) with z | z | z <;> subst z
   ·exact ⟨by simp,nO a0 n0⟩
   ·exact ⟨by simp,nO a1 (s0.free n1)⟩
   ·exact ⟨by simp,nO a2 (s0.free (s1.free n2))⟩
  ·rcases (show r=0∨r=1∨r=2 by omega) with z | z | z <;> subst z
   ·exact d0.symm
   ·exact d1.symm
   ·exact d2.symm
  ·rcases (show r=0∨r=1∨r=2 by omega) with z | z | z <;> rcases (show t=0∨t=1∨t=2 by omega) with w | w | w <;> subst z <;> subst w <;> intro e
   ·rfl
   ·exact absurd e.symm e10
   ·exact absurd e.symm e20
   ·exact absurd e e10
   ·rfl
   ·exact absurd e.symm e21
   ·exact absurd e e20
   ·exact absurd e e21
   ·rfl
  ·rcases (show r=0∨r=1∨r=2 by omega) with z | z | z <;> subst z
   ·exact ⟨[],s3 _ _ (s2 _ _ (s1 _ _ b0)),.nil⟩
   ·exact ⟨[],s3 _ _ (s2 _ _ b1),.nil⟩
   ·exact ⟨[],s3 _ _ b2,.nil⟩
 generalize (fun r=> if r=0 then a0 else if r=1 then a1 else a2)=as at D3
 generalize (d::a2::a1::a0::O)=O1 at D3
 refine ⟨O1,D3.rs,fun J G4 s4 Y=> ?_⟩
 have D4:=D3.go s4
 have base:=D4.rs.base
 have D5:Dl X.K ps j (dU ix us 0) (hid G4 (O1.filter fun a=> decide (a ∉ O0))) O0 (σ.set j (some (.ref d))) G4 O1 d as:=⟨D4.rs.rebase,D4.vals,D4.non,D4.at_,D4.dO,D4.dO0,D4.aO,D4.da,D4.inj,D4.dh,D4.ah⟩
 generalize hB:hid G4 (O1.filter fun a=> decide (a ∉ O0))=B at *
 refine ⟨fun i m σ H=> m=items.length - i∧i≤items.length∧∃ O',Dl X.K ps j (dU ix us i) B O0 σ H O' d as,⟨_,rfl,Nat.zero_le _,O1,D5⟩,?_⟩
 rintro i m σ2 H2 ⟨rfl,hi2,O2,D6⟩
 have seen:aJ (hid G4 O1) (hid H2 O2):=D4.rs.seen (by rw [hB]; exact D6.rs)
 obtain ⟨y1,y2⟩:=Y H2 (seen.trans aF)
 by_cases hlt:i < items.length
 ·obtain ⟨g1,g2⟩:=y1 i hlt
  refine .inr ⟨g1,fun σ' H'=> ∃ O',Dl X.K ps j (dU ix us (i+1)) B O0 σ' H' O' d as,fun σ' H' z=> ⟨items.length - (i+1),by omega,rfl,hlt,z⟩,fun z H3 yl=> ?_⟩
  obtain ⟨rfl,u,hu,r⟩:=g2 z H3 yl
  have D7:=D6.set (r.same seen) hjk
  refine ⟨_,D7.at_,B,i,u,hu,O2,D7.rs,fun v H4 s4 r4=> ?_⟩
  cases r4
  have D8:=D7.go s4
  have h3:=hb i hlt
  obtain ⟨vs,k1,k2⟩:=D8.ah (ix i) h3
  refine ⟨d,_,_,.ref (as (ix i)),rfl,rfl,SqL.of D8.dh,?_,.inl ⟨rfl,_,SqL.of k1⟩,B,i,u,hu,O2,D8.rs,fun w H5 s5 r5=> ⟨_,vs,w,rfl,rfl,s5 _ _ k1,?_,O2,?_⟩⟩
  ·generalize ix i=q at *
   rcases (show q=0∨q=1∨q=2 by omega) with z | z | z <;> subst z <;> rfl
  ·rw [k2.len]
   have:=kj ix us i (ix i)
   omega
  ·refine ((D8.go s5).app h3 (s5 _ _ k1) r5 ?_ fun t ht=> ?_).less hjk pk
   ·rw [dU,if_pos rfl]
   ·rw [dU,if_neg (fun z=> ht z.symm)]
 ·have e:i=items.length:=by omega
  subst e
  obtain ⟨O',R'⟩:=D6.free
  exact .inl ⟨y2,L,O',R'.unbase base⟩
end
end L2
local macro_rules | `(tactic| walk_at "sz")=> `(tactic| first | with_reducible assumption | ((with_reducible apply L2.Sz.sub') <;> walk_at "sz") | ((with_reducible apply L2.Sz.add') <;> walk_at "sz") | ((with_reducible apply L2.Sz.mul) <;> walk_at "sz") | ((with_reducible apply L2.Sz.neg) <;> walk_at "sz") | ((with_reducible apply L2.Sz.ediv) <;> walk_at "sz") | ((with_reducible apply L2.Sz.abs) <;> walk_at "sz") | exact L2.Sz.lit (m:=8) (by decide) | exact L2.Sz.emod (m:=250) (by decide) (by decide) | exact L2.Sz.lit (m:=250) (by decide))
local macro_rules | `(tactic| walk_at "mul")=> `(tactic| exact L2.Sz.ok (by walk_at "sz") (by walk_at "sz") (by decide))
local macro_rules | `(tactic| walk_at "div")=> `(tactic| first | exact ⟨by decide,L2.Sz.mono (m:=250) (by decide) (by decide)⟩ | exact ⟨by omega,L2.Sz.mono (by walk_at "sz") (by decide)⟩)
local macro_rules | `(tactic| walk_at "mod")=> `(tactic| first | decide | omega)
local macro_rules | `(tactic| walk_at "szb")=> `(tactic| exact L2.Sz.mono (by walk_at "sz") (by decide))
local macro_rules | `(tactic| walk_at "kit")=> `(tactic| first | exact L2.kit_int_int _ | exact L2.kit_int_bool _ | exact L2.kit_tuple_tuple _ | exact L2.kit_list_list _ | exact L2.kit_bool_int _ | exact L2.kit_list_tuple _ | rfl)
local macro_rules | `(tactic| walk_at "ok")=> `(tactic| first | rfl | decide)
local macro_rules | `(tactic| walk_at "sub")=> `(tactic| first | exact trivial | (refine ⟨rfl,?_⟩; walk_at "sub") | (with_reducible apply L2.SubP.skip; walk_at "sub"))
local macro_rules | `(tactic| walk_at "len")=> `(tactic| first | decide | (simp only [List.length_append,List.length_cons,List.length_nil,List.length_map]; decide))
namespace My
open PySem PySem.Spec PyProof.Rows L2
def top (i:Nat):Stmt:=PySem.Challenge.pw_stakefield_k19_whole_mixed.main.body.getD i (.Pass ⟨0,0,0,0⟩)
abbrev ie:Stmt:=top 4
abbrev ic:Stmt:=top 6
abbrev cx:Stmt:=top 7
abbrev ge:Stmt:=top 8
abbrev gh:Stmt:=top 9
abbrev bC:Stmt:=top 10
abbrev hU:Stmt:=top 12
abbrev gx:Stmt:=top 13
abbrev dl:Stmt:=top 14
abbrev dM:Stmt:=top 15
abbrev dm:Stmt:=top 16
abbrev gg:Stmt:=top 17
abbrev cV:Stmt:=top 19
abbrev cR:Stmt:=top 20
abbrev cQ:Stmt:=top 21
abbrev bI:Stmt:=top 22
abbrev cn:Stmt:=top 23
abbrev cq:Stmt:=top 24
abbrev bP:Stmt:=top 25
abbrev cP:Stmt:=top 26
abbrev cw:Stmt:=top 27
abbrev cU:Stmt:=top 28
abbrev di:Stmt:=top 29
abbrev bR:Stmt:=top 30
abbrev ji:Stmt:=top 31
theorem vp:aK ["number"] ["number"] (aj ie):=⟨rfl,rfl,rfl,by decide+kernel,rfl,by decide+kernel,by decide+kernel⟩
theorem uQ:aK ["P","Q","R"] ["P","Q","R"] (aj ic):=⟨rfl,rfl,rfl,by decide+kernel,rfl,by decide+kernel,by decide+kernel⟩
theorem eO:aK ["row","kept","P"] ["row"] (aj cx):=⟨rfl,rfl,rfl,by decide+kernel,rfl,by decide+kernel,by decide+kernel⟩
theorem fK:aK ["points","row","there","back"] ["points"] (aj ge):=⟨rfl,rfl,rfl,by decide+kernel,rfl,by decide+kernel,by decide+kernel⟩
theorem sr:aK ["land"] ["land"] (aj gh):=⟨rfl,rfl,rfl,by decide+kernel,rfl,by decide+kernel,by decide+kernel⟩
theorem d5:aK ["land","A","B"] ["land"] (aj bC):=⟨rfl,rfl,rfl,by decide+kernel,rfl,by decide+kernel,by decide+kernel⟩
theorem uL:aK ["P","Q"] ["P","Q"] (aj hU):=⟨rfl,rfl,rfl,by decide+kernel,rfl,by decide+kernel,by decide+kernel⟩
theorem lg:aK ["land","A","B"] ["land"] (aj gx):=⟨rfl,rfl,rfl,by decide+kernel,rfl,by decide+kernel,by decide+kernel⟩
theorem lU:aK ["way","other_way"] ["way","other_way"] (aj dl):=⟨rfl,rfl,rfl,by decide+kernel,rfl,by decide+kernel,by decide+kernel⟩
theorem dS:aK ["some","others","row","done","way"] ["some","others"] (aj dM):=⟨rfl,rfl,rfl,by decide+kernel,rfl,by decide+kernel,by decide+kernel⟩
theorem dA:aK ["one","other","place","points","way"] ["one","other"] (aj dm):=⟨rfl,rfl,rfl,by decide+kernel,rfl,by decide+kernel,by decide+kernel⟩
theorem rS:aK ["one","other"] ["one","other"] (aj gg):=⟨rfl,rfl,rfl,by decide+kernel,rfl,by decide+kernel,by decide+kernel⟩
theorem lh:aK ["script","k"] ["script","k"] (aj cV):=⟨rfl,rfl,rfl,by decide+kernel,rfl,by decide+kernel,by decide+kernel⟩
theorem kw:aK ["a","b","p"] ["a","b","p"] (aj cR):=⟨rfl,rfl,rfl,by decide+kernel,rfl,by decide+kernel,by decide+kernel⟩
theorem fj:aK ["points","way","p"] ["points"] (aj cQ):=⟨rfl,rfl,rfl,by decide+kernel,rfl,by decide+kernel,by decide+kernel⟩
theorem dD:aK ["points","some"] ["points"] (aj bI):=⟨rfl,rfl,rfl,by decide+kernel,rfl,by decide+kernel,by decide+kernel⟩
theorem jM:aK ["cell","most"] ["cell","most"] (aj cn):=⟨rfl,rfl,rfl,by decide+kernel,rfl,by decide+kernel,by decide+kernel⟩
theorem bW:aK ["cell","way","x","y"] ["cell","way"] (aj cq):=⟨rfl,rfl,rfl,by decide+kernel,rfl,by decide+kernel,by decide+kernel⟩
theorem cF:aK ["script","way","ways_v","deals","k","some"] ["script"] (aj bP):=⟨rfl,rfl,rfl,by decide+kernel,rfl,by decide+kernel,by decide+kernel⟩
theorem ck:aK ["one","other","total","k","x","y","p"] ["one","other"] (aj cP):=⟨rfl,rfl,rfl,by decide+kernel,rfl,by decide+kernel,by decide+kernel⟩
theorem dn:aK ["land","total","k"] ["land"] (aj cw):=⟨rfl,rfl,rfl,by decide+kernel,rfl,by decide+kernel,by decide+kernel⟩
theorem kE:aK ["found","due"] ["found","due"] (aj cU):=⟨rfl,rfl,rfl,by decide+kernel,rfl,by decide+kernel,by decide+kernel⟩
theorem eF:aK ["land","move","shift","points","x","y"] ["land","move","shift"] (aj di):=⟨rfl,rfl,rfl,by decide+kernel,rfl,by decide+kernel,by decide+kernel⟩
theorem aT:aK ["script","one","other","due","m","n","move","far","near","k","x","y"] ["script","one","other","due"] (aj bR):=⟨rfl,rfl,rfl,by decide+kernel,rfl,by decide+kernel,by decide+kernel⟩
theorem dC:aK ["script","lands","handed","land","i","j","due","one","other","third"] ["script"] (aj ji):=⟨rfl,rfl,rfl,by decide+kernel,rfl,by decide+kernel,by decide+kernel⟩
set_option genInjectivity false in
set_option genSizeOf false in
set_option genSizeOfSpec false in
structure Txt (K:PySem.W.Frag) (mg:Str→Option Value) where
 a_sign:Addr
 d_sign:FuncData
 F_sign:Fun K "sign" "sign" ie a_sign d_sign
 b_sign:bo K d_sign ["number"] []
 m_sign:mg "sign"=some (.ref a_sign)
 a_turn:Addr
 d_turn:FuncData
 F_turn:Fun K "turn" "turn" ic a_turn d_turn
 b_turn:bo K d_turn ["P","Q","R"] []
 m_turn:mg "turn"=some (.ref a_turn)
 a_left_bends:Addr
 d_left_bends:FuncData
 F_left_bends:Fun K "left_bends" "left_bends" cx a_left_bends d_left_bends
 b_left_bends:bo K d_left_bends ["row"] []
 m_left_bends:mg "left_bends"=some (.ref a_left_bends)
 a_field:Addr
 d_field:FuncData
 F_field:Fun K "field" "field" ge a_field d_field
 b_field:bo K d_field ["points"] []
 m_field:mg "field"=some (.ref a_field)
 a_sides:Addr
 d_sides:FuncData
 F_sides:Fun K "sides" "sides" gh a_sides d_sides
 b_sides:bo K d_sides ["land"] []
 m_sides:mg "sides"=some (.ref a_sides)
 a_double_area:Addr
 d_double_area:FuncData
 F_double_area:Fun K "double_area" "double_area" bC a_double_area d_double_area
 b_double_area:bo K d_double_area ["land"] []
 m_double_area:mg "double_area"=some (.ref a_double_area)
 a_plus:Addr
 d_plus:FuncData
 F_plus:Fun K "plus" "plus" hU a_plus d_plus
 b_plus:bo K d_plus ["P","Q"] []
 m_plus:mg "plus"=some (.ref a_plus)
 a_ways:Addr
 d_ways:FuncData
 F_ways:Fun K "ways" "ways" gx a_ways d_ways
 b_ways:bo K d_ways ["land"] []
 m_ways:mg "ways"=some (.ref a_ways)
 a_no_later:Addr
 d_no_later:FuncData
 F_no_later:Fun K "no_later" "no_later" dl a_no_later d_no_later
 b_no_later:bo K d_no_later ["way","other_way"] []
 m_no_later:mg "no_later"=some (.ref a_no_later)
 a_in_turn:Addr
 d_in_turn:FuncData
 F_in_turn:Fun K "in_turn" "in_turn" dM a_in_turn d_in_turn
 b_in_turn:bo K d_in_turn ["some","others"] []
 m_in_turn:mg "in_turn"=some (.ref a_in_turn)
 a_together:Addr
 d_together:FuncData
 F_together:Fun K "together" "together" dm a_together d_together
 b_together:bo K d_together ["one","other"] []
 m_together:mg "together"=some (.ref a_together)
 a_mixed:Addr
 d_mixed:FuncData
 F_mixed:Fun K "mixed" "mixed" gg a_mixed d_mixed
 b_mixed:bo K d_mixed ["one","other"] []
 m_mixed:mg "mixed"=some (.ref a_mixed)
 a__law_cell:Addr
 d__law_cell:FuncData
 F__law_cell:Fun K "_law_cell" "_law_cell" cV a__law_cell d__law_cell
 b__law_cell:bo K d__law_cell ["script","k"] []
 m__law_cell:mg "_law_cell"=some (.ref a__law_cell)
 a__law_side:Addr
 d__law_side:FuncData
 F__law_side:Fun K "_law_side" "_law_side" cR a__law_side d__law_side
 b__law_side:bo K d__law_side ["a","b","p"] []
 m__law_side:mg "_law_side"=some (.ref a__law_side)
 a__law_half:Addr
 d__law_half:FuncData
 F__law_half:Fun K "_law_half" "_law_half" cQ a__law_half d__law_half
 b__law_half:bo K d__law_half ["points"] []
 m__law_half:mg "_law_half"=some (.ref a__law_half)
 a__law_corners:Addr
 d__law_corners:FuncData
 F__law_corners:Fun K "_law_corners" "_law_corners" bI a__law_corners d__law_corners
 b__law_corners:bo K d__law_corners ["points"] []
 m__law_corners:mg "_law_corners"=some (.ref a__law_corners)
 a__law_great:Addr
 d__law_great:FuncData
 F__law_great:Fun K "_law_great" "_law_great" cn a__law_great d__law_great
 b__law_great:bo K d__law_great ["cell","most"] []
 m__law_great:mg "_law_great"=some (.ref a__law_great)
 a__law_point:Addr
 d__law_point:FuncData
 F__law_point:Fun K "_law_point" "_law_point" cq a__law_point d__law_point
 b__law_point:bo K d__law_point ["cell","way"] []
 m__law_point:mg "_law_point"=some (.ref a__law_point)
 a__law_lands:Addr
 d__law_lands:FuncData
 F__law_lands:Fun K "_law_lands" "_law_lands" bP a__law_lands d__law_lands
 b__law_lands:bo K d__law_lands ["script"] []
 m__law_lands:mg "_law_lands"=some (.ref a__law_lands)
 a__law_due:Addr
 d__law_due:FuncData
 F__law_due:Fun K "_law_due" "_law_due" cP a__law_due d__law_due
 b__law_due:bo K d__law_due ["one","other"] []
 m__law_due:mg "_law_due"=some (.ref a__law_due)
 a__law_twice:Addr
 d__law_twice:FuncData
 F__law_twice:Fun K "_law_twice" "_law_twice" cw a__law_twice d__law_twice
 b__law_twice:bo K d__law_twice ["land"] []
 m__law_twice:mg "_law_twice"=some (.ref a__law_twice)
 a__law_good:Addr
 d__law_good:FuncData
 F__law_good:Fun K "_law_good" "_law_good" cU a__law_good d__law_good
 b__law_good:bo K d__law_good ["found","due"] []
 m__law_good:mg "_law_good"=some (.ref a__law_good)
 a__law_put:Addr
 d__law_put:FuncData
 F__law_put:Fun K "_law_put" "_law_put" di a__law_put d__law_put
 b__law_put:bo K d__law_put ["land","move","shift"] []
 m__law_put:mg "_law_put"=some (.ref a__law_put)
 a__law_still:Addr
 d__law_still:FuncData
 F__law_still:Fun K "_law_still" "_law_still" bR a__law_still d__law_still
 b__law_still:bo K d__law_still ["script","one","other","due"] []
 m__law_still:mg "_law_still"=some (.ref a__law_still)
 a_law:Addr
 d_law:FuncData
 F_law:Fun K "law" "law" ji a_law d_law
 b_law:bo K d_law ["script"] []
 m_law:mg "law"=some (.ref a_law)
 c_NoField:Addr
 x_NoField:PySem.W.excIn K c_NoField [.type "ValueError",.type "Exception",.type "BaseException",.type "object"] "ValueError.__new__"=true
 mx_NoField:mg "NoField"=some (.ref c_NoField)
 z_bool:mg "bool"=none
 z_int:mg "int"=none
 z_isinstance:mg "isinstance"=none
 z_len:mg "len"=none
 z_list:mg "list"=none
 z_max:mg "max"=none
 z_min:mg "min"=none
 z_range:mg "range"=none
 z_reversed:mg "reversed"=none
 z_set:mg "set"=none
 z_sorted:mg "sorted"=none
 z_sum:mg "sum"=none
 z_zip:mg "zip"=none
section
variable {P:Program} {w:World} {K:PySem.W.Frag} {mg:Str→Option Value} {base:Heap}
def sgn (n:Int):Int:=if 0 < n then 1 else if n < 0 then -1 else 0
def qT:List U→Out→Prop:=fun us o=> ∃ n:Int,us=[.int n]∧o=.val (.int (sgn n))
set_option maxHeartbeats 8000000 in
theorem vm (T:Txt K mg):bE P w K mg base (CXF P w) 1 T.a_sign T.d_sign ["number"] (spU K (qT)):=by
 refine bU T.F_sign vp (fun us o h=> ?_) (fun cdv A outer s H E O us o hr h=> ?_)
 ·obtain ⟨n,rfl,rfl⟩:=h
  rfl
 obtain ⟨n,rfl,rfl⟩:=h
 refine Ws.nox ?_
 refine ag (lF (ba lS (ac 0 rfl) af) (fun hT=> ?_) (fun hF=> (aZ ?_)))
 ·refine ag (ca af ?_)
  exact vIO (by unfold sgn; rw [if_pos (dTb hT)])
 ·refine ag (lF (ba n8 (ac 0 rfl) af) (fun hT=> ?_) (fun hF=> (aZ ?_)))
  ·refine ag (ca (fy af) ?_)
   exact vIO (by unfold sgn; rw [if_neg (dFb hF),if_pos (dTb hT)])
  ·rename_i hF2
   refine ag (ca af ?_)
   exact vIO (by unfold sgn; rw [if_neg (dFb hF),if_neg (dFb hF2)])
end
section
variable {P:Program} {w:World} {K:PySem.W.Frag} {mg:Str→Option Value} {base:Heap}
abbrev Pt:=Int×Int
def plt (p q:Pt):Prop:=p.1 < q.1∨(p.1=q.1∧p.2 < q.2)
def ao (a b p:Pt):Int:=(b.1 - a.1) * (p.2 - a.2) - (b.2 - a.2) * (p.1 - a.1)
theorem bX {a b c:Pt} (h1:plt a b) (h2:plt b c):plt a c:=by unfold plt at *; omega
theorem aW (a:Pt):¬ plt a a:=by unfold plt; omega
theorem kn (a b:Pt):plt a b∨a=b∨plt b a:=by
 unfold plt
 by_cases h1:a.1=b.1
 ·by_cases h2:a.2=b.2
  ·exact .inr (.inl (Prod.ext h1 h2))
  ·omega
 ·omega
def lpos (x y:Int):Prop:=0 < x∨(x=0∧0 < y)
theorem bg {a b:Pt} (h:plt a b):lpos (b.1 - a.1) (b.2 - a.2):=by unfold plt lpos at *; omega
theorem dv {u1 u2 v1 v2 w1 w2:Int} (hu:lpos u1 u2) (hv:lpos v1 v2) (hw:lpos w1 w2) (h1:0≤u1 * v2 - u2 * v1) (h2:0≤v1 * w2 - v2 * w1):0≤u1 * w2 - u2 * w1:=by
 unfold lpos at *
 by_cases hv1:v1=0
 ·subst hv1
  have hv2:0 < v2:=by omega
  have hw1:w1=0:=by
   have:v2 * w1≤0:=by rw [Int.zero_mul] at h2; omega
   by_cases hz:0 < w1
   ·have:=Int.mul_pos hv2 hz; omega
   ·omega
  subst hw1
  have hw2:0 < w2:=by omega
  have:=Int.mul_nonneg (show 0≤u1 by omega) (show 0≤w2 by omega)
  simp; omega
 ·have hv':0 < v1:=by omega
  have e:v1 * (u1 * w2 - u2 * w1)=u1 * (v1 * w2 - v2 * w1)+w1 * (u1 * v2 - u2 * v1):=by grind
  have p1:=Int.mul_nonneg (show 0≤u1 by omega) h2
  have p2:=Int.mul_nonneg (show 0≤w1 by omega) h1
  have:0≤v1 * (u1 * w2 - u2 * w1):=by omega
  exact Int.nonneg_of_mul_nonneg_right this hv'
theorem d7 {u1 u2 v1 v2 w1 w2:Int} (hu:lpos u1 u2) (hv:lpos v1 v2) (hw:lpos w1 w2) (h1:0 < u1 * v2 - u2 * v1) (h2:0≤v1 * w2 - v2 * w1):0 < u1 * w2 - u2 * w1:=by
 unfold lpos at *
 by_cases hv1:v1=0
 ·subst hv1
  have hv2:0 < v2:=by omega
  have hw1:w1=0:=by
   have:v2 * w1≤0:=by rw [Int.zero_mul] at h2; omega
   by_cases hz:0 < w1
   ·have:=Int.mul_pos hv2 hz; omega
   ·omega
  subst hw1
  have hw2:0 < w2:=by omega
  have hu1:0 < u1:=by
   rcases hu with h | ⟨h,_⟩
   ·exact h
   ·subst h; simp at h1
  have:=Int.mul_pos hu1 hw2
  simp; omega
 ·have hv':0 < v1:=by omega
  have e:v1 * (u1 * w2 - u2 * w1)=u1 * (v1 * w2 - v2 * w1)+w1 * (u1 * v2 - u2 * v1):=by grind
  have p1:=Int.mul_nonneg (show 0≤u1 by omega) h2
  by_cases hw1:w1=0
  ·subst hw1
   have hw2:0 < w2:=by omega
   have hu1:0 < u1:=by
    rcases hu with h | ⟨h,h'⟩
    ·exact h
    ·subst h
     have:=Int.mul_pos h' hv'
     simp at h1; omega
   have:=Int.mul_pos hu1 hw2
   simp; omega
  ·have p2:=Int.mul_pos (show 0 < w1 by omega) h1
   have:0 < v1 * (u1 * w2 - u2 * w1):=by omega
   exact Int.pos_of_mul_pos_right this (by omega)
def kT:List Pt→Prop
 | b::a::r=> plt a b∧kT (a::r)
 | _=> True
def iw:List Pt→Prop
 | c::b::a::r=> 0 < ao a b c∧iw (b::a::r)
 | _=> True
def gr (done:List Pt):List Pt→Prop
 | b::a::r=> (∀ q∈done,0≤ao a b q)∧gr done (a::r)
 | _=> True
theorem iw.tail:∀ {b:Pt} {st:List Pt},iw (b::st)→iw st
 | _,[],_=> trivial
 | _,[_],_=> trivial
 | _,_::_::_,h=> h.2
theorem kT.tail:∀ {b:Pt} {st:List Pt},kT (b::st)→kT st
 | _,[],_=> trivial
 | _,_::_,h=> h.2
theorem gr.tail {done:List Pt}:∀ {b:Pt} {st:List Pt},gr done (b::st)→gr done st
 | _,[],_=> trivial
 | _,_::_,h=> h.2
def aV (P:Pt):List Pt→List Pt
 | b::a::r=> if ao a b P≤0 then aV P (a::r) else b::a::r
 | st=> st
def ai (row:List Pt):List Pt:=row.foldl (fun st P=> P::aV P st) []
structure Kept (done st:List Pt):Prop where
 ne:st≠[]
 desc:kT st
 turns:iw st
 cover:gr done st
 sub:∀ p∈st,p∈done
structure qV (done st:List Pt) (P:Pt):Prop extends Kept done st where
 pend:∀ h r,st=h::r→∀ q∈done,plt h q→0≤ao h P q
theorem qO {done:List Pt} {P b a:Pt} {r:List Pt} (hP:∀ q∈done,plt q P) (D:qV done (b::a::r) P) (h:ao a b P≤0):qV done (a::r) P:=by
 refine ⟨⟨by simp,D.desc.tail,D.turns.tail,D.cover.tail,fun p hp=> D.sub p (List.mem_cons_of_mem _ hp)⟩,?_⟩
 intro h' r' e q hq hlt
 cases e
 have hab:=D.desc.1
 have hq':=D.cover.1 q hq
 have hbP:=hP b (D.sub b List.mem_cons_self)
 have hqP:=hP q hq
 rcases kn q b with z | z | z
 ·have l1:=bg hlt
  have l2:=bg hab
  have l3:=bg (bX hab hbP)
  have:=dv (u1:=P.1 - a.1) (u2:=P.2 - a.2) (v1:=b.1 - a.1) (v2:=b.2 - a.2) (w1:=q.1 - a.1) (w2:=q.2 - a.2) l3 l2 l1 (by unfold ao at h; grind) (by unfold ao at hq'; grind)
  unfold ao; grind
 ·subst z; unfold ao at *; grind
 ·have p:=D.pend b _ rfl q hq z
  unfold ao at *
  grind
theorem mQ {done:List Pt} {P:Pt} (hP:∀ q∈done,plt q P):∀ st:List Pt,qV done st P→qV done (aV P st) P∧(∀ b a r,aV P st=b::a::r→0 < ao a b P)∧(st.getLast?=(aV P st).getLast?)
 | [],D=> absurd rfl D.ne
 | [b],D=> ⟨D,fun _ _ _ e=> by simp [aV] at e,rfl⟩
 | b::a::r,D=> by
  by_cases h:ao a b P≤0
  ·rw [aV,if_pos h]
   obtain ⟨h1,h2,h3⟩:=mQ hP (a::r) (qO hP D h)
   exact ⟨h1,h2,by rw [← h3]; simp⟩
  ·rw [aV,if_neg h]
   refine ⟨D,fun b' a' r' e=> ?_,rfl⟩
   cases e; omega
theorem qH {done st:List Pt} {P:Pt} (hP:∀ q∈done,plt q P) (D:qV done st P) (ht:∀ b a r,st=b::a::r→0 < ao a b P) (hmin:∀ x,st=[x]→∀ q∈done,q=x∨plt x q):Kept (done++[P]) (P::st):=by
 have up:∀ (b:Pt) (r:List Pt),kT (b::r)→iw (b::r)→gr done (b::r)→plt b P→(∀ a r',r=a::r'→0≤ao a b P)→gr (done++[P]) (b::r):=by
  intro b r
  induction r generalizing b with
  | nil=> intro _ _ _ _ _; trivial
  | cons a r ih=>
   intro hd htn hc hbP hl
   refine ⟨fun q hq=> ?_,?_⟩
   ·rcases List.mem_append.mp hq with z | z
    ·exact hc.1 q z
    ·rw [List.mem_singleton.mp z]; exact hl a r rfl
   ·refine ih a hd.tail htn.tail hc.tail (bX hd.1 hbP) (fun c r' e=> ?_)
    subst e
    have t:=htn.1
    have g:=hl a _ rfl
    have l1:=bg hd.2.1
    have l2:=bg hd.1
    have l3:=bg (bX hd.1 hbP)
    have:=dv (u1:=a.1 - c.1) (u2:=a.2 - c.2) (v1:=b.1 - a.1) (v2:=b.2 - a.2) (w1:=P.1 - a.1) (w2:=P.2 - a.2) l1 l2 l3 (by unfold ao at t; grind) (by unfold ao at g; grind)
    unfold ao; grind
 obtain ⟨h,r,e⟩:∃ h r,st=h::r:=by
  cases hst:st with
  | nil=> exact absurd hst D.ne
  | cons h r=> exact ⟨h,r,rfl⟩
 subst e
 have hhP:=hP h (D.sub h List.mem_cons_self)
 refine ⟨by simp,⟨hhP,D.desc⟩,?_,⟨fun q hq=> ?_,?_⟩,fun p hp=> ?_⟩
 ·cases r with
  | nil=> trivial
  | cons a r'=> exact ⟨ht h a r' rfl,D.turns⟩
 ·rcases List.mem_append.mp hq with z | z
  ·rcases kn q h with y | y | y
   ·cases r with
    | nil=>
     rcases hmin h rfl q z with w | w
     ·subst w; exact absurd y (aW _)
     ·exact absurd (bX y w) (aW _)
    | cons a r'=>
     have t:=ht h a r' rfl
     have c:=D.cover.1 q z
     have l1:=bg D.desc.1
     have l2:=bg y
     have l3:=bg hhP
     have:=dv (u1:=h.1 - q.1) (u2:=h.2 - q.2) (v1:=h.1 - a.1) (v2:=h.2 - a.2) (w1:=P.1 - h.1) (w2:=P.2 - h.2) l2 l1 l3 (by unfold ao at c; grind) (by unfold ao at t; grind)
     unfold ao; grind
   ·subst y; unfold ao; grind
   ·exact D.pend h r rfl q z y
  ·rw [List.mem_singleton.mp z]; unfold ao; grind
 ·exact up h r D.desc D.turns D.cover hhP (fun a r' e=> Int.le_of_lt (ht h a r' (by rw [e])))
 ·rcases List.mem_cons.mp hp with z | z
  ·subst z; exact List.mem_append_right _ List.mem_cons_self
  ·exact List.mem_append_left _ (D.sub p z)
theorem jx (row:List Pt) (P:Pt):ai (row++[P])=P::aV P (ai row):=by
 unfold ai; rw [List.foldl_append]; rfl
theorem jp {row:List Pt} (hs:row.Pairwise plt):∀ n,0 < n→n≤row.length→Kept (row.take n) (ai (row.take n))∧(ai (row.take n)).getLast?=row.head?∧(ai (row.take n)).head?=row[n - 1]?
 | 0,h,_=> absurd h (by decide)
 | 1,_,h=> by
  cases row with
  | nil=> simp at h
  | cons a r=>
   simp only [List.take_succ_cons,List.take_zero]
   exact ⟨⟨by simp [ai],trivial,trivial,trivial,fun p hp=> by simpa [ai,aV] using hp⟩,rfl,rfl⟩
 | n+2,_,h=> by
  obtain ⟨K,hl,hh⟩:=jp hs (n+1) (by omega) (by omega)
  have hn:n+1 < row.length:=by omega
  have et:row.take (n+2)=row.take (n+1)++[row[n+1]]:=by rw [List.take_succ_eq_append_getElem hn]
  have hP:∀ q∈row.take (n+1),plt q row[n+1]:=fun q hq=> by
   obtain ⟨i,hi,e⟩:=List.mem_take_iff_getElem.mp hq
   subst e
   exact List.pairwise_iff_getElem.mp hs i (n+1) (by omega) hn (by omega)
  have D:qV (row.take (n+1)) (ai (row.take (n+1))) row[n+1]:=⟨K,fun h' r e q hq hlt=> by
   exfalso
   rw [e] at hh
   simp only [List.head?_cons,Nat.add_sub_cancel] at hh
   have hn':n < row.length:=by omega
   rw [List.getElem?_eq_getElem hn'] at hh
   have hh':=Option.some.inj hh
   obtain ⟨i,hi,e2⟩:=List.mem_take_iff_getElem.mp hq
   subst e2
   rw [hh'] at hlt
   rcases Nat.lt_or_ge i n with z | z
   ·exact aW _ (bX hlt (List.pairwise_iff_getElem.mp hs i n (by omega) hn' z))
   ·have:i=n:=by omega
    subst this
    exact aW _ hlt⟩
  obtain ⟨D2,ht,hlast⟩:=mQ hP _ D
  rw [et,jx]
  refine ⟨qH hP D2 ht (fun x e q hq=> ?_),?_,?_⟩
  ·rw [e,hl] at hlast
   simp at hlast
   obtain ⟨i,hi,e2⟩:=List.mem_take_iff_getElem.mp hq
   have h0:0 < row.length:=by omega
   have e3:row[0]=x:=by
    rw [List.head?_eq_getElem?,List.getElem?_eq_getElem h0] at hlast
    exact Option.some.inj hlast
   subst e2
   rcases Nat.eq_zero_or_pos i with z | z
   ·subst z; exact .inl e3
   ·right; rw [← e3]; exact List.pairwise_iff_getElem.mp hs 0 i h0 (by omega) z
  ·rw [List.getLast?_cons,← hlast,hl]
   cases row with
   | nil=> simp at hn
   | cons a r=> rfl
  ·simp only [List.head?_cons,Nat.add_sub_cancel]
   rw [show n+2 - 1=n+1 by omega,List.getElem?_eq_getElem hn]
theorem bV {row:List Pt} (hs:row.Pairwise plt) (h:row≠[]):Kept row (ai row)∧(ai row).getLast?=row.head?∧(ai row).head?=row.getLast?:=by
 have h0:0 < row.length:=List.length_pos_iff.mpr h
 obtain ⟨h1,h2,h3⟩:=jp hs row.length h0 (Nat.le_refl _)
 rw [List.take_length] at h1 h2 h3
 exact ⟨h1,h2,by rw [h3,List.getLast?_eq_getElem?]⟩
theorem dE {u1 u2 v1 v2 w1 w2:Int} (hu:lpos u1 u2) (hv:lpos v1 v2) (hw:lpos w1 w2) (h1:0≤u1 * v2 - u2 * v1) (h2:0 < v1 * w2 - v2 * w1):0 < u1 * w2 - u2 * w1:=by
 unfold lpos at *
 by_cases hv1:v1=0
 ·subst hv1
  have hv2:0 < v2:=by omega
  have:=Int.mul_nonneg (show 0≤v2 by omega) (show 0≤w1 by omega)
  simp at h2; omega
 ·have hv':0 < v1:=by omega
  have hu1:0 < u1:=by
   rcases hu with h | ⟨h,h'⟩
   ·exact h
   ·subst h
    have:=Int.mul_pos h' hv'
    simp at h1; omega
  have e:v1 * (u1 * w2 - u2 * w1)=u1 * (v1 * w2 - v2 * w1)+w1 * (u1 * v2 - u2 * v1):=by grind
  have p1:=Int.mul_pos hu1 h2
  have p2:=Int.mul_nonneg (show 0≤w1 by omega) h1
  have q:0 < v1 * (u1 * w2 - u2 * w1):=by omega
  exact Int.pos_of_mul_pos_right q hv'
def low (row:List Pt) (p:Pt):Prop:=∀ a∈row,∀ b∈row,plt a p→plt p b→0 < ao a p b
theorem v4 {row:List Pt} {p:Pt}:∀ (st:List Pt) (n:Pt),kT (n::st)→iw (n::st)→gr row (n::st)→p∈st→(∀ l,(n::st).getLast?=some l→plt l p)→
  ∃ n' q,0 < ao q p n'∧plt q p∧plt p n'∧(∀ x∈row,0≤ao p n' x)∧(∀ x∈row,0≤ao q p x)
 | [],n,_,_,_,hp,_=> by simp at hp
 | h::r,n,D,T,C,hp,hl=> by
  by_cases e:h=p
  ·subst e
   cases r with
   | nil=> exact absurd (hl h (by simp)) (aW h)
   | cons q r'=> exact ⟨n,q,T.1,D.2.1,D.1,C.1,C.2.1⟩
  ·have hp':p∈r:=by
    rcases List.mem_cons.mp hp with z | z
    ·exact absurd z.symm e
    ·exact z
   exact v4 r h D.tail T.tail C.tail hp' (fun l hl'=> hl l (by rw [List.getLast?_cons_cons]; exact hl'))
theorem kv {row:List Pt} (hs:row.Pairwise plt) {p:Pt} (hp:p∈ai row):low row p:=by
 intro a ha b hb hap hpb
 have hne:row≠[]:=fun z=> by rw [z] at ha; simp at ha
 obtain ⟨K,hlast,hhead⟩:=bV hs hne
 have mn:∀ x∈row,∀ m,row.head?=some m→x=m∨plt m x:=fun x hx m hm=> by
  cases row with
  | nil=> simp at hx
  | cons y r=>
   cases hm
   rcases List.mem_cons.mp hx with z | z
   ·exact .inl z
   ·exact .inr ((List.pairwise_cons.mp hs).1 x z)
 have mx:∀ x∈row,∀ m,row.getLast?=some m→x=m∨plt x m:=fun x hx m hm=> by
  obtain ⟨i,hi⟩:=List.mem_iff_getElem?.mp hx
  have hil:=(List.getElem?_eq_some_iff.mp hi).1
  rw [List.getLast?_eq_getElem?] at hm
  have hml:=(List.getElem?_eq_some_iff.mp hm).1
  rcases Nat.lt_or_eq_of_le (show i≤row.length - 1 by omega) with z | z
  ·right
   have h1:=List.pairwise_iff_getElem.mp hs i (row.length - 1) hil hml z
   rw [(List.getElem?_eq_some_iff.mp hi).2,(List.getElem?_eq_some_iff.mp hm).2] at h1
   exact h1
  ·left; rw [z,hm] at hi; exact (Option.some.inj hi).symm
 cases hst:ai row with
 | nil=> exact absurd hst K.ne
 | cons n st=>
  rw [hst] at K hlast hhead hp
  have hn:row.getLast?=some n:=by rw [← hhead]; rfl
  have hpn:p∈st:=by
   rcases List.mem_cons.mp hp with z | z
   ·rcases mx b hb n hn with y | y
    ·rw [y,← z] at hpb; exact absurd hpb (aW p)
    ·rw [z] at hpb; exact absurd (bX hpb y) (aW n)
   ·exact z
  obtain ⟨n',q,t,qp,pn,c1,c2⟩:=v4 st n K.desc K.turns K.cover hpn (fun l hl=> by
   rw [hlast] at hl
   rcases mn a ha l hl with y | y
   ·rw [← y]; exact hap
   ·exact bX y hap)
  have g1:=c2 a ha
  have g2:=c1 b hb
  unfold ao at *
  have k1:0≤(p.1 - a.1) * (p.2 - q.2) - (p.2 - a.2) * (p.1 - q.1):=by grind
  have k2:0 < (p.1 - q.1) * (n'.2 - p.2) - (p.2 - q.2) * (n'.1 - p.1):=by grind
  have k3:0≤(n'.1 - p.1) * (b.2 - p.2) - (n'.2 - p.2) * (b.1 - p.1):=by grind
  have k4:=d7 (bg qp) (bg pn) (bg hpb) k2 k3
  have k5:=dE (bg hap) (bg qp) (bg hpb) k1 k4
  grind
theorem sE {row:List Pt} {p:Pt}:∀ (st:List Pt) (h:Pt),kT (h::st)→gr row (h::st)→p∈row→p ∉ h::st→plt p h→(∀ l,(h::st).getLast?=some l→plt l p)→∃ a∈h::st,∃ b∈h::st,plt a p∧plt p b∧0≤ao a b p
 | [],h,_,_,_,_,hp,hl=> absurd (bX hp (hl h (by simp))) (aW p)
 | a::r,h,D,C,hr,hno,hp,hl=> by
  rcases kn p a with z | z | z
  ·obtain ⟨x,hx,y,hy,k⟩:=sE r a D.tail C.tail hr (fun w=> hno (List.mem_cons_of_mem _ w)) z (fun l hl'=> hl l (by rw [List.getLast?_cons_cons]; exact hl'))
   exact ⟨x,List.mem_cons_of_mem _ hx,y,List.mem_cons_of_mem _ hy,k⟩
  ·exact absurd (by rw [z]; simp) hno
  ·exact ⟨a,by simp,h,by simp,z,hp,C.1 p hr⟩
theorem gap {row:List Pt} (hs:row.Pairwise plt) {p:Pt} (hp:p∈row) (hno:p ∉ ai row):∃ a∈ai row,∃ b∈ai row,plt a p∧plt p b∧ao a p b≤0:=by
 have hne:row≠[]:=fun z=> by rw [z] at hp; simp at hp
 obtain ⟨K,hlast,hhead⟩:=bV hs hne
 cases hst:ai row with
 | nil=> exact absurd hst K.ne
 | cons n st=>
  rw [hst] at K hlast hhead hno
  have hn:row.getLast?=some n:=by rw [← hhead]; rfl
  have pn:plt p n:=by
   obtain ⟨i,hi⟩:=List.mem_iff_getElem?.mp hp
   have hil:=(List.getElem?_eq_some_iff.mp hi).1
   rw [List.getLast?_eq_getElem?] at hn
   have hml:=(List.getElem?_eq_some_iff.mp hn).1
   rcases Nat.lt_or_eq_of_le (show i≤row.length - 1 by omega) with z | z
   ·have h1:=List.pairwise_iff_getElem.mp hs i (row.length - 1) hil hml z
    rw [(List.getElem?_eq_some_iff.mp hi).2,(List.getElem?_eq_some_iff.mp hn).2] at h1
    exact h1
   ·rw [z,hn] at hi; exact absurd (by rw [← Option.some.inj hi]; simp) hno
  obtain ⟨a,ha,b,hb,k1,k2,k3⟩:=sE st n K.desc K.cover hp hno pn (fun l hl=> by
   have hl':=hl
   rw [hlast] at hl
   cases row with
   | nil=> simp at hp
   | cons y r=>
    cases hl
    rcases List.mem_cons.mp hp with z | z
    ·exact absurd (by rw [z]; exact List.mem_of_getLast? hl') hno
    ·exact (List.pairwise_cons.mp hs).1 p z)
  refine ⟨a,ha,b,hb,k1,k2,?_⟩
  unfold ao at *
  grind
theorem q_ {row row':List Pt} (hs:row.Pairwise plt) (hs':row'.Pairwise plt) (h1:∀ p∈row',p∈row) (h2:∀ p∈ai row,p∈row') (sub:∀ (r:List Pt) (q:Pt),q∈ai r→q∈r) (p:Pt):p∈ai row'↔p∈ai row:=by
 constructor
 ·intro hp
  refine Classical.byContradiction fun hno=> ?_
  obtain ⟨a,ha,b,hb,k1,k2,k3⟩:=gap hs (h1 p (sub _ _ hp)) hno
  have:=kv hs' hp a (h2 a ha) b (h2 b hb) k1 k2
  omega
 ·intro hp
  refine Classical.byContradiction fun hno=> ?_
  obtain ⟨a,ha,b,hb,k1,k2,k3⟩:=gap hs' (h2 p hp) hno
  have:=kv hs hp a (h1 a (sub _ _ ha)) b (h1 b (sub _ _ hb)) k1 k2
  omega
abbrev Szp (m:Nat) (p:P2):Prop:=Sz m p.1∧Sz m p.2
theorem wc (b:P2) (r:List P2):atI ((b::r).reverse.map pu) (-1)=some (pu b):=by
 have h:ixN ((b::r).reverse.map pu).length (-1)=some r.length:=by
  unfold ixN
  simp
  omega
 unfold atI
 rw [h]
 simp
theorem vO (b a:P2) (r:List P2):atI ((b::a::r).reverse.map pu) (-2)=some (pu a):=by
 have h:ixN ((b::a::r).reverse.map pu).length (-2)=some r.length:=by
  unfold ixN
  simp
  omega
 unfold atI
 rw [h]
 simp
theorem iE (P:P2):∀ st:List P2,(aV P st).length≤st.length
 | []=> Nat.le_refl _
 | [_]=> Nat.le_refl _
 | b::a::r=> by
  unfold aV
  split
  ·have:=iE P (a::r); simp only [List.length_cons] at *; omega
  ·exact Nat.le_refl _
theorem o3 (P:P2):∀ (st:List P2) (q:P2),q∈aV P st→q∈st
 | [],_,h=> h
 | [_],_,h=> h
 | b::a::r,q,h=> by
  unfold aV at h
  split at h
  ·exact List.mem_cons_of_mem _ (o3 P (a::r) q h)
  ·exact h
theorem ff {row:List P2} {i:Nat} {P:P2} (h:row[i]?=some P):ai (row.take (i+1))=P::aV P (ai (row.take i)):=by
 rw [List.take_succ,h]; exact jx _ _
theorem gb (row:List P2):∀ i,(ai (row.take i)).length≤i
 | 0=> by simp [ai]
 | i+1=> by
  have ih:=gb row i
  cases h:row[i]? with
  | none=> rw [List.take_succ,h]; simp; omega
  | some P=>
   rw [ff h]
   have:=iE P (ai (row.take i))
   simp only [List.length_cons]; omega
theorem eU (row:List P2):∀ i q,q∈ai (row.take i)→q∈row
 | 0,q,h=> by simp [ai] at h
 | i+1,q,h=> by
  cases hi:row[i]? with
  | none=> rw [List.take_succ,hi] at h; exact eU row i q (by simpa using h)
  | some P=>
   rw [ff hi] at h
   rcases List.mem_cons.mp h with e | e
   ·rw [e]; exact List.mem_of_getElem? hi
   ·exact eU row i q (o3 P _ q e)
theorem rR (n:Int):decide (sgn n < 1)=decide (n≤0):=by
 have h:sgn n < 1↔n≤0:=by
  unfold sgn
  split
  ·omega
  ·split <;> omega
 exact decide_eq_decide.mpr h
theorem fS (l:List P2):gy (l.map pu) none (some (-1))=l.dropLast.map pu:=by
 unfold gy HT.sIx
 rw [List.map_dropLast,List.dropLast_eq_take]
 simp
 try omega
def aa (pts:List P2):List P2:=if (ST.srt pts).length=1 then ST.srt pts else (ai (ST.srt pts)).reverse.dropLast++(ai (ST.srt pts).reverse).reverse.dropLast
theorem kl (a b:Pt):plt a b↔ST.ltP a b=true:=by unfold plt ST.ltP; simp
theorem gX {l:List Pt}:ST.Asc l↔l.Pairwise plt:=⟨fun h=> h.imp fun {a b} k=> (kl a b).mpr k,fun h=> h.imp fun {a b} k=> (kl a b).mp k⟩
theorem ii:∀ {st:List Pt},kT st→st.Pairwise (fun x y=> plt y x)
 | [],_=> List.Pairwise.nil
 | [_],_=> by simp
 | b::a::r,h=> by
  have ih:=ii h.2
  refine List.pairwise_cons.mpr ⟨fun x hx=> ?_,ih⟩
  rcases List.mem_cons.mp hx with z | z
  ·rw [z]; exact h.1
  ·exact bX ((List.pairwise_cons.mp ih).1 x z) h.1
theorem ce (row:List Pt) (q:Pt) (h:q∈ai row):q∈row:=by
 have:=eU row row.length q
 rw [List.take_length] at this
 exact this h
theorem dL {row:List Pt} (hs:row.Pairwise plt):ST.Asc (ai row).reverse:=by
 by_cases hne:row=[]
 ·subst hne; exact List.Pairwise.nil
 ·exact gX.mpr (List.pairwise_reverse.mpr (ii (bV hs hne).1.desc))
theorem jE {row row':List Pt} (hs:row.Pairwise plt) (hs':row'.Pairwise plt) (h1:∀ p∈row',p∈row) (h2:∀ p∈ai row,p∈row'):ai row'=ai row:=by
 have e:=ST.asc_one (dL hs') (dL hs) fun z=> by
  rw [List.mem_reverse,List.mem_reverse]
  exact q_ hs hs' h1 h2 ce z
 exact List.reverse_inj.mp e
def ng (p:Pt):Pt:=(-p.1,-p.2)
theorem gs (p:Pt):ng (ng p)=p:=by unfold ng; simp
theorem w8 (l:List Pt):(l.map ng).map ng=l:=by
 rw [List.map_map,show ng ∘ ng=id from funext gs,List.map_id]
theorem ju (a b c:Pt):ao (ng a) (ng b) (ng c)=ao a b c:=by unfold ao ng; grind
theorem jG {a b:Pt} (h:plt a b):plt (ng b) (ng a):=by unfold plt ng at *; simp; omega
theorem rT (P:Pt):∀ st:List Pt,aV (ng P) (st.map ng)=(aV P st).map ng
 | []=> rfl
 | [_]=> rfl
 | b::a::r=> by
  show aV (ng P) (ng b::ng a::r.map ng)=_
  unfold aV
  rw [ju]
  split
  ·exact rT P (a::r)
  ·rfl
theorem fx:∀ row:List Pt,ai (row.map ng)=(ai row).map ng:=fun row=> by
 have key:∀ (l:List Pt) (st:List Pt),(l.map ng).foldl (fun st P=> P::aV P st) (st.map ng)=(l.foldl (fun st P=> P::aV P st) st).map ng:=by
  intro l
  induction l with
  | nil=> intro st; rfl
  | cons p r ih=>
   intro st
   rw [List.map_cons,List.foldl_cons,List.foldl_cons,rT]
   exact ih (p::aV p st)
 exact key row []
theorem df {row:List Pt} (hs:row.Pairwise plt):(row.reverse.map ng).Pairwise plt:=by
 rw [List.pairwise_map,List.pairwise_reverse]
 exact hs.imp fun {a b} h=> jG h
theorem bJ (row:List Pt):ai row.reverse=(ai (row.reverse.map ng)).map ng:=by rw [fx,w8]
theorem gY {row row':List Pt} (hs:row.Pairwise plt) (hs':row'.Pairwise plt) (h1:∀ p∈row',p∈row) (h2:∀ p∈ai row.reverse,p∈row'):ai row'.reverse=ai row.reverse:=by
 rw [bJ row,bJ row']
 congr 1
 refine jE (df hs) (df hs') (fun p hp=> ?_) (fun p hp=> ?_)
 ·obtain ⟨q,hq,rfl⟩:=List.mem_map.mp hp
  exact List.mem_map.mpr ⟨q,List.mem_reverse.mpr (h1 q (List.mem_reverse.mp hq)),rfl⟩
 ·rw [fx] at hp
  obtain ⟨q,hq,rfl⟩:=List.mem_map.mp hp
  exact List.mem_map.mpr ⟨q,List.mem_reverse.mpr (h2 q hq),rfl⟩
theorem qd {row:List Pt} (hs:row.Pairwise plt) (h2:2≤row.length):∃ mn mx t1 t2,ai row=mx::t1∧ai row.reverse=mn::t2∧mn∈t1∧mx∈t2∧(∀ p∈row,p=mn∨plt mn p)∧(∀ p∈row,p=mx∨plt p mx)∧mn∈row∧mx∈row:=by
 have hne:row≠[]:=fun z=> by rw [z] at h2; simp at h2
 obtain ⟨K,hl,hh⟩:=bV hs hne
 have hneR:row.reverse.map ng≠[]:=by simpa using hne
 obtain ⟨KR,hlR,hhR⟩:=bV (df hs) hneR
 have e1:row.head?=some row[0]:=by rw [List.head?_eq_getElem?]; exact List.getElem?_eq_getElem (by omega)
 have e2:row.getLast?=some row[row.length - 1]:=by rw [List.getLast?_eq_getElem?]; exact List.getElem?_eq_getElem (by omega)
 have l01:plt row[0] row[row.length - 1]:=List.pairwise_iff_getElem.mp hs 0 (row.length - 1) (by omega) (by omega) (by omega)
 have mnA:∀ p∈row,p=row[0]∨plt row[0] p:=fun p hp=> by
  obtain ⟨i,hi,rfl⟩:=List.mem_iff_getElem.mp hp
  rcases Nat.eq_zero_or_pos i with z | z
  ·left; subst z; rfl
  ·right; exact List.pairwise_iff_getElem.mp hs 0 i (by omega) hi z
 have mxA:∀ p∈row,p=row[row.length - 1]∨plt p row[row.length - 1]:=fun p hp=> by
  obtain ⟨i,hi,rfl⟩:=List.mem_iff_getElem.mp hp
  rcases Nat.lt_or_eq_of_le (show i≤row.length - 1 by omega) with z | z
  ·right; exact List.pairwise_iff_getElem.mp hs i (row.length - 1) hi (by omega) z
  ·left; subst z; rfl
 have ne:row[0]≠row[row.length - 1]:=fun z=> by rw [z] at l01; exact aW _ l01
 generalize row[0]=mn at *
 generalize row[row.length - 1]=mx at *
 have mmn:mn∈row:=List.mem_of_head? e1
 have mmx:mx∈row:=List.mem_of_getLast? e2
 rw [e1] at hl
 rw [e2] at hh
 have hlR':(ai row.reverse).getLast?=some mx:=by
  rw [bJ,List.getLast?_map,hlR,List.head?_map,List.head?_reverse,e2]; simp [gs]
 have hhR':(ai row.reverse).head?=some mn:=by
  rw [bJ,List.head?_map,hhR,List.getLast?_map,List.getLast?_reverse,e1]; simp [gs]
 cases hb:ai row with
 | nil=> rw [hb] at hh; cases hh
 | cons x t1=>
  rw [hb] at hh hl
  cases hh
  cases hbR:ai row.reverse with
  | nil=> rw [hbR] at hhR'; cases hhR'
  | cons y t2=>
   rw [hbR] at hhR' hlR'
   cases hhR'
   refine ⟨_,_,t1,t2,rfl,rfl,?_,?_,mnA,mxA,mmn,mmx⟩
   ·cases t1 with
    | nil=> simp at hl; exact absurd hl.symm ne
    | cons z r=> rw [List.getLast?_cons_cons] at hl; exact List.mem_of_getLast? hl
   ·cases t2 with
    | nil=> simp at hlR'; exact absurd hlR' ne
    | cons z r=> rw [List.getLast?_cons_cons] at hlR'; exact List.mem_of_getLast? hlR'
theorem tM (st:List Pt):st.reverse.dropLast=st.tail.reverse:=by
 cases st with
 | nil=> rfl
 | cons h t=> simp
theorem gc {l:List Pt}:l.reverse.Nodup↔l.Nodup:=by
 unfold List.Nodup
 rw [List.pairwise_reverse]
 exact ⟨fun h=> h.imp fun k=> Ne.symm k,fun h=> h.imp fun k=> Ne.symm k⟩
theorem gi:∀ {l m:List Pt},l.Nodup→(∀ x∈l,x∈m)→l.length≤m.length
 | [],_,_,_=> Nat.zero_le _
 | x::l,m,h,hs=> by
  obtain ⟨h1,h2⟩:=List.nodup_cons.mp h
  have hx:x∈m:=hs x List.mem_cons_self
  have ih:=gi (m:=m.erase x) h2 fun y hy=> (List.mem_erase_of_ne (fun e=> h1 (by rw [← e]; exact hy))).mpr (hs y (List.mem_cons_of_mem _ hy))
  rw [List.length_erase_of_mem hx] at ih
  have:=List.length_pos_of_mem hx
  simp only [List.length_cons]; omega
theorem cJ (pts:List Pt):(ST.srt pts).Pairwise plt:=gX.mp (ST.srt_asc pts)
theorem eo {pts:List Pt} (h:2≤(ST.srt pts).length):aa pts=(ai (ST.srt pts)).tail.reverse++(ai (ST.srt pts).reverse).tail.reverse:=by
 unfold aa; rw [if_neg (by omega),tM,tM]
theorem aG {pts:List Pt} (h:pts≠[]):aa pts≠[]:=by
 have hs:ST.srt pts≠[]:=fun z=> by
  obtain ⟨p,r,rfl⟩:=List.exists_cons_of_ne_nil h
  have:=(ST.srt_mem p (p::r)).mpr List.mem_cons_self
  rw [z] at this; simp at this
 by_cases h1:(ST.srt pts).length=1
 ·unfold aa; rw [if_pos h1]; exact hs
 ·have h2:2≤(ST.srt pts).length:=by have:=List.length_pos_iff.mpr hs; omega
  obtain ⟨mn,mx,t1,t2,e1,e2,m1,m2,_⟩:=qd (cJ pts) h2
  rw [eo h2,e1,e2]
  intro z
  have:t1.reverse=[]:=(List.append_eq_nil_iff.mp z).1
  rw [List.reverse_eq_nil_iff.mp this] at m1
  simp at m1
theorem av (pts:List Pt):(aa pts).Nodup:=by
 have nd:∀ {l:List Pt},l.Pairwise plt→l.Nodup:=fun h=> h.imp fun {a b} k e=> by rw [e] at k; exact aW b k
 by_cases h2:2≤(ST.srt pts).length
 ·have hs:=cJ pts
  obtain ⟨mn,mx,t1,t2,e1,e2,m1,m2,hmn,hmx,i1,i2⟩:=qd hs h2
  have n1:(mx::t1).Nodup:=by rw [← e1]; exact gc.mp (nd (gX.mp (dL hs)))
  have n2:(mn::t2).Nodup:=by
   rw [← e2,bJ]
   have:=gc.mp (nd (gX.mp (dL (df hs))))
   refine List.pairwise_map.mpr (this.imp fun {a b} hab e=> hab ?_)
   rw [← gs a,e,gs]
  obtain ⟨x1,y1⟩:=List.nodup_cons.mp n1
  obtain ⟨x2,y2⟩:=List.nodup_cons.mp n2
  rw [eo h2,e1,e2,List.tail_cons,List.tail_cons,List.nodup_append]
  refine ⟨gc.mpr y1,gc.mpr y2,fun p hp q hq=> ?_⟩
  rintro rfl
  have p1:p∈t1:=List.mem_reverse.mp hp
  have p2:p∈t2:=List.mem_reverse.mp hq
  have b1:p∈ai (ST.srt pts):=by rw [e1]; exact List.mem_cons_of_mem _ p1
  have b2:p∈ai (ST.srt pts).reverse:=by rw [e2]; exact List.mem_cons_of_mem _ p2
  have pr:=ce _ _ b1
  have l1:plt mn p:=(hmn p pr).resolve_left fun e=> x2 (by rw [← e]; exact p2)
  have l2:plt p mx:=(hmx p pr).resolve_left fun e=> x1 (by rw [← e]; exact p1)
  have d1:=kv hs b1 mn i1 mx i2 l1 l2
  have b3:ng p∈ai ((ST.srt pts).reverse.map ng):=by rw [fx]; exact List.mem_map.mpr ⟨p,b2,rfl⟩
  have d2:=kv (df hs) b3 (ng mx) (List.mem_map.mpr ⟨mx,List.mem_reverse.mpr i2,rfl⟩) (ng mn) (List.mem_map.mpr ⟨mn,List.mem_reverse.mpr i1,rfl⟩) (jG l2) (jG l1)
  rw [ju] at d2
  unfold ao at d1 d2
  grind
 ·unfold aa
  split
  ·exact nd (cJ pts)
  ·have e:ST.srt pts=[]:=List.length_eq_zero_iff.mp (by omega)
   rw [e]; exact List.nodup_nil
theorem ar (pts:List Pt):∀ p∈aa pts,p∈pts:=fun p hp=> by
 unfold aa at hp
 split at hp
 ·exact (ST.srt_mem p pts).mp hp
 ·rcases List.mem_append.mp hp with h | h
  ·exact (ST.srt_mem p pts).mp (ce _ _ (List.mem_reverse.mp (List.dropLast_subset _ h)))
  ·exact (ST.srt_mem p pts).mp (List.mem_reverse.mp (ce _ _ (List.mem_reverse.mp (List.dropLast_subset _ h))))
theorem cW (pts:List Pt):(aa pts).length≤pts.length:=gi (av pts) (ar pts)
theorem fX (pts:List Pt):aa (aa pts)=aa pts:=by
 by_cases h2:2≤(ST.srt pts).length
 ·have hs:=cJ pts
  obtain ⟨mn,mx,t1,t2,e1,e2,m1,m2,hmn,hmx,i1,i2⟩:=qd hs h2
  have ec:=eo h2
  have mem1:∀ p∈ai (ST.srt pts),p∈aa pts:=fun p hp=> by
   rw [ec,e1,e2,List.tail_cons,List.tail_cons]
   rw [e1] at hp
   rcases List.mem_cons.mp hp with z | z
   ·rw [z]; exact List.mem_append_right _ (List.mem_reverse.mpr m2)
   ·exact List.mem_append_left _ (List.mem_reverse.mpr z)
  have mem2:∀ p∈ai (ST.srt pts).reverse,p∈aa pts:=fun p hp=> by
   rw [ec,e1,e2,List.tail_cons,List.tail_cons]
   rw [e2] at hp
   rcases List.mem_cons.mp hp with z | z
   ·rw [z]; exact List.mem_append_left _ (List.mem_reverse.mpr m1)
   ·exact List.mem_append_right _ (List.mem_reverse.mpr z)
  have hs':=cJ (aa pts)
  have sub:∀ p∈ST.srt (aa pts),p∈ST.srt pts:=fun p hp=> (ST.srt_mem p pts).mpr (ar pts p ((ST.srt_mem p _).mp hp))
  have q1:=jE hs hs' sub fun p hp=> (ST.srt_mem p _).mpr (mem1 p hp)
  have q2:=gY hs hs' sub fun p hp=> (ST.srt_mem p _).mpr (mem2 p hp)
  have len:2≤(ST.srt (aa pts)).length:=by
   have a1:mn∈ST.srt (aa pts):=(ST.srt_mem _ _).mpr (mem1 mn (by rw [e1]; exact List.mem_cons_of_mem _ m1))
   have a2:mx∈ST.srt (aa pts):=(ST.srt_mem _ _).mpr (mem1 mx (by rw [e1]; exact List.mem_cons_self))
   have ne:mn≠mx:=fun z=> by
    have nd:=av pts
    rw [ec,e1,e2,List.tail_cons,List.tail_cons,List.nodup_append] at nd
    exact nd.2.2 mn (List.mem_reverse.mpr m1) mx (List.mem_reverse.mpr m2) z
   have:=gi (l:=[mn,mx]) (m:=ST.srt (aa pts)) (by simp [ne]) (fun x hx=> by
    rcases List.mem_cons.mp hx with z | z
    ·rw [z]; exact a1
    ·rw [List.mem_singleton.mp z]; exact a2)
   exact this
  rw [eo len,q1,q2,← ec]
 ·have e:aa pts=ST.srt pts:=by
   unfold aa
   split
   ·rfl
   ·have e:ST.srt pts=[]:=List.length_eq_zero_iff.mp (by omega)
    rw [e]; rfl
  rw [e]
  have e3:ST.srt (ST.srt pts)=ST.srt pts:=ST.asc_srt (ST.srt_asc pts)
  unfold aa
  rw [e3]
  split
  ·rfl
  ·have e:ST.srt pts=[]:=List.length_eq_zero_iff.mp (by omega)
   rw [e]; rfl
end
section
variable {P:Program} {w:World} {K:PySem.W.Frag} {mg:Str→Option Value} {base:Heap}
def qW:List U→Out→Prop:=fun us o=> ∃ P Q R:P2,us=[pu P,pu Q,pu R]∧Szp 5000 P∧Szp 5000 Q∧Szp 5000 R∧o=.val (.int (sgn (ao P Q R)))
set_option maxHeartbeats 8000000 in
theorem pf (T:Txt K mg):bE P w K mg base (CXF P w) 2 T.a_turn T.d_turn ["P","Q","R"] (spU K (qW)):=by
 refine bU T.F_turn uQ (fun us o h=> ?_) (fun cdv A outer s H E O us o hr h=> ?_)
 ·obtain ⟨P,Q,R,rfl,⟨p1,p2⟩,⟨q1,q2⟩,⟨r1,r2⟩,rfl⟩:=h
  rfl
 obtain ⟨P,Q,R,rfl,⟨p1,p2⟩,⟨q1,q2⟩,⟨r1,r2⟩,rfl⟩:=h
 refine Ws.nox ?_
 refine ag (ca (aD ((vm T).mono (by decide)) hr rfl T.m_sign T.F_sign.kp T.b_sign ay (ae (bO (bD (bO (a_ (ac 1 rfl) af rfl rfl) (a_ (ac 0 rfl) af rfl rfl)) (bO (a_ (ac 2 rfl) af rfl rfl) (a_ (ac 0 rfl) af rfl rfl)) (by walk_at "mul")) (bD (bO (a_ (ac 1 rfl) af rfl rfl) (a_ (ac 0 rfl) af rfl rfl)) (bO (a_ (ac 2 rfl) af rfl rfl) (a_ (ac 0 rfl) af rfl rfl)) (by walk_at "mul"))) aq be) ⟨_,rfl,rfl⟩) ?_)
 exact rfl
def iR:List U→Out→Prop:=fun us o=> ∃ row:List P2,us=[lp row]∧(∀ p∈row,Szp 5000 p)∧row.length≤900∧o=.new ((ai row).reverse.map pu)
set_option maxHeartbeats 8000000 in
theorem gv (T:Txt K mg):bE P w K mg base (CXF P w) 3 T.a_left_bends T.d_left_bends ["row"] (spU K (iR)):=by
 refine bU T.F_left_bends eO (fun us o h=> ?_) (fun cdv A outer s H E O us o hr h=> ?_)
 ·obtain ⟨row,rfl,sz,hl,rfl⟩:=h
  rfl
 obtain ⟨row,rfl,sz,hl,rfl⟩:=h
 refine Ws.nox ?_
 refine ag (iT (i:=1) eO.nd rfl (Or.inl rfl) (hJ cg) ?_)
 refine ag (fe (fun st:List P2=> [some (.val (lp row)),some (.own (st.reverse.map pu)),none]) (fun i st=> st=ai (row.take i)) rfl PassesOwn.never (d4 (ac 0 rfl) (.inl rfl)) ?h0 ?hs ?hd)
 case h0=> exact ⟨[],rfl,rfl,rfl,trivial⟩
 case hs=>
  rintro H0 i x _ hx rfl
  obtain ⟨P,hP,mP,rfl⟩:=jZ hx
  have hi:i < row.length:=aB hP
  have sP:=sz P mP
  refine ⟨_,(fP (i:=2) eO.nd rfl (Or.inl rfl)),?_⟩
  have len0:=gb row i
  refine hV (fun ps=> SubP [some (.val (lp row)),some (.own ((aV P (ai (row.take i))).reverse.map pu)),some (.val (pu P))] ps) (iZ (fun s2:List P2=> [some (.val (lp row)),some (.own (s2.reverse.map pu)),some (.val (pu P))]) (fun m s2=> m=s2.length∧aV P s2=aV P (ai (row.take i))∧(∀ p∈s2,p∈row)∧s2.length≤i) PassesOwn.never ?h0 ?hs) ?hj
  case h0=> exact ⟨_,_,⟨rfl,rfl,fun q hq=> eU row i q hq,len0⟩,rfl,rfl,rfl,trivial⟩
  case hs=>
   rintro m s2 ⟨rfl,e2,sub,len2⟩
   match s2,e2,sub,len2 with
   | [],e2,sub,len2=>
    refine ⟨false,?_,fun h=> (nomatch h),fun h ps hps=> e2 ▸ hps⟩
    exact (Tw.t (jA (ba lS (fv 1 rfl rfl T.z_len) af) rfl))
   | [b],e2,sub,len2=>
    refine ⟨false,?_,fun h=> (nomatch h),fun h ps hps=> e2 ▸ hps⟩
    exact (Tw.t (jA (ba lS (fv 1 rfl rfl T.z_len) af) rfl))
   | b::a::r,e2,sub,len2=>
    have sa:=sz a (sub a (by simp))
    have sb:=sz b (sub b (by simp))
    have e1:decide ((1:Int) < ((((b::a::r).reverse.map pu).length:Nat):Int))=true:=decide_eq_true (by simp; omega)
    refine ⟨decide ((1:Int) < ((((b::a::r).reverse.map pu).length:Nat):Int)) && decide (sgn (ao a b P) < 1),?_,fun h=> ?_,fun h ps hps=> ?_⟩
    ·exact (Tw.t (pO (ba lS (fv 1 rfl rfl T.z_len) af) (fun hz=> (nM (ba n8 (aD ((pf T).mono (by decide)) hr rfl T.m_turn T.F_turn.kp T.b_turn ay (ae (oU 1 rfl (fy af) (vO b a r)) (ae (oU 1 rfl (fy af) (wc b (a::r))) (ae (ac 2 rfl) aq am) ci) ci) ⟨a,b,P,rfl,sa,sb,sP,rfl⟩) af)))))
    ·rw [e1,Bool.true_and,rR] at h
     have hd:=dTb h
     refine ag (vQ 1 rfl (by simp) (aZ ?_))
     refine ⟨_,a::r,?_,⟨rfl,?_,fun q hq=> sub q (List.mem_cons_of_mem _ hq),?_⟩,rfl,?_,rfl,trivial⟩
     ·simp
     ·rw [← e2]; conv=> rhs; unfold aV
      rw [if_pos hd]
     ·simp only [List.length_cons] at *; omega
     ·exact congrArg (fun l=> some (Sl.own l)) (by simp)
    ·rw [e1,Bool.true_and,rR] at h
     have hd:=dFb h
     have e3:aV P (b::a::r)=b::a::r:=by conv=> lhs; unfold aV
                                        rw [if_neg hd]
     rw [← e2,e3]
     exact hps
  case hj=>
   intro ps hps
   refine dR ?_ hps
   have e4:=ff hP
   have len3:=iE P (ai (row.take i))
   refine ag (eV 1 rfl (ac 2 rfl) (by rw [List.length_map,List.length_reverse]; exact bh (by omega)) (aZ ?_))
   refine ⟨_,rfl,rfl,?_,trivial⟩
   exact congrArg (fun l=> some (Sl.own l)) (by rw [e4]; simp)
 case hd=>
  rintro st ps hst hps
  refine dR ?_ hps
  refine ag (km 1 rfl ?_)
  rw [hst]
  simp
end
section
variable {P:Program} {w:World} {K:PySem.W.Frag} {mg:Str→Option Value} {base:Heap}
theorem tU {m:Nat} {pts:List P2} (h:∀ p∈pts,Szp m p):∀ p∈ST.srt pts,Szp m p:=fun p hp=> h p ((ST.srt_mem p pts).mp hp)
theorem g8 (row:List P2):(ai row).length≤row.length:=by
 have:=gb row row.length
 rwa [List.take_length] at this
def ou (C:Addr):List U→Out→Prop:=fun us o=> ∃ pts:List P2,us=[lp pts]∧(∀ p∈pts,Szp 5000 p)∧pts.length < 64∧o=(if pts=[] then .exc C else .new ((aa pts).map pu))
set_option maxHeartbeats 8000000 in
theorem rN (T:Txt K mg):bE P w K mg base (CXF P w) 4 T.a_field T.d_field ["points"] (spU K (ou T.c_NoField)):=by
 refine bU T.F_field fK (by rintro us o ⟨_,rfl,_⟩; rfl) (fun cdv A outer s H E O us o hr h=> ?_)
 obtain ⟨pts,rfl,sz,hl,rfl⟩:=h
 have hml:((pts.map pu).length:Int)=(pts.length:Int):=by rw [List.length_map]
 by_cases hne:pts=[]
 ·subst hne
  refine ag (iy (ba dy (bG (gu rfl) rfl T.z_len PySem.boot_len (ae (ac 0 rfl) aq am)) af) rfl ?_)
  refine ag (vn T.x_NoField rfl T.mx_NoField yh ?_)
  exact rfl
 ·have hpos:0 < pts.length:=List.length_pos_iff.mpr hne
  rw [if_neg hne]
  refine ag (eG (ba dy (bG (gu rfl) rfl T.z_len PySem.boot_len (ae (ac 0 rfl) aq am)) af) (by rw [hml]; exact decide_eq_false (by omega)) (aZ ?_))
  have sl:=ST.srt_len pts
  have hms:(((ST.srt pts).map pu).length:Int)=((ST.srt pts).length:Int):=by rw [List.length_map]
  have szs:=tU sz
  refine Ws.nox ?_
  by_cases h1:(ST.srt pts).length=1
  ·refine ag (iT (i:=1) fK.nd rfl (Or.inl rfl) (fY rfl (gH hr) rfl T.z_sorted rfl T.z_set (ac 0 rfl) hl am) ?_)
   refine ag (iy (ba dy (fv 1 rfl rfl T.z_len) af) (by rw [hms]; exact decide_eq_true (by omega)) ?_)
   refine ag (km 1 rfl ?_)
   show Out.new _=Out.new _
   unfold aa
   rw [if_pos h1]
  ·refine ag (bu (i:=1) fK.nd rfl (Or.inl rfl) (EvN.ev (fY rfl (gH hr) rfl T.z_sorted rfl T.z_set (ac 0 rfl) hl am)) ?_)
   refine ag (eG (ba dy (bG (gu rfl) rfl T.z_len PySem.boot_len (ae (ac 1 rfl) aq am)) af) (by rw [hms]; exact decide_eq_false (by omega)) (aZ ?_))
   have b1:=g8 (ST.srt pts)
   have b2:=g8 (ST.srt pts).reverse
   rw [List.length_reverse] at b2
   refine ag (bu (i:=2) fK.nd rfl (Or.inl rfl) (EvN.ev (cE ((gv T).mono (by decide)) hr rfl T.m_left_bends T.F_left_bends.kp T.b_left_bends ay (ae (ac 1 rfl) aq am) ⟨ST.srt pts,rfl,szs,by omega,rfl⟩)) ?_)
   refine ag (bu (i:=3) fK.nd rfl (Or.inl rfl) (EvN.ev (cE ((gv T).mono (by decide)) hr rfl T.m_left_bends T.F_left_bends.kp T.b_left_bends ay (ae (EvN.ev (ya (ac 1 rfl) (fy af) (.inl rfl))) aq ci) ⟨(ST.srt pts).reverse,by rw [lp,List.map_reverse],fun p hp=> szs p (List.mem_reverse.mp hp),by rw [List.length_reverse]; omega,rfl⟩)) ?_)
   refine ag (fE (oX (EvN.ev (fm (ac 2 rfl) gD (gC (fy af)) (.inl rfl))) (EvN.ev (fm (ac 3 rfl) gD (gC (fy af)) (.inl rfl))) (by rw [fS,fS,List.length_map,List.length_map,List.length_dropLast,List.length_dropLast,List.length_reverse,List.length_reverse]; exact Nat.le_of_lt (bh (by omega)))) ?_)
   show Out.new _=Out.new _
   unfold aa
   rw [if_neg h1,fS,fS,← List.map_append]
end
section
variable {P:Program} {w:World} {K:PySem.W.Frag} {mg:Str→Option Value} {base:Heap}
def qD:List U→Out→Prop:=fun us o=> ∃ P Q R:P2,us=[pu P,pu Q,pu R]∧Szp 5000 P∧Szp 5000 Q∧Szp 5000 R∧o=.val (.int (ao P Q R))
set_option maxHeartbeats 8000000 in
theorem gQ (T:Txt K mg):bE P w K mg base (CXF P w) 1 T.a__law_side T.d__law_side ["a","b","p"] (spU K (qD)):=by
 refine bU T.F__law_side kw (fun us o h=> ?_) (fun cdv A outer s H E O us o hr h=> ?_)
 ·obtain ⟨P,Q,R,rfl,⟨p1,p2⟩,⟨q1,q2⟩,⟨r1,r2⟩,rfl⟩:=h
  rfl
 obtain ⟨P,Q,R,rfl,⟨p1,p2⟩,⟨q1,q2⟩,⟨r1,r2⟩,rfl⟩:=h
 refine Ws.nox ?_
 refine ag (ca (bO (bD (bO (a_ (ac 1 rfl) af rfl rfl) (a_ (ac 0 rfl) af rfl rfl)) (bO (a_ (ac 2 rfl) af rfl rfl) (a_ (ac 0 rfl) af rfl rfl)) (by walk_at "mul")) (bD (bO (a_ (ac 1 rfl) af rfl rfl) (a_ (ac 0 rfl) af rfl rfl)) (bO (a_ (ac 2 rfl) af rfl rfl) (a_ (ac 0 rfl) af rfl rfl)) (by walk_at "mul"))) ?_)
 exact rfl
set_option maxHeartbeats 8000000 in
theorem gR (T:Txt K mg):bE P w K mg base (CXF P w) 2 T.a__law_half T.d__law_half ["points"] (spU K (iR)):=by
 refine bU T.F__law_half fj (fun us o h=> ?_) (fun cdv A outer s H E O us o hr h=> ?_)
 ·obtain ⟨row,rfl,sz,hl,rfl⟩:=h
  rfl
 obtain ⟨row,rfl,sz,hl,rfl⟩:=h
 refine Ws.nox ?_
 refine ag (iT (i:=1) fj.nd rfl (Or.inl rfl) (hJ cg) ?_)
 refine ag (fe (fun st:List P2=> [some (.val (lp row)),some (.own (st.reverse.map pu)),none]) (fun i st=> st=ai (row.take i)) rfl PassesOwn.never (d4 (ac 0 rfl) (.inl rfl)) ?h0 ?hs ?hd)
 case h0=> exact ⟨[],rfl,rfl,rfl,trivial⟩
 case hs=>
  rintro H0 i x _ hx rfl
  obtain ⟨P,hP,mP,rfl⟩:=jZ hx
  have hi:i < row.length:=aB hP
  have sP:=sz P mP
  refine ⟨_,(fP (i:=2) fj.nd rfl (Or.inl rfl)),?_⟩
  have len0:=gb row i
  refine hV (fun ps=> SubP [some (.val (lp row)),some (.own ((aV P (ai (row.take i))).reverse.map pu)),some (.val (pu P))] ps) (iZ (fun s2:List P2=> [some (.val (lp row)),some (.own (s2.reverse.map pu)),some (.val (pu P))]) (fun m s2=> m=s2.length∧aV P s2=aV P (ai (row.take i))∧(∀ p∈s2,p∈row)∧s2.length≤i) PassesOwn.never ?h0 ?hs) ?hj
  case h0=> exact ⟨_,_,⟨rfl,rfl,fun q hq=> eU row i q hq,len0⟩,rfl,rfl,rfl,trivial⟩
  case hs=>
   rintro m s2 ⟨rfl,e2,sub,len2⟩
   match s2,e2,sub,len2 with
   | [],e2,sub,len2=>
    refine ⟨false,?_,fun h=> (nomatch h),fun h ps hps=> e2 ▸ hps⟩
    exact (Tw.t (jA (ba lS (fv 1 rfl rfl T.z_len) af) rfl))
   | [b],e2,sub,len2=>
    refine ⟨false,?_,fun h=> (nomatch h),fun h ps hps=> e2 ▸ hps⟩
    exact (Tw.t (jA (ba lS (fv 1 rfl rfl T.z_len) af) rfl))
   | b::a::r,e2,sub,len2=>
    have sa:=sz a (sub a (by simp))
    have sb:=sz b (sub b (by simp))
    have e1:decide ((1:Int) < ((((b::a::r).reverse.map pu).length:Nat):Int))=true:=decide_eq_true (by simp; omega)
    refine ⟨decide ((1:Int) < ((((b::a::r).reverse.map pu).length:Nat):Int)) && decide (ao a b P≤0),?_,fun h=> ?_,fun h ps hps=> ?_⟩
    ·exact (Tw.t (pO (ba lS (fv 1 rfl rfl T.z_len) af) (fun hz=> (nM (ba yV (aD ((gQ T).mono (by decide)) hr rfl T.m__law_side T.F__law_side.kp T.b__law_side ay (ae (oU 1 rfl (fy af) (vO b a r)) (ae (oU 1 rfl (fy af) (wc b (a::r))) (ae (ac 2 rfl) aq am) ci) ci) ⟨a,b,P,rfl,sa,sb,sP,rfl⟩) af)))))
    ·rw [e1,Bool.true_and] at h
     have hd:=dTb h
     refine ag (vQ 1 rfl (by simp) (aZ ?_))
     refine ⟨_,a::r,?_,⟨rfl,?_,fun q hq=> sub q (List.mem_cons_of_mem _ hq),?_⟩,rfl,?_,rfl,trivial⟩
     ·simp
     ·rw [← e2]; conv=> rhs; unfold aV
      rw [if_pos hd]
     ·simp only [List.length_cons] at *; omega
     ·exact congrArg (fun l=> some (Sl.own l)) (by simp)
    ·rw [e1,Bool.true_and] at h
     have hd:=dFb h
     have e3:aV P (b::a::r)=b::a::r:=by conv=> lhs; unfold aV
                                        rw [if_neg hd]
     rw [← e2,e3]
     exact hps
  case hj=>
   intro ps hps
   refine dR ?_ hps
   have e4:=ff hP
   have len3:=iE P (ai (row.take i))
   refine ag (eV 1 rfl (ac 2 rfl) (by rw [List.length_map,List.length_reverse]; exact bh (by omega)) (aZ ?_))
   refine ⟨_,rfl,rfl,?_,trivial⟩
   exact congrArg (fun l=> some (Sl.own l)) (by rw [e4]; simp)
 case hd=>
  rintro st ps hst hps
  refine dR ?_ hps
  refine ag (km 1 rfl ?_)
  rw [hst]
  simp
def kX:List U→Out→Prop:=fun us o=> ∃ pts:List P2,us=[lp pts]∧(∀ p∈pts,Szp 5000 p)∧pts.length < 64∧o=.new ((aa pts).map pu)
set_option maxHeartbeats 8000000 in
theorem dF (T:Txt K mg):bE P w K mg base (CXF P w) 3 T.a__law_corners T.d__law_corners ["points"] (spU K (kX)):=by
 refine bU T.F__law_corners dD (fun us o h=> ?_) (fun cdv A outer s H E O us o hr h=> ?_)
 ·obtain ⟨pts,rfl,sz,hl,rfl⟩:=h
  rfl
 obtain ⟨pts,rfl,sz,hl,rfl⟩:=h
 refine Ws.nox ?_
 have sl:=ST.srt_len pts
 have hms:(((ST.srt pts).map pu).length:Int)=((ST.srt pts).length:Int):=by rw [List.length_map]
 have szs:=tU sz
 by_cases h1:(ST.srt pts).length < 2
 ·refine ag (iT (i:=1) dD.nd rfl (Or.inl rfl) (fY rfl (gH hr) rfl T.z_sorted rfl T.z_set (ac 0 rfl) hl am) ?_)
  refine ag (iy (ba n8 (fv 1 rfl rfl T.z_len) af) (by rw [hms]; exact decide_eq_true (by omega)) ?_)
  refine ag (km 1 rfl ?_)
  show Out.new _=Out.new _
  unfold aa
  by_cases h0:(ST.srt pts).length=1
  ·rw [if_pos h0]
  ·have e:ST.srt pts=[]:=List.length_eq_zero_iff.mp (by omega)
   rw [if_neg h0,e]; rfl
 ·refine ag (bu (i:=1) dD.nd rfl (Or.inl rfl) (EvN.ev (fY rfl (gH hr) rfl T.z_sorted rfl T.z_set (ac 0 rfl) hl am)) ?_)
  refine ag (eG (ba n8 (bG (gu rfl) rfl T.z_len PySem.boot_len (ae (ac 1 rfl) aq am)) af) (by rw [hms]; exact decide_eq_false (by omega)) (aZ ?_))
  have b1:=g8 (ST.srt pts)
  have b2:=g8 (ST.srt pts).reverse
  rw [List.length_reverse] at b2
  refine ag (fE (oX (EvN.ev (fm (EvN.ev (cE ((gR T).mono (by decide)) hr rfl T.m__law_half T.F__law_half.kp T.b__law_half ay (ae (ac 1 rfl) aq am) ⟨ST.srt pts,rfl,szs,by omega,rfl⟩)) gD (gC (fy af)) (.inl rfl))) (EvN.ev (fm (EvN.ev (cE ((gR T).mono (by decide)) hr rfl T.m__law_half T.F__law_half.kp T.b__law_half ay (ae (EvN.ev (qI rfl rfl T.z_list rfl T.z_reversed (ac 1 rfl) am)) aq bp) ⟨(ST.srt pts).reverse,by rw [lp,List.map_reverse],fun p hp=> szs p (List.mem_reverse.mp hp),by rw [List.length_reverse]; omega,rfl⟩)) gD (gC (fy af)) (.inl rfl))) (by rw [fS,fS,List.length_map,List.length_map,List.length_dropLast,List.length_dropLast,List.length_reverse,List.length_reverse]; exact Nat.le_of_lt (bh (by omega)))) ?_)
  show Out.new _=Out.new _
  unfold aa
  rw [if_neg (by omega),fS,fS,← List.map_append]
end
section
variable {P:Program} {w:World} {K:PySem.W.Frag} {mg:Str→Option Value} {base:Heap}
theorem iW {l m:List Pt} (h:ST.srt l=ST.srt m):aa l=aa m:=by unfold aa; rw [h]
theorem j6 {l m:List Pt} (h:∀ z,z∈l↔z∈m):ST.srt l=ST.srt m:=ST.asc_one (ST.srt_asc l) (ST.srt_asc m) fun z=> by rw [ST.srt_mem,ST.srt_mem]; exact h z
theorem bZ {pts:List Pt} (h:¬ 2≤(ST.srt pts).length):aa pts=ST.srt pts:=by
 unfold aa
 split
 ·rfl
 ·have e:ST.srt pts=[]:=List.length_eq_zero_iff.mp (by omega)
  rw [e]; rfl
section
variable {f:Pt→Pt}
theorem u_ (hf:∀ a b,plt a b→plt (f a) (f b)) (l:List Pt):ST.srt (l.map f)=(ST.srt l).map f:=by
 refine ST.asc_one (ST.srt_asc _) (gX.mpr (List.pairwise_map.mpr ((cJ l).imp fun {a b} h=> hf a b h))) fun z=> ?_
 rw [ST.srt_mem,List.mem_map,List.mem_map]
 exact ⟨fun ⟨x,hx,e⟩=> ⟨x,(ST.srt_mem x l).mpr hx,e⟩,fun ⟨x,hx,e⟩=> ⟨x,(ST.srt_mem x l).mp hx,e⟩⟩
theorem oV (hd:∀ a b c,ao (f a) (f b) (f c)≤0↔ao a b c≤0) (P:Pt):∀ st:List Pt,aV (f P) (st.map f)=(aV P st).map f
 | []=> rfl
 | [_]=> rfl
 | b::a::r=> by
  show aV (f P) (f b::f a::r.map f)=_
  unfold aV
  by_cases h:ao a b P≤0
  ·rw [if_pos h,if_pos ((hd a b P).mpr h)]; exact oV hd P (a::r)
  ·rw [if_neg h,if_neg fun z=> h ((hd a b P).mp z)]; rfl
theorem j5 (hd:∀ a b c,ao (f a) (f b) (f c)≤0↔ao a b c≤0) (row:List Pt):ai (row.map f)=(ai row).map f:=by
 have key:∀ (l:List Pt) (st:List Pt),(l.map f).foldl (fun st P=> P::aV P st) (st.map f)=(l.foldl (fun st P=> P::aV P st) st).map f:=by
  intro l
  induction l with
  | nil=> intro st; rfl
  | cons p r ih=>
   intro st
   rw [List.map_cons,List.foldl_cons,List.foldl_cons,oV hd]
   exact ih (p::aV p st)
 exact key row []
theorem jk (hf:∀ a b,plt a b→plt (f a) (f b)) (hd:∀ a b c,ao (f a) (f b) (f c)≤0↔ao a b c≤0) (l:List Pt):aa (l.map f)=(aa l).map f:=by
 unfold aa
 rw [u_ hf,List.length_map,← List.map_reverse,j5 hd,j5 hd]
 split
 ·rfl
 ·rw [List.map_append,List.map_dropLast,List.map_dropLast,List.map_reverse,List.map_reverse]
end
def scl (k:Int) (p:Pt):Pt:=(k * p.1,k * p.2)
theorem vx {k:Int} (hk:0 < k) (a b:Pt) (h:plt a b):plt (scl k a) (scl k b):=by
 unfold plt scl at *
 rcases h with h | ⟨h1,h2⟩
 ·exact .inl (Int.mul_lt_mul_of_pos_left h hk)
 ·exact .inr ⟨by rw [h1],Int.mul_lt_mul_of_pos_left h2 hk⟩
theorem vK {k:Int} (hk:0 < k) (a b c:Pt):ao (scl k a) (scl k b) (scl k c)≤0↔ao a b c≤0:=by
 have e:ao (scl k a) (scl k b) (scl k c)=(k * k) * ao a b c:=by unfold ao scl; grind
 have kk:0 < k * k:=Int.mul_pos hk hk
 rw [e]
 constructor
 ·intro h
  refine Classical.byContradiction fun z=> ?_
  have:=Int.mul_pos kk (show 0 < ao a b c by omega)
  omega
 ·intro h
  have:=Int.mul_nonneg (show 0≤k * k by omega) (show 0≤- ao a b c by omega)
  rw [Int.mul_neg] at this
  omega
def zk:List Int→Int
 | []=> 0
 | a::l=> l.foldl min a
abbrev gp (l:List P2) (i:Nat):P2:=l.getD i (0,0)
def nxt (l:List P2) (i:Nat):P2:=gp l ((i+1) % l.length)
def sdl (l:List P2):List (P2×P2):=(List.range l.length).map fun i=> (gp l i,nxt l i)
abbrev pq (s:P2×P2):U:=.tup [pu s.1,pu s.2]
theorem bT {l:List P2} {i:Nat} (h:i < l.length):l[i]?=some (gp l i):=by simp [gp,h]
theorem bK {l:List P2} {i:Nat} (h:i < l.length):gp l i∈l:=List.mem_of_getElem? (bT h)
theorem v_ (l:List U):gy l (some 1) none=l.drop 1:=by
 unfold gy HT.sIx
 cases l with
 | nil=> simp
 | cons a l=> simp
theorem vW (l:List U):gy l none (some 1)=l.take 1:=by
 unfold gy HT.sIx
 cases l with
 | nil=> simp
 | cons a l=> simp
theorem rz (l:List P2):List.zipWith (fun a b=> U.tup [a,b]) (l.map pu) (gy (l.map pu) (some 1) none++gy (l.map pu) none (some 1))=(sdl l).map pq:=by
 rw [v_,vW]
 apply List.ext_getElem?
 intro i
 unfold sdl
 by_cases hi:i < l.length
 ·have e1:(l.map pu)[i]?=some (pu (gp l i)):=by rw [List.getElem?_map,bT hi]; rfl
  have e2:((l.map pu).drop 1++(l.map pu).take 1)[i]?=some (pu (nxt l i)):=by
   unfold nxt
   by_cases hj:i+1 < l.length
   ·rw [List.getElem?_append_left (by simp; omega),List.getElem?_drop,Nat.add_comm,Nat.mod_eq_of_lt hj,List.getElem?_map,bT hj]; rfl
   ·have e:i+1=l.length:=by omega
    rw [List.getElem?_append_right (by simp; omega),e,Nat.mod_self]
    rw [show i - ((l.map pu).drop 1).length=0 by simp; omega,List.getElem?_take_of_lt (by omega),List.getElem?_map,bT (by omega)]; rfl
  rw [List.getElem?_zipWith_eq_some.mpr ⟨_,_,e1,e2,rfl⟩,List.map_map,List.getElem?_map,List.getElem?_range hi]
  rfl
 ·rw [List.getElem?_eq_none (by simp; omega),List.getElem?_eq_none (by simp; omega)]
theorem k_ (l:List P2):(sdl l).length=l.length:=by simp [sdl]
theorem dH {l:List P2} {s:P2×P2} (h:s∈sdl l):s.1∈l∧s.2∈l:=by
 obtain ⟨i,hi,rfl⟩:=List.mem_map.mp h
 have hi':=List.mem_range.mp hi
 exact ⟨bK hi',bK (Nat.mod_lt _ (by omega))⟩
def nw:List U→Out→Prop:=fun us o=> ∃ l:List P2,us=[lp l]∧l.length≤900∧o=.new ((sdl l).map pq)
set_option maxHeartbeats 8000000 in
theorem m7 (T:Txt K mg):bE P w K mg base (CXF P w) 1 T.a_sides T.d_sides ["land"] (spU K (nw)):=by
 refine bU T.F_sides sr (fun us o h=> ?_) (fun cdv A outer s H E O us o hr h=> ?_)
 ·obtain ⟨l,rfl,hl,rfl⟩:=h
  rfl
 obtain ⟨l,rfl,hl,rfl⟩:=h
 refine Ws.nox ?_
 have hlen:(gy (l.map pu) (some 1) none++gy (l.map pu) none (some 1)).length=l.length:=by rw [v_,vW]; simp; omega
 refine ag (fE (qg rfl rfl T.z_list rfl T.z_zip (ac 0 rfl) (.inl rfl) (EvN.ev (oX (EvN.ev (fm (ac 0 rfl) (gC af) gD (.inl rfl))) (EvN.ev (fm (ac 0 rfl) gD (gC af) (.inl rfl))) (by rw [← List.length_append,hlen]; exact Nat.le_of_lt (bh (by omega))))) (.inl rfl) (by rw [hlen,List.length_map]) (by rw [List.length_map]; omega) am be) ?_)
 rw [rz]
theorem y6 {l:List P2} (h:0 < l.length):atI (l.map pu) 0=some (pu (gp l 0)):=lu (i:=0) rfl (by rw [List.getElem?_map,bT h]; rfl)
theorem vc {l:List P2} (h:0 < l.length):atI (l.map pu) (-1)=some (pu (gp l (l.length - 1))):=by
 have e:ixN (l.map pu).length (-1)=some (l.length - 1):=by
  unfold ixN
  simp
  omega
 unfold atI
 rw [e]
 show (l.map pu)[l.length - 1]?=_
 rw [List.getElem?_map,bT (by omega)]; rfl
theorem mK {done:List Pt}:∀ {st:List Pt},gr done st→∀ (k:Nat) {a b:Pt},st[k]?=some b→st[k+1]?=some a→∀ q∈done,0≤ao a b q
 | [],_,k,_,_,h,_=> by simp at h
 | [_],_,k,_,_,_,h=> by simp at h
 | x::y::r,C,0,a,b,h1,h2=> by
  simp at h1 h2
  subst h1; subst h2
  exact C.1
 | x::y::r,C,k+1,a,b,h1,h2=> mK C.2 k (by simpa using h1) (by simpa using h2)
theorem lY:∀ {st:List Pt},iw st→∀ (k:Nat) {a b c:Pt},st[k]?=some c→st[k+1]?=some b→st[k+2]?=some a→0 < ao a b c
 | [],_,k,_,_,_,h,_,_=> by simp at h
 | [_],_,k,_,_,_,_,h,_=> by simp at h
 | [_,_],_,k,_,_,_,_,_,h=> by simp at h
 | x::y::z::r,C,0,a,b,c,h1,h2,h3=> by
  simp at h1 h2 h3
  subst h1; subst h2; subst h3
  exact C.1
 | x::y::z::r,C,k+1,a,b,c,h1,h2,h3=> lY C.2 k (by simpa using h1) (by simpa using h2) (by simpa using h3)
theorem rC {st:List Pt} {i:Nat} {a b:Pt} (h1:st.reverse[i]?=some a) (h2:st.reverse[i+1]?=some b):∃ k,st[k]?=some b∧st[k+1]?=some a:=by
 have l2:i+1 < st.length:=by have:=(List.getElem?_eq_some_iff.mp h2).1; simpa using this
 rw [List.getElem?_reverse (by omega)] at h1
 rw [List.getElem?_reverse l2] at h2
 exact ⟨st.length - 1 - (i+1),h2,by rw [← h1]; congr 1; omega⟩
theorem qL {st:List Pt} {i:Nat} {a b c:Pt} (h1:st.reverse[i]?=some a) (h2:st.reverse[i+1]?=some b) (h3:st.reverse[i+2]?=some c):∃ k,st[k]?=some c∧st[k+1]?=some b∧st[k+2]?=some a:=by
 have l3:i+2 < st.length:=by have:=(List.getElem?_eq_some_iff.mp h3).1; simpa using this
 rw [List.getElem?_reverse (by omega)] at h1
 rw [List.getElem?_reverse (by omega)] at h2
 rw [List.getElem?_reverse l3] at h3
 exact ⟨st.length - 1 - (i+2),h3,by rw [← h2]; congr 1; omega,by rw [← h1]; congr 1; omega⟩
theorem fI {row:List Pt} (hs:row.Pairwise plt) (h:row≠[]) {i:Nat} {a b:Pt} (h1:(ai row).reverse[i]?=some a) (h2:(ai row).reverse[i+1]?=some b):∀ q∈row,0≤ao a b q:=by
 obtain ⟨k,e1,e2⟩:=rC h1 h2
 exact mK (bV hs h).1.cover k e1 e2
theorem gF {row:List Pt} (hs:row.Pairwise plt) (h:row≠[]) {i:Nat} {a b c:Pt} (h1:(ai row).reverse[i]?=some a) (h2:(ai row).reverse[i+1]?=some b) (h3:(ai row).reverse[i+2]?=some c):0 < ao a b c:=by
 obtain ⟨k,e1,e2,e3⟩:=qL h1 h2 h3
 exact lY (bV hs h).1.turns k e1 e2 e3
theorem e_ {row:List Pt} {i:Nat} {a:Pt} (h1:(ai row.reverse).reverse[i]?=some a):(ai (row.reverse.map ng)).reverse[i]?=some (ng a):=by
 rw [bJ,← List.map_reverse,List.getElem?_map] at h1
 cases e:(ai (row.reverse.map ng)).reverse[i]? with
 | none=> rw [e] at h1; cases h1
 | some z=> rw [e] at h1; cases h1; rw [gs]
theorem jg {row:List Pt} (hs:row.Pairwise plt) (h:row≠[]) {i:Nat} {a b:Pt} (h1:(ai row.reverse).reverse[i]?=some a) (h2:(ai row.reverse).reverse[i+1]?=some b):∀ q∈row,0≤ao a b q:=fun q hq=> by
 have:=fI (df hs) (by simpa using h) (e_ h1) (e_ h2) (ng q) (List.mem_map_of_mem (List.mem_reverse.mpr hq))
 rwa [ju] at this
theorem ke {row:List Pt} (hs:row.Pairwise plt) (h:row≠[]) {i:Nat} {a b c:Pt} (h1:(ai row.reverse).reverse[i]?=some a) (h2:(ai row.reverse).reverse[i+1]?=some b) (h3:(ai row.reverse).reverse[i+2]?=some c):0 < ao a b c:=by
 have:=gF (df hs) (by simpa using h) (e_ h1) (e_ h2) (e_ h3)
 rwa [ju] at this
theorem t9 {u1 u2 v1 v2 w1 w2:Int} (hu:lpos u1 u2) (hv:lpos v1 v2) (h0:u1 * v2 - u2 * v1=0) (h1:u1 * w2 - u2 * w1≤0) (h2:0≤v1 * w2 - v2 * w1):u1 * w2 - u2 * w1=0∧v1 * w2 - v2 * w1=0:=by
 have e1:v1 * (u1 * w2 - u2 * w1)=u1 * (v1 * w2 - v2 * w1):=by grind
 have e2:v2 * (u1 * w2 - u2 * w1)=u2 * (v1 * w2 - v2 * w1):=by grind
 have fin:∀ {s t A B:Int},0 < s→0 < t→s * A=t * B→A≤0→0≤B→A=0∧B=0:=fun {s t A B} hs ht e ha hb=> by
  have k1:s * A≤0:=Int.mul_nonpos_of_nonneg_of_nonpos (by omega) ha
  have k2:0≤t * B:=Int.mul_nonneg (by omega) hb
  have z1:s * A=0:=by omega
  have z2:t * B=0:=by omega
  refine ⟨(Int.mul_eq_zero.mp z1).resolve_left (by omega),(Int.mul_eq_zero.mp z2).resolve_left (by omega)⟩
 rcases hu with hu | ⟨hu,hu2⟩
 ·rcases hv with hv | ⟨hv,hv2⟩
  ·exact fin hv hu e1 h1 h2
  ·rw [hv] at h0
   have:=Int.mul_pos hu hv2
   omega
 ·rcases hv with hv | ⟨hv,hv2⟩
  ·rw [hu] at h0
   have:=Int.mul_pos hu2 hv
   omega
  ·exact fin hv2 hu2 e2 h1 h2
theorem qm {a m c:Pt} (ha:plt a m) (hc:plt c m) (h:ao a m c=0) {q:Pt} (h1:0≤ao a m q) (h2:0≤ao m c q):ao a m q=0∧ao m c q=0:=by
 have k:=t9 (w1:=m.1 - q.1) (w2:=m.2 - q.2) (bg ha) (bg hc) (by unfold ao at h; grind) (by unfold ao at h1; grind) (by unfold ao at h2; grind)
 unfold ao
 exact ⟨by grind,by grind⟩
theorem u8 (a b c:Pt):ao a b c=ao b c a:=by unfold ao; grind
theorem yH {row:List Pt} (hs:row.Pairwise plt) (hne:row≠[]) {i:Nat} {a m c:Pt} (h1:(ai row).reverse[i]?=some a) (h2:(ai row).reverse[i+1]?=some m) (hl:(ai row).length=i+2)
  (h3:(ai row.reverse).reverse[0]?=some m) (h4:(ai row.reverse).reverse[1]?=some c) (ha:plt a m) (hc:plt c m) (big:2 < (ai row).length∨2 < (ai row.reverse).length):0 < ao a m c:=by
 have mem:∀ {j:Nat} {p:Pt},(ai row).reverse[j]?=some p→p∈row:=fun h=> ce row _ (List.mem_reverse.mp (List.mem_of_getElem? h))
 have memR:∀ {j:Nat} {p:Pt},(ai row.reverse).reverse[j]?=some p→p∈row:=fun h=> List.mem_reverse.mp (ce _ _ (List.mem_reverse.mp (List.mem_of_getElem? h)))
 have cv:=fI hs hne h1 h2
 have cb:=jg hs hne h3 h4
 have h0:=cv c (memR h4)
 rcases Int.lt_or_eq_of_le h0 with z | z
 ·exact z
 ·exfalso
  have flat:∀ q∈row,ao a m q=0∧ao m c q=0:=fun q hq=> qm ha hc z.symm (cv q hq) (cb q hq)
  rcases big with b | b
  ·have hi:0 < i:=by omega
   have hx:i - 1 < (ai row).reverse.length:=by simp; omega
   have e:=List.getElem?_eq_getElem hx
   have t:=gF hs hne e (by rw [Nat.sub_add_cancel hi]; exact h1) (by rw [show i - 1+2=i+1 by omega]; exact h2)
   rw [u8,(flat _ (mem e)).1] at t
   omega
  ·have hx:2 < (ai row.reverse).reverse.length:=by simpa using b
   have e:=List.getElem?_eq_getElem hx
   have t:=ke hs hne h3 h4 e
   rw [(flat _ (memR e)).2] at t
   omega
structure xA (row T B:List Pt) (mn mx:Pt):Prop where
 t0:T[0]?=some mn
 t1:T[T.length - 1]?=some mx
 b0:B[0]?=some mx
 b1:B[B.length - 1]?=some mn
 lt:2≤T.length
 lb:2≤B.length
 least:∀ p∈row,p=mn∨plt mn p
 most:∀ p∈row,p=mx∨plt p mx
theorem vS {l:List Pt}:l.reverse[0]?=l.getLast?:=by rw [List.getLast?_eq_head?_reverse,List.head?_eq_getElem?]
theorem vX {l:List Pt}:l.reverse[l.reverse.length - 1]?=l.head?:=by rw [← List.getLast?_eq_getElem?,List.getLast?_reverse]
theorem ways {row:List Pt} (hs:row.Pairwise plt) (h2:2≤row.length):∃ mn mx,xA row (ai row).reverse (ai row.reverse).reverse mn mx:=by
 have hne:row≠[]:=fun z=> by rw [z] at h2; simp at h2
 obtain ⟨mn,mx,t1,t2,e1,e2,m1,m2,least,most,_,_⟩:=qd hs h2
 obtain ⟨K,hl,hh⟩:=bV hs hne
 obtain ⟨KR,hlR,hhR⟩:=bV (df hs) (by simpa using hne)
 have l1:2≤(ai row).length:=by rw [e1]; have:=List.length_pos_of_mem m1; simp; omega
 have l2:2≤(ai row.reverse).length:=by rw [e2]; have:=List.length_pos_of_mem m2; simp; omega
 have hd:row.head?=some row[0]:=by rw [List.head?_eq_getElem?]; exact List.getElem?_eq_getElem (by omega)
 have ld:row.getLast?=some row[row.length - 1]:=by rw [List.getLast?_eq_getElem?]; exact List.getElem?_eq_getElem (by omega)
 have q1:row[0]=mn:=by
  have hb:=hhR
  rw [List.getLast?_map,List.getLast?_reverse,hd] at hb
  have:(ai row.reverse).head?=some row[0]:=by rw [bJ,List.head?_map,hb]; simp [gs]
  rw [e2] at this
  exact (Option.some.inj this).symm
 have q2:row[row.length - 1]=mx:=by
  rw [ld,e1] at hh
  exact (Option.some.inj hh).symm
 refine ⟨mn,mx,?_,?_,?_,?_,by simpa using l1,by simpa using l2,least,most⟩
 ·rw [vS,hl,hd,q1]
 ·rw [vX,hh,ld,q2]
 ·rw [vS,bJ,List.getLast?_map,hlR,List.head?_map,List.head?_reverse,ld,q2]; simp [gs]
 ·rw [vX,e2]; rfl
section
variable {row T B:List Pt} {mn mx:Pt}
theorem fR (W:xA row T B mn mx) {k:Nat} (hk:k≤T.length - 1):(T.dropLast++B.dropLast)[k % (T.dropLast++B.dropLast).length]?=T[k]?:=by
 have h1:=W.lt
 have h2:=W.lb
 have hn:(T.dropLast++B.dropLast).length=T.length - 1+(B.length - 1):=by simp
 rw [hn,Nat.mod_eq_of_lt (by omega)]
 by_cases h:k < T.length - 1
 ·rw [List.getElem?_append_left (by simpa using h),List.getElem?_dropLast,if_pos h]
 ·obtain rfl:k=T.length - 1:=by omega
  rw [List.getElem?_append_right (by simp),List.length_dropLast,Nat.sub_self,List.getElem?_dropLast,if_pos (by omega),W.b0,W.t1]
theorem iK (W:xA row T B mn mx) {k:Nat} (h0:T.length - 1≤k) (hk:k≤T.length - 1+(B.length - 1)):(T.dropLast++B.dropLast)[k % (T.dropLast++B.dropLast).length]?=B[k - (T.length - 1)]?:=by
 have h1:=W.lt
 have h2:=W.lb
 have hn:(T.dropLast++B.dropLast).length=T.length - 1+(B.length - 1):=by simp
 by_cases h:k < T.length - 1+(B.length - 1)
 ·rw [hn,Nat.mod_eq_of_lt h,List.getElem?_append_right (by simpa using h0),List.length_dropLast,List.getElem?_dropLast,if_pos (by omega)]
 ·obtain rfl:k=T.length - 1+(B.length - 1):=by omega
  have:=fR W (k:=0) (by omega)
  rw [Nat.zero_mod] at this
  rw [hn,Nat.mod_self,this,W.t0,show T.length - 1+(B.length - 1) - (T.length - 1)=B.length - 1 by omega,W.b1]
end
theorem eI {l:List Pt} {i:Nat} (h:i < l.length):∃ a,l[i]?=some a:=⟨_,List.getElem?_eq_getElem h⟩
theorem bj {pts:List Pt} (h2:2≤(ST.srt pts).length) {i:Nat} (hi:i < (aa pts).length):∃ a b,(aa pts)[i]?=some a∧(aa pts)[(i+1) % (aa pts).length]?=some b∧(∀ p∈pts,0≤ao a b p)∧(2 < (aa pts).length→∃ c,(aa pts)[(i+2) % (aa pts).length]?=some c∧0 < ao a b c):=by
 have hs:=cJ pts
 have hne:ST.srt pts≠[]:=fun z=> by rw [z] at h2; simp at h2
 obtain ⟨mn,mx,W⟩:=ways hs h2
 have hmem:∀ p∈pts,p∈ST.srt pts:=fun p hp=> (ST.srt_mem p pts).mpr hp
 have hc:aa pts=(ai (ST.srt pts)).reverse.dropLast++(ai (ST.srt pts).reverse).reverse.dropLast:=by
  unfold aa; rw [if_neg (by omega)]
 have tc:∀ {j:Nat} {a b:Pt},(ai (ST.srt pts)).reverse[j]?=some a→(ai (ST.srt pts)).reverse[j+1]?=some b→∀ q∈ST.srt pts,0≤ao a b q:=fun h h'=> fI hs hne h h'
 have tt:∀ {j:Nat} {a b c:Pt},(ai (ST.srt pts)).reverse[j]?=some a→(ai (ST.srt pts)).reverse[j+1]?=some b→(ai (ST.srt pts)).reverse[j+2]?=some c→0 < ao a b c:=fun h h' h''=> gF hs hne h h' h''
 have bc:∀ {j:Nat} {a b:Pt},(ai (ST.srt pts).reverse).reverse[j]?=some a→(ai (ST.srt pts).reverse).reverse[j+1]?=some b→∀ q∈ST.srt pts,0≤ao a b q:=fun h h'=> jg hs hne h h'
 have bt:∀ {j:Nat} {a b c:Pt},(ai (ST.srt pts).reverse).reverse[j]?=some a→(ai (ST.srt pts).reverse).reverse[j+1]?=some b→(ai (ST.srt pts).reverse).reverse[j+2]?=some c→0 < ao a b c:=fun h h' h''=> ke hs hne h h' h''
 have memT:∀ {j:Nat} {p:Pt},(ai (ST.srt pts)).reverse[j]?=some p→p∈ST.srt pts:=fun h=> ce _ _ (List.mem_reverse.mp (List.mem_of_getElem? h))
 have memB:∀ {j:Nat} {p:Pt},(ai (ST.srt pts).reverse).reverse[j]?=some p→p∈ST.srt pts:=fun h=> List.mem_reverse.mp (ce _ _ (List.mem_reverse.mp (List.mem_of_getElem? h)))
 have ndT:(ai (ST.srt pts)).reverse.Nodup:=(dL hs).imp fun {a b} h e=> by subst e; exact aW _ ((kl _ _).mpr h)
 have ndB:(ai (ST.srt pts).reverse).reverse.Nodup:=by
  rw [bJ,← List.map_reverse]
  have ndR:(ai ((ST.srt pts).reverse.map ng)).reverse.Nodup:=(dL (df hs)).imp fun {a b} h e=> by subst e; exact aW _ ((kl _ _).mpr h)
  exact List.Pairwise.map _ (fun a b (h:a≠b) e=> h (by have:=congrArg ng e; rwa [gs,gs] at this)) ndR
 have m1:∀ {j:Nat} {a m c:Pt},(ai (ST.srt pts)).reverse[j]?=some a→(ai (ST.srt pts)).reverse[j+1]?=some m→(ai (ST.srt pts)).length=j+2→(ai (ST.srt pts).reverse).reverse[0]?=some m→(ai (ST.srt pts).reverse).reverse[1]?=some c→plt a m→plt c m→2 < (ai (ST.srt pts)).length∨2 < (ai (ST.srt pts).reverse).length→0 < ao a m c:=fun a1 a2 a3 a4 a5 a6 a7 a8=> yH hs hne a1 a2 a3 a4 a5 a6 a7 a8
 have m2:∀ {j:Nat} {a m c:Pt},(ai (ST.srt pts).reverse).reverse[j]?=some a→(ai (ST.srt pts).reverse).reverse[j+1]?=some m→(ai (ST.srt pts).reverse).length=j+2→(ai (ST.srt pts)).reverse[0]?=some m→(ai (ST.srt pts)).reverse[1]?=some c→plt m a→plt m c→2 < (ai (ST.srt pts)).length∨2 < (ai (ST.srt pts).reverse).length→0 < ao a m c:=fun {j a m c} a1 a2 a3 a4 a5 a6 a7 a8=> by
  have er:((ST.srt pts).reverse.map ng).reverse=(ST.srt pts).map ng:=by rw [← List.map_reverse,List.reverse_reverse]
  have fw:∀ {k:Nat} {p:Pt},(ai (ST.srt pts)).reverse[k]?=some p→(ai ((ST.srt pts).reverse.map ng).reverse).reverse[k]?=some (ng p):=fun {k p} h=> by
   rw [er,fx,← List.map_reverse,List.getElem?_map,h]; rfl
  have lb:(ai ((ST.srt pts).reverse.map ng)).length=(ai (ST.srt pts).reverse).length:=by rw [bJ,List.length_map]
  have lt:(ai ((ST.srt pts).reverse.map ng).reverse).length=(ai (ST.srt pts)).length:=by rw [er,fx,List.length_map]
  have:=yH (df hs) (by simpa using hne) (e_ a1) (e_ a2) (by rw [lb]; exact a3) (fw a4) (fw a5) (jG a6) (jG a7) (by rw [lb,lt]; exact a8.symm)
  rwa [ju] at this
 rw [hc] at hi ⊢
 have lT:(ai (ST.srt pts)).reverse.length=(ai (ST.srt pts)).length:=List.length_reverse
 have lB:(ai (ST.srt pts).reverse).reverse.length=(ai (ST.srt pts).reverse).length:=List.length_reverse
 generalize (ai (ST.srt pts)).reverse=T at *
 generalize (ai (ST.srt pts).reverse).reverse=B at *
 have h1:=W.lt
 have h3:=W.lb
 have hn:(T.dropLast++B.dropLast).length=T.length - 1+(B.length - 1):=by simp
 have own:∀ k,k < (T.dropLast++B.dropLast).length→(T.dropLast++B.dropLast)[k]?=(T.dropLast++B.dropLast)[k % (T.dropLast++B.dropLast).length]?:=fun k hk=> by rw [Nat.mod_eq_of_lt hk]
 have tne:∀ {j k:Nat} {p q:Pt},T[j]?=some p→T[k]?=some q→j≠k→p≠q:=fun {j k p q} a1 a2 a3 e=> a3 ((List.getElem?_inj (aB a1) ndT).mp (by rw [a1,a2,e]))
 have bne:∀ {j k:Nat} {p q:Pt},B[j]?=some p→B[k]?=some q→j≠k→p≠q:=fun {j k p q} a1 a2 a3 e=> a3 ((List.getElem?_inj (aB a1) ndB).mp (by rw [a1,a2,e]))
 by_cases c1:i < T.length - 1
 ·obtain ⟨a,ea⟩:=eI (l:=T) (i:=i) (by omega)
  obtain ⟨b,eb⟩:=eI (l:=T) (i:=i+1) (by omega)
  refine ⟨a,b,by rw [own i hi,fR W (by omega)]; exact ea,by rw [fR W (by omega)]; exact eb,fun p hp=> tc ea eb p (hmem p hp),fun big=> ?_⟩
  by_cases c2:i+2≤T.length - 1
  ·obtain ⟨c,ec⟩:=eI (l:=T) (i:=i+2) (by omega)
   exact ⟨c,by rw [fR W c2]; exact ec,tt ea eb ec⟩
  ·have e:i+1=T.length - 1:=by omega
   obtain ⟨c,ec⟩:=eI (l:=B) (i:=1) (by omega)
   have emx:b=mx:=by have:=W.t1; rw [← e,eb] at this; exact Option.some.inj this
   subst emx
   refine ⟨c,by rw [iK W (by omega) (by omega),show i+2 - (T.length - 1)=1 by omega]; exact ec,m1 ea eb (by omega) W.b0 ec ?_ ?_ (by omega)⟩
   ·exact (W.most a (memT ea)).resolve_left (tne ea eb (by omega))
   ·exact (W.most c (memB ec)).resolve_left (bne ec W.b0 (by omega))
 ·obtain ⟨a,ea⟩:=eI (l:=B) (i:=i - (T.length - 1)) (by omega)
  obtain ⟨b,eb⟩:=eI (l:=B) (i:=i - (T.length - 1)+1) (by omega)
  refine ⟨a,b,by rw [own i hi,iK W (by omega) (by omega)]; exact ea,by rw [iK W (by omega) (by omega),show i+1 - (T.length - 1)=i - (T.length - 1)+1 by omega]; exact eb,fun p hp=> bc ea eb p (hmem p hp),fun big=> ?_⟩
  by_cases c2:i+2≤T.length - 1+(B.length - 1)
  ·obtain ⟨c,ec⟩:=eI (l:=B) (i:=i - (T.length - 1)+2) (by omega)
   exact ⟨c,by rw [iK W (by omega) c2,show i+2 - (T.length - 1)=i - (T.length - 1)+2 by omega]; exact ec,bt ea eb ec⟩
  ·have e:i - (T.length - 1)+1=B.length - 1:=by omega
   obtain ⟨c,ec⟩:=eI (l:=T) (i:=1) (by omega)
   have emn:b=mn:=by have:=W.b1; rw [← e,eb] at this; exact Option.some.inj this
   subst emn
   refine ⟨c,?_,m2 ea eb (by omega) W.t0 ec ?_ ?_ (by omega)⟩
   ·have:=fR W (k:=1) (by omega)
    rw [show (i+2) % (T.dropLast++B.dropLast).length=1 % (T.dropLast++B.dropLast).length by rw [hn,show i+2=1+(T.length - 1+(B.length - 1)) by omega,Nat.add_mod_right],this]
    exact ec
   ·exact (W.least a (memB ea)).resolve_left (bne ea eb (by omega))
   ·exact (W.least c (memT ec)).resolve_left (tne ec W.t0 (by omega))
def wth (a b:Int) (p:Pt):Int:=a * p.1+b * p.2
theorem xF {a b:Int} {u p v:Pt} (hb:b≤0) (h1:plt u p) (h2:plt p v) (h:ao u p v≤0):wth a b p≤wth a b u∨wth a b p≤wth a b v:=by
 rcases Int.lt_or_le (wth a b u) (wth a b p) with c1 | c1
 ·rcases Int.lt_or_le (wth a b v) (wth a b p) with c2 | c2
  ·exfalso
   have e:(v.1 - p.1) * (wth a b p - wth a b u)+(p.1 - u.1) * (wth a b p - wth a b v)=-((-b) * (-(ao u p v))):=by unfold wth ao; grind
   have n1:0≤(-b) * (-(ao u p v)):=Int.mul_nonneg (by omega) (by omega)
   have d1:0≤p.1 - u.1:=by unfold plt at h1; omega
   have d2:0≤v.1 - p.1:=by unfold plt at h2; omega
   have m1:0≤(v.1 - p.1) * (wth a b p - wth a b u):=Int.mul_nonneg d2 (by omega)
   have m2:0≤(p.1 - u.1) * (wth a b p - wth a b v):=Int.mul_nonneg d1 (by omega)
   rcases Int.lt_or_le 0 (p.1 - u.1) with d | d
   ·have:=Int.mul_pos d (show 0 < wth a b p - wth a b v by omega)
    omega
   ·have ex:u.1=p.1:=by omega
    have ey:u.2 < p.2:=by unfold plt at h1; omega
    have:0≤(-b) * (p.2 - u.2):=Int.mul_nonneg (by omega) (by omega)
    have e2:wth a b p - wth a b u=-((-b) * (p.2 - u.2)):=by unfold wth; rw [ex]; grind
    omega
  ·exact .inr c2
 ·exact .inl c1
theorem pz {row:List Pt} (hs:row.Pairwise plt) {a b:Int} (hb:b≤0) {p:Pt} (hp:p∈row):∃ c∈ai row,wth a b p≤wth a b c:=by
 by_cases h:p∈ai row
 ·exact ⟨p,h,Int.le_refl _⟩
 ·obtain ⟨u,hu,v,hv,k1,k2,k3⟩:=gap hs hp h
  rcases xF (a:=a) hb k1 k2 k3 with e | e
  ·exact ⟨u,hu,e⟩
  ·exact ⟨v,hv,e⟩
theorem wP (a b:Int) (p:Pt):wth (-a) (-b) (ng p)=wth a b p:=by unfold wth ng; grind
theorem u7 (a b:Int) (p:Pt):wth a b (ng p)=wth (-a) (-b) p:=by unfold wth ng; grind
theorem rA {row:List Pt} (hs:row.Pairwise plt) {a b:Int} (hb:0≤b) {p:Pt} (hp:p∈row):∃ c∈ai row.reverse,wth a b p≤wth a b c:=by
 obtain ⟨c,hc,k⟩:=pz (df hs) (a:=-a) (b:=-b) (by omega) (p:=ng p) (List.mem_map.mpr ⟨p,List.mem_reverse.mpr hp,rfl⟩)
 refine ⟨ng c,by rw [bJ]; exact List.mem_map.mpr ⟨c,hc,rfl⟩,?_⟩
 rw [wP] at k
 rw [u7]
 exact k
theorem gZ {pts:List Pt} (a b:Int) {p:Pt} (hp:p∈pts):∃ c∈aa pts,wth a b p≤wth a b c:=by
 have hp':p∈ST.srt pts:=(ST.srt_mem p pts).mpr hp
 by_cases h2:2≤(ST.srt pts).length
 ·have hs:=cJ pts
  obtain ⟨mn,mx,t1,t2,e1,e2,m1,m2,_⟩:=qd hs h2
  have big:=eo h2
  rw [e1,e2] at big
  rcases Int.le_total b 0 with hb | hb
  ·obtain ⟨c,hc,k⟩:=pz hs (a:=a) hb hp'
   refine ⟨c,?_,k⟩
   rw [big]
   rw [e1] at hc
   rcases List.mem_cons.mp hc with rfl | hc
   ·exact List.mem_append_right _ (List.mem_reverse.mpr m2)
   ·exact List.mem_append_left _ (List.mem_reverse.mpr hc)
  ·obtain ⟨c,hc,k⟩:=rA hs (a:=a) hb hp'
   refine ⟨c,?_,k⟩
   rw [big]
   rw [e2] at hc
   rcases List.mem_cons.mp hc with rfl | hc
   ·exact List.mem_append_left _ (List.mem_reverse.mpr m1)
   ·exact List.mem_append_right _ (List.mem_reverse.mpr hc)
 ·exact ⟨p,by rw [bZ h2]; exact hp',Int.le_refl _⟩
def hiL:List Int→Int
 | []=> 0
 | a::l=> l.foldl max a
theorem gm:∀ (l:List Int) (a:Int),l.foldl max a∈a::l
 | [],a=> by simp
 | b::l,a=> by
  have:=gm l (max a b)
  rw [List.foldl_cons]
  rcases List.mem_cons.mp this with e | e
  ·rw [e]; rcases Int.le_total a b with h | h
   ·rw [Int.max_eq_right h]; simp
   ·rw [Int.max_eq_left h]; simp
  ·exact List.mem_cons_of_mem _ (List.mem_cons_of_mem _ e)
theorem gK:∀ (l:List Int) (a:Int),∀ x∈a::l,x≤l.foldl max a
 | [],a,x,h=> by simp at h; rw [h]; exact Int.le_refl _
 | b::l,a,x,h=> by
  have ih:=gK l (max a b)
  rw [List.foldl_cons]
  have h0:=ih (max a b) List.mem_cons_self
  rcases List.mem_cons.mp h with rfl | h
  ·omega
  ·rcases List.mem_cons.mp h with rfl | h
   ·omega
   ·exact ih x (List.mem_cons_of_mem _ h)
def hiW (a b:Int) (l:List Pt):Int:=hiL (l.map (wth a b))
theorem fV {l:List Pt} (a b:Int) (h:l≠[]):(∃ p∈l,wth a b p=hiW a b l)∧∀ p∈l,wth a b p≤hiW a b l:=by
 cases l with
 | nil=> exact absurd rfl h
 | cons q l=>
  refine ⟨?_,fun p hp=> ?_⟩
  ·have:=gm (l.map (wth a b)) (wth a b q)
   rw [← List.map_cons] at this
   obtain ⟨p,hp,e⟩:=List.mem_map.mp this
   exact ⟨p,hp,e⟩
  ·exact gK (l.map (wth a b)) (wth a b q) _ (by rw [← List.map_cons]; exact List.mem_map_of_mem hp)
theorem gG {l:List Pt} {a b M:Int} (h1:∃ p∈l,wth a b p=M) (h2:∀ p∈l,wth a b p≤M):hiW a b l=M:=by
 obtain ⟨p,hp,rfl⟩:=h1
 obtain ⟨⟨q,hq,e⟩,k⟩:=fV a b (l:=l) (fun z=> by rw [z] at hp; simp at hp)
 have:=k p hp
 have:=h2 q hq
 omega
theorem tH {pts:List Pt} (a b:Int) (h:pts≠[]):hiW a b (aa pts)=hiW a b pts:=by
 obtain ⟨⟨q,hq,e⟩,k⟩:=fV a b h
 obtain ⟨c,hc,z⟩:=gZ a b hq
 refine gG ⟨c,hc,?_⟩ fun p hp=> k p (ar _ p hp)
 have:=k c (ar _ c hc)
 omega
theorem vF {l:List Pt} (a b:Int) {m:Int} (hm:0≤m) (h:l≠[]):hiW (m * a) (m * b) l=m * hiW a b l:=by
 obtain ⟨⟨q,hq,e⟩,k⟩:=fV a b h
 have w:∀ p,wth (m * a) (m * b) p=m * wth a b p:=fun p=> by unfold wth; grind
 exact gG ⟨q,hq,by rw [w,e]⟩ fun p hp=> by rw [w]; exact Int.mul_le_mul_of_nonneg_left (k p hp) hm
theorem xn {l:List Pt} (a b:Int) (h:l≠[]):hiW a b l∈l.map (wth a b)∧∀ x∈l.map (wth a b),x≤hiW a b l:=by
 obtain ⟨⟨q,hq,e⟩,k⟩:=fV a b h
 refine ⟨by rw [← e]; exact List.mem_map_of_mem hq,fun x hx=> ?_⟩
 obtain ⟨p,hp,rfl⟩:=List.mem_map.mp hx
 exact k p hp
def crs (s:P2×P2):Int:=s.1.1 * s.2.2 - s.1.2 * s.2.1
def bQ (l:List P2):Int:=((sdl l).map crs).sum
theorem uW (l:List P2):(sdl l).map (·.1)=l:=by
 apply List.ext_getElem?
 intro i
 unfold sdl
 rw [List.map_map]
 by_cases hi:i < l.length
 ·rw [List.getElem?_map,List.getElem?_range hi,bT hi]; rfl
 ·rw [List.getElem?_eq_none (by simp; omega),List.getElem?_eq_none (by omega)]
theorem mI {α:Type} (f g:α→Int):∀ l:List α,(l.map fun s=> f s+g s).sum=(l.map f).sum+(l.map g).sum
 | []=> rfl
 | a::l=> by simp only [List.map_cons,List.sum_cons,mI f g l]; omega
theorem xo {l:List P2} (hn:l.Nodup) (h2:2≤l.length):∀ s∈sdl l,s.1≠s.2:=fun s hs e=> by
 obtain ⟨i,hi,rfl⟩:=List.mem_map.mp hs
 have hi':=List.mem_range.mp hi
 have hj:(i+1) % l.length < l.length:=Nat.mod_lt _ (by omega)
 have e':gp l i=gp l ((i+1) % l.length):=e
 have:l[i]?=l[(i+1) % l.length]?:=by rw [bT hi',bT hj,e']
 have:=(List.getElem?_inj hi' hn).mp this
 by_cases hk:i+1 < l.length
 ·rw [Nat.mod_eq_of_lt hk] at this; omega
 ·have e:i+1=l.length:=by omega
  rw [e,Nat.mod_self] at this; omega
theorem h9 {l:List P2} (h3:3≤(aa l).length):2≤(ST.srt l).length:=by
 rcases Nat.lt_or_ge (ST.srt l).length 2 with h | h
 ·rw [bZ (by omega)] at h3; omega
 ·exact h
theorem oK {l:List P2} {i:Nat} (h:i < l.length):(gp l i,gp l ((i+1) % l.length))∈sdl l:=List.mem_map.mpr ⟨i,List.mem_range.mpr h,rfl⟩
theorem iB {l:List P2} {i:Nat} {a:P2} (h:l[i]?=some a):gp l i=a:=by simp [gp,h]
theorem sd {n i:Nat}:((i+1) % n+1) % n=(i+2) % n:=by rw [Nat.mod_add_mod]
theorem e6 {l:List P2} (h3:3≤(aa l).length) {s:P2×P2} (hs:s∈sdl (aa l)):∀ q∈l,0≤ao s.1 s.2 q:=by
 obtain ⟨i,hi,rfl⟩:=List.mem_map.mp hs
 obtain ⟨a,b,e1,e2,cov,_⟩:=bj (h9 h3) (List.mem_range.mp hi)
 show ∀ q∈l,0≤ao (gp (aa l) i) (gp (aa l) ((i+1) % (aa l).length)) q
 rw [iB e1,iB e2]; exact cov
theorem lr {l:List P2} (h3:3≤(aa l).length) {A B:P2} (hs:(A,B)∈sdl (aa l)):∃ C,(B,C)∈sdl (aa l)∧0 < ao A B C:=by
 obtain ⟨i,hi,e⟩:=List.mem_map.mp hs
 have hi':=List.mem_range.mp hi
 obtain ⟨a,b,e1,e2,_,tu⟩:=bj (h9 h3) hi'
 obtain ⟨c,e3,pos⟩:=tu (by omega)
 have ea:A=a:=by rw [← iB e1]; exact (congrArg Prod.fst e).symm
 have eb:B=b:=by rw [← iB e2]; exact (congrArg Prod.snd e).symm
 refine ⟨c,?_,by rw [ea,eb]; exact pos⟩
 have:=oK (l:=aa l) (i:=(i+1) % (aa l).length) (Nat.mod_lt _ (by omega))
 rw [sd,iB e2,iB e3] at this
 rw [eb]; exact this
theorem yo {l:List P2} {A:P2} (h:A∈l):∃ B,(A,B)∈sdl l:=by
 obtain ⟨i,hi⟩:=List.mem_iff_getElem?.mp h
 have hi':=(List.getElem?_eq_some_iff.mp hi).1
 have:=oK hi'
 rw [iB hi] at this
 exact ⟨_,this⟩
theorem vU {l:List P2} {A:P2} (h:A∈l):∃ Z,(Z,A)∈sdl l:=by
 obtain ⟨i,hi⟩:=List.mem_iff_getElem?.mp h
 have hi':=(List.getElem?_eq_some_iff.mp hi).1
 have hj:(i+l.length - 1) % l.length < l.length:=Nat.mod_lt _ (by omega)
 have:=oK hj
 have e:((i+l.length - 1) % l.length+1) % l.length=i:=by
  rw [Nat.mod_add_mod,show i+l.length - 1+1=i+l.length by omega,Nat.add_mod_right,Nat.mod_eq_of_lt hi']
 rw [e,iB hi] at this
 exact ⟨_,this⟩
theorem rZ {l:List P2} (hn:l.Nodup) {A B C:P2} (h1:(A,B)∈sdl l) (h2:(A,C)∈sdl l):B=C:=by
 obtain ⟨i,hi,e⟩:=List.mem_map.mp h1
 obtain ⟨j,hj,e'⟩:=List.mem_map.mp h2
 have hi':=List.mem_range.mp hi
 have hj':=List.mem_range.mp hj
 have ea:gp l i=gp l j:=(congrArg Prod.fst e).trans (congrArg Prod.fst e').symm
 have:i=j:=(List.getElem?_inj hi' hn).mp (by rw [bT hi',bT hj',ea])
 subst this
 exact (congrArg Prod.snd e).symm.trans (congrArg Prod.snd e')
theorem wE {u1 u2 v1 v2 w1 w2:Int} (hd:0 < u1 * v2 - u2 * v1) (h1:u1 * w2 - u2 * w1=0) (h2:v1 * w2 - v2 * w1=0):w1=0∧w2=0:=by
 have e1:(u1 * v2 - u2 * v1) * w1=0:=by
  have:(u1 * v2 - u2 * v1) * w1=v1 * (u1 * w2 - u2 * w1) - u1 * (v1 * w2 - v2 * w1):=by grind
  rw [this,h1,h2]; simp
 have e2:(u1 * v2 - u2 * v1) * w2=0:=by
  have:(u1 * v2 - u2 * v1) * w2=v2 * (u1 * w2 - u2 * w1) - u2 * (v1 * w2 - v2 * w1):=by grind
  rw [this,h1,h2]; simp
 refine ⟨?_,?_⟩
 ·rcases Int.mul_eq_zero.mp e1 with h | h
  ·omega
  ·exact h
 ·rcases Int.mul_eq_zero.mp e2 with h | h
  ·omega
  ·exact h
def nY (l:List P2) (p:P2):Prop:=p∈l∧∃ a b:Int,∀ q∈l,q≠p→wth a b q < wth a b p
theorem dr {l:List P2} {p:P2} (h:nY l p):p∈aa l:=by
 obtain ⟨hp,a,b,k⟩:=h
 obtain ⟨c,hc,e⟩:=gZ a b hp
 by_cases hcp:c=p
 ·rw [← hcp]; exact hc
 ·have:=k c (ar _ c hc) hcp
  omega
theorem dq {l:List P2} (h3:3≤(aa l).length) {p:P2} (hp:p∈aa l):nY l p:=by
 obtain ⟨Z,hZ⟩:=vU hp
 obtain ⟨B,hB,pos⟩:=lr h3 hZ
 refine ⟨ar _ p hp,B.2 - Z.2,Z.1 - B.1,fun q hq hne=> ?_⟩
 have c1:=e6 h3 hZ q hq
 have c2:=e6 h3 hB q hq
 dsimp only at c1 c2
 have e:wth (B.2 - Z.2) (Z.1 - B.1) q - wth (B.2 - Z.2) (Z.1 - B.1) p=-(ao Z p q+ao p B q):=by unfold wth ao; grind
 rcases Int.lt_or_eq_of_le (Int.add_nonneg c1 c2) with h | h
 ·omega
 ·exfalso
  have z1:ao Z p q=0:=by omega
  have z2:ao p B q=0:=by omega
  have:=wE (u1:=p.1 - Z.1) (u2:=p.2 - Z.2) (v1:=B.1 - p.1) (v2:=B.2 - p.2) (w1:=q.1 - p.1) (w2:=q.2 - p.2) (by rw [← (show ao Z p B=(p.1 - Z.1) * (B.2 - p.2) - (p.2 - Z.2) * (B.1 - p.1) by unfold ao; grind)]; exact pos) (by rw [← z1]; unfold ao; grind) (by rw [← z2]; unfold ao; grind)
  exact hne (Prod.ext (by omega) (by omega))
theorem w4 {u1 u2 v1 v2 w1 w2:Int} (h:u1 * w2 - u2 * w1=0):(u1 * v2 - u2 * v1) * w1=(w1 * v2 - w2 * v1) * u1∧(u1 * v2 - u2 * v1) * w2=(w1 * v2 - w2 * v1) * u2:=by
 constructor
 ·have:(u1 * v2 - u2 * v1) * w1 - (w1 * v2 - w2 * v1) * u1=v1 * (u1 * w2 - u2 * w1):=by grind
  rw [h] at this; simp at this; omega
 ·have:(u1 * v2 - u2 * v1) * w2 - (w1 * v2 - w2 * v1) * u2=v2 * (u1 * w2 - u2 * w1):=by grind
  rw [h] at this; simp at this; omega
theorem gE {l:List P2} (h3:3≤(aa l).length) {A B:P2}:(A,B)∈sdl (aa l)↔A∈aa l∧B∈aa l∧A≠B∧∀ q∈aa l,0≤ao A B q:=by
 constructor
 ·intro h
  exact ⟨(dH h).1,(dH h).2,xo (av l) (by omega) _ h,fun q hq=> e6 h3 h q (ar _ q hq)⟩
 ·rintro ⟨hA,hB,hne,cov⟩
  obtain ⟨C,hC⟩:=yo hA
  obtain ⟨Z,hZ⟩:=vU hA
  by_cases hBC:B=C
  ·rw [hBC]; exact hC
  ·exfalso
   obtain ⟨D,hD,pD⟩:=lr h3 hC
   obtain ⟨C',hC',pC⟩:=lr h3 hZ
   have:C'=C:=rZ (av l) hC' hC
   subst this
   have mC:=(dH hC).2
   have mD:=(dH hD).2
   have lB:=ar _ B hB
   have k1:=e6 h3 hC B lB
   have k2:=cov C' mC
   have k3:=e6 h3 hZ B lB
   have k4:=e6 h3 hD B lB
   dsimp only at k1 k3 k4 mC mD
   have z:(C'.1 - A.1) * (B.2 - A.2) - (C'.2 - A.2) * (B.1 - A.1)=0:=by
    have e1:ao A C' B=(C'.1 - A.1) * (B.2 - A.2) - (C'.2 - A.2) * (B.1 - A.1):=rfl
    have e2:ao A B C'=-((C'.1 - A.1) * (B.2 - A.2) - (C'.2 - A.2) * (B.1 - A.1)):=by unfold ao; grind
    omega
   obtain ⟨p1,p2⟩:=w4 (v1:=Z.1 - A.1) (v2:=Z.2 - A.2) z
   have dpos:0 < (C'.1 - A.1) * (Z.2 - A.2) - (C'.2 - A.2) * (Z.1 - A.1):=by
    rw [← (show ao Z A C'=(C'.1 - A.1) * (Z.2 - A.2) - (C'.2 - A.2) * (Z.1 - A.1) by unfold ao; grind)]; exact pC
   have spos:0≤(B.1 - A.1) * (Z.2 - A.2) - (B.2 - A.2) * (Z.1 - A.1):=by
    rw [← (show ao Z A B=(B.1 - A.1) * (Z.2 - A.2) - (B.2 - A.2) * (Z.1 - A.1) by unfold ao; grind)]; exact k3
   generalize (C'.1 - A.1) * (Z.2 - A.2) - (C'.2 - A.2) * (Z.1 - A.1)=d at *
   generalize (B.1 - A.1) * (Z.2 - A.2) - (B.2 - A.2) * (Z.1 - A.1)=s at *
   have s0:s≠0:=fun e=> by
    rw [e,Int.zero_mul] at p1 p2
    have q1:=(Int.mul_eq_zero.mp p1).resolve_left (by omega)
    have q2:=(Int.mul_eq_zero.mp p2).resolve_left (by omega)
    exact hne (Prod.ext (by omega) (by omega))
   have s1:s≠d:=fun e=> by
    rw [e] at p1 p2
    have q1:=Int.eq_of_mul_eq_mul_left (by omega) p1
    have q2:=Int.eq_of_mul_eq_mul_left (by omega) p2
    exact hBC (Prod.ext (by omega) (by omega))
   have s2:s≤d:=by
    have e:d * ao C' D B=(d - s) * ao A C' D:=by
     have e1:d * ao C' D B=(D.1 - C'.1) * (d * (B.2 - A.2) - d * (C'.2 - A.2)) - (D.2 - C'.2) * (d * (B.1 - A.1) - d * (C'.1 - A.1)):=by unfold ao; grind
     rw [e1,p1,p2]; unfold ao; grind
    have:0≤d * ao C' D B:=Int.mul_nonneg (by omega) k4
    rcases Int.lt_or_le d s with h | h
    ·have:0 < (s - d) * ao A C' D:=Int.mul_pos (by omega) pD
     have e3:(d - s) * ao A C' D=-((s - d) * ao A C' D):=by grind
     omega
    ·exact h
   obtain ⟨_,a,b,top⟩:=dq h3 hB
   have t1:=top A (ar _ A hA) hne
   have t2:=top C' (ar _ C' mC) (fun e=> hBC e.symm)
   have w1:d * (wth a b B - wth a b A)=s * (wth a b C' - wth a b A):=by
    have e1:d * (wth a b B - wth a b A)=a * (d * (B.1 - A.1))+b * (d * (B.2 - A.2)):=by unfold wth; grind
    rw [e1,p1,p2]; unfold wth; grind
   have g1:0 < d * (wth a b B - wth a b A):=Int.mul_pos (by omega) (by omega)
   have g2:0 < wth a b C' - wth a b A:=by
    rcases Int.lt_or_le 0 (wth a b C' - wth a b A) with h | h
    ·exact h
    ·have:0≤s * -(wth a b C' - wth a b A):=Int.mul_nonneg (by omega) (by omega)
     have e3:s * (wth a b C' - wth a b A)=-(s * -(wth a b C' - wth a b A)):=by grind
     omega
   have g3:0 < (d - s) * (wth a b C' - wth a b A):=Int.mul_pos (by omega) g2
   have w2:d * (wth a b B - wth a b C')=-((d - s) * (wth a b C' - wth a b A)):=by
    have:d * (wth a b B - wth a b C')=d * (wth a b B - wth a b A) - d * (wth a b C' - wth a b A):=by grind
    rw [this,w1]; grind
   have g4:0 < d * (wth a b B - wth a b C'):=Int.mul_pos (by omega) (by omega)
   omega
structure Lin (f:P2→P2) (d:Int):Prop where
 one:d=1∨d=-1
 ex:∃ a b c e:Int,a * e - b * c=d∧∀ p,f p=(a * p.1+b * p.2,c * p.1+e * p.2)
theorem Lin.det {f:P2→P2} {d:Int} (L:Lin f d) (A B q:P2):ao (f A) (f B) (f q)=d * ao A B q:=by
 obtain ⟨a,b,c,e,h,k⟩:=L.ex
 rw [k,k,k,← h]; unfold ao; grind
theorem pK {f:P2→P2} {d:Int} (L:Lin f d) (A B:P2):crs (f A,f B)=d * crs (A,B):=by
 obtain ⟨a,b,c,e,h,k⟩:=L.ex
 rw [k,k,← h]; unfold crs; grind
theorem kH {f:P2→P2} {d:Int} (L:Lin f d) (x y:Int):∃ x' y':Int,∀ p,wth x' y' (f p)=wth x y p:=by
 obtain ⟨a,b,c,e,h,k⟩:=L.ex
 refine ⟨d * (x * e - y * c),d * (y * a - x * b),fun p=> ?_⟩
 rw [k]
 have dd:d * d=1:=by rcases L.one with z | z <;> rw [z] <;> rfl
 have:wth (d * (x * e - y * c)) (d * (y * a - x * b)) (a * p.1+b * p.2,c * p.1+e * p.2)=d * (a * e - b * c) * wth x y p:=by unfold wth; grind
 rw [this,h,dd,Int.one_mul]
theorem Lin.inj {f:P2→P2} {d:Int} (L:Lin f d) {p q:P2} (e:f p=f q):p=q:=by
 obtain ⟨x,y,h⟩:=kH L 1 0
 obtain ⟨x',y',h'⟩:=kH L 0 1
 have h1:wth 1 0 p=wth 1 0 q:=by rw [← h,← h,e]
 have h2:wth 0 1 p=wth 0 1 q:=by rw [← h',← h',e]
 unfold wth at h1 h2
 exact Prod.ext (by omega) (by omega)
theorem pW {f:P2→P2} {d:Int} (L:Lin f d) {l:List P2} {p:P2} (h:nY l p):nY (l.map f) (f p):=by
 obtain ⟨hp,a,b,k⟩:=h
 obtain ⟨x,y,e⟩:=kH L a b
 refine ⟨List.mem_map_of_mem hp,x,y,fun q hq hne=> ?_⟩
 obtain ⟨r,hr,rfl⟩:=List.mem_map.mp hq
 rw [e,e]
 exact k r hr fun z=> hne (by rw [z])
theorem tq {f:P2→P2} {d:Int} (L:Lin f d) {l:List P2} {p:P2} (hp:p∈l) (h:nY (l.map f) (f p)):nY l p:=by
 obtain ⟨_,a,b,k⟩:=h
 obtain ⟨u,v,w,z,_,kf⟩:=L.ex
 refine ⟨hp,a * u+b * w,a * v+b * z,fun q hq hne=> ?_⟩
 have e:∀ r:P2,wth (a * u+b * w) (a * v+b * z) r=wth a b (f r):=fun r=> by rw [kf]; unfold wth; grind
 rw [e,e]
 exact k (f q) (List.mem_map_of_mem hq) fun z=> hne (L.inj z)
theorem ij {f:P2→P2} {d:Int} (L:Lin f d) {l:List P2} (h3:3≤(aa l).length):3≤(aa (l.map f)).length:=by
 have nd:((aa l).map f).Nodup:=List.Pairwise.map _ (fun a b (h:a≠b) e=> h (L.inj e)) (av l)
 have:=gi nd (m:=aa (l.map f)) fun x hx=> by
  obtain ⟨p,hp,rfl⟩:=List.mem_map.mp hx
  exact dr (pW L (dq h3 hp))
 rw [List.length_map] at this
 omega
theorem du {f:P2→P2} {d:Int} (L:Lin f d) {l:List P2} (h3:3≤(aa l).length) (x:P2):x∈aa (l.map f)↔∃ p∈aa l,f p=x:=by
 constructor
 ·intro h
  obtain ⟨p,hp,rfl⟩:=List.mem_map.mp (ar _ x h)
  exact ⟨p,dr (tq L hp (dq (ij L h3) h)),rfl⟩
 ·rintro ⟨p,hp,rfl⟩
  exact dr (pW L (dq h3 hp))
def sdf (f:P2→P2) (d:Int) (s:P2×P2):P2×P2:=if d=1 then (f s.1,f s.2) else (f s.2,f s.1)
theorem wN {f:P2→P2} {d:Int} (L:Lin f d) {l:List P2} (h3:3≤(aa l).length) (t:P2×P2):t∈sdl (aa (l.map f))↔∃ s∈sdl (aa l),sdf f d s=t:=by
 have h3':=ij L h3
 have sw:∀ A B q:P2,ao B A q=-ao A B q:=fun A B q=> by unfold ao; grind
 constructor
 ·intro h
  obtain ⟨x,y⟩:=t
  obtain ⟨hx,hy,ne,cov⟩:=(gE h3').mp h
  obtain ⟨A,hA,rfl⟩:=(du L h3 x).mp hx
  obtain ⟨B,hB,rfl⟩:=(du L h3 y).mp hy
  have cv:∀ q∈aa l,0≤d * ao A B q:=fun q hq=> by
   have:=cov (f q) ((du L h3 _).mpr ⟨q,hq,rfl⟩)
   rwa [L.det] at this
  rcases L.one with z | z
  ·refine ⟨(A,B),(gE h3).mpr ⟨hA,hB,fun e=> ne (by rw [e]),fun q hq=> ?_⟩,by unfold sdf; rw [if_pos z]⟩
   have:=cv q hq
   rw [z] at this; omega
  ·refine ⟨(B,A),(gE h3).mpr ⟨hB,hA,fun e=> ne (by rw [e]),fun q hq=> ?_⟩,by unfold sdf; rw [if_neg (by omega)]⟩
   have:=cv q hq
   rw [sw]
   rw [z] at this; omega
 ·rintro ⟨⟨A,B⟩,hs,rfl⟩
  obtain ⟨hA,hB,ne,cov⟩:=(gE h3).mp hs
  have cv:∀ q∈aa (l.map f),0≤d * ao (f A) (f B) q:=fun q hq=> by
   obtain ⟨p,hp,rfl⟩:=(du L h3 q).mp hq
   have:=cov p hp
   rw [L.det,← Int.mul_assoc,show d * d=1 by rcases L.one with z | z <;> rw [z] <;> rfl]
   omega
  unfold sdf
  rcases L.one with z | z
  ·rw [if_pos z]
   refine (gE h3').mpr ⟨(du L h3 _).mpr ⟨A,hA,rfl⟩,(du L h3 _).mpr ⟨B,hB,rfl⟩,fun e=> ne (L.inj e),fun q hq=> ?_⟩
   have:=cv q hq
   dsimp only
   rw [z] at this; omega
  ·rw [if_neg (by omega)]
   refine (gE h3').mpr ⟨(du L h3 _).mpr ⟨B,hB,rfl⟩,(du L h3 _).mpr ⟨A,hA,rfl⟩,fun e=> ne (L.inj e.symm),fun q hq=> ?_⟩
   have:=cv q hq
   dsimp only
   rw [sw]
   rw [z] at this; omega
theorem nI {l:List P2} (hn:l.Nodup):(sdl l).Nodup:=by
 have h:((sdl l).map (·.1)).Nodup:=by rw [uW]; exact hn
 exact (List.pairwise_map.mp h).imp fun {a b} k e=> k (by rw [e])
theorem uH {f:P2→P2} {d:Int} (L:Lin f d) {s t:P2×P2} (e:sdf f d s=sdf f d t):s=t:=by
 unfold sdf at e
 split at e
 ·exact Prod.ext (L.inj (congrArg Prod.fst e)) (L.inj (congrArg Prod.snd e))
 ·exact Prod.ext (L.inj (congrArg Prod.snd e)) (L.inj (congrArg Prod.fst e))
theorem uO {f:P2→P2} {d:Int} (L:Lin f d) {l:List P2} (h3:3≤(aa l).length):List.Perm (sdl (aa (l.map f))) ((sdl (aa l)).map (sdf f d)):=by
 refine (List.perm_ext_iff_of_nodup (nI (av _)) ?_).mpr fun t=> ?_
 ·exact List.Pairwise.map _ (fun a b (h:a≠b) e=> h (uH L e)) (nI (av l))
 ·rw [wN L h3,List.mem_map]
theorem uR {f:P2→P2} {d:Int} (L:Lin f d) (s:P2×P2):crs (sdf f d s)=crs s:=by
 obtain ⟨A,B⟩:=s
 unfold sdf
 rcases L.one with z | z
 ·rw [if_pos z,pK L]; rw [z]; exact Int.one_mul _
 ·rw [if_neg (by omega),pK L,z]; unfold crs; grind
theorem mH {l m:List Int} (h:List.Perm l m):l.sum=m.sum:=by
 induction h with
 | nil=> rfl
 | cons _ _ ih=> rw [List.sum_cons,List.sum_cons,ih]
 | swap=> simp only [List.sum_cons]; omega
 | trans _ _ h1 h2=> exact h1.trans h2
theorem rV {f:P2→P2} {d:Int} (L:Lin f d) {l:List P2} (h3:3≤(aa l).length):bQ (aa (l.map f))=bQ (aa l):=by
 unfold bQ
 rw [mH ((uO L h3).map crs),List.map_map]
 exact congrArg List.sum (List.map_congr_left fun s _=> uR L s)
def kR (a b c e:Int) (p:P2):P2:=(a * p.1+b * p.2,c * p.1+e * p.2)
theorem pi {a b c e d:Int} (h:a * e - b * c=d) (o:d=1∨d=-1):Lin (kR a b c e) d:=⟨o,a,b,c,e,h,fun _=> rfl⟩
theorem dd1 {d:Int} (o:d=1∨d=-1):d * d=1:=by rcases o with z | z <;> rw [z] <;> rfl
end
section
variable {P:Program} {w:World} {K:PySem.W.Frag} {mg:Str→Option Value} {base:Heap}
def plus (p q:P2):P2:=(p.1+q.1,p.2+q.2)
def ak (p q:P2):P2:=(p.1 - q.1,p.2 - q.2)
def cr (u v:P2):Int:=u.1 * v.2 - u.2 * v.1
def ngv (w:P2):Bool:=ST.ltP w (0,0)
theorem eE {w:P2} (h:ngv w=true):lpos (-w.1) (-w.2):=by unfold ngv ST.ltP at h; simp at h; unfold lpos; omega
theorem eH {w:P2} (h:ngv w=false) (h0:w≠(0,0)):lpos w.1 w.2:=by
 unfold ngv ST.ltP at h
 simp at h
 unfold lpos
 by_cases h1:w.1=0
 ·by_cases h2:w.2=0
  ·exact absurd (Prod.ext h1 h2) h0
  ·omega
 ·omega
def nl (w o:P2):Bool:=if (ngv w !=ngv o)=true then ngv o else decide (0≤cr w o)
theorem ft {w o:P2} (h1:ngv w=true) (h2:ngv o=false):nl w o=false:=by unfold nl; rw [h1,h2]; rfl
theorem fT {w o:P2} (h1:ngv w=false) (h2:ngv o=true):nl w o=true:=by unfold nl; rw [h1,h2]; rfl
theorem aH {w o:P2} (h:ngv w=ngv o):nl w o=decide (0≤cr w o):=by unfold nl; rw [h]; simp
theorem rL (u v:P2):cr (-u.1,-u.2) (-v.1,-v.2)=cr u v:=by unfold cr; grind
theorem cm (u v:P2):cr u v=- cr v u:=by unfold cr; grind
theorem kA {x y:P2} (h:nl x y=false):nl y x=true:=by
 cases hx:ngv x <;> cases hy:ngv y
 ·rw [aH (by rw [hx,hy])] at h ⊢
  have:=of_decide_eq_false h
  exact decide_eq_true (by rw [cm]; omega)
 ·rw [fT hx hy] at h; cases h
 ·exact fT hy hx
 ·rw [aH (by rw [hx,hy])] at h ⊢
  have:=of_decide_eq_false h
  exact decide_eq_true (by rw [cm]; omega)
theorem bM {x y d:P2} (hx0:x≠(0,0)) (hy0:y≠(0,0)) (hd0:d≠(0,0)) (h1:nl x y=true) (h2:nl y d=true):nl x d=true:=by
 cases hx:ngv x <;> cases hy:ngv y <;> cases hd:ngv d
 ·rw [aH (by rw [hx,hy])] at h1
  rw [aH (by rw [hy,hd])] at h2
  rw [aH (by rw [hx,hd])]
  exact decide_eq_true (dv (eH hx hx0) (eH hy hy0) (eH hd hd0) (of_decide_eq_true h1) (of_decide_eq_true h2))
 ·exact fT hx hd
 ·rw [ft hy hd] at h2; cases h2
 ·exact fT hx hd
 ·rw [ft hx hy] at h1; cases h1
 ·rw [ft hx hy] at h1; cases h1
 ·rw [ft hy hd] at h2; cases h2
 ·rw [aH (by rw [hx,hy])] at h1
  rw [aH (by rw [hy,hd])] at h2
  rw [aH (by rw [hx,hd])]
  have a1:=of_decide_eq_true h1
  have a2:=of_decide_eq_true h2
  rw [← rL] at a1 a2
  have:=dv (eE hx) (eE hy) (eE hd) a1 a2
  refine decide_eq_true ?_
  rw [← rL]
  exact this
theorem uE {u v d:P2} (hu0:u≠(0,0)) (hv0:v≠(0,0)) (hd0:d≠(0,0)) (hc:0 < cr u v) (h1:nl u d=true) (h2:nl v d=false):0≤cr u d∧0≤cr d v:=by
 cases hu:ngv u <;> cases hd:ngv d <;> cases hv:ngv v
 ·rw [aH (by rw [hu,hd])] at h1
  rw [aH (by rw [hv,hd])] at h2
  have:=of_decide_eq_false h2
  exact ⟨of_decide_eq_true h1,by rw [cm]; omega⟩
 ·rw [aH (by rw [hu,hd])] at h1
  have a1:=of_decide_eq_true h1
  refine ⟨a1,?_⟩
  rcases Int.lt_or_le (cr d v) 0 with z | z
  ·exfalso
   have:=dE (eH hu hu0) (eH hd hd0) (eE hv) a1 (show 0 < d.1 * -v.2 - d.2 * -v.1 by unfold cr at z; grind)
   unfold cr at hc
   grind
  ·exact z
 ·rw [fT hv hd] at h2; cases h2
 ·rw [aH (by rw [hv,hd])] at h2
  have b:=of_decide_eq_false h2
  have b2:0 < cr d v:=by rw [cm]; omega
  refine ⟨?_,by omega⟩
  rcases Int.lt_or_le (cr u d) 0 with z | z
  ·exfalso
   have:=d7 (eH hu hu0) (eE hd) (eE hv) (show 0 < u.1 * -d.2 - u.2 * -d.1 by unfold cr at z; grind) (by unfold cr at b2; grind)
   unfold cr at hc
   grind
  ·exact z
 ·rw [ft hu hd] at h1; cases h1
 ·rw [ft hu hd] at h1; cases h1
 ·rw [fT hv hd] at h2; cases h2
 ·rw [aH (by rw [hu,hd])] at h1
  rw [aH (by rw [hv,hd])] at h2
  have:=of_decide_eq_false h2
  exact ⟨of_decide_eq_true h1,by rw [cm]; omega⟩
theorem yt {u v d:P2} (hu0:u≠(0,0)) (hv0:v≠(0,0)) (hd0:d≠(0,0)) (hu:ngv u=true) (hv:ngv v=false) (hc:0 < cr u v) (h:nl v d=false∨nl u d=true):0≤cr u d∧0≤cr d v:=by
 rcases h with h | h
 ·cases hd:ngv d
  ·rw [aH (by rw [hv,hd])] at h
   have b:=of_decide_eq_false h
   have b2:0 < cr d v:=by rw [cm]; omega
   refine ⟨?_,by omega⟩
   rcases Int.lt_or_le (cr u d) 0 with z | z
   ·exfalso
    have:=d7 (eE hu) (eH hd hd0) (eH hv hv0) (show 0 < -u.1 * d.2 - -u.2 * d.1 by unfold cr at z; grind) (by unfold cr at b2; grind)
    unfold cr at hc
    grind
   ·exact z
  ·rw [fT hv hd] at h; cases h
 ·cases hd:ngv d
  ·rw [ft hu hd] at h; cases h
  ·rw [aH (by rw [hu,hd])] at h
   have a:=of_decide_eq_true h
   refine ⟨a,?_⟩
   rcases Int.lt_or_le (cr d v) 0 with z | z
   ·exfalso
    have:=dE (eE hu) (eE hd) (eH hv hv0) (by unfold cr at a; grind) (show 0 < -d.1 * v.2 - -d.2 * v.1 by unfold cr at z; grind)
    unfold cr at hc
    grind
   ·exact z
theorem zd {u v d z:P2} (hc:0 < cr u v) (h1:0≤cr u d) (h2:0≤cr d v) (k1:0≤cr u z) (k2:0≤cr v z):0≤cr d z:=by
 have e:cr u v * cr d z=cr d v * cr u z+cr u d * cr v z:=by unfold cr; grind
 have a:=Int.mul_nonneg h2 k1
 have b:=Int.mul_nonneg h1 k2
 rcases Int.lt_or_le (cr d z) 0 with w | w
 ·have:=Int.mul_neg_of_pos_of_neg hc w
  omega
 ·exact w
def mrg:List P2→List P2→List P2
 | xs,[]=> xs
 | [],y::ys=> y::ys
 | x::xs,y::ys=> if nl x y=true then x::mrg xs (y::ys) else y::mrg (x::xs) ys
termination_by xs ys=> xs.length+ys.length
def pth (p:P2):List P2→List P2
 | []=> [p]
 | w::ws=> p::pth (plus p w) ws
def sms:List P2→P2
 | []=> (0,0)
 | w::ws=> plus w (sms ws)
def c_ (d:P2) (ws:List P2):P2:=sms (ws.takeWhile (nl · d))
theorem aw (p:P2):plus p (0,0)=p:=by unfold plus; simp
theorem au (p q r:P2):plus (plus p q) r=plus p (plus q r):=by unfold plus; refine Prod.ext ?_ ?_ <;> simp <;> omega
theorem bz (p q:P2):plus p q=plus q p:=by unfold plus; refine Prod.ext ?_ ?_ <;> simp <;> omega
theorem db (p:P2) (ws:List P2):p∈pth p ws:=by cases ws <;> simp [pth]
theorem d_ {d x:P2} {xs:List P2} (h:nl x d=true):c_ d (x::xs)=plus x (c_ d xs):=by unfold c_; rw [List.takeWhile_cons,if_pos h]; rfl
theorem d8 {d x:P2} {xs:List P2} (h:nl x d=false):c_ d (x::xs)=(0,0):=by unfold c_; rw [List.takeWhile_cons,if_neg (by rw [h]; decide)]; rfl
theorem eT (d:P2):∀ (ws:List P2) (p:P2),plus p (c_ d ws)∈pth p ws
 | [],p=> by rw [show c_ d []=(0,0) from rfl,aw]; exact db p _
 | w::ws,p=> by
  cases h:nl w d with
  | true=>
   rw [d_ h,← au]
   exact List.mem_cons_of_mem _ (eT d ws _)
  | false=> rw [d8 h,aw]; exact db p _
theorem kr {d:P2} (hd:d≠(0,0)):∀ (xs ys:List P2) (p:P2),(∀ x∈xs,x≠(0,0))→(∀ y∈ys,y≠(0,0))→plus p (plus (c_ d xs) (c_ d ys))∈pth p (mrg xs ys)
 | xs,[],p,_,_=> by
  rw [mrg,show c_ d []=(0,0) from rfl,aw]
  exact eT d xs p
 | [],y::ys,p,_,_=> by
  rw [mrg,show c_ d []=(0,0) from rfl,bz (0,0),aw]
  exact eT d _ p
 | x::xs,y::ys,p,hx,hy=> by
  have x0:=hx x List.mem_cons_self
  have y0:=hy y List.mem_cons_self
  rw [mrg]
  cases h:nl x y with
  | true=>
   rw [if_pos rfl]
   cases k:nl x d with
   | true=>
    have ih:=kr hd xs (y::ys) (plus p x) (fun z hz=> hx z (List.mem_cons_of_mem _ hz)) hy
    rw [d_ k,au x,← au p]
    exact List.mem_cons_of_mem _ ih
   | false=>
    have:nl y d=false:=by
     cases e:nl y d with
     | false=> rfl
     | true=> rw [bM x0 y0 hd h e] at k; cases k
    rw [d8 k,d8 this,aw,aw]
    exact db p _
  | false=>
   rw [if_neg (by decide)]
   have h':=kA h
   cases k:nl y d with
   | true=>
    have ih:=kr hd (x::xs) ys (plus p y) hx (fun z hz=> hy z (List.mem_cons_of_mem _ hz))
    rw [d_ k,← au (c_ d (x::xs)),bz (c_ d (x::xs)) y,au y,← au p]
    exact List.mem_cons_of_mem _ ih
   | false=>
    have:nl x d=false:=by
     cases e:nl x d with
     | false=> rfl
     | true=> rw [bM y0 x0 hd h' e] at k; cases k
    rw [d8 k,d8 this,aw,aw]
    exact db p _
termination_by xs ys=> xs.length+ys.length
theorem xw (o:P2):nl (0,0) o=true:=by
 cases h:ngv o with
 | true=> exact fT rfl h
 | false=> rw [aH (by rw [h]; rfl)]; exact decide_eq_true (by unfold cr; simp)
theorem wd {d:P2}:∀ (ys:List P2) (p:P2),plus p (c_ d ys)∈pth p (mrg [(0,0)] ys)
 | [],p=> by rw [show c_ d []=(0,0) from rfl,aw]; exact db p _
 | y::ys,p=> by
  rw [mrg,if_pos (xw y)]
  refine List.mem_cons_of_mem _ ?_
  rw [aw]
  cases ys with
  | nil=> rw [mrg]; exact eT d _ p
  | cons z zs=> rw [mrg]; exact eT d _ p
theorem sg {d:P2}:∀ (xs:List P2) (p:P2),plus p (c_ d xs)∈pth p (mrg xs [(0,0)])
 | [],p=> by rw [show c_ d []=(0,0) from rfl,aw]; exact db p _
 | x::xs,p=> by
  rw [mrg]
  cases h:nl x (0,0) with
  | true=>
   rw [if_pos rfl]
   cases k:nl x d with
   | true=> rw [d_ k,← au]; exact List.mem_cons_of_mem _ (sg xs _)
   | false=> rw [d8 k,aw]; exact db p _
  | false=>
   rw [if_neg (by decide)]
   refine List.mem_cons_of_mem _ ?_
   rw [aw,mrg]
   exact eT d _ p
theorem lQ {A B:List P2} (h1:∀ p∈A,p∈B) (h2:∀ p∈aa B,p∈A):aa A=aa B:=by
 by_cases hl:2≤(ST.srt B).length
 ·have hs:=cJ B
  obtain ⟨mn,mx,t1,t2,e1,e2,m1,m2,hmn,hmx,i1,i2⟩:=qd hs hl
  have ec:=eo hl
  have mem1:∀ p∈ai (ST.srt B),p∈aa B:=fun p hp=> by
   rw [ec,e1,e2,List.tail_cons,List.tail_cons]
   rw [e1] at hp
   rcases List.mem_cons.mp hp with z | z
   ·rw [z]; exact List.mem_append_right _ (List.mem_reverse.mpr m2)
   ·exact List.mem_append_left _ (List.mem_reverse.mpr z)
  have mem2:∀ p∈ai (ST.srt B).reverse,p∈aa B:=fun p hp=> by
   rw [ec,e1,e2,List.tail_cons,List.tail_cons]
   rw [e2] at hp
   rcases List.mem_cons.mp hp with z | z
   ·rw [z]; exact List.mem_append_left _ (List.mem_reverse.mpr m1)
   ·exact List.mem_append_right _ (List.mem_reverse.mpr z)
  have hs':=cJ A
  have sub:∀ p∈ST.srt A,p∈ST.srt B:=fun p hp=> (ST.srt_mem p B).mpr (h1 p ((ST.srt_mem p _).mp hp))
  have q1:=jE hs hs' sub fun p hp=> (ST.srt_mem p _).mpr (h2 p (mem1 p hp))
  have q2:=gY hs hs' sub fun p hp=> (ST.srt_mem p _).mpr (h2 p (mem2 p hp))
  have len:2≤(ST.srt A).length:=by
   have a1:mn∈ST.srt A:=(ST.srt_mem _ _).mpr (h2 _ (mem1 mn (by rw [e1]; exact List.mem_cons_of_mem _ m1)))
   have a2:mx∈ST.srt A:=(ST.srt_mem _ _).mpr (h2 _ (mem1 mx (by rw [e1]; exact List.mem_cons_self)))
   have ne:mn≠mx:=fun e=> by
    have hd:=(bV hs (fun z=> by rw [z] at hl; simp at hl)).1
    rw [e1] at hd
    have:=ii (st:=mx::t1) hd.desc
    have k:=(List.pairwise_cons.mp this).1 mn m1
    rw [e] at k
    exact aW _ k
   rcases Nat.lt_or_ge (ST.srt A).length 2 with k | k
   ·exfalso
    match hA:ST.srt A,k with
    | [],_=> rw [hA] at a1; simp at a1
    | [x],_=>
     rw [hA] at a1 a2
     simp at a1 a2
     exact ne (a1.trans a2.symm)
   ·exact k
  rw [eo len,ec,q1,q2]
 ·have es:=bZ hl
  refine iW (j6 fun z=> ⟨h1 z,fun hz=> h2 z ?_⟩)
  rw [es]
  exact (ST.srt_mem z B).mpr hz
theorem fc {pts:List P2} (h2:2≤(ST.srt pts).length):∃ mn,(aa pts)[0]?=some mn∧∀ p∈pts,p=mn∨plt mn p:=by
 obtain ⟨mn,mx,W⟩:=ways (cJ pts) h2
 refine ⟨mn,?_,fun p hp=> W.least p ((ST.srt_mem p pts).mpr hp)⟩
 have hc:aa pts=(ai (ST.srt pts)).reverse.dropLast++(ai (ST.srt pts).reverse).reverse.dropLast:=by
  unfold aa; rw [if_neg (by omega)]
 have hl:=W.lt
 rw [hc,List.getElem?_append_left (by rw [List.length_dropLast]; omega),List.getElem?_dropLast,if_pos (by omega)]
 exact W.t0
theorem gO {pts:List P2} (h2:2≤(ST.srt pts).length):2≤(aa pts).length:=by
 obtain ⟨mn,mx,W⟩:=ways (cJ pts) h2
 have hc:aa pts=(ai (ST.srt pts)).reverse.dropLast++(ai (ST.srt pts).reverse).reverse.dropLast:=by
  unfold aa; rw [if_neg (by omega)]
 have:=W.lt
 have:=W.lb
 rw [hc,List.length_append,List.length_dropLast,List.length_dropLast]
 omega
theorem sqn (x:Int):0≤x * x:=by
 rcases Int.le_total 0 x with h | h
 ·exact Int.mul_nonneg h h
 ·exact Int.mul_nonneg_of_nonpos_of_nonpos h h
theorem oP {x y:P2} (h:plt x y):ngv (ak y x)=false:=by
 unfold plt at h
 unfold ngv ST.ltP ak
 refine decide_eq_false ?_
 simp only
 omega
theorem o9 {x y:P2} (h:plt x y):ngv (ak x y)=true:=by
 unfold plt at h
 unfold ngv ST.ltP ak
 refine decide_eq_true ?_
 simp only
 omega
theorem vJ {u z:P2} (h0:u≠(0,0)) (h1:u.1 * z.1+u.2 * z.2=0) (h2:cr u z=0):z=(0,0):=by
 have e1:(u.1 * u.1+u.2 * u.2) * z.1=u.1 * (u.1 * z.1+u.2 * z.2) - u.2 * cr u z:=by unfold cr; grind
 have e2:(u.1 * u.1+u.2 * u.2) * z.2=u.2 * (u.1 * z.1+u.2 * z.2)+u.1 * cr u z:=by unfold cr; grind
 rw [h1,h2] at e1 e2
 have n0:u.1 * u.1+u.2 * u.2≠0:=fun k=> by
  have a:=sqn u.1
  have b:=sqn u.2
  have a0:u.1 * u.1=0:=by omega
  have b0:u.2 * u.2=0:=by omega
  refine h0 (Prod.ext ?_ ?_)
  ·rcases Int.mul_eq_zero.mp a0 with z | z <;> exact z
  ·rcases Int.mul_eq_zero.mp b0 with z | z <;> exact z
 refine Prod.ext ?_ ?_
 ·rcases Int.mul_eq_zero.mp (e1.trans (by simp)) with k | k
  ·exact absurd k n0
  ·exact k
 ·rcases Int.mul_eq_zero.mp (e2.trans (by simp)) with k | k
  ·exact absurd k n0
  ·exact k
theorem xh {u:P2} (h0:u≠(0,0)):0 < u.1 * u.1+u.2 * u.2:=by
 have a:=sqn u.1
 have b:=sqn u.2
 rcases Int.lt_or_le 0 (u.1 * u.1+u.2 * u.2) with k | k
 ·exact k
 ·exfalso
  have a0:u.1 * u.1=0:=by omega
  have b0:u.2 * u.2=0:=by omega
  refine h0 (Prod.ext ?_ ?_)
  ·rcases Int.mul_eq_zero.mp a0 with z | z <;> exact z
  ·rcases Int.mul_eq_zero.mp b0 with z | z <;> exact z
theorem h7 (a b q:P2):ao a b q=cr (ak b a) (ak q b):=by unfold ao cr ak; grind
theorem mz {l:List P2} {p:P2} (hp:p∈aa l):nY l p:=by
 refine ⟨ar l p hp,?_⟩
 by_cases hl:2≤(ST.srt l).length
 ·rcases Nat.lt_or_ge (aa l).length 3 with h | h
  ·have n2:(aa l).length=2:=by have:=gO hl; omega
   obtain ⟨A,B,hAB⟩:∃ A B,aa l=[A,B]:=by
    match hc:aa l,n2 with
    | [A,B],_=> exact ⟨A,B,rfl⟩
   have nd:=av l
   rw [hAB] at nd
   have ne:A≠B:=by simp at nd; exact nd
   obtain ⟨a0,b0,r1,r2,cv0,_⟩:=bj hl (i:=0) (by omega)
   obtain ⟨a1,b1,r3,r4,cv1,_⟩:=bj hl (i:=1) (by omega)
   rw [hAB] at r1 r2 r3 r4
   simp at r1 r2 r3 r4
   subst r1 r2 r3 r4
   have key:∀ o p:P2,p≠o→(∀ c∈aa l,c=p∨c=o)→(∀ q∈l,ao o p q=0)→∃ a b:Int,∀ q∈l,q≠p→wth a b q < wth a b p:=by
    intro o p hne hc hdet
    have u0:ak p o≠(0,0):=fun k=> hne (by
     have k1:=congrArg Prod.fst k
     have k2:=congrArg Prod.snd k
     unfold ak at k1 k2
     simp at k1 k2
     exact Prod.ext (by omega) (by omega))
    have pos:=xh u0
    refine ⟨(ak p o).1,(ak p o).2,fun q hq hqp=> ?_⟩
    have e1:wth (ak p o).1 (ak p o).2 p - wth (ak p o).1 (ak p o).2 o=(ak p o).1 * (ak p o).1+(ak p o).2 * (ak p o).2:=by unfold wth ak; grind
    obtain ⟨c,hc',hw⟩:=gZ (ak p o).1 (ak p o).2 hq
    have le:wth (ak p o).1 (ak p o).2 q≤wth (ak p o).1 (ak p o).2 p:=by
     rcases hc c hc' with rfl | rfl <;> omega
    rcases Int.lt_or_eq_of_le le with k | k
    ·exact k
    ·exfalso
     have z1:(ak p o).1 * (ak q p).1+(ak p o).2 * (ak q p).2=0:=by
      have:wth (ak p o).1 (ak p o).2 q - wth (ak p o).1 (ak p o).2 p=(ak p o).1 * (ak q p).1+(ak p o).2 * (ak q p).2:=by unfold wth ak; grind
      omega
     have z2:=hdet q hq
     rw [h7] at z2
     have:=vJ u0 z1 z2
     have k1:=congrArg Prod.fst this
     have k2:=congrArg Prod.snd this
     unfold ak at k1 k2
     simp at k1 k2
     exact hqp (Prod.ext (by omega) (by omega))
   have z0:∀ q∈l,ao A B q=0:=fun q hq=> by
    have a:=cv0 q hq
    have b:=cv1 q hq
    have:ao A B q=- ao B A q:=by unfold ao; grind
    omega
   rw [hAB] at hp
   rcases List.mem_cons.mp hp with rfl | hp
   ·exact key B p ne (fun c hc=> by rw [hAB] at hc; simpa using hc) fun q hq=> by
     have:ao p B q=- ao B p q:=by unfold ao; grind
     have:=z0 q hq
     omega
   ·have e:p=B:=by simpa using hp
    subst e
    exact key A p ne.symm (fun c hc=> by rw [hAB] at hc; simp at hc; exact hc.symm) z0
  ·exact (dq h hp).2
 ·rw [bZ hl] at hp
  refine ⟨0,0,fun q hq hqp=> absurd ?_ hqp⟩
  have h':=(ST.srt_mem q l).mpr hq
  match hA:ST.srt l with
  | []=> rw [hA] at hp; simp at hp
  | [x]=> rw [hA] at hp h'; simp at hp h'; exact h'.trans hp.symm
  | x::y::r=> rw [hA] at hl; simp at hl
def wys (l:List P2):List P2:=(sdl l).map fun s=> ak s.2 s.1
theorem br (l:List P2):(wys l).length=l.length:=by unfold wys sdl; simp
theorem eL {l:List P2} {i:Nat} (h:i < l.length):(wys l)[i]?=some (ak (gp l ((i+1) % l.length)) (gp l i)):=by
 unfold wys sdl
 rw [List.getElem?_map,List.getElem?_map,List.getElem?_range h]
 rfl
theorem eg:∀ (ws:List P2) (w:P2),sms (ws++[w])=plus (sms ws) w
 | [],w=> by show plus w (0,0)=plus (0,0) w; exact bz _ _
 | v::ws,w=> by show plus v (sms (ws++[w]))=plus (plus v (sms ws)) w; rw [eg ws w,au]
theorem n6 (p q:P2):plus p (ak q p)=q:=by unfold plus ak; refine Prod.ext ?_ ?_ <;> simp <;> omega
theorem eJ {l:List P2}:∀ i,i≤l.length→0 < l.length→plus (gp l 0) (sms ((wys l).take i))=gp l (i % l.length)
 | 0,_,_=> by rw [List.take_zero,Nat.zero_mod]; exact aw _
 | i+1,h,h0=> by
  have ih:=eJ (l:=l) i (by omega) h0
  rw [List.take_succ,eL (show i < l.length by omega),Option.toList_some,eg,← au,ih,Nat.mod_eq_of_lt (show i < l.length by omega),n6]
theorem mM (f:P2→Bool):∀ ws:List P2,∃ i,i≤ws.length∧ws.takeWhile f=ws.take i∧(∀ j w,j < i→ws[j]?=some w→f w=true)∧(∀ w,ws[i]?=some w→f w=false)
 | []=> ⟨0,Nat.le_refl _,rfl,fun j w h=> absurd h (Nat.not_lt_zero _),fun w h=> by simp at h⟩
 | w::ws=> by
  cases hf:f w with
  | true=>
   obtain ⟨i,h1,h2,h3,h4⟩:=mM f ws
   refine ⟨i+1,by simp; omega,by rw [List.takeWhile_cons,if_pos hf,List.take_succ_cons,h2],fun j v hj hv=> ?_,fun v hv=> h4 v (by simpa using hv)⟩
   cases j with
   | zero=> simp at hv; rw [← hv]; exact hf
   | succ j=> exact h3 j v (by omega) (by simpa using hv)
  | false=>
   exact ⟨0,Nat.zero_le _,by rw [List.takeWhile_cons,if_neg (by rw [hf]; decide)]; rfl,fun j v h=> absurd h (Nat.not_lt_zero _),fun v hv=> by simp at hv; rw [← hv]; exact hf⟩
theorem oz (a b:Int) (q z:P2):cr (-b,a) (ak q z)=wth a b z - wth a b q:=by unfold cr ak wth; grind
theorem jw {p q:P2} (h:p≠q):ak p q≠(0,0):=fun k=> h (by
 have k1:=congrArg Prod.fst k
 have k2:=congrArg Prod.snd k
 unfold ak at k1 k2
 simp at k1 k2
 exact Prod.ext (by omega) (by omega))
theorem lC {pts:List P2} (hne:pts≠[]) {a b:Int} (hd:((-b,a):P2)≠(0,0)):∃ Z∈aa pts,plus (gp (aa pts) 0) (c_ (-b,a) (wys (aa pts)))=Z∧∀ q∈pts,wth a b q≤wth a b Z:=by
 have cne:=aG hne
 have pos:0 < (aa pts).length:=List.length_pos_iff.mpr cne
 obtain ⟨i,i1,i2,i3,i4⟩:=mM (nl · (-b,a)) (wys (aa pts))
 rw [br] at i1
 have eZ:plus (gp (aa pts) 0) (c_ (-b,a) (wys (aa pts)))=gp (aa pts) (i % (aa pts).length):=by
  unfold c_
  rw [i2]
  exact eJ i i1 pos
 refine ⟨_,bK (Nat.mod_lt i pos),eZ,fun q hq=> ?_⟩
 generalize hn:(aa pts).length=n at *
 have at_:∀ j,j < n→(wys (aa pts))[j]?=some (ak (gp (aa pts) ((j+1) % n)) (gp (aa pts) j)):=fun j hj=> by
  have:=eL (l:=aa pts) (i:=j) (by omega)
  rwa [hn] at this
 by_cases hl:2≤(ST.srt pts).length
 ·obtain ⟨mn,f1,f2⟩:=fc hl
  have g0:gp (aa pts) 0=mn:=by simp [gp,f1]
  have nd:=av pts
  have gne:∀ j k,j < n→k < n→j≠k→gp (aa pts) j≠gp (aa pts) k:=fun j k hj hk hjk e=> hjk ((List.getElem?_inj (by omega) nd).mp (by rw [bT (by omega),bT (by omega),e]))
  have fst:∀ j,0 < j→j < n→plt (gp (aa pts) 0) (gp (aa pts) j):=fun j h0 hj=> by
   rw [g0]
   rcases f2 _ (ar _ _ (bK (l:=aa pts) (i:=j) (by omega))) with z | z
   ·exact absurd (z.trans g0.symm) (gne j 0 hj (by omega) (by omega))
   ·exact z
  have n2:2≤n:=by have:=gO hl; omega
  have pn:∀ j,0 < j→j < n→ngv (ak (gp (aa pts) j) (gp (aa pts) 0))=false:=fun j h0 hj=> oP (fst j h0 hj)
  have nn:∀ j,0 < j→j < n→ngv (ak (gp (aa pts) 0) (gp (aa pts) j))=true:=fun j h0 hj=> o9 (fst j h0 hj)
  by_cases h3:3≤n
  ·-- the sides before and behind
   have main:∀ k,k < n→(k+1) % n=i % n→(∀ u v:P2,u=ak (gp (aa pts) ((k+1) % n)) (gp (aa pts) k)→v=ak (gp (aa pts) ((k+2) % n)) (gp (aa pts) ((k+1) % n))→u≠(0,0)→v≠(0,0)→0 < cr u v→0≤cr u (-b,a)∧0≤cr (-b,a) v)→wth a b q≤wth a b (gp (aa pts) (i % n)):=by
    intro k hk ek hbt
    obtain ⟨A,B,r1,r2,cv,tn⟩:=bj hl (i:=k) (by omega)
    obtain ⟨C,r3,dc⟩:=tn (by omega)
    rw [hn] at r2 r3
    have k1:(k+1) % n < n:=Nat.mod_lt _ (by omega)
    obtain ⟨B',C',s1,s2,cv2,_⟩:=bj hl (i:=(k+1) % n) (by omega)
    rw [hn] at s2
    rw [show ((k+1) % n+1) % n=(k+2) % n by rw [Nat.mod_add_mod]] at s2
    rw [r2] at s1
    rw [r3] at s2
    cases s1
    cases s2
    have eA:gp (aa pts) k=A:=by simp [gp,r1]
    have eB:gp (aa pts) ((k+1) % n)=B:=by simp [gp,r2]
    have eC:gp (aa pts) ((k+2) % n)=C:=by simp [gp,r3]
    rw [h7] at dc
    have u0:ak B A≠(0,0):=fun z=> by rw [z] at dc; unfold cr at dc; simp at dc
    have v0:ak C B≠(0,0):=fun z=> by rw [z] at dc; unfold cr at dc; simp at dc
    obtain ⟨c1,c2⟩:=hbt _ _ rfl rfl (by rw [eA,eB]; exact u0) (by rw [eB,eC]; exact v0) (by rw [eA,eB,eC]; exact dc)
    rw [eA,eB] at c1
    rw [eB,eC] at c2
    have m1:=cv q hq
    rw [h7] at m1
    have m2:=cv2 q hq
    have m2':0≤cr (ak C B) (ak q B):=by
     have:ao B C q=cr (ak C B) (ak q B):=by unfold ao cr ak; grind
     rw [← this]; exact m2
    have:=zd dc c1 c2 m1 m2'
    rw [oz] at this
    rw [← ek,eB]
    omega
   by_cases hi:0 < i∧i < n
   ·refine main (i - 1) (by omega) (by rw [Nat.sub_add_cancel hi.1]) fun u v eu ev u0 v0 hc=> ?_
    rw [Nat.sub_add_cancel hi.1,Nat.mod_eq_of_lt hi.2] at eu ev
    have e2:(i - 1+2) % n=(i+1) % n:=by rw [show i - 1+2=i+1 by omega]
    rw [e2] at ev
    have w1:=at_ (i - 1) (by omega)
    rw [Nat.sub_add_cancel hi.1,Nat.mod_eq_of_lt hi.2,← eu] at w1
    have w2:=at_ i hi.2
    rw [← ev] at w2
    exact uE u0 v0 hd hc (i3 (i - 1) u (by omega) w1) (i4 v w2)
   ·have e0:i % n=0:=by
     rcases Nat.eq_zero_or_pos i with z | z
     ·rw [z,Nat.zero_mod]
     ·rw [show i=n by omega,Nat.mod_self]
    have m0:(n - 1+1) % n=0:=by rw [Nat.sub_add_cancel (by omega),Nat.mod_self]
    have m1:(n - 1+2) % n=1:=by rw [show n - 1+2=n+1 by omega,Nat.add_mod_left,Nat.mod_eq_of_lt (by omega)]
    refine main (n - 1) (by omega) (by rw [m0,e0]) fun u v eu ev u0 v0 hc=> ?_
    rw [m0] at eu
    rw [m0,m1] at ev
    have w1:=at_ (n - 1) (by omega)
    rw [m0,← eu] at w1
    have w2:=at_ 0 (by omega)
    rw [show (0+1) % n=1 from Nat.mod_eq_of_lt (by omega),← ev] at w2
    refine yt u0 v0 hd (by rw [eu]; exact nn (n - 1) (by omega) (by omega)) (by rw [ev]; exact pn 1 (by omega) (by omega)) hc ?_
    rcases Nat.eq_zero_or_pos i with z | z
    ·left; exact i4 v (by rw [z]; exact w2)
    ·right; exact i3 (n - 1) u (by omega) w1
  ·have e2:n=2:=by omega
   obtain ⟨c,hc,hw⟩:=gZ a b hq
   obtain ⟨j,hj⟩:=List.mem_iff_getElem?.mp hc
   have jl:j < n:=by have:=(List.getElem?_eq_some_iff.mp hj).1; omega
   have ec:c=gp (aa pts) j:=by simp [gp,hj]
   have key:∀ j,j < n→wth a b (gp (aa pts) j)≤wth a b (gp (aa pts) (i % n)):=by
    have w0:=at_ 0 (by omega)
    have w1:=at_ 1 (by omega)
    rw [show (0+1) % n=1 from Nat.mod_eq_of_lt (by omega)] at w0
    rw [show (1+1) % n=0 by rw [e2]] at w1
    have p1:=pn 1 (by omega) (by omega)
    have n1:=nn 1 (by omega) (by omega)
    have f01:=fst 1 (by omega) (by omega)
    intro j hj
    have c1:=oz a b (gp (aa pts) 1) (gp (aa pts) 0)
    have c2:=oz a b (gp (aa pts) 0) (gp (aa pts) 1)
    have anti:cr (-b,a) (ak (gp (aa pts) 0) (gp (aa pts) 1))=- cr (-b,a) (ak (gp (aa pts) 1) (gp (aa pts) 0)):=by unfold cr ak; grind
    have anti2:cr (ak (gp (aa pts) 1) (gp (aa pts) 0)) (-b,a)=- cr (-b,a) (ak (gp (aa pts) 1) (gp (aa pts) 0)):=cm _ _
    have anti3:cr (ak (gp (aa pts) 0) (gp (aa pts) 1)) (-b,a)=cr (-b,a) (ak (gp (aa pts) 1) (gp (aa pts) 0)):=by unfold cr ak; grind
    have j01:j=0∨j=1:=by omega
    rcases (show i=0∨i=1∨i=2 by omega) with z | z | z
    ·subst z
     have h:=i4 _ w0
     rw [Nat.zero_mod]
     cases hg:ngv ((-b,a):P2) with
     | true=>
      have h':nl (ak (gp (aa pts) 1) (gp (aa pts) 0)) (-b,a)=false:=h
      rw [fT p1 hg] at h'; cases h'
     | false=>
      have h':nl (ak (gp (aa pts) 1) (gp (aa pts) 0)) (-b,a)=false:=h
      rw [aH (by rw [p1,hg])] at h'
      have:=of_decide_eq_false h'
      rcases j01 with rfl | rfl <;> omega
    ·subst z
     have h:nl (ak (gp (aa pts) 1) (gp (aa pts) 0)) (-b,a)=true:=i3 0 _ (by omega) w0
     have h2:nl (ak (gp (aa pts) 0) (gp (aa pts) 1)) (-b,a)=false:=i4 _ w1
     rw [show 1 % n=1 from Nat.mod_eq_of_lt (by omega)]
     cases hg:ngv ((-b,a):P2) with
     | true=>
      rw [aH (by rw [n1,hg])] at h2
      have:=of_decide_eq_false h2
      rcases j01 with rfl | rfl <;> omega
     | false=>
      rw [aH (by rw [p1,hg])] at h
      have:=of_decide_eq_true h
      rcases j01 with rfl | rfl <;> omega
    ·subst z
     have h:nl (ak (gp (aa pts) 0) (gp (aa pts) 1)) (-b,a)=true:=i3 1 _ (by omega) w1
     rw [show 2 % n=0 by rw [e2]]
     cases hg:ngv ((-b,a):P2) with
     | true=>
      rw [aH (by rw [n1,hg])] at h
      have:=of_decide_eq_true h
      rcases j01 with rfl | rfl <;> omega
     | false=> rw [ft n1 hg] at h; cases h
   have:=key j jl
   rw [ec] at hw
   omega
 ·have es:=bZ hl
  have hq':q∈aa pts:=by rw [es]; exact (ST.srt_mem q pts).mpr hq
  have hz:=bK (l:=aa pts) (i:=i % n) (by rw [hn]; exact Nat.mod_lt i (by omega))
  have l1:(aa pts).length=1:=by
   have:(aa pts).length=(ST.srt pts).length:=by rw [es]
   omega
  match hA:aa pts,l1 with
  | [x],_=>
   rw [hA] at hq' hz
   simp at hq' hz
   have:gp [x] (i % n)=x:=hz
   rw [this,hq']
   exact Int.le_refl _
def bB (X Y:List P2):List P2:=X.flatMap fun p=> Y.map fun q=> plus p q
theorem aI {X Y:List P2} {z:P2}:z∈bB X Y↔∃ p∈X,∃ q∈Y,plus p q=z:=by
 unfold bB
 rw [List.mem_flatMap]
 constructor
 ·rintro ⟨p,hp,h⟩
  obtain ⟨q,hq,e⟩:=List.mem_map.mp h
  exact ⟨p,hp,q,hq,e⟩
 ·rintro ⟨p,hp,q,hq,e⟩
  exact ⟨p,hp,List.mem_map.mpr ⟨q,hq,e⟩⟩
theorem kI {X Y:List P2} (hX:X≠[]) (hY:Y≠[]):bB X Y≠[]:=by
 obtain ⟨p,hp⟩:=List.exists_mem_of_ne_nil X hX
 obtain ⟨q,hq⟩:=List.exists_mem_of_ne_nil Y hY
 exact List.ne_nil_of_mem (aI.mpr ⟨p,hp,q,hq,rfl⟩)
def wlk (p:P2):List P2→List P2
 | []=> []
 | w::ws=> p::wlk (plus p w) ws
theorem pA:∀ (ws:List P2) (p:P2),pth p ws=wlk p ws++[plus p (sms ws)]
 | [],p=> by show [p]=[]++[plus p (0,0)]; rw [aw]; rfl
 | w::ws,p=> by show p::pth (plus p w) ws=(p::wlk (plus p w) ws)++[plus p (plus w (sms ws))]; rw [pA ws,au]; rfl
theorem kt:∀ (ws:List P2) (p:P2),(wlk p ws).length=ws.length
 | [],_=> rfl
 | w::ws,p=> by show (wlk (plus p w) ws).length+1=_; rw [kt ws]; rfl
theorem mE:∀ (ws:List P2) (w p:P2),wlk p (ws++[w])=wlk p ws++[plus p (sms ws)]
 | [],w,p=> by show [p]=[]++[plus p (0,0)]; rw [aw]; rfl
 | v::ws,w,p=> by show p::wlk (plus p v) (ws++[w])=(p::wlk (plus p v) ws)++[plus p (plus v (sms ws))]; rw [mE ws,au]; rfl
theorem gP:∀ xs ys:List P2,sms (mrg xs ys)=plus (sms xs) (sms ys)
 | xs,[]=> by rw [mrg]; exact (aw _).symm
 | [],y::ys=> by rw [mrg]; show _=plus (0,0) _; rw [bz,aw]
 | x::xs,y::ys=> by
  rw [mrg]
  split
  ·show plus x (sms (mrg xs (y::ys)))=plus (plus x (sms xs)) _
   rw [gP xs (y::ys),au]
  ·show plus y (sms (mrg (x::xs) ys))=plus _ (plus y (sms ys))
   rw [gP (x::xs) ys,← au,← au,bz y]
termination_by xs ys=> xs.length+ys.length
theorem fW:∀ xs ys:List P2,(mrg xs ys).length=xs.length+ys.length
 | xs,[]=> by rw [mrg]; rfl
 | [],y::ys=> by rw [mrg]; simp
 | x::xs,y::ys=> by
  rw [mrg]
  split
  ·rw [List.length_cons,fW xs (y::ys)]; simp; omega
  ·rw [List.length_cons,fW (x::xs) ys]; simp; omega
termination_by xs ys=> xs.length+ys.length
theorem g5:∀ (ws:List P2) (p z:P2),z∈pth p ws→∃ i,i≤ws.length∧z=plus p (sms (ws.take i))
 | [],p,z,h=> by
  have:z=p:=by simpa [pth] using h
  exact ⟨0,Nat.le_refl _,by rw [this]; exact (aw p).symm⟩
 | w::ws,p,z,h=> by
  rcases List.mem_cons.mp (show z∈p::pth (plus p w) ws from h) with e | e
  ·exact ⟨0,Nat.zero_le _,by rw [e]; exact (aw p).symm⟩
  ·obtain ⟨i,h1,h2⟩:=g5 ws _ z e
   exact ⟨i+1,by simp; omega,by rw [h2,au]; rfl⟩
theorem jd:∀ (xs ys:List P2) (p z:P2),z∈pth p (mrg xs ys)→∃ i j,i≤xs.length∧j≤ys.length∧z=plus p (plus (sms (xs.take i)) (sms (ys.take j)))
 | xs,[],p,z,h=> by
  rw [mrg] at h
  obtain ⟨i,h1,h2⟩:=g5 xs p z h
  exact ⟨i,0,h1,Nat.le_refl _,by rw [h2]; show _=plus p (plus _ (0,0)); rw [aw]⟩
 | [],y::ys,p,z,h=> by
  rw [mrg] at h
  obtain ⟨j,h1,h2⟩:=g5 _ p z h
  exact ⟨0,j,Nat.le_refl _,h1,by rw [h2]; show _=plus p (plus (0,0) _); rw [bz (0,0),aw]⟩
 | x::xs,y::ys,p,z,h=> by
  have start:z=p→∃ i j,i≤(x::xs).length∧j≤(y::ys).length∧z=plus p (plus (sms ((x::xs).take i)) (sms ((y::ys).take j))):=fun e=>
   ⟨0,0,Nat.zero_le _,Nat.zero_le _,by rw [e]; show p=plus p (plus (0,0) (0,0)); rw [aw,aw]⟩
  rw [mrg] at h
  split at h
  ·rcases List.mem_cons.mp (show z∈p::pth (plus p x) (mrg xs (y::ys)) from h) with e | e
   ·exact start e
   ·obtain ⟨i,j,h1,h2,h3⟩:=jd xs (y::ys) _ z e
    refine ⟨i+1,j,by simp; omega,h2,?_⟩
    rw [h3,List.take_succ_cons,au]
    show plus p (plus x _)=plus p (plus (plus x _) _)
    rw [au x]
  ·rcases List.mem_cons.mp (show z∈p::pth (plus p y) (mrg (x::xs) ys) from h) with e | e
   ·exact start e
   ·obtain ⟨i,j,h1,h2,h3⟩:=jd (x::xs) ys _ z e
    refine ⟨i,j+1,h1,by simp; omega,?_⟩
    rw [h3,List.take_succ_cons,au]
    show plus p (plus y _)=plus p (plus _ (plus y _))
    rw [← au y,bz y,au]
termination_by xs ys=> xs.length+ys.length
theorem bv {l:List P2} (h:0 < l.length):sms (wys l)=(0,0):=by
 have:=eJ (l:=l) l.length (Nat.le_refl _) h
 rw [List.take_of_length_le (by rw [br]; exact Nat.le_refl _),Nat.mod_self] at this
 generalize sms (wys l)=z at *
 have k1:=congrArg Prod.fst this
 have k2:=congrArg Prod.snd this
 unfold plus at k1 k2
 simp only at k1 k2
 exact Prod.ext (by show z.1=0; omega) (by show z.2=0; omega)
def tog (l m:List P2):List P2:=wlk (plus (gp l 0) (gp m 0)) (mrg (wys l) (wys m))
theorem gM (l m:List P2):(tog l m).length=l.length+m.length:=by unfold tog; rw [kt,fW,br,br]
theorem jT (a b c d:P2):plus (plus a b) (plus c d)=plus (plus a c) (plus b d):=by unfold plus; refine Prod.ext ?_ ?_ <;> simp <;> omega
theorem ko {l m:List P2} (hl:0 < l.length) (hm:0 < m.length) {z:P2}:z∈tog l m↔z∈pth (plus (gp l 0) (gp m 0)) (mrg (wys l) (wys m)):=by
 unfold tog
 rw [pA,gP,bv hl,bv hm,aw,aw]
 constructor
 ·exact fun h=> List.mem_append_left _ h
 ·intro h
  rcases List.mem_append.mp h with e | e
  ·exact e
  ·have:=fW (wys l) (wys m)
   rw [br,br] at this
   have e':z=plus (gp l 0) (gp m 0):=by simpa using e
   match hw:mrg (wys l) (wys m) with
   | []=> rw [hw] at this; simp at this; omega
   | w::ws=> rw [e']; exact List.mem_cons_self
theorem gd {l m:List P2} (hl:0 < l.length) (hm:0 < m.length):∀ z∈tog l m,z∈bB l m:=fun z hz=> by
 obtain ⟨i,j,h1,h2,h3⟩:=jd _ _ _ z ((ko hl hm).mp hz)
 rw [br] at h1 h2
 rw [jT,eJ i h1 hl,eJ j h2 hm] at h3
 rw [h3]
 exact aI.mpr ⟨_,bK (Nat.mod_lt _ hl),_,bK (Nat.mod_lt _ hm),rfl⟩
theorem dW {l:List P2} (hn:l.Nodup) (h2:2≤l.length):∀ w∈wys l,w≠(0,0):=fun w hw=> by
 obtain ⟨i,hi⟩:=List.mem_iff_getElem?.mp hw
 have il:i < l.length:=by have:=(List.getElem?_eq_some_iff.mp hi).1; rwa [br] at this
 rw [eL il] at hi
 cases hi
 refine jw fun e=> ?_
 have ml:(i+1) % l.length < l.length:=Nat.mod_lt _ (by omega)
 have:=(List.getElem?_inj (j:=i) ml hn).mp (by rw [bT ml,bT il,e])
 rcases Nat.lt_or_ge (i+1) l.length with k | k
 ·rw [Nat.mod_eq_of_lt k] at this; omega
 ·rw [show i+1=l.length by omega,Nat.mod_self] at this; omega
theorem e9 (p:P2):wys [p]=[(0,0)]:=by
 unfold wys sdl nxt gp ak
 simp
theorem fH {l:List P2} (h0:0 < l.length) (h:¬ 2≤l.length):∃ p,l=[p]:=by
 match l,h0,h with
 | [p],_,_=> exact ⟨p,rfl⟩
 | p::q::r,_,h=> simp at h
theorem qs {l m:List P2} (nl':l.Nodup) (nm:m.Nodup) (hl:0 < l.length) (hm:0 < m.length) {d:P2} (hd:d≠(0,0)):plus (plus (gp l 0) (c_ d (wys l))) (plus (gp m 0) (c_ d (wys m)))∈tog l m:=by
 rw [ko hl hm,jT]
 have up0:c_ d [(0,0)]=(0,0):=by rw [d_ (xw d),show c_ d []=(0,0) from rfl,aw]
 by_cases h1:2≤l.length
 ·by_cases h2:2≤m.length
  ·exact kr hd _ _ _ (dW nl' h1) (dW nm h2)
  ·obtain ⟨p,rfl⟩:=fH hm h2
   rw [e9,up0,aw]
   exact sg _ _
 ·obtain ⟨p,rfl⟩:=fH hl h1
  rw [e9,up0,bz (0,0),aw]
  exact wd _ _
theorem e8 (a b:Int) (p q:P2):wth a b (plus p q)=wth a b p+wth a b q:=by unfold wth plus; grind
theorem g9 {S T:List P2} (hS:S≠[]) (hT:T≠[]):aa (tog (aa S) (aa T))=aa (bB (aa S) (aa T)):=by
 have hl:0 < (aa S).length:=List.length_pos_iff.mpr (aG hS)
 have hm:0 < (aa T).length:=List.length_pos_iff.mpr (aG hT)
 refine lQ (gd hl hm) fun p hp=> ?_
 obtain ⟨pm,a,b,top⟩:=mz hp
 by_cases hd:((-b,a):P2)=(0,0)
 ·have k1:=congrArg Prod.fst hd
  have k2:=congrArg Prod.snd hd
  simp at k1 k2
  have hlen:0 < (tog (aa S) (aa T)).length:=by rw [gM]; omega
  obtain ⟨z,hz⟩:=List.exists_mem_of_ne_nil _ (List.length_pos_iff.mp hlen)
  have hz':=gd hl hm z hz
  by_cases e:z=p
  ·rw [← e]; exact hz
  ·have:=top z hz' e
   rw [k1,k2] at this
   unfold wth at this
   simp at this
 ·obtain ⟨Z1,c1,e1,g1⟩:=lC hS hd
  obtain ⟨Z2,c2,e2,g2⟩:=lC hT hd
  have reach:=qs (av S) (av T) hl hm hd
  rw [e1,e2] at reach
  have most:∀ q∈bB (aa S) (aa T),wth a b q≤wth a b (plus Z1 Z2):=fun q hq=> by
   obtain ⟨x,hx,y,hy,rfl⟩:=aI.mp hq
   rw [e8,e8]
   have:=g1 x (ar _ x hx)
   have:=g2 y (ar _ y hy)
   omega
  by_cases e:plus Z1 Z2=p
  ·rw [← e]; exact reach
  ·have:=top _ (gd hl hm _ reach) e
   have:=most p pm
   omega
theorem jh {A B:List P2} (h:∀ z,z∈A↔z∈B):aa A=aa B:=iW (j6 h)
theorem mV {S T:List P2}:aa (bB (aa S) T)=aa (bB S T):=by
 refine lQ (fun z hz=> ?_) fun p hp=> ?_
 ·obtain ⟨x,hx,y,hy,rfl⟩:=aI.mp hz
  exact aI.mpr ⟨x,ar _ x hx,y,hy,rfl⟩
 ·obtain ⟨pm,a,b,top⟩:=mz hp
  obtain ⟨x,hx,y,hy,rfl⟩:=aI.mp pm
  refine aI.mpr ⟨x,dr ⟨hx,a,b,fun x' hx' ne=> ?_⟩,y,hy,rfl⟩
  have:=top (plus x' y) (aI.mpr ⟨x',hx',y,hy,rfl⟩) fun e=> ne (by
   have k1:=congrArg Prod.fst e
   have k2:=congrArg Prod.snd e
   unfold plus at k1 k2
   simp only at k1 k2
   exact Prod.ext (by omega) (by omega))
  rw [e8,e8] at this
  omega
theorem pN {X Y:List P2} (z:P2):z∈bB X Y↔z∈bB Y X:=by
 rw [aI,aI]
 constructor
 ·rintro ⟨p,hp,q,hq,rfl⟩; exact ⟨q,hq,p,hp,bz _ _⟩
 ·rintro ⟨p,hp,q,hq,rfl⟩; exact ⟨q,hq,p,hp,bz _ _⟩
theorem oo (S T:List P2):aa (bB S T)=aa (bB T S):=jh pN
theorem qN {S T:List P2}:aa (bB S (aa T))=aa (bB S T):=by rw [oo,mV,oo]
theorem r6 (s:P2) (l:List P2):aa ((aa l).map (plus s))=(aa l).map (plus s):=by
 rw [jk (f:=plus s) (fun a b h=> by unfold plt plus at *; simp only; omega) (fun a b c=> by
  have:ao (plus s a) (plus s b) (plus s c)=ao a b c:=by unfold ao plus; grind
  rw [this]),fX]
theorem p5 (s:P2) (l:List P2):aa (bB [s] (aa l))=(aa l).map (plus s):=by
 rw [show bB [s] (aa l)=(aa l).map (plus s) by unfold bB; simp]
 exact r6 s l
end
section
variable {P:Program} {w:World} {K:PySem.W.Frag} {mg:Str→Option Value} {base:Heap}
theorem oZ {u v:P2} (h1:nl u v=true) (h2:nl v u=true):cr u v=0:=by
 cases hu:ngv u <;> cases hv:ngv v
 ·rw [aH (by rw [hu,hv])] at h1
  rw [aH (by rw [hu,hv])] at h2
  have a:=of_decide_eq_true h1
  have b:=of_decide_eq_true h2
  rw [cm] at b
  omega
 ·rw [ft hv hu] at h2; cases h2
 ·rw [ft hu hv] at h1; cases h1
 ·rw [aH (by rw [hu,hv])] at h1
  rw [aH (by rw [hu,hv])] at h2
  have a:=of_decide_eq_true h1
  have b:=of_decide_eq_true h2
  rw [cm] at b
  omega
theorem nU {u v z:P2} (hu:ngv u=true) (hv:ngv v=false) (hv0:v≠(0,0)) (hc:0 < cr u v) (h1:0≤cr u z) (h2:0≤cr v z):¬ (z.1 < 0∨(z.1=0∧z.2 < 0)):=by
 intro hz
 have pu':=eE hu
 have pv:=eH hv hv0
 have e1:cr u v * z.1=cr u z * v.1 - cr v z * u.1:=by unfold cr; grind
 have e2:cr u v * z.2=cr u z * v.2 - cr v z * u.2:=by unfold cr; grind
 unfold lpos at pu' pv
 have u1:u.1≤0:=by omega
 have v1:0≤v.1:=by omega
 have k1:0≤cr u z * v.1:=Int.mul_nonneg h1 v1
 have k2:cr v z * u.1≤0:=Int.mul_nonpos_of_nonneg_of_nonpos h2 u1
 have z1:0≤z.1:=by
  rcases Int.lt_or_le z.1 0 with k | k
  ·have:=Int.mul_neg_of_pos_of_neg hc k
   omega
  ·exact k
 have z10:z.1=0:=by omega
 have z2:z.2 < 0:=by omega
 rw [z10,Int.mul_zero] at e1
 have n2:=Int.mul_neg_of_pos_of_neg hc z2
 have a0:cr u z * v.1=0:=by omega
 have b0:cr v z * u.1=0:=by omega
 have a1:0≤cr u z * v.2:=by
  rcases Int.mul_eq_zero.mp a0 with k | k
  ·rw [k]; simp
  ·exact Int.mul_nonneg h1 (by omega)
 have b1:cr v z * u.2≤0:=by
  rcases Int.mul_eq_zero.mp b0 with k | k
  ·rw [k]; simp
  ·exact Int.mul_nonpos_of_nonneg_of_nonpos h2 (by omega)
 omega
theorem sZ {pts:List P2} (hl:2≤(ST.srt pts).length) {i:Nat} (hi:i+1 < (aa pts).length):nl (ak (gp (aa pts) (i+1)) (gp (aa pts) i)) (ak (gp (aa pts) ((i+2) % (aa pts).length)) (gp (aa pts) (i+1)))=true:=by
 obtain ⟨mn,f1,f2⟩:=fc hl
 have nd:=av pts
 generalize hn:(aa pts).length=n at *
 have g0:gp (aa pts) 0=mn:=by simp [gp,f1]
 have gne:∀ j k,j < n→k < n→j≠k→gp (aa pts) j≠gp (aa pts) k:=fun j k hj hk hjk e=> hjk ((List.getElem?_inj (j:=k) (by omega) nd).mp (by rw [bT (by omega),bT (by omega),e]))
 have fst:∀ j,0 < j→j < n→plt (gp (aa pts) 0) (gp (aa pts) j):=fun j h0 hj=> by
  rw [g0]
  rcases f2 _ (ar _ _ (bK (l:=aa pts) (i:=j) (by omega))) with z | z
  ·exact absurd (z.trans g0.symm) (gne j 0 hj (by omega) (by omega))
  ·exact z
 by_cases h3:3≤n
 ·obtain ⟨A,B,r1,r2,cv,tn⟩:=bj hl (i:=i) (by omega)
  obtain ⟨C,r3,dc⟩:=tn (by omega)
  rw [hn,Nat.mod_eq_of_lt hi] at r2
  rw [hn] at r3
  obtain ⟨B',C',s1,s2,cv2,_⟩:=bj hl (i:=i+1) (by omega)
  rw [hn] at s2
  rw [r2] at s1
  rw [show i+1+1=i+2 from rfl,r3] at s2
  cases s1
  cases s2
  have eA:gp (aa pts) i=A:=by simp [gp,r1]
  have eB:gp (aa pts) (i+1)=B:=by simp [gp,r2]
  have eC:gp (aa pts) ((i+2) % n)=C:=by simp [gp,r3]
  rw [eA,eB,eC]
  rw [h7] at dc
  have v0:ak C B≠(0,0):=fun z=> by rw [z] at dc; unfold cr at dc; simp at dc
  cases hu:ngv (ak B A) <;> cases hv:ngv (ak C B)
  ·rw [aH (by rw [hu,hv])]; exact decide_eq_true (by omega)
  ·exact fT hu hv
  ·exfalso
   have q0:gp (aa pts) 0∈pts:=ar _ _ (bK (by omega))
   have m1:=cv _ q0
   rw [h7] at m1
   have m2:=cv2 _ q0
   have m2':0≤cr (ak C B) (ak (gp (aa pts) 0) B):=by
    have:ao B C (gp (aa pts) 0)=cr (ak C B) (ak (gp (aa pts) 0) B):=by unfold ao cr ak; grind
    rw [← this]; exact m2
   refine nU hu hv v0 dc m1 m2' ?_
   have:=fst (i+1) (by omega) hi
   rw [eB] at this
   unfold plt at this
   unfold ak
   simp only
   omega
  ·rw [aH (by rw [hu,hv])]; exact decide_eq_true (by omega)
 ·have e2:n=2:=by omega
  have i0:i=0:=by omega
  subst i0
  rw [show (0+2) % n=0 by rw [e2]]
  have f:=fst 1 (by omega) (by omega)
  exact fT (oP f) (o9 f)
theorem nh:∀ {ws:List P2},(∀ w∈ws,w≠(0,0))→(∀ i u v,ws[i]?=some u→ws[i+1]?=some v→nl u v=true)→ws.Pairwise fun u v=> nl u v=true
 | [],_,_=> .nil
 | [w],_,_=> List.pairwise_singleton _ _
 | w::x::ws,h0,h=> by
  have ih:=nh (ws:=x::ws) (fun z hz=> h0 z (List.mem_cons_of_mem _ hz)) fun i u v a b=> h (i+1) u v (by simpa using a) (by simpa using b)
  have wx:=h 0 w x rfl rfl
  refine List.pairwise_cons.mpr ⟨fun z hz=> ?_,ih⟩
  rcases List.mem_cons.mp hz with e | e
  ·rw [e]; exact wx
  ·exact bM (h0 w List.mem_cons_self) (h0 x (List.mem_cons_of_mem _ List.mem_cons_self)) (h0 z (List.mem_cons_of_mem _ hz)) wx ((List.pairwise_cons.mp ih).1 z e)
theorem fM (pts:List P2):(wys (aa pts)).Pairwise fun u v=> nl u v=true:=by
 by_cases hl:2≤(ST.srt pts).length
 ·refine nh (dW (av pts) (gO hl)) fun i u v hu hv=> ?_
  have il:i+1 < (aa pts).length:=by have:=(List.getElem?_eq_some_iff.mp hv).1; rwa [br] at this
  rw [eL (show i < (aa pts).length by omega)] at hu
  rw [eL il] at hv
  cases hu
  cases hv
  rw [Nat.mod_eq_of_lt il]
  exact sZ hl il
 ·rw [bZ hl]
  match hA:ST.srt pts with
  | []=> exact .nil
  | [x]=> rw [e9]; exact List.pairwise_singleton _ _
  | x::y::r=> rw [hA] at hl; simp at hl
def shl (p:P2):List P2→Int
 | []=> 0
 | w::ws=> cr p w+shl (plus p w) ws
def dJ (y:P2):List P2→List P2→Int
 | xs,[]=> cr y (sms xs)
 | [],_::_=> 0
 | a::xs,b::ys=> if nl a b=true then cr y a+dJ y xs (b::ys) else dJ (plus y b) (a::xs) ys
termination_by xs ys=> xs.length+ys.length
def iX (x:P2):List P2→List P2→Int
 | _,[]=> 0
 | [],b::ys=> cr x (sms (b::ys))
 | a::xs,b::ys=> if nl a b=true then iX (plus x a) xs (b::ys) else cr x b+iX x (a::xs) ys
termination_by xs ys=> xs.length+ys.length
theorem de (p q w:P2):cr (plus p q) w=cr p w+cr q w:=by unfold cr plus; grind
theorem g_ (p v w:P2):cr p (plus v w)=cr p v+cr p w:=by unfold cr plus; grind
theorem gL:∀ (ws:List P2) (p q:P2),shl (plus p q) ws=shl p ws+cr q (sms ws)
 | [],p,q=> by show (0:Int)=0+cr q (0,0); unfold cr; simp
 | w::ws,p,q=> by
  show cr (plus p q) w+shl (plus (plus p q) w) ws=cr p w+shl (plus p w) ws+cr q (plus w (sms ws))
  rw [show plus (plus p q) w=plus (plus p w) q by rw [au,au,bz q],gL ws,de,g_]
  omega
theorem kP:∀ (xs ys:List P2) (x y:P2),shl (plus x y) (mrg xs ys)=shl x xs+shl y ys+dJ y xs ys+iX x xs ys
 | xs,[],x,y=> by
  rw [mrg,dJ,iX,gL]
  show _=shl x xs+0+_+0
  omega
 | [],b::ys,x,y=> by
  rw [mrg,dJ,iX,bz,gL]
  show _=0+_+0+_
  omega
 | a::xs,b::ys,x,y=> by
  rw [mrg,dJ,iX]
  split
  ·show cr (plus x y) a+shl (plus (plus x y) a) (mrg xs (b::ys))=cr x a+shl (plus x a) xs+_+_+_
   rw [show plus (plus x y) a=plus (plus x a) y by rw [au,au,bz y],kP xs (b::ys),de]
   omega
  ·show cr (plus x y) b+shl (plus (plus x y) b) (mrg (a::xs) ys)=shl x (a::xs)+(cr y b+shl (plus y b) ys)+_+_
   rw [au x y b,kP (a::xs) ys,de]
   omega
termination_by xs ys=> xs.length+ys.length
theorem ik:∀ (xs ys:List P2) (x y:P2),dJ y xs ys - iX x xs ys=cr (plus y (sms ys)) (plus x (sms xs)) - cr y x
 | xs,[],x,y=> by
  rw [dJ,iX]
  show _=cr (plus y (0,0)) _ - _
  rw [aw,g_]
  omega
 | [],b::ys,x,y=> by
  rw [dJ,iX]
  show _=cr _ (plus x (0,0)) - _
  rw [aw,de,cm x]
  omega
 | a::xs,b::ys,x,y=> by
  rw [dJ,iX]
  split
  ·have ih:=ik xs (b::ys) (plus x a) y
   rw [au x a,g_ y x a] at ih
   show _=cr _ (plus x (plus a (sms xs))) - _
   omega
  ·have ih:=ik (a::xs) ys x (plus y b)
   rw [au y b,de y b x] at ih
   show _=cr (plus y (plus b (sms ys))) _ - _
   have:=cm x b
   omega
termination_by xs ys=> xs.length+ys.length
theorem rY {xs ys:List P2} (hx:sms xs=(0,0)) (hy:sms ys=(0,0)) (x y:P2):iX x xs ys=dJ y xs ys:=by
 have:=ik xs ys x y
 rw [hx,hy,aw,aw] at this
 omega
theorem md:∀ (ws:List P2) (w p:P2),shl p (ws++[w])=shl p ws+cr (plus p (sms ws)) w
 | [],w,p=> by show cr p w+0=0+cr (plus p (0,0)) w; rw [aw]; omega
 | v::ws,w,p=> by
  show cr p v+shl (plus p v) (ws++[w])=cr p v+shl (plus p v) ws+cr (plus p (plus v (sms ws))) w
  rw [md ws,au]
  omega
theorem eQ (l:List Int) (x:Int):(l++[x]).sum=l.sum+x:=by simp
theorem jS {l:List P2}:∀ i,i≤l.length→shl (gp l 0) ((wys l).take i)=(((sdl l).take i).map crs).sum
 | 0,_=> rfl
 | i+1,h=> by
  have hi:i < l.length:=by omega
  have ih:=jS (l:=l) i (by omega)
  have e:(sdl l)[i]?=some (gp l i,gp l ((i+1) % l.length)):=by
   unfold sdl
   rw [List.getElem?_map,List.getElem?_range hi]; rfl
  rw [List.take_succ,List.take_succ,eL hi,e,Option.toList_some,Option.toList_some,md,List.map_append,List.map_cons,List.map_nil,eQ,ih,eJ i (by omega) (by omega),Nat.mod_eq_of_lt hi]
  have:cr (gp l i) (ak (gp l ((i+1) % l.length)) (gp l i))=crs (gp l i,gp l ((i+1) % l.length)):=by unfold cr ak crs; grind
  omega
theorem dw (l:List P2):bQ l=shl (gp l 0) (wys l):=by
 have:=jS (l:=l) l.length (Nat.le_refl _)
 rw [List.take_of_length_le (by rw [br]; exact Nat.le_refl _),List.take_of_length_le (by unfold sdl; simp)] at this
 exact this.symm
abbrev hg (Y:List P2) (a:P2):Int:=hiW a.2 (-a.1) Y
theorem eN (a z:P2):wth a.2 (-a.1) z=cr z a:=by unfold wth cr; grind
theorem tF {Y:List P2} (h:Y≠[]) (a:P2):∀ z∈Y,cr z a≤hg Y a:=fun z hz=> by
 have:=(fV a.2 (-a.1) h).2 z hz
 rwa [eN] at this
theorem xm {T:List P2} (hT:T≠[]) {d:P2} (hd:d≠(0,0)):cr (plus (gp (aa T) 0) (c_ d (wys (aa T)))) d=hg (aa T) d:=by
 have e:((-(-d.1),d.2):P2)=d:=Prod.ext (by simp) rfl
 obtain ⟨Z,hZ,eZ,top⟩:=lC hT (a:=d.2) (b:=-d.1) (by rw [e]; exact hd)
 rw [e] at eZ
 rw [eZ,← eN]
 symm
 exact gG ⟨Z,hZ,rfl⟩ fun p hp=> top p (ar _ p hp)
theorem mL {d:P2} {ys:List P2}:∀ {B:List P2},(∀ b∈B,nl b d=true)→c_ d (B++ys)=plus (sms B) (c_ d ys)
 | [],_=> by show _=plus (0,0) _; rw [bz,aw]; rfl
 | b::B,h=> by
  show c_ d (b::(B++ys))=plus (plus b (sms B)) _
  rw [d_ (h b List.mem_cons_self),mL fun c hc=> h c (List.mem_cons_of_mem _ hc),au]
theorem pM {a:P2}:∀ {ys:List P2},(∀ c∈ys,nl a c=true)→cr (c_ a ys) a=0
 | [],_=> by show cr (0,0) a=0; unfold cr; simp
 | c::ys,h=> by
  cases k:nl c a with
  | true=>
   rw [d_ k,de,pM fun x hx=> h x (List.mem_cons_of_mem _ hx),oZ k (h c List.mem_cons_self)]
   rfl
  | false=> rw [d8 k]; unfold cr; simp
theorem key {T:List P2} (hT:T≠[]) {a:P2} (ha:a≠(0,0)) {B ys:List P2} {y:P2} (e:B++ys=wys (aa T)) (ey:y=plus (gp (aa T) 0) (sms B)) (hB:∀ b∈B,nl b a=true) (hys:∀ c∈ys,nl a c=true):cr y a=hg (aa T) a:=by
 have:=xm hT ha
 rw [← e,mL hB,← au,← ey,de,pM hys] at this
 omega
theorem iU (y:P2):∀ xs:List P2,cr y (sms xs)=(xs.map (cr y)).sum
 | []=> by show cr y (0,0)=0; unfold cr; simp
 | x::xs=> by show cr y (plus x (sms xs))=_; rw [g_,iU y xs,List.map_cons,List.sum_cons]
theorem i_ {T:List P2} (hT:T≠[]) (h2:2≤(aa T).length):∀ (xs ys B:List P2) (y:P2),(∀ a∈xs,a≠(0,0))→xs.Pairwise (fun u v=> nl u v=true)→B++ys=wys (aa T)→y=plus (gp (aa T) 0) (sms B)→(∀ b∈B,∀ a∈xs,nl b a=true)→dJ y xs ys=(xs.map (hg (aa T))).sum
 | xs,[],B,y,h0,pw,e,ey,hB=> by
  rw [dJ,iU]
  refine congrArg List.sum (List.map_congr_left fun a ha=> ?_)
  exact key hT (h0 a ha) e ey (fun b hb=> hB b hb a ha) (by simp)
 | [],b::ys,B,y,_,_,_,_,_=> by rw [dJ]; rfl
 | a::xs,b::ys,B,y,h0,pw,e,ey,hB=> by
  have nz:=dW (av T) h2
  have pwY:=fM T
  rw [← e] at nz pwY
  have pY:=(List.pairwise_append.mp pwY).2.1
  have b0:=nz b (List.mem_append_right _ List.mem_cons_self)
  have a0:=h0 a List.mem_cons_self
  obtain ⟨pa,px⟩:=List.pairwise_cons.mp pw
  rw [dJ]
  split
  ·rename_i h
   have hc:∀ c∈b::ys,nl a c=true:=fun c hc=> by
    rcases List.mem_cons.mp hc with z | z
    ·rw [z]; exact h
    ·exact bM a0 b0 (nz c (List.mem_append_right _ hc)) h ((List.pairwise_cons.mp pY).1 c z)
   rw [key hT a0 e ey (fun c hc=> hB c hc a List.mem_cons_self) hc,i_ hT h2 xs (b::ys) B y (fun z hz=> h0 z (List.mem_cons_of_mem _ hz)) px e ey fun c hc z hz=> hB c hc z (List.mem_cons_of_mem _ hz)]
   rfl
  ·rename_i h
   have h':nl b a=true:=kA (Bool.eq_false_iff.mpr h)
   refine i_ hT h2 (a::xs) ys (B++[b]) (plus y b) h0 pw (by rw [List.append_assoc]; exact e) (by rw [ey,eg,au]) fun c hc z hz=> ?_
   rcases List.mem_append.mp hc with k | k
   ·exact hB c k z hz
   ·rw [List.mem_singleton.mp k]
    rcases List.mem_cons.mp hz with w | w
    ·rw [w]; exact h'
    ·exact bM b0 a0 (h0 z hz) h' (pa z w)
termination_by xs ys=> xs.length+ys.length
theorem oG (y:P2):∀ xs:List P2,dJ y xs [(0,0)]=(xs.map (cr y)).sum
 | []=> by rw [dJ]; rfl
 | a::xs=> by
  rw [dJ]
  split
  ·rw [oG y xs]; rfl
  ·rw [aw,dJ,iU]
theorem u3 (y:P2) (ys:List P2):dJ y [(0,0)] ys=0:=by
 have z:∀ p:P2,cr p (0,0)=0:=fun p=> by unfold cr; simp
 cases ys with
 | nil=> rw [dJ]; show cr y (plus (0,0) (0,0))=0; rw [aw,z]
 | cons b ys=> rw [dJ,if_pos (xw b),z,dJ]; rfl
def mxd (X Y:List P2):Int:=((wys X).map (hg Y)).sum
theorem v9 (q a:P2):hg [q] a=cr q a:=by
 refine gG ⟨q,by simp,eN a q⟩ fun p hp=> ?_
 rw [List.mem_singleton.mp hp,eN]
 exact Int.le_refl _
theorem xL {Y:List P2} (h:Y≠[]):hg Y (0,0)=0:=by
 obtain ⟨q,hq⟩:=List.exists_mem_of_ne_nil Y h
 have z:∀ p:P2,cr p (0,0)=0:=fun p=> by unfold cr; simp
 refine gG ⟨q,hq,(eN (0,0) q).trans (z q)⟩ fun p hp=> ?_
 exact Int.le_of_eq ((eN (0,0) p).trans (z p))
theorem sH {S T:List P2} (hS:S≠[]) (hT:T≠[]):dJ (gp (aa T) 0) (wys (aa S)) (wys (aa T))=mxd (aa S) (aa T):=by
 have hl:0 < (aa S).length:=List.length_pos_iff.mpr (aG hS)
 have hm:0 < (aa T).length:=List.length_pos_iff.mpr (aG hT)
 unfold mxd
 by_cases h1:2≤(aa S).length
 ·by_cases h2:2≤(aa T).length
  ·exact i_ hT h2 _ _ [] _ (dW (av S) h1) (fM S) rfl (aw _).symm (by simp)
  ·obtain ⟨q,hq⟩:=fH hm h2
   rw [hq,e9,oG]
   refine congrArg List.sum (List.map_congr_left fun a _=> ?_)
   exact (v9 q a).symm
 ·obtain ⟨q,hq⟩:=fH hl h1
  rw [hq,e9,u3]
  show 0=hg (aa T) (0,0)+0
  rw [xL (aG hT)]
  rfl
theorem oJ {S T:List P2} (hS:S≠[]) (hT:T≠[]):shl (plus (gp (aa S) 0) (gp (aa T) 0)) (mrg (wys (aa S)) (wys (aa T)))=bQ (aa S)+bQ (aa T)+2 * mxd (aa S) (aa T):=by
 have hl:0 < (aa S).length:=List.length_pos_iff.mpr (aG hS)
 have hm:0 < (aa T).length:=List.length_pos_iff.mpr (aG hT)
 rw [kP,rY (bv hl) (bv hm) (gp (aa S) 0) (gp (aa T) 0),sH hS hT,← dw,← dw]
 omega
def Sup (S:List P2) (p:P2):List P2→Prop
 | []=> True
 | w::ws=> (∀ z∈S,cr z w≤cr p w)∧Sup S (plus p w) ws
theorem Sup.snoc {S:List P2}:∀ {ws:List P2} {p w:P2},Sup S p ws→(∀ z∈S,cr z w≤cr (plus p (sms ws)) w)→Sup S p (ws++[w])
 | [],p,w,_,h=> ⟨fun z hz=> by have:=h z hz; rwa [show sms []=(0,0) from rfl,aw] at this,trivial⟩
 | v::ws,p,w,h1,h=> ⟨h1.1,Sup.snoc h1.2 fun z hz=> by have:=h z hz; rwa [show sms (v::ws)=plus v (sms ws) from rfl,← au] at this⟩
theorem Sup.at_ {S:List P2}:∀ {ws:List P2} {p:P2},Sup S p ws→∀ {i:Nat} {w:P2},ws[i]?=some w→∀ z∈S,cr z w≤cr (plus p (sms (ws.take i))) w
 | w::ws,p,h,0,v,hv,z,hz=> by
  have e:w=v:=by simpa using hv
  subst e
  rw [List.take_zero,show sms []=(0,0) from rfl,aw]
  exact h.1 z hz
 | w::ws,p,h,i+1,v,hv,z,hz=> by
  have:=Sup.at_ h.2 (i:=i) (by simpa using hv) z hz
  rw [List.take_succ_cons,show sms (w::ws.take i)=plus w (sms (ws.take i)) from rfl,← au]
  exact this
 | [],_,_,_,_,hv,_,_=> by simp at hv
theorem oW {S:List P2} (hS:S≠[]):∀ i,i≤(aa S).length→Sup (aa S) (gp (aa S) 0) ((wys (aa S)).take i)
 | 0,_=> trivial
 | i+1,h=> by
  have hi:i < (aa S).length:=by omega
  have ih:=oW hS i (by omega)
  rw [List.take_succ,eL hi,Option.toList_some]
  refine ih.snoc fun z hz=> ?_
  rw [eJ i (by omega) (by omega),Nat.mod_eq_of_lt hi]
  by_cases hl:2≤(ST.srt S).length
  ·obtain ⟨A,B,r1,r2,cv,_⟩:=bj hl hi
   have eA:gp (aa S) i=A:=by simp [gp,r1]
   have eB:gp (aa S) ((i+1) % (aa S).length)=B:=by simp [gp,r2]
   rw [eA,eB]
   have:=cv z (ar _ z hz)
   have e:ao A B z=cr A (ak B A) - cr z (ak B A):=by unfold ao cr ak; grind
   omega
  ·have es:=bZ hl
   have l1:(aa S).length=1:=by
    have:(aa S).length=(ST.srt S).length:=by rw [es]
    omega
   obtain ⟨q,hq⟩:=fH (l:=aa S) (by omega) (by omega)
   rw [hq] at hz ⊢
   have:ak (gp [q] ((i+1) % [q].length)) (gp [q] i)=(0,0):=by
    have i0:i=0:=by omega
    subst i0
    unfold ak gp
    simp
   rw [this]
   unfold cr
   simp
theorem lq {S:List P2} (hS:S≠[]):Sup (aa S) (gp (aa S) 0) (wys (aa S)):=by
 have:=oW hS (aa S).length (Nat.le_refl _)
 rwa [List.take_of_length_le (by rw [br]; exact Nat.le_refl _)] at this
theorem ul {S T:List P2} (hS:S≠[]) (hT:T≠[]) (h1:2≤(aa S).length) (h2:2≤(aa T).length):∀ (xs ys A B:List P2) (x y:P2),A++xs=wys (aa S)→B++ys=wys (aa T)→x=plus (gp (aa S) 0) (sms A)→y=plus (gp (aa T) 0) (sms B)→
  (∀ b∈B,∀ a∈xs,nl b a=true)→(∀ a∈A,∀ b∈ys,nl a b=true)→Sup (aa S) x xs→Sup (aa T) y ys→Sup (bB (aa S) (aa T)) (plus x y) (mrg xs ys):=by
 have nzX:=dW (av S) h1
 have nzY:=dW (av T) h2
 have pwX:=fM S
 have pwY:=fM T
 have sN:=aG hS
 have tN:=aG hT
 have stepX:∀ {x y a:P2},(∀ z∈aa S,cr z a≤cr x a)→cr y a=hg (aa T) a→∀ z∈bB (aa S) (aa T),cr z a≤cr (plus x y) a:=fun {x y a} k1 k2 z hz=> by
  obtain ⟨p,hp,q,hq,rfl⟩:=aI.mp hz
  rw [de,de]
  have:=k1 p hp
  have:=tF tN a q hq
  omega
 have stepY:∀ {x y b:P2},(∀ z∈aa T,cr z b≤cr y b)→cr x b=hg (aa S) b→∀ z∈bB (aa S) (aa T),cr z b≤cr (plus x y) b:=fun {x y b} k1 k2 z hz=> by
  obtain ⟨p,hp,q,hq,rfl⟩:=aI.mp hz
  rw [de,de]
  have:=k1 q hq
  have:=tF sN b p hp
  omega
 suffices H:∀ (n:Nat) (xs ys A B:List P2) (x y:P2),xs.length+ys.length=n→A++xs=wys (aa S)→B++ys=wys (aa T)→x=plus (gp (aa S) 0) (sms A)→y=plus (gp (aa T) 0) (sms B)→
  (∀ b∈B,∀ a∈xs,nl b a=true)→(∀ a∈A,∀ b∈ys,nl a b=true)→Sup (aa S) x xs→Sup (aa T) y ys→Sup (bB (aa S) (aa T)) (plus x y) (mrg xs ys) from fun xs ys A B x y=> H _ xs ys A B x y rfl
 intro n
 induction n with
 | zero=>
  intro xs ys A B x y hn
  have:xs=[]:=List.length_eq_zero_iff.mp (by omega)
  have:ys=[]:=List.length_eq_zero_iff.mp (by omega)
  subst xs ys
  intros
  rw [mrg]
  trivial
 | succ n ih=>
  intro xs ys A B x y hn eA eB ex ey hB hA sX sY
  have goX:∀ (a:P2) (xs':List P2),xs=a::xs'→(∀ c∈ys,nl a c=true)→Sup (bB (aa S) (aa T)) (plus x y) (a::mrg xs' ys):=fun a xs' e hc=> by
   subst e
   have a0:a≠(0,0):=nzX a (by rw [← eA]; exact List.mem_append_right _ List.mem_cons_self)
   refine ⟨stepX sX.1 (key hT a0 eB ey (fun b hb=> hB b hb a List.mem_cons_self) hc),?_⟩
   rw [show plus (plus x y) a=plus (plus x a) y by rw [au,au,bz y]]
   refine ih xs' ys (A++[a]) B (plus x a) y (by simp at hn; omega) (by rw [List.append_assoc]; exact eA) eB (by rw [ex,eg,au]) ey (fun b hb z hz=> hB b hb z (List.mem_cons_of_mem _ hz)) (fun z hz b hb=> ?_) sX.2 sY
   rcases List.mem_append.mp hz with k | k
   ·exact hA z k b hb
   ·rw [List.mem_singleton.mp k]; exact hc b hb
  have goY:∀ (b:P2) (ys':List P2),ys=b::ys'→(∀ c∈xs,nl b c=true)→Sup (bB (aa S) (aa T)) (plus x y) (b::mrg xs ys'):=fun b ys' e hc=> by
   subst e
   have b0:b≠(0,0):=nzY b (by rw [← eB]; exact List.mem_append_right _ List.mem_cons_self)
   refine ⟨stepY sY.1 (key hS b0 eA ex (fun a ha=> hA a ha b List.mem_cons_self) hc),?_⟩
   rw [au x y b]
   refine ih xs ys' A (B++[b]) x (plus y b) (by simp at hn; omega) eA (by rw [List.append_assoc]; exact eB) ex (by rw [ey,eg,au]) (fun z hz a ha=> ?_) (fun a ha z hz=> hA a ha z (List.mem_cons_of_mem _ hz)) sX sY.2
   rcases List.mem_append.mp hz with k | k
   ·exact hB z k a ha
   ·rw [List.mem_singleton.mp k]; exact hc a ha
  match xs,ys,goX,goY,eA,eB,hn with
  | xs,[],goX,_,_,_,hn=>
   cases xs with
   | nil=> simp at hn
   | cons a xs'=>
    have:=goX a xs' rfl (by simp)
    rw [mrg]
    have e:mrg xs' []=xs':=by rw [mrg]
    rwa [e] at this
  | [],b::ys',_,goY,_,_,_=>
   have:=goY b ys' rfl (by simp)
   rw [mrg]
   have e:mrg [] ys'=ys':=by cases ys' <;> rw [mrg]
   rwa [e] at this
  | a::xs',b::ys',goX,goY,eA,eB,_=>
   rw [← eA] at nzX pwX
   rw [← eB] at nzY pwY
   have pX:=(List.pairwise_append.mp pwX).2.1
   have pY:=(List.pairwise_append.mp pwY).2.1
   have a0:=nzX a (List.mem_append_right _ List.mem_cons_self)
   have b0:=nzY b (List.mem_append_right _ List.mem_cons_self)
   rw [mrg]
   split
   ·rename_i h
    refine goX a xs' rfl fun c hc=> ?_
    rcases List.mem_cons.mp hc with z | z
    ·rw [z]; exact h
    ·exact bM a0 b0 (nzY c (List.mem_append_right _ hc)) h ((List.pairwise_cons.mp pY).1 c z)
   ·rename_i h
    have h':nl b a=true:=kA (Bool.eq_false_iff.mpr h)
    refine goY b ys' rfl fun c hc=> ?_
    rcases List.mem_cons.mp hc with z | z
    ·rw [z]; exact h'
    ·exact bM b0 a0 (nzX c (List.mem_append_right _ hc)) h' ((List.pairwise_cons.mp pX).1 c z)
def cmb:List P2→List P2
 | []=> []
 | w::ws=> match cmb ws with
  | []=> [w]
  | v::vs=> if cr w v=0∧ngv w=ngv v then plus w v::vs else w::v::vs
def eqv (u v:P2):Prop:=nl u v=true∧nl v u=true
theorem iQ {u v:P2} (h1:cr u v=0) (h2:ngv u=ngv v):eqv u v:=by
 refine ⟨?_,?_⟩
 ·rw [aH h2]; exact decide_eq_true (by omega)
 ·rw [aH h2.symm,cm]; exact decide_eq_true (by omega)
theorem sT {u v:P2} (h:eqv u v):ngv u=ngv v:=by
 obtain ⟨h1,h2⟩:=h
 cases hu:ngv u <;> cases hv:ngv v
 ·rfl
 ·rw [ft hv hu] at h2; cases h2
 ·rw [ft hu hv] at h1; cases h1
 ·rfl
theorem iJ (u:P2):cr u u=0:=by unfold cr; grind
theorem gN (u:P2):nl u u=true:=(iQ (iJ u) rfl).1
theorem lH {w v:P2} (h:ngv w=ngv v):ngv (plus w v)=ngv v:=by
 cases hv:ngv v with
 | true=>
  rw [hv] at h
  unfold ngv ST.ltP at h hv ⊢
  unfold plus
  simp only [decide_eq_true_eq] at h hv ⊢
  omega
 | false=>
  rw [hv] at h
  unfold ngv ST.ltP at h hv ⊢
  unfold plus
  simp only [decide_eq_false_iff_not] at h hv ⊢
  omega
theorem uu {w v:P2} (h:ngv w=ngv v) (w0:w≠(0,0)) (v0:v≠(0,0)):plus w v≠(0,0):=fun e=> by
 have k1:=congrArg Prod.fst e
 have k2:=congrArg Prod.snd e
 unfold plus at k1 k2
 simp only at k1 k2
 cases hv:ngv v with
 | true=>
  rw [hv] at h
  have a:=eE h
  have b:=eE hv
  unfold lpos at a b
  omega
 | false=>
  rw [hv] at h
  have a:=eH h w0
  have b:=eH hv v0
  unfold lpos at a b
  omega
theorem eY (w:P2) (ws:List P2):(cmb ws=[]∧cmb (w::ws)=[w])∨(∃ v vs,cmb ws=v::vs∧cr w v=0∧ngv w=ngv v∧cmb (w::ws)=plus w v::vs)∨(∃ v vs,cmb ws=v::vs∧¬ (cr w v=0∧ngv w=ngv v)∧cmb (w::ws)=w::v::vs):=by
 rw [cmb]
 split
 ·rename_i e; exact .inl ⟨e,rfl⟩
 ·rename_i v vs e
  split
  ·rename_i h; exact .inr (.inl ⟨v,vs,e,h.1,h.2,rfl⟩)
  ·rename_i h; exact .inr (.inr ⟨v,vs,e,h,rfl⟩)
theorem oE:∀ (ws:List P2) (p:P2),shl p (cmb ws)=shl p ws
 | [],_=> rfl
 | w::ws,p=> by
  have ih:=oE ws (plus p w)
  rcases eY w ws with ⟨e,f⟩ | ⟨v,vs,e,h1,h2,f⟩ | ⟨v,vs,e,h,f⟩ <;> rw [f] <;> rw [e] at ih
  ·show cr p w+0=cr p w+shl (plus p w) ws
   rw [← ih]; rfl
  ·show cr p (plus w v)+shl (plus p (plus w v)) vs=cr p w+shl (plus p w) ws
   have ih':cr (plus p w) v+shl (plus (plus p w) v) vs=shl (plus p w) ws:=ih
   rw [au,de,h1] at ih'
   rw [g_]
   omega
  ·show cr p w+shl (plus p w) (v::vs)=cr p w+shl (plus p w) ws
   rw [ih]
theorem pV:∀ ws:List P2,sms (cmb ws)=sms ws
 | []=> rfl
 | w::ws=> by
  have ih:=pV ws
  rcases eY w ws with ⟨e,f⟩ | ⟨v,vs,e,h1,h2,f⟩ | ⟨v,vs,e,h,f⟩ <;> rw [f] <;> rw [e] at ih
  ·show plus w (0,0)=plus w (sms ws)
   rw [← ih]; rfl
  ·show plus (plus w v) (sms vs)=plus w (sms ws)
   rw [← ih,au]; rfl
  ·show plus w (sms (v::vs))=plus w (sms ws)
   rw [ih]
theorem oO {S:List P2}:∀ (ws:List P2) (p:P2),Sup S p ws→Sup S p (cmb ws)
 | [],_,_=> trivial
 | w::ws,p,h=> by
  have ih:=oO ws (plus p w) h.2
  rcases eY w ws with ⟨e,f⟩ | ⟨v,vs,e,h1,h2,f⟩ | ⟨v,vs,e,h',f⟩ <;> rw [f] <;> rw [e] at ih
  ·exact ⟨h.1,trivial⟩
  ·refine ⟨fun z hz=> ?_,?_⟩
   ·have a:=h.1 z hz
    have b:=ih.1 z hz
    rw [de,h1] at b
    rw [g_,g_]
    omega
   ·have:=ih.2
    rwa [au] at this
  ·exact ⟨h.1,ih⟩
theorem jm:∀ (ws:List P2) (i:Nat),∃ j,j≤ws.length∧sms ((cmb ws).take i)=sms (ws.take j)
 | [],i=> ⟨0,Nat.le_refl _,by rw [cmb]; simp⟩
 | w::ws,0=> ⟨0,Nat.zero_le _,rfl⟩
 | w::ws,i+1=> by
  rcases eY w ws with ⟨e,f⟩ | ⟨v,vs,e,h1,h2,f⟩ | ⟨v,vs,e,h,f⟩ <;> rw [f]
  ·exact ⟨1,by simp,by simp⟩
  ·obtain ⟨j,h1,h2⟩:=jm ws (i+1)
   rw [e] at h2
   refine ⟨j+1,by simp; omega,?_⟩
   show plus (plus w v) (sms (vs.take i))=plus w (sms (ws.take j))
   rw [← h2,au]; rfl
  ·obtain ⟨j,h1,h2⟩:=jm ws i
   rw [e] at h2
   refine ⟨j+1,by simp; omega,?_⟩
   show plus w (sms ((v::vs).take i))=plus w (sms (ws.take j))
   rw [h2]
abbrev Sto (ws:List P2):Prop:=ws.Pairwise fun u v=> nl u v=true∧nl v u=false
theorem tV:∀ {ws:List P2},(∀ w∈ws,w≠(0,0))→(ws.Pairwise fun u v=> nl u v=true)→(∀ c∈cmb ws,c≠(0,0)∧∃ d∈ws,eqv c d)∧Sto (cmb ws)
 | [],_,_=> ⟨by rw [cmb]; simp,by rw [cmb]; exact .nil⟩
 | w::ws,h0,pw=> by
  have w0:=h0 w List.mem_cons_self
  have h0':∀ z∈ws,z≠(0,0):=fun z hz=> h0 z (List.mem_cons_of_mem _ hz)
  obtain ⟨pa,px⟩:=List.pairwise_cons.mp pw
  obtain ⟨i1,i2⟩:=tV h0' px
  have nlw:∀ c∈cmb ws,nl w c=true:=fun c hc=> by
   obtain ⟨c0,d,hd,e1,e2⟩:=i1 c hc
   exact bM w0 (h0' d hd) c0 (pa d hd) e2
  rcases eY w ws with ⟨e,f⟩ | ⟨v,vs,e,h1,h2,f⟩ | ⟨v,vs,e,h,f⟩ <;> rw [f]
  ·exact ⟨fun c hc=> by rw [List.mem_singleton.mp hc]; exact ⟨w0,w,List.mem_cons_self,gN w,gN w⟩,List.pairwise_singleton _ _⟩
  ·rw [e] at i1 i2 nlw
   obtain ⟨s1,s2⟩:=List.pairwise_cons.mp i2
   obtain ⟨v0,_⟩:=i1 v List.mem_cons_self
   have u0:=uu h2 w0 v0
   have ev:eqv (plus w v) v:=iQ (by rw [de,h1,iJ]; rfl) (lH h2)
   have ew:eqv (plus w v) w:=iQ (by rw [de,iJ,cm,h1]; rfl) ((lH h2).trans h2.symm)
   refine ⟨fun c hc=> ?_,List.pairwise_cons.mpr ⟨fun c hc=> ⟨?_,?_⟩,s2⟩⟩
   ·rcases List.mem_cons.mp hc with z | z
    ·rw [z]; exact ⟨u0,w,List.mem_cons_self,ew⟩
    ·obtain ⟨c0,d,hd,ed⟩:=i1 c (List.mem_cons_of_mem _ z)
     exact ⟨c0,d,List.mem_cons_of_mem _ hd,ed⟩
   ·exact bM u0 v0 (i1 c (List.mem_cons_of_mem _ hc)).1 ev.1 (s1 c hc).1
   ·cases k:nl c (plus w v) with
    | false=> rfl
    | true=>
     have:=bM (i1 c (List.mem_cons_of_mem _ hc)).1 u0 v0 k ev.1
     rw [(s1 c hc).2] at this; cases this
  ·rw [e] at i1 i2 nlw
   obtain ⟨s1,s2⟩:=List.pairwise_cons.mp i2
   obtain ⟨v0,_⟩:=i1 v List.mem_cons_self
   have vw:nl v w=false:=by
    cases k:nl v w with
    | false=> rfl
    | true=>
     have ee:eqv w v:=⟨nlw v List.mem_cons_self,k⟩
     exact absurd ⟨oZ ee.1 ee.2,sT ee⟩ h
   refine ⟨fun c hc=> ?_,List.pairwise_cons.mpr ⟨fun c hc=> ⟨nlw c hc,?_⟩,i2⟩⟩
   ·rcases List.mem_cons.mp hc with z | z
    ·rw [z]; exact ⟨w0,w,List.mem_cons_self,gN w,gN w⟩
    ·obtain ⟨c0,d,hd,ed⟩:=i1 c z
     exact ⟨c0,d,List.mem_cons_of_mem _ hd,ed⟩
   ·rcases List.mem_cons.mp hc with z | z
    ·rw [z]; exact vw
    ·cases k:nl c w with
     | false=> rfl
     | true=>
      have:=bM v0 (i1 c hc).1 w0 (s1 c z).1 k
      rw [vw] at this; cases this
theorem kW:∀ {xs ys:List P2},(∀ x∈xs,x≠(0,0))→(∀ y∈ys,y≠(0,0))→(xs.Pairwise fun u v=> nl u v=true)→(ys.Pairwise fun u v=> nl u v=true)→(∀ z∈mrg xs ys,z∈xs∨z∈ys)∧(mrg xs ys).Pairwise fun u v=> nl u v=true
 | xs,[],_,_,px,_=> by rw [mrg]; exact ⟨fun z hz=> .inl hz,px⟩
 | [],y::ys,_,_,_,py=> by rw [mrg]; exact ⟨fun z hz=> .inr hz,py⟩
 | x::xs,y::ys,hx,hy,px,py=> by
  have x0:=hx x List.mem_cons_self
  have y0:=hy y List.mem_cons_self
  obtain ⟨qx,px'⟩:=List.pairwise_cons.mp px
  obtain ⟨qy,py'⟩:=List.pairwise_cons.mp py
  rw [mrg]
  split
  ·rename_i h
   obtain ⟨m,p⟩:=kW (fun z hz=> hx z (List.mem_cons_of_mem _ hz)) hy px' py
   refine ⟨fun z hz=> ?_,List.pairwise_cons.mpr ⟨fun z hz=> ?_,p⟩⟩
   ·rcases List.mem_cons.mp hz with k | k
    ·left; rw [k]; exact List.mem_cons_self
    ·rcases m z k with k | k
     ·exact .inl (List.mem_cons_of_mem _ k)
     ·exact .inr k
   ·rcases m z hz with k | k
    ·exact qx z k
    ·rcases List.mem_cons.mp k with j | j
     ·rw [j]; exact h
     ·exact bM x0 y0 (hy z k) h (qy z j)
  ·rename_i h
   have h':=kA (Bool.eq_false_iff.mpr h)
   obtain ⟨m,p⟩:=kW hx (fun z hz=> hy z (List.mem_cons_of_mem _ hz)) px py'
   refine ⟨fun z hz=> ?_,List.pairwise_cons.mpr ⟨fun z hz=> ?_,p⟩⟩
   ·rcases List.mem_cons.mp hz with k | k
    ·right; rw [k]; exact List.mem_cons_self
    ·rcases m z k with k | k
     ·exact .inl k
     ·exact .inr (List.mem_cons_of_mem _ k)
   ·rcases m z hz with k | k
    ·rcases List.mem_cons.mp k with j | j
     ·rw [j]; exact h'
     ·exact bM y0 x0 (hx z k) h' (qx z j)
    ·exact qy z k
termination_by xs ys=> xs.length+ys.length
end
section
variable {P:Program} {w:World} {K:PySem.W.Frag} {mg:Str→Option Value} {base:Heap}
theorem oY {a b u:P2} (u0:u≠(0,0)) (h1:cr a u=0) (h2:cr b u=0):cr a b=0:=by
 have e1:cr a b * u.1=cr a u * b.1 - cr b u * a.1:=by unfold cr; grind
 have e2:cr a b * u.2=cr a u * b.2 - cr b u * a.2:=by unfold cr; grind
 rw [h1,h2] at e1 e2
 rcases Int.mul_eq_zero.mp (e1.trans (by simp)) with k | k
 ·exact k
 ·rcases Int.mul_eq_zero.mp (e2.trans (by simp)) with j | j
  ·exact j
  ·exact absurd (Prod.ext k j) u0
theorem wS {u v w:P2} (hc:0 < cr u v) (h1:cr w u=0) (h2:cr w v=0):w=(0,0):=by
 have e1:cr u v * w.1=cr w v * u.1 - cr w u * v.1:=by unfold cr; grind
 have e2:cr u v * w.2=cr w v * u.2 - cr w u * v.2:=by unfold cr; grind
 rw [h1,h2] at e1 e2
 refine Prod.ext ?_ ?_
 ·rcases Int.mul_eq_zero.mp (e1.trans (by simp)) with k | k
  ·omega
  ·exact k
 ·rcases Int.mul_eq_zero.mp (e2.trans (by simp)) with k | k
  ·omega
  ·exact k
theorem opp {u v w:P2} (u0:u≠(0,0)) (v0:v≠(0,0)) (hc:cr u v=0) (hh:ngv u≠ngv v) (h1:cr w u≤0) (h2:cr w v≤0):cr w u=0:=by
 have e1:cr u v * w.1=cr w v * u.1 - cr w u * v.1:=by unfold cr; grind
 have e2:cr u v * w.2=cr w v * u.2 - cr w u * v.2:=by unfold cr; grind
 rw [hc,Int.zero_mul] at e1 e2
 rcases Int.lt_or_eq_of_le h1 with k | k
 ·exfalso
  have key:∀ {x y:P2},lpos x.1 x.2→lpos (-y.1) (-y.2)→∀ {α β:Int},α≤0→β≤0→(α < 0∨β < 0)→α * x.1 - β * y.1=0→α * x.2 - β * y.2=0→False:=by
   intro x y hx hy α β ha hb hab f1 f2
   unfold lpos at hx hy
   have a1:α * x.1≤0:=Int.mul_nonpos_of_nonpos_of_nonneg ha (by omega)
   have b1:0≤β * y.1:=Int.mul_nonneg_of_nonpos_of_nonpos hb (by omega)
   have a0:α * x.1=0:=by omega
   have b0:β * y.1=0:=by omega
   have ax:α=0∨(x.1=0∧0 < x.2):=by
    rcases Int.mul_eq_zero.mp a0 with z | z
    ·exact .inl z
    ·right; omega
   have bx:β=0∨(y.1=0∧y.2 < 0):=by
    rcases Int.mul_eq_zero.mp b0 with z | z
    ·exact .inl z
    ·right; omega
   have a2:α * x.2≤0∧(α < 0→α * x.2 < 0):=by
    rcases ax with z | z
    ·rw [z]; simp
    ·exact ⟨Int.mul_nonpos_of_nonpos_of_nonneg ha (by omega),fun k=> Int.mul_neg_of_neg_of_pos k z.2⟩
   have b2:0≤β * y.2∧(β < 0→0 < β * y.2):=by
    rcases bx with z | z
    ·rw [z]; simp
    ·exact ⟨Int.mul_nonneg_of_nonpos_of_nonpos hb (by omega),fun k=> Int.mul_pos_of_neg_of_neg k z.2⟩
   rcases hab with z | z
   ·have:=a2.2 z; have:=b2.1; omega
   ·have:=b2.2 z; have:=a2.1; omega
  cases hu:ngv u <;> cases hv:ngv v
  ·exact hh (by rw [hu,hv])
  ·exact key (eH hu u0) (eE hv) h2 h1 (.inr k) e1.symm e2.symm
  ·exact key (eH hv v0) (eE hu) h1 h2 (.inl k) (by omega) (by omega)
  ·exact hh (by rw [hu,hv])
 ·exact k
theorem xB {W:List P2} (h:W≠[]):cmb W≠[]:=by
 cases W with
 | nil=> exact absurd rfl h
 | cons w ws=>
  rcases eY w ws with ⟨e,f⟩ | ⟨v,vs,e,h1,h2,f⟩ | ⟨v,vs,e,h,f⟩ <;> rw [f] <;> simp
theorem ip (a b u:P2):cr (ak a b) u=cr a u - cr b u:=by unfold cr ak; grind
theorem vG {p0:P2} {W S:List P2} (h3:3≤(aa S).length) (W0:∀ w∈W,w≠(0,0)) (Wpw:W.Pairwise fun u v=> nl u v=true) (hsum:sms W=(0,0)) (hW:W≠[]) (sup:Sup S p0 W) (inS:∀ j,j≤W.length→plus p0 (sms (W.take j))∈S) (least:∀ z∈S,z=p0∨plt p0 z):cmb W=wys (aa S)∧gp (aa S) 0=p0:=by
 obtain ⟨ok,sto⟩:=tV W0 Wpw
 have vsup:=oO W p0 sup
 have vne:=xB hW
 have vsum:=(pV W).trans hsum
 have inL:∀ i,plus p0 (sms ((cmb W).take i))∈S:=fun i=> by
  obtain ⟨j,h1,h2⟩:=jm W i
  rw [h2]; exact inS j h1
 generalize cmb W=V at *
 have n1:0 < V.length:=List.length_pos_iff.mpr vne
 generalize hL:(fun i=> plus p0 (sms (V.take i)))=L
 have L_:∀ i,L i=plus p0 (sms (V.take i)):=fun i=> by rw [← hL]
 have L0:L 0=p0:=by rw [L_,List.take_zero]; exact aw p0
 have Ln:L V.length=p0:=by rw [L_,List.take_length,vsum,aw]
 have step:∀ i v,V[i]?=some v→L (i+1)=plus (L i) v:=fun i v hv=> by rw [L_,L_,List.take_succ,hv,Option.toList_some,eg,au]
 have LS:∀ i,L i∈S:=fun i=> by rw [L_]; exact inL i
 have supV:∀ i v,V[i]?=some v→∀ z∈S,cr z v≤cr (L i) v:=fun i v hv z hz=> by rw [L_]; exact vsup.at_ hv z hz
 have V0:∀ (i:Nat) (v:P2),V[i]?=some v→v≠(0,0):=fun i v hv=> (ok v (List.mem_of_getElem? hv)).1
 have at_:∀ i,i < V.length→∃ v,V[i]?=some v:=fun i hi=> ⟨_,List.getElem?_eq_getElem hi⟩
 have n2:2≤V.length:=by
  rcases Nat.lt_or_ge V.length 2 with k | k
  ·exfalso
   obtain ⟨v,hv⟩:=at_ 0 n1
   have e1:V.length=1:=by omega
   have:=step 0 v hv
   rw [show 0+1=V.length by omega,Ln,L0] at this
   apply V0 0 v hv
   have k1:=congrArg Prod.fst this
   have k2:=congrArg Prod.snd this
   unfold plus at k1 k2
   simp only at k1 k2
   exact Prod.ext (by show v.1=0; omega) (by show v.2=0; omega)
  ·exact k
 have ord:∀ i j u v,i < j→V[i]?=some u→V[j]?=some v→nl u v=true∧nl v u=false:=fun i j u v hij hu hv=> by
  obtain ⟨a1,a2⟩:=List.getElem?_eq_some_iff.mp hu
  obtain ⟨b1,b2⟩:=List.getElem?_eq_some_iff.mp hv
  have:=List.pairwise_iff_getElem.mp sto i j a1 b1 hij
  rw [a2,b2] at this
  exact this
 have srt2:=h9 h3
 have corner:∀ i,i < V.length→L i∈aa S:=fun i hi=> by
  obtain ⟨v,hv⟩:=at_ i hi
  obtain ⟨k,u,hu,ek,bad⟩:∃ k u,V[k]?=some u∧L (k+1)=L i∧(cr u v=0→ngv u≠ngv v):=by
   rcases Nat.eq_zero_or_pos i with z | z
   ·subst z
    obtain ⟨u,hu⟩:=at_ (V.length - 1) (by omega)
    refine ⟨V.length - 1,u,hu,by rw [show V.length - 1+1=V.length by omega,Ln,L0],fun hc hh=> ?_⟩
    have:=(ord 0 (V.length - 1) v u (by omega) hv hu).2
    rw [(iQ hc hh).1] at this; cases this
   ·obtain ⟨u,hu⟩:=at_ (i - 1) (by omega)
    refine ⟨i - 1,u,hu,by rw [Nat.sub_add_cancel z],fun hc hh=> ?_⟩
    have:=(ord (i - 1) i u v (by omega) hu hv).2
    rw [(iQ hc hh).2] at this; cases this
  have u0:=V0 k u hu
  have v0:=V0 i v hv
  have st:=step k u hu
  rw [ek] at st
  have supU:∀ z∈S,cr z u≤cr (L i) u:=fun z hz=> by
   have:=supV k u hu z hz
   rw [st,de,iJ]
   omega
  have c0:0≤cr u v:=by
   have:=supV i v hv (L k) (LS k)
   rw [st,de] at this
   omega
  have cp:0 < cr u v:=by
   rcases Int.lt_or_eq_of_le c0 with z | z
   ·exact z
   ·exfalso
    have hh:=bad z.symm
    have flat:∀ q∈S,cr q u=cr (L i) u:=fun q hq=> by
     have:=opp (w:=ak q (L i)) u0 v0 z.symm hh (by rw [ip]; have:=supU q hq; omega) (by rw [ip]; have:=supV i v hv q hq; omega)
     rw [ip] at this
     omega
    obtain ⟨A,B,r1,r2,_,tn⟩:=bj srt2 (i:=0) (by omega)
    obtain ⟨C,r3,dc⟩:=tn (by omega)
    have fA:=flat A (ar _ _ (List.mem_of_getElem? r1))
    have fB:=flat B (ar _ _ (List.mem_of_getElem? r2))
    have fC:=flat C (ar _ _ (List.mem_of_getElem? r3))
    rw [h7,oY u0 (by rw [ip]; omega) (by rw [ip]; omega)] at dc
    exact absurd dc (by decide)
  refine dr ⟨LS i,(plus u v).2,-(plus u v).1,fun z hz ne=> ?_⟩
  rw [eN,eN,g_,g_]
  have a:=supU z hz
  have b:=supV i v hv z hz
  rcases Int.lt_or_le (cr z u+cr z v) (cr (L i) u+cr (L i) v) with k' | k'
  ·exact k'
  ·exfalso
   have:=wS cp (w:=ak z (L i)) (by rw [ip]; omega) (by rw [ip]; omega)
   exact jw ne this
 have side:∀ i,i < V.length→(L i,L (i+1))∈sdl (aa S):=fun i hi=> by
  obtain ⟨v,hv⟩:=at_ i hi
  have st:=step i v hv
  have mv:ak (L (i+1)) (L i)=v:=by rw [st]; unfold ak plus; refine Prod.ext ?_ ?_ <;> simp <;> omega
  refine (gE h3).mpr ⟨corner i hi,?_,fun e=> V0 i v hv ?_,fun q hq=> ?_⟩
  ·rcases Nat.lt_or_ge (i+1) V.length with z | z
   ·exact corner _ z
   ·rw [show i+1=V.length by omega,Ln,← L0]
    exact corner 0 n1
  ·rw [← mv,← e]; unfold ak; simp
  ·have e:ao (L i) (L (i+1)) q=cr (L i) (ak (L (i+1)) (L i)) - cr q (ak (L (i+1)) (L i)):=by unfold ao cr ak; grind
   rw [e,mv]
   have:=supV i v hv q (ar _ _ hq)
   omega
 obtain ⟨mn,f1,f2⟩:=fc srt2
 have g0:gp (aa S) 0=mn:=by simp [gp,f1]
 have emn:mn=p0:=by
  rcases least mn (ar _ _ (List.mem_of_getElem? f1)) with z | z
  ·exact z
  ·rcases f2 p0 (L0 ▸ LS 0) with y | y
   ·exact y.symm
   ·exact absurd (bX z y) (aW _)
 have nd:=av S
 generalize hm:(aa S).length=m at *
 have idx:∀ i,i≤V.length→L i=gp (aa S) (i % m):=by
  intro i
  induction i with
  | zero=> intro _; rw [L0,Nat.zero_mod,g0,emn]
  | succ i ih=>
   intro hi
   have e:=ih (by omega)
   have s1:=side i (by omega)
   rw [e] at s1
   have s2:=oK (l:=aa S) (i:=i % m) (by rw [hm]; exact Nat.mod_lt _ (by omega))
   rw [hm,Nat.mod_add_mod] at s2
   exact rZ nd s1 s2
 have inj:∀ a b,a < m→b < m→gp (aa S) a=gp (aa S) b→a=b:=fun a b ha hb e=> (List.getElem?_inj (j:=b) (by omega) nd).mp (by rw [bT (by omega),bT (by omega),e])
 have nm0:V.length % m=0:=by
  have:=idx V.length (Nat.le_refl _)
  rw [Ln,← emn,← g0] at this
  exact (inj 0 _ (by omega) (Nat.mod_lt _ (by omega)) this).symm
 have vcan:∀ {p v w:P2},plus p v=plus p w→v=w:=fun {p v w} e=> by
  have k1:=congrArg Prod.fst e
  have k2:=congrArg Prod.snd e
  unfold plus at k1 k2
  simp only at k1 k2
  exact Prod.ext (by omega) (by omega)
 have nm:V.length=m:=by
  rcases Nat.lt_or_ge m V.length with k | k
  ·exfalso
   obtain ⟨a,ha⟩:=at_ 0 n1
   obtain ⟨b,hb⟩:=at_ m k
   have sa:=step 0 a ha
   have sb:=step m b hb
   rw [idx (0+1) (by omega),idx 0 (by omega)] at sa
   rw [idx (m+1) (by omega),idx m (by omega),Nat.mod_self,show (m+1) % m=(0+1) % m by rw [Nat.add_mod_left]] at sb
   rw [Nat.zero_mod] at sa
   have e:a=b:=vcan (sa.symm.trans sb)
   subst e
   have:=(ord 0 m a a (by omega) ha hb).2
   rw [gN] at this; cases this
  ·rcases Nat.lt_or_ge V.length m with j | j
   ·rw [Nat.mod_eq_of_lt j] at nm0; omega
   ·omega
 refine ⟨?_,g0.trans emn⟩
 apply List.ext_getElem?
 intro i
 rcases Nat.lt_or_ge i m with k | k
 ·obtain ⟨v,hv⟩:=at_ i (by omega)
  have st:=step i v hv
  rw [idx (i+1) (by omega),idx i (by omega),Nat.mod_eq_of_lt k] at st
  have w:=eL (l:=aa S) (i:=i) (by omega)
  rw [hm,st] at w
  rw [hv,w]
  refine congrArg some ?_
  unfold ak plus
  refine Prod.ext ?_ ?_ <;> simp <;> omega
 ·rw [List.getElem?_eq_none (by omega),List.getElem?_eq_none (by rw [br]; omega)]
theorem mf:∀ (ws:List P2) (p:P2) (i:Nat),plus p (sms (ws.take i))∈pth p ws
 | ws,p,0=> by rw [List.take_zero,show sms []=(0,0) from rfl,aw]; exact db p ws
 | [],p,i+1=> by rw [List.take_nil,show sms []=(0,0) from rfl,aw]; exact db p _
 | w::ws,p,i+1=> by
  rw [List.take_succ_cons,show sms (w::ws.take i)=plus w (sms (ws.take i)) from rfl,← au]
  exact List.mem_cons_of_mem _ (mf ws (plus p w) i)
theorem iu {S:List P2} (hS:S≠[]):∀ z∈aa S,z=gp (aa S) 0∨plt (gp (aa S) 0) z:=fun z hz=> by
 by_cases hl:2≤(ST.srt S).length
 ·obtain ⟨mn,f1,f2⟩:=fc hl
  have g0:gp (aa S) 0=mn:=by simp [gp,f1]
  rw [g0]
  exact f2 z (ar _ z hz)
 ·have es:=bZ hl
  have pos:=List.length_pos_iff.mpr (aG hS)
  obtain ⟨q,hq⟩:=fH pos (by rw [es]; omega)
  rw [hq] at hz ⊢
  left
  simpa using hz
theorem qM {S T:List P2} (hS:S≠[]) (hT:T≠[]) (h1:2≤(aa S).length) (h2:2≤(aa T).length) (h3:3≤(aa (bB (aa S) (aa T))).length):bQ (aa (bB (aa S) (aa T)))=bQ (aa S)+bQ (aa T)+2 * mxd (aa S) (aa T):=by
 have nx:=dW (av S) h1
 have ny:=dW (av T) h2
 obtain ⟨mm,mp⟩:=kW nx ny (fM S) (fM T)
 have hsum:sms (mrg (wys (aa S)) (wys (aa T)))=(0,0):=by rw [gP,bv (by omega),bv (by omega),aw]
 have hW:mrg (wys (aa S)) (wys (aa T))≠[]:=fun e=> by
  have:=fW (wys (aa S)) (wys (aa T))
  rw [e,br,br] at this
  simp at this
  omega
 have sup:=ul hS hT h1 h2 (wys (aa S)) (wys (aa T)) [] [] (gp (aa S) 0) (gp (aa T) 0) rfl rfl (aw _).symm (aw _).symm (by simp) (by simp) (lq hS) (lq hT)
 have inS:∀ j,j≤(mrg (wys (aa S)) (wys (aa T))).length→plus (plus (gp (aa S) 0) (gp (aa T) 0)) (sms ((mrg (wys (aa S)) (wys (aa T))).take j))∈bB (aa S) (aa T):=fun j _=>
  gd (by omega) (by omega) _ ((ko (by omega) (by omega)).mpr (mf _ _ j))
 have least:∀ z∈bB (aa S) (aa T),z=plus (gp (aa S) 0) (gp (aa T) 0)∨plt (plus (gp (aa S) 0) (gp (aa T) 0)) z:=fun z hz=> by
  obtain ⟨p,hp,q,hq,rfl⟩:=aI.mp hz
  rcases iu hS p hp with a | a <;> rcases iu hT q hq with b | b
  ·left; rw [a,b]
  ·right; rw [a]; unfold plt plus at *; simp only; omega
  ·right; rw [b]; unfold plt plus at *; simp only; omega
  ·right; unfold plt plus at *; simp only; omega
 obtain ⟨e1,e2⟩:=vG h3 (fun w hw=> (mm w hw).elim (nx w) (ny w)) mp hsum hW sup inS least
 rw [dw (aa (bB (aa S) (aa T))),e2,← e1,oE]
 exact oJ hS hT
theorem iV (f:P2→P2) {l:List P2} {i:Nat} (h:i < l.length):gp (l.map f) i=f (gp l i):=by
 have:=bT h
 unfold gp at this ⊢
 rw [List.getD_eq_getElem?_getD,List.getElem?_map,this]
 rfl
theorem ug (q:P2) (l:List P2):wys (l.map (plus q))=wys l:=by
 apply List.ext_getElem?
 intro i
 rcases Nat.lt_or_ge i l.length with k | k
 ·rw [eL (by rw [List.length_map]; exact k),eL k,List.length_map,iV _ k,iV _ (Nat.mod_lt _ (by omega))]
  refine congrArg some ?_
  unfold ak plus
  refine Prod.ext ?_ ?_ <;> simp <;> omega
 ·rw [List.getElem?_eq_none (by rw [br,List.length_map]; exact k),List.getElem?_eq_none (by rw [br]; exact k)]
theorem mw (p:P2):cr p (0,0)=0:=by unfold cr; simp
theorem jc (q:P2) {l:List P2} (h:0 < l.length):bQ (l.map (plus q))=bQ l:=by
 rw [dw,dw,ug,iV _ h,bz,gL,bv h,mw]
 omega
theorem kK (q:P2):bQ [q]=0:=by
 rw [dw,e9]
 show cr _ (0,0)+0=0
 rw [mw]; rfl
theorem rB (q:P2) {Y:List P2} (h:Y≠[]):mxd [q] Y=0:=by
 unfold mxd
 rw [e9]
 show hg Y (0,0)+0=0
 rw [xL h]; rfl
theorem xJ (q:P2) {X:List P2} (h:0 < X.length):mxd X [q]=0:=by
 unfold mxd
 rw [show (wys X).map (hg [q])=(wys X).map (cr q) from List.map_congr_left fun a _=> v9 q a,← iU,bv h,mw]
theorem mJ {u:P2} (u0:u≠(0,0)):∀ (ws:List P2) (p:P2),cr p u=0→(∀ w∈ws,cr w u=0)→shl p ws=0
 | [],_,_,_=> rfl
 | w::ws,p,hp,h=> by
  have hw:=h w List.mem_cons_self
  show cr p w+shl (plus p w) ws=0
  rw [oY u0 hp hw,mJ u0 ws (plus p w) (by rw [de]; omega) fun z hz=> h z (List.mem_cons_of_mem _ hz)]
  rfl
theorem lE {X Y:List P2} {u:P2} {c:Int} (hY:Y≠[]) (h:∀ z∈bB X Y,cr z u=c):∀ w∈wys X,cr w u=0:=fun w hw=> by
 obtain ⟨s,hs,rfl⟩:=List.mem_map.mp hw
 obtain ⟨a,b⟩:=dH hs
 obtain ⟨y,hy⟩:=List.exists_mem_of_ne_nil Y hY
 have k1:=h _ (aI.mpr ⟨_,a,y,hy,rfl⟩)
 have k2:=h _ (aI.mpr ⟨_,b,y,hy,rfl⟩)
 rw [de] at k1 k2
 rw [ip]
 omega
theorem mB {S T:List P2} (hS:S≠[]) (hT:T≠[]):bQ (aa (bB (aa S) (aa T)))=bQ (aa S)+bQ (aa T)+2 * mxd (aa S) (aa T):=by
 have pS:=List.length_pos_iff.mpr (aG hS)
 have pT:=List.length_pos_iff.mpr (aG hT)
 by_cases h1:2≤(aa S).length
 ·by_cases h2:2≤(aa T).length
  ·by_cases h3:3≤(aa (bB (aa S) (aa T))).length
   ·exact qM hS hT h1 h2 h3
   ·rw [← oJ hS hT]
    have nx:=dW (av S) h1
    have ny:=dW (av T) h2
    obtain ⟨mm,_⟩:=kW nx ny (fM S) (fM T)
    have hz:2≤(ST.srt (bB (aa S) (aa T))).length:=by
     rcases Nat.lt_or_ge (ST.srt (bB (aa S) (aa T))).length 2 with k | k
     ·exfalso
      have nd:=av S
      have ne:gp (aa S) 0≠gp (aa S) 1:=fun e=> by
       have:=(List.getElem?_inj (i:=0) (j:=1) (by omega) nd).mp (by rw [bT (by omega),bT (by omega),e])
       omega
      have m0:=(ST.srt_mem _ _).mpr (aI.mpr ⟨_,bK (l:=aa S) (i:=0) (by omega),_,bK (l:=aa T) (i:=0) pT,rfl⟩)
      have m1:=(ST.srt_mem _ _).mpr (aI.mpr ⟨_,bK (l:=aa S) (i:=1) (by omega),_,bK (l:=aa T) (i:=0) pT,rfl⟩)
      match hA:ST.srt (bB (aa S) (aa T)),k with
      | [],_=> rw [hA] at m0; simp at m0
      | [x],_=>
       rw [hA] at m0 m1
       have e:=(List.mem_singleton.mp m0).trans (List.mem_singleton.mp m1).symm
       refine ne ?_
       have k1:=congrArg Prod.fst e
       have k2:=congrArg Prod.snd e
       unfold plus at k1 k2
       simp only at k1 k2
       exact Prod.ext (by omega) (by omega)
     ·exact k
    have l2:(aa (bB (aa S) (aa T))).length=2:=by have:=gO hz; omega
    obtain ⟨A,B,hAB⟩:∃ A B,aa (bB (aa S) (aa T))=[A,B]:=by
     match hc:aa (bB (aa S) (aa T)),l2 with
     | [A,B],_=> exact ⟨A,B,rfl⟩
    obtain ⟨a0,b0,r1,r2,cv0,_⟩:=bj hz (i:=0) (by omega)
    obtain ⟨a1,b1,r3,r4,cv1,_⟩:=bj hz (i:=1) (by omega)
    have nd:=av (bB (aa S) (aa T))
    rw [hAB] at r1 r2 r3 r4 nd ⊢
    simp at r1 r2 r3 r4
    subst r1 r2 r3 r4
    have ne:B≠A:=by simp at nd; exact fun e=> nd e.symm
    have u0:=jw ne
    have flat:∀ z∈bB (aa S) (aa T),cr z (ak B A)=cr A (ak B A):=fun z hz=> by
     have a:=cv0 z hz
     have b:=cv1 z hz
     have e1:ao A B z=cr A (ak B A) - cr z (ak B A):=by unfold ao cr ak; grind
     have e2:ao B A z=cr z (ak B A) - cr A (ak B A):=by unfold ao cr ak; grind
     omega
    have lw:∀ w∈mrg (wys (aa S)) (wys (aa T)),cr w (ak B A)=0:=fun w hw=> by
     rcases mm w hw with k | k
     ·exact lE (aG hT) flat w k
     ·exact lE (aG hS) (fun z hz=> flat z ((pN z).mpr hz)) w k
    have e0:∀ p:P2,p=plus (0,0) p:=fun p=> by rw [bz,aw]
    rw [e0 (plus (gp (aa S) 0) (gp (aa T) 0)),gL,mJ u0 _ (0,0) (by unfold cr; simp) lw,gP,bv pS,bv pT,aw,mw,dw]
    show shl _ (wys [A,B])=_
    have w2:wys [A,B]=[ak B A,ak A B]:=by unfold wys sdl nxt gp; simp [List.range_succ]
    rw [w2]
    show cr A (ak B A)+(cr (plus A (ak B A)) (ak A B)+0)=_
    unfold cr plus ak
    simp only
    grind
  ·obtain ⟨q,hq⟩:=fH pT h2
   rw [hq,xJ q pS,kK,oo,p5,jc q pS]
   omega
 ·obtain ⟨q,hq⟩:=fH pS h1
  rw [hq,rB q (aG hT),kK,p5,jc q pT]
  omega
theorem sI {Y:List P2}:∀ (ws:List P2) (p:P2),Sup Y p ws→(∀ z∈pth p ws,z∈Y)→shl p ws=(ws.map (hg Y)).sum
 | [],_,_,_=> rfl
 | w::ws,p,h,hp=> by
  have ih:=sI ws (plus p w) h.2 fun z hz=> hp z (List.mem_cons_of_mem _ hz)
  have e:hg Y w=cr p w:=gG ⟨p,hp p List.mem_cons_self,eN w p⟩ fun q hq=> by rw [eN]; exact h.1 q hq
  rw [List.map_cons,List.sum_cons,e,← ih]
  rfl
theorem uX {l:List P2} (h:0 < l.length):∀ z∈pth (gp l 0) (wys l),z∈l:=fun z hz=> by
 obtain ⟨i,h1,h2⟩:=g5 _ _ z hz
 rw [br] at h1
 rw [h2,eJ i h1 h]
 exact bK (Nat.mod_lt _ h)
theorem sR {S:List P2} (hS:S≠[]):mxd (aa S) (aa S)=bQ (aa S):=by
 rw [dw]
 exact (sI _ _ (lq hS) (uX (List.length_pos_iff.mpr (aG hS)))).symm
theorem nq {l:List P2} {k:Int} {i:Nat} (e:k=(i:Int)) (h:i < l.length):atI (l.map pu) k=some (pu (gp l i)):=lu e (by rw [List.getElem?_map,bT h]; rfl)
def prv (l:List P2) (j:Nat):P2:=gp l ((j+l.length - 1) % l.length)
theorem t_ {l:List P2} {j:Nat} (h:j < l.length):atI (l.map pu) ((0+(j:Int)) - 1)=some (pu (prv l j)):=by
 unfold prv
 by_cases h0:j=0
 ·subst h0
  rw [show (0+l.length - 1) % l.length=l.length - 1 from by rw [Nat.mod_eq_of_lt] <;> omega]
  exact vc h
 ·rw [show (j+l.length - 1) % l.length=j - 1 from by rw [show j+l.length - 1=(j - 1)+l.length by omega,Nat.add_mod_right,Nat.mod_eq_of_lt (by omega)]]
  exact nq (by omega) (by omega)
theorem pZ {l:List P2} {j:Nat} (h:j < l.length):prv l j∈l:=bK (Nat.mod_lt _ (by omega))
theorem tD {l:List P2} {j:Nat} (h:j < l.length):(prv l j,gp l j)∈sdl l:=by
 have hi:(j+l.length - 1) % l.length < l.length:=Nat.mod_lt _ (by omega)
 refine List.mem_map.mpr ⟨(j+l.length - 1) % l.length,List.mem_range.mpr hi,?_⟩
 unfold prv nxt
 congr 2
 by_cases h0:j=0
 ·subst h0
  rw [show (0+l.length - 1) % l.length=l.length - 1 from by rw [Nat.mod_eq_of_lt] <;> omega,show l.length - 1+1=l.length by omega,Nat.mod_self]
 ·rw [show (j+l.length - 1) % l.length=j - 1 from by rw [show j+l.length - 1=(j - 1)+l.length by omega,Nat.add_mod_right,Nat.mod_eq_of_lt (by omega)],show j - 1+1=j by omega,Nat.mod_eq_of_lt h]
theorem ud {l:List P2} {s:P2×P2} (hs:s∈sdl l):∃ j,j < l.length∧s=(prv l j,gp l j):=by
 obtain ⟨i,hi,rfl⟩:=List.mem_map.mp hs
 have hi':=List.mem_range.mp hi
 refine ⟨(i+1) % l.length,Nat.mod_lt _ (by omega),?_⟩
 unfold prv nxt
 congr 2
 by_cases hk:i+1 < l.length
 ·rw [Nat.mod_eq_of_lt hk,show i+1+l.length - 1=i+l.length by omega,Nat.add_mod_right,Nat.mod_eq_of_lt hi']
 ·rw [show i+1=l.length by omega,Nat.mod_self,show 0+l.length - 1=i by omega,Nat.mod_eq_of_lt hi']
def pvl (l:List P2):List (P2×P2):=(List.range l.length).map fun j=> (prv l j,gp l j)
theorem uz {l:List P2} (s:P2×P2):s∈pvl l↔s∈sdl l:=by
 constructor
 ·intro h
  obtain ⟨j,hj,rfl⟩:=List.mem_map.mp h
  exact tD (List.mem_range.mp hj)
 ·intro h
  obtain ⟨j,hj,rfl⟩:=ud h
  exact List.mem_map.mpr ⟨j,List.mem_range.mpr hj,rfl⟩
theorem wO {l:List P2} (hn:l.Nodup):(pvl l).Nodup:=by
 have e:(pvl l).map (·.2)=l:=by
  apply List.ext_getElem?
  intro i
  unfold pvl
  rw [List.map_map]
  by_cases hi:i < l.length
  ·rw [List.getElem?_map,List.getElem?_range hi,bT hi]; rfl
  ·rw [List.getElem?_eq_none (by simp; omega),List.getElem?_eq_none (by omega)]
 have h:((pvl l).map (·.2)).Nodup:=by rw [e]; exact hn
 exact (List.pairwise_map.mp h).imp fun {a b} k e=> k (by rw [e])
theorem sC {l:List P2} (hn:l.Nodup):List.Perm (pvl l) (sdl l):=(List.perm_ext_iff_of_nodup (wO hn) (nI hn)).mpr fun s=> uz s
def tws (l:List P2) (i:Nat):Int:=((List.range i).map fun k=> ao (gp l 0) (gp l (k+1)) (gp l (k+2))).sum
theorem sO (l:List P2):∀ i,tws l i=((List.range (i+1)).map fun k=> crs (gp l k,gp l (k+1))).sum - crs (gp l 0,gp l (i+1))
 | 0=> by
  simp only [tws,List.range_zero,List.map_nil,List.sum_nil]
  show (0:Int)=(List.map _ [0]).sum - _
  simp
 | i+1=> by
  have ih:=sO l i
  unfold tws at *
  rw [List.range_succ,List.map_append,List.map_cons,List.map_nil,eQ,ih]
  conv=> rhs; rw [List.range_succ,List.map_append,List.map_cons,List.map_nil,eQ]
  unfold ao crs
  grind
theorem sj {l:List P2} (h3:3≤l.length):tws l (l.length - 2)=bQ l:=by
 rw [sO]
 unfold bQ sdl
 rw [List.map_map]
 obtain ⟨n,hn⟩:∃ n,l.length=n+1:=⟨l.length - 1,by omega⟩
 rw [hn,show n+1 - 2+1=n by omega,List.range_succ,List.map_append,List.map_cons,List.map_nil,eQ]
 have e1:(List.range n).map (fun k=> crs (gp l k,gp l (k+1)))=(List.range n).map (crs ∘ fun i=> (gp l i,nxt l i)):=List.map_congr_left fun k hk=> by
  have:=List.mem_range.mp hk
  show _=crs (gp l k,gp l ((k+1) % l.length))
  rw [Nat.mod_eq_of_lt (by omega)]
 rw [e1]
 have e2:(crs ∘ fun i=> (gp l i,nxt l i)) n=- crs (gp l 0,gp l n):=by
  show crs (gp l n,gp l ((n+1) % l.length))=_
  rw [hn,Nat.mod_self]
  unfold crs; grind
 rw [e2]; omega
theorem u5 {l:List P2} (h0:0 < l.length):tws l (l.length - 2)=bQ l:=by
 by_cases h3:3≤l.length
 ·exact sj h3
 ·match l,h0,h3 with
  | [A],_,_=>
   have e:sdl [A]=[(A,A)]:=by simp [sdl,nxt,gp,List.range,List.range.loop]
   unfold bQ
   rw [e]
   simp [tws,crs]
   grind
  | [A,B],_,_=>
   have e:sdl [A,B]=[(A,B),(B,A)]:=by simp [sdl,nxt,gp,List.range,List.range.loop]
   unfold bQ
   rw [e]
   simp [tws,crs]
   grind
  | _::_::_::_,_,h3=> simp at h3
theorem p7 {S T:List P2} (hS:S≠[]) (hT:T≠[]):bQ (aa (tog (aa S) (aa T))) - bQ (aa S) - bQ (aa T)=2 * mxd (aa S) (aa T):=by
 rw [g9 hS hT,mB hS hT]; omega
theorem wT {l Y:List P2} (hn:l.Nodup):((pvl l).map fun s=> hg Y (ak s.2 s.1)).sum=mxd l Y:=by
 unfold mxd wys
 rw [List.map_map]
 exact mH ((sC hn).map _)
theorem rm {f g:P2→Int}:∀ {l:List P2},(∀ x∈l,f x≤g x)→(l.map f).sum≤(l.map g).sum
 | [],_=> by simp
 | a::l,h=> by
  simp only [List.map_cons,List.sum_cons]
  have h1:=h a List.mem_cons_self
  have h2:=rm (l:=l) fun x hx=> h x (List.mem_cons_of_mem _ hx)
  omega
theorem fg {X Y:List P2} (hX:0 < X.length) (hY:Y≠[]):0≤mxd X Y:=by
 obtain ⟨q,hq⟩:=List.exists_mem_of_ne_nil Y hY
 have h:=rm (l:=wys X) (f:=cr q) (g:=hg Y) fun a _=> tF hY a q hq
 rw [← iU,bv hX,mw] at h
 exact h
theorem wK {Y Z:List P2} (hY:Y≠[]) (hZ:Z≠[]) (a:P2):hg (bB Y Z) a=hg Y a+hg Z a:=by
 obtain ⟨⟨p,hp,ep⟩,kp⟩:=fV a.2 (-a.1) hY
 obtain ⟨⟨q,hq,eq⟩,kq⟩:=fV a.2 (-a.1) hZ
 refine gG ⟨plus p q,aI.mpr ⟨p,hp,q,hq,rfl⟩,?_⟩ fun z hz=> ?_
 ·rw [e8,ep,eq]
 ·obtain ⟨p',hp',q',hq',rfl⟩:=aI.mp hz
  have h1:=kp p' hp'
  have h2:=kq q' hq'
  rw [e8]
  show _≤hiW a.2 (-a.1) Y+hiW a.2 (-a.1) Z
  omega
theorem uU {X Y Z:List P2} (hY:Y≠[]) (hZ:Z≠[]):mxd X (aa (bB Y Z))=mxd X Y+mxd X Z:=by
 unfold mxd
 rw [← mI]
 refine congrArg List.sum (List.map_congr_left fun a _=> ?_)
 show hiW a.2 (-a.1) (aa (bB Y Z))=_
 rw [tH _ _ (kI hY hZ)]
 exact wK hY hZ a
theorem nt {l:List P2} (h:l.length < 3):bQ l=0:=by
 match l,h with
 | [],_=> rfl
 | [A],_=> exact kK A
 | [A,B],_=>
  have e:sdl [A,B]=[(A,B),(B,A)]:=by simp [sdl,nxt,gp,List.range,List.range.loop]
  unfold bQ
  rw [e]
  simp [crs]
  grind
 | _::_::_::t,h=> exact absurd h (by simp only [List.length_cons]; omega)
def aff (a b c e:Int) (t:P2) (p:P2):P2:=(a * p.1+b * p.2+t.1,c * p.1+e * p.2+t.2)
theorem wL (a b c e:Int) (t:P2) (l:List P2):l.map (aff a b c e t)=(l.map (kR a b c e)).map (plus t):=by
 rw [List.map_map]
 refine List.map_congr_left fun p _=> ?_
 unfold aff kR plus
 refine Prod.ext ?_ ?_ <;> simp <;> omega
theorem qF (t:P2) (l:List P2):aa (l.map (plus t))=(aa l).map (plus t):=jk (fun a b h=> by unfold plt plus at *; simp; omega) (fun a b c=> by unfold ao plus; simp; rw [show t.1+b.1 - (t.1+a.1)=b.1 - a.1 by omega,show t.2+c.2 - (t.2+a.2)=c.2 - a.2 by omega,show t.2+b.2 - (t.2+a.2)=b.2 - a.2 by omega,show t.1+c.1 - (t.1+a.1)=c.1 - a.1 by omega]) l
theorem rG {a b c e d:Int} (h:a * e - b * c=d) (o:d=1∨d=-1) (l:List P2):(l.map (kR a b c e)).map (kR (d * e) (-(d * b)) (-(d * c)) (d * a))=l:=by
 rw [List.map_map]
 conv=> rhs; rw [← List.map_id l]
 refine List.map_congr_left fun p _=> ?_
 have dd:=dd1 o
 unfold kR
 refine Prod.ext ?_ ?_
 ·show d * e * (a * p.1+b * p.2)+-(d * b) * (c * p.1+e * p.2)=p.1
  have:d * e * (a * p.1+b * p.2)+-(d * b) * (c * p.1+e * p.2)=d * (a * e - b * c) * p.1:=by grind
  rw [this,h,dd,Int.one_mul]
 ·show -(d * c) * (a * p.1+b * p.2)+d * a * (c * p.1+e * p.2)=p.2
  have:-(d * c) * (a * p.1+b * p.2)+d * a * (c * p.1+e * p.2)=d * (a * e - b * c) * p.2:=by grind
  rw [this,h,dd,Int.one_mul]
theorem qJ {a b c e d:Int} (h:a * e - b * c=d) (o:d=1∨d=-1) (l:List P2):bQ (aa (l.map (kR a b c e)))=bQ (aa l):=by
 by_cases h3:3≤(aa l).length
 ·exact rV (pi h o) h3
 ·have h3':¬ 3≤(aa (l.map (kR a b c e))).length:=fun k=> h3 (by
   have:=ij (pi (a:=d * e) (b:=-(d * b)) (c:=-(d * c)) (e:=d * a) (d:=d) (by
    have:d * e * (d * a) - -(d * b) * -(d * c)=d * d * (a * e - b * c):=by grind
    rw [this,h,dd1 o,Int.one_mul]) o) k
   rwa [rG h o] at this)
  rw [nt (by omega),nt (by omega)]
theorem i7 {a b c e d:Int} (h:a * e - b * c=d) (o:d=1∨d=-1) (t:P2) {l:List P2} (hl:l≠[]):bQ (aa (l.map (aff a b c e t)))=bQ (aa l):=by
 have hl':l.map (kR a b c e)≠[]:=fun z=> hl (List.map_eq_nil_iff.mp z)
 rw [wL,qF,jc t (List.length_pos_iff.mpr (aG hl')),qJ h o]
theorem uD (a b c e:Int) (t s:P2) (X Y:List P2):aa (bB (X.map (aff a b c e t)) (Y.map (aff a b c e s)))=aa ((bB X Y).map (aff a b c e (plus t s))):=by
 have key:∀ p q:P2,plus (aff a b c e t p) (aff a b c e s q)=aff a b c e (plus t s) (plus p q):=fun p q=> by
  unfold plus aff
  refine Prod.ext ?_ ?_ <;> simp <;> grind
 refine jh fun z=> ?_
 rw [aI]
 constructor
 ·rintro ⟨p',hp,q',hq,rfl⟩
  obtain ⟨p,mp,rfl⟩:=List.mem_map.mp hp
  obtain ⟨q,mq,rfl⟩:=List.mem_map.mp hq
  exact List.mem_map.mpr ⟨plus p q,aI.mpr ⟨p,mp,q,mq,rfl⟩,(key p q).symm⟩
 ·intro hz
  obtain ⟨w,hw,rfl⟩:=List.mem_map.mp hz
  obtain ⟨p,mp,q,mq,rfl⟩:=aI.mp hw
  exact ⟨_,List.mem_map.mpr ⟨p,mp,rfl⟩,_,List.mem_map.mpr ⟨q,mq,rfl⟩,key p q⟩
theorem tT {S T:List P2} (hS:S≠[]) (hT:T≠[]) {a b c e d:Int} (h:a * e - b * c=d) (o:d=1∨d=-1) (t s:P2):
  bQ (aa (tog (aa ((aa S).map (aff a b c e t))) (aa ((aa T).map (aff a b c e s))))) - bQ (aa ((aa S).map (aff a b c e t))) - bQ (aa ((aa T).map (aff a b c e s)))=2 * mxd (aa S) (aa T):=by
 have cS:=aG hS
 have cT:=aG hT
 have nS:(aa S).map (aff a b c e t)≠[]:=fun z=> cS (List.map_eq_nil_iff.mp z)
 have nT:(aa T).map (aff a b c e s)≠[]:=fun z=> cT (List.map_eq_nil_iff.mp z)
 rw [g9 nS nT,mV,qN,uD,i7 h o _ (kI cS cT),i7 h o _ cS,i7 h o _ cT,fX,fX,mB hS hT]
 omega
theorem rh {k:Int} (hk:0 < k) (l:List P2):aa (l.map (scl k))=(aa l).map (scl k):=jk (vx hk) (vK hk) l
theorem uA (k:Int) (l:List P2):wys (l.map (scl k))=(wys l).map (scl k):=by
 unfold wys sdl
 rw [List.length_map,List.map_map,List.map_map,List.map_map]
 refine List.map_congr_left fun i hi=> ?_
 have hi':=List.mem_range.mp hi
 have hj:(i+1) % l.length < l.length:=Nat.mod_lt _ (by omega)
 show ak (gp (l.map (scl k)) ((i+1) % (l.map (scl k)).length)) (gp (l.map (scl k)) i)=scl k (ak (gp l ((i+1) % l.length)) (gp l i))
 rw [List.length_map,iV _ hi',iV _ hj]
 unfold ak scl
 refine Prod.ext ?_ ?_ <;> simp <;> grind
theorem xx {Y:List P2} (hY:Y≠[]) {k:Int} (hk:0≤k) (a:P2):hg Y (scl k a)=k * hg Y a:=by
 have:=vF a.2 (-a.1) hk hY
 show hiW (k * a.2) (-(k * a.1)) Y=_
 rw [← Int.mul_neg]; exact this
theorem lK {α:Type} (k:Int) (f:α→Int):∀ l:List α,(l.map fun x=> k * f x).sum=k * (l.map f).sum
 | []=> by simp
 | a::l=> by simp only [List.map_cons,List.sum_cons,lK k f l]; grind
theorem uC {S Y:List P2} (hS:S≠[]) (hY:Y≠[]) {k:Int} (hk:0≤k):mxd (aa ((aa S).map (scl k))) Y=k * mxd (aa S) Y:=by
 by_cases k0:k=0
 ·subst k0
  have e:aa ((aa S).map (scl 0))=[(0,0)]:=by
   have:=jh (A:=(aa S).map (scl 0)) (B:=[(0,0)]) fun z=> by
    obtain ⟨q,hq⟩:=List.exists_mem_of_ne_nil _ (aG hS)
    rw [List.mem_singleton,List.mem_map]
    constructor
    ·rintro ⟨p,_,rfl⟩; unfold scl; simp
    ·rintro rfl; exact ⟨q,hq,by unfold scl; simp⟩
   rw [this]
   rfl
  rw [e,rB _ hY,Int.zero_mul]
 ·rw [rh (by omega),fX]
  unfold mxd
  rw [uA,List.map_map,← lK]
  exact congrArg List.sum (List.map_congr_left fun a _=> xx hY hk a)
end
section
variable {P:Program} {w:World} {K:PySem.W.Frag} {mg:Str→Option Value} {base:Heap}
theorem y4 {n m:Nat} {k:Int} (h:0≤k):HT.sIx n m (some k)=min k.toNat n:=by
 unfold HT.sIx
 simp
 omega
theorem td (l:List P2) {k:Int} (h0:0≤k) (h:k≤(l.length:Int)):gy (l.map pu) (some k) none=(l.drop k.toNat).map pu:=by
 unfold gy
 rw [y4 h0,HT.sIx_none,List.length_map,← List.map_drop,← List.map_take,Nat.min_eq_left (by omega),List.take_of_length_le (by simp)]
def rg:List U→Out→Prop:=fun us o=> ∃ p q:P2,us=[pu p,pu q]∧o=.val (pu (plus p q))
set_option maxHeartbeats 8000000 in
theorem p6 (T:Txt K mg):bE P w K mg base (CXF P w) 1 T.a_plus T.d_plus ["P","Q"] (spU K (rg)):=by
 refine bU T.F_plus uL (fun us o h=> ?_) (fun cdv A outer s H E O us o hr h=> ?_)
 ·obtain ⟨p,q,rfl,rfl⟩:=h
  rfl
 obtain ⟨p,q,rfl,rfl⟩:=h
 refine Ws.nox ?_
 refine ag (ca (cf (aA (dG (a_ (ac 0 rfl) af rfl rfl) (a_ (ac 1 rfl) af rfl rfl)) (aA (dG (a_ (ac 0 rfl) af rfl rfl) (a_ (ac 1 rfl) af rfl rfl)) cg be) be)) ?_)
 exact rfl
def qZ:List U→Out→Prop:=fun us o=> ∃ l:List P2,us=[lp l]∧l.length≤900∧o=.new ((wys l).map pu)
set_option maxHeartbeats 8000000 in
theorem pP (T:Txt K mg):bE P w K mg base (CXF P w) 2 T.a_ways T.d_ways ["land"] (spU K (qZ)):=by
 refine bU T.F_ways lg (fun us o h=> ?_) (fun cdv A outer s H E O us o hr h=> ?_)
 ·obtain ⟨l,rfl,hl,rfl⟩:=h
  rfl
 obtain ⟨l,rfl,hl,rfl⟩:=h
 refine Ws.nox ?_
 refine ag (fE (jz (ys:=((sdl l).map fun s=> pu (ak s.2 s.1))) rfl (blk (aj gx) ["land","A","B"] [1,2] rfl rfl rfl rfl (by decide+kernel)) (d4 (EvN.ev (cE ((m7 T).mono (by decide)) hr rfl T.m_sides T.F_sides.kp T.b_sides ay (ae (ac 0 rfl) aq am) ⟨l,rfl,hl,rfl⟩)) (.inl rfl)) (fun _ _ _ _=> kQ rfl (b_ (bF (i:=1) lg.nd rfl (Or.inl rfl)) (b_ (bF (i:=2) lg.nd rfl (Or.inl rfl)) gT))) (kC (js:=[1,2]) (by decide)) ?clen ?csz ?dom ?celt) ?_)
 case clen=> simp
 case csz=> simp only [k_,List.length_map]; exact Nat.le_of_lt (bh (by omega))
 case dom=>
  intro x hx
  obtain ⟨s,_,rfl⟩:=List.mem_map.mp hx
  exact ⟨_,rfl,rfl⟩
 case celt=>
  intro C s' H' fp j x y hx hy
  obtain ⟨s,hs,ms,rfl,rfl⟩:=iP hx hy
  exact (cf (aA (bO (a_ (ac 2 rfl) af rfl rfl) (a_ (ac 1 rfl) af rfl rfl)) (aA (bO (a_ (ac 2 rfl) af rfl rfl) (a_ (ac 1 rfl) af rfl rfl)) cg be) be))
 show Out.new _=Out.new _
 unfold wys
 rw [List.map_map]
 rfl
theorem ue (a b:Bool):eqW (.bl a) (.bl b)=(a==b):=by cases a <;> cases b <;> rfl
theorem xf (x:Int):decide (sgn x > -1)=decide (0≤x):=by
 refine decide_eq_decide.mpr ?_
 unfold sgn
 split
 ·omega
 ·split <;> omega
theorem x8 (w o:P2):ao (0,0) w o=cr w o:=by unfold ao cr; simp
theorem xQ:Szp 5000 ((0,0):P2):=⟨by decide,by decide⟩
def vz:List U→Out→Prop:=fun us o=> ∃ w v:P2,us=[pu w,pu v]∧Szp 4000 w∧Szp 4000 v∧o=.val (.bl (nl w v))
set_option maxHeartbeats 8000000 in
theorem lO (T:Txt K mg):bE P w K mg base (CXF P w) 3 T.a_no_later T.d_no_later ["way","other_way"] (spU K (vz)):=by
 refine bU T.F_no_later lU (fun us o h=> ?_) (fun cdv A outer s H E O us o hr h=> ?_)
 ·obtain ⟨w,v,rfl,sw,sv,rfl⟩:=h
  rfl
 obtain ⟨w,v,rfl,sw,sv,rfl⟩:=h
 refine Ws.nox ?_
 by_cases h:(ngv w !=ngv v)=true
 ·refine ag (iy (ba (wY (gH hr) rfl rfl) (ir (mU (q:=(0,0)) (gH hr)) (ac 0 rfl) (cf (aA af (aA af cg aX) aX))) (ir (mU (q:=(0,0)) (gH hr)) (ac 1 rfl) (cf (aA af (aA af cg aX) aX)))) (show (!eqW (.bl (ngv w)) (.bl (ngv v)))=true by rw [ue]; exact h) ?_)
  refine ag (ca (ir (mU (q:=(0,0)) (gH hr)) (ac 1 rfl) (cf (aA af (aA af cg aX) aX))) ?_)
  refine vB ?_
  unfold nl
  rw [if_pos h]
  rfl
 ·refine ag (eG (ba (wY (gH hr) rfl rfl) (ir (mU (q:=(0,0)) (gH hr)) (ac 0 rfl) (cf (aA af (aA af cg aX) aX))) (ir (mU (q:=(0,0)) (gH hr)) (ac 1 rfl) (cf (aA af (aA af cg aX) aX)))) (show (!eqW (.bl (ngv w)) (.bl (ngv v)))=false by rw [ue]; exact Bool.eq_false_iff.mpr h) (aZ ?_))
  refine ag (ca (ir lS (aD ((pf T).mono (by decide)) hr rfl T.m_turn T.F_turn.kp T.b_turn ay (ae (cf (aA af (aA af cg aX) aX)) (ae (ac 0 rfl) (ae (ac 1 rfl) aq am) am) w9) ⟨(0,0),w,v,rfl,xQ,⟨sw.1.mono (by decide),sw.2.mono (by decide)⟩,⟨sv.1.mono (by decide),sv.2.mono (by decide)⟩,rfl⟩) (fy af)) ?_)
  refine vB ?_
  rw [xf,x8]
  unfold nl
  rw [if_neg h]
theorem oN (ys:List P2):mrg [] ys=ys:=by cases ys <;> rw [mrg]
theorem uw (xs:List P2):mrg xs []=xs:=by rw [mrg]
theorem uh {x y:P2} {xs ys:List P2} (h:nl x y=true):mrg (x::xs) (y::ys)=x::mrg xs (y::ys):=by rw [mrg,if_pos h]
theorem wq {x y:P2} {xs ys:List P2} (h:nl x y=false):mrg (x::xs) (y::ys)=y::mrg (x::xs) ys:=by rw [mrg,if_neg (by rw [h]; decide)]
theorem kS {l:List P2} {i:Nat} {p:P2} (h:l[i]?=some p):l.drop i=p::l.drop (i+1):=by
 obtain ⟨hi,e⟩:=List.getElem?_eq_some_iff.mp h
 rw [List.drop_eq_getElem_cons hi,e]
theorem kz {l:List P2} {k:Nat} {p:P2} (h:l[k]?=some p):atI (l.map pu) (k:Int)=some (pu p):=lu (i:=k) rfl (by rw [List.getElem?_map,h]; rfl)
def oD:List U→Out→Prop:=fun us o=> ∃ xs ys:List P2,us=[lp xs,lp ys]∧(∀ p∈xs,Szp 4000 p)∧(∀ p∈ys,Szp 4000 p)∧xs.length≤400∧ys.length≤400∧o=.new ((mrg xs ys).map pu)
set_option maxHeartbeats 8000000 in
theorem nF (T:Txt K mg):bE P w K mg base (CXF P w) 4 T.a_in_turn T.d_in_turn ["some","others"] (spU K (oD)):=by
 refine bU T.F_in_turn dS (fun us o h=> ?_) (fun cdv A outer s H E O us o hr h=> ?_)
 ·obtain ⟨xs,ys,rfl,sx,sy,lx,ly,rfl⟩:=h
  rfl
 obtain ⟨xs,ys,rfl,sx,sy,lx,ly,rfl⟩:=h
 refine Ws.nox ?_
 have hmx:((xs.map pu).length:Int)=(xs.length:Int):=by rw [List.length_map]
 refine ag (iT (i:=2) dS.nd rfl (Or.inl rfl) (hJ cg) ?_)
 refine ag (bu (i:=3) dS.nd rfl (Or.inl rfl) af ?_)
 refine ag (fe (fun q:Nat×List P2=> [some (.val (lp xs)),some (.val (lp ys)),some (.own (q.2.map pu)),some (.val (.int (q.1:Int))),none]) (fun i q=> q.1≤xs.length∧q.2.length=q.1+i∧q.2++mrg (xs.drop q.1) (ys.drop i)=mrg xs ys) rfl PassesOwn.never (d4 (ac 1 rfl) (.inl rfl)) ?h0 ?hs ?hd)
 case h0=> exact ⟨(0,[]),⟨Nat.zero_le _,rfl,rfl⟩,rfl,rfl,rfl,rfl,trivial⟩
 case hs=>
  rintro H0 i x ⟨k,r⟩ hx ⟨k1,k2,k3⟩
  dsimp only at k1 k2 k3 ⊢
  obtain ⟨Y,hY,mY,rfl⟩:=jZ hx
  have hi:=aB hY
  rw [kS hY] at k3
  refine ⟨_,(fP (i:=4) dS.nd rfl (Or.inl rfl)),?_⟩
  refine hV (fun ps=> ∃ (k':Nat) (r':List P2),(k'≤xs.length∧r'.length=k'+i∧r'++Y::mrg (xs.drop k') (ys.drop (i+1))=mrg xs ys)∧SubP [some (.val (lp xs)),some (.val (lp ys)),some (.own (r'.map pu)),some (.val (.int (k':Int))),some (.val (pu Y))] ps) (iZ (fun q:Nat×List P2=> [some (.val (lp xs)),some (.val (lp ys)),some (.own (q.2.map pu)),some (.val (.int (q.1:Int))),some (.val (pu Y))]) (fun m q=> m=xs.length - q.1∧q.1≤xs.length∧q.2.length=q.1+i∧q.2++mrg (xs.drop q.1) (Y::ys.drop (i+1))=mrg xs ys) PassesOwn.never ?h0 ?hs) ?hj
  case h0=> exact ⟨_,(k,r),⟨rfl,k1,k2,k3⟩,rfl,rfl,rfl,rfl,rfl,trivial⟩
  case hs=>
   rintro m ⟨k,r⟩ ⟨rfl,h1,h2,h3⟩
   dsimp only at h1 h2 h3 ⊢
   by_cases hk:k < xs.length
   ·obtain ⟨x,hx'⟩:∃ x,xs[k]?=some x:=⟨_,List.getElem?_eq_getElem hk⟩
    have mx:x∈xs:=List.mem_of_getElem? hx'
    have e1:decide ((k:Int) < ((xs.map pu).length:Int))=true:=decide_eq_true (by rw [hmx]; omega)
    rw [kS hx'] at h3
    refine ⟨decide ((k:Int) < ((xs.map pu).length:Int)) && nl x Y,?_,fun h=> ?_,fun h ps hps=> ?_⟩
    ·exact (Tw.t (pO (ba n8 (ac 3 rfl) (bG (gu rfl) rfl T.z_len PySem.boot_len (ae (ac 0 rfl) aq am))) (fun hz=> (nM (pF (aD ((lO T).mono (by decide)) hr rfl T.m_no_later T.F_no_later.kp T.b_no_later ay (ae (a_ (ac 0 rfl) (ac 3 rfl) rfl (kz hx')) (ae (ac 4 rfl) aq am) ci) ⟨x,Y,rfl,sx x mx,sy Y mY,rfl⟩))))))
    ·rw [e1,Bool.true_and] at h
     rw [uh h] at h3
     refine ag (eV 2 rfl (a_ (ac 0 rfl) (ac 3 rfl) rfl (kz hx')) (by rw [List.length_map]; exact bh (by omega)) ?_)
     refine ag (yu (i:=3) xK dS.nd rfl (Or.inl rfl) rfl af (aZ ?_))
     refine ⟨_,(k+1,r++[x]),?_,⟨rfl,hk,by simp [h2]; omega,by rw [List.append_assoc]; exact h3⟩,rfl,rfl,?_,?_,rfl,trivial⟩
     ·simp; omega
     ·exact congrArg (fun l=> some (Sl.own l)) (by simp)
     ·exact congrArg (fun z=> some (Sl.val (.int z))) (by simp)
    ·rw [e1,Bool.true_and] at h
     rw [wq h,← kS hx'] at h3
     exact ⟨k,r,⟨h1,h2,h3⟩,hps⟩
   ·have ek:k=xs.length:=by omega
    have e1:decide ((k:Int) < ((xs.map pu).length:Int))=false:=decide_eq_false (by rw [hmx]; omega)
    refine ⟨false,?_,fun h=> (nomatch h),fun h ps hps=> ⟨k,r,⟨h1,h2,?_⟩,hps⟩⟩
    ·exact (Tw.t (jA (ba n8 (ac 3 rfl) (bG (gu rfl) rfl T.z_len PySem.boot_len (ae (ac 0 rfl) aq am))) e1))
    ·rw [ek,List.drop_length,oN] at h3
     rw [ek,List.drop_length,oN]
     exact h3
  case hj=>
   rintro ps ⟨k',r',⟨h1,h2,h3⟩,hps⟩
   refine dR ?_ hps
   refine ag (eV 2 rfl (ac 4 rfl) (by rw [List.length_map]; exact bh (by omega)) (aZ ?_))
   refine ⟨(k',r'++[Y]),⟨h1,by simp [h2]; omega,by rw [List.append_assoc]; exact h3⟩,rfl,rfl,?_,rfl,trivial⟩
   exact congrArg (fun l=> some (Sl.own l)) (by simp)
 case hd=>
  rintro ⟨k,r⟩ ps ⟨h1,h2,h3⟩ hps
  dsimp only at h1 h2 h3 hps
  refine dR ?_ hps
  rw [List.length_map] at h2 h3
  rw [List.drop_length,uw] at h3
  refine xE 2 rfl ?_
  refine ag (fE (oX (ac 2 rfl) (EvN.ev (fm (ac 0 rfl) (gC (ac 3 rfl)) gD (.inl rfl))) (by rw [td xs (by omega) (by omega),List.length_map,List.length_map,List.length_drop]; exact Nat.le_of_lt (u6 (by omega)))) ?_)
  show Out.new _=Out.new _
  rw [td xs (by omega) (by omega),← List.map_append,← h3]
  rfl
def ub:List U→Out→Prop:=fun us o=> ∃ l m:List P2,us=[lp l,lp m]∧l≠[]∧m≠[]∧l.length+m.length < 64∧(∀ p∈l,Szp 3000 p)∧(∀ p∈m,Szp 3000 p)∧o=.new ((aa (tog l m)).map pu)
theorem sG {p q:P2} (h1:Szp 3000 p) (h2:Szp 3000 q):Szp 4000 (ak p q):=by
 have key:∀ {x y:Int},Sz 3000 x→Sz 3000 y→Sz 4000 (x - y):=fun {x y} a b=> by
  have hb:Sz 3000 (-y):=by unfold Sz at b ⊢; omega
  have:=(L2.Sz.add' a hb).mono (show _≤4000 by decide)
  rwa [show x+-y=x - y by omega] at this
 exact ⟨key h1.1 h2.1,key h1.2 h2.2⟩
theorem uF {p q:P2} (h1:Szp 3000 p) (h2:Szp 3000 q):Szp 5000 (plus p q):=
 ⟨(L2.Sz.add' h1.1 h2.1).mono (by decide),(L2.Sz.add' h1.2 h2.2).mono (by decide)⟩
theorem tf {l:List P2} (h:∀ p∈l,Szp 3000 p):∀ w∈wys l,Szp 4000 w:=fun w hw=> by
 obtain ⟨s,hs,rfl⟩:=List.mem_map.mp hw
 obtain ⟨a,b⟩:=dH hs
 exact sG (h _ b) (h _ a)
theorem gp0 {l:List P2} (h:0 < l.length):l[0]?=some (gp l 0):=bT h
set_option maxHeartbeats 8000000 in
theorem iA (T:Txt K mg):bE P w K mg base (CXF P w) 5 T.a_together T.d_together ["one","other"] (spU K (ub)):=by
 refine bU T.F_together dA (fun us o h=> ?_) (fun cdv A outer s H E O us o hr h=> ?_)
 ·obtain ⟨l,m,rfl,hl,hm,ll,sl,sm,rfl⟩:=h
  rfl
 obtain ⟨l,m,rfl,hl,hm,ll,sl,sm,rfl⟩:=h
 refine Ws.nox ?_
 have l0:0 < l.length:=List.length_pos_iff.mpr hl
 have m0:0 < m.length:=List.length_pos_iff.mpr hm
 have tsz:∀ z∈tog l m,Szp 5000 z:=fun z hz=> by
  obtain ⟨p,hp,q,hq,rfl⟩:=aI.mp (gd l0 m0 z hz)
  exact uF (sl p hp) (sm q hq)
 have tlen:=gM l m
 have wl:=br l
 have wm:=br m
 have ml:=fW (wys l) (wys m)
 refine ag (bu (i:=2) dA.nd rfl (Or.inl rfl) (aD ((p6 T).mono (by decide)) hr rfl T.m_plus T.F_plus.kp T.b_plus ay (ae (a_ (ac 0 rfl) af rfl (kz (k:=0) (gp0 l0))) (ae (a_ (ac 1 rfl) af rfl (kz (k:=0) (gp0 m0))) aq ci) ci) ⟨_,_,rfl,rfl⟩) ?_)
 refine ag (iT (i:=3) dA.nd rfl (Or.inl rfl) (hJ cg) ?_)
 have hin:oD [lp (wys l),lp (wys m)] (.new ((mrg (wys l) (wys m)).map pu)):=⟨wys l,wys m,rfl,tf sl,tf sm,by omega,by omega,rfl⟩
 have etog:tog l m=wlk (plus (gp l 0) (gp m 0)) (mrg (wys l) (wys m)):=rfl
 rw [etog] at tsz tlen ⊢
 generalize plus (gp l 0) (gp m 0)=p0 at *
 refine ag (fe (fun i:Nat=> [some (.val (lp l)),some (.val (lp m)),some (.val (pu (plus p0 (sms ((mrg (wys l) (wys m)).take i))))),some (.own ((wlk p0 ((mrg (wys l) (wys m)).take i)).map pu)),none]) (fun i j=> i=j) rfl PassesOwn.never (d4 (EvN.ev (cE ((nF T).mono (by decide)) hr rfl T.m_in_turn T.F_in_turn.kp T.b_in_turn ay (ae (EvN.ev (cE ((pP T).mono (by decide)) hr rfl T.m_ways T.F_ways.kp T.b_ways ay (ae (ac 0 rfl) aq am) ⟨l,rfl,by omega,rfl⟩)) (ae (EvN.ev (cE ((pP T).mono (by decide)) hr rfl T.m_ways T.F_ways.kp T.b_ways ay (ae (ac 1 rfl) aq am) ⟨m,rfl,by omega,rfl⟩)) aq bp) bp) hin)) (.inl rfl)) ?h0 ?hs ?hd)
 case h0=> exact ⟨0,rfl,rfl,rfl,congrArg (fun z=> some (Sl.val (pu z))) (aw p0).symm,rfl,trivial⟩
 case hs=>
  rintro H0 i x _ hx rfl
  obtain ⟨W,hW,mW,rfl⟩:=jZ hx
  have hi:=aB hW
  have tk:(mrg (wys l) (wys m)).take (i+1)=(mrg (wys l) (wys m)).take i++[W]:=by rw [List.take_succ,hW]; rfl
  refine ⟨_,(fP (i:=4) dA.nd rfl (Or.inl rfl)),?_⟩
  refine ag (eV 3 rfl (ac 2 rfl) (by rw [List.length_map,kt,List.length_take]; exact bh (by omega)) ?_)
  refine ag (bu (i:=2) dA.nd rfl (Or.inl rfl) (aD ((p6 T).mono (by decide)) hr rfl T.m_plus T.F_plus.kp T.b_plus ay (ae (ac 2 rfl) (ae (ac 4 rfl) aq am) am) ⟨_,_,rfl,rfl⟩) (aZ ?_))
  refine ⟨i+1,rfl,rfl,rfl,?_,?_,trivial⟩
  ·exact congrArg (fun z=> some (Sl.val (pu z))) (by rw [tk,eg,au])
  ·exact congrArg (fun z=> some (Sl.own z)) (by rw [tk,mE]; simp)
 case hd=>
  rintro q ps hq hps
  refine dR ?_ hps
  rw [List.length_map] at hq
  subst hq
  rw [List.take_length]
  refine ag (fE (o6 3 rfl ((rN T).mono (by decide)) hr rfl T.m_field T.F_field.kp T.b_field ay aq ⟨_,rfl,tsz,by omega,by rw [if_neg (fun z=> by rw [z] at tlen; simp at tlen; omega)]⟩) ?_)
  exact rfl
theorem eP {m n:Nat} {l:List P2} (h:m≤n) (k:∀ p∈l,Szp m p):∀ p∈l,Szp n p:=fun p hp=> ⟨(k p hp).1.mono h,(k p hp).2.mono h⟩
def qQ:List U→Out→Prop:=fun us o=> ∃ l:List P2,us=[lp l]∧l.length≤900∧(∀ p∈l,Szp 2500 p)∧o=.val (.int (bQ l))
set_option maxHeartbeats 8000000 in
theorem dQ (T:Txt K mg):bE P w K mg base (CXF P w) 2 T.a_double_area T.d_double_area ["land"] (spU K (qQ)):=by
 refine bU T.F_double_area d5 (fun us o h=> ?_) (fun cdv A outer s H E O us o hr h=> ?_)
 ·obtain ⟨l,rfl,hl,sz,rfl⟩:=h
  rfl
 obtain ⟨l,rfl,hl,sz,rfl⟩:=h
 refine Ws.nox ?_
 refine ag (ca (bG (wH rfl ) rfl T.z_sum boot_sum (ae (EvN.ev (jz (ys:=(((sdl l).map crs).map U.int)) rfl (blk (aj bC) ["land","A","B"] [1,2] rfl rfl rfl rfl (by decide+kernel)) (d4 (EvN.ev (cE ((m7 T).mono (by decide)) hr rfl T.m_sides T.F_sides.kp T.b_sides ay (ae (ac 0 rfl) aq am) ⟨l,rfl,hl,rfl⟩)) (.inl rfl)) (fun _ _ _ _=> kQ rfl (b_ (bF (i:=1) d5.nd rfl (Or.inl rfl)) (b_ (bF (i:=2) d5.nd rfl (Or.inl rfl)) gT))) (kC (js:=[1,2]) (by decide)) ?clen ?csz ?dom ?celt)) aq ls)) ?_)
 case clen=> simp
 case csz=> simp only [k_,List.length_map]; exact Nat.le_of_lt (bh (by omega))
 case dom=>
  intro x hx
  obtain ⟨s,_,rfl⟩:=List.mem_map.mp hx
  exact ⟨_,rfl,rfl⟩
 case celt=>
  intro C s' H' fp j x y hx hy
  rw [List.map_map] at hy
  obtain ⟨s,hs,ms,rfl,rfl⟩:=iP hx hy
  obtain ⟨m1,m2⟩:=dH ms
  have z1:=(sz _ m1).1
  have z2:=(sz _ m1).2
  have z3:=(sz _ m2).1
  have z4:=(sz _ m2).2
  exact (bO (bD (a_ (ac 1 rfl) af rfl rfl) (a_ (ac 2 rfl) af rfl rfl) (by walk_at "mul")) (bD (a_ (ac 1 rfl) af rfl rfl) (a_ (ac 2 rfl) af rfl rfl) (by walk_at "mul")))
 exact rfl
theorem xI {m:Nat} {s:P2×P2} (h1:Szp m s.1) (h2:Szp m s.2):Sz (m+m+1) (crs s):=by
 unfold crs
 exact (L2.Sz.sub' (L2.Sz.mul h1.1 h2.2) (L2.Sz.mul h1.2 h2.1)).mono (by omega)
theorem si {m:Nat}:∀ (l:List Int),(∀ x∈l,Sz m x)→l.sum.natAbs≤l.length * 2 ^ m
 | [],_=> by simp
 | a::l,h=> by
  have ih:=si l fun x hx=> h x (List.mem_cons_of_mem _ hx)
  have ha:=h a List.mem_cons_self
  unfold Sz at ha
  rw [List.sum_cons,List.length_cons,Nat.add_mul,Nat.one_mul]
  omega
theorem lZ {m:Nat} {l:List Int} (h:∀ x∈l,Sz m x) (hl:l.length < 64):Sz (m+6) l.sum:=by
 have:=si l h
 unfold Sz
 have e:2 ^ (m+6)=64 * 2 ^ m:=by rw [Nat.pow_add]; omega
 have:l.length * 2 ^ m < 64 * 2 ^ m:=Nat.mul_lt_mul_of_pos_right hl (Nat.two_pow_pos m)
 omega
theorem iG {m:Nat} {l:List P2} (h:∀ p∈l,Szp m p) (hl:l.length < 64):Sz (m+m+7) (bQ l):=by
 refine (lZ (m:=m+m+1) (fun x hx=> ?_) (by rw [List.length_map,k_]; exact hl)).mono (by omega)
 obtain ⟨s,hs,rfl⟩:=List.mem_map.mp hx
 exact xI (h _ (dH hs).1) (h _ (dH hs).2)
theorem nC {l m:List P2} (hl:l≠[]) (hm:m≠[]) {n:Nat} (sl:∀ p∈l,Szp n p) (sm:∀ p∈m,Szp n p):∀ p∈aa (tog l m),Szp (n+1) p:=fun p hp=> by
 obtain ⟨x,hx,y,hy,rfl⟩:=aI.mp (gd (List.length_pos_iff.mpr hl) (List.length_pos_iff.mpr hm) p (ar _ p hp))
 have a:=sl x hx
 have b:=sm y hy
 exact ⟨a.1.add b.1,a.2.add b.2⟩
def mix (l m:List P2):Int:=bQ (aa (tog l m)) - bQ l - bQ m
def nA:List U→Out→Prop:=fun us o=> ∃ l m:List P2,us=[lp l,lp m]∧l≠[]∧m≠[]∧l.length+m.length < 64∧(∀ p∈l,Szp 1200 p)∧(∀ p∈m,Szp 1200 p)∧o=.val (.int (mix l m))
set_option maxHeartbeats 8000000 in
theorem gU (T:Txt K mg):bE P w K mg base (CXF P w) 6 T.a_mixed T.d_mixed ["one","other"] (spU K (nA)):=by
 refine bU T.F_mixed rS (fun us o h=> ?_) (fun cdv A outer s H E O us o hr h=> ?_)
 ·obtain ⟨l,m,rfl,hl,hm,ll,sl,sm,rfl⟩:=h
  rfl
 obtain ⟨l,m,rfl,hl,hm,ll,sl,sm,rfl⟩:=h
 refine Ws.nox ?_
 have cl:(aa (tog l m)).length≤900:=Nat.le_trans (cW _) (by rw [gM]; omega)
 refine ag (ca (bO (bO (aD ((dQ T).mono (by decide)) hr rfl T.m_double_area T.F_double_area.kp T.b_double_area ay (ae (EvN.ev (cE ((iA T).mono (by decide)) hr rfl T.m_together T.F_together.kp T.b_together ay (ae (ac 0 rfl) (ae (ac 1 rfl) aq am) am) ⟨l,m,rfl,hl,hm,ll,eP (by decide) sl,eP (by decide) sm,rfl⟩)) aq bp) ⟨aa (tog l m),rfl,cl,eP (by decide) (nC hl hm sl sm),rfl⟩) (aD ((dQ T).mono (by decide)) hr rfl T.m_double_area T.F_double_area.kp T.b_double_area ay (ae (ac 0 rfl) aq am) ⟨l,rfl,by omega,eP (by decide) sl,rfl⟩)) (aD ((dQ T).mono (by decide)) hr rfl T.m_double_area T.F_double_area.kp T.b_double_area ay (ae (ac 1 rfl) aq am) ⟨m,rfl,by omega,eP (by decide) sm,rfl⟩)) ?_)
 exact rfl
end
section
variable {P:Program} {w:World} {K:PySem.W.Frag} {mg:Str→Option Value} {base:Heap}
def cel (ns:List Int) (k:Int):Int:=if k < (ns.length:Int) then ns.getD k.toNat 0 else 7 * k * k+3 * k+1
theorem je {ns:List Int} (h:∀ m∈ns,Sz 1048576 m) {k:Int} (h0:0≤k) (h1:k < 1000):Sz 1048576 (cel ns k):=by
 unfold cel
 split
 ·exact uT h _
 ·refine Sz.mono (m:=100) ?_ (by decide)
  have:7 * k * k≤7 * 1000 * 1000:=by
   have:k * k≤1000 * 1000:=Int.mul_le_mul (by omega) (by omega) h0 (by omega)
   rw [Int.mul_assoc]; omega
  have h2:0≤7 * k * k:=Int.mul_nonneg (by omega) h0
  unfold Sz; omega
def qw:List U→Out→Prop:=fun us o=> ∃ (ns:List Int) (k:Int),us=[.scr (ns.map U.int),.int k]∧ns.length≤63∧0≤k∧k < 1000∧o=.val (.int (cel ns k))
set_option maxHeartbeats 8000000 in
theorem bb (T:Txt K mg):bE P w K mg base (CXF P w) 1 T.a__law_cell T.d__law_cell ["script","k"] (spU K (qw)):=by
 refine bU T.F__law_cell lh (fun us o h=> ?_) (fun cdv A outer s H E O us o hr h=> ?_)
 ·obtain ⟨ns,k,rfl,hl,h0,h1,rfl⟩:=h
  rfl
 obtain ⟨ns,k,rfl,hl,h0,h1,rfl⟩:=h
 refine Ws.nox ?_
 have sk:Sz 64 k:=by unfold Sz; omega
 have hm:((ns.map U.int).length:Int)=(ns.length:Int):=by rw [List.length_map]
 refine ag (lF (ba n8 (ac 1 rfl) (bG (gu rfl) rfl T.z_len PySem.boot_len (ae (ac 0 rfl) aq am))) (fun hT=> ?_) (fun hF=> (aZ ?_)))
 ·rw [hm] at hT
  have hk:=dTb hT
  refine ag (ca (a_ (ac 0 rfl) (ac 1 rfl) rfl (rq h0 hk)) ?_)
  exact vIO (by unfold cel; rw [if_pos hk])
 ·rw [hm] at hF
  have hk:=dFb hF
  refine ag (ca (dG (dG (bD (bD af (ac 1 rfl) (by walk_at "mul")) (ac 1 rfl) (by walk_at "mul")) (bD af (ac 1 rfl) (by walk_at "mul"))) af) ?_)
  exact vIO (by unfold cel; rw [if_neg hk])
theorem yN {m:Nat} {x y:Int} (h:0≤y) (sy:Sz m y):Sz m (x % (2 * y+1) - y):=by
 have h1:=Int.emod_nonneg x (show 2 * y+1≠0 by omega)
 have h2:=Int.emod_lt_of_pos x (show 0 < 2 * y+1 by omega)
 generalize x % (2 * y+1)=z at *
 refine Sz.le ?_ sy
 omega
def grt (c m:Int):Int:=c * (37 * m / 10+60013) % (2 * m+1) - m
def nV:List U→Out→Prop:=fun us o=> ∃ c m:Int,us=[.int c,.int m]∧Sz 1048576 c∧Sz 240 m∧0≤m∧o=.val (.int (grt c m))
set_option maxHeartbeats 8000000 in
theorem cH (T:Txt K mg):bE P w K mg base (CXF P w) 1 T.a__law_great T.d__law_great ["cell","most"] (spU K (nV)):=by
 refine bU T.F__law_great jM (fun us o h=> ?_) (fun cdv A outer s H E O us o hr h=> ?_)
 ·obtain ⟨c,m,rfl,sc,sm,h0,rfl⟩:=h
  rfl
 obtain ⟨c,m,rfl,sc,sm,h0,rfl⟩:=h
 refine Ws.nox ?_
 refine ag (ca (bO (eX (bD (ac 0 rfl) (dG (iq (bD af (ac 1 rfl) (by walk_at "mul")) af (by walk_at "div")) af) (by walk_at "mul")) (dG (bD af (ac 1 rfl) (by walk_at "mul")) af) (by omega)) (ac 1 rfl)) ?_)
 exact rfl
theorem jn {n:Nat} {m:Int} (c:Int) (h0:0≤m) (sm:Sz n m):Sz n (grt c m):=yN h0 sm
def lI (l m:List P2) (i:Nat):Int:=((List.range i).map fun j=> hg m (ak (gp l j) (prv l j))).sum
theorem sW {l m:List P2} (hn:l.Nodup):lI l m l.length=mxd l m:=by
 rw [← wT hn]
 unfold lI pvl
 rw [List.map_map]
 rfl
theorem wU {m n:Nat} {a b:Int} {l:List P2} (hne:l≠[]) (ha:Sz n a) (hb:Sz n b) (hp:∀ p∈l,Szp m p):Sz (n+m+1) (hiW a b l):=by
 obtain ⟨⟨q,hq,e⟩,_⟩:=fV a b hne
 rw [← e]
 exact (L2.Sz.mul ha (hp q hq).1).add (L2.Sz.mul hb (hp q hq).2)
theorem vy {l m:List P2} {n:Nat} (hm:m≠[]) (sl:∀ p∈l,Szp n p) (sm:∀ p∈m,Szp n p) {i:Nat} (hi:i≤l.length) (h6:l.length < 64):Sz (n+n+8) (lI l m i):=by
 refine (lZ (m:=n+n+2) (fun x hx=> ?_) (by rw [List.length_map,List.length_range]; omega)).mono (by omega)
 obtain ⟨j,hj,rfl⟩:=List.mem_map.mp hx
 have hj':j < l.length:=Nat.lt_of_lt_of_le (List.mem_range.mp hj) hi
 have a:=sl _ (bK hj')
 have b:=sl _ (pZ hj')
 exact (wU (n:=n+1) hm (L2.Sz.sub a.2 b.2) (L2.Sz.neg (L2.Sz.sub a.1 b.1)) sm).mono (by omega)
theorem yO (x y:Int) (p:P2):wth y (-x) p=y * p.1 - x * p.2:=by unfold wth; rw [Int.neg_mul]; omega
def tQ:List U→Out→Prop:=fun us o=> ∃ l m:List P2,us=[lp l,lp m]∧l.Nodup∧m≠[]∧l.length < 64∧m.length < 64∧(∀ p∈l,Szp 300 p)∧(∀ p∈m,Szp 300 p)∧o=.val (.int (2 * mxd l m))
set_option maxHeartbeats 8000000 in
theorem fU (T:Txt K mg):bE P w K mg base (CXF P w) 1 T.a__law_due T.d__law_due ["one","other"] (spU K (tQ)):=by
 refine bU T.F__law_due ck (fun us o h=> ?_) (fun cdv A outer s H E O us o hr h=> ?_)
 ·obtain ⟨l,m,rfl,hn,hm,ll,lm,sl,sm,rfl⟩:=h
  rfl
 obtain ⟨l,m,rfl,hn,hm,ll,lm,sl,sm,rfl⟩:=h
 refine Ws.nox ?_
 have hml:((l.map pu).length:Int)=(l.length:Int):=by rw [List.length_map]
 refine ag (bu (i:=2) ck.nd rfl (Or.inl rfl) af ?_)
 refine ag (fe (fun i:Nat=> [some (.val (lp l)),some (.val (lp m)),some (.val (.int (lI l m i))),none,none,none,none]) (fun i j=> i=j) rfl PassesOwn.never (jt rfl T.z_range (ae (bG (gu rfl) rfl T.z_len PySem.boot_len (ae (ac 0 rfl) aq am)) aq bp) (by rw [hml]; omega) (by rw [hml]; omega)) ?h0 ?hs ?hd)
 case h0=> exact ⟨0,rfl,rfl,rfl,rfl,trivial⟩
 case hs=>
  rintro H0 i x _ hx rfl
  obtain ⟨hi,rfl⟩:=dj hx
  have hi':i < l.length:=by rw [hml] at hi; omega
  have s1:=sl _ (bK hi')
  have s2:=sl _ (pZ hi')
  refine ⟨_,(fP (i:=3) ck.nd rfl (Or.inl rfl)),?_⟩
  refine ag (bu (i:=4) ck.nd rfl (Or.inr rfl) (bO (a_ (a_ (ac 0 rfl) (ac 3 rfl) rfl (nq (i:=i) (by omega) hi')) af rfl rfl) (a_ (a_ (ac 0 rfl) (bO (ac 3 rfl) af) rfl (t_ hi')) af rfl rfl)) ?_)
  refine ag (bu (i:=5) ck.nd rfl (Or.inr rfl) (bO (a_ (a_ (ac 0 rfl) (ac 3 rfl) rfl (nq (i:=i) (by omega) hi')) af rfl rfl) (a_ (a_ (ac 0 rfl) (bO (ac 3 rfl) af) rfl (t_ hi')) af rfl rfl)) ?_)
  have sx:Sz 301 ((gp l i).1 - (prv l i).1):=L2.Sz.sub s1.1 s2.1
  have sy:Sz 301 ((gp l i).2 - (prv l i).2):=L2.Sz.sub s1.2 s2.2
  have tot:lI l m (i+1)=lI l m i+hiW ((gp l i).2 - (prv l i).2) (-((gp l i).1 - (prv l i).1)) m:=by
   unfold lI
   rw [List.range_succ,List.map_append,List.map_cons,List.map_nil,eQ]
   rfl
  show Ws _ _ _ _ _ _ [some (.val (lp l)),some (.val (lp m)),some (.val (.int (lI l m i))),some (.val (.int (0+(i:Int)))),some (.val (.int ((gp l i).1 - (prv l i).1))),some (.val (.int ((gp l i).2 - (prv l i).2))),none]
  generalize hX:(gp l i).1 - (prv l i).1=X0 at *
  generalize hY:(gp l i).2 - (prv l i).2=Y0 at *
  refine ag (bu (i:=2) ck.nd rfl (Or.inl rfl) (dG (ac 2 rfl) (bG (wf rfl (xn Y0 (-X0) hm)) rfl T.z_max boot_max (ae (EvN.ev (jz (ys:=((m.map (wth Y0 (-X0))).map U.int)) rfl (blk (aj cP) ["one","other","total","k","x","y","p"] [6] rfl rfl rfl rfl (by decide+kernel)) (d4 (ac 1 rfl) (.inl rfl)) (fun _ _ _ _=> bF (i:=6) ck.nd rfl (Or.inl rfl)) (jj (by decide)) ?clen ?csz (fun _ _=> trivial) ?celt)) aq ls))) (aZ ?_))
  case clen=> simp
  case csz=> rw [List.length_map]; exact Nat.le_of_lt (bh (by omega))
  case celt=>
   intro C s' H' fp j x y hx hy
   rw [List.map_map] at hy
   obtain ⟨p,hp,mp,rfl,rfl⟩:=iP hx hy
   have z1:=(sm p mp).1
   have z2:=(sm p mp).2
   show Ev _ _ _ _ _ (.int (wth Y0 (-X0) p))
   rw [yO]
   exact (bO (bD (ac 5 rfl) (a_ (ac 6 rfl) af rfl rfl) (by walk_at "mul")) (bD (ac 4 rfl) (a_ (ac 6 rfl) af rfl rfl) (by walk_at "mul")))
  refine ⟨i+1,rfl,rfl,rfl,?_,trivial⟩
  exact congrArg (fun z=> some (Sl.val (.int z))) tot.symm
 case hd=>
  rintro q ps hq hps
  refine dR ?_ hps
  rw [dk,hml,show ((l.length:Int)).toNat=l.length by omega] at hq
  subst hq
  have tz:=vy hm sl sm (Nat.le_refl l.length) ll
  rw [sW hn] at tz ⊢
  refine ag (ca (bD af (ac 2 rfl) (by walk_at "mul")) ?_)
  exact rfl
def n5:List U→Out→Prop:=fun us o=> ∃ l:List P2,us=[lp l]∧l≠[]∧l.length < 64∧(∀ p∈l,Szp 300 p)∧o=.val (.int (2 * bQ l))
set_option maxHeartbeats 8000000 in
theorem jP (T:Txt K mg):bE P w K mg base (CXF P w) 2 T.a__law_twice T.d__law_twice ["land"] (spU K (n5)):=by
 refine bU T.F__law_twice dn (fun us o h=> ?_) (fun cdv A outer s H E O us o hr h=> ?_)
 ·obtain ⟨l,rfl,hne,ll,sl,rfl⟩:=h
  rfl
 obtain ⟨l,rfl,hne,ll,sl,rfl⟩:=h
 refine Ws.nox ?_
 have hm:((l.map pu).length:Int)=(l.length:Int):=by rw [List.length_map]
 have h0:0 < l.length:=List.length_pos_iff.mpr hne
 have sz5:∀ p∈l,Szp 5000 p:=eP (by decide) sl
 have az:=iG sl ll
 refine ag (bu (i:=1) dn.nd rfl (Or.inl rfl) af ?_)
 refine ag (fe (fun i:Nat=> [some (.val (lp l)),some (.val (.int (tws l i))),none]) (fun i j=> i=j) rfl PassesOwn.never (mS rfl T.z_range (ae af (ae (bO (bG (gu rfl) rfl T.z_len PySem.boot_len (ae (ac 0 rfl) aq am)) af) aq be) aX) (by rw [hm]; omega)) ?h0 ?hs ?hd)
 case h0=> exact ⟨0,rfl,rfl,rfl,trivial⟩
 case hs=>
  rintro H0 i x _ hx rfl
  obtain ⟨hi,rfl⟩:=dj hx
  have hi':i+2 < l.length:=by rw [hm] at hi; omega
  refine ⟨_,(fP (i:=2) dn.nd rfl (Or.inl rfl)),?_⟩
  refine ag (bu (i:=1) dn.nd rfl (Or.inl rfl) (dG (ac 1 rfl) (aD ((gQ T).mono (by decide)) hr rfl T.m__law_side T.F__law_side.kp T.b__law_side ay (ae (a_ (ac 0 rfl) af rfl (y6 (by omega))) (ae (a_ (ac 0 rfl) (ac 2 rfl) rfl (nq (i:=i+1) (by omega) (by omega))) (ae (a_ (ac 0 rfl) (dG (ac 2 rfl) af) rfl (nq (i:=i+2) (by omega) hi')) aq ci) ci) ci) ⟨_,_,_,rfl,sz5 _ (bK (by omega)),sz5 _ (bK (by omega)),sz5 _ (bK hi'),rfl⟩)) (aZ ?_))
  refine ⟨i+1,rfl,rfl,?_,trivial⟩
  exact congrArg (fun z=> some (Sl.val (.int z))) (by unfold tws; rw [List.range_succ,List.map_append,List.map_cons,List.map_nil,eQ])
 case hd=>
  rintro q ps hq hps
  refine dR ?_ hps
  rw [dk,hm,show ((l.length:Int) - 1 - 1).toNat=l.length - 2 by omega] at hq
  subst hq
  rw [u5 h0]
  refine ag (ca (bD af (ac 1 rfl) (by walk_at "mul")) ?_)
  exact rfl
def qG:List U→Out→Prop:=fun us o=> ∃ f d:Int,us=[.int f,.int d]∧f=d∧0≤d∧o=.val (.bl true)
set_option maxHeartbeats 8000000 in
theorem dI (T:Txt K mg):bE P w K mg base (CXF P w) 1 T.a__law_good T.d__law_good ["found","due"] (spU K (qG)):=by
 refine bU T.F__law_good kE (fun us o h=> ?_) (fun cdv A outer s H E O us o hr h=> ?_)
 ·obtain ⟨f,d,rfl,rfl,h0,rfl⟩:=h
  rfl
 obtain ⟨f,d,rfl,rfl,h0,rfl⟩:=h
 refine Ws.nox ?_
 refine ag (ca (t7 (bG (mZ (by intro _ h; cases h) (by walk_at "kit")) rfl T.z_isinstance boot_isinstance (ae (ac 0 rfl) (ae (xV rfl T.z_int boot_int) aq am) am)) (fun hz=> (t7 (yn (bG (mZ (by intro _ h; cases h) (by walk_at "kit")) rfl T.z_isinstance boot_isinstance (ae (ac 0 rfl) (ae (xV rfl T.z_bool boot_bool) aq am) am))) (fun hz=> (t7 (ir (yg (gH hr) (by walk_at "ok") (by walk_at "ok")) (ac 0 rfl) (ac 1 rfl)) (fun hz=> (yj (ir y8 (ac 0 rfl) af)))))))) ?_)
 exact vB (show (true && (!false && (decide (f=f) && decide (f ≥ 0))))=true by simp; exact h0)
end
section
variable {P:Program} {w:World} {K:PySem.W.Frag} {mg:Str→Option Value} {base:Heap}
def ptP (w c:Int):P2:=if w=1 then (grt c (10 ^ (40:Int).toNat),grt (c / 7) (10 ^ (40:Int).toNat)) else if w=2 then (c % 13 - 6,0 - (c % 13 - 6) * (c % 13 - 6)) else if w=3 then (c % 13 - 6,2 * (c % 13 - 6)+1) else if w=4 then (3,c / 13 % 13 - 6) else (c % 13 - 6,c / 13 % 13 - 6)
theorem xG (w c:Int):Szp 140 (ptP w c):=by
 have h1:-6≤c % 13 - 6∧c % 13 - 6≤6:=by omega
 have h2:-6≤c / 13 % 13 - 6∧c / 13 % 13 - 6≤6:=by omega
 have small:∀ {x:Int},-100 < x→x < 100→Sz 140 x:=fun h1 h2=> Sz.mono (m:=12) (by unfold Sz; omega) (by decide)
 unfold ptP
 generalize c % 13 - 6=x at *
 generalize c / 13 % 13 - 6=y at *
 have sq:-1≤x * x∧x * x≤36:=by
  obtain ⟨a,b⟩:=h1
  rcases (show x=-6∨x=-5∨x=-4∨x=-3∨x=-2∨x=-1∨x=0∨x=1∨x=2∨x=3∨x=4∨x=5∨x=6 by omega) with e | e | e | e | e | e | e | e | e | e | e | e | e <;> rw [e] <;> decide
 split
 ·exact ⟨jn _ (by decide+kernel) (by decide+kernel),jn _ (by decide+kernel) (by decide+kernel)⟩
 split
 ·exact ⟨small (by omega) (by omega),small (by omega) (by omega)⟩
 split
 ·exact ⟨small (by omega) (by omega),small (by omega) (by omega)⟩
 split
 ·exact ⟨small (by omega) (by omega),small (by omega) (by omega)⟩
 ·exact ⟨small (by omega) (by omega),small (by omega) (by omega)⟩
def n_:List U→Out→Prop:=fun us o=> ∃ c w:Int,us=[.int c,.int w]∧Sz 1048576 c∧o=.val (pu (ptP w c))
set_option maxHeartbeats 8000000 in
theorem jQ (T:Txt K mg):bE P w K mg base (CXF P w) 2 T.a__law_point T.d__law_point ["cell","way"] (spU K (n_)):=by
 refine bU T.F__law_point bW (fun us o h=> ?_) (fun cdv A outer s H E O us o hr h=> ?_)
 ·obtain ⟨c,w,rfl,cz,rfl⟩:=h
  rfl
 obtain ⟨c,w,rfl,cz,rfl⟩:=h
 refine Ws.nox ?_
 have sx:Sz 12 (c % 13 - 6):=by unfold Sz; omega
 have c7:Sz 1048576 (c / 7):=L2.Sz.ediv cz
 have big:Sz 240 (10 ^ (40:Int).toNat:Int):=by decide+kernel
 have bigp:(0:Int)≤10 ^ (40:Int).toNat:=by decide+kernel
 refine ag (bu (i:=2) bW.nd rfl (Or.inl rfl) (bO (eX (ac 0 rfl) af (by walk_at "mod")) af) ?_)
 refine ag (bu (i:=3) bW.nd rfl (Or.inl rfl) (bO (eX (iq (ac 0 rfl) af (by walk_at "div")) af (by walk_at "mod")) af) ?_)
 unfold ptP
 by_cases h1:w=1
 ·rw [if_pos h1]
  refine ag (iy (ba dy (ac 1 rfl) af) (decide_eq_true h1) ?_)
  refine ag (ca (cf (aA (aD ((cH T).mono (by decide)) hr rfl T.m__law_great T.F__law_great.kp T.b__law_great ay (ae (ac 0 rfl) (ae (jb af af ⟨by decide,by decide,by decide⟩) aq be) am) ⟨_,_,rfl,cz,big,bigp,rfl⟩) (aA (aD ((cH T).mono (by decide)) hr rfl T.m__law_great T.F__law_great.kp T.b__law_great ay (ae (iq (ac 0 rfl) af (by walk_at "div")) (ae (jb af af ⟨by decide,by decide,by decide⟩) aq be) be) ⟨_,_,rfl,c7,big,bigp,rfl⟩) cg bp) bp)) ?_)
  exact rfl
 rw [if_neg h1]
 refine ag (eG (ba dy (ac 1 rfl) af) (decide_eq_false h1) (aZ ?_))
 by_cases h2:w=2
 ·rw [if_pos h2]
  refine ag (iy (ba dy (ac 1 rfl) af) (decide_eq_true h2) ?_)
  refine ag (bu (i:=3) bW.nd rfl (Or.inl rfl) (bO af (bD (ac 2 rfl) (ac 2 rfl) (by walk_at "mul"))) (aZ ?_))
  refine ag (eG (ba dy (ac 1 rfl) af) (decide_eq_false (by omega)) (aZ ?_))
  refine ag (eG (ba dy (ac 1 rfl) af) (decide_eq_false (by omega)) (aZ ?_))
  refine ag (ca (cf (aA (ac 2 rfl) (aA (ac 3 rfl) cg am) am)) ?_)
  exact rfl
 rw [if_neg h2]
 refine ag (eG (ba dy (ac 1 rfl) af) (decide_eq_false h2) (aZ ?_))
 by_cases h3:w=3
 ·rw [if_pos h3]
  refine ag (iy (ba dy (ac 1 rfl) af) (decide_eq_true h3) ?_)
  refine ag (bu (i:=3) bW.nd rfl (Or.inl rfl) (dG (bD af (ac 2 rfl) (by walk_at "mul")) af) (aZ ?_))
  refine ag (eG (ba dy (ac 1 rfl) af) (decide_eq_false (by omega)) (aZ ?_))
  refine ag (ca (cf (aA (ac 2 rfl) (aA (ac 3 rfl) cg am) am)) ?_)
  exact rfl
 rw [if_neg h3]
 refine ag (eG (ba dy (ac 1 rfl) af) (decide_eq_false h3) (aZ ?_))
 by_cases h4:w=4
 ·rw [if_pos h4]
  refine ag (iy (ba dy (ac 1 rfl) af) (decide_eq_true h4) ?_)
  refine ag (bu (i:=2) bW.nd rfl (Or.inl rfl) af (aZ ?_))
  refine ag (ca (cf (aA (ac 2 rfl) (aA (ac 3 rfl) cg am) am)) ?_)
  exact rfl
 rw [if_neg h4]
 refine ag (eG (ba dy (ac 1 rfl) af) (decide_eq_false h4) (aZ ?_))
 refine ag (ca (cf (aA (ac 2 rfl) (aA (ac 3 rfl) cg am) am)) ?_)
 exact rfl
end
section
variable {P:Program} {w:World} {K:PySem.W.Frag} {mg:Str→Option Value} {base:Heap}
def dlt (g:Nat→P2):Nat→Nat→List P2
 | 0,_=> []
 | n+1,r=> if (4+n) % 3=r then dlt g n r++[g n] else dlt g n r
theorem iH (g:Nat→P2):∀ n r,dU (fun i=> (4+i) % 3) (fun i=> pu (g i)) n r=(dlt g n r).map pu
 | 0,_=> rfl
 | n+1,r=> by
  rw [dU,dlt,iH g n r]
  split
  ·rw [List.map_append]; rfl
  ·rfl
theorem pH (g:Nat→P2) {r:Nat} (hr:r < 3):∀ n,(dlt g n r).length=(n+2 - (r+2) % 3) / 3
 | 0=> by
  rw [dlt]
  show 0=_
  omega
 | n+1=> by
  have ih:=pH g hr n
  rw [dlt]
  split
  ·rw [List.length_append,ih]
   show _+1=_
   omega
  ·rw [ih]; omega
theorem lc (g:Nat→P2) (Q:P2→Prop) (h:∀ i,Q (g i)):∀ n r,∀ p∈dlt g n r,Q p
 | 0,_,p,hp=> by cases hp
 | n+1,r,p,hp=> by
  rw [dlt] at hp
  split at hp
  ·rcases List.mem_append.mp hp with k | k
   ·exact lc g Q h n r p k
   ·rw [List.mem_singleton.mp k]; exact h n
  ·exact lc g Q h n r p hp
def wyN (w:Int) (r:Nat):Int:=if r=0 then w % 6 else if r=1 then w / 6 % 6 else w / 36
def lnN (ns:List Int):Nat:=max 7 (min ns.length 63) - 4
def lnP (ns:List Int) (i:Nat):P2:=ptP (wyN (cel ns 0 % 216) ((4+i) % 3)) (cel ns (4+(i:Int)))
def Ld (ns:List Int) (r:Nat):List P2:=dlt (lnP ns) (lnN ns) r
theorem vT (ns:List Int) {r:Nat} (hr:r < 3):Ld ns r≠[]∧(Ld ns r).length≤20∧∀ p∈Ld ns r,Szp 140 p:=by
 have l:=pH (lnP ns) hr (lnN ns)
 have n1:3≤lnN ns∧lnN ns≤59:=by unfold lnN; omega
 refine ⟨fun e=> ?_,?_,lc _ _ (fun i=> xG _ _) _ _⟩
 ·have e':dlt (lnP ns) (lnN ns) r=[]:=e
  rw [e'] at l
  simp only [List.length_nil] at l
  omega
 ·show (dlt (lnP ns) (lnN ns) r).length≤20
  rw [l]; omega
def bH (f:Nat→List P2):List U:=[lp (f 0),lp (f 1),lp (f 2)]
theorem mG (f:Nat→List P2) {r:Nat} (hr:r < 3):(bH f)[r]?=some (lp (f r)):=by
 rcases (show r=0∨r=1∨r=2 by omega) with z | z | z <;> subst z <;> rfl
theorem f_ {f:Nat→List P2} {r:Nat} {x:U} (h:(bH f)[r]?=some x):r < 3∧x=lp (f r):=by
 have hr:r < 3:=aB h
 rw [mG f hr] at h
 exact ⟨hr,(Option.some.inj h).symm⟩
def oe:List U→Out→Prop:=fun us o=> ∃ ns:List Int,us=[.scr (ns.map U.int)]∧ns.length≤63∧(∀ m∈ns,Sz 1048576 m)∧o=.new (bH fun r=> aa (Ld ns r))
set_option maxHeartbeats 8000000 in
theorem jI (T:Txt K mg):bE P w K mg base (CXF P w) 4 T.a__law_lands T.d__law_lands ["script"] (spU K (oe)):=by
 refine bU T.F__law_lands cF (fun us o h=> ?_) (fun cdv A outer s H E O us o hr h=> ?_)
 ·obtain ⟨ns,rfl,hl,hB,rfl⟩:=h
  rfl
 obtain ⟨ns,rfl,hl,hB,rfl⟩:=h
 refine Ws.nox ?_
 have c0:=je hB (k:=0) (by decide) (by decide)
 have hm:((ns.map U.int).length:Int)=(ns.length:Int):=by rw [List.length_map]
 have hbe:(if (if (63:Int) < ((ns.map U.int).length:Int) then (63:Int) else ((ns.map U.int).length:Int)) > (7:Int) then (if (63:Int) < ((ns.map U.int).length:Int) then (63:Int) else ((ns.map U.int).length:Int)) else (7:Int))=((lnN ns+4:Nat):Int):=by
  rw [hm]
  unfold lnN
  split <;> split <;> omega
 have n59:lnN ns≤59:=by unfold lnN; omega
 refine ag (bu (i:=1) cF.nd rfl (Or.inl rfl) (eX (aD ((bb T).mono (by decide)) hr rfl T.m__law_cell T.F__law_cell.kp T.b__law_cell ay (ae (ac 0 rfl) (ae af aq aX) am) ⟨ns,_,rfl,hl,by decide,by decide,rfl⟩) af (by walk_at "mod")) ?_)
 refine ag (bu (i:=2) cF.nd rfl (Or.inl rfl) (EvN.ev (hJ (aA (eX (ac 1 rfl) af (by walk_at "mod")) (aA (eX (iq (ac 1 rfl) af (by walk_at "div")) af (by walk_at "mod")) (aA (iq (ac 1 rfl) af (by walk_at "div")) cg be) be) be))) ?_)
 have eit:d6 4 (((lnN ns+4:Nat):Int) - 4).toNat=d6 4 (lnN ns):=by rw [show (((lnN ns+4:Nat):Int) - 4).toNat=lnN ns by omega]
 refine wJ (j:=3) (kk:=4) (items:=d6 4 (lnN ns)) (fun i=> (4+i) % 3) (fun i=> pu (lnP ns i)) rfl PassesOwn.never cF.nd rfl rfl (Or.inl rfl) (Or.inl rfl) (by decide) rfl rfl ?hv ?hi ?he1 ?he2 (fun i _=> Nat.mod_lt _ (by decide)) (by rw [dk]; exact bh (by omega)) nE nE nE ?_
 case hv=>
  intro i s h
  match i,h with
  | 0,h=> cases h; exact ⟨_,rfl⟩
  | 1,h=> cases h; exact ⟨_,rfl⟩
  | 2,h=> cases h; exact ⟨_,rfl⟩
  | 3,h=> cases h
  | 4,h=> cases h
  | 5,h=> cases h
  | n+6,h=> exact absurd (aB h) (show ¬ n+6 < 6 by omega)
 case hi=>
  rw [← eit,← hbe]
  exact (mS rfl T.z_range (ae af (ae (bG (yG rfl) rfl T.z_max boot_max (ae af (ae (bG (yB rfl) rfl T.z_min boot_min (ae (bG (gu rfl) rfl T.z_len PySem.boot_len (ae (ac 0 rfl) aq am)) (ae af aq aX) bp)) aq bp) aX)) aq bp) aX) (by rw [hbe]; omega))
 case he1=>
  intro H0 i x hx
  obtain ⟨hi,rfl⟩:=dj hx
  rw [show (((4+i) % 3:Nat):Int)=(4+(i:Int)) % 3 by omega]
  exact (eX (ac 4 rfl) af (by walk_at "mod"))
 case he2=>
  intro H0 i x hx
  obtain ⟨hi,rfl⟩:=dj hx
  have cz:=je hB (k:=4+(i:Int)) (by omega) (by omega)
  have wat:atI [U.int (cel ns 0 % 216 % 6),.int (cel ns 0 % 216 / 6 % 6),.int (cel ns 0 % 216 / 36)] ((4+(i:Int)) % 3)=some (.int (wyN (cel ns 0 % 216) ((4+i) % 3))):=by
   rcases (show (4+i) % 3=0∨(4+i) % 3=1∨(4+i) % 3=2 by omega) with z | z | z <;> rw [z]
   ·rw [show (4+(i:Int)) % 3=0 by omega]; rfl
   ·rw [show (4+(i:Int)) % 3=1 by omega]; rfl
   ·rw [show (4+(i:Int)) % 3=2 by omega]; rfl
  exact (aD ((jQ T).mono (by decide)) hr rfl T.m__law_point T.F__law_point.kp T.b__law_point ay (ae (aD ((bb T).mono (by decide)) hr rfl T.m__law_cell T.F__law_cell.kp T.b__law_cell ay (ae (ac 0 rfl) (ae (ac 4 rfl) aq am) am) ⟨ns,_,rfl,hl,by omega,by omega,rfl⟩) (ae (a_ (ac 2 rfl) (eX (ac 4 rfl) af (by walk_at "mod")) rfl wat) aq ci) bp) ⟨_,_,rfl,cz,rfl⟩)
 rw [dk,iH,iH,iH]
 show Ws _ _ _ _ _ _ [some (.val (.scr (ns.map U.int))),some (.val (.int (cel ns 0 % 216))),some (.val (.lst [U.int (cel ns 0 % 216 % 6),.int (cel ns 0 % 216 / 6 % 6),.int (cel ns 0 % 216 / 36)])),some (.val (.lst (bH (Ld ns)))),none,none]
 refine ag (fE (jz (ys:=(bH fun r=> aa (Ld ns r))) rfl (blk (aj bP) ["script","way","ways_v","deals","k","some"] [5] rfl rfl rfl rfl (by decide+kernel)) (d4 (ac 3 rfl) (.inl rfl)) (fun _ _ _ _=> bF (i:=5) cF.nd rfl (Or.inl rfl)) (jj (by decide)) ?clen ?csz (fun _ _=> trivial) ?celt) ?_)
 case clen=> rfl
 case csz=> show 3≤sizeLine; decide
 case celt=>
  intro C s' H' fp j x y hx hy
  obtain ⟨hj,rfl⟩:=f_ hx
  obtain ⟨_,rfl⟩:=f_ hy
  obtain ⟨k1,k2,k3⟩:=vT ns hj
  exact (EvN.ev (cE ((dF T).mono (by decide)) hr rfl T.m__law_corners T.F__law_corners.kp T.b__law_corners ay (ae (ac 5 rfl) aq am) ⟨Ld ns j,rfl,eP (by decide) k3,by omega,rfl⟩))
 exact rfl
end
section
variable {P:Program} {w:World} {K:PySem.W.Frag} {mg:Str→Option Value} {base:Heap}
def gz (a b c e s:Int) (p:P2):P2:=(a * p.1+b * p.2+s,c * p.1+e * p.2 - 3 * s)
theorem oF (a b c e s:Int) (l:List P2):l.map (gz a b c e s)=l.map (aff a b c e (s,-(3 * s))):=List.map_congr_left fun p _=> by
 unfold gz aff
 exact Prod.ext rfl (show _ - _=_+-_ by omega)
theorem iF {a b c e s:Int} {p:P2} (sa:Sz 150 a) (sb:Sz 150 b) (sc:Sz 150 c) (se:Sz 150 e) (ss:Sz 150 s) (sp:Szp 150 p):Szp 320 (gz a b c e s p):=by
 have s3:Sz 160 (3 * s):=(L2.Sz.mul (L2.Sz.lit (m:=8) (x:=3) (by decide)) ss).mono (by decide)
 exact ⟨(L2.Sz.add' (L2.Sz.add' (L2.Sz.mul sa sp.1) (L2.Sz.mul sb sp.2)) ss).mono (by decide),(L2.Sz.sub' (L2.Sz.add' (L2.Sz.mul sc sp.1) (L2.Sz.mul se sp.2)) s3).mono (by decide)⟩
def tR:List U→Out→Prop:=fun us o=> ∃ (l:List P2) (a b c e s:Int),us=[lp l,.tup [.int a,.int b,.int c,.int e],.int s]∧l.length < 64∧(∀ p∈l,Szp 150 p)∧(Sz 150 a∧Sz 150 b∧Sz 150 c∧Sz 150 e∧Sz 150 s)∧o=.new ((aa (l.map (gz a b c e s))).map pu)
set_option maxHeartbeats 8000000 in
theorem iz (T:Txt K mg):bE P w K mg base (CXF P w) 4 T.a__law_put T.d__law_put ["land","move","shift"] (spU K (tR)):=by
 refine bU T.F__law_put eF (fun us o h=> ?_) (fun cdv A outer s H E O us o hr h=> ?_)
 ·obtain ⟨l,a,b,c,e,sh,rfl,ll,sl,⟨sa,sb,sc,se,ss⟩,rfl⟩:=h
  rfl
 obtain ⟨l,a,b,c,e,sh,rfl,ll,sl,⟨sa,sb,sc,se,ss⟩,rfl⟩:=h
 refine Ws.nox ?_
 refine ag (iT (i:=3) eF.nd rfl (Or.inl rfl) (hJ cg) ?_)
 refine ag (fe (fun i:Nat=> [some (.val (lp l)),some (.val (.tup [.int a,.int b,.int c,.int e])),some (.val (.int sh)),some (.own (((l.take i).map (gz a b c e sh)).map pu)),none,none]) (fun i j=> i=j) rfl PassesOwn.never (d4 (ac 0 rfl) (.inl rfl)) ?h0 ?hs ?hd)
 case h0=> exact ⟨0,rfl,rfl,rfl,rfl,rfl,trivial⟩
 case hs=>
  rintro H0 i x _ hx rfl
  obtain ⟨p,hp,mp,rfl⟩:=jZ hx
  have hi:=aB hp
  have z1:=(sl p mp).1
  have z2:=(sl p mp).2
  refine ⟨_,(xO [4,5] rfl (b_ (bF (i:=4) eF.nd rfl (Or.inl rfl)) (b_ (bF (i:=5) eF.nd rfl (Or.inl rfl)) gT)) rfl),?_⟩
  refine ag (eV 3 rfl (cf (aA (dG (dG (bD (a_ (ac 1 rfl) af rfl rfl) (ac 4 rfl) (by walk_at "mul")) (bD (a_ (ac 1 rfl) af rfl rfl) (ac 5 rfl) (by walk_at "mul"))) (ac 2 rfl)) (aA (bO (dG (bD (a_ (ac 1 rfl) af rfl rfl) (ac 4 rfl) (by walk_at "mul")) (bD (a_ (ac 1 rfl) af rfl rfl) (ac 5 rfl) (by walk_at "mul"))) (bD af (ac 2 rfl) (by walk_at "mul"))) cg be) be)) (by rw [List.length_map,List.length_map,List.length_take]; exact bh (by omega)) (aZ ?_))
  refine ⟨i+1,rfl,rfl,rfl,rfl,?_,trivial⟩
  exact congrArg (fun z=> some (Sl.own z)) (by rw [List.take_succ,hp]; simp; exact ⟨rfl,rfl⟩)
 case hd=>
  rintro i ps hq hps
  refine dR ?_ hps
  rw [List.length_map] at hq
  subst hq
  rw [List.take_length]
  refine ag (fE (o6 3 rfl ((dF T).mono (by decide)) hr rfl T.m__law_corners T.F__law_corners.kp T.b__law_corners ay aq ⟨_,rfl,fun z hz=> by obtain ⟨p,hp,rfl⟩:=List.mem_map.mp hz; exact ⟨(iF sa sb sc se ss (sl p hp)).1.mono (by decide),(iF sa sb sc se ss (sl p hp)).2.mono (by decide)⟩,by rw [List.length_map]; exact ll,rfl⟩) ?_)
  exact rfl
end
section
variable {P:Program} {w:World} {K:PySem.W.Frag} {mg:Str→Option Value} {base:Heap}
def oB:List U→Out→Prop:=fun us o=> ∃ (ns:List Int) (A B:List P2),us=[.scr (ns.map U.int),lp (aa A),lp (aa B),.int (2 * mxd (aa A) (aa B))]∧ns.length≤63∧(∀ m∈ns,Sz 1048576 m)∧A≠[]∧B≠[]∧A.length≤20∧B.length≤20∧(∀ p∈A,Szp 140 p)∧(∀ p∈B,Szp 140 p)∧o=.val (.bl true)
theorem wz {A B:List P2} (An:A≠[]) (Bn:B≠[]) (al:A.length≤20) (bl:B.length≤20) (sA:∀ p∈A,Szp 140 p) (sB:∀ p∈B,Szp 140 p):Sz 400 (2 * mxd (aa A) (aa B)):=by
 have aN:=aG An
 have bN:=aG Bn
 have aL:=Nat.le_trans (cW A) al
 have bL:=Nat.le_trans (cW B) bl
 have cA:∀ p∈aa A,Szp 140 p:=fun p hp=> sA p (ar _ p hp)
 have cB:∀ p∈aa B,Szp 140 p:=fun p hp=> sB p (ar _ p hp)
 have h1:=iG cA (by omega)
 have h2:=iG cB (by omega)
 have h3:=iG (nC aN bN cA cB) (Nat.lt_of_le_of_lt (cW _) (by rw [gM]; omega))
 rw [← p7 An Bn]
 exact (L2.Sz.sub' (L2.Sz.sub' h3 h1) h2).mono (by decide)
def lV (k:Int) (p:P2):P2:=(k * p.1,k * p.2)
theorem uY (k:Int) (l:List P2):l.map (lV k)=l.map (scl k):=rfl
set_option maxHeartbeats 8000000 in
theorem jJ (T:Txt K mg):bE P w K mg base (CXF P w) 7 T.a__law_still T.d__law_still ["script","one","other","due"] (spU K (oB)):=by
 refine bU T.F__law_still aT (fun us o h=> ?_) (fun cdv A outer s H E O us o hr h=> ?_)
 ·obtain ⟨ns,A,B,rfl,hl,hB,An,Bn,al,bl,sA,sB,rfl⟩:=h
  rfl
 obtain ⟨ns,A,B,rfl,hl,hB,An,Bn,al,bl,sA,sB,rfl⟩:=h
 refine Ws.nox ?_
 have c1:=je hB (k:=1) (by decide) (by decide)
 have c2:=je hB (k:=2) (by decide) (by decide)
 have c3:=je hB (k:=3) (by decide) (by decide)
 have c23:Sz 1048576 (cel ns 2 / 3):=L2.Sz.ediv c2
 have big:Sz 240 (10 ^ (40:Int).toNat:Int):=by decide+kernel
 have bigp:(0:Int)≤10 ^ (40:Int).toNat:=by decide+kernel
 have mid:Sz 240 (10 ^ (20:Int).toNat:Int):=by decide+kernel
 have midp:(0:Int)≤10 ^ (20:Int).toNat:=by decide+kernel
 have m70:Sz 70 (10 ^ (20:Int).toNat:Int):=by decide+kernel
 have b140:Sz 140 (10 ^ (40:Int).toNat:Int):=by decide+kernel
 have aN:=aG An
 have bN:=aG Bn
 have aL:=Nat.le_trans (cW A) al
 have bL:=Nat.le_trans (cW B) bl
 have cA:∀ p∈aa A,Szp 150 p:=fun p hp=> ⟨(sA p (ar _ p hp)).1.mono (by decide),(sA p (ar _ p hp)).2.mono (by decide)⟩
 have cB:∀ p∈aa B,Szp 150 p:=fun p hp=> ⟨(sB p (ar _ p hp)).1.mono (by decide),(sB p (ar _ p hp)).2.mono (by decide)⟩
 have dz:=wz An Bn al bl sA sB
 have d0:0≤2 * mxd (aa A) (aa B):=by have:=fg (List.length_pos_iff.mpr aN) bN; omega
 refine ag (bu (i:=4) aT.nd rfl (Or.inl rfl) (aD ((cH T).mono (by decide)) hr rfl T.m__law_great T.F__law_great.kp T.b__law_great ay (ae (aD ((bb T).mono (by decide)) hr rfl T.m__law_cell T.F__law_cell.kp T.b__law_cell ay (ae (ac 0 rfl) (ae af aq aX) am) ⟨ns,_,rfl,hl,by decide,by decide,rfl⟩) (ae (jb af af ⟨by decide,by decide,by decide⟩) aq be) bp) ⟨_,_,rfl,c1,mid,midp,rfl⟩) ?_)
 refine ag (bu (i:=5) aT.nd rfl (Or.inl rfl) (aD ((cH T).mono (by decide)) hr rfl T.m__law_great T.F__law_great.kp T.b__law_great ay (ae (aD ((bb T).mono (by decide)) hr rfl T.m__law_cell T.F__law_cell.kp T.b__law_cell ay (ae (ac 0 rfl) (ae af aq aX) am) ⟨ns,_,rfl,hl,by decide,by decide,rfl⟩) (ae (jb af af ⟨by decide,by decide,by decide⟩) aq be) bp) ⟨_,_,rfl,c2,mid,midp,rfl⟩) ?_)
 have sm:Sz 70 (grt (cel ns 1) (10 ^ (20:Int).toNat)):=jn _ midp m70
 have sn:Sz 70 (grt (cel ns 2) (10 ^ (20:Int).toNat)):=jn _ midp m70
 generalize grt (cel ns 1) (10 ^ (20:Int).toNat)=m at *
 generalize grt (cel ns 2) (10 ^ (20:Int).toNat)=n at *
 have smn:Sz 150 (1+m * n):=(L2.Sz.add' (L2.Sz.lit (m:=8) (by decide)) (L2.Sz.mul sm sn)).mono (by decide)
 have sm':Sz 150 m:=sm.mono (by decide)
 have sn':Sz 150 n:=sn.mono (by decide)
 have s1':Sz 150 1:=Sz.mono (m:=8) (by decide) (by decide)
 refine ag (bu (i:=6) aT.nd rfl (Or.inl rfl) (cf (aA af (aA (ac 4 rfl) (aA (ac 5 rfl) (aA (dG af (bD (ac 4 rfl) (ac 5 rfl) (by walk_at "mul"))) cg be) am) am) aX)) ?_)
 refine hV (fun ps=> ∃ a b c e d:Int,a * e - b * c=d∧(d=1∨d=-1)∧(Sz 150 a∧Sz 150 b∧Sz 150 c∧Sz 150 e)∧SubP [some (.val (.scr (ns.map U.int))),some (.val (lp (aa A))),some (.val (lp (aa B))),some (.val (.int (2 * mxd (aa A) (aa B)))),some (.val (.int m)),some (.val (.int n)),some (.val (.tup [.int a,.int b,.int c,.int e])),none,none,none,none,none] ps) (lF (ba dy (eX (aD ((bb T).mono (by decide)) hr rfl T.m__law_cell T.F__law_cell.kp T.b__law_cell ay (ae (ac 0 rfl) (ae af aq aX) am) ⟨ns,_,rfl,hl,by decide,by decide,rfl⟩) af (by walk_at "mod")) af) (fun hT=> ?_) (fun hF=> (aZ ?_))) ?hj
 ·refine ag (bu (i:=6) aT.nd rfl (Or.inl rfl) (cf (aA (ac 5 rfl) (aA (dG af (bD (ac 4 rfl) (ac 5 rfl) (by walk_at "mul"))) (aA af (aA (ac 4 rfl) cg am) aX) be) am)) (aZ ?_))
  exact ⟨n,1+m * n,1,m,-1,by grind,.inr rfl,⟨sn',smn,s1',sm'⟩,rfl,rfl,rfl,rfl,rfl,rfl,rfl,trivial⟩
 ·exact ⟨1,m,n,1+m * n,1,by grind,.inl rfl,⟨s1',sm',sn',smn⟩,rfl,rfl,rfl,rfl,rfl,rfl,rfl,trivial⟩
 case hj=>
  rintro ps ⟨a,b,c,e,d,hd,od,⟨sa,sb,sc,se⟩,hps⟩
  refine dR ?_ hps
  have sh1:Sz 150 (grt (cel ns 2 / 3) (10 ^ (40:Int).toNat)):=(jn _ bigp b140).mono (by decide)
  have sh2:Sz 150 (cel ns 1 / 2 % 10 ^ (40:Int).toNat):=(L2.Sz.emod (by decide+kernel) b140).mono (by decide)
  refine ag (bu (i:=7) aT.nd rfl (Or.inl rfl) (EvN.ev (cE ((iz T).mono (by decide)) hr rfl T.m__law_put T.F__law_put.kp T.b__law_put ay (ae (ac 1 rfl) (ae (ac 6 rfl) (ae (aD ((cH T).mono (by decide)) hr rfl T.m__law_great T.F__law_great.kp T.b__law_great ay (ae (iq (aD ((bb T).mono (by decide)) hr rfl T.m__law_cell T.F__law_cell.kp T.b__law_cell ay (ae (ac 0 rfl) (ae af aq aX) am) ⟨ns,_,rfl,hl,by decide,by decide,rfl⟩) af (by walk_at "div")) (ae (jb af af ⟨by decide,by decide,by decide⟩) aq be) be) ⟨_,_,rfl,c23,big,bigp,rfl⟩) aq bp) am) am) ⟨_,_,_,_,_,_,rfl,by omega,cA,⟨sa,sb,sc,se,sh1⟩,rfl⟩)) ?_)
  refine ag (bu (i:=8) aT.nd rfl (Or.inl rfl) (EvN.ev (cE ((iz T).mono (by decide)) hr rfl T.m__law_put T.F__law_put.kp T.b__law_put ay (ae (ac 2 rfl) (ae (ac 6 rfl) (ae (eX (iq (aD ((bb T).mono (by decide)) hr rfl T.m__law_cell T.F__law_cell.kp T.b__law_cell ay (ae (ac 0 rfl) (ae af aq aX) am) ⟨ns,_,rfl,hl,by decide,by decide,rfl⟩) af (by walk_at "div")) (jb af af ⟨by decide,by decide,by decide⟩) (by decide+kernel)) aq be) am) am) ⟨_,_,_,_,_,_,rfl,by omega,cB,⟨sa,sb,sc,se,sh2⟩,rfl⟩)) ?_)
  generalize grt (cel ns 2 / 3) (10 ^ (40:Int).toNat)=t at *
  generalize cel ns 1 / 2 % 10 ^ (40:Int).toNat=u at *
  have fN:(aa A).map (gz a b c e t)≠[]:=fun z=> aN (List.map_eq_nil_iff.mp z)
  have nN:(aa B).map (gz a b c e u)≠[]:=fun z=> bN (List.map_eq_nil_iff.mp z)
  have fL:(aa ((aa A).map (gz a b c e t))).length≤20:=Nat.le_trans (cW _) (by rw [List.length_map]; exact aL)
  have nL:(aa ((aa B).map (gz a b c e u))).length≤20:=Nat.le_trans (cW _) (by rw [List.length_map]; exact bL)
  have fZ:∀ p∈aa ((aa A).map (gz a b c e t)),Szp 1200 p:=fun p hp=> by
   obtain ⟨q,hq,rfl⟩:=List.mem_map.mp (ar _ p hp)
   have:=iF sa sb sc se sh1 (cA q hq)
   exact ⟨this.1.mono (by decide),this.2.mono (by decide)⟩
  have nZ:∀ p∈aa ((aa B).map (gz a b c e u)),Szp 1200 p:=fun p hp=> by
   obtain ⟨q,hq,rfl⟩:=List.mem_map.mp (ar _ p hp)
   have:=iF sa sb sc se sh2 (cB q hq)
   exact ⟨this.1.mono (by decide),this.2.mono (by decide)⟩
  have g1:mix (aa ((aa A).map (gz a b c e t))) (aa ((aa B).map (gz a b c e u)))=2 * mxd (aa A) (aa B):=by
   unfold mix
   rw [oF,oF]
   exact tT An Bn hd od _ _
  show Ws _ _ _ _ _ _ [some (.val (.scr (ns.map U.int))),some (.val (lp (aa A))),some (.val (lp (aa B))),some (.val (.int (2 * mxd (aa A) (aa B)))),some (.val (.int m)),some (.val (.int n)),some (.val (.tup [.int a,.int b,.int c,.int e])),some (.val (lp (aa ((aa A).map (gz a b c e t))))),some (.val (lp (aa ((aa B).map (gz a b c e u))))),none,none,none]
  refine ag (eG (sF (pF (aD ((dI T).mono (by decide)) hr rfl T.m__law_good T.F__law_good.kp T.b__law_good ay (ae (aD ((gU T).mono (by decide)) hr rfl T.m_mixed T.F_mixed.kp T.b_mixed ay (ae (ac 7 rfl) (ae (ac 8 rfl) aq am) am) ⟨_,_,rfl,aG fN,aG nN,by omega,fZ,nZ,rfl⟩) (ae (ac 3 rfl) aq am) bp) ⟨_,_,rfl,g1,d0,rfl⟩))) rfl (aZ ?_))
  refine ag (bu (i:=9) aT.nd rfl (Or.inr rfl) (eX (aD ((bb T).mono (by decide)) hr rfl T.m__law_cell T.F__law_cell.kp T.b__law_cell ay (ae (ac 0 rfl) (ae af aq aX) am) ⟨ns,_,rfl,hl,by decide,by decide,rfl⟩) (jb af af ⟨by decide,by decide,by decide⟩) (by decide+kernel)) ?_)
  refine hV (fun ps=> ∃ k:Int,0≤k∧Sz 250 k∧SubP [some (.val (.scr (ns.map U.int))),some (.val (lp (aa A))),some (.val (lp (aa B))),some (.val (.int (2 * mxd (aa A) (aa B)))),none,none,none,none,none,some (.val (.int k)),none,none] ps) (lF (ba dy (eX (aD ((bb T).mono (by decide)) hr rfl T.m__law_cell T.F__law_cell.kp T.b__law_cell ay (ae (ac 0 rfl) (ae af aq aX) am) ⟨ns,_,rfl,hl,by decide,by decide,rfl⟩) af (by walk_at "mod")) af) (fun hT=> ?_) (fun hF=> (aZ ?_))) ?hj2
  ·refine ag (bu (i:=9) aT.nd rfl (Or.inr rfl) (eX (iq (aD ((bb T).mono (by decide)) hr rfl T.m__law_cell T.F__law_cell.kp T.b__law_cell ay (ae (ac 0 rfl) (ae af aq aX) am) ⟨ns,_,rfl,hl,by decide,by decide,rfl⟩) af (by walk_at "div")) af (by walk_at "mod")) (aZ ?_))
   exact ⟨cel ns 3 / 3 % 5,by omega,(L2.Sz.emod (m:=8) (by decide) (by decide)).mono (by decide),rfl,rfl,rfl,rfl,rfl,trivial⟩
  ·exact ⟨cel ns 3 % 10 ^ (60:Int).toNat,Int.emod_nonneg _ (by decide+kernel),L2.Sz.emod (by decide+kernel) (by decide+kernel),rfl,rfl,rfl,rfl,rfl,trivial⟩
  case hj2=>
   rintro ps ⟨k,k0,sk,hps⟩
   refine dR ?_ hps
   have kN:(aa A).map (lV k)≠[]:=fun z=> aN (List.map_eq_nil_iff.mp z)
   have kL:(aa ((aa A).map (lV k))).length≤20:=Nat.le_trans (cW _) (by rw [List.length_map]; exact aL)
   have kZ0:∀ p∈(aa A).map (lV k),Szp 400 p:=fun p hp=> by
    obtain ⟨q,hq,rfl⟩:=List.mem_map.mp hp
    exact ⟨L2.Sz.mul sk (cA q hq).1,L2.Sz.mul sk (cA q hq).2⟩
   have kZ:∀ p∈aa ((aa A).map (lV k)),Szp 1200 p:=fun p hp=> by
    have:=kZ0 p (ar _ p hp)
    exact ⟨this.1.mono (by decide),this.2.mono (by decide)⟩
   have g2:mix (aa ((aa A).map (lV k))) (aa B)=k * (2 * mxd (aa A) (aa B)):=by
    unfold mix
    rw [p7 kN Bn,uY,uC An bN k0]
    grind
   refine ag (ca (aD ((dI T).mono (by decide)) hr rfl T.m__law_good T.F__law_good.kp T.b__law_good ay (ae (aD ((gU T).mono (by decide)) hr rfl T.m_mixed T.F_mixed.kp T.b_mixed ay (ae (EvN.ev (cE ((dF T).mono (by decide)) hr rfl T.m__law_corners T.F__law_corners.kp T.b__law_corners ay (ae (EvN.ev (jz (ys:=((aa A).map fun p=> pu (lV k p))) rfl (blk (aj bR) ["script","one","other","due","m","n","move","far","near","k","x","y"] [10,11] rfl rfl rfl rfl (by decide+kernel)) (d4 (ac 1 rfl) (.inl rfl)) (fun _ _ _ _=> kQ rfl (b_ (bF (i:=10) aT.nd rfl (Or.inl rfl)) (b_ (bF (i:=11) aT.nd rfl (Or.inl rfl)) gT))) (kC (js:=[10,11]) (by decide)) ?clen ?csz ?dom ?celt)) aq ls) ⟨(aa A).map (lV k),by rw [lp,List.map_map]; rfl,eP (by decide) kZ0,by rw [List.length_map]; omega,rfl⟩)) (ae (ac 2 rfl) aq am) bp) ⟨_,_,rfl,aG kN,bN,by omega,kZ,eP (by decide) cB,rfl⟩) (ae (bD (ac 9 rfl) (ac 3 rfl) (by walk_at "mul")) aq be) bp) ⟨_,_,rfl,g2,Int.mul_nonneg k0 d0,rfl⟩) ?_)
   case clen=> simp
   case csz=> rw [List.length_map]; exact Nat.le_of_lt (bh (by omega))
   case dom=>
    intro x hx
    obtain ⟨i,hi⟩:=List.mem_iff_getElem?.mp hx
    obtain ⟨p,hp,mp,rfl⟩:=jZ hi
    exact ⟨_,rfl,rfl⟩
   case celt=>
    intro C s' H' fp j x y hx hy
    obtain ⟨p,hp,mp,rfl,rfl⟩:=iP hx hy
    have z1:=(cA p mp).1
    have z2:=(cA p mp).2
    exact (cf (aA (bD (ac 9 rfl) (ac 10 rfl) (by walk_at "mul")) (aA (bD (ac 9 rfl) (ac 11 rfl) (by walk_at "mul")) cg be) be))
   exact rfl
end
section
variable {P:Program} {w:World} {K:PySem.W.Frag} {mg:Str→Option Value} {base:Heap}
theorem jo (f:Nat→List P2):okU 9 (.lst (bH f))=true:=by
 have:∀ l:List P2,okU 8 (lp l)=true:=fun l=> rE fun _=> rfl
 rw [okU]
 show (okU 8 (lp (f 0)) && (okU 8 (lp (f 1)) && (okU 8 (lp (f 2)) && true)))=true
 rw [this,this,this]; rfl
theorem sf (f:Nat→List P2):eqW (.lst (bH f)) (.lst (bH f))=true:=lL 9 _ (jo f)
theorem fD (f:Nat→List P2) {r:Nat} (hr:r < 3) {k:Int} (e:k=(r:Int)):atI (bH f) k=some (lp (f r)):=lu e (mG f hr)
set_option maxHeartbeats 8000000 in
theorem xz (T:Txt K mg):bE P w K mg base (CXF P w) 8 T.a_law T.d_law ["script"] (spU K (gW)):=by
 refine bU T.F_law dC (fun us o h=> ?_) (fun cdv A outer s H E O us o hr h=> ?_)
 ·obtain ⟨ns,rfl,h63,hB,rfl⟩:=h
  rfl
 obtain ⟨ns,rfl,h63,hB,rfl⟩:=h
 refine Ws.nox ?_
 have ok:=fun (r:Nat) (hr:r < 3)=> vT ns hr
 refine ag (bu (i:=1) dC.nd rfl (Or.inl rfl) (EvN.ev (cE ((jI T).mono (by decide)) hr rfl T.m__law_lands T.F__law_lands.kp T.b__law_lands ay (ae (ac 0 rfl) aq am) ⟨ns,rfl,h63,hB,rfl⟩)) ?_)
 generalize Ld ns=L at *
 have cN:=fun (r:Nat) (hr:r < 3)=> aG (ok r hr).1
 have cL:=fun (r:Nat) (hr:r < 3)=> Nat.le_trans (cW (L r)) (ok r hr).2.1
 have cZ:=fun (n:Nat) (hn:140≤n) (r:Nat) (hr:r < 3)=> (fun p hp=> ⟨((ok r hr).2.2 p (ar _ p hp)).1.mono hn,((ok r hr).2.2 p (ar _ p hp)).2.mono hn⟩:∀ p∈aa (L r),Szp n p)
 have cD:=fun (r:Nat)=> av (L r)
 refine ag (qS (ys:=(bH fun r=> aa (L r))) (j:=2) false rfl dC.nd rfl (Or.inl rfl) (blk (aj ji) ["script","lands","handed","land","i","j","due","one","other","third"] [3] rfl rfl rfl rfl (by decide+kernel)) (d4 (ac 1 rfl) (.inl rfl)) (fun _ _ _ _=> bF (i:=3) dC.nd rfl (Or.inl rfl)) (jj (by decide)) ?clen ?csz (fun _ _=> trivial) ?celt ?_)
 case clen=> rfl
 case csz=> show 3≤sizeLine; decide
 case celt=>
  intro C s' H' fp j x y hx hy
  obtain ⟨hj,rfl⟩:=f_ hx
  obtain ⟨_,rfl⟩:=f_ hy
  exact (EvN.ev (vL (xg rfl) rfl T.z_list boot_list (ae (ac 3 rfl) aq am)))
 show Ws _ _ _ _ _ _ [some (.val (.scr (ns.map U.int))),some (.val (.lst (bH fun r=> aa (L r)))),some (.val (.lst (bH fun r=> aa (L r)))),none,none,none,none,none,none,none]
 refine ag (fe (fun _:Unit=> [some (.val (.scr (ns.map U.int))),some (.val (.lst (bH fun r=> aa (L r)))),some (.val (.lst (bH fun r=> aa (L r)))),none,none,none,none,none,none,none]) (fun _ _=> True) rfl PassesOwn.never (jt rfl T.z_range (ae af aq aX) (by omega) (by omega)) ?h0 ?hs ?hd)
 case h0=> exact ⟨(),trivial,rfl,rfl,rfl,trivial⟩
 case hs=>
  intro H0 i x _ hx _
  obtain ⟨hi,rfl⟩:=dj hx
  have hi':i < 3:=hi
  refine ⟨_,(fP (i:=4) dC.nd rfl (Or.inl rfl)),?_⟩
  refine ag (fe (fun _:Unit=> [some (.val (.scr (ns.map U.int))),some (.val (.lst (bH fun r=> aa (L r)))),some (.val (.lst (bH fun r=> aa (L r)))),none,some (.val (.int (0+(i:Int)))),none,none,none,none,none]) (fun _ _=> True) rfl PassesOwn.never (jt rfl T.z_range (ae af aq aX) (by omega) (by omega)) ?h02 ?hs2 ?hd2)
  case h02=> exact ⟨(),trivial,rfl,rfl,rfl,rfl,trivial⟩
  case hs2=>
   intro H1 j y _ hy _
   obtain ⟨hj,rfl⟩:=dj hy
   have hj':j < 3:=hj
   have g1:mix (aa (L i)) (aa (L j))=2 * mxd (aa (L i)) (aa (L j)):=p7 (ok i hi').1 (ok j hj').1
   have d0:0≤2 * mxd (aa (L i)) (aa (L j)):=by have:=fg (List.length_pos_iff.mpr (cN i hi')) (cN j hj'); omega
   have a1:=cL i hi'
   have a2:=cL j hj'
   refine ⟨_,(fP (i:=5) dC.nd rfl (Or.inl rfl)),?_⟩
   refine ag (bu (i:=6) dC.nd rfl (Or.inl rfl) (aD ((fU T).mono (by decide)) hr rfl T.m__law_due T.F__law_due.kp T.b__law_due ay (ae (a_ (ac 1 rfl) (ac 4 rfl) rfl (fD _ hi' (by omega))) (ae (a_ (ac 1 rfl) (ac 5 rfl) rfl (fD _ hj' (by omega))) aq ci) ci) ⟨aa (L i),aa (L j),rfl,cD i,cN j hj',by omega,by omega,cZ 300 (by decide) i hi',cZ 300 (by decide) j hj',rfl⟩) ?_)
   refine hV (fun ps=> SubP [some (.val (.scr (ns.map U.int))),some (.val (.lst (bH fun r=> aa (L r)))),some (.val (.lst (bH fun r=> aa (L r)))),none,some (.val (.int (0+(i:Int)))),some (.val (.int (0+(j:Int)))),some (.val (.int (2 * mxd (aa (L i)) (aa (L j))))),none,none,none] ps) (lF (ba (yg (gH hr) (by walk_at "ok") (by walk_at "ok")) (ac 4 rfl) (ac 5 rfl)) (fun hT=> ?_) (fun hF=> (aZ ?_))) ?hj
   ·have e:i=j:=by have:=dTb hT; omega
    subst e
    refine ag (bu (i:=6) dC.nd rfl (Or.inl rfl) (aD ((jP T).mono (by decide)) hr rfl T.m__law_twice T.F__law_twice.kp T.b__law_twice ay (ae (a_ (ac 1 rfl) (ac 4 rfl) rfl (fD _ hi' (by omega))) aq ci) ⟨aa (L i),rfl,cN i hi',by omega,cZ 300 (by decide) i hi',rfl⟩) (aZ ?_))
    refine ⟨rfl,rfl,rfl,rfl,rfl,?_,trivial⟩
    exact congrArg (fun z=> some (Sl.val (.int (2 * z)))) (sR (ok i hi').1).symm
   ·exact ⟨rfl,rfl,rfl,rfl,rfl,rfl,trivial⟩
   case hj=>
    intro ps hps
    refine dR ?_ hps
    refine ag (eG (Tw.t (zg (sF (pF (aD ((dI T).mono (by decide)) hr rfl T.m__law_good T.F__law_good.kp T.b__law_good ay (ae (aD ((gU T).mono (by decide)) hr rfl T.m_mixed T.F_mixed.kp T.b_mixed ay (ae (a_ (ac 2 rfl) (ac 4 rfl) rfl (fD _ hi' (by omega))) (ae (a_ (ac 2 rfl) (ac 5 rfl) rfl (fD _ hj' (by omega))) aq ci) ci) ⟨aa (L i),aa (L j),rfl,cN i hi',cN j hj',by omega,cZ 1200 (by decide) i hi',cZ 1200 (by decide) j hj',rfl⟩) (ae (ac 6 rfl) aq am) bp) ⟨_,_,rfl,g1,d0,rfl⟩))) (fun hz=> (x4 (ba (wY (gH hr) (jo _) (jo _)) (ac 2 rfl) (ac 1 rfl)))))) (show (!true || !eqW _ _)=false by rw [sf]; rfl) (aZ (aZ ?_)))
    exact ⟨(),trivial,rfl,rfl,rfl,rfl,trivial⟩
  case hd2=>
   intro _ ps _ hps
   refine aZ ?_
   exact ⟨(),trivial,SubP.trans (by exact ⟨rfl,rfl,rfl,trivial⟩) hps⟩
 case hd=>
  intro _ ps _ hps
  refine dR ?_ hps
  have l0:=cL 0 (by decide)
  have l1:=cL 1 (by decide)
  have l2:=cL 2 (by decide)
  have n0:=(ok 0 (by decide)).1
  have n1:=(ok 1 (by decide)).1
  have n2:=(ok 2 (by decide)).1
  have c0:=cN 0 (by decide)
  have c1:=cN 1 (by decide)
  have c2:=cN 2 (by decide)
  refine ag (xM (ac 1 rfl) (xS [7,8,9] rfl (b_ (bF (i:=7) dC.nd rfl (Or.inl rfl)) (b_ (bF (i:=8) dC.nd rfl (Or.inl rfl)) (b_ (bF (i:=9) dC.nd rfl (Or.inl rfl)) gT))) (.inl rfl) rfl) ?_)
  show Ws _ _ _ _ _ _ [some (.val (.scr (ns.map U.int))),some (.val (.lst (bH fun r=> aa (L r)))),some (.val (.lst (bH fun r=> aa (L r)))),none,none,none,none,some (.val (lp (aa (L 0)))),some (.val (lp (aa (L 1)))),some (.val (lp (aa (L 2))))]
  refine ag (bu (i:=6) dC.nd rfl (Or.inl rfl) (aD ((fU T).mono (by decide)) hr rfl T.m__law_due T.F__law_due.kp T.b__law_due ay (ae (ac 7 rfl) (ae (ac 8 rfl) aq am) am) ⟨aa (L 0),aa (L 1),rfl,cD 0,c1,by omega,by omega,cZ 300 (by decide) 0 (by decide),cZ 300 (by decide) 1 (by decide),rfl⟩) ?_)
  have sN:=kI c1 c2
  have tN:aa (tog (aa (L 1)) (aa (L 2)))≠[]:=by rw [g9 n1 n2]; exact aG sN
  have tL:(aa (tog (aa (L 1)) (aa (L 2)))).length≤40:=Nat.le_trans (cW _) (by rw [gM]; omega)
  have tZ:∀ p∈aa (tog (aa (L 1)) (aa (L 2))),Szp 1200 p:=eP (by decide) (nC c1 c2 (cZ 300 (by decide) 1 (by decide)) (cZ 300 (by decide) 2 (by decide)))
  have g2:mix (aa (L 0)) (aa (tog (aa (L 1)) (aa (L 2))))=2 * mxd (aa (L 0)) (aa (L 1))+2 * mxd (aa (L 0)) (aa (L 2)):=by
   unfold mix
   rw [g9 n1 n2,p7 n0 sN,uU c1 c2]
   omega
  have d1:=fg (List.length_pos_iff.mpr c0) c1
  have d2:=fg (List.length_pos_iff.mpr c0) c2
  refine ag (eG (sF (pF (aD ((dI T).mono (by decide)) hr rfl T.m__law_good T.F__law_good.kp T.b__law_good ay (ae (aD ((gU T).mono (by decide)) hr rfl T.m_mixed T.F_mixed.kp T.b_mixed ay (ae (ac 7 rfl) (ae (EvN.ev (cE ((iA T).mono (by decide)) hr rfl T.m_together T.F_together.kp T.b_together ay (ae (ac 8 rfl) (ae (ac 9 rfl) aq am) am) ⟨aa (L 1),aa (L 2),rfl,c1,c2,by omega,cZ 3000 (by decide) 1 (by decide),cZ 3000 (by decide) 2 (by decide),rfl⟩)) aq bp) am) ⟨aa (L 0),_,rfl,c0,tN,by omega,cZ 1200 (by decide) 0 (by decide),tZ,rfl⟩) (ae (dG (ac 6 rfl) (aD ((fU T).mono (by decide)) hr rfl T.m__law_due T.F__law_due.kp T.b__law_due ay (ae (ac 7 rfl) (ae (ac 9 rfl) aq am) am) ⟨aa (L 0),aa (L 2),rfl,cD 0,c2,by omega,by omega,cZ 300 (by decide) 0 (by decide),cZ 300 (by decide) 2 (by decide),rfl⟩)) aq be) bp) ⟨_,_,rfl,g2,by omega,rfl⟩))) rfl (aZ ?_))
  refine ag (ca (aD ((jJ T).mono (by decide)) hr rfl T.m__law_still T.F__law_still.kp T.b__law_still ay (ae (ac 0 rfl) (ae (ac 7 rfl) (ae (ac 8 rfl) (ae (ac 6 rfl) aq am) am) am) am) ⟨ns,L 0,L 1,rfl,h63,hB,n0,n1,(ok 0 (by decide)).2.1,(ok 1 (by decide)).2.1,(ok 0 (by decide)).2.2,(ok 1 (by decide)).2.2,rfl⟩) ?_)
  exact rfl
end
theorem ar1 {p:List Value→Prop} {us:List Value} (h:us.length=1) (q:∀ a0,p [a0]):p us:=match us,h with | [a0],_=> q a0
theorem ar2 {p:List Value→Prop} {us:List Value} (h:us.length=2) (q:∀ a0 a1,p [a0,a1]):p us:=match us,h with | [a0,a1],_=> q a0 a1
theorem ar3 {p:List Value→Prop} {us:List Value} (h:us.length=3) (q:∀ a0 a1 a2,p [a0,a1,a2]):p us:=match us,h with | [a0,a1,a2],_=> q a0 a1 a2
theorem ar4 {p:List Value→Prop} {us:List Value} (h:us.length=4) (q:∀ a0 a1 a2 a3,p [a0,a1,a2,a3]):p us:=match us,h with | [a0,a1,a2,a3],_=> q a0 a1 a2 a3
set_option maxHeartbeats 8000000 in
theorem txt_mk {K:PySem.W.Frag} {h:Heap} {mg:Str→Option Value} {fa f0 f1 f2 f3 f4 f5 f6 f7 f8 f9 f10 f11 f12 f13 f14 f15 f16 f17 f18 f19 f20 f21 f22 f23 f24 c_NoField:Addr} (X:K.In h) (G:h.Ns mainGlobals mg) (hfa:mg "law"=some (.ref fa))
  {od0 an0 od1 an1 od2 an2 od3 an3 od4 an4 od5 an5 od6 an6 od7 an7 od8 an8 od9 an9 od10 an10 od11 an11 od12 an12 od13 an13 od14 an14 od15 an15 od16 an16 od17 an17 od18 an18 od19 an19 od20 an20 od21 an21 od22 an22 od23 an23 od24 an24:Option Addr} {sl0 sl1 sl2 sl3 sl4 sl5 sl6 sl7 sl8 sl9 sl10 sl11 sl12 sl13 sl14 sl15 sl16 sl17 sl18 sl19 sl20 sl21 sl22 sl23 sl24:Array (Option Value)} {oc0 kV0 dc0 pm0 cd0 ct0 oc1 kV1 dc1 pm1 cd1 ct1 oc2 kV2 dc2 pm2 cd2 ct2 oc3 kV3 dc3 pm3 cd3 ct3 oc4 kV4 dc4 pm4 cd4 ct4 oc5 kV5 dc5 pm5 cd5 ct5 oc6 kV6 dc6 pm6 cd6 ct6 oc7 kV7 dc7 pm7 cd7 ct7 oc8 kV8 dc8 pm8 cd8 ct8 oc9 kV9 dc9 pm9 cd9 ct9 oc10 kV10 dc10 pm10 cd10 ct10 oc11 kV11 dc11 pm11 cd11 ct11 oc12 kV12 dc12 pm12 cd12 ct12 oc13 kV13 dc13 pm13 cd13 ct13 oc14 kV14 dc14 pm14 cd14 ct14 oc15 kV15 dc15 pm15 cd15 ct15 oc16 kV16 dc16 pm16 cd16 ct16 oc17 kV17 dc17 pm17 cd17 ct17 oc18 kV18 dc18 pm18 cd18 ct18 oc19 kV19 dc19 pm19 cd19 ct19 oc20 kV20 dc20 pm20 cd20 ct20 oc21 kV21 dc21 pm21 cd21 ct21 oc22 kV22 dc22 pm22 cd22 ct22 oc23 kV23 dc23 pm23 cd23 ct23 oc24 kV24 dc24 pm24 cd24 ct24:Value}
  (a0:PySem.W.nsIn K mainGlobals "sign"=some (some (.ref f0))) (l0:K.lookup f0=some ⟨oc0,od0,.func (PySem.W.fnOf "sign" "sign" (aE ie) (aC ie) (aj ie) .none kV0 dc0 pm0 an0 cd0 ct0),sl0⟩) (c0:PySem.W.codeIn K cd0 "sign"=true) (k0:PySem.W.keepIn K (.ref f0)=true)
  (a1:PySem.W.nsIn K mainGlobals "turn"=some (some (.ref f1))) (l1:K.lookup f1=some ⟨oc1,od1,.func (PySem.W.fnOf "turn" "turn" (aE ic) (aC ic) (aj ic) .none kV1 dc1 pm1 an1 cd1 ct1),sl1⟩) (c1:PySem.W.codeIn K cd1 "turn"=true) (k1:PySem.W.keepIn K (.ref f1)=true)
  (a2:PySem.W.nsIn K mainGlobals "left_bends"=some (some (.ref f2))) (l2:K.lookup f2=some ⟨oc2,od2,.func (PySem.W.fnOf "left_bends" "left_bends" (aE cx) (aC cx) (aj cx) .none kV2 dc2 pm2 an2 cd2 ct2),sl2⟩) (c2:PySem.W.codeIn K cd2 "left_bends"=true) (k2:PySem.W.keepIn K (.ref f2)=true)
  (a3:PySem.W.nsIn K mainGlobals "field"=some (some (.ref f3))) (l3:K.lookup f3=some ⟨oc3,od3,.func (PySem.W.fnOf "field" "field" (aE ge) (aC ge) (aj ge) .none kV3 dc3 pm3 an3 cd3 ct3),sl3⟩) (c3:PySem.W.codeIn K cd3 "field"=true) (k3:PySem.W.keepIn K (.ref f3)=true)
  (a4:PySem.W.nsIn K mainGlobals "sides"=some (some (.ref f4))) (l4:K.lookup f4=some ⟨oc4,od4,.func (PySem.W.fnOf "sides" "sides" (aE gh) (aC gh) (aj gh) .none kV4 dc4 pm4 an4 cd4 ct4),sl4⟩) (c4:PySem.W.codeIn K cd4 "sides"=true) (k4:PySem.W.keepIn K (.ref f4)=true)
  (a5:PySem.W.nsIn K mainGlobals "double_area"=some (some (.ref f5))) (l5:K.lookup f5=some ⟨oc5,od5,.func (PySem.W.fnOf "double_area" "double_area" (aE bC) (aC bC) (aj bC) .none kV5 dc5 pm5 an5 cd5 ct5),sl5⟩) (c5:PySem.W.codeIn K cd5 "double_area"=true) (k5:PySem.W.keepIn K (.ref f5)=true)
  (a6:PySem.W.nsIn K mainGlobals "plus"=some (some (.ref f6))) (l6:K.lookup f6=some ⟨oc6,od6,.func (PySem.W.fnOf "plus" "plus" (aE hU) (aC hU) (aj hU) .none kV6 dc6 pm6 an6 cd6 ct6),sl6⟩) (c6:PySem.W.codeIn K cd6 "plus"=true) (k6:PySem.W.keepIn K (.ref f6)=true)
  (a7:PySem.W.nsIn K mainGlobals "ways"=some (some (.ref f7))) (l7:K.lookup f7=some ⟨oc7,od7,.func (PySem.W.fnOf "ways" "ways" (aE gx) (aC gx) (aj gx) .none kV7 dc7 pm7 an7 cd7 ct7),sl7⟩) (c7:PySem.W.codeIn K cd7 "ways"=true) (k7:PySem.W.keepIn K (.ref f7)=true)
  (a8:PySem.W.nsIn K mainGlobals "no_later"=some (some (.ref f8))) (l8:K.lookup f8=some ⟨oc8,od8,.func (PySem.W.fnOf "no_later" "no_later" (aE dl) (aC dl) (aj dl) .none kV8 dc8 pm8 an8 cd8 ct8),sl8⟩) (c8:PySem.W.codeIn K cd8 "no_later"=true) (k8:PySem.W.keepIn K (.ref f8)=true)
  (a9:PySem.W.nsIn K mainGlobals "in_turn"=some (some (.ref f9))) (l9:K.lookup f9=some ⟨oc9,od9,.func (PySem.W.fnOf "in_turn" "in_turn" (aE dM) (aC dM) (aj dM) .none kV9 dc9 pm9 an9 cd9 ct9),sl9⟩) (c9:PySem.W.codeIn K cd9 "in_turn"=true) (k9:PySem.W.keepIn K (.ref f9)=true)
  (a10:PySem.W.nsIn K mainGlobals "together"=some (some (.ref f10))) (l10:K.lookup f10=some ⟨oc10,od10,.func (PySem.W.fnOf "together" "together" (aE dm) (aC dm) (aj dm) .none kV10 dc10 pm10 an10 cd10 ct10),sl10⟩) (c10:PySem.W.codeIn K cd10 "together"=true) (k10:PySem.W.keepIn K (.ref f10)=true)
  (a11:PySem.W.nsIn K mainGlobals "mixed"=some (some (.ref f11))) (l11:K.lookup f11=some ⟨oc11,od11,.func (PySem.W.fnOf "mixed" "mixed" (aE gg) (aC gg) (aj gg) .none kV11 dc11 pm11 an11 cd11 ct11),sl11⟩) (c11:PySem.W.codeIn K cd11 "mixed"=true) (k11:PySem.W.keepIn K (.ref f11)=true)
  (a12:PySem.W.nsIn K mainGlobals "_law_cell"=some (some (.ref f12))) (l12:K.lookup f12=some ⟨oc12,od12,.func (PySem.W.fnOf "_law_cell" "_law_cell" (aE cV) (aC cV) (aj cV) .none kV12 dc12 pm12 an12 cd12 ct12),sl12⟩) (c12:PySem.W.codeIn K cd12 "_law_cell"=true) (k12:PySem.W.keepIn K (.ref f12)=true)
  (a13:PySem.W.nsIn K mainGlobals "_law_side"=some (some (.ref f13))) (l13:K.lookup f13=some ⟨oc13,od13,.func (PySem.W.fnOf "_law_side" "_law_side" (aE cR) (aC cR) (aj cR) .none kV13 dc13 pm13 an13 cd13 ct13),sl13⟩) (c13:PySem.W.codeIn K cd13 "_law_side"=true) (k13:PySem.W.keepIn K (.ref f13)=true)
  (a14:PySem.W.nsIn K mainGlobals "_law_half"=some (some (.ref f14))) (l14:K.lookup f14=some ⟨oc14,od14,.func (PySem.W.fnOf "_law_half" "_law_half" (aE cQ) (aC cQ) (aj cQ) .none kV14 dc14 pm14 an14 cd14 ct14),sl14⟩) (c14:PySem.W.codeIn K cd14 "_law_half"=true) (k14:PySem.W.keepIn K (.ref f14)=true)
  (a15:PySem.W.nsIn K mainGlobals "_law_corners"=some (some (.ref f15))) (l15:K.lookup f15=some ⟨oc15,od15,.func (PySem.W.fnOf "_law_corners" "_law_corners" (aE bI) (aC bI) (aj bI) .none kV15 dc15 pm15 an15 cd15 ct15),sl15⟩) (c15:PySem.W.codeIn K cd15 "_law_corners"=true) (k15:PySem.W.keepIn K (.ref f15)=true)
  (a16:PySem.W.nsIn K mainGlobals "_law_great"=some (some (.ref f16))) (l16:K.lookup f16=some ⟨oc16,od16,.func (PySem.W.fnOf "_law_great" "_law_great" (aE cn) (aC cn) (aj cn) .none kV16 dc16 pm16 an16 cd16 ct16),sl16⟩) (c16:PySem.W.codeIn K cd16 "_law_great"=true) (k16:PySem.W.keepIn K (.ref f16)=true)
  (a17:PySem.W.nsIn K mainGlobals "_law_point"=some (some (.ref f17))) (l17:K.lookup f17=some ⟨oc17,od17,.func (PySem.W.fnOf "_law_point" "_law_point" (aE cq) (aC cq) (aj cq) .none kV17 dc17 pm17 an17 cd17 ct17),sl17⟩) (c17:PySem.W.codeIn K cd17 "_law_point"=true) (k17:PySem.W.keepIn K (.ref f17)=true)
  (a18:PySem.W.nsIn K mainGlobals "_law_lands"=some (some (.ref f18))) (l18:K.lookup f18=some ⟨oc18,od18,.func (PySem.W.fnOf "_law_lands" "_law_lands" (aE bP) (aC bP) (aj bP) .none kV18 dc18 pm18 an18 cd18 ct18),sl18⟩) (c18:PySem.W.codeIn K cd18 "_law_lands"=true) (k18:PySem.W.keepIn K (.ref f18)=true)
  (a19:PySem.W.nsIn K mainGlobals "_law_due"=some (some (.ref f19))) (l19:K.lookup f19=some ⟨oc19,od19,.func (PySem.W.fnOf "_law_due" "_law_due" (aE cP) (aC cP) (aj cP) .none kV19 dc19 pm19 an19 cd19 ct19),sl19⟩) (c19:PySem.W.codeIn K cd19 "_law_due"=true) (k19:PySem.W.keepIn K (.ref f19)=true)
  (a20:PySem.W.nsIn K mainGlobals "_law_twice"=some (some (.ref f20))) (l20:K.lookup f20=some ⟨oc20,od20,.func (PySem.W.fnOf "_law_twice" "_law_twice" (aE cw) (aC cw) (aj cw) .none kV20 dc20 pm20 an20 cd20 ct20),sl20⟩) (c20:PySem.W.codeIn K cd20 "_law_twice"=true) (k20:PySem.W.keepIn K (.ref f20)=true)
  (a21:PySem.W.nsIn K mainGlobals "_law_good"=some (some (.ref f21))) (l21:K.lookup f21=some ⟨oc21,od21,.func (PySem.W.fnOf "_law_good" "_law_good" (aE cU) (aC cU) (aj cU) .none kV21 dc21 pm21 an21 cd21 ct21),sl21⟩) (c21:PySem.W.codeIn K cd21 "_law_good"=true) (k21:PySem.W.keepIn K (.ref f21)=true)
  (a22:PySem.W.nsIn K mainGlobals "_law_put"=some (some (.ref f22))) (l22:K.lookup f22=some ⟨oc22,od22,.func (PySem.W.fnOf "_law_put" "_law_put" (aE di) (aC di) (aj di) .none kV22 dc22 pm22 an22 cd22 ct22),sl22⟩) (c22:PySem.W.codeIn K cd22 "_law_put"=true) (k22:PySem.W.keepIn K (.ref f22)=true)
  (a23:PySem.W.nsIn K mainGlobals "_law_still"=some (some (.ref f23))) (l23:K.lookup f23=some ⟨oc23,od23,.func (PySem.W.fnOf "_law_still" "_law_still" (aE bR) (aC bR) (aj bR) .none kV23 dc23 pm23 an23 cd23 ct23),sl23⟩) (c23:PySem.W.codeIn K cd23 "_law_still"=true) (k23:PySem.W.keepIn K (.ref f23)=true)
  (a24:PySem.W.nsIn K mainGlobals "law"=some (some (.ref f24))) (l24:K.lookup f24=some ⟨oc24,od24,.func (PySem.W.fnOf "law" "law" (aE ji) (aC ji) (aj ji) .none kV24 dc24 pm24 an24 cd24 ct24),sl24⟩) (c24:PySem.W.codeIn K cd24 "law"=true) (k24:PySem.W.keepIn K (.ref f24)=true)
  (e_NoField:PySem.W.nsIn K mainGlobals "NoField"=some (some (.ref c_NoField))) (x_NoField:PySem.W.excIn K c_NoField [.type "ValueError",.type "Exception",.type "BaseException",.type "object"] "ValueError.__new__"=true)
  (z_bool:PySem.W.nsIn K mainGlobals "bool"=some none)
  (z_int:PySem.W.nsIn K mainGlobals "int"=some none)
  (z_isinstance:PySem.W.nsIn K mainGlobals "isinstance"=some none)
  (z_len:PySem.W.nsIn K mainGlobals "len"=some none)
  (z_list:PySem.W.nsIn K mainGlobals "list"=some none)
  (z_max:PySem.W.nsIn K mainGlobals "max"=some none)
  (z_min:PySem.W.nsIn K mainGlobals "min"=some none)
  (z_range:PySem.W.nsIn K mainGlobals "range"=some none)
  (z_reversed:PySem.W.nsIn K mainGlobals "reversed"=some none)
  (z_set:PySem.W.nsIn K mainGlobals "set"=some none)
  (z_sorted:PySem.W.nsIn K mainGlobals "sorted"=some none)
  (z_sum:PySem.W.nsIn K mainGlobals "sum"=some none)
  (z_zip:PySem.W.nsIn K mainGlobals "zip"=some none)
  :∃ T:Txt K mg,T.a_law=fa∧(∀ (s:Shared) (v:Value),BindsTo s T.d_law ⟨[v],[]⟩ [("script",v)]):=by
 have e:=hfa.symm.trans (PySem.W.mg_of X G a24)
 cases e
 have F0:=bi (st:=ie) l0 c0 k0
 have b0:=F0.binds (ps:=["number"]) fun _ _ _ _ _ _ us hl=> ar1 (p:=fun us=> bindArgs _ ⟨us,[]⟩=pure (List.zip _ us)) hl fun _=> rfl
 have F1:=bi (st:=ic) l1 c1 k1
 have b1:=F1.binds (ps:=["P","Q","R"]) fun _ _ _ _ _ _ us hl=> ar3 (p:=fun us=> bindArgs _ ⟨us,[]⟩=pure (List.zip _ us)) hl fun _ _ _=> rfl
 have F2:=bi (st:=cx) l2 c2 k2
 have b2:=F2.binds (ps:=["row"]) fun _ _ _ _ _ _ us hl=> ar1 (p:=fun us=> bindArgs _ ⟨us,[]⟩=pure (List.zip _ us)) hl fun _=> rfl
 have F3:=bi (st:=ge) l3 c3 k3
 have b3:=F3.binds (ps:=["points"]) fun _ _ _ _ _ _ us hl=> ar1 (p:=fun us=> bindArgs _ ⟨us,[]⟩=pure (List.zip _ us)) hl fun _=> rfl
 have F4:=bi (st:=gh) l4 c4 k4
 have b4:=F4.binds (ps:=["land"]) fun _ _ _ _ _ _ us hl=> ar1 (p:=fun us=> bindArgs _ ⟨us,[]⟩=pure (List.zip _ us)) hl fun _=> rfl
 have F5:=bi (st:=bC) l5 c5 k5
 have b5:=F5.binds (ps:=["land"]) fun _ _ _ _ _ _ us hl=> ar1 (p:=fun us=> bindArgs _ ⟨us,[]⟩=pure (List.zip _ us)) hl fun _=> rfl
 have F6:=bi (st:=hU) l6 c6 k6
 have b6:=F6.binds (ps:=["P","Q"]) fun _ _ _ _ _ _ us hl=> ar2 (p:=fun us=> bindArgs _ ⟨us,[]⟩=pure (List.zip _ us)) hl fun _ _=> rfl
 have F7:=bi (st:=gx) l7 c7 k7
 have b7:=F7.binds (ps:=["land"]) fun _ _ _ _ _ _ us hl=> ar1 (p:=fun us=> bindArgs _ ⟨us,[]⟩=pure (List.zip _ us)) hl fun _=> rfl
 have F8:=bi (st:=dl) l8 c8 k8
 have b8:=F8.binds (ps:=["way","other_way"]) fun _ _ _ _ _ _ us hl=> ar2 (p:=fun us=> bindArgs _ ⟨us,[]⟩=pure (List.zip _ us)) hl fun _ _=> rfl
 have F9:=bi (st:=dM) l9 c9 k9
 have b9:=F9.binds (ps:=["some","others"]) fun _ _ _ _ _ _ us hl=> ar2 (p:=fun us=> bindArgs _ ⟨us,[]⟩=pure (List.zip _ us)) hl fun _ _=> rfl
 have F10:=bi (st:=dm) l10 c10 k10
 have b10:=F10.binds (ps:=["one","other"]) fun _ _ _ _ _ _ us hl=> ar2 (p:=fun us=> bindArgs _ ⟨us,[]⟩=pure (List.zip _ us)) hl fun _ _=> rfl
 have F11:=bi (st:=gg) l11 c11 k11
 have b11:=F11.binds (ps:=["one","other"]) fun _ _ _ _ _ _ us hl=> ar2 (p:=fun us=> bindArgs _ ⟨us,[]⟩=pure (List.zip _ us)) hl fun _ _=> rfl
 have F12:=bi (st:=cV) l12 c12 k12
 have b12:=F12.binds (ps:=["script","k"]) fun _ _ _ _ _ _ us hl=> ar2 (p:=fun us=> bindArgs _ ⟨us,[]⟩=pure (List.zip _ us)) hl fun _ _=> rfl
 have F13:=bi (st:=cR) l13 c13 k13
 have b13:=F13.binds (ps:=["a","b","p"]) fun _ _ _ _ _ _ us hl=> ar3 (p:=fun us=> bindArgs _ ⟨us,[]⟩=pure (List.zip _ us)) hl fun _ _ _=> rfl
 have F14:=bi (st:=cQ) l14 c14 k14
 have b14:=F14.binds (ps:=["points"]) fun _ _ _ _ _ _ us hl=> ar1 (p:=fun us=> bindArgs _ ⟨us,[]⟩=pure (List.zip _ us)) hl fun _=> rfl
 have F15:=bi (st:=bI) l15 c15 k15
 have b15:=F15.binds (ps:=["points"]) fun _ _ _ _ _ _ us hl=> ar1 (p:=fun us=> bindArgs _ ⟨us,[]⟩=pure (List.zip _ us)) hl fun _=> rfl
 have F16:=bi (st:=cn) l16 c16 k16
 have b16:=F16.binds (ps:=["cell","most"]) fun _ _ _ _ _ _ us hl=> ar2 (p:=fun us=> bindArgs _ ⟨us,[]⟩=pure (List.zip _ us)) hl fun _ _=> rfl
 have F17:=bi (st:=cq) l17 c17 k17
 have b17:=F17.binds (ps:=["cell","way"]) fun _ _ _ _ _ _ us hl=> ar2 (p:=fun us=> bindArgs _ ⟨us,[]⟩=pure (List.zip _ us)) hl fun _ _=> rfl
 have F18:=bi (st:=bP) l18 c18 k18
 have b18:=F18.binds (ps:=["script"]) fun _ _ _ _ _ _ us hl=> ar1 (p:=fun us=> bindArgs _ ⟨us,[]⟩=pure (List.zip _ us)) hl fun _=> rfl
 have F19:=bi (st:=cP) l19 c19 k19
 have b19:=F19.binds (ps:=["one","other"]) fun _ _ _ _ _ _ us hl=> ar2 (p:=fun us=> bindArgs _ ⟨us,[]⟩=pure (List.zip _ us)) hl fun _ _=> rfl
 have F20:=bi (st:=cw) l20 c20 k20
 have b20:=F20.binds (ps:=["land"]) fun _ _ _ _ _ _ us hl=> ar1 (p:=fun us=> bindArgs _ ⟨us,[]⟩=pure (List.zip _ us)) hl fun _=> rfl
 have F21:=bi (st:=cU) l21 c21 k21
 have b21:=F21.binds (ps:=["found","due"]) fun _ _ _ _ _ _ us hl=> ar2 (p:=fun us=> bindArgs _ ⟨us,[]⟩=pure (List.zip _ us)) hl fun _ _=> rfl
 have F22:=bi (st:=di) l22 c22 k22
 have b22:=F22.binds (ps:=["land","move","shift"]) fun _ _ _ _ _ _ us hl=> ar3 (p:=fun us=> bindArgs _ ⟨us,[]⟩=pure (List.zip _ us)) hl fun _ _ _=> rfl
 have F23:=bi (st:=bR) l23 c23 k23
 have b23:=F23.binds (ps:=["script","one","other","due"]) fun _ _ _ _ _ _ us hl=> ar4 (p:=fun us=> bindArgs _ ⟨us,[]⟩=pure (List.zip _ us)) hl fun _ _ _ _=> rfl
 have F24:=bi (st:=ji) l24 c24 k24
 have b24:=F24.binds (ps:=["script"]) fun _ _ _ _ _ _ us hl=> ar1 (p:=fun us=> bindArgs _ ⟨us,[]⟩=pure (List.zip _ us)) hl fun _=> rfl
 exact ⟨⟨_,_,F0,b0,PySem.W.mg_of X G a0,_,_,F1,b1,PySem.W.mg_of X G a1,_,_,F2,b2,PySem.W.mg_of X G a2,_,_,F3,b3,PySem.W.mg_of X G a3,_,_,F4,b4,PySem.W.mg_of X G a4,_,_,F5,b5,PySem.W.mg_of X G a5,_,_,F6,b6,PySem.W.mg_of X G a6,_,_,F7,b7,PySem.W.mg_of X G a7,_,_,F8,b8,PySem.W.mg_of X G a8,_,_,F9,b9,PySem.W.mg_of X G a9,_,_,F10,b10,PySem.W.mg_of X G a10,_,_,F11,b11,PySem.W.mg_of X G a11,_,_,F12,b12,PySem.W.mg_of X G a12,_,_,F13,b13,PySem.W.mg_of X G a13,_,_,F14,b14,PySem.W.mg_of X G a14,_,_,F15,b15,PySem.W.mg_of X G a15,_,_,F16,b16,PySem.W.mg_of X G a16,_,_,F17,b17,PySem.W.mg_of X G a17,_,_,F18,b18,PySem.W.mg_of X G a18,_,_,F19,b19,PySem.W.mg_of X G a19,_,_,F20,b20,PySem.W.mg_of X G a20,_,_,F21,b21,PySem.W.mg_of X G a21,_,_,F22,b22,PySem.W.mg_of X G a22,_,_,F23,b23,PySem.W.mg_of X G a23,_,_,F24,b24,PySem.W.mg_of X G a24,_,x_NoField,PySem.W.mg_of X G e_NoField,PySem.W.mg_none_of X G z_bool,PySem.W.mg_none_of X G z_int,PySem.W.mg_none_of X G z_isinstance,PySem.W.mg_none_of X G z_len,PySem.W.mg_none_of X G z_list,PySem.W.mg_none_of X G z_max,PySem.W.mg_none_of X G z_min,PySem.W.mg_none_of X G z_range,PySem.W.mg_none_of X G z_reversed,PySem.W.mg_none_of X G z_set,PySem.W.mg_none_of X G z_sorted,PySem.W.mg_none_of X G z_sum,PySem.W.mg_none_of X G z_zip⟩,rfl,fun s v=> .of_eq rfl⟩
abbrev spLaw (K:PySem.W.Frag):Sp:=spU K gW
theorem law_start (K:PySem.W.Frag) (H:Hp) (a:Addr) (ns:List Int) (h1:ns.length≤63) (h2:∀ m∈ns,Sz 1048576 m) (_:ve H) (h3:SqL K H a (ns.map V.int)):spLaw K [.ref a] H (fun v _=> v=.bl true) fun _ _ _=> False:=qP h1 h2 h3
theorem law_ok {P:Program} {w:World} {K:PySem.W.Frag} {mg:Str→Option Value} {fa:Addr} (h:∃ T:Txt K mg,T.a_law=fa∧(∀ (s:Shared) (v:Value),BindsTo s T.d_law ⟨[v],[]⟩ [("script",v)])):
  ∃ fd:FuncData,(∀ (s:Shared) (u:Value),BindsTo s fd ⟨[u],[]⟩ [("script",u)])∧∀ base:Heap,K.In base→base.Ns mainGlobals mg→bE P w K mg base CX0 8 fa fd ["script"] (spLaw K):=by
 obtain ⟨T,rfl,hb⟩:=h
 exact ⟨T.d_law,hb,fun base _ _=> (xz T).calm tW⟩
end My
def PySem.W.Fast.tw681644881448742074:Unit:=()
def PySem.W.Fast.tw10633573908117685641:Unit:=()
def PySem.W.Fast.tw13473840430833505907:Unit:=()
def PySem.W.Fast.tw5838153346018362066:Unit:=()
def PySem.W.Fast.tw6963019981411547532:Unit:=()
def PySem.W.Fast.tw855011269592390625:Unit:=()
def PySem.W.Fast.tw11490521170680196709:Unit:=()
def PySem.W.Fast.tw4875315624598908432:Unit:=()
def PySem.W.Fast.tw15682247736490970865:Unit:=()
def PySem.W.Fast.tw8162548429273690019:Unit:=()
def PySem.W.Fast.tw8691959296497391067:Unit:=()
def PySem.W.Fast.tw4298083487622026846:Unit:=()
def PySem.W.Fast.tw13806959522894367124:Unit:=()
def PySem.W.Fast.tw13238350367469428162:Unit:=()
def PySem.W.Fast.tw14939715263820859861:Unit:=()
def PySem.W.Fast.tw6578913655781484878:Unit:=()
open PySem PySem.W PyProof.Rows L2
set_option maxRecDepth 100000 in
set_option maxHeartbeats 0 in
theorem PySem.Challenge.cw_stakefield_k19_whole_mixed_holds : PySem.Challenge.rw_stakefield_k19_whole_mixed.Holds := by
 w_on; o_law; k_head; (case hw=> w_witness2)
 k_fill
 refine L2.walk_ofB (l:=PySem.Challenge.rw_stakefield_k19_whole_mixed) (n:=63) (k:=8) (x:="script") (CX:=CX0) (sp:=My.spLaw) rfl (by decide) rfl ⟨rfl,by decide,by decide⟩ (fun w h Y=> by first | exact PySem.W.kIn_of Y | exact PySem.W.km_in_of Y) ?F My.law_start (fun _ _ _ _ z=> z)
 case F=>
  intro w mg fa h KX G hmg
  refine My.law_ok ?T
  refine' My.txt_mk KX G hmg ?a0 ?l0 ?c0 ?k0 ?a1 ?l1 ?c1 ?k1 ?a2 ?l2 ?c2 ?k2 ?a3 ?l3 ?c3 ?k3 ?a4 ?l4 ?c4 ?k4 ?a5 ?l5 ?c5 ?k5 ?a6 ?l6 ?c6 ?k6 ?a7 ?l7 ?c7 ?k7 ?a8 ?l8 ?c8 ?k8 ?a9 ?l9 ?c9 ?k9 ?a10 ?l10 ?c10 ?k10 ?a11 ?l11 ?c11 ?k11 ?a12 ?l12 ?c12 ?k12 ?a13 ?l13 ?c13 ?k13 ?a14 ?l14 ?c14 ?k14 ?a15 ?l15 ?c15 ?k15 ?a16 ?l16 ?c16 ?k16 ?a17 ?l17 ?c17 ?k17 ?a18 ?l18 ?c18 ?k18 ?a19 ?l19 ?c19 ?k19 ?a20 ?l20 ?c20 ?k20 ?a21 ?l21 ?c21 ?k21 ?a22 ?l22 ?c22 ?k22 ?a23 ?l23 ?c23 ?k23 ?a24 ?l24 ?c24 ?k24 ?e_NoField ?x_NoField ?z_bool ?z_int ?z_isinstance ?z_len ?z_list ?z_max ?z_min ?z_range ?z_reversed ?z_set ?z_sorted ?z_sum ?z_zip  
  (case a0=> k_is); (case l0=> k_is); (case c0=> k_is); (case k0=> k_is)
  (case a1=> k_is); (case l1=> k_is); (case c1=> k_is); (case k1=> k_is)
  (case a2=> k_is); (case l2=> k_is); (case c2=> k_is); (case k2=> k_is)
  (case a3=> k_is); (case l3=> k_is); (case c3=> k_is); (case k3=> k_is)
  (case a4=> k_is); (case l4=> k_is); (case c4=> k_is); (case k4=> k_is)
  (case a5=> k_is); (case l5=> k_is); (case c5=> k_is); (case k5=> k_is)
  (case a6=> k_is); (case l6=> k_is); (case c6=> k_is); (case k6=> k_is)
  (case a7=> k_is); (case l7=> k_is); (case c7=> k_is); (case k7=> k_is)
  (case a8=> k_is); (case l8=> k_is); (case c8=> k_is); (case k8=> k_is)
  (case a9=> k_is); (case l9=> k_is); (case c9=> k_is); (case k9=> k_is)
  (case a10=> k_is); (case l10=> k_is); (case c10=> k_is); (case k10=> k_is)
  (case a11=> k_is); (case l11=> k_is); (case c11=> k_is); (case k11=> k_is)
  (case a12=> k_is); (case l12=> k_is); (case c12=> k_is); (case k12=> k_is)
  (case a13=> k_is); (case l13=> k_is); (case c13=> k_is); (case k13=> k_is)
  (case a14=> k_is); (case l14=> k_is); (case c14=> k_is); (case k14=> k_is)
  (case a15=> k_is); (case l15=> k_is); (case c15=> k_is); (case k15=> k_is)
  (case a16=> k_is); (case l16=> k_is); (case c16=> k_is); (case k16=> k_is)
  (case a17=> k_is); (case l17=> k_is); (case c17=> k_is); (case k17=> k_is)
  (case a18=> k_is); (case l18=> k_is); (case c18=> k_is); (case k18=> k_is)
  (case a19=> k_is); (case l19=> k_is); (case c19=> k_is); (case k19=> k_is)
  (case a20=> k_is); (case l20=> k_is); (case c20=> k_is); (case k20=> k_is)
  (case a21=> k_is); (case l21=> k_is); (case c21=> k_is); (case k21=> k_is)
  (case a22=> k_is); (case l22=> k_is); (case c22=> k_is); (case k22=> k_is)
  (case a23=> k_is); (case l23=> k_is); (case c23=> k_is); (case k23=> k_is)
  (case a24=> k_is); (case l24=> k_is); (case c24=> k_is); (case k24=> k_is)
  (case e_NoField=> k_is); (case x_NoField=> k_exc)
  (case z_bool=> k_is)
  (case z_int=> k_is)
  (case z_isinstance=> k_is)
  (case z_len=> k_is)
  (case z_list=> k_is)
  (case z_max=> k_is)
  (case z_min=> k_is)
  (case z_range=> k_is)
  (case z_reversed=> k_is)
  (case z_set=> k_is)
  (case z_sorted=> k_is)
  (case z_sum=> k_is)
  (case z_zip=> k_is)
