import PyProof.Rows.All
import Wide.All
import OpenK.AllK
import Wide.FinOn
import Lean
import PyProof.EqAt
import PyProof.EqKinds
import PyProof.NeKinds
import PyProof.TupleCall
import KE.KDictSum
import KE.KSortTup
import KE.KRevIter
import KE.KRevSl
import PySem.Challenge.RW_stakefield_k10_refused_fields
set_option Elab.async false
set_option linter.all false
set_option maxRecDepth 100000
namespace L2
open PySem PySem.Spec PyProof.Rows
abbrev Key:=Sum Int Str
def oH:Key→Value→Bool
 | .inl k,v=> Value.isInt k v
 | .inr x,v=> Value.isStrOf x v
def rD (w:World):Key→Int
 | .inl k=> hashInt k
 | .inr x=> hashStr w x
theorem aY:∀ {k:Key} {v:Value},oH k v=true→(∃ i t,k=Sum.inl i∧v=Value.int i t)∨(∃ x t,k=Sum.inr x∧v=Value.str x t)
 | .inl i,v,h=> by
  obtain ⟨t,e⟩:=Value.isInt_shape (k:=i) (v:=v) h
  exact .inl ⟨i,t,rfl,e⟩
 | .inr x,v,h=> by
  obtain ⟨t,e⟩:=Value.isStrOf_shape (x:=x) (v:=v) h
  exact .inr ⟨x,t,rfl,e⟩
theorem pz (a b:Int):decide ((Sum.inl a:Key)=Sum.inl b)=(a==b):=by
 by_cases e:a=b
 ·subst e; simp
 ·have h:¬ (Sum.inl a:Key)=Sum.inl b:=fun q=> e (Sum.inl.inj q)
  rw [decide_eq_false h]
  exact (beq_eq_false_iff_ne.mpr e).symm
theorem pV (a b:Str):decide ((Sum.inr a:Key)=Sum.inr b)=decide (a=b):=by
 by_cases e:a=b
 ·subst e; simp
 ·have h:¬ (Sum.inr a:Key)=Sum.inr b:=fun q=> e (Sum.inr.inj q)
  rw [decide_eq_false h,decide_eq_false e]
theorem pB (a:Int) (b:Str):decide ((Sum.inl a:Key)=Sum.inr b)=false:=decide_eq_false (fun q=> nomatch q)
theorem py (a:Str) (b:Int):decide ((Sum.inr a:Key)=Sum.inl b)=false:=decide_eq_false (fun q=> nomatch q)
def jx (prog:Program) (w:World):PySem.KeyKind prog w Key where
 is:=oH
 hash:=rD w
 inj:=fun v a b ha hb=> by
  rcases aY ha with ⟨i,t,rfl,rfl⟩ | ⟨x,t,rfl,rfl⟩
  ·rcases aY hb with ⟨j,u,rfl,e⟩ | ⟨y,u,rfl,e⟩
   ·injection e with e1 _; rw [e1]
   ·exact nomatch e
  ·rcases aY hb with ⟨j,u,rfl,e⟩ | ⟨y,u,rfl,e⟩
   ·exact nomatch e
   ·injection e with e1 _; rw [e1]
 byValue:=fun k v h=> by
  rcases aY h with ⟨i,t,rfl,rfl⟩ | ⟨x,t,rfl,rfl⟩ <;> rfl
 pyHash:=fun hv h=> by
  rcases aY hv with ⟨i,t,rfl,rfl⟩ | ⟨x,t,rfl,rfl⟩
  ·exact wpAny_pyHash_int h
  ·exact wpAny_pyHash_str h
 eqBool:=fun hu hv h=> by
  rcases aY hu with ⟨i,t,rfl,rfl⟩ | ⟨x,t,rfl,rfl⟩
  ·rcases aY hv with ⟨j,u,rfl,rfl⟩ | ⟨y,u,rfl,rfl⟩
   ·rw [pz] at h; exact wpAny_eqBool_int h
   ·rw [pB] at h; exact SeqAt.EqAt.int_str i t y u _ _ _ _ h
  ·rcases aY hv with ⟨j,u,rfl,rfl⟩ | ⟨y,u,rfl,rfl⟩
   ·rw [py] at h; exact SeqAt.EqAt.str_int x t j u _ _ _ _ h
   ·rw [pV] at h; exact wpAny_eqBool_str h
 «strs»:=fun k x t v h=> by
  rcases aY h with ⟨i,u,rfl,e⟩ | ⟨y,u,rfl,e⟩
  ·exact nomatch e
  ·injection e with e1 _
   subst e1
   cases v <;> rfl
end L2
namespace L2
open PySem PySem.Spec PyProof.Rows
inductive V where
 | non | bl (b:Bool) | int (i:Int) | str (x:Str) | byt (b:Array UInt8) | flt (b:UInt64) | ref (a:Addr) | ty (n:String)
 deriving DecidableEq
def aK:V→Value→Prop
 | .non,u=> u=Value.none
 | .bl b,u=> u=Value.bool b
 | .int i,u=> ∃ t,u=Value.int i t
 | .str x,u=> ∃ t,u=Value.str x t
 | .byt b,u=> ∃ t,u=Value.bytes b t
 | .flt b,u=> ∃ t,u=Value.float b t
 | .ref a,u=> u=Value.ref a
 | .ty n,u=> u=Value.type n
abbrev aq:List V→List Value→Prop:=Paired aK
theorem aq.length {xs:List V} {us:List Value} (r:aq xs us):xs.length=us.length:=Paired.length r
theorem aq.get:∀ {xs:List V} {us:List Value} {i:Nat} {x:V},aq xs us→xs[i]?=some x→∃ u,us[i]?=some u∧aK x u
 | _,_,_,_,.nil,e=> by simp at e
 | _,_,0,_,.cons r _,e=> by simp at e; subst e; exact ⟨_,rfl,r⟩
 | _,_,i+1,x,.cons _ t,e=> by
  obtain ⟨u,h1,h2⟩:=aq.get (i:=i) (x:=x) t (by simpa using e)
  exact ⟨u,by simpa using h1,h2⟩
theorem aq.append:∀ {xs ys:List V} {us ws:List Value},aq xs us→aq ys ws→aq (xs++ys) (us++ws)
 | _,_,_,_,.nil,s=> s
 | _,_,_,_,.cons r t,s=> .cons r (aq.append t s)
theorem aq.take:∀ {xs:List V} {us:List Value} (n:Nat),aq xs us→aq (xs.take n) (us.take n)
 | _,_,0,_=> .nil
 | _,_,_+1,.nil=> .nil
 | _,_,n+1,.cons r t=> .cons r (aq.take n t)
theorem aq.drop:∀ {xs:List V} {us:List Value} (n:Nat),aq xs us→aq (xs.drop n) (us.drop n)
 | _,_,0,r=> r
 | _,_,_+1,.nil=> .nil
 | _,_,n+1,.cons _ t=> aq.drop n t
def pN:Option V→Option Value→Prop
 | some v,some u=> aK v u
 | none,none=> True
 | _,_=> False
def KV {κ:Type}:List (κ×V)→List (κ×Value)→Prop:=Paired fun (p:κ×V) (q:κ×Value)=> p.1=q.1∧aK p.2 q.2
def kV:Key→V
 | .inl i=> .int i
 | .inr x=> .str x
inductive HO where
 /-- a list -/
 | lst (xs:List V)
 /-- a tuple (never changes) -/
 | tup (xs:List V)
 /-- a dict whose keys are ints and texts; one whose keys are tuples of ints and texts (the empty one is both) -/
 | dK (kvs:List (Key×V)) | dT (kvs:List (List Key×V))
 /-- a set of ints:its members,its size -/
 | set (S:Int→Bool) (n:Nat)
 /-- an instance of the class at C,its dict at dx,its attributes -/
 | ins (C dx:Addr) (fs:List (Str×V))
 /-- the dict of the instance at x -/
 | own (x:Addr)
 /-- the dict of an exception -/
 | xd (fs:List (Str×V))
 /-- a bound method,f of x -/
 | met (f x:Addr)
 /-- a range object lo,lo+1,.. below hi -/
 | rng (lo hi:Int)
 /-- a thing that is known to the object (the script; a dict while a loop walks it):read,never written while it is so -/
 | frz (o:Obj) (u:HO)
 /-- a code object's table -/
 | tbl (ps:Array Value)
 /-- any other thing,by what is true of its one object (a def of one's own:SetO a S n:=HO.ext fun h=> ..) -/
 | ext (φ:Heap→Prop)
abbrev Hp:=Addr→Option HO
def upd (H:Hp) (a:Addr) (o:HO):Hp:=fun b=> if b=a then some o else H b
theorem aE {H:Hp} {a:Addr} {o:HO}:upd H a o a=some o:=by unfold upd; rw [if_pos rfl]
theorem aI {H:Hp} {a b:Addr} {o:HO} (h:b≠a):upd H a o b=H b:=by unfold upd; rw [if_neg h]
theorem aS {H:Hp} {a b:Addr} {o:HO} (h:H a=some o) (h':H b=none):a≠b:=by
 intro e; subst e; rw [h] at h'; cases h'
section
variable (P:Program) (w:World)
def bF (H:Hp) (h:Heap) (a:Addr):HO→Prop
 | .lst xs=> xs.length≤sizeLine∧∃ (its:List Value) (n:Nat),aq xs its∧h.get? a=some { cls:=.type "list",data:=.seq its.toArray n }
 | .tup xs=> xs.length≤sizeLine∧∃ its:List Value,aq xs its∧IsTup h a its.toArray
 | .dK kvs=> kvs.length≤sizeLine∧(a==sysModules)=false∧∃ vs,KV kvs vs∧h.DictOf (jx P w) a vs
 | .dT kvs=> kvs.length≤sizeLine∧(a==sysModules)=false∧∃ xs:List (List Key×Addr×Value),
   Paired (fun (p:List Key×V) (q:List Key×Addr×Value)=> p.1=q.1∧H q.2.1=some (.tup (p.1.map kV))∧aK p.2 q.2.2) kvs xs∧
   ∃ o es ep,h.get? a=some o∧o.ExactDict∧o.data=.dict es ep∧es.toList=xs.map (entryOfKey (tupleKind (jx P w)))∧(xs.map (·.1)).Nodup
 | .set S n=> h.SetOf (intKind P w) a S n
 | .ins C dx fs=> H dx=some (.own a)∧fs.length≤1000∧dx≠a∧h.get? a=some (PySem.W.instObj C dx)∧
   ∃ mA,h.Ns1 dx mA∧(∀ f,pN (fs.lookup f) (mA f))∧PySem.Within mA (fs.map (·.1))
 | .own _=> ∃ o,h.get? a=some o
 | .xd fs=> ∃ mA,h.Ns1 a mA∧∀ f,pN (fs.lookup f) (mA f)
 | .rng lo hi=> ∃ t u v,h.get? a=some { cls:=.type "range",data:=.fields #[.int lo t,.int hi u,.int 1 v] }
 | .frz o u=> h.get? a=some o∧bF H h a u
 | .tbl ps=> h.get? a=some { cls:=.none,data:=.fields ps }
 | .met f x=> h.get? a=some (PySem.W.methodObj (.ref f) (.ref x))
 | .ext φ=> φ h∧(∃ o,h.get? a=some o)∧∀ h1 h2:Heap,φ h1→(∀ o,h1.get? a=some o→h2.get? a=some o)→φ h2
def HOk (H:Hp) (h:Heap):Prop:=∀ a o,H a=some o→bF P w H h a o
end
section
variable {P:Program} {w:World} {H H':Hp} {h h':Heap} {a:Addr} {o:HO}
theorem bF.lt (x:bF P w H h a o):a < h.objs.size:=by
 cases o with
 | lst xs=> obtain ⟨_,_,_,_,e⟩:=x; exact Heap.lt_size e
 | tup xs=> obtain ⟨_,_,_,p⟩:=x; exact p.lt
 | dK kvs=> obtain ⟨_,_,_,_,o,_,_,e,_⟩:=x; exact Heap.lt_size e
 | dT kvs=> obtain ⟨_,_,_,_,o,_,_,e,_⟩:=x; exact Heap.lt_size e
 | set S n=> obtain ⟨o,_,_,_,e,_⟩:=x; exact Heap.lt_size e
 | ins C dx fs=> obtain ⟨_,_,_,e,_⟩:=x; exact Heap.lt_size e
 | own y=> obtain ⟨_,e⟩:=x; exact Heap.lt_size e
 | xd fs=> obtain ⟨_,⟨_,_,_,e,_⟩,_⟩:=x; exact Heap.lt_size e
 | rng lo hi=> obtain ⟨_,_,_,e⟩:=x; exact Heap.lt_size e
 | frz ob u=> obtain ⟨e,_⟩:=x; exact Heap.lt_size e
 | tbl ps=> exact Heap.lt_size (show h.get? a=some _ from x)
 | met f y=> exact Heap.lt_size (show h.get? a=some _ from x)
 | ext φ=> obtain ⟨_,⟨_,e⟩,_⟩:=x; exact Heap.lt_size e
theorem Paired.mapP {α β:Type} {F G:α→β→Prop}:∀ {l₁:List α} {l₂:List β},Paired F l₁ l₂→(∀ a b,F a b→G a b)→Paired G l₁ l₂
 | _,_,.nil,_=> .nil
 | _,_,.cons r t,f=> .cons (f _ _ r) (Paired.mapP t f)
theorem bF.stay (x:bF P w H h a o) (k:∀ b u,(b=a∨H b=some (.own a))→h.get? b=some u→h'.get? b=some u)
  (ho:∀ b,H b=some (.own a)→H' b=some (.own a)) (ht:∀ b xs,H b=some (.tup xs)→H' b=some (.tup xs)):bF P w H' h' a o:=by
 induction o with
 | lst xs=> obtain ⟨z,its,n,r,e⟩:=x; exact ⟨z,its,n,r,k _ _ (.inl rfl) e⟩
 | tup xs=> obtain ⟨z,its,r,ob,e,c⟩:=x; exact ⟨z,its,r,ob,k _ _ (.inl rfl) e,c⟩
 | dK kvs=> obtain ⟨z,y,vs,r,ob,es,ep,e,c⟩:=x; exact ⟨z,y,vs,r,ob,es,ep,k _ _ (.inl rfl) e,c⟩
 | dT kvs=>
  obtain ⟨z,y,xs,r,ob,es,ep,e,c⟩:=x
  exact ⟨z,y,xs,Paired.mapP r fun p q z=> ⟨z.1,ht _ _ z.2.1,z.2.2⟩,ob,es,ep,k _ _ (.inl rfl) e,c⟩
 | set S n=> obtain ⟨ob,es,ep,t,e,c⟩:=x; exact ⟨ob,es,ep,t,k _ _ (.inl rfl) e,c⟩
 | ins C dx fs=>
  obtain ⟨d,z,ne,e,mA,⟨od,es,ep,e2,c⟩,r⟩:=x
  exact ⟨ho _ d,z,ne,k _ _ (.inl rfl) e,mA,⟨od,es,ep,k _ _ (.inr d) e2,c⟩,r⟩
 | own y=> obtain ⟨ob,e⟩:=x; exact ⟨ob,k _ _ (.inl rfl) e⟩
 | xd fs=> obtain ⟨mA,⟨od,es,ep,e,c⟩,r⟩:=x; exact ⟨mA,⟨od,es,ep,k _ _ (.inl rfl) e,c⟩,r⟩
 | rng lo hi=> obtain ⟨t,u,v,e⟩:=x; exact ⟨t,u,v,k _ _ (.inl rfl) e⟩
 | frz ob u ih=> obtain ⟨e,q⟩:=x; exact ⟨k _ _ (.inl rfl) e,ih q⟩
 | tbl ps=>
  have e:h.get? a=some { cls:=.none,data:=.fields ps }:=x
  show h'.get? a=some { cls:=.none,data:=.fields ps }
  exact k a _ (.inl rfl) e
 | met f y=>
  have e:h.get? a=some (PySem.W.methodObj (.ref f) (.ref y)):=x
  show h'.get? a=some (PySem.W.methodObj (.ref f) (.ref y))
  exact k a _ (.inl rfl) e
 | ext φ=> obtain ⟨p,⟨o,e⟩,st⟩:=x; exact ⟨st _ _ p fun o q=> k _ _ (.inl rfl) q,⟨o,k _ _ (.inl rfl) e⟩,st⟩
theorem HOk.lt (x:HOk P w H h) (e:H a=some o):a < h.objs.size:=(x a o e).lt
theorem HOk.fresh (x:HOk P w H h) (e:h.objs.size≤a):H a=none:=by
 cases q:H a with
 | none=> rfl
 | some u=> exact absurd (Nat.lt_of_lt_of_le (x.lt q) e) (Nat.lt_irrefl _)
theorem HOk.kept (x:HOk P w H h) (k:∀ b u,h.get? b=some u→h'.get? b=some u):HOk P w H h':=fun a o e=>
 (x a o e).stay (fun b u _ q=> k b u q) (fun _ q=> q) fun _ _ q=> q
theorem HOk.laid (x:HOk P w H h) (k:∀ b u,h.get? b=some u→h'.get? b=some u) (hp:h.objs.size≤a) (new:bF P w (upd H a o) h' a o):HOk P w (upd H a o) h':=fun b u e=> by
 have hn:=x.fresh hp
 by_cases hb:b=a
 ·subst hb; rw [aE] at e; cases e; exact new
 ·rw [aI hb] at e
  exact (x b u e).stay (fun c v _ q=> k c v q) (fun c q=> by rw [aI (aS q hn)]; exact q) fun c xs q=> by rw [aI (aS q hn)]; exact q
end
def Rd (H:Hp) (a:Addr) (u:HO):Prop:=H a=some u∨∃ o,H a=some (.frz o u)
theorem Rd.ok {P:Program} {w:World} {H:Hp} {h:Heap} {a:Addr} {u:HO} (r:Rd H a u) (x:HOk P w H h):bF P w H h a u:=by
 rcases r with r | ⟨o,r⟩
 ·exact x a u r
 ·obtain ⟨_,q⟩:=x a _ r
  exact q
def Mut:Option HO→Prop
 | some (.lst _)=> True
 | some (.dK _)=> True
 | some (.dT _)=> True
 | some (.set _ _)=> True
 | some (.ins _ _ _)=> True
 | some (.ext _)=> True
 | _=> False
section
variable {P:Program} {w:World} {H:Hp} {h h':Heap} {x e:Addr} {o':HO}
theorem HOk.write (ok:HOk P w H h) (mu:Mut (H x)) (he:e=x∨H e=some (.own x)) (k:∀ b u,b≠e→h.get? b=some u→h'.get? b=some u) (heo:∃ u,h'.get? e=some u)
  (new:bF P w (upd H x o') h' x o'):HOk P w (upd H x o') h':=fun b u q=> by
 have nown:∀ c y,H c=some (.own y)→c≠x:=fun c y r z=> by subst z; rw [r] at mu; exact mu
 have ntup:∀ c xs,H c=some (.tup xs)→c≠x:=fun c xs r z=> by subst z; rw [r] at mu; exact mu
 by_cases hb:b=x
 ·subst hb; rw [aE] at q; cases q; exact new
 ·rw [aI hb] at q
  by_cases hbe:b=e
  ·have q':H b=some (.own x):=by
    rcases he with z | z
    ·exact absurd (hbe.trans z) hb
    ·rw [hbe]; exact z
   rw [q] at q'; cases q'
   obtain ⟨v,hv⟩:=heo
   exact ⟨v,by rw [hbe]; exact hv⟩
  ·refine (ok b u q).stay (fun c v hc r=> k c v ?_ r) (fun c r=> by rw [aI (nown c b r)]; exact r) fun c xs r=> by rw [aI (ntup c xs r)]; exact r
   rcases hc with rfl | hc
   ·exact hbe
   ·rintro rfl
    rcases he with z | z
    ·exact nown c b hc z
    ·rw [hc] at z; cases z; exact hb rfl
end
structure Un (fs ex:List Addr) (H H':Hp) (h h':Heap):Prop where
 keep:∀ b o,h.get? b=some o→H b=none→b ∉ fs→b ∉ ex→h'.get? b=some o
 slot:∀ b o,h.get? b=some o→H b=none→b∈fs→b ∉ ex→∃ sl,h'.get? b=some { o with slots:=sl }
 free:∀ b o,h.get? b=some o→H b=none→b ∉ ex→H' b=none
 there:∀ b o,h.get? b=some o→b ∉ ex→∃ o',h'.get? b=some o'
 tups:∀ b xs,H b=some (.tup xs)→H' b=some (.tup xs)
 frzs:∀ b o u,H b=some (.frz o u)→H' b=some (.frz o u)
 tbls:∀ b ps,H b=some (.tbl ps)→∃ more,H' b=some (.tbl (ps++more))
section
variable {fs fs' ex ex':List Addr} {H H1 H2:Hp} {h h1 h2 h':Heap} {a x e:Addr} {o:HO}
theorem Un.any (u:Un fs ex H H1 h h1) {b:Addr} {ob:Obj} (q:h.get? b=some ob) (n:H b=none) (hx:b ∉ ex):∃ sl,h1.get? b=some { ob with slots:=sl }:=by
 by_cases hb:b∈fs
 ·exact u.slot b ob q n hb hx
 ·exact ⟨ob.slots,u.keep b ob q n hb hx⟩
theorem Un.kept (k:∀ b u,h.get? b=some u→h'.get? b=some u):Un fs ex H H h h':=
 ⟨fun b ob q _ _ _=> k b ob q,fun b ob q _ _ _=> ⟨ob.slots,k b ob q⟩,fun _ _ _ n _=> n,fun b ob q _=> ⟨ob,k b ob q⟩,fun _ _ q=> q,fun _ _ _ q=> q,fun _ ps q=> ⟨#[],by rw [q]; simp⟩⟩
theorem Un.refl:Un fs ex H H h h:=Un.kept fun _ _ q=> q
theorem Un.laid (k:∀ b u,h.get? b=some u→h'.get? b=some u) (hp:h.objs.size≤a) (hn:H a=none):Un fs ex H (upd H a o) h h' where
 keep:=fun b u q _ _ _=> k b u q
 slot:=fun b u q _ _ _=> ⟨u.slots,k b u q⟩
 free:=fun b u q n _=> by rw [aI (Nat.ne_of_lt (Nat.lt_of_lt_of_le (Heap.lt_size q) hp))]; exact n
 there:=fun b u q _=> ⟨u,k b u q⟩
 tups:=fun b xs q=> by rw [aI (aS q hn)]; exact q
 frzs:=fun b u xs q=> by rw [aI (aS q hn)]; exact q
 tbls:=fun b ps q=> ⟨#[],by rw [aI (aS q hn),q]; simp⟩
theorem Un.write (mu:Mut (H x)) (he:e=x∨H e=some (.own x)) (k:∀ b u,b≠e→h.get? b=some u→h'.get? b=some u) (heo:∃ u,h'.get? e=some u):Un fs ex H (upd H x o) h h':=by
 have hx:∀ b,H b=none→b≠x:=fun b n z=> by subst z; rw [n] at mu; exact mu
 have hb:∀ b,H b=none→b≠e:=fun b n z=> by
  subst z
  rcases he with r | r
  ·exact hx b n r
  ·rw [n] at r; cases r
 have hm:∀ b u,H b=some u→¬ Mut (some u)→b≠x:=fun b u q nm z=> by subst z; rw [q] at mu; exact nm mu
 refine ⟨fun b u q n _ _=> k b u (hb b n) q,fun b u q n _ _=> ⟨u.slots,k b u (hb b n) q⟩,fun b u q n _=> by rw [aI (hx b n)]; exact n,fun b u q _=> ?_,
  fun b xs q=> by rw [aI (hm b _ q fun z=> z)]; exact q,fun b u xs q=> by rw [aI (hm b _ q fun z=> z)]; exact q,fun b ps q=> ⟨#[],by rw [aI (hm b _ q fun z=> z),q]; simp⟩⟩
 by_cases hbe:b=e
 ·subst hbe; exact heo
 ·exact ⟨u,k b u hbe q⟩
end
def trk (h:Heap) (H:Hp):List Addr:=(List.range h.objs.size).filter fun a=> (H a).isSome
def gT (h:Heap) (H:Hp):Heap:=PySem.W.hideAll h (trk h H)
theorem kI (h:Heap) (H:Hp):(gT h H).objs.size=h.objs.size:=PySem.W.hideAll_size _ _
theorem lY {h:Heap} {H:Hp} {b:Addr} {o:Obj} (e:h.get? b=some o) (n:H b=none):(gT h H).get? b=some o:=
 PySem.W.hideAll_get _ e fun hm=> by
  have q:(H b).isSome=true:=(List.mem_filter.mp hm).2
  rw [n] at q; simp at q
theorem mZ {h:Heap} {H:Hp} {b:Addr} {o:Obj} (e:(gT h H).get? b=some o):h.get? b=some o∧H b=none:=by
 have e':h.get? b=some o:=PySem.W.of_hideAll (trk h H) e
 refine ⟨e',?_⟩
 cases q:H b with
 | none=> rfl
 | some x=>
  have hm:b∈trk h H:=List.mem_filter.mpr ⟨List.mem_range.mpr (Heap.lt_size e'),by simp [q]⟩
  have z:(gT h H).get? b=none:=PySem.W.hideAll_none (trk h H) hm
  rw [z] at e; cases e
def nC (g h:Heap) (L:Addr):List (Addr×Obj):=(List.range h.objs.size).filterMap fun a=> if a=L∨(g.get? a).isSome=true then none else (h.get? a).map fun o=> (a,o)
def rest (g h:Heap) (L d:Addr):List (Addr×Obj):=(nC g h L).filter fun p=> decide (p.1≠d)
end L2
namespace L2
open PySem PySem.Spec PyProof.Rows
structure Mod (K:PySem.W.Frag) (mg:Str→Option Value) (base:Heap):Prop where
 kin:K.In base
 glob:base.Ns mainGlobals mg
 blt:∃ mb,base.Ns builtinsNs mb∧∀ x:Str,x≠"__name__"→mb x=bootBuiltins x
 nolimit:base.NoLimit
structure Cx where
 prog:Program
 w:World
 K:PySem.W.Frag
 mg:Str→Option Value
 base:Heap
 A:Around
 N:List Str
 s₀:Shared
 H₀:Hp
 env:Env
 outer:List Env
 stack:List Env
 ex:List Addr
 fn:Str→Bool
 calm:Bool
 pn:List (Addr×Obj)
 xe:Value→Shared→Prop
def frs (l:List Env):List Addr:=l.filterMap (·.frame)
abbrev Cx.fs (X:Cx):List Addr:=frs X.outer
def Vis (sc:Scope) (x:Str):Prop:=sc.names.lookup x=some .local∨sc.names.lookup x=some .cell∨sc.names.lookup x=some .free
def Loc (sc:Scope) (x:Str):Prop:=sc.names.lookup x=some .local∨sc.names.lookup x=some .cell
def rN (env:Env) (h:Heap) (m:Str→Option Value) (x:Str) (u:Value):Prop:=
 (env.kindOf x=some .local∧m x=some u)∨((env.kindOf x=some .cell∨env.kindOf x=some .free)∧∃ c,env.cells.lookup x=some c∧h.IsCell c (some u))
structure Cx.Ok (X:Cx):Prop where
 mod:Mod X.K X.mg X.base
 kind:X.env.scope.kind=.function
 glob:X.env.globals=mainGlobals
 blt:X.env.builtins=builtinsNs
 above:X.s₀.heap.objs.size≤X.env.locals
 inj:∀ x y c,X.env.cells.lookup x=some c→X.env.cells.lookup y=some c→x=y
 has:∀ x,(X.env.kindOf x=some .cell∨X.env.kindOf x=some .free)→∃ c,X.env.cells.lookup x=some c
 cab:∀ x c,X.fn x=true→X.env.cells.lookup x=some c→X.s₀.heap.objs.size≤c
 hd:X.calm=true→X.A.handled=none
 frames:X.A.frames=some X.stack
 stk:X.stack=X.outer∨(X.stack=X.env::X.outer∧X.env.frame=some X.env.locals)
 exf:∀ b∈X.ex,b≠X.env.locals∧∀ x c,X.env.cells.lookup x=some c→c≠b
 bs:∀ b o,X.base.get? b=some o→X.s₀.heap.get? b=some o∧X.H₀ b=none
 bsz:X.base.objs.size≤X.s₀.heap.objs.size
 noex:∀ b o,X.base.get? b=some o→b ∉ X.ex
 exfs:∀ b∈X.ex,b ∉ X.fs
 funs:X.s₀.heap.FunFrames X.base X.outer
 frf:∀ b∈X.fs,X.H₀ b=none
structure Inv (X:Cx) (pins:List (Addr×Obj)) (σ:List (Option V)) (H:Hp) (s:Shared):Prop where
 ok:X.Ok
 os:s.os=X.s₀.os
 bare:AllBare s.gens
 base:Un X.fs X.ex X.H₀ H X.s₀.heap s.heap
 loc:∃ m,s.heap.Ns X.env.locals m∧∀ (i:Nat) (x:Str) (v:V),X.N[i]?=some x→σ[i]?=some (some v)→Vis X.env.scope x→∃ u,aK v u∧rN X.env s.heap m x u
 cell:∀ x c,X.env.cells.lookup x=some c→∃ v,s.heap.IsCell c v
 free:H X.env.locals=none
 freeC:∀ x c,X.env.cells.lookup x=some c→H c=none
 pin:∀ p∈X.pn++pins,s.heap.get? p.1=some p.2∧H p.1=none∧p.1≠X.env.locals∧p.1 ∉ X.fs∧∀ v,p.2.data≠.cell v
 hok:HOk X.prog X.w H s.heap
 len:σ.length=X.N.length
section
variable {X:Cx} {pins:List (Addr×Obj)} {σ:List (Option V)} {H H':Hp} {s:Shared} {h':Heap}
theorem Cx.Ok.nofr (ok:X.Ok) {b:Addr} {o:Obj} (e:X.base.get? b=some o):b ∉ X.fs:=fun hb=> by
 have:=(ok.funs.mem hb).1
 rw [e] at this; cases this
theorem Inv.bs (I:Inv X pins σ H s):∀ b o,X.base.get? b=some o→s.heap.get? b=some o∧H b=none:=fun b o e=>
 ⟨I.base.keep b o (I.ok.bs b o e).1 (I.ok.bs b o e).2 (I.ok.nofr e) (I.ok.noex b o e),I.base.free b o (I.ok.bs b o e).1 (I.ok.bs b o e).2 (I.ok.noex b o e)⟩
theorem Inv.bk (I:Inv X pins σ H s):∀ b o,X.base.get? b=some o→s.heap.get? b=some o:=fun b o e=> (I.bs b o e).1
theorem Inv.mod (I:Inv X pins σ H s):Mod X.K X.mg X.base:=I.ok.mod
theorem Inv.kIn (I:Inv X pins σ H s):X.K.In s.heap:=I.ok.mod.kin.keeps I.bk
theorem Inv.lt (I:Inv X pins σ H s):X.env.locals < s.heap.objs.size:=let ⟨_,hn,_⟩:=I.loc; hn.lt
theorem Inv.sz (I:Inv X pins σ H s):X.s₀.heap.objs.size≤s.heap.objs.size:=Nat.le_trans I.ok.above (Nat.le_of_lt I.lt)
theorem Inv.nofs (I:Inv X pins σ H s) {a:Addr} (h:s.heap.objs.size≤a):a ∉ X.fs:=fun hb=> by
 obtain ⟨_,o,ho,_⟩:=I.ok.funs.mem hb
 exact absurd (Nat.lt_of_lt_of_le (Heap.lt_size ho) (Nat.le_trans I.sz h)) (Nat.lt_irrefl _)
theorem Inv.cne (I:Inv X pins σ H s):∀ x c,X.env.cells.lookup x=some c→c≠X.env.locals:=fun x c e z=> by
 obtain ⟨v,o,ho,hd⟩:=I.cell x c e
 obtain ⟨m,⟨o',es,ep,ho',hd',_⟩,_⟩:=I.loc
 rw [z,ho'] at ho; cases ho; rw [hd'] at hd; cases hd
theorem Inv.funs (I:Inv X pins σ H s):s.heap.FunFrames X.base X.outer:=by
 have all:∀ (l:List Env),(∀ b∈frs l,b∈X.fs)→X.s₀.heap.FunFrames X.base l→s.heap.FunFrames X.base l:=by
  intro l
  induction l with
  | nil=> intro _ _; trivial
  | cons env r ih=>
   intro hs hl
   obtain ⟨hk,⟨L,o,hf,hn,ho,hd⟩,hr⟩:=hl
   have hL:L∈X.fs:=hs L (by unfold frs; rw [List.filterMap_cons,hf]; exact List.mem_cons_self)
   obtain ⟨sl,e⟩:=I.base.slot L o ho (I.ok.frf L hL) hL fun z=> I.ok.exfs L z hL
   exact ⟨hk,⟨L,_,hf,hn,e,hd⟩,ih (fun b hb=> hs b (by unfold frs; rw [List.filterMap_cons,hf]; exact List.mem_cons_of_mem _ hb)) hr⟩
 exact all X.outer (fun _ hb=> hb) I.ok.funs
theorem Inv.stack (I:Inv X pins σ H s):s.heap.FunFrames X.base X.stack:=by
 rcases I.ok.stk with e | ⟨e,hf⟩
 ·rw [e]; exact I.funs
 ·rw [e]
  obtain ⟨m,hn,_⟩:=I.loc
  refine .cons (by rw [I.ok.kind]; decide) hf hn ?_ I.funs
  exact Heap.get?_none_of_le (Nat.le_trans I.ok.bsz I.ok.above)
theorem Inv.stkSub (I:Inv X pins σ H s):∀ b∈frs X.stack,b∈X.env.locals::X.fs:=fun b hb=> by
 rcases I.ok.stk with e | ⟨e,hf⟩
 ·rw [e] at hb; exact List.mem_cons_of_mem _ hb
 ·rw [e] at hb
  unfold frs at hb
  rw [List.filterMap_cons,hf] at hb
  exact hb
theorem Inv.stkFree (I:Inv X pins σ H s):∀ b∈frs X.stack,H b=none:=fun b hb=> by
 rcases List.mem_cons.mp (I.stkSub b hb) with e | hb
 ·rw [e]; exact I.free
 ·obtain ⟨_,o,ho,_⟩:=I.ok.funs.mem hb
  exact I.base.free b o ho (I.ok.frf b hb) fun z=> I.ok.exfs b z hb
theorem Inv.step {g':Array GenState} {t':Nat} {d':Drawn} {ch:List Addr} (I:Inv X pins σ H s)
  (hch:∀ b∈ch,(b∈X.ex∨X.s₀.heap.objs.size≤b)∧b≠X.env.locals∧(∀ x c,X.env.cells.lookup x=some c→c≠b)∧∀ p∈X.pn++pins,p.1≠b)
  (keep:∀ b o,b≠X.env.locals→b ∉ X.fs→b ∉ ch→s.heap.get? b=some o→H b=none→h'.get? b=some o)
  (slot:∀ b o,b≠X.env.locals→b∈X.fs→b ∉ ch→s.heap.get? b=some o→H b=none→∃ sl,h'.get? b=some { o with slots:=sl }) (free:∀ b o,b ∉ ch→s.heap.get? b=some o→H b=none→H' b=none)
  (there:∀ b o,b ∉ ch→s.heap.get? b=some o→∃ o',h'.get? b=some o')
  (tups:∀ b xs,H b=some (.tup xs)→H' b=some (.tup xs)) (frzs:∀ b o u,H b=some (.frz o u)→H' b=some (.frz o u)) (tbls:∀ b ps,H b=some (.tbl ps)→∃ more,H' b=some (.tbl (ps++more)))
  (ns:∀ m,s.heap.Ns X.env.locals m→h'.Ns X.env.locals m) (hok:HOk X.prog X.w H' h') (hg:AllBare g'):
  Inv X pins σ H' { s with heap:=h',gens:=g',drawn:=d',toks:=t' }:=by
 have neL:∀ b o,X.s₀.heap.get? b=some o→b≠X.env.locals:=fun b o e=> Nat.ne_of_lt (Nat.lt_of_lt_of_le (Heap.lt_size e) I.ok.above)
 have neC:∀ b o,X.s₀.heap.get? b=some o→b ∉ X.ex→b ∉ ch:=fun b o e hx hb=> by
  rcases (hch b hb).1 with z | z
  ·exact hx z
  ·exact absurd (Nat.lt_of_lt_of_le (Heap.lt_size e) z) (Nat.lt_irrefl _)
 have cellK:∀ x c,X.env.cells.lookup x=some c→∀ v,s.heap.IsCell c v→h'.IsCell c v:=fun x c e v ⟨o,ho,hd⟩=> by
  have nch:c ∉ ch:=fun z=> (hch c z).2.2.1 x c e rfl
  by_cases hc:c∈X.fs
  ·obtain ⟨sl,q⟩:=slot c o (I.cne x c e) hc nch ho (I.freeC x c e)
   exact ⟨_,q,hd⟩
  ·exact ⟨o,keep c o (I.cne x c e) hc nch ho (I.freeC x c e),hd⟩
 refine ⟨I.ok,I.os,hg,⟨fun b o e n hb hx=> ?_,fun b o e n hb hx=> ?_,fun b o e n hx=> ?_,fun b o e hx=> ?_,fun b xs e=> tups b xs (I.base.tups b xs e),fun b o xs e=> frzs b o xs (I.base.frzs b o xs e),fun b ps e=> ?_⟩,?_,fun x c e=> ?_,?_,fun x c e=> ?_,fun p hp=> ?_,hok,I.len⟩
 ·exact keep b o (neL b o e) hb (neC b o e hx) (I.base.keep b o e n hb hx) (I.base.free b o e n hx)
 ·obtain ⟨sl,e1⟩:=I.base.slot b o e n hb hx
  obtain ⟨sl',e2⟩:=slot b _ (neL b o e) hb (neC b o e hx) e1 (I.base.free b o e n hx)
  exact ⟨sl',e2⟩
 ·obtain ⟨o',e1⟩:=I.base.there b o e hx
  exact free b o' (neC b o e hx) e1 (I.base.free b o e n hx)
 ·obtain ⟨o',e1⟩:=I.base.there b o e hx
  exact there b o' (neC b o e hx) e1
 ·obtain ⟨m1,e1⟩:=I.base.tbls b ps e
  obtain ⟨m2,e2⟩:=tbls b _ e1
  exact ⟨m1++m2,by rw [e2,Array.append_assoc]⟩
 ·obtain ⟨m,hn,hl⟩:=I.loc
  refine ⟨m,ns m hn,fun i x v e1 e2 e3=> ?_⟩
  obtain ⟨u,r,l⟩:=hl i x v e1 e2 e3
  refine ⟨u,r,?_⟩
  rcases l with l | ⟨k,c,e,z⟩
  ·exact .inl l
  ·exact .inr ⟨k,c,e,cellK x c e _ z⟩
 ·obtain ⟨v,z⟩:=I.cell x c e
  exact ⟨v,cellK x c e v z⟩
 ·obtain ⟨m,⟨o,_,_,ho,_⟩,_⟩:=I.loc
  exact free _ o (fun z=> (hch _ z).2.1 rfl) ho I.free
 ·obtain ⟨v,o,ho,hd⟩:=I.cell x c e
  exact free c o (fun z=> (hch c z).2.2.1 x c e rfl) ho (I.freeC x c e)
 ·obtain ⟨e,n,ne,nf,d⟩:=I.pin p hp
  have nch:p.1 ∉ ch:=fun z=> (hch p.1 z).2.2.2 p hp rfl
  exact ⟨keep p.1 p.2 ne nf nch e n,free p.1 p.2 nch e n,ne,nf,d⟩
theorem Inv.un {t':Nat} (I:Inv X pins σ H s) (u:Un X.fs [] H H' s.heap h') (hok:HOk X.prog X.w H' h'):Inv X pins σ H' { s with heap:=h',toks:=t' }:=by
 obtain ⟨m,⟨o,es,ep,ho,r⟩,_⟩:=id I.loc
 obtain ⟨sl,hL⟩:=u.any ho I.free (by simp)
 exact I.step (g':=s.gens) (d':=s.drawn) (ch:=[]) (fun _ z=> nomatch z) (fun b o _ hb _ e n=> u.keep b o e n hb (by simp)) (fun b o _ hb _ e n=> u.slot b o e n hb (by simp)) (fun b o _ e n=> u.free b o e n (by simp)) (fun b o _ e=> u.there b o e (by simp)) u.tups u.frzs u.tbls (fun m' hm=> by
  obtain ⟨o',es',ep',ho',r'⟩:=hm
  rw [ho] at ho'; cases ho'
  exact ⟨_,es',ep',hL,r'⟩) hok I.bare
theorem Inv.call {g':Array GenState} {t':Nat} {d':Drawn} {ch:List Addr} (I:Inv X pins σ H s) (u:Un (frs X.stack) ch H H' s.heap h') (hok:HOk X.prog X.w H' h') (hg:AllBare g')
  (hch:∀ b∈ch,(b∈X.ex∨X.s₀.heap.objs.size≤b)∧b≠X.env.locals∧(∀ x c,X.env.cells.lookup x=some c→c≠b)∧∀ p∈X.pn++pins,p.1≠b):
  Inv X pins σ H' { s with heap:=h',gens:=g',drawn:=d',toks:=t' }:=by
 obtain ⟨m,⟨o,es,ep,ho,r⟩,_⟩:=id I.loc
 obtain ⟨sl,hL⟩:=u.any ho I.free fun z=> (hch _ z).2.1 rfl
 exact I.step (ch:=ch) hch (fun b o hL hb hc e n=> u.keep b o e n (fun z=> (List.mem_cons.mp (I.stkSub b z)).elim hL hb) hc) (fun b o _ _ hc e n=> u.any e n hc) (fun b o hc e n=> u.free b o e n hc) (fun b o hc e=> u.there b o e hc) u.tups u.frzs u.tbls (fun m' hm=> by
  obtain ⟨o',es',ep',ho',r'⟩:=hm
  rw [ho] at ho'; cases ho'
  exact ⟨_,es',ep',hL,r'⟩) hok hg
theorem Inv.turned {t':Nat} {it:Addr} (I:Inv X pins σ H s) (k:∀ b o,b≠it→s.heap.get? b=some o→h'.get? b=some o) (hn:H it=none) (hL:it≠X.env.locals)
  (h1:it∈X.ex∨X.s₀.heap.objs.size≤it) (h2:∀ x c,X.env.cells.lookup x=some c→c≠it) (h3:∀ p∈X.pn++pins,p.1≠it):Inv X pins σ H { s with heap:=h',toks:=t' }:=by
 have nit:∀ b u,H b=some u→b≠it:=fun b u e z=> by rw [z,hn] at e; cases e
 refine I.step (g':=s.gens) (d':=s.drawn) (ch:=[it]) (fun b hb=> ?_) (fun b o _ _ hc e _=> k b o (fun z=> hc (by simp [z])) e) (fun b o _ _ hc e _=> ⟨o.slots,k b o (fun z=> hc (by simp [z])) e⟩) (fun _ _ _ _ n=> n)
  (fun b o hc e=> ⟨o,k b o (fun z=> hc (by simp [z])) e⟩) (fun _ _ e=> e) (fun _ _ _ e=> e) (fun b ps e=> ⟨#[],by rw [e]; simp⟩) (fun m hm=> ?_) (fun b u e=> ?_) I.bare
 ·have e:b=it:=by simpa using hb
  subst e
  exact ⟨h1,hL,h2,h3⟩
 ·obtain ⟨o,es,ep,ho,r⟩:=hm
  exact ⟨o,es,ep,k _ o (Ne.symm hL) ho,r⟩
 ·refine (I.hok b u e).stay (fun c v hc q=> k c v ?_ q) (fun _ q=> q) fun _ _ q=> q
  rcases hc with z | z
  ·rw [z]; exact nit b u e
  ·exact nit c _ z
theorem Inv.tok (I:Inv X pins σ H s) (t:Nat):Inv X pins σ H { s with toks:=t }:=I.un (h':=s.heap) (t':=t) Un.refl I.hok
theorem Inv.kept {t':Nat} (I:Inv X pins σ H s) (k:∀ b u,s.heap.get? b=some u→h'.get? b=some u):Inv X pins σ H { s with heap:=h',toks:=t' }:=I.un (Un.kept k) (I.hok.kept k)
theorem Inv.laid {a:Addr} {o:HO} {t':Nat} (I:Inv X pins σ H s) (k:∀ b u,s.heap.get? b=some u→h'.get? b=some u) (hp:s.heap.objs.size≤a) (new:bF X.prog X.w (upd H a o) h' a o):
  Inv X pins σ (upd H a o) { s with heap:=h',toks:=t' }:=I.un (Un.laid k hp (I.hok.fresh hp)) (I.hok.laid k hp new)
theorem Inv.write {x e:Addr} {o:HO} {t':Nat} (I:Inv X pins σ H s) (mu:Mut (H x)) (he:e=x∨H e=some (.own x)) (k:∀ b u,b≠e→s.heap.get? b=some u→h'.get? b=some u) (heo:∃ u,h'.get? e=some u)
  (new:bF X.prog X.w (upd H x o) h' x o):Inv X pins σ (upd H x o) { s with heap:=h',toks:=t' }:=I.un (Un.write mu he k heo) (I.hok.write mu he k heo new)
theorem Inv.weak {σ':List (Option V)} (I:Inv X pins σ H s) (hl:σ'.length=σ.length) (w:∀ (i:Nat) v,σ'[i]?=some (some v)→σ[i]?=some (some v)):Inv X pins σ' H s:=
 ⟨I.ok,I.os,I.bare,I.base,let ⟨m,hn,hl'⟩:=I.loc; ⟨m,hn,fun i x v e1 e2 e3=> hl' i x v e1 (w i v e2) e3⟩,I.cell,I.free,I.freeC,I.pin,I.hok,hl.trans I.len⟩
theorem Inv.pins_of {pins':List (Addr×Obj)} (I:Inv X pins σ H s) (h:∀ p∈pins',s.heap.get? p.1=some p.2∧H p.1=none∧p.1≠X.env.locals∧p.1 ∉ X.fs∧∀ v,p.2.data≠.cell v):Inv X pins' σ H s:=
 ⟨I.ok,I.os,I.bare,I.base,I.loc,I.cell,I.free,I.freeC,fun p hp=> (List.mem_append.mp hp).elim (fun z=> I.pin p (List.mem_append_left _ z)) (h p),I.hok,I.len⟩
theorem fG {N:List Str} (hN:N.Nodup) {i j:Nat} {x:Str} (a:N[i]?=some x) (b:N[j]?=some x):i=j:=by
 obtain ⟨h1,e1⟩:=List.getElem?_eq_some_iff.mp a
 obtain ⟨h2,e2⟩:=List.getElem?_eq_some_iff.mp b
 exact (List.getElem_inj hN).mp (e1.trans e2.symm)
theorem gi {M:Model} {A:Around} {E:Value→Shared→Prop} {i:Nat} {x:Str} {v:V} {u:Value} {Q:Unit→Shared→Prop} (I:Inv X pins σ H s) (hN:X.N.Nodup) (hi:X.N[i]?=some x) (hx:Loc X.env.scope x) (r:aK v u)
  (h:∀ s',Inv X pins (σ.set i (some v)) H s'→(∃ a,Heap.SameBut a s.heap s'.heap∧(a=X.env.locals∨X.env.cells.lookup x=some a))→Q () s') (hf:X.fn x=true∨X.env.scope.names.lookup x=some .local:=by first | exact .inl rfl | exact .inr rfl | assumption):wpAny M A (storeName X.env x u) Q E s:=by
 obtain ⟨m,hn,hl⟩:=id I.loc
 have hcls:(X.env.scope.kind==.class || (X.env.scope.kind==.module && X.env.locals !=X.env.globals))=false:=by rw [I.ok.kind]; rfl
 have hiσ:i < σ.length:=by rw [I.len]; exact (List.getElem?_eq_some_iff.mp hi).1
 have cne:=I.cne
 have tracked:∀ {a:Addr} {h':Heap},(∃ o,s.heap.get? a=some o∧H a=none)→Heap.SameBut a s.heap h'→HOk X.prog X.w H h':=fun {a h'} ha hs b ob e=> by
  obtain ⟨_,_,hfree⟩:=ha
  refine (I.hok b ob e).stay (fun c w' hc q=> (hs.2 c ?_).trans q) (fun _ q=> q) fun _ _ q=> q
  rintro rfl
  rcases hc with rfl | hc
  ·rw [hfree] at e; cases e
  ·rw [hfree] at hc; cases hc
 rcases hx with hk | hk
 ·refine wpAny_storeName_local hk hn (fun h' hn' hs=> ?_) hcls
  obtain ⟨oL,_,_,hoL,_⟩:=id hn
  refine h _ ⟨I.ok,I.os,I.bare,⟨fun b o e n hb hx=> ?_,fun b o e n hb hx=> ?_,I.base.free,fun b o e hx=> ?_,I.base.tups,I.base.frzs,I.base.tbls⟩,⟨_,hn',fun j y v' e1 e2 e3=> ?_⟩,fun y c e=> ?_,I.free,I.freeC,fun p hp=> ?_,tracked ⟨oL,hoL,I.free⟩ hs,by simpa using I.len⟩ ⟨_,hs,.inl rfl⟩
  ·exact (hs.2 b (Nat.ne_of_lt (Nat.lt_of_lt_of_le (Heap.lt_size e) I.ok.above))).trans (I.base.keep b o e n hb hx)
  ·obtain ⟨sl,e1⟩:=I.base.slot b o e n hb hx
   exact ⟨sl,(hs.2 b (Nat.ne_of_lt (Nat.lt_of_lt_of_le (Heap.lt_size e) I.ok.above))).trans e1⟩
  ·obtain ⟨o',e1⟩:=I.base.there b o e hx
   exact ⟨o',(hs.2 b (Nat.ne_of_lt (Nat.lt_of_lt_of_le (Heap.lt_size e) I.ok.above))).trans e1⟩
  ·by_cases hj:j=i
   ·subst hj
    rw [hi] at e1; cases e1
    rw [List.getElem?_set_self hiσ] at e2
    cases e2
    exact ⟨u,r,.inl ⟨hk,by simp⟩⟩
   ·rw [List.getElem?_set_ne (Ne.symm hj)] at e2
    obtain ⟨u',r',q⟩:=hl j y v' e1 e2 e3
    refine ⟨u',r',?_⟩
    rcases q with ⟨k,e⟩ | ⟨k,c,e,z⟩
    ·refine .inl ⟨k,?_⟩
     have:y≠x:=fun e=> hj (fG hN e1 (e ▸ hi))
     simp [this,e]
    ·exact .inr ⟨k,c,e,z.sameBut hs (cne y c e)⟩
  ·obtain ⟨w',z⟩:=I.cell y c e
   exact ⟨w',z.sameBut hs (cne y c e)⟩
  ·obtain ⟨e,n,ne,nf,d⟩:=I.pin p hp
   exact ⟨(hs.2 p.1 ne).trans e,n,ne,nf,d⟩
 ·have hfn:X.fn x=true:=by
   rcases hf with z | z
   ·exact z
   ·rw [z] at hk; cases hk
  obtain ⟨c,hc⟩:=I.ok.has x (.inl hk)
  obtain ⟨w',z⟩:=I.cell x c hc
  refine wpAny_storeName_cell I.ok.kind hk hc z (fun h' hc' hs=> ?_)
  obtain ⟨oc,hoc,hocd⟩:=id z
  refine h { s with heap:=h' } ⟨I.ok,I.os,I.bare,⟨fun b o e n hb hx=> ?_,fun b o e n hb hx=> ?_,I.base.free,fun b o e hx=> ?_,I.base.tups,I.base.frzs,I.base.tbls⟩,⟨m,hn.sameBut hs (Ne.symm (cne x c hc)),fun j y v' e1 e2 e3=> ?_⟩,fun y c' e=> ?_,I.free,I.freeC,fun p hp=> ?_,tracked ⟨oc,hoc,I.freeC x c hc⟩ hs,by simpa using I.len⟩ ⟨c,hs,.inr hc⟩
  ·exact (hs.2 b (Nat.ne_of_lt (Nat.lt_of_lt_of_le (Heap.lt_size e) (I.ok.cab x c hfn hc)))).trans (I.base.keep b o e n hb hx)
  ·obtain ⟨sl,e1⟩:=I.base.slot b o e n hb hx
   exact ⟨sl,(hs.2 b (Nat.ne_of_lt (Nat.lt_of_lt_of_le (Heap.lt_size e) (I.ok.cab x c hfn hc)))).trans e1⟩
  ·obtain ⟨o',e1⟩:=I.base.there b o e hx
   exact ⟨o',(hs.2 b (Nat.ne_of_lt (Nat.lt_of_lt_of_le (Heap.lt_size e) (I.ok.cab x c hfn hc)))).trans e1⟩
  ·by_cases hj:j=i
   ·subst hj
    rw [hi] at e1; cases e1
    rw [List.getElem?_set_self hiσ] at e2
    cases e2
    exact ⟨u,r,.inr ⟨.inl hk,c,hc,hc'⟩⟩
   ·rw [List.getElem?_set_ne (Ne.symm hj)] at e2
    obtain ⟨u',r',q⟩:=hl j y v' e1 e2 e3
    refine ⟨u',r',?_⟩
    rcases q with q | ⟨k,c',e,z'⟩
    ·exact .inl q
    ·refine .inr ⟨k,c',e,z'.sameBut hs ?_⟩
     rintro rfl
     exact hj (fG hN e1 (I.ok.inj _ _ _ e hc ▸ hi))
  ·by_cases hcc:c'=c
   ·subst hcc; exact ⟨_,hc'⟩
   ·obtain ⟨w2,z2⟩:=I.cell y c' e
    exact ⟨w2,z2.sameBut hs hcc⟩
  ·obtain ⟨e,n,ne,nf,d⟩:=I.pin p hp
   refine ⟨(hs.2 p.1 ?_).trans e,n,ne,nf,d⟩
   intro q
   rw [q,hoc] at e
   have q':oc=p.2:=Option.some.inj e
   exact d w' (by rw [← q']; exact hocd)
theorem ik {M:Model} {A:Around} {E:Value→Shared→Prop} {i:Nat} {x:Str} {v:V} {u:Value} {Q:Unit→Shared→Prop} (I:Inv X pins σ H s) (hN:X.N.Nodup) (hi:X.N[i]?=some x) (hx:Loc X.env.scope x) (r:aK v u)
  (h:∀ s',Inv X pins (σ.set i (some v)) H s'→Q () s') (hf:X.fn x=true∨X.env.scope.names.lookup x=some .local:=by first | exact .inl rfl | exact .inr rfl | assumption):wpAny M A (storeName X.env x u) Q E s:=
 gi I hN hi hx r (fun s' I' _=> h s' I') hf
theorem Inv.call' {s':Shared} {ch:List Addr} (I:Inv X pins σ H s) (ho:s'.os=s.os) (u:Un (frs X.stack) ch H H' s.heap s'.heap) (hok:HOk X.prog X.w H' s'.heap) (hg:AllBare s'.gens)
  (hch:∀ b∈ch,(b∈X.ex∨X.s₀.heap.objs.size≤b)∧b≠X.env.locals∧(∀ x c,X.env.cells.lookup x=some c→c≠b)∧∀ p∈X.pn++pins,p.1≠b):Inv X pins σ H' s':=by
 obtain ⟨h',g',d',t',o'⟩:=s'
 have e:o'=s.os:=ho
 subst e
 exact I.call (g':=g') (t':=t') (d':=d') u hok hg hch
end
abbrev XK:=Value→Option Addr→Hp→Prop
abbrev St:=List (Option V)
abbrev VK:=V→Hp→Prop
abbrev TE:=St→Hp→VK→Prop
abbrev TT:=St→Hp→(Bool→Hp→Prop)→Prop
abbrev TA:=St→Hp→(List V→Hp→Prop)→Prop
structure fw where
 nx:St→Hp→Prop
 rt:VK
 bk:St→Hp→Prop:=fun _ _=> False
 ct:St→Hp→Prop:=fun _ _=> False
abbrev TS:=fw→St→Hp→Prop
def EP (X:Cx) (pins:List (Addr×Obj)) (σ:St) (Q:VK) (u:Value) (s':Shared):Prop:=∃ v H',Inv X pins σ H' s'∧aK v u∧Q v H'
def TP (X:Cx) (pins:List (Addr×Obj)) (σ:St) (Q:Bool→Hp→Prop) (b:Bool) (s':Shared):Prop:=∃ H',Inv X pins σ H' s'∧Q b H'
def AP (X:Cx) (pins:List (Addr×Obj)) (σ:St) (Q:List V→Hp→Prop) (us:List Value) (s':Shared):Prop:=∃ vs H',Inv X pins σ H' s'∧aq vs us∧Q vs H'
def SP (X:Cx) (pins:List (Addr×Obj)) (D:fw) (f:Flow) (s':Shared):Prop:=
 match f with
 | .next=> ∃ σ' H',Inv X pins σ' H' s'∧D.nx σ' H'
 | .brk=> ∃ σ' H',Inv X pins σ' H' s'∧D.bk σ' H'
 | .cont=> ∃ σ' H',Inv X pins σ' H' s'∧D.ct σ' H'
 | .ret u=> ∃ v σ' H',Inv X pins σ' H' s'∧aK v u∧D.rt v H'
def PE (X:Cx) (e:Expr) (t:TE):Prop:=
 ∀ (pins:List (Addr×Obj)) (s:Shared) (σ:St) (H:Hp) (Q:VK),Inv X pins σ H s→t σ H Q→wpAny (model X.prog X.w) X.A (eval e X.env) (EP X pins σ Q) X.xe s
def PT (X:Cx) (e:Expr) (t:TT):Prop:=
 ∀ (pins:List (Addr×Obj)) (s:Shared) (σ:St) (H:Hp) (Q:Bool→Hp→Prop),Inv X pins σ H s→t σ H Q→wpAny (model X.prog X.w) X.A (isTrue e X.env (eval e X.env)) (TP X pins σ Q) X.xe s
def PW (X:Cx) (e:Expr) (t:TT):Prop:=
 ∀ (whole:Sem Value) (pins:List (Addr×Obj)) (s:Shared) (σ:St) (H:Hp) (Q:Bool→Hp→Prop),Inv X pins σ H s→t σ H Q→wpAny (model X.prog X.w) X.A (isTrue e X.env whole) (TP X pins σ Q) X.xe s
theorem PW.pt {X:Cx} {e:Expr} {t:TT} (h:PW X e t):PT X e t:=h _
def PA (X:Cx) (es:List Expr) (t:TA):Prop:=
 ∀ (pos:Pos) (pins:List (Addr×Obj)) (s:Shared) (σ:St) (H:Hp) (Q:List V→Hp→Prop),Inv X pins σ H s→t σ H Q→wpAny (model X.prog X.w) X.A (spliced (backTo pos (starEach es X.env))) (AP X pins σ Q) X.xe s
def PS (X:Cx) (st:Stmt) (t:TS):Prop:=
 ∀ (pins:List (Addr×Obj)) (s:Shared) (σ:St) (H:Hp) (D:fw),Inv X pins σ H s→t D σ H→wpAny (model X.prog X.w) X.A (exec st X.env) (SP X pins D) X.xe s
def PSs (X:Cx) (st:List Stmt) (t:TS):Prop:=
 ∀ (pins:List (Addr×Obj)) (s:Shared) (σ:St) (H:Hp) (D:fw),Inv X pins σ H s→t D σ H→wpAny (model X.prog X.w) X.A (execs st X.env) (SP X pins D) X.xe s
theorem thn {α:Type} {t:Sem α} {Q Q':α→Shared→Prop} {M:Model} {A:Around} {E:Value→Shared→Prop} {s:Shared} (h:wpAny M A t Q E s) (hQ:∀ a s,Q a s→Q' a s):wpAny M A t Q' E s:=wpAny_mono h hQ fun _ _ x=> x
end L2
namespace L2
open PySem PySem.Spec PyProof.Rows
section
variable {X:Cx}
def rR (i:Nat):TE:=fun σ H Q=> ∃ v,σ[i]?=some (some v)∧Q v H
def tC (v:V):TE:=fun _ H Q=> Q v H
theorem eA {i:Nat} {x:Str} {pos:Pos} (hN:X.N[i]?=some x) (hv:Vis X.env.scope x) (hd:(x==("__debug__":Str))=false:=by decide) (hcd:(x==("__classdict__":Str))=false:=by decide):PE X (.Name x pos) (rR i):=by
 intro pins s σ H Q I h
 obtain ⟨v,e,h⟩:=h
 obtain ⟨m,hn,hl⟩:=I.loc
 obtain ⟨u,r,l⟩:=hl i x v hN e hv
 have fin:EP X pins σ Q u s:=⟨v,H,I,r,h⟩
 rcases l with ⟨hk,hm⟩ | ⟨hk,c,hc,hcell⟩
 ·exact wpAny_Name (wpAny_loadName_local I.ok.kind hk hn hm fin) hd
 ·rcases hk with hk | hk
  ·exact wpAny_Name (wpAny_loadName_cell I.ok.kind hk hc hcell fin) hd
  ·exact wpAny_Name (wpAny_loadName_free I.ok.kind hk hc hcell fin hcd) hd
theorem p7 {i j pos}:PE X (.Constant (.int i) j pos) (tC (.int i)):=fun _ _ _ H _ I h=> wpAny_Constant_int ⟨.int i,H,I.tok _,⟨_,rfl⟩,h⟩
theorem qy {b j pos}:PE X (.Constant (.bool b) j pos) (tC (.bl b)):=fun _ _ _ H _ I h=> Constant_bool ⟨.bl b,H,I,rfl,h⟩
theorem o9 {j pos}:PE X (.Constant .none j pos) (tC .non):=fun _ _ _ H _ I h=> Constant_none ⟨.non,H,I,rfl,h⟩
theorem pU {x j pos}:PE X (.Constant (.str x) j pos) (tC (.str x)):=fun _ _ _ H _ I h=> Calls.Constant_str ⟨.str x,H,I.tok _,⟨_,rfl⟩,h⟩
def Gl (X:Cx) (x:Str):Prop:=X.env.kindOf x=some .globalImplicit
theorem d5 {E:Value→Shared→Prop} {pins:List (Addr×Obj)} {s:Shared} {σ:St} {H:Hp} {x:Str} {u:Value} {pos:Pos} {Q:Value→Shared→Prop} (I:Inv X pins σ H s) (hg:Gl X x) (hm:X.mg x=some u) (h:Q u s)
  (hd:(x==("__debug__":Str))=false:=by decide):wpAny (model X.prog X.w) X.A (eval (.Name x pos) X.env) Q E s:=
 Calls.Name_function_global I.ok.kind hg (Calls.loadGlobal_global (by rw [I.ok.glob]; exact I.mod.glob.keeps I.bk) hm h) hd
theorem cU {E:Value→Shared→Prop} {pins:List (Addr×Obj)} {s:Shared} {σ:St} {H:Hp} {x:Str} {u:Value} {pos:Pos} {Q:Value→Shared→Prop} (I:Inv X pins σ H s) (hg:Gl X x) (hm:X.mg x=none) (hv:bootBuiltins x=some u) (h:Q u s)
  (hn:x≠"__name__":=by decide) (hd:(x==("__debug__":Str))=false:=by decide):wpAny (model X.prog X.w) X.A (eval (.Name x pos) X.env) Q E s:=by
 obtain ⟨mb,h1,h2⟩:=I.mod.blt
 exact Calls.Name_function_global I.ok.kind hg (Calls.loadGlobal_builtin (by rw [I.ok.glob]; exact I.mod.glob.keeps I.bk) hm (by rw [I.ok.blt]; exact h1.keeps I.bk) ((h2 x hn).trans hv) h) hd
theorem nK {x:Str} {v:V} {u:Value} {pos:Pos} (hg:Gl X x) (hm:X.mg x=some u) (r:aK v u) (hd:(x==("__debug__":Str))=false:=by decide):PE X (.Name x pos) (tC v):=
 fun _ _ _ H _ I h=> d5 I hg hm ⟨v,H,I,r,h⟩ hd
theorem nt {x:Str} {v:V} {u:Value} {pos:Pos} (hg:Gl X x) (hm:X.mg x=none) (hv:bootBuiltins x=some u) (r:aK v u) (hn:x≠"__name__":=by decide) (hd:(x==("__debug__":Str))=false:=by decide):PE X (.Name x pos) (tC v):=
 fun _ _ _ H _ I h=> cU I hg hm hv ⟨v,H,I,r,h⟩ hn hd
variable {a b:Expr} {ta tb:TE} {pos:Pos}
def tB (t:TE):TT:=fun σ H Q=> t σ H fun x H1=> ∃ c,x=.bl c∧Q c H1
theorem pX {e:Expr} {t:TE} (h:PE X e t) (he:∀ whole,isTrue e X.env whole=(do let v ← whole; standAt e.pos; holding [v] (truthy v)):=by intro _; rfl):PT X e (tB t):=by
 intro pins s σ H Q I hw
 refine isTrue_plain (thn (h pins s σ H _ I hw) fun v s1 ⟨x,H1,I1,r1,q1⟩=> ?_) (he _)
 obtain ⟨d,rfl,q⟩:=q1
 cases r1
 exact wpAny_truthy_bool ⟨H1,I1,q⟩
variable {tA tB':TT} {rest:List Expr}
def ra (t u:TT):TT:=fun σ H Q=> t σ H fun c H1=> if c=true then u σ H1 Q else Q false H1
def tOr (t u:TT):TT:=fun σ H Q=> t σ H fun c H1=> if c=true then Q true H1 else u σ H1 Q
def rP (t:TT):TT:=fun σ H Q=> t σ H fun c H1=> Q (!c) H1
theorem n5 (ha:PT X a tA):PW X (.BoolOp .And [a] pos) tA:=by
 intro wh pins s σ H Q I h
 refine isTrue_and (thn (ha pins s σ H Q I h) fun c s1 e=> ?_)
 cases c with
 | true=> exact isTrue_and_nil e
 | false=> exact e
theorem oU (ha:PT X a tA):PW X (.BoolOp .Or [a] pos) tA:=by
 intro wh pins s σ H Q I h
 refine isTrue_or (thn (ha pins s σ H Q I h) fun c s1 e=> ?_)
 cases c with
 | false=> exact isTrue_or_nil e
 | true=> exact e
theorem lQ (ha:PT X a tA) (hb:PW X (.BoolOp .And (b::rest) pos) tB'):PW X (.BoolOp .And (a::b::rest) pos) (ra tA tB'):=by
 intro wh pins s σ H Q I h
 refine isTrue_and (thn (ha pins s σ H _ I h) fun c s1 ⟨H1,I1,q1⟩=> ?_)
 cases c with
 | true=> exact hb wh pins s1 σ H1 Q I1 q1
 | false=> exact ⟨H1,I1,q1⟩
theorem oQ (ha:PT X a tA) (hb:PW X (.BoolOp .Or (b::rest) pos) tB'):PW X (.BoolOp .Or (a::b::rest) pos) (tOr tA tB'):=by
 intro wh pins s σ H Q I h
 refine isTrue_or (thn (ha pins s σ H _ I h) fun c s1 ⟨H1,I1,q1⟩=> ?_)
 cases c with
 | true=> exact ⟨H1,I1,q1⟩
 | false=> exact hb wh pins s1 σ H1 Q I1 q1
theorem qb (ha:PT X a tA):PT X (.UnaryOp .Not a pos) (rP tA):=by
 intro pins s σ H Q I h
 exact isTrue_not (ha pins s σ H (fun c H1=> Q (!c) H1) I h)
def qQ (ta tb:TE):TE:=fun σ H Q=> ta σ H fun x H1=> ∃ c,x=.bl c∧if c=true then tb σ H1 Q else Q (.bl false) H1
def qW (ta:TE):TE:=fun σ H Q=> ta σ H fun x H1=> ∃ c,x=.bl c∧Q (.bl (!c)) H1
theorem oS {op} {t:TE} (h:PE X a t):PE X (.BoolOp op [a] pos) t:=fun pins s σ H Q I hw=> BoolOp_one (h pins s σ H Q I hw)
theorem k_ (ha:PE X a ta) (hb:PE X (.BoolOp .And (b::rest) pos) tb):PE X (.BoolOp .And (a::b::rest) pos) (qQ ta tb):=by
 intro pins s σ H Q I h
 refine BoolOp_and (thn (ha pins s σ H _ I h) fun v s1 ⟨x,H1,I1,r1,q1⟩=> ?_)
 obtain ⟨c,rfl,q1⟩:=q1
 cases r1
 refine wpAny_truthy_bool ?_
 cases c with
 | true=> exact hb pins s1 σ H1 Q I1 q1
 | false=> exact ⟨.bl false,H1,I1,rfl,q1⟩
theorem p6 (ha:PE X a ta):PE X (.UnaryOp .Not a pos) (qW ta):=by
 intro pins s σ H Q I h
 refine UnaryOp_ (thn (ha pins s σ H _ I h) fun v s1 ⟨x,H1,I1,r1,q1⟩=> ?_)
 obtain ⟨c,rfl,q1⟩:=q1
 cases r1
 exact not_of (wpAny_truthy_bool ⟨.bl (!c),H1,I1,rfl,q1⟩)
end
end L2
namespace L2
open PySem PySem.Spec PyProof.Rows
def SqL (K:PySem.W.Frag) (H:Hp) (a:Addr) (xs:List V):Prop:=
 Rd H a (.lst xs)∨
  ∃ (o:Obj) (its:Array Value) (n:Nat),K.lookup a=some o∧o.cls=.type "list"∧o.dict=none∧o.data=.seq its n∧its.size≤sizeLine∧aq xs its.toList
def SqT (K:PySem.W.Frag) (H:Hp) (a:Addr) (xs:List V):Prop:=
 Rd H a (.tup xs)∨
  ∃ (o:Obj) (its:Array Value) (n:Nat),K.lookup a=some o∧o.cls=.type "tuple"∧o.data=.seq its n∧its.size≤sizeLine∧aq xs its.toList
def rF:Value→Option V
 | .none=> some .non
 | .bool b=> some (.bl b)
 | .int i _=> some (.int i)
 | .str x _=> some (.str x)
 | .bytes b _=> some (.byt b)
 | .float b _=> some (.flt b)
 | .ref a=> some (.ref a)
 | .type n=> some (.ty n)
 | _=> none
theorem aK.abs {x:V} {u:Value} (r:aK x u):rF u=some x:=by
 cases x with
 | non=> cases r; rfl
 | bl _=> cases r; rfl
 | int _=> obtain ⟨t,rfl⟩:=r; rfl
 | str _=> obtain ⟨t,rfl⟩:=r; rfl
 | byt _=> obtain ⟨t,rfl⟩:=r; rfl
 | flt _=> obtain ⟨t,rfl⟩:=r; rfl
 | ref _=> cases r; rfl
 | ty _=> cases r; rfl
theorem aK.inj {x y:V} {u:Value} (r:aK x u) (q:aK y u):x=y:=Option.some.inj (r.abs.symm.trans q.abs)
theorem aq.inj:∀ {xs ys:List V} {us:List Value},aq xs us→aq ys us→xs=ys
 | _,_,_,.nil,.nil=> rfl
 | _,_,_,.cons r t,.cons r' t'=> by rw [r.inj r',aq.inj t t']
section
variable {X:Cx} {pins:List (Addr×Obj)} {σ:St} {H:Hp} {s:Shared} {a:Addr} {xs ys:List V}
theorem SqL.of {K:PySem.W.Frag} (h:H a=some (.lst xs)):SqL K H a xs:=.inl (.inl h)
theorem SqT.of {K:PySem.W.Frag} (h:H a=some (.tup xs)):SqT K H a xs:=.inl (.inl h)
theorem Inv.list (I:Inv X pins σ H s) (h:SqL X.K H a xs):∃ its:List Value,aq xs its∧PlainL s.heap a its.toArray∧xs.length≤sizeLine:=by
 rcases h with h | ⟨o,its,n,hk,hc,hd,hs,hz,r⟩
 ·obtain ⟨z,its,n,r,e⟩:=h.ok I.hok
  exact ⟨its,r,⟨_,n,e,rfl,rfl,rfl⟩,z⟩
 ·refine ⟨its.toList,r,⟨o,n,I.kIn a o hk,hc,hd,by simpa using hs⟩,?_⟩
  have e:=r.length
  simp only [Array.length_toList] at e
  omega
theorem Inv.tuple (I:Inv X pins σ H s) (h:SqT X.K H a xs):∃ its:List Value,aq xs its∧IsTup s.heap a its.toArray∧xs.length≤sizeLine:=by
 rcases h with h | ⟨o,its,n,hk,hc,hs,hz,r⟩
 ·obtain ⟨z,its,r,p⟩:=h.ok I.hok
  exact ⟨its,r,p,z⟩
 ·refine ⟨its.toList,r,⟨o,I.kIn a o hk,hc,n,by simpa using hs⟩,?_⟩
  have e:=r.length
  simp only [Array.length_toList] at e
  omega
theorem Inv.list_inj (I:Inv X pins σ H s) (h:SqL X.K H a xs) (h':SqL X.K H a ys):xs=ys:=by
 obtain ⟨its,r,⟨o,n,e,_,_,d⟩,_⟩:=I.list h
 obtain ⟨its',r',⟨o',n',e',_,_,d'⟩,_⟩:=I.list h'
 rw [e] at e'; cases e'
 rw [d] at d'
 injection d' with d1 _
 have:its=its':=by simpa using congrArg Array.toList d1
 subst this
 exact r.inj r'
theorem Inv.tuple_inj (I:Inv X pins σ H s) (h:SqT X.K H a xs) (h':SqT X.K H a ys):xs=ys:=by
 obtain ⟨its,r,⟨o,e,_,n,d⟩,_⟩:=I.tuple h
 obtain ⟨its',r',⟨o',e',_,n',d'⟩,_⟩:=I.tuple h'
 rw [e] at e'; cases e'
 rw [d] at d'
 injection d' with d1 _
 have:its=its':=by simpa using congrArg Array.toList d1
 subst this
 exact r.inj r'
end
abbrev Cx.wish (X:Cx) (E:Value→Shared→Prop):Cx:={ X with xe:=E }
abbrev Cx.nox (X:Cx):Cx:=X.wish fun _ _=> False
theorem Cx.Ok.wish {X:Cx} (ok:X.Ok) (E:Value→Shared→Prop):(X.wish E).Ok:=
 ⟨ok.mod,ok.kind,ok.glob,ok.blt,ok.above,ok.inj,ok.has,ok.cab,ok.hd,ok.frames,ok.stk,ok.exf,ok.bs,ok.bsz,ok.noex,ok.exfs,ok.funs,ok.frf⟩
theorem Cx.Ok.unwish {X:Cx} {E:Value→Shared→Prop} (ok:(X.wish E).Ok):X.Ok:=
 ⟨ok.mod,ok.kind,ok.glob,ok.blt,ok.above,ok.inj,ok.has,ok.cab,ok.hd,ok.frames,ok.stk,ok.exf,ok.bs,ok.bsz,ok.noex,ok.exfs,ok.funs,ok.frf⟩
section
variable {X:Cx} {pins:List (Addr×Obj)} {σ:St} {H:Hp} {s:Shared} {E:Value→Shared→Prop}
theorem Inv.wish (I:Inv X pins σ H s) (E:Value→Shared→Prop):Inv (X.wish E) pins σ H s:=⟨I.ok.wish E,I.os,I.bare,I.base,I.loc,I.cell,I.free,I.freeC,I.pin,I.hok,I.len⟩
theorem Inv.unwish (I:Inv (X.wish E) pins σ H s):Inv X pins σ H s:=⟨I.ok.unwish,I.os,I.bare,I.base,I.loc,I.cell,I.free,I.freeC,I.pin,I.hok,I.len⟩
theorem SP.unwish {D:fw} {f:Flow} {s':Shared} (h:SP (X.wish E) pins D f s'):SP X pins D f s':=by
 cases f with
 | next=> obtain ⟨σ',H',I,q⟩:=h; exact ⟨σ',H',I.unwish,q⟩
 | brk=> obtain ⟨σ',H',I,q⟩:=h; exact ⟨σ',H',I.unwish,q⟩
 | cont=> obtain ⟨σ',H',I,q⟩:=h; exact ⟨σ',H',I.unwish,q⟩
 | ret u=> obtain ⟨v,σ',H',I,r,q⟩:=h; exact ⟨v,σ',H',I.unwish,r,q⟩
theorem PSs.nox {st:List Stmt} {t:TS} (h:PSs X.nox st t):PSs X st t:=fun pins s σ H D I hw=>
 wpAny_mono (h pins s σ H D (I.wish _) hw) (fun _ _ q=> q.unwish) fun _ _ z=> False.elim z
end
section
variable {X:Cx} {st:Stmt} {rest:List Stmt} {t u:TS} {e:Expr} {te:TE} {pos:Pos}
def qB:TS:=fun D σ H=> D.nx σ H
def rO (t u:TS):TS:=fun D σ H=> t { D with nx:=u D } σ H
theorem oo:PSs X [] qB:=fun _ _ σ H _ I h=> wpAny_execs_nil ⟨σ,H,I,h⟩
theorem mT (h1:PS X st t) (h2:PSs X rest u):PSs X (st::rest) (rO t u):=by
 intro pins s σ H D I h
 refine wpAny_execs_cons (thn (h1 pins s σ H { D with nx:=u D } I h) fun f s1 q=> ?_)
 cases f with
 | next=>
  obtain ⟨σ',H',I',q⟩:=q
  exact h2 pins s1 σ' H' D I' q
 | ret v=> exact q
 | brk=> exact q
 | cont=> exact q
theorem Inv.quiet {pins:List (Addr×Obj)} {σ:St} {H:Hp} {s:Shared} (I:Inv X pins σ H s):interactive X.env=false:=by simp [interactive,I.ok.kind]
def qg (te:TE):TS:=fun D σ H=> te σ H fun _ H1=> D.nx σ H1
theorem eW (he:PE X e te) (hs:swapsWith e none pos.line X.env=pure false:=by rfl):PS X (.Expr e pos) (qg te):=by
 intro pins s σ H D I h
 exact wpAny_Expr_any (thn (he pins s σ H _ I h) fun v s1 ⟨x,H1,I1,r1,q1⟩=> ⟨σ,H1,I1,q1⟩) I.quiet hs
def rM (te:TE):TS:=fun D σ H=> te σ H D.rt
theorem g8 (he:PE X e te):PS X (.Return (some e) pos) (rM te):=by
 intro pins s σ H D I h
 exact wpAny_Return_some (thn (he pins s σ H _ I h) fun v s1 ⟨x,H1,I1,r1,q1⟩=> ⟨x,σ,H1,I1,r1,q1⟩)
def rS (c:TT) (t u:TS):TS:=fun D σ H=> c σ H fun b H1=> if b=true then t D σ H1 else u D σ H1
theorem oB {c:Expr} {a b:List Stmt} {tc:TT} (hc:PT X c tc) (ha:PSs X a t) (hb:PSs X b u):PS X (.If c a b pos) (rS tc t u):=by
 intro pins s σ H D I h
 refine wpAny_If (thn (hc pins s σ H _ I h) fun d s1 ⟨H1,I1,q1⟩=> ?_)
 cases d with
 | true=> exact ha pins s1 σ H1 D I1 q1
 | false=> exact hb pins s1 σ H1 D I1 q1
end
abbrev TG:=V→St→Hp→(St→Hp→Prop)→Prop
abbrev TGs:=List V→St→Hp→(St→Hp→Prop)→Prop
def PG (X:Cx) (target:Expr) (t:TG):Prop:=
 ∀ (pins:List (Addr×Obj)) (s:Shared) (σ:St) (H:Hp) (v:V) (u:Value) (Q:St→Hp→Prop),Inv X pins σ H s→aK v u→t v σ H Q→
  wpAny (model X.prog X.w) X.A (assign target X.env u) (fun _ s'=> ∃ σ' H',Inv X pins σ' H' s'∧Q σ' H') X.xe s
def PGs (X:Cx) (ts:List Expr) (t:TGs):Prop:=
 ∀ (pins:List (Addr×Obj)) (s:Shared) (σ:St) (H:Hp) (vs:List V) (us:List Value) (Q:St→Hp→Prop),Inv X pins σ H s→aq vs us→t vs σ H Q→
  wpAny (model X.prog X.w) X.A (assignInOrder ((assignEach ts X.env).map (·.2)) us) (fun _ s'=> ∃ σ' H',Inv X pins σ' H' s'∧Q σ' H') X.xe s
section
variable {X:Cx} {pos:Pos}
def j0 (i:Nat):TG:=fun v σ H Q=> Q (σ.set i (some v)) H
theorem dg {i:Nat} {x:Str} (hN:X.N.Nodup) (hi:X.N[i]?=some x) (hx:Loc X.env.scope x) (hf:X.fn x=true∨X.env.scope.names.lookup x=some .local:=by first | exact .inl rfl | exact .inr rfl | assumption):PG X (.Name x pos) (j0 i):=by
 intro pins s σ H v u Q I r h
 exact wpAny_assign_Name (ik I hN hi hx r (fun s' I'=> ⟨_,H,I',h⟩) hf)
def qG:TGs:=fun vs σ H Q=> vs=[]∧Q σ H
def oJ (t:TG) (u:TGs):TGs:=fun vs σ H Q=> ∃ v r,vs=v::r∧t v σ H fun σ' H'=> u r σ' H' Q
theorem nq:PGs X [] qG:=by
 intro pins s σ H vs us Q I r h
 obtain ⟨e,h⟩:=h
 subst e
 cases r
 exact assignInOrder_nil ⟨σ,H,I,h⟩
theorem iA {e:Expr} {es:List Expr} {t:TG} {u:TGs} (h1:PG X e t) (h2:PGs X es u)
  (hs:(assignEach (e::es) X.env).map (·.2)=assign e X.env::(assignEach es X.env).map (·.2):=by rfl):PGs X (e::es) (oJ t u):=by
 intro pins s σ H vs us Q I r h
 obtain ⟨v,vr,e1,h⟩:=h
 subst e1
 cases r with
 | cons r rr=>
  rw [hs]
  refine assignInOrder_cons (thn (h1 pins s σ H _ _ _ I r h) fun _ s1 ⟨σ1,H1,I1,q1⟩=> ?_)
  exact h2 pins s1 σ1 H1 _ _ Q I1 rr q1
def qk (K:PySem.W.Frag) (n:Nat) (t:TGs):TG:=fun v σ H Q=> ∃ a xs,v=.ref a∧SqT K H a xs∧xs.length=n∧t xs σ H Q
theorem pF {es:List Expr} {k:Nat} {t:TGs} {n:Nat} (hc:X.calm=true) (h:PGs X es t)
  (hn:(assignEach es X.env).length=n:=by rfl) (hst:(assignEach es X.env).findIdx? (·.1)=none:=by rfl):PG X (.Tuple es k pos) (qk X.K n t):=by
 intro pins s σ H v u Q I r hw
 obtain ⟨a,xs,e1,hq,hl,hw⟩:=hw
 subst e1
 cases r
 obtain ⟨its,rv,ht,hz⟩:=I.tuple hq
 refine assign_Tuple_tuple (I.ok.hd hc) ht (by simp [hn,← hl,rv.length]) hst fun h' hx=> ?_
 have I1:Inv X pins σ H { s with heap:=h' }:=I.kept (t':=s.toks) fun b o e=> hx b o (Nat.ne_of_lt (Heap.lt_size e)) e
 exact h pins _ σ H xs _ Q I1 (by simpa using rv) hw
def ri (te:TE) (g:TG):TS:=fun D σ H=> te σ H fun x H1=> g x σ H1 D.nx
theorem mK {i:Nat} {x:Str} {e:Expr} {te:TE} {pos':Pos} (hN:X.N.Nodup) (hi:X.N[i]?=some x) (hx:Loc X.env.scope x) (he:PE X e te) (hs:swapsWith e (some (.Name x pos')) pos.line X.env=pure false:=by rfl) (hf:X.fn x=true∨X.env.scope.names.lookup x=some .local:=by first | exact .inl rfl | exact .inr rfl | assumption):
  PS X (.Assign [.Name x pos'] e pos) (ri te (j0 i)):=by
 intro pins s σ H D I h
 refine wpAny_Assign_Name (thn (he pins s σ H _ I h) fun v s1 ⟨y,H1,I1,r1,q1⟩=> ?_) hs
 exact ik I1 hN hi hx r1 (fun s2 I2=> ⟨_,H1,I2,q1⟩) hf
end
section
variable {X:Cx} {pos:Pos}
def oZ (c:TT) (tb:TS):TS:=fun D σ H=> ∃ W:Nat→St→Hp→Prop,(∃ m,W m σ H)∧∀ m σ H,W m σ H→
 c σ H fun b H1=> if b=true then ∃ N:St→Hp→Prop,(∀ σ' H',N σ' H'→∃ m',m' < m∧W m' σ' H')∧tb { D with nx:=N,ct:=N,bk:=D.nx } σ H1 else D.nx σ H1
theorem mL {c:Expr} {body:List Stmt} {tc:TT} {tb:TS} (hp:PassesOwn (model X.prog X.w) X.A X.env X.xe) (hc:PT X c tc) (hb:PSs X body tb):PS X (.While c body [] pos) (oZ tc tb):=by
 intro pins s σ H D I h
 obtain ⟨W,⟨m0,w0⟩,turn⟩:=h
 refine wpAny_While (codeAny_whileLoop (fun n s'=> ∃ σ' H',Inv X pins σ' H' s'∧W n σ' H') ?_ m0 ⟨σ,H,I,w0⟩)
 rintro n s1 ⟨σ1,H1,I1,w1⟩
 refine wpAny_passesOwn hp (thn (hc pins s1 σ1 H1 _ I1 (turn n σ1 H1 w1)) fun b s2 ⟨H2,I2,q2⟩=> ?_)
 cases b with
 | true=>
  obtain ⟨N,hN,q2⟩:=q2
  rw [if_pos rfl]
  refine wpAny_passesOwn hp (thn (hb pins s2 σ1 H2 _ I2 q2) fun f s3 q3=> ?_)
  cases f with
  | next=>
   obtain ⟨σ3,H3,I3,n3⟩:=q3
   obtain ⟨m',hm,w3⟩:=hN σ3 H3 n3
   exact ⟨m',hm,σ3,H3,I3,w3⟩
  | cont=>
   obtain ⟨σ3,H3,I3,n3⟩:=q3
   obtain ⟨m',hm,w3⟩:=hN σ3 H3 n3
   exact ⟨m',hm,σ3,H3,I3,w3⟩
  | brk=> exact q3
  | ret v=> exact q3
 | false=>
  rw [if_neg Bool.false_ne_true]
  exact wpAny_execs_nil ⟨σ1,H2,I2,q2⟩
end
structure It where
 go:Nat→Hp→Prop
 yld:Nat→Hp→V→Hp→Prop
 stop:Nat→Hp→Prop
def fH (X:Cx) (pins:List (Addr×Obj)) (H:Hp) (b:Addr):Prop:=
 H b=none∧b≠X.env.locals∧b ∉ X.fs∧(b∈X.ex∨X.s₀.heap.objs.size≤b)∧(∀ x c,X.env.cells.lookup x=some c→c≠b)∧∀ p∈X.pn++pins,p.1≠b
theorem Inv.fpOk {X:Cx} {pins:List (Addr×Obj)} {σ:St} {H H':Hp} {s:Shared} {b:Addr} (I:Inv X pins σ H s) (hb:s.heap.objs.size≤b) (hn:H' b=none):fH X pins H' b:=by
 refine ⟨hn,Nat.ne_of_gt (Nat.lt_of_lt_of_le I.lt hb),I.nofs hb,.inr (Nat.le_trans I.sz hb),fun x c e z=> ?_,fun p hp z=> ?_⟩
 ·obtain ⟨v,q⟩:=I.cell x c e
  exact absurd (Nat.lt_of_lt_of_le q.lt (by rw [z]; exact hb)) (Nat.lt_irrefl _)
 ·exact absurd (Nat.lt_of_lt_of_le (Heap.lt_size (I.pin p hp).1) (by rw [z]; exact hb)) (Nat.lt_irrefl _)
structure nJ (P:Program) (w:World) (K:PySem.W.Frag) (tg:Expr) (J:It) (fp:List Addr) (it:Addr) (tn:Nat→Heap→Prop):Prop where
 mem:it∈fp
 obj:∀ i h,tn i h→∀ b∈fp,∃ o,h.get? b=some o∧∀ v,o.data≠.cell v
 keep:∀ i h h',tn i h→(∀ b∈fp,∀ o,h.get? b=some o→h'.get? b=some o)→tn i h'
 item:∀ (X:Cx),X.prog=P→X.w=w→X.K=K→X.calm=true→∀ (i:Nat) (pins:List (Addr×Obj)) (s:Shared) (σ:St) (H:Hp) (E:Value→Shared→Prop),Inv X pins σ H s→(∀ b∈fp,fH X pins H b)→tn i s.heap→J.go i H→
  wpAny (model P w) X.A (pyNext (.ref it)) (fun r s1=> ∃ u,r=some u∧
   wpAny (model P w) X.A (letOwnedTupleGo tg (.ref it) u) (fun _ s2=> ∃ x H',Inv X pins σ H' s2∧aK x u∧J.yld i H x H'∧tn (i+1) s2.heap∧∀ b∈fp,H' b=none) E s1) E s
 done:∀ (X:Cx),X.prog=P→X.w=w→X.K=K→X.calm=true→∀ (i:Nat) (pins:List (Addr×Obj)) (s:Shared) (σ:St) (H:Hp) (E:Value→Shared→Prop),Inv X pins σ H s→(∀ b∈fp,fH X pins H b)→tn i s.heap→J.stop i H→
  wpAny (model P w) X.A (pyNext (.ref it)) (fun r s1=> r=none∧Inv X pins σ H s1) E s
 self:∀ (A:Around) (i:Nat) (s:Shared) (Q:Value→Shared→Prop) (E:Value→Shared→Prop),tn i s.heap→Q (.ref it) s→wpAny (model P w) A (pyIter (.ref it)) Q E s
abbrev TI:=St→Hp→(It→Hp→Prop)→Prop
def PIE (X:Cx) (pins:List (Addr×Obj)) (σ:St) (tg:Expr) (R:It→Hp→Prop) (itv:Value) (s2:Shared):Prop:=
 ∃ (it:Addr) (fp:List Addr) (tn:Nat→Heap→Prop) (J:It) (H':Hp),itv=.ref it∧Inv X pins σ H' s2∧nJ X.prog X.w X.K tg J fp it tn∧tn 0 s2.heap∧(∀ b∈fp,fH X pins H' b)∧R J H'
def PI (X:Cx) (tg iter:Expr) (wi:TI):Prop:=
 ∀ (pins:List (Addr×Obj)) (s:Shared) (σ:St) (H:Hp) (R:It→Hp→Prop),Inv X pins σ H s→wi σ H R→
  wpAny (model X.prog X.w) X.A (eval iter X.env) (fun v s1=> wpAny (model X.prog X.w) X.A (pyIter v) (PIE X pins σ tg R) X.xe s1) X.xe s
theorem lu {M:Model} {A:Around} {E:Value→Shared→Prop} {s:Shared} {tg:Expr} {it:Addr} {u:Value} {o:Obj} {n:String} {vs:Array Value} {Q:Unit→Shared→Prop} (ho:s.heap.get? it=some o) (hc:o.cls=.type n) (hd:o.data=.fields vs)
  (hn:["enumerate","zip","dict_itemiterator","dict_reverseitemiterator","odict_iterator","itertools.zip_longest","itertools.pairwise"].contains n=false) (hQ:Q () s):wpAny M A (letOwnedTupleGo tg (.ref it) u) Q E s:=by
 unfold letOwnedTupleGo
 cases tg <;> first
  | exact wpAny_pure hQ
  | (cases u <;> first
    | exact wpAny_pure hQ
    | (refine wpAny_bind (wpAny_load ho ?_)
       rw [hc,hd]
       show wpAny M A (if (["enumerate","zip","dict_itemiterator","dict_reverseitemiterator","odict_iterator","itertools.zip_longest","itertools.pairwise"].contains n && vs[0]?==some (rawInt _))=true then _ else _) Q E s
       rw [if_neg (by intro h; rw [hn,Bool.false_and] at h; cases h)]
       exact wpAny_pure hQ))
def Itl (K:PySem.W.Frag) (a:Addr):It:=
 ⟨fun i H=> ∃ xs x,SqL K H a xs∧xs[i]?=some x,fun i H x H'=> H'=H∧∀ xs,SqL K H a xs→xs[i]?=some x,fun i H=> ∃ xs,SqL K H a xs∧xs.length≤i⟩
def Itt (K:PySem.W.Frag) (a:Addr):It:=
 ⟨fun i H=> ∃ xs x,SqT K H a xs∧xs[i]?=some x,fun i H x H'=> H'=H∧∀ xs,SqT K H a xs→xs[i]?=some x,fun i H=> ∃ xs,SqT K H a xs∧xs.length≤i⟩
def Itr (lo:Int) (n:Nat):It:=⟨fun i _=> i < n,fun i H x H'=> H'=H∧x=.int (lo+i),fun i _=> n≤i⟩
theorem kc {P:Program} {w:World} {K:PySem.W.Frag} {tg:Expr} (a it:Addr):nJ P w K tg (Itl K a) [it] it (fun i h=> h.IsListIter it a i) where
 mem:=by simp
 obj:=fun i h st b hb=> by
  have e:b=it:=by simpa using hb
  subst e
  obtain ⟨o,e,c,d⟩:=st
  exact ⟨o,e,fun v z=> by rw [d] at z; cases z⟩
 keep:=fun i h h' st k=> st.at fun o e=> k it (by simp) o e
 item:=by
  intro X hP hw hK hc i pins s σ H E I hf st hg
  subst hP hw hK
  obtain ⟨xs,x,hq,hx⟩:=hg
  obtain ⟨its,rv,p,hz⟩:=I.list hq
  obtain ⟨u,hu,ru⟩:=rv.get hx
  obtain ⟨f0,f1,f2,f3,f4,f5⟩:=hf it (by simp)
  refine wpAny_pyNext_list_item st p.isList (x:=u) (by simpa using hu) fun h' st' sb=> ?_
  have I1:Inv X pins σ H { s with heap:=h' }:=I.turned (t':=s.toks) (fun b o hb e=> (sb.2 b hb).trans e) f0 f1 f3 f4 f5
  obtain ⟨o,e,c,d⟩:=id st'
  exact ⟨u,rfl,lu (s:={ s with heap:=h' }) e c d (by decide) ⟨x,H,I1,ru,⟨rfl,fun ys hy=> by rw [I.list_inj hy hq]; exact hx⟩,st',fun b hb=> (hf b hb).1⟩⟩
 done:=by
  intro X hP hw hK hc i pins s σ H E I hf st hg
  subst hP hw hK
  obtain ⟨xs,hq,hx⟩:=hg
  obtain ⟨its,rv,p,hz⟩:=I.list hq
  obtain ⟨f0,f1,f2,f3,f4,f5⟩:=hf it (by simp)
  have hl:=rv.length
  exact wpAny_pyNext_list_end (I.ok.hd hc) st p.isList (by simp; omega) fun h' eb=> ⟨rfl,I.turned (t':=s.toks) (fun b o hb e=> eb b o hb e) f0 f1 f3 f4 f5⟩
 self:=fun _ _ _ _ _ st h=> wpAny_pyIter_listiter st h
theorem i_ {P:Program} {w:World} {K:PySem.W.Frag} {tg:Expr} (a it:Addr):nJ P w K tg (Itt K a) [it] it (fun i h=> h.IsTupleIter it a i) where
 mem:=by simp
 obj:=fun i h st b hb=> by
  have e:b=it:=by simpa using hb
  subst e
  obtain ⟨o,e,c,d⟩:=st
  exact ⟨o,e,fun v z=> by rw [d] at z; cases z⟩
 keep:=fun i h h' st k=> st.at fun o e=> k it (by simp) o e
 item:=by
  intro X hP hw hK hc i pins s σ H E I hf st hg
  subst hP hw hK
  obtain ⟨xs,x,hq,hx⟩:=hg
  obtain ⟨its,rv,p,hz⟩:=I.tuple hq
  obtain ⟨u,hu,ru⟩:=rv.get hx
  obtain ⟨f0,f1,f2,f3,f4,f5⟩:=hf it (by simp)
  refine wpAny_pyNext_tuple_item st (show s.heap.IsTuple a its.toArray from p) (x:=u) (by simpa using hu) fun h' st' sb=> ?_
  have I1:Inv X pins σ H { s with heap:=h' }:=I.turned (t':=s.toks) (fun b o hb e=> (sb.2 b hb).trans e) f0 f1 f3 f4 f5
  obtain ⟨o,e,c,d⟩:=id st'
  exact ⟨u,rfl,lu (s:={ s with heap:=h' }) e c d (by decide) ⟨x,H,I1,ru,⟨rfl,fun ys hy=> by rw [I.tuple_inj hy hq]; exact hx⟩,st',fun b hb=> (hf b hb).1⟩⟩
 done:=by
  intro X hP hw hK hc i pins s σ H E I hf st hg
  subst hP hw hK
  obtain ⟨xs,hq,hx⟩:=hg
  obtain ⟨its,rv,p,hz⟩:=I.tuple hq
  obtain ⟨f0,f1,f2,f3,f4,f5⟩:=hf it (by simp)
  have hl:=rv.length
  exact wpAny_pyNext_tuple_end (I.ok.hd hc) st (show s.heap.IsTuple a its.toArray from p) (by simp; omega) fun h' eb=> ⟨rfl,I.turned (t':=s.toks) (fun b o hb e=> eb b o hb e) f0 f1 f3 f4 f5⟩
 self:=fun _ _ _ _ _ st h=> wpAny_pyIter_tupleiter st h
theorem jp {P:Program} {w:World} {K:PySem.W.Frag} {tg:Expr} (it:Addr) (lo:Int) (n:Nat):nJ P w K tg (Itr lo n) [it] it (fun i h=> IsRangeIter h it (lo+(i:Nat) * 1) ((n:Int) - (i:Nat)) 1) where
 mem:=by simp
 obj:=fun i h st b hb=> by
  have e:b=it:=by simpa using hb
  subst e
  exact ⟨_,st,fun v z=> by
   have z':Data.fields _=Data.cell v:=z
   cases z'⟩
 keep:=fun i h h' st k=> k it (by simp) _ st
 item:=by
  intro X hP hw hK hc i pins s σ H E I hf st hg
  subst hP hw hK
  obtain ⟨f0,f1,f2,f3,f4,f5⟩:=hf it (by simp)
  have W:=Walks.range (prog:=X.prog) (w:=X.w) (I.ok.hd hc) it lo 1 n
  refine W.item i s _ _ hg st fun v h' tk hv st' kk=> ?_
  obtain ⟨t,rfl⟩:=hv
  have I1:Inv X pins σ H { s with heap:=h',toks:=tk }:=I.turned (fun b o hb e=> kk b o (by simpa using hb) e) f0 f1 f3 f4 f5
  refine ⟨_,rfl,lu (s:={ s with heap:=h',toks:=tk }) (n:="range_iterator") st' rfl rfl (by decide) ⟨.int (lo+i),H,I1,⟨t,?_⟩,⟨rfl,rfl⟩,st',fun b hb=> (hf b hb).1⟩⟩
  rw [Int.mul_one]
 done:=by
  intro X hP hw hK hc i pins s σ H E I hf st hg
  subst hP hw hK
  obtain ⟨f0,f1,f2,f3,f4,f5⟩:=hf it (by simp)
  exact wpAny_pyNext_range_end (I.ok.hd hc) st (by have:n≤i:=hg; omega) fun h' eb=> ⟨rfl,I.turned (t':=s.toks) (fun b o hb e=> eb b o hb e) f0 f1 f3 f4 f5⟩
 self:=fun _ _ _ _ _ st h=> wpAny_pyIter_rangeiter st h
end L2
namespace L2
open PySem PySem.Spec PyProof.Rows
section
variable {X:Cx} {tg:Expr}
def qq (K:PySem.W.Frag) (tl:TE):TI:=fun σ H R=> tl σ H fun x H1=> ∃ a,x=.ref a∧(∃ xs,SqL K H1 a xs)∧R (Itl K a) H1
def rB (K:PySem.W.Frag) (tl:TE):TI:=fun σ H R=> tl σ H fun x H1=> ∃ a,x=.ref a∧(∃ xs,SqT K H1 a xs)∧R (Itt K a) H1
theorem nH {l:Expr} {tl:TE} (hl:PE X l tl):PI X tg l (qq X.K tl):=by
 intro pins s σ H R I h
 refine thn (hl pins s σ H _ I h) fun v s1 ⟨x,H1,I1,r1,q1⟩=> ?_
 obtain ⟨a,e,⟨xs,hq⟩,q⟩:=q1
 subst e
 cases r1
 obtain ⟨its,rv,p,hz⟩:=I1.list hq
 refine wpAny_pyIter_list p.isList ?_
 refine ⟨s1.heap.objs.size,[s1.heap.objs.size],_,_,H1,rfl,I1.kept (t':=s1.toks) fun b o e=> Heap.get?_push_of_some _ e,kc a _,⟨_,Heap.get?_push_size _ rfl,rfl,rfl⟩,fun b hb=> ?_,q⟩
 have e:b=s1.heap.objs.size:=by simpa using hb
 subst e
 exact I1.fpOk (Nat.le_refl _) (I1.hok.fresh (Nat.le_refl _))
theorem pJ {l:Expr} {tl:TE} (hl:PE X l tl):PI X tg l (rB X.K tl):=by
 intro pins s σ H R I h
 refine thn (hl pins s σ H _ I h) fun v s1 ⟨x,H1,I1,r1,q1⟩=> ?_
 obtain ⟨a,e,⟨xs,hq⟩,q⟩:=q1
 subst e
 cases r1
 obtain ⟨its,rv,p,hz⟩:=I1.tuple hq
 refine wpAny_pyIter_tuple (show s1.heap.IsTuple a its.toArray from p) ?_
 refine ⟨s1.heap.objs.size,[s1.heap.objs.size],_,_,H1,rfl,I1.kept (t':=s1.toks) fun b o e=> Heap.get?_push_of_some _ e,i_ a _,⟨_,Heap.get?_push_size _ rfl,rfl,rfl⟩,fun b hb=> ?_,q⟩
 have e:b=s1.heap.objs.size:=by simpa using hb
 subst e
 exact I1.fpOk (Nat.le_refl _) (I1.hok.fresh (Nat.le_refl _))
theorem lf {pins:List (Addr×Obj)} {σ:St} {H:Hp} {s:Shared} {R:It→Hp→Prop} {E:Value→Shared→Prop} {lo hi:Int} {t u v:Tok} {tk:Nat} (I:Inv X pins σ H s) (h1:-(2 ^ 62)≤lo) (h2:lo < 2 ^ 62) (h3:-(2 ^ 62)≤hi) (h4:hi < 2 ^ 62)
  (q:R (Itr lo (hi - lo).toNat) H):wpAny (model X.prog X.w) X.A (pyIter (.ref s.heap.objs.size)) (PIE X pins σ tg R) E { s with heap:=s.heap.push { cls:=.type "range",data:=.fields #[.int lo t,.int hi u,.int 1 v] },toks:=tk }:=by
 refine wpAny_pyIter_range (IsRange.new ..) (small_one h1 h2 h3 h4) ?_
 have I1:Inv X pins σ H { s with heap:=s.heap.push { cls:=.type "range",data:=.fields #[.int lo t,.int hi u,.int 1 v] },toks:=tk }:=I.kept fun b o e=> Heap.get?_push_of_some _ e
 refine ⟨(s.heap.push { cls:=.type "range",data:=.fields #[.int lo t,.int hi u,.int 1 v] }).objs.size,[(s.heap.push { cls:=.type "range",data:=.fields #[.int lo t,.int hi u,.int 1 v] }).objs.size],_,_,H,rfl,
  I1.kept (t':=tk) fun b o e=> Heap.get?_push_of_some _ e,jp _ lo (hi - lo).toNat,?_,fun b hb=> ?_,q⟩
 ·have e1:lo+((0:Nat):Int) * 1=lo:=by simp
  have e2:(((hi - lo).toNat:Nat):Int) - ((0:Nat):Int)=Builtin.Range.rangeSize lo hi 1:=by rw [rangeSize_one]; split <;> omega
  show IsRangeIter _ _ (lo+((0:Nat):Int) * 1) ((((hi - lo).toNat:Nat):Int) - ((0:Nat):Int)) 1
  rw [e1,e2]
  exact Heap.get?_push_size _ rfl
 ·have e:b=(s.heap.push { cls:=.type "range",data:=.fields #[.int lo t,.int hi u,.int 1 v] }).objs.size:=by simpa using hb
  subst e
  exact I1.fpOk (Nat.le_refl _) (I1.hok.fresh (Nat.le_refl _))
def qH (ta:TA):TI:=fun σ H R=> ta σ H fun vs H1=> ∃ i j:Int,vs=[.int i,.int j]∧(-(2 ^ 62)≤i∧i < 2 ^ 62∧-(2 ^ 62)≤j∧j < 2 ^ 62)∧R (Itr i (j - i).toNat) H1
theorem kP {a b:Expr} {ta:TA} {p pos:Pos} (hg:Gl X "range") (hm:X.mg "range"=none) (ha:PA X [a,b] ta) (hs:starEach [a,b] X.env=[(false,eval a X.env),(false,eval b X.env)]:=by rfl) (hs2:starEach [b] X.env=[(false,eval b X.env)]:=by rfl):
  PI X tg (.Call (.Name "range" p) [a,b] [] pos) (qH ta):=by
 intro pins s σ H R I h
 refine Call_ (cU I hg hm boot_range (PyProof.Rows.callWith_type1 (thn (ha pos pins s σ H _ I h) fun us s1 ⟨vs,H1,I1,r1,q1⟩=> ?_) (by rw [hs,hs2]) (by rw [hs2]; rfl)))
 obtain ⟨i,j,e,⟨q1,q2,q3,q4⟩,q⟩:=q1
 subst e
 cases r1 with
 | cons r rr=>
  cases rr with
  | cons r' rr=>
   cases rr
   obtain ⟨t,rfl⟩:=r
   obtain ⟨t',rfl⟩:=r'
   exact call_range_2 (lf I1 q1 q2 q3 q4 q)
def rc (wi:TI) (g:TG) (tb:TS):TS:=fun D σ H=> wi σ H fun J H1=> ∃ W:Nat→Nat→St→Hp→Prop,(∃ m,W 0 m σ H1)∧∀ i m σ H,W i m σ H→
 (J.stop i H∧D.nx σ H)∨(J.go i H∧∃ N:St→Hp→Prop,(∀ σ' H',N σ' H'→∃ m',m' < m∧W (i+1) m' σ' H')∧∀ x H',J.yld i H x H'→g x σ H' fun σ2 H2=> tb { D with nx:=N,ct:=N,bk:=D.nx } σ2 H2)
def gU (fp:List Addr) (h:Heap):List (Addr×Obj):=fp.filterMap fun b=> (h.get? b).map fun o=> (b,o)
theorem bQ {fp:List Addr} {h:Heap} {b:Addr} {o:Obj} (hb:b∈fp) (e:h.get? b=some o):(b,o)∈gU fp h:=List.mem_filterMap.mpr ⟨b,hb,by rw [e]; rfl⟩
theorem j6 {fp:List Addr} {h:Heap} {p:Addr×Obj} (hp:p∈gU fp h):p.1∈fp∧h.get? p.1=some p.2:=by
 obtain ⟨b,hb,e⟩:=List.mem_filterMap.mp hp
 cases q:h.get? b with
 | none=> rw [q] at e; cases e
 | some o=>
  rw [q] at e
  have e':(b,o)=p:=Option.some.inj e
  subst e'
  exact ⟨hb,q⟩
theorem Inv.pinned {pins:List (Addr×Obj)} {σ:St} {H:Hp} {s:Shared} {fp:List Addr} (I:Inv X pins σ H s) (hf:∀ b∈fp,fH X pins H b) (ho:∀ b∈fp,∃ o,s.heap.get? b=some o∧∀ v,o.data≠.cell v):Inv X (pins++gU fp s.heap) σ H s:=
 I.pins_of fun p hp=> (List.mem_append.mp hp).elim (fun z=> I.pin p (List.mem_append_right _ z)) fun z=> by
  obtain ⟨hb,e⟩:=j6 z
  obtain ⟨f0,f1,f2,_⟩:=hf p.1 hb
  obtain ⟨o,e',d⟩:=ho p.1 hb
  rw [e] at e'; cases e'
  exact ⟨e,f0,f1,f2,d⟩
theorem Inv.unpinned {pins pl:List (Addr×Obj)} {σ:St} {H:Hp} {s:Shared} (I:Inv X (pins++pl) σ H s):Inv X pins σ H s:=I.pins_of fun p hp=> I.pin p (List.mem_append_right _ (List.mem_append_left _ hp))
theorem qa {iter:Expr} {body:List Stmt} {wi:TI} {g:TG} {tb:TS} {pos:Pos} (hp:PassesOwn (model X.prog X.w) X.A X.env X.xe) (hc:X.calm=true) (hi:PI X tg iter wi) (hg:PG X tg g) (hb:PSs X body tb)
  (hs:∀ x,foldedSetIterable iter X.env x=pure x:=by intro _; rfl):PS X (.For tg iter body [] pos) (rc wi g tb):=by
 intro pins s σ H D I h
 refine wpAny_For (thn (hi pins s σ H _ I h) fun v s1 h1=> thn h1 fun itv s2 h2=> ?_) hs
 obtain ⟨it,fp,tn,J,H2,e,I2,T,st2,f2,W,⟨m0,w0⟩,turn⟩:=h2
 subst e
 have stat:∀ {H':Hp},(∀ b∈fp,H' b=none)→∀ b∈fp,fH X pins H' b:=fun hn b hb=> ⟨hn b hb,(f2 b hb).2⟩
 refine codeAny_forLoop_any (fun n s'=> ∃ i σ' H',Inv X pins σ' H' s'∧tn i s'.heap∧(∀ b∈fp,H' b=none)∧W i n σ' H') ?_ m0 ⟨0,σ,H2,I2,st2,fun b hb=> (f2 b hb).1,w0⟩
 rintro n s3 ⟨i,σ3,H3,I3,st3,fr3,w3⟩
 rcases turn i n σ3 H3 w3 with ⟨stop,qn⟩ | ⟨go,N,hN,step⟩
 ·refine wpAny_passesOwn hp (thn (T.done X rfl rfl rfl hc i pins s3 σ3 H3 X.xe I3 (stat fr3) st3 stop) fun r s4 ⟨hr,I4⟩=> ?_)
  subst hr
  exact wpAny_execs_nil ⟨σ3,H3,I4,qn⟩
 ·refine wpAny_passesOwn hp (thn (T.item X rfl rfl rfl hc i pins s3 σ3 H3 X.xe I3 (stat fr3) st3 go) fun r s4 ⟨u,hr,h4⟩=> ?_)
  subst hr
  refine wpAny_passesOwn hp (thn h4 fun _ s5 ⟨x,H5,I5,r5,y5,st5,fr5⟩=> ?_)
  have I5':=I5.pinned (stat fr5) (T.obj _ _ st5)
  refine wpAny_passesOwn hp (thn (hg _ s5 σ3 H5 x u _ I5' r5 (step x H5 y5)) fun _ s6 ⟨σ6,H6,I6,q6⟩=> ?_)
  refine wpAny_passesOwn hp (thn (hb _ s6 σ6 H6 _ I6 q6) fun f s7 q7=> ?_)
  have again:∀ {σ7:St} {H7:Hp},Inv X (pins++gU fp s5.heap) σ7 H7 s7→N σ7 H7→∃ m,m < n∧∃ i σ' H',Inv X pins σ' H' s7∧tn i s7.heap∧(∀ b∈fp,H' b=none)∧W i m σ' H':=fun {σ7 H7} I7 n7=> by
   obtain ⟨m',hm,w7⟩:=hN σ7 H7 n7
   refine ⟨m',hm,i+1,σ7,H7,I7.unpinned,T.keep _ _ _ st5 fun b hb o e=> (I7.pin (b,o) (List.mem_append_right _ (List.mem_append_right _ (bQ hb e)))).1,fun b hb=> ?_,w7⟩
   obtain ⟨o,e,d⟩:=T.obj _ _ st5 b hb
   exact (I7.pin (b,o) (List.mem_append_right _ (List.mem_append_right _ (bQ hb e)))).2.1
  cases f with
  | next=> obtain ⟨σ7,H7,I7,n7⟩:=q7; exact again I7 n7
  | cont=> obtain ⟨σ7,H7,I7,n7⟩:=q7; exact again I7 n7
  | brk=> obtain ⟨σ7,H7,I7,q7⟩:=q7; exact ⟨σ7,H7,I7.unpinned,q7⟩
  | ret v=> obtain ⟨x7,σ7,H7,I7,r7,q7⟩:=q7; exact ⟨x7,σ7,H7,I7.unpinned,r7,q7⟩
end
end L2
namespace L2
open PySem PySem.Spec PyProof.Rows
abbrev R2:=V→V→Hp→VK→Prop
def OpR (X:Cx) (f:Value→Value→Sem Value) (r:R2):Prop:=
 ∀ (pins:List (Addr×Obj)) (s:Shared) (σ:St) (H:Hp) (x y:V) (v u:Value) (Q:VK),Inv X pins σ H s→aK x v→aK y u→r x y H Q→
  wpAny (model X.prog X.w) X.A (f v u) (EP X pins σ Q) X.xe s
def UnR (X:Cx) (f:Value→Sem Value) (r:V→Hp→VK→Prop):Prop:=
 ∀ (pins:List (Addr×Obj)) (s:Shared) (σ:St) (H:Hp) (x:V) (v:Value) (Q:VK),Inv X pins σ H s→aK x v→r x H Q→
  wpAny (model X.prog X.w) X.A (f v) (EP X pins σ Q) X.xe s
def cb (X:Cx) (f:Value) (r:List V→Hp→VK→Prop):Prop:=
 ∀ (pins:List (Addr×Obj)) (s:Shared) (σ:St) (H:Hp) (xs:List V) (us:List Value) (Q:VK),Inv X pins σ H s→aq xs us→r xs H Q→
  wpAny (model X.prog X.w) X.A (call f us) (EP X pins σ Q) X.xe s
def tOp (r:R2) (ta tb:TE):TE:=fun σ H Q=> ta σ H fun x H1=> tb σ H1 fun y H2=> r x y H2 Q
def tUn (r:V→Hp→VK→Prop) (ta:TE):TE:=fun σ H Q=> ta σ H fun x H1=> r x H1 Q
def rI (C:Int→Int→Prop) (g:Int→Int→V):R2:=fun x y H Q=> ∃ i j,x=.int i∧y=.int j∧C i j∧Q (g i j) H
def rI0 (g:Int→Int→V):R2:=fun x y H Q=> ∃ i j,x=.int i∧y=.int j∧Q (g i j) H
def rU (g:Int→V):V→Hp→VK→Prop:=fun x H Q=> ∃ i,x=.int i∧Q (g i) H
section
variable {X:Cx} {a b c:Expr} {ta tb tc:TE} {pos:Pos}
theorem pP (ha:PE X a ta) (hb:PE X b tb) {pins:List (Addr×Obj)} {s:Shared} {σ:St} {H:Hp} {R:V→V→Hp→Prop} (I:Inv X pins σ H s)
  (h:ta σ H fun x H1=> tb σ H1 fun y H2=> R x y H2) {Q:Value→Shared→Prop} {f:Value→Value→Sem Value}
  (hf:∀ v u s2 x y H2,Inv X pins σ H2 s2→aK x v→aK y u→R x y H2→wpAny (model X.prog X.w) X.A (f v u) Q X.xe s2):
  wpAny (model X.prog X.w) X.A (eval a X.env) (fun v s₁=> wpAny (model X.prog X.w) X.A (eval b X.env) (fun u s₂=> wpAny (model X.prog X.w) X.A (f v u) Q X.xe s₂) X.xe s₁) X.xe s:=by
 refine thn (ha pins s σ H _ I h) fun v s1 ⟨x,H1,I1,r1,q1⟩=> ?_
 refine thn (hb pins s1 σ H1 _ I1 q1) fun u s2 ⟨y,H2,I2,r2,q2⟩=> ?_
 exact hf v u s2 x y H2 I2 r1 r2 q2
theorem iw {op:Operator} {r:R2} (ho:OpR X (binaryOp op) r) (ha:PE X a ta) (hb:PE X b tb):PE X (.BinOp a op b pos) (tOp r ta tb):=by
 intro pins s σ H Q I h
 exact wpAny_BinOp (pP ha hb I h fun v u s2 x y H2 I2 rx ry q=> ho pins s2 σ H2 x y v u Q I2 rx ry q)
theorem qm {op:UnaryOp} {r:V→Hp→VK→Prop} (ho:UnR X (unaryOp op) r) (ha:PE X a ta):PE X (.UnaryOp op a pos) (tUn r ta):=by
 intro pins s σ H Q I h
 exact UnaryOp_ (thn (ha pins s σ H _ I h) fun v s1 ⟨x,H1,I1,r1,q1⟩=> ho pins s1 σ H1 x v Q I1 r1 q1)
theorem opI {f:Value→Value→Sem Value} {C:Int→Int→Prop} {g:Int→Int→Int}
  (rule:∀ (i j:Int) (t u:Tok) (s:Shared) (Q:Value→Shared→Prop) (E:Value→Shared→Prop),C i j→Q (.int (g i j) s.toks) { s with toks:=s.toks+1 }→wpAny (model X.prog X.w) X.A (f (.int i t) (.int j u)) Q E s):
  OpR X f (rI C fun i j=> .int (g i j)):=by
 intro pins s σ H x y v u Q I rx ry h
 obtain ⟨i,j,rfl,rfl,hc,q⟩:=h
 obtain ⟨t,rfl⟩:=rx
 obtain ⟨t',rfl⟩:=ry
 exact rule i j t t' s _ _ hc ⟨.int (g i j),H,I.tok _,⟨_,rfl⟩,q⟩
theorem qd {f:Value→Value→Sem Value} {g:Int→Int→Int}
  (rule:∀ (i j:Int) (t u:Tok) (s:Shared) (Q:Value→Shared→Prop) (E:Value→Shared→Prop),Q (.int (g i j) s.toks) { s with toks:=s.toks+1 }→wpAny (model X.prog X.w) X.A (f (.int i t) (.int j u)) Q E s):
  OpR X f (rI0 fun i j=> .int (g i j)):=by
 intro pins s σ H x y v u Q I rx ry h
 obtain ⟨i,j,rfl,rfl,q⟩:=h
 obtain ⟨t,rfl⟩:=rx
 obtain ⟨t',rfl⟩:=ry
 exact rule i j t t' s _ _ ⟨.int (g i j),H,I.tok _,⟨_,rfl⟩,q⟩
theorem oR {f:Value→Value→Sem Value} {g:Int→Int→Bool}
  (rule:∀ (i j:Int) (t u:Tok) (s:Shared) (Q:Value→Shared→Prop) (E:Value→Shared→Prop),Q (.bool (g i j)) s→wpAny (model X.prog X.w) X.A (f (.int i t) (.int j u)) Q E s):
  OpR X f (rI0 fun i j=> .bl (g i j)):=by
 intro pins s σ H x y v u Q I rx ry h
 obtain ⟨i,j,rfl,rfl,q⟩:=h
 obtain ⟨t,rfl⟩:=rx
 obtain ⟨t',rfl⟩:=ry
 exact rule i j t t' s _ _ ⟨.bl (g i j),H,I,rfl,q⟩
def qV (i j:Int):Prop:=0≤j∧j≤1000000∧i.natAbs < 2 ^ 64
theorem o0:OpR X (binaryOp .Add) (rI0 fun i j=> .int (i+j)):=qd fun _ _ _ _ _ _ _ q=> add_int q
theorem pZ:OpR X (binaryOp .Sub) (rI0 fun i j=> .int (i - j)):=qd fun _ _ _ _ _ _ _ q=> sub_int q
theorem pq:OpR X (binaryOp .Mod) (rI (fun _ j=> 0 < j) fun i j=> .int (i % j)):=opI fun i j _ _ _ _ _ hc q=> by
 have h1:(0:Int) < j:=hc
 exact mod_int' (by omega) (by rw [Int.fmod_eq_emod_of_nonneg i (by omega)]; exact q)
theorem pM:OpR X (binaryOp .Pow) (rI qV fun i j=> .int (i ^ j.toNat)):=opI fun _ _ _ _ _ _ _ hc q=> pow_int_small hc.1 hc.2.1 hc.2.2 q
theorem unI {f:Value→Sem Value} {g:Int→Int}
  (rule:∀ (i:Int) (t:Tok) (s:Shared) (Q:Value→Shared→Prop) (E:Value→Shared→Prop),Q (.int (g i) s.toks) { s with toks:=s.toks+1 }→wpAny (model X.prog X.w) X.A (f (.int i t)) Q E s):
  UnR X f (rU fun i=> .int (g i)):=by
 intro pins s σ H x v Q I rx h
 obtain ⟨i,rfl,q⟩:=h
 obtain ⟨t,rfl⟩:=rx
 exact rule i t s _ _ ⟨.int (g i),H,I.tok _,⟨_,rfl⟩,q⟩
theorem pK:UnR X (unaryOp .USub) (rU fun i=> .int (-i)):=unI fun _ _ _ _ _ q=> neg_int q
end
def qI:V→V→Bool
 | .non,.non=> true | .non,.int _=> true | .int _,.non=> true | .non,.bl _=> true | .bl _,.non=> true | .non,.str _=> true | .str _,.non=> true
 | .int _,.int _=> true | .bl _,.bl _=> true | .str _,.str _=> true | .byt _,.byt _=> true
 | .int _,.str _=> true | .str _,.int _=> true | .bl _,.str _=> true | .str _,.bl _=> true
 | _,_=> false
def rEq:R2:=fun x y H Q=> qI x y=true∧Q (.bl (decide (x=y))) H
def rNe:R2:=fun x y H Q=> qI x y=true∧Q (.bl (!decide (x=y))) H
theorem e7 {i j:Int}:decide (V.int i=V.int j)=(i==j):=by
 rw [Bool.eq_iff_iff]
 simp
theorem lI {i j:Bool}:decide (V.bl i=V.bl j)=(i==j):=by
 rw [Bool.eq_iff_iff]
 simp
theorem jE {i j:Str}:decide (V.str i=V.str j)=(i==j):=by
 rw [Bool.eq_iff_iff]
 simp
theorem j5 {i j:Array UInt8}:decide (V.byt i=V.byt j)=(i.toList==j.toList):=by
 rw [Bool.eq_iff_iff]
 cases i
 cases j
 simp
section
variable {X:Cx} {a b c:Expr} {ta tb tc:TE} {pos:Pos}
theorem aA {pins:List (Addr×Obj)} {σ:St} {H:Hp} {s:Shared} {Q:VK} {k k':Bool} (I:Inv X pins σ H s) (q:Q (.bl k) H) (e:k=k'):EP X pins σ Q (.bool k') s:=by
 subst e
 exact ⟨.bl k,H,I,rfl,q⟩
theorem qu:OpR X (compareOp .Eq) rEq:=by
 intro pins s σ H x y v u Q I rx ry h
 obtain ⟨hs,q⟩:=h
 cases x with
 | non=>
  cases rx
  cases y with
  | non=> cases ry; exact PySem.EqNone.eq_none_none (aA I q (by simp))
  | bl j=> cases ry; exact PySem.EqNone.eq_none_bool (aA I q (by simp))
  | int j=> obtain ⟨t',rfl⟩:=ry; exact PySem.EqNone.eq_none_int (aA I q (by simp))
  | str j=> obtain ⟨t',rfl⟩:=ry; exact PySem.EqNone.eq_none_str (aA I q (by simp))
  | _=> exact absurd (show false=true from hs) Bool.false_ne_true
 | bl i=>
  cases rx
  cases y with
  | non=> cases ry; exact PySem.EqNone.eq_bool_none (aA I q (by simp))
  | bl j=> cases ry; exact eq_bool (aA I q lI)
  | str j=> obtain ⟨t',rfl⟩:=ry; exact PySem.EqMixed.eq_bool_str (aA I q (by simp))
  | _=> exact absurd (show false=true from hs) Bool.false_ne_true
 | int i=>
  obtain ⟨t,rfl⟩:=rx
  cases y with
  | non=> cases ry; exact PySem.EqNone.eq_int_none (aA I q (by simp))
  | int j=> obtain ⟨t',rfl⟩:=ry; exact eq_int (aA I q e7)
  | str j=> obtain ⟨t',rfl⟩:=ry; exact PySem.EqMixed.eq_int_str (aA I q (by simp))
  | _=> exact absurd (show false=true from hs) Bool.false_ne_true
 | str i=>
  obtain ⟨t,rfl⟩:=rx
  cases y with
  | non=> cases ry; exact PySem.EqNone.eq_str_none (aA I q (by simp))
  | bl j=> cases ry; exact PySem.EqMixed.eq_str_bool (aA I q (by simp))
  | int j=> obtain ⟨t',rfl⟩:=ry; exact PySem.EqMixed.eq_str_int (aA I q (by simp))
  | str j=> obtain ⟨t',rfl⟩:=ry; exact eq_str (aA I q jE)
  | _=> exact absurd (show false=true from hs) Bool.false_ne_true
 | byt i=>
  obtain ⟨t,rfl⟩:=rx
  cases y with
  | byt j=> obtain ⟨t',rfl⟩:=ry; exact PySem.W.eq_bytes (aA I q j5)
  | _=> exact absurd (show false=true from hs) Bool.false_ne_true
 | _=> cases y <;> exact absurd (show false=true from hs) Bool.false_ne_true
theorem qe:OpR X (compareOp .NotEq) rNe:=by
 intro pins s σ H x y v u Q I rx ry h
 obtain ⟨hs,q⟩:=h
 cases x with
 | non=>
  cases rx
  cases y with
  | non=> cases ry; exact PySem.EqNone.ne_none_none (aA I q (by simp))
  | bl j=> cases ry; exact PySem.EqNone.ne_none_bool (aA I q (by simp))
  | int j=> obtain ⟨t',rfl⟩:=ry; exact PySem.EqNone.ne_none_int (aA I q (by simp))
  | str j=> obtain ⟨t',rfl⟩:=ry; exact PySem.EqNone.ne_none_str (aA I q (by simp))
  | _=> exact absurd (show false=true from hs) Bool.false_ne_true
 | bl i=>
  cases rx
  cases y with
  | non=> cases ry; exact PySem.EqNone.ne_bool_none (aA I q (by simp))
  | bl j=> cases ry; exact ne_bool (aA I q (congrArg not lI))
  | str j=> obtain ⟨t',rfl⟩:=ry; exact PySem.EqMixed.ne_bool_str (aA I q (by simp))
  | _=> exact absurd (show false=true from hs) Bool.false_ne_true
 | int i=>
  obtain ⟨t,rfl⟩:=rx
  cases y with
  | non=> cases ry; exact PySem.EqNone.ne_int_none (aA I q (by simp))
  | int j=> obtain ⟨t',rfl⟩:=ry; exact ne_int (aA I q (congrArg not e7))
  | str j=> obtain ⟨t',rfl⟩:=ry; exact PySem.EqMixed.ne_int_str (aA I q (by simp))
  | _=> exact absurd (show false=true from hs) Bool.false_ne_true
 | str i=>
  obtain ⟨t,rfl⟩:=rx
  cases y with
  | non=> cases ry; exact PySem.EqNone.ne_str_none (aA I q (by simp))
  | bl j=> cases ry; exact PySem.EqMixed.ne_str_bool (aA I q (by simp))
  | int j=> obtain ⟨t',rfl⟩:=ry; exact PySem.EqMixed.ne_str_int (aA I q (by simp))
  | str j=> obtain ⟨t',rfl⟩:=ry; exact ne_str (aA I q (congrArg not jE))
  | _=> exact absurd (show false=true from hs) Bool.false_ne_true
 | byt i=>
  obtain ⟨t,rfl⟩:=rx
  cases y with
  | byt j=> obtain ⟨t',rfl⟩:=ry; exact PySem.W.ne_bytes (aA I q (congrArg not j5))
  | _=> exact absurd (show false=true from hs) Bool.false_ne_true
 | _=> cases y <;> exact absurd (show false=true from hs) Bool.false_ne_true
theorem qr:OpR X (compareOp .Lt) (rI0 fun i j=> .bl (decide (i < j))):=oR fun _ _ _ _ _ _ _ q=> lt_int q
theorem qi:OpR X (compareOp .LtE) (rI0 fun i j=> .bl (decide (i≤j))):=oR fun _ _ _ _ _ _ _ q=> le_int q
theorem qX:OpR X (compareOp .Gt) (rI0 fun i j=> .bl (decide (j < i))):=oR fun _ _ _ _ _ _ _ q=> gt_int q
theorem lr (b:Expr) {op:CmpOp} (h:op≠.In:=by decide) (h2:op≠.NotIn:=by decide):behindInMarks op b=false:=by
 have e1:(op==CmpOp.In)=false:=by cases op <;> first | rfl | exact absurd rfl h
 have e2:(op==CmpOp.NotIn)=false:=by cases op <;> first | rfl | exact absurd rfl h2
 cases b <;> simp [behindInMarks,e1,e2]
theorem m3 {op:CmpOp} {r:R2} (ho:OpR X (compareOp op) r) (ha:PE X a ta) (hb:PE X b tb) (hm:behindInMarks op b=false):PE X (.Compare a [op] [b] pos) (tOp r ta tb):=by
 intro pins s σ H Q I h
 exact wpAny_Compare1 (pP ha hb I h fun v u s2 x y H2 I2 rx ry q=> ho pins s2 σ H2 x y v u Q I2 rx ry q) hm
def qx (t:TE):TT:=fun σ H Q=> t σ H fun x H'=> ∃ k,x=.bl k∧Q k H'
theorem nv {op:CmpOp} {r:R2} (ho:OpR X (compareOp op) r) (ha:PE X a ta) (hb:PE X b tb) (hm:behindInMarks op b=false):PT X (.Compare a [op] [b] pos) (qx (tOp r ta tb)):=by
 intro pins s σ H Q I h
 refine wpAny_isTrue_Compare1 (thn (ha pins s σ H _ I h) fun v s1 ⟨x,H1,I1,r1,q1⟩=> thn (hb pins s1 σ H1 _ I1 q1) fun u s2 ⟨y,H2,I2,r2,q2⟩=>
  thn (ho pins s2 σ H2 x y v u _ I2 r1 r2 q2) fun c s3 ⟨z,H3,I3,r3,k,e,q3⟩=> ?_) hm
 subst e
 cases r3
 exact wpAny_truthy_bool ⟨H3,I3,q3⟩
theorem ji:(sizeLine:Nat) < 2 ^ 63:=by rw [sizeLine_eq]; decide
theorem iB {x:V} {us:List Value} (r:aq [x] us):∃ u,us=[u]∧aK x u:=by
 cases r with
 | cons r1 r2=> cases r2; exact ⟨_,rfl,r1⟩
theorem gx {x y:V} {us:List Value} (r:aq [x,y] us):∃ u w',us=[u,w']∧aK x u∧aK y w':=by
 cases r with
 | cons r1 r2=>
  cases r2 with
  | cons r3 r4=> cases r4; exact ⟨_,_,rfl,r1,r3⟩
theorem kf (hc:X.calm=true):cb X (.builtin "max") (fun xs H Q=> ∃ i j,xs=[.int i,.int j]∧Q (.int (if j > i then j else i)) H):=by
 intro pins s σ H xs us Q I r h
 obtain ⟨i,j,rfl,q⟩:=h
 obtain ⟨u,w',rfl,⟨t,rfl⟩,⟨t',rfl⟩⟩:=gx r
 refine max_two_ints (I.ok.hd hc) fun h' tk k=> ⟨_,H,I.kept k,?_,q⟩
 by_cases hj:j > i
 ·rw [if_pos hj,if_pos hj]; exact ⟨_,rfl⟩
 ·rw [if_neg hj,if_neg hj]; exact ⟨_,rfl⟩
theorem kO (hc:X.calm=true):cb X (.builtin "min") (fun xs H Q=> ∃ i j,xs=[.int i,.int j]∧Q (.int (if j < i then j else i)) H):=by
 intro pins s σ H xs us Q I r h
 obtain ⟨i,j,rfl,q⟩:=h
 obtain ⟨u,w',rfl,⟨t,rfl⟩,⟨t',rfl⟩⟩:=gx r
 refine min_two_ints (I.ok.hd hc) fun h' tk k=> ⟨_,H,I.kept k,?_,q⟩
 by_cases hj:j < i
 ·rw [if_pos hj,if_pos hj]; exact ⟨_,rfl⟩
 ·rw [if_neg hj,if_neg hj]; exact ⟨_,rfl⟩
end
end L2
namespace L2
open PySem PySem.Spec PyProof.Rows
structure pf (h:Heap) (x dx C:Addr) (mA:Str→Option Value):Prop where
 obj:h.get? x=some (PySem.W.instObj C dx)
 ns:h.Ns1 dx mA
 ne:dx≠x
theorem kq {h:Heap} {dx:Addr} {mA:Str→Option Value} (n:h.Ns1 dx mA):∃ od,h.get? dx=some od∧∀ name,PySem.W.lookIn name od=some (mA name):=by
 obtain ⟨o,es,ep,ho,hd,hk,_,hm⟩:=n
 refine ⟨o,ho,fun name=> ?_⟩
 have e:=hm name
 unfold nsFind findBy at e
 rw [← Array.find?_toList] at e
 unfold PySem.W.lookIn
 rw [hd]
 dsimp only
 split
 ·rename_i y q
  rw [q] at e
  exact congrArg some e
 ·rename_i q
  rw [q] at e
  have a:es.toList.any (·.refKey)=false:=by
   rw [List.any_eq_false]
   intro y hy
   obtain ⟨z,t,hkey⟩:=hk y (Array.mem_toList_iff.mp hy)
   simp [DictEntry.refKey,hkey]
  have a':¬ es.toList.any (·.refKey)=true:=by rw [a]; exact Bool.false_ne_true
  rw [if_neg a']
  exact congrArg some e
theorem pf.look {h:Heap} {x dx C:Addr} {mA:Str→Option Value} (I:pf h x dx C mA):∃ od,PySem.W.InstAt h x (PySem.W.instObj C dx) C (some od)∧∀ name,PySem.W.lookIn name od=some (mA name):=
 let ⟨od,ho,hl⟩:=kq I.ns
 ⟨od,⟨I.obj,rfl,rfl,ho⟩,hl⟩
section
variable {prog:Program} {w:World} {A:Around} {E:Value→Shared→Prop} {s:Shared} {K:PySem.W.Frag} {x dx C f:Addr} {mA:Str→Option Value} {name:Str} {v:Value}
end
section
variable {P:Program} {w:World} {H H':Hp} {h h':Heap} {a C dx:Addr} {fs fs':List (Str×V)}
theorem nX (hok:HOk P w H h) (e:H a=some (.ins C dx fs)):∃ mA,pf h a dx C mA∧(∀ f,pN (fs.lookup f) (mA f))∧PySem.Within mA (fs.map (·.1))∧fs.length≤1000∧H dx=some (.own a):=by
 obtain ⟨d,z,ne,ob,mA,n,r,q⟩:=(show bF P w H h a (.ins C dx fs) from hok a _ e)
 exact ⟨mA,⟨ob,n,ne⟩,r,q,z,d⟩
end
structure Cls (K:PySem.W.Frag) (C:Addr):Prop where
 pg:PySem.W.plainGet K C Str.empty=true
 hd:PySem.W.hasDictIn K C=true
 po:PySem.W.plainOver K C=true
 sa:PySem.W.findIn K (.ref C) "__setattr__"=some (some (.builtin "object.__setattr__"))
theorem Cls.get {K:PySem.W.Frag} {C:Addr} (c:Cls K C) (f:Str):PySem.W.plainGet K C f=true:=c.pg
structure Con (K:PySem.W.Frag) (C:Addr) (f:Str) (v:V) (u:Value):Prop where
 at_:PySem.W.findIn K (.ref C) f=some (some u)
 rel:aK v u
 get:PySem.W.specialIn K u "__get__"=some none
 cp:PySem.W.copiedNames.contains f=false
structure rV (K:PySem.W.Frag) (C:Addr) (m:Str) (f:Addr):Prop where
 at_:PySem.W.findIn K (.ref C) m=some (some (.ref f))
 fn:PySem.W.isFn K (.ref f)=true
 kp:PySem.W.keepIn K (.ref f)=true
section
variable {X:Cx} {pins:List (Addr×Obj)} {σ:St} {H:Hp} {s:Shared} {a C dx:Addr} {fs:List (Str×V)} {f:Str} {v:V} {A:Around} {E:Value→Shared→Prop}
end
section
variable {X:Cx} {o e value:Expr} {f:Str} {pos pos' tpos:Pos} {ta tv:TE}
end
section
variable {X:Cx} {pins:List (Addr×Obj)} {σ:St} {H:Hp} {s:Shared} {A:Around} {E:Value→Shared→Prop} {Q:Value→Shared→Prop} {c:Value} {b:Bool}
inductive eS (K:PySem.W.Frag) (H:Hp):V→Value→Prop where
 | non:eS K H .non (.type "NoneType")
 | bl (x:Bool):eS K H (.bl x) (.type "bool")
 | int (i:Int):eS K H (.int i) (.type "int")
 | str (x:Str):eS K H (.str x) (.type "str")
 | flt (x:UInt64):eS K H (.flt x) (.type "float")
 | lst {a:Addr} {xs:List V} (e:H a=some (.lst xs)):eS K H (.ref a) (.type "list")
 | frz {a:Addr} {o:Obj} {xs:List V} (e:H a=some (.frz o (.lst xs))):eS K H (.ref a) (.type "list")
 | tup {a:Addr} {xs:List V} (e:H a=some (.tup xs)):eS K H (.ref a) (.type "tuple")
 | dK {a:Addr} {kvs:List (Key×V)} (e:H a=some (.dK kvs)):eS K H (.ref a) (.type "dict")
 | dT {a:Addr} {kvs:List (List Key×V)} (e:H a=some (.dT kvs)):eS K H (.ref a) (.type "dict")
 | ins {a C dx:Addr} {fs:List (Str×V)} (e:H a=some (.ins C dx fs)) (cl:Cls K C) (ha:PySem.W.findIn K (.ref C) "__class__"=some (some (.builtin "object.__class__")))
   (hn:PySem.W.specialIn K (.builtin "object.__class__") "__get__"=some (some (.builtin "getset_descriptor.__get__"))) (htk:PySem.W.takesIn K (.builtin "object.__class__")=some true)
   (hm:PySem.W.mroIn K C (.type "object")=some true):eS K H (.ref a) (.ref C)
theorem ce {x:V} {u t:Value} (I:Inv X pins σ H s) (rx:aK x u) (ty:eS X.K H x t) (e:PySem.W.kitOne X.K t c=some b) (h:∀ tk,Q (.bool b) { s with toks:=tk }):
  wpAny (model X.prog X.w) A (call (.builtin "isinstance") [u,c]) Q E s:=by
 cases ty with
 | non=> cases (show u=Value.none from rx); exact PySem.W.kia_one PySem.W.kitx_none I.kIn True.intro e (fun z=> nomatch z) h
 | bl y=> cases (show u=Value.bool y from rx); exact PySem.W.kia_one PySem.W.kitx_bool I.kIn True.intro e (fun z=> nomatch z) h
 | int i=> obtain ⟨t,q⟩:=(show ∃ t,u=Value.int i t from rx); cases q; exact PySem.W.kia_one PySem.W.kitx_int I.kIn True.intro e (fun z=> nomatch z) h
 | str y=> obtain ⟨t,q⟩:=(show ∃ t,u=Value.str y t from rx); cases q; exact PySem.W.kia_one PySem.W.kitx_str I.kIn True.intro e (fun z=> nomatch z) h
 | flt y=> obtain ⟨t,q⟩:=(show ∃ t,u=Value.float y t from rx); cases q; exact PySem.W.kia_one PySem.W.kitx_float I.kIn True.intro e (fun z=> nomatch z) h
 | @lst a xs ea=>
  cases (show u=Value.ref a from rx)
  obtain ⟨_,_,n,_,h1⟩:=(show bF X.prog X.w H s.heap a (.lst xs) from I.hok a _ ea)
  exact PySem.W.kia_one PySem.W.kitx_list I.kIn ⟨_,h1,rfl⟩ e (fun z=> nomatch z) h
 | @frz a ob xs ea=>
  cases (show u=Value.ref a from rx)
  obtain ⟨_,_,_,n,_,h1⟩:=(show bF X.prog X.w H s.heap a (.frz ob (.lst xs)) from I.hok a _ ea)
  exact PySem.W.kia_one PySem.W.kitx_list I.kIn ⟨_,h1,rfl⟩ e (fun z=> nomatch z) h
 | @tup a xs ea=>
  cases (show u=Value.ref a from rx)
  obtain ⟨_,_,_,p⟩:=(show bF X.prog X.w H s.heap a (.tup xs) from I.hok a _ ea)
  obtain ⟨o,h1,h2,_⟩:=p
  exact PySem.W.kia_one PySem.W.kitx_tuple I.kIn ⟨o,h1,h2⟩ e (fun z=> nomatch z) h
 | @dK a kvs ea=>
  cases (show u=Value.ref a from rx)
  obtain ⟨_,_,vs,_,p⟩:=(show bF X.prog X.w H s.heap a (.dK kvs) from I.hok a _ ea)
  obtain ⟨o,es,ep,h1,h2,_⟩:=p
  exact PySem.W.kia_one PySem.W.kitx_dict I.kIn ⟨o,h1,h2.1⟩ e (fun z=> nomatch z) h
 | @dT a kvs ea=>
  cases (show u=Value.ref a from rx)
  obtain ⟨_,_,xs,_,o,es,ep,h1,h2,_⟩:=(show bF X.prog X.w H s.heap a (.dT kvs) from I.hok a _ ea)
  exact PySem.W.kia_one PySem.W.kitx_dict I.kIn ⟨o,h1,h2.1⟩ e (fun z=> nomatch z) h
 | @ins a C dx fs ea cl ha hn htk hm=>
  cases (show u=Value.ref a from rx)
  obtain ⟨mA,O,_⟩:=nX I.hok ea
  obtain ⟨od,J,_⟩:=O.look
  exact PySem.W.kia_one (PySem.W.kitx_own (cl.get _) cl.hd ha hn htk hm) I.kIn J e (fun z=> nomatch z) h
end
end L2
namespace L2
open PySem PySem.Spec PyProof.Rows
structure cg (k:Nat) (A:Around):Prop where
 hd:A.handled=none
 dp:A.depth+3 * k+5 < recursionLimit
 un:A.units+16 * k+200 < cLine
theorem cg.mono {j k:Nat} {A:Around} (r:cg k A) (h:j≤k):cg j A:=⟨r.hd,by have:=r.dp; omega,by have:=r.un; omega⟩
theorem cg.deeper {k:Nat} {A:Around} (r:cg (k+1) A) (env:Env):cg k (A.deeper env):=
 ⟨r.hd,by have:=r.dp; show A.depth+1+3 * k+5 < _; omega,by have:=r.un; show A.units+3+16 * k+200 < _; omega⟩
theorem cg.depth {k:Nat} {A:Around} (r:cg k A):A.depth < recursionLimit:=by have:=r.dp; omega
def rz:TA:=fun _ H Q=> Q [] H
def qK (ta:TE) (tr:TA):TA:=fun σ H Q=> ta σ H fun x H1=> tr σ H1 fun xs H2=> Q (x::xs) H2
section
variable {X:Cx} {e:Expr} {es:List Expr} {te:TE} {t:TA} {pos:Pos}
theorem eg:PA X [] rz:=fun _ _ _ _ H Q I h=> Calls.spliced_nil ⟨[],H,I,.nil,h⟩
theorem cu (ha:PE X e te) (hr:PA X es t) (hs:starEach (e::es) X.env=(false,eval e X.env)::starEach es X.env:=by rfl):PA X (e::es) (qK te t):=by
 intro pos pins s σ H Q I h
 rw [hs]
 show wpAny _ _ (spliced ((false,eval e X.env)::backTo pos (starEach es X.env))) _ _ s
 refine Calls.spliced_cons (thn (ha pins s σ H _ I h) fun u s1 ⟨x,H1,I1,r1,q1⟩=> ?_)
 exact thn (hr pos pins s1 σ H1 _ I1 q1) fun us s2 ⟨xs,H2,I2,r2,q2⟩=> ⟨x::xs,H2,I2,.cons r1 r2,q2⟩
def rh (t:TA):TE:=fun σ H Q=> t σ H fun xs H1=> xs.length≤sizeLine∧∀ p,H1 p=none→Q (.ref p) (upd H1 p (.tup xs))
def rJ (t:TA):TE:=fun σ H Q=> t σ H fun xs H1=> xs.length≤sizeLine∧∀ p,H1 p=none→Q (.ref p) (upd H1 p (.lst xs))
theorem p_ {x1} (h:PA X es t):PE X (.Tuple es x1 pos) (rh t):=by
 intro pins s σ H Q I hq
 refine wpAny_Tuple_spliced (thn (h pos pins s σ H _ I hq) fun us s1 ⟨xs,H1,I1,r,z,q⟩=> ⟨by rw [← r.length]; exact z,?_⟩)
 have hf:H1 s1.heap.objs.size=none:=I1.hok.fresh (Nat.le_refl _)
 refine ⟨.ref s1.heap.objs.size,upd H1 s1.heap.objs.size (.tup xs),I1.laid (t':=s1.toks) (fun b u e=> Heap.get?_push_of_some _ e) (Nat.le_refl _) ?_,rfl,q _ hf⟩
 exact ⟨z,us,r,⟨_,Heap.get?_push_size _ rfl,rfl,_,rfl⟩⟩
theorem o8 (h:PA X es t):PE X (.List es pos) (rJ t):=by
 intro pins s σ H Q I hq
 refine wpAny_List_spliced (thn (h pos pins s σ H _ I hq) fun us s1 ⟨xs,H1,I1,r,z,q⟩=> ⟨by rw [← r.length]; exact z,?_⟩)
 have hf:H1 s1.heap.objs.size=none:=I1.hok.fresh (Nat.le_refl _)
 refine ⟨.ref s1.heap.objs.size,upd H1 s1.heap.objs.size (.lst xs),I1.laid (t':=s1.toks) (fun b u e=> Heap.get?_push_of_some _ e) (Nat.le_refl _) ?_,rfl,q _ hf⟩
 exact ⟨z,us,0,r,Heap.get?_push_size _ rfl⟩
end
abbrev Sp:=List V→Hp→VK→XK→Prop
abbrev CXT:=List Env→Hp→Shared→XK→Value→Shared→Prop
structure nE (P:Program) (w:World) (K:PySem.W.Frag) (mg:Str→Option Value) (base:Heap) (A:Around) (outer:List Env) (s:Shared) (H:Hp):Prop where
 frames:A.frames=some outer
 mod:Mod K mg base
 bs:∀ b o,base.get? b=some o→s.heap.get? b=some o∧H b=none
 bsz:base.objs.size≤s.heap.objs.size
 funs:s.heap.FunFrames base outer
 frf:∀ b∈frs outer,H b=none
 hok:HOk P w H s.heap
 bare:AllBare s.gens
def CE (outer:List Env) (P:Program) (w:World) (H:Hp) (s:Shared) (Q:VK) (u:Value) (s':Shared):Prop:=
 ∃ v H',s'.os=s.os∧AllBare s'.gens∧Un (frs outer) [] H H' s.heap s'.heap∧HOk P w H' s'.heap∧aK v u∧Q v H'
def CR (CX:CXT) (outer:List Env) (P:Program) (w:World) (H:Hp) (s:Shared) (Q:VK) (E:XK) (r:Result) (s':Shared):Prop:=
 match r with
 | .ok (.ret u)=> CE outer P w H s Q u s'
 | .ok _=> False
 | .error e=> CX outer H s E e s'
structure a_ (P:Program) (w:World) (K:PySem.W.Frag) (mg:Str→Option Value) (base:Heap) (CX:CXT) (k:Nat) (f:Addr) (fd:FuncData) (ps:List Str) (sp:Sp):Prop where
 len:∀ vs H Q E,sp vs H Q E→vs.length=ps.length
 run:∀ (A:Around) (outer:List Env) (s:Shared) (H:Hp) (args:Args) (us:List Value) (vs:List V) (Q:VK) (E:XK),cg k A→nE P w K mg base A outer s H→BindsTo s fd args (ps.zip us)→aq vs us→sp vs H Q E→
  codeAny (model P w) A (.call (.ref f) args) (CR CX outer P w H s Q E) s
theorem a_.mono {P:Program} {w:World} {K:PySem.W.Frag} {mg:Str→Option Value} {base:Heap} {CX:CXT} {j k:Nat} {f:Addr} {fd:FuncData} {ps:List Str} {sp:Sp} (F:a_ P w K mg base CX j f fd ps sp) (h:j≤k):
  a_ P w K mg base CX k f fd ps sp:=⟨F.len,fun A outer s H args us vs Q E hr=> F.run A outer s H args us vs Q E (hr.mono h)⟩
section
variable {X:Cx} {pins:List (Addr×Obj)} {σ:St} {H:Hp} {s s':Shared}
theorem Inv.env0 (I:Inv X pins σ H s):nE X.prog X.w X.K X.mg X.base X.A X.stack s H:=
 ⟨I.ok.frames,I.ok.mod,I.bs,Nat.le_trans I.ok.bsz I.sz,I.stack,I.stkFree,I.hok,I.bare⟩
theorem Inv.after {Q:VK} {u:Value} (I:Inv X pins σ H s) (h:CE X.stack X.prog X.w H s Q u s'):EP X pins σ Q u s':=by
 obtain ⟨v,H',os,bare,un,hok,r,q⟩:=h
 obtain ⟨hh,g,d,t,os'⟩:=s'
 obtain rfl:os'=s.os:=os
 exact ⟨v,H',I.call (h':=hh) (g':=g) (d':=d) (t':=t) (ch:=[]) un hok bare (fun b z=> absurd z (by simp)),r,q⟩
end
def qJ (sp:Sp) (dvs:List V) (E:XK) (t:TA):TE:=fun σ H Q=> t σ H fun vs H1=> sp (vs++dvs) H1 Q E
def aO (K:PySem.W.Frag) (fd:FuncData) (ps:List Str) (ds:List Value):Prop:=
 ∀ (s:Shared) (us:List Value),K.In s.heap→(us++ds).length=ps.length→BindsTo s fd ⟨us,[]⟩ (ps.zip (us++ds))
theorem aO.all {K:PySem.W.Frag} {fd:FuncData} {ps:List Str} (h:∀ us:List Value,us.length=ps.length→bindArgs fd ⟨us,[]⟩=pure (ps.zip us)):aO K fd ps []:=fun s us _ hl=> by
 rw [List.append_nil] at hl ⊢
 exact .of_eq (h us hl)
def bR (CX:CXT) (X:Cx) (E:XK):Prop:=∀ (pins:List (Addr×Obj)) (σ:St) (H:Hp) (s:Shared) (e:Value) (s':Shared),Inv X pins σ H s→CX X.stack H s E e s'→X.xe e s'
section
variable {X:Cx} {CX:CXT} {k:Nat} {f C:Addr} {fd:FuncData} {ps:List Str} {sp:Sp} {dvs:List V} {ds:List Value} {E:XK} {x m:Str} {p pos apos:Pos} {e o:Expr} {es:List Expr} {ta:TE} {t:TA}
theorem pD {pins:List (Addr×Obj)} {σ:St} {H:Hp} {s:Shared} {Q:VK} {us:List Value} {vs:List V} (F:a_ X.prog X.w X.K X.mg X.base CX k f fd ps sp) (hr:cg k X.A) (hb:aO X.K fd ps ds) (hd:aq dvs ds) (hx:bR CX X E)
  (I:Inv X pins σ H s) (r:aq vs us) (h:sp (vs++dvs) H Q E):wpAny (model X.prog X.w) X.A (call (.ref f) us) (EP X pins σ Q) X.xe s:=by
 have r2:aq (vs++dvs) (us++ds):=r.append hd
 have hl:(us++ds).length=ps.length:=by rw [← r2.length]; exact F.len _ _ _ _ h
 refine wpAny_call (codeAny_mono (F.run X.A X.stack s H ⟨us,[]⟩ (us++ds) (vs++dvs) Q E hr I.env0 (hb s us I.kIn hl) r2 h) fun r s' hq=> ?_)
 cases r with
 | error e=> exact hx pins σ H s e s' I hq
 | ok fl=>
  cases fl with
  | ret u=> exact I.after hq
  | next=> exact False.elim hq
  | brk=> exact False.elim hq
  | cont=> exact False.elim hq
theorem eV (F:a_ X.prog X.w X.K X.mg X.base CX k f fd ps sp) (hr:cg k X.A) (hg:Gl X x) (hm:X.mg x=some (.ref f)) (hk:PySem.W.keepIn X.K (.ref f)=true) (hb:aO X.K fd ps ds) (hd:aq dvs ds) (hx:bR CX X E)
  (ha:PA X (e::es) t) (hdb:(x==("__debug__":Str))=false:=by decide) (he:starEach (e::es) X.env=(false,eval e X.env)::starEach es X.env:=by rfl) (hpl:(backTo pos (starEach es X.env)).any (·.1)=false:=by rfl):
  PE X (.Call (.Name x p) (e::es) [] pos) (qJ sp dvs E t):=by
 intro pins s σ H Q I h
 refine wpAny_Call_Name_kw (d5 I hg hm ?_ hdb)
 refine PySem.W.callWith_K (h₀:=X.base) I.ok.mod.kin hk (thn (ha pos pins s σ H _ I h) fun us s1 ⟨vs,H1,I1,r,q⟩=> ⟨I1.kIn,?_⟩) he hpl
 exact pD F hr hb hd hx I1 r q
structure Mk (K:PySem.W.Frag) (C f:Addr):Prop where
 makes:PySem.W.makesIn K C=true
 init:PySem.W.findIn K (.ref C) "__init__"=some (some (.ref f))
 fn:PySem.W.isFn K (.ref f)=true
 kp:PySem.W.keepIn K (.ref C)=true
end
section
variable {X:Cx} {CX:CXT} {k:Nat} {f C:Addr} {fd:FuncData} {ps ks:List Str} {sp:Sp} {E:XK} {x m:Str} {p pos apos kpos:Pos} {e o:Expr} {es:List Expr} {kws:List Keyword} {te ta:TE} {t tk:TA} {nm:Option Str}
structure rE (K:PySem.W.Frag) (fd:FuncData) (ps ks:List Str) (g:List Value→List Value→List Value) (gV:List V→List V→List V):Prop where
 to:∀ (s:Shared) (us ws:List Value),K.In s.heap→(g us ws).length=ps.length→BindsTo s fd ⟨us,ks.zip ws⟩ (ps.zip (g us ws))
 rel:∀ {vs:List V} {us:List Value} {zs:List V} {ws:List Value},aq vs us→aq zs ws→aq (gV vs zs) (g us ws)
variable {g:List Value→List Value→List Value} {gV:List V→List V→List V}
end
structure aC (N P:List Str) (sc:Scope):Prop where
 kind:sc.kind=.function
 co:sc.isCoroutine=false
 gen:sc.isGenerator=false
 nd:N.Nodup
 pre:N.take P.length=P
 par:∀ x∈P,sc.names.lookup x=some .local∨sc.names.lookup x=some .cell
 nofree:∀ y∈sc.names,y.2≠.free
theorem gr {kindOf:Str→Option NameKind} {x:Str}:∀ {binds:List (Str×Value)} {m:Str→Option Value},(∀ v,(x,v) ∉ binds)→bindL kindOf binds m x=m x
 | [],_,_=> rfl
 | (n,v)::r,m,h=> by
  unfold bindL
  rw [gr fun w hw=> h w (List.mem_cons_of_mem _ hw)]
  split
  ·have:x≠n:=by rintro rfl; exact h v List.mem_cons_self
   simp [this]
  ·rfl
theorem gy {kindOf:Str→Option NameKind} {x:Str}:∀ {binds:List (Str×Value)} {m:Str→Option Value},(∀ v,(x,v) ∉ binds)→bindC kindOf binds m x=m x
 | [],_,_=> rfl
 | (n,v)::r,m,h=> by
  unfold bindC
  rw [gy fun w hw=> h w (List.mem_cons_of_mem _ hw)]
  split
  ·rfl
  ·have:x≠n:=by rintro rfl; exact h v List.mem_cons_self
   simp [this]
theorem gm {kindOf:Str→Option NameKind} {x:Str} {v:Value}:∀ {P:List Str} {vs:List Value} {i:Nat} {m:Str→Option Value},P.Nodup→P[i]?=some x→vs[i]?=some v→kindOf x=some .local→
  bindL kindOf (P.zip vs) m x=some v
 | [],_,_,_,_,h,_,_=> by simp at h
 | _::_,[],_,_,_,_,h,_=> by simp at h
 | p::P,w::vs,0,m,nd,h1,h2,hk=> by
  simp at h1 h2; subst h1; subst h2
  show bindL kindOf ((p,w)::P.zip vs) m p=_
  unfold bindL
  rw [gr fun v hv=> (List.nodup_cons.mp nd).1 (List.of_mem_zip hv).1,if_pos hk]
  simp
 | p::P,w::vs,i+1,m,nd,h1,h2,hk=> by
  show bindL kindOf ((p,w)::P.zip vs) m x=_
  unfold bindL
  exact gm (i:=i) (List.nodup_cons.mp nd).2 (by simpa using h1) (by simpa using h2) hk
theorem gC {kindOf:Str→Option NameKind} {x:Str} {v:Value}:∀ {P:List Str} {vs:List Value} {i:Nat} {m:Str→Option Value},P.Nodup→P[i]?=some x→vs[i]?=some v→kindOf x≠some .local→
  bindC kindOf (P.zip vs) m x=some v
 | [],_,_,_,_,h,_,_=> by simp at h
 | _::_,[],_,_,_,_,h,_=> by simp at h
 | p::P,w::vs,0,m,nd,h1,h2,hk=> by
  simp at h1 h2; subst h1; subst h2
  show bindC kindOf ((p,w)::P.zip vs) m p=_
  unfold bindC
  rw [gy fun v hv=> (List.nodup_cons.mp nd).1 (List.of_mem_zip hv).1,if_neg hk]
  simp
 | p::P,w::vs,i+1,m,nd,h1,h2,hk=> by
  show bindC kindOf ((p,w)::P.zip vs) m x=_
  unfold bindC
  exact gC (i:=i) (List.nodup_cons.mp nd).2 (by simpa using h1) (by simpa using h2) hk
def start (N:List Str) (vs:List V):St:=vs.map some++List.replicate (N.length - vs.length) none
def cn (CX:CXT) (P:Program) (w:World) (K:PySem.W.Frag) (mg:Str→Option Value) (base:Heap) (N:List Str) (qual:Str) (scope:Scope) (f:Addr) (cd:Value) (A:Around) (outer:List Env) (s:Shared) (H:Hp) (E:XK):Cx where
 prog:=P
 w:=w
 K:=K
 mg:=mg
 base:=base
 A:=A.deeper (envOfC qual scope s.heap.objs.size f cd)
 N:=N
 s₀:=s
 H₀:=H
 env:=envOfC qual scope s.heap.objs.size f cd
 outer:=outer
 stack:=envOfC qual scope s.heap.objs.size f cd::outer
 ex:=[]
 calm:=true
 fn:=fun _=> true
 pn:=[]
 xe:=fun e s'=> wpAny (model P w) (A.deeper (envOfC qual scope s.heap.objs.size f cd)) (leaving (envOfC qual scope s.heap.objs.size f cd) e) (fun _ s''=> CX outer H s E e s'') (fun e' s''=> CX outer H s E e' s'') s'
theorem iq {sc:Scope} {n:Nat} {x:Str} (h:sc.names.lookup x=some .cell):∃ c,(cellsFrom n sc.names []).lookup x=some c:=by
 have q:=PySem.W.cellsFrom_some sc.names n [] (.inl h)
 exact Option.isSome_iff_exists.mp q
theorem ka {CX:CXT} {P:Program} {w:World} {K:PySem.W.Frag} {mg:Str→Option Value} {base:Heap} {N ps:List Str} {qual:Str} {scope:Scope} {f:Addr} {cd:Value} {A:Around} {outer:List Env} {s s1:Shared} {H:Hp} {E:XK} {us:List Value} {vs:List V}
  (S:aC N ps scope) (hd:A.handled=none) (e0:nE P w K mg base A outer s H) (hl:vs.length=ps.length) (r:aq vs us)
  (x:InCallC s s.heap.objs.size (bindL (envOfC qual scope s.heap.objs.size f cd).kindOf (ps.zip us) fun _=> none) (cellsFrom (s.heap.objs.size+1) scope.names []) (bindC (envOfC qual scope s.heap.objs.size f cd).kindOf (ps.zip us) fun _=> none) s1):
  Inv (cn CX P w K mg base N qual scope f cd A outer s H E) [] (start N vs) H s1:=by
 have hpl:ps.length≤N.length:=by have:=congrArg List.length S.pre; rw [List.length_take] at this; omega
 obtain ⟨h1,tk,rfl,hk⟩:=x.done
 have noA:∀ b:Addr,b ∉ (cn CX P w K mg base N qual scope f cd A outer s H E).ex:=fun b z=> absurd (show b∈([]:List Addr) from z) (by simp)
 refine ⟨⟨e0.mod,S.kind,rfl,rfl,Nat.le_refl _,fun y z c h1 h2=> ?_,fun y hy=> ?_,fun y c _ h=> ?_,fun _=> hd,Around.frames_deeper e0.frames,.inr ⟨rfl,rfl⟩,fun b z=> absurd z (noA b),e0.bs,e0.bsz,fun b _ _=> noA b,fun b z=> absurd z (noA b),e0.funs,e0.frf⟩,
  rfl,e0.bare,Un.kept hk,⟨_,x.toInCall.ns,fun i y v h1 h2 h3=> ?_⟩,fun y c h=> ⟨_,x.cell y c h⟩,e0.hok.fresh (Nat.le_refl _),fun y c h=> ?_,fun p hp=> absurd (show p∈([]:List (Addr×Obj)) from hp) (by simp),e0.hok.kept hk,?_⟩
 ·exact name_of_addr x.apart (PySem.mem_of_lookup h1) (PySem.mem_of_lookup h2)
 ·have hy:scope.names.lookup y=some .cell∨scope.names.lookup y=some .free:=hy
  rcases hy with hy | hy
  ·exact iq hy
  ·exact absurd rfl (S.nofree _ (PySem.mem_of_lookup hy))
 ·exact Nat.le_of_lt (x.above y c (PySem.mem_of_lookup h))
 ·have hi:i < vs.length:=by
   unfold start at h2
   by_cases hi:i < vs.length
   ·exact hi
   ·rw [List.getElem?_append_right (by simpa using hi)] at h2
    rw [List.getElem?_replicate] at h2
    split at h2 <;> cases h2
  have ha:vs[i]?=some v:=by
   unfold start at h2
   rw [List.getElem?_append_left (by simpa using hi),List.getElem?_map] at h2
   cases e:vs[i]? with
   | none=> rw [e] at h2; cases h2
   | some a=> rw [e] at h2; cases h2; rfl
  obtain ⟨u,hu,rv⟩:=r.get ha
  have hp:ps[i]?=some y:=by
   rw [← S.pre,List.getElem?_take_of_lt (by omega)]; exact h1
  have ndP:ps.Nodup:=by rw [← S.pre]; exact S.nd.sublist (List.take_sublist _ _)
  refine ⟨u,rv,?_⟩
  rcases S.par y (List.mem_of_getElem? hp) with k | k
  ·exact .inl ⟨k,gm ndP hp hu k⟩
  ·obtain ⟨c,e⟩:=iq (n:=s.heap.objs.size+1) k
   refine .inr ⟨.inl k,c,e,?_⟩
   have q:=x.cell y c e
   rw [gC ndP hp hu (by show scope.names.lookup y≠_; rw [k]; decide)] at q
   exact q
 ·exact e0.hok.fresh (Nat.le_of_lt (x.above y c (PySem.mem_of_lookup h)))
 ·unfold start
  show _=N.length
  rw [List.length_append,List.length_map,List.length_replicate]
  omega
theorem qw {CX:CXT} {P:Program} {w:World} {K:PySem.W.Frag} {mg:Str→Option Value} {base:Heap} {k:Nat} {f:Addr} {name qual:Str} {params:Arguments} {body:List Stmt} {scope:Scope} {dV kV doc pm cdv ct oc:Value} {an od:Option Addr}
  {osl:Array (Option Value)} {N ps:List Str} {sp:Sp} (lk:K.lookup f=some ⟨oc,od,.func (PySem.W.fnOf name qual params body scope dV kV doc pm an cdv ct),osl⟩) (hcd:PySem.W.codeIn K cdv qual=true) (S:aC N ps scope)
  (len:∀ vs H Q E,sp vs H Q E→vs.length=ps.length)
  (hbody:∀ (A:Around) (outer:List Env) (s:Shared) (H:Hp) (vs:List V) (Q:VK) (E:XK),cg k (A.deeper (envOfC qual scope s.heap.objs.size f cdv))→sp vs H Q E→
   ∃ t,PSs (cn CX P w K mg base N qual scope f cdv A outer s H E) body t∧t { nx:=fun _ H'=> Q .non H',rt:=Q } (start N vs) H):
  a_ P w K mg base CX (k+1) f (PySem.W.fnOf name qual params body scope dV kV doc pm an cdv ct) ps sp:=by
 refine ⟨len,fun A outer s H args us vs Q E hr e0 hb r hsp=> ?_⟩
 have hl:=len _ _ _ _ hsp
 have KX:K.In s.heap:=e0.mod.kin.keeps fun b o e=> (e0.bs b o e).1
 have lim:s.heap.NoLimit:=e0.mod.nolimit.keeps fun b o e=> (e0.bs b o e).1
 have hkind:∀ y∈ps.zip us,scope.names.lookup y.1=some .local∨(scope.names.lookup y.1=some .cell∧((cellsFrom (s.heap.objs.size+1) scope.names []).lookup y.1).isSome=true):=fun ⟨n,v⟩ hy=> by
  rcases S.par n (List.of_mem_zip hy).1 with q | q
  ·exact .inl q
  ·exact .inr ⟨q,PySem.W.cellsFrom_some _ _ _ (.inl q)⟩
 refine codeAny_call_function hr.depth (KX _ _ lk) rfl S.co S.gen rfl (PySem.W.codeRec_of KX hcd) (hb _ _ _ _ ?_)
 refine wpAny_newFunctionEnv_cells S.kind hkind fun env he s1 x=> ?_
 subst he
 refine ⟨lim.keeps x.toInCall.keep,codeAny_func ?_⟩
 obtain ⟨t,ht,hq⟩:=hbody A outer s H vs Q E (hr.deeper _) hsp
 have I:Inv (cn CX P w K mg base N qual scope f cdv A outer s H E) [] (start N vs) H s1:=ka S hr.hd e0 hl r x
 refine wpAny_mono (ht [] s1 (start N vs) H _ I hq) (fun fl s' hs=> ?_) fun e s' hs=> hs
 have fin:∀ {σ':St} {H':Hp} {v:V} {u:Value},Inv (cn CX P w K mg base N qual scope f cdv A outer s H E) [] σ' H' s'→aK v u→Q v H'→CE outer P w H s Q u s':=
  fun {σ' H' v u} J rv q=> ⟨v,H',J.os,J.bare,J.base,J.hok,rv,q⟩
 cases fl with
 | ret u=>
  obtain ⟨v,σ',H',J,rv,q⟩:=hs
  exact fin J rv q
 | next=>
  obtain ⟨σ',H',J,q⟩:=hs
  exact fin (v:=V.non) (u:=Value.none) J rfl q
 | brk=>
  obtain ⟨_,_,_,q⟩:=hs
  exact False.elim q
 | cont=>
  obtain ⟨_,_,_,q⟩:=hs
  exact False.elim q
end L2
namespace L2
open PySem PySem.Spec PyProof.Rows
section
variable {X:Cx} {x:Str} {p pos:Pos} {e:Expr} {es:List Expr} {t:TA} {id T:String} {r:List V→Hp→VK→Prop}
def tCB (r:List V→Hp→VK→Prop) (t:TA):TE:=fun σ H Q=> t σ H fun vs H1=> r vs H1 Q
theorem fL (hc:cb X (.builtin id) r) (hg:Gl X x) (hm:X.mg x=none) (hv:bootBuiltins x=some (.builtin id)) (ha:PA X (e::es) t) (hn:x≠"__name__":=by decide) (hdb:(x==("__debug__":Str))=false:=by decide)
  (he:starEach (e::es) X.env=(false,eval e X.env)::starEach es X.env:=by rfl) (hpl:(backTo pos (starEach es X.env)).any (·.1)=false:=by rfl):PE X (.Call (.Name x p) (e::es) [] pos) (tCB r t):=by
 intro pins s σ H Q I h
 refine wpAny_Call_Name_kw (cU I hg hm hv ?_ hn hdb)
 exact PyProof.Rows.callWith_builtin1 (thn (ha pos pins s σ H _ I h) fun us s1 ⟨vs,H1,I1,r1,q1⟩=> hc pins s1 σ H1 vs us Q I1 r1 q1) he hpl
theorem kw (hc:cb X (.type T) r) (hg:Gl X x) (hm:X.mg x=none) (hv:bootBuiltins x=some (.type T)) (ha:PA X (e::es) t) (hn:x≠"__name__":=by decide) (hdb:(x==("__debug__":Str))=false:=by decide)
  (he:starEach (e::es) X.env=(false,eval e X.env)::starEach es X.env:=by rfl) (hpl:(backTo pos (starEach es X.env)).any (·.1)=false:=by rfl):PE X (.Call (.Name x p) (e::es) [] pos) (tCB r t):=by
 intro pins s σ H Q I h
 refine wpAny_Call_Name_kw (cU I hg hm hv ?_ hn hdb)
 exact PyProof.Rows.callWith_type1 (thn (ha pos pins s σ H _ I h) fun us s1 ⟨vs,H1,I1,r1,q1⟩=> hc pins s1 σ H1 vs us Q I1 r1 q1) he hpl
end
end L2
namespace HT
open PySem PyProof.Rows
section
open PySem.SeqAt
open PySem.AutoSeq1 (wpAny_loadPart')
open PySem.MeetsSeq PySem.MeetsSeq2 PySem.MeetsSeq3
end
section
variable {prog:Program} {w:World} {A:Around} {E:Value→Shared→Prop} {s:Shared}
theorem cat_tup {t b:Addr} {vs ws:List Value} {Q:Value→Shared→Prop} (ht:IsTup s.heap t vs.toArray) (hb:IsTup s.heap b ws.toArray) (hv:vs≠[])
  (h1:ws=[]→Q (.ref t) s) (h2:ws≠[]→Q (.ref s.heap.objs.size) { s with heap:=s.heap.push { cls:=.type "tuple",data:=.seq (vs++ws).toArray } })
  (hsz:vs.length+ws.length≤sizeLine):wpAny (model prog w) A (binaryOp .Add (.ref t) (.ref b)) Q E s:=by
 obtain ⟨⟨cls,dd,data,sl⟩,ho,hc,n,hd⟩:=id ht
 obtain ⟨⟨cls2,dd2,data2,sl2⟩,ho2,hc2,n2,hd2⟩:=id hb
 simp only at hc hd hc2 hd2
 subst hc hd hc2 hd2
 have e:vs.toArray++ws.toArray=(vs++ws).toArray:=by simp
 by_cases hw:ws=[]
 ·exact concat_meets ⟨_,ho,rfl⟩ ⟨_,ho2,rfl⟩ noFill_tuple_add seq_tuple_add PySem.F.slot_tuple_add PySem.F.entry_tuple_add (PySem.F.args_tuple_add_2 _ _)
   (tuple_addW1 t b vs.toArray ws.toArray n n2 dd dd2 sl sl2 (by simpa using hv) (by simp [hw])) ⟨ho,ho2,h1 hw⟩
 ·refine concat_meets ⟨_,ho,rfl⟩ ⟨_,ho2,rfl⟩ noFill_tuple_add seq_tuple_add PySem.F.slot_tuple_add PySem.F.entry_tuple_add (PySem.F.args_tuple_add_2 _ _)
   (tuple_addW2 t b vs.toArray ws.toArray n n2 dd dd2 sl sl2 (by simpa using hv) (by simpa using hw) (by rw [List.size_toArray,List.size_toArray]; exact hsz)) ⟨ho,ho2,?_⟩
  rw [e]
  exact h2 hw
def sIx (n d:Nat):Option Int→Nat
 | none=> d
 | some v=> if v < 0 then (v+(n:Int)).toNat else min v.toNat n
theorem oX (n d:Nat) (hd:d≤n) (o:Option Int):sIx n d o≤n:=by
 cases o with
 | none=> exact hd
 | some v=>
  show (if v < 0 then (v+(n:Int)).toNat else min v.toNat n)≤n
  by_cases hv:v < 0
  ·rw [if_pos hv]; omega
  ·rw [if_neg hv]; exact Nat.min_le_right _ _
theorem jG (v:Int) (n d:Nat):(if v < 0 then max (v+(n:Int)) 0 else min v (n:Int))=((sIx n d (some v):Nat):Int):=by
 show (if v < 0 then max (v+(n:Int)) 0 else min v (n:Int))=(((if v < 0 then (v+(n:Int)).toNat else min v.toNat n):Nat):Int)
 by_cases hv:v < 0
 ·simp only [if_pos hv]; omega
 ·simp only [if_neg hv]; omega
theorem i6 (lo hi:Option Int) (n:Nat):Builtin.Slice.sliceAdjust lo hi 1 (n:Int)=(((sIx n 0 lo:Nat):Int),((sIx n n hi:Nat):Int)):=by
 have h1:¬ ((1:Int) < 0):=by omega
 unfold Builtin.Slice.sliceAdjust
 simp only [h1,if_false]
 refine Prod.ext ?_ ?_
 ·cases lo with
  | none=> rfl
  | some v=> exact jG v n 0
 ·cases hi with
  | none=> rfl
  | some v=> exact jG v n n
theorem iT (i j:Nat):Builtin.Slice.slicePlaces (i:Int) (j:Int) 1=j - i:=by
 unfold Builtin.Slice.slicePlaces
 have h1:(1:Int) > 0:=by omega
 simp only [h1,if_true,Int.ediv_one]
 split <;> omega
theorem fv {v:Value} {o:Option Int} {Q:Option Int→Shared→Prop} (p:IsPart v o) (h:Q o s):wpAny (model prog w) A (Builtin.Slice.slicePartIndex v) Q E s:=by
 cases p with
 | none=> exact slicePart_none h
 | int i t=> exact slicePart_int h
theorem eF {sl:Addr} {vl vu:Value} {lo hi:Option Int} {n:Nat} {Q:Int×Int×Nat→Shared→Prop} (hs:s.heap.IsSliceOf sl vl vu .none) (pl:IsPart vl lo) (pu:IsPart vu hi)
  (h:Q (((sIx n 0 lo:Nat):Int),1,sIx n n hi - sIx n 0 lo) s):wpAny (model prog w) A (Builtin.Slice.sliceApplied (.ref sl) (pure (n:Int))) Q E s:=by
 obtain ⟨os,hos,hcs,hds⟩:=id hs
 unfold Builtin.Slice.sliceApplied Builtin.Slice.sliceFields
 refine wpAny_bind (wpAny_bind (wpAny_field hos hds (x:=vl) rfl (wpAny_bind (wpAny_field hos hds (x:=vu) rfl (wpAny_bind (wpAny_field hos hds (x:=.none) rfl (wpAny_pure ?_)))))))
 refine wpAny_bind (slicePart_none ?_)
 show wpAny _ _ (if ((1:Int)==0)=true then _ else _) _ _ s
 rw [if_neg (by decide)]
 refine wpAny_bind (fv pl (wpAny_bind (fv pu (wpAny_bind (wpAny_pure ?_)))))
 show wpAny _ _ (match Builtin.Slice.sliceAdjust lo hi 1 (n:Int) with | (lo,hi)=> pure (lo,(1:Int),Builtin.Slice.slicePlaces lo hi 1)) _ _ s
 rw [i6 lo hi n]
 show wpAny _ _ (pure (((sIx n 0 lo:Nat):Int),(1:Int),Builtin.Slice.slicePlaces ((sIx n 0 lo:Nat):Int) ((sIx n n hi:Nat):Int) 1)) _ _ s
 rw [iT]
 exact wpAny_pure h
theorem md (xs:Array Value) (i k:Nat):((List.range k).filterMap fun (m:Nat)=> xs[((i:Int)+(m:Int) * 1).toNat]?).toArray=((xs.toList.drop i).take k).toArray:=by
 have e:(fun (m:Nat)=> xs[((i:Int)+(m:Int) * 1).toNat]?)=fun m=> xs[i+m]?:=by
  funext m
  have:((i:Int)+(m:Int) * 1).toNat=i+m:=by omega
  rw [this]
 rw [e]
 have:=pick_run xs i k
 rw [List.filterMap_map] at this
 have e2:((fun x=> xs[x]?) ∘ fun x=> i+x)=fun m=> xs[i+m]?:=rfl
 rw [e2] at this
 rw [this]
theorem getItem_tuple_cut {t sl:Addr} {items:Array Value} {vl vu:Value} {lo hi:Option Int} {Q:Value→Shared→Prop} (ht:IsTup s.heap t items) (hs:s.heap.IsSliceOf sl vl vu .none) (pl:IsPart vl lo) (pu:IsPart vu hi)
  (hw:¬ (sIx items.size 0 lo=0∧sIx items.size items.size hi=items.size))
  (h:Q (.ref s.heap.objs.size) { s with heap:=s.heap.push { cls:=.type "tuple",data:=.seq ((items.toList.drop (sIx items.size 0 lo)).take (sIx items.size items.size hi - sIx items.size 0 lo)).toArray } })
  (hsz:items.size≤sizeLine):wpAny (model prog w) A (getItem (.ref t) (.ref sl)) Q E s:=by
 have htake:sizeOk (.seq ((items.toList.drop (sIx items.size 0 lo)).take (sIx items.size items.size hi - sIx items.size 0 lo)).toArray):=by
  show ((items.toList.drop (sIx items.size 0 lo)).take (sIx items.size items.size hi - sIx items.size 0 lo)).toArray.size≤sizeLine
  rw [List.size_toArray,List.length_take,List.length_drop,Array.length_toList]
  omega
 have hj:sIx items.size items.size hi≤items.size:=oX _ _ (Nat.le_refl _) hi
 obtain ⟨os,hos,hcs,hds⟩:=id hs
 have hTs:s.TypeIs (.ref sl) "slice":=⟨os,hos,hcs⟩
 unfold getItem
 try with_reducible refine wpAny_holding ?_
 first | refine wpAny_bind (wpAny_pure ?_) | skip
 refine wpAny_bind (wpAny_sequenceKey ht.typeIs (by decide) ?_)
 refine wpAny_bind (wpAny_callSpecial?_slot (name:=Str.ofString "__getitem__") ht.typeIs PyProof.Rows.slot_tuple_getitem
  (wpAny_call_entry PyProof.Rows.slot_tuple_getitem ht.typeIs entry_tuple_getitem ?_ (args_tuple_getitem _ _)))
 show wpAny _ _ (Builtin.Tuple.tupleItemsOf (.ref t) >>=_) _ _ s
 refine wpAny_bind (tupleItemsOf_ ht ?_)
 refine wpAny_bind (wpAny_typeOf hTs ?_)
 rw [if_pos (by decide)]
 refine wpAny_bind (eF hs pl pu ?_)
 have hno:¬ ((((sIx items.size 0 lo:Nat):Int)==0 && (1:Int)==1 && (sIx items.size items.size hi - sIx items.size 0 lo)==items.size)=true):=by
  intro q
  rw [Bool.and_eq_true,Bool.and_eq_true] at q
  have q1:((sIx items.size 0 lo:Nat):Int)=0:=eq_of_beq q.1.1
  have q2:sIx items.size items.size hi - sIx items.size 0 lo=items.size:=eq_of_beq q.2
  exact hw ⟨by omega,by omega⟩
 show wpAny _ _ (if (((sIx items.size 0 lo:Nat):Int)==0 && (1:Int)==1 && (sIx items.size items.size hi - sIx items.size 0 lo)==items.size)=true then _ else _) _ _ s
 rw [if_neg hno,md]
 first
  | exact wpAny_bind (m:=Builtin.Tuple.tupleExact _) (wpAny_newObj_type (wpAny_pure ⟨_,rfl,wpAny_pure h⟩) htake)
  | exact wpAny_bind (m:=Builtin.Tuple.tupleExact _) (wpAny_newObj_type (wpAny_bind (wpAny_pure (wpAny_pure ⟨_,rfl,wpAny_pure h⟩))) htake)
  | exact wpAny_bind (wpAny_bind (m:=Builtin.Tuple.tupleExact _) (wpAny_newObj_type (wpAny_pure (wpAny_pure ⟨_,rfl,wpAny_pure h⟩)) htake))
  | exact wpAny_bind (wpAny_bind (m:=Builtin.Tuple.tupleExact _) (wpAny_newObj_type (wpAny_pure ⟨_,rfl,wpAny_pure h⟩) htake))
end
end HT
namespace L2
open PySem PySem.Spec PyProof.Rows
abbrev TO:=St→Hp→(Option Int→Hp→Prop)→Prop
def PO (X:Cx) (e:Option Expr) (t:TO):Prop:=
 ∀ (pins:List (Addr×Obj)) (s:Shared) (σ:St) (H:Hp) (Q:Option Int→Hp→Prop),Inv X pins σ H s→t σ H Q→
  wpAny (model X.prog X.w) X.A (evalPart e X.env) (fun u s'=> ∃ o H',Inv X pins σ H' s'∧IsPart u o∧Q o H') X.xe s
def nj:TO:=fun _ H Q=> Q none H
def qE (t:TE):TO:=fun σ H Q=> t σ H fun x H1=> ∃ i,x=.int i∧Q (some i) H1
section
variable {X:Cx} {e:Expr} {te:TE} {lo hi:Option Expr} {tl th:TO} {pos p2:Pos}
theorem nN:PO X none nj:=by
 intro pins s σ H Q I h
 rw [evalPart_none]
 exact wpAny_pure ⟨none,H,I,.none,h⟩
theorem m7 (h:PE X e te):PO X (some e) (qE te):=by
 intro pins s σ H Q I hw
 rw [evalPart_some]
 refine thn (h pins s σ H _ I hw) fun u s1 ⟨x,H1,I1,r1,q1⟩=> ?_
 obtain ⟨i,rfl,q⟩:=q1
 obtain ⟨t,rfl⟩:=r1
 exact ⟨some i,H1,I1,.int i t,q⟩
def SlR (X:Cx) (r:V→Option Int→Option Int→Hp→VK→Prop):Prop:=
 ∀ (pins:List (Addr×Obj)) (s:Shared) (σ:St) (H:Hp) (x:V) (v vl vu:Value) (lo hi:Option Int) (sl:Addr) (Q:VK),Inv X pins σ H s→aK x v→s.heap.IsSliceOf sl vl vu .none→IsPart vl lo→IsPart vu hi→r x lo hi H Q→
  ∃ T id,typeLookup (.type T) "__getitem__"=pure (some (.builtin id))∧s.TypeIs v T∧wpAny (model X.prog X.w) X.A (getItem v (.ref sl)) (EP X pins σ Q) X.xe s
def tSl (r:V→Option Int→Option Int→Hp→VK→Prop) (te:TE) (tl th:TO):TE:=fun σ H Q=> te σ H fun x H1=> tl σ H1 fun l H2=> th σ H2 fun u H3=> r x l u H3 Q
theorem iy {r:V→Option Int→Option Int→Hp→VK→Prop} (hr:SlR X r) (he:PE X e te) (hl:PO X lo tl) (hu:PO X hi th):PE X (.Subscript e (.Slice lo hi none p2) pos) (tSl r te tl th):=by
 intro pins s σ H Q I h
 refine Subscript_ (thn (he pins s σ H _ I h) fun v s1 ⟨x,H1,I1,r1,q1⟩=> ?_)
 refine wpAny_Slice (thn (hl pins s1 σ H1 _ I1 q1) fun vl s2 ⟨l,H2,I2,pl,q2⟩=> thn (hu pins s2 σ H2 _ I2 q2) fun vu s3 ⟨u,H3,I3,pu,q3⟩=> ?_)
 rw [evalPart_none]
 refine wpAny_pure ?_
 have I4:Inv X pins σ H3 { s3 with heap:=s3.heap.push { cls:=.type "slice",data:=.fields #[vl,vu,.none] } }:=I3.kept (t':=s3.toks) fun b ob q=> Heap.get?_push_of_some _ q
 obtain ⟨T,id,hT,ht,hg⟩:=hr pins { s3 with heap:=s3.heap.push { cls:=.type "slice",data:=.fields #[vl,vu,.none] } } σ H3 x v vl vu l u s3.heap.objs.size Q I4 r1 (Heap.IsSliceOf.new ..) pl pu q3
 show wpAny (model X.prog X.w) X.A (subscriptTail e (.Slice lo hi none p2) v (.ref s3.heap.objs.size)) (EP X pins σ Q) X.xe { s3 with heap:=s3.heap.push { cls:=.type "slice",data:=.fields #[vl,vu,.none] } }
 exact tail_any (ops:=[.ref s3.heap.objs.size,v]) ht hT hg (by with_unfolding_all rfl)
def gS (xs:List V) (lo hi:Option Int):List V:=(xs.drop (HT.sIx xs.length 0 lo)).take (HT.sIx xs.length xs.length hi - HT.sIx xs.length 0 lo)
theorem eN (xs:List V) (lo hi:Option Int):(gS xs lo hi).length≤xs.length:=by
 unfold gS
 rw [List.length_take,List.length_drop]
 omega
def q_ (K:PySem.W.Frag):V→Option Int→Option Int→Hp→VK→Prop:=fun x lo hi H Q=> ∃ a xs,x=.ref a∧SqT K H a xs∧
 ¬ (HT.sIx xs.length 0 lo=0∧HT.sIx xs.length xs.length hi=xs.length)∧∀ p,H p=none→Q (.ref p) (upd H p (.tup (gS xs lo hi)))
theorem o_:SlR X (q_ X.K):=by
 intro pins s σ H x v vl vu lo hi sl Q I rx hs pl pu h
 obtain ⟨a,xs,rfl,hx,hw,q⟩:=h
 cases rx
 obtain ⟨its,r,ht,hz⟩:=I.tuple hx
 have hlen:its.toArray.size=xs.length:=by rw [List.size_toArray]; exact r.length.symm
 refine ⟨"tuple",_,PyProof.Rows.slot_tuple_getitem.lookup,ht.typeIs,?_⟩
 refine HT.getItem_tuple_cut ht hs pl pu (by rw [hlen]; exact hw) ?_ (by rw [hlen]; exact hz)
 rw [hlen]
 refine ⟨.ref s.heap.objs.size,_,I.laid (t':=s.toks) (o:=.tup (gS xs lo hi)) (fun b ob q=> Heap.get?_push_of_some _ q) (Nat.le_refl _) ?_,rfl,q _ (I.hok.fresh (Nat.le_refl _))⟩
 exact ⟨Nat.le_trans (eN xs lo hi) hz,_,(r.drop (HT.sIx xs.length 0 lo)).take (HT.sIx xs.length xs.length hi - HT.sIx xs.length 0 lo),IsTup.new _ _⟩
def qP (K:PySem.W.Frag):R2:=fun x y H Q=> ∃ a b xs ys,x=.ref a∧y=.ref b∧SqT K H a xs∧SqT K H b ys∧xs≠[]∧xs.length+ys.length≤sizeLine∧
 (ys=[]→Q (.ref a) H)∧(ys≠[]→∀ p,H p=none→Q (.ref p) (upd H p (.tup (xs++ys))))
theorem aq.nil_iff {xs:List V} {us:List Value} (r:aq xs us):us=[]↔xs=[]:=by
 cases r with
 | nil=> simp
 | cons _ _=> simp
theorem m9:OpR X (binaryOp .Add) (qP X.K):=by
 intro pins s σ H x y v u Q I rx ry h
 obtain ⟨a,b,xs,ys,rfl,rfl,ha,hb,hx,hz,q1,q2⟩:=h
 cases rx
 cases ry
 obtain ⟨its,r1,p1,_⟩:=I.tuple ha
 obtain ⟨its2,r2,p2,_⟩:=I.tuple hb
 refine HT.cat_tup p1 p2 (fun z=> hx (r1.nil_iff.mp z)) (fun z=> ⟨.ref a,H,I,rfl,q1 (r2.nil_iff.mp z)⟩) (fun z=> ?_) (by rw [← r1.length,← r2.length]; exact hz)
 refine ⟨.ref s.heap.objs.size,_,I.laid (t':=s.toks) (o:=.tup (xs++ys)) (fun b ob q=> Heap.get?_push_of_some _ q) (Nat.le_refl _) ?_,rfl,q2 (fun w=> z (r2.nil_iff.mpr w)) _ (I.hok.fresh (Nat.le_refl _))⟩
 exact ⟨by rw [List.length_append]; exact hz,_,r1.append r2,IsTup.new _ _⟩
end
end L2
namespace L2
open PySem PySem.Spec PyProof.Rows
def ixN (n:Nat) (i:Int):Option Nat:=if 0≤i then (if i < n then some i.toNat else none) else if -(n:Int)≤i then some (i+n).toNat else none
def atI {α:Type} (xs:List α) (i:Int):Option α:=(ixN xs.length i).bind fun j=> xs[j]?
theorem oj {n:Nat} {i:Int} {j:Nat} (h:ixN n i=some j):seqIndex? i n=some j∧j < n∧-(n:Int)≤i∧i < n:=by
 unfold ixN at h
 by_cases h0:0≤i
 ·rw [if_pos h0] at h
  by_cases h1:i < n
  ·rw [if_pos h1] at h
   have e:i.toNat=j:=Option.some.inj h
   exact ⟨by rw [seqIndex_of h0 h1,e],by omega,by omega,h1⟩
  ·rw [if_neg h1] at h; cases h
 ·rw [if_neg h0] at h
  by_cases h1:-(n:Int)≤i
  ·rw [if_pos h1] at h
   have e:(i+n).toNat=j:=Option.some.inj h
   exact ⟨by rw [seqIndex_neg (by omega) h1,e],by omega,h1,by omega⟩
  ·rw [if_neg h1] at h; cases h
theorem jJ {α:Type} {xs:List α} {i:Int} {v:α} (h:atI xs i=some v):∃ j,seqIndex? i xs.length=some j∧xs[j]?=some v∧j < xs.length∧-(xs.length:Int)≤i∧i < xs.length:=by
 unfold atI at h
 cases e:ixN xs.length i with
 | none=> rw [e] at h; cases h
 | some j=>
  rw [e] at h
  obtain ⟨h1,h2,h3,h4⟩:=oj e
  exact ⟨j,h1,h,h2,h3,h4⟩
theorem jP {α:Type} {xs:List α} {j:Nat} {v:α} (h:xs[j]?=some v):atI xs (j:Int)=some v:=by
 have hj:j < xs.length:=(List.getElem?_eq_some_iff.mp h).1
 have e:ixN xs.length (j:Int)=some j:=by
  unfold ixN
  rw [if_pos (by omega),if_pos (by omega)]; simp
 unfold atI; rw [e]; exact h
def gO (b:Expr):Prop:=∀ o i,subscripted b false o i=operate [o,i] (getItem o i)
def IxR (X:Cx) (r:R2):Prop:=
 ∀ (value slice:Expr) (pins:List (Addr×Obj)) (s:Shared) (σ:St) (H:Hp) (x y:V) (v u:Value) (Q:VK),Inv X pins σ H s→aK x v→aK y u→r x y H Q→
  subscripted slice false v u=operate [v,u] (getItem v u)→wpAny (model X.prog X.w) X.A (subscriptTail value slice v u) (EP X pins σ Q) X.xe s
def MtR (X:Cx) (id:String) (r:V→List V→Hp→VK→Prop):Prop:=
 ∀ (pins:List (Addr×Obj)) (s:Shared) (σ:St) (H:Hp) (x:V) (xs:List V) (v:Value) (us:List Value) (Q:VK),Inv X pins σ H s→aK x v→aq xs us→r x xs H Q→
  wpAny (model X.prog X.w) X.A (call (.builtin id) (v::us)) (EP X pins σ Q) X.xe s
section
variable {X:Cx} {a b:Expr} {ta tb:TE} {pos:Pos}
theorem IxR.or {r r':R2} (h:IxR X r) (h':IxR X r'):IxR X (fun x y H Q=> r x y H Q∨r' x y H Q):=by
 intro value slice pins s σ H x y v u Q I rx ry q hs
 rcases q with q | q
 ·exact h value slice pins s σ H x y v u Q I rx ry q hs
 ·exact h' value slice pins s σ H x y v u Q I rx ry q hs
theorem oK {r:R2} (hr:IxR X r) (ha:PE X a ta) (hb:PE X b tb) (hs:gO b):PE X (.Subscript a b pos) (tOp r ta tb):=by
 intro pins s σ H Q I h
 exact Subscript_ (pP ha hb I h fun v u s2 x y H2 I2 rx ry q=> hr a b pins s2 σ H2 x y v u Q I2 rx ry q (hs _ _))
def rQ (K:PySem.W.Frag):R2:=fun x y H Q=> ∃ p xs i v,x=.ref p∧y=.int i∧SqL K H p xs∧atI xs i=some v∧Q v H
def rH (K:PySem.W.Frag):R2:=fun x y H Q=> ∃ p xs i v,x=.ref p∧y=.int i∧SqT K H p xs∧atI xs i=some v∧Q v H
theorem ju:IxR X (rQ X.K):=by
 intro value slice pins s σ H x y v u Q I rx ry h hs
 obtain ⟨p,xs,i,z,rfl,rfl,hq,he,q⟩:=h
 cases rx
 obtain ⟨t,rfl⟩:=ry
 obtain ⟨its,r,pl,hz⟩:=I.list hq
 obtain ⟨j,h1,h2,h3,h4,h5⟩:=jJ he
 obtain ⟨w,ew,rw'⟩:=r.get h2
 have hl:=r.length
 have hn:=ji
 have fin:EP X pins σ Q w s:=⟨z,H,I,rw',q⟩
 by_cases h0:0≤i
 ·have hj:i.toNat=j:=by
   rw [seqIndex_of h0 h5] at h1
   exact Option.some.inj h1
  exact item_listR pl.isList h0 (by omega) (by rw [hj]; simpa using ew) fin hs
 ·have hj:(i+(its.toArray.size:Int)).toNat=j:=by
   rw [seqIndex_neg (by omega) h4] at h1
   rw [List.size_toArray,← hl]
   exact Option.some.inj h1
  exact subscriptTail_builtinR (x:=w) pl.isList.typeIs slot_list_getitem.lookup
   (wpAny_getItem_list_neg (Q:=fun r s'=> r=w∧EP X pins σ Q r s') pl.isList (by omega) (by rw [List.size_toArray] <;> omega) (by omega) (by rw [hj]; simpa using ew) ⟨rfl,fin⟩) hs
theorem pw:IxR X (rH X.K):=by
 intro value slice pins s σ H x y v u Q I rx ry h hs
 obtain ⟨p,xs,i,z,rfl,rfl,hq,he,q⟩:=h
 cases rx
 obtain ⟨t,rfl⟩:=ry
 obtain ⟨its,r,pl,hz⟩:=I.tuple hq
 obtain ⟨j,h1,h2,h3,h4,h5⟩:=jJ he
 obtain ⟨w,ew,rw'⟩:=r.get h2
 have hl:=r.length
 have hn:=ji
 have fin:EP X pins σ Q w s:=⟨z,H,I,rw',q⟩
 exact subscriptTail_builtinR (x:=w) pl.typeIs slot_tuple_getitem.lookup
  (getItem_tuple (j:=j) (Q:=fun r s'=> r=w∧EP X pins σ Q r s') pl (by omega) (by omega) (by rw [List.size_toArray,← hl]; exact h1) (by simpa using ew) ⟨rfl,fin⟩) hs
theorem gG (lo hi:Option Int) (n:Nat):(sliceBounds lo hi none n).1=((HT.sIx n 0 lo:Nat):Int)∧(sliceBounds lo hi none n).2.1=((HT.sIx n n hi:Nat):Int)∧(sliceBounds lo hi none n).2.2=1:=by
 refine ⟨?_,?_,rfl⟩
 ·cases lo with
  | none=> simp [sliceBounds,HT.sIx]
  | some i=>
   simp only [sliceBounds,HT.sIx,Option.getD_none,show (1:Int) > 0 by decide,if_true]
   by_cases h:i < 0
   ·simp only [h,if_true] <;> omega
   ·simp only [h,if_false] <;> omega
 ·cases hi with
  | none=> simp [sliceBounds,HT.sIx]
  | some i=>
   simp only [sliceBounds,HT.sIx,Option.getD_none,show (1:Int) > 0 by decide,if_true]
   by_cases h:i < 0
   ·simp only [h,if_true] <;> omega
   ·simp only [h,if_false] <;> omega
theorem fU (its:List Value) (lo hi:Option Int):slicePick its.toArray lo hi none=((its.drop (HT.sIx its.length 0 lo)).take (HT.sIx its.length its.length hi - HT.sIx its.length 0 lo)).toArray:=by
 obtain ⟨h1,h2,h3⟩:=gG lo hi its.toArray.size
 unfold slicePick
 rw [h1,h2,h3]
 simp only [sliceRange_one,pick_run,List.size_toArray] <;> rfl
def q9 (K:PySem.W.Frag):V→Option Int→Option Int→Hp→VK→Prop:=fun x lo hi H Q=> ∃ a xs,x=.ref a∧SqL K H a xs∧∀ p,H p=none→Q (.ref p) (upd H p (.lst (gS xs lo hi)))
theorem nO:SlR X (q9 X.K):=by
 intro pins s σ H x v vl vu lo hi sl Q I rx hs pl pu h
 obtain ⟨a,xs,rfl,hx,q⟩:=h
 cases rx
 obtain ⟨its,r,ht,hz⟩:=I.list hx
 have hlen:=r.length
 refine ⟨"list",_,slot_list_getitem.lookup,ht.isList.typeIs,?_⟩
 refine wpAny_getItem_list_slice ht.isList hs pl pu .none (by simp) ?_ (by rw [List.size_toArray] <;> omega)
 rw [fU,← hlen]
 refine ⟨.ref s.heap.objs.size,_,I.laid (t':=s.toks) (o:=.lst (gS xs lo hi)) (fun b ob q=> Heap.get?_push_of_some _ q) (Nat.le_refl _) ?_,rfl,q _ (I.hok.fresh (Nat.le_refl _))⟩
 exact ⟨Nat.le_trans (eN xs lo hi) hz,_,0,(r.drop (HT.sIx xs.length 0 lo)).take (HT.sIx xs.length xs.length hi - HT.sIx xs.length 0 lo),Heap.get?_push_size _ rfl⟩
def dw:V→Bool
 | .non=> true
 | .bl _=> true
 | .int _=> true
 | .str _=> true
 | _=> false
def eqV:V→V→Bool
 | .non,.non=> true
 | .bl a,.bl b=> a==b
 | .bl a,.int b=> (if a then 1 else 0)==b
 | .int a,.bl b=> a==(if b then 1 else 0)
 | .int a,.int b=> a==b
 | .str a,.str b=> a==b
 | _,_=> false
theorem pO {A:Around} {s:Shared} {y x:V} {u v:Value} (ry:aK y u) (rx:aK x v) (fy:dw y=true) (fx:dw x=true):SeqAt.EqAt A s u v (eqV y x):=by
 cases y with
 | non=>
  cases ry
  cases x with
  | non=> cases rx; exact SeqAt.EqAt.same _
  | bl b=> cases rx; exact SeqAt.EqAt.none_bool b
  | int b=> obtain ⟨t,rfl⟩:=rx; exact SeqAt.EqAt.none_int b t
  | str b=> obtain ⟨t,rfl⟩:=rx; exact SeqAt.EqAt.none_str b t
  | _=> exact absurd (show false=true from fx) Bool.false_ne_true
 | bl a=>
  cases ry
  cases x with
  | non=> cases rx; exact SeqAt.EqAt.bool_none a
  | bl b=> cases rx; exact SeqAt.EqAt.bool_bool a b
  | int b=> obtain ⟨t,rfl⟩:=rx; exact SeqAt.EqAt.bool_int a b t
  | str b=> obtain ⟨t,rfl⟩:=rx; exact SeqAt.EqAt.bool_str a b t
  | _=> exact absurd (show false=true from fx) Bool.false_ne_true
 | int a=>
  obtain ⟨t',rfl⟩:=ry
  cases x with
  | non=> cases rx; exact SeqAt.EqAt.int_none a t'
  | bl b=> cases rx; exact SeqAt.EqAt.int_bool a t' b
  | int b=> obtain ⟨t,rfl⟩:=rx; exact SeqAt.EqAt.int_int a t' b t
  | str b=> obtain ⟨t,rfl⟩:=rx; exact SeqAt.EqAt.int_str a t' b t
  | _=> exact absurd (show false=true from fx) Bool.false_ne_true
 | str a=>
  obtain ⟨t',rfl⟩:=ry
  cases x with
  | non=> cases rx; exact SeqAt.EqAt.str_none a t'
  | bl b=> cases rx; exact SeqAt.EqAt.str_bool a t' b
  | int b=> obtain ⟨t,rfl⟩:=rx; exact SeqAt.EqAt.str_int a t' b t
  | str b=> obtain ⟨t,rfl⟩:=rx; exact SeqAt.EqAt.str_str a t' b t
  | _=> exact absurd (show false=true from fx) Bool.false_ne_true
 | _=> exact absurd (show false=true from fy) Bool.false_ne_true
def eqU (x:V) (u:Value):Bool:=match u with
 | .none=> eqV .non x
 | .bool b=> eqV (.bl b) x
 | .int i _=> eqV (.int i) x
 | .str z _=> eqV (.str z) x
 | _=> false
theorem lC {x y:V} {u:Value} (r:aK y u) (f:dw y=true):eqU x u=eqV y x:=by
 cases y with
 | non=> cases r; rfl
 | bl b=> cases r; rfl
 | int i=> obtain ⟨t,rfl⟩:=r; rfl
 | str z=> obtain ⟨t,rfl⟩:=r; rfl
 | _=> exact absurd (show false=true from f) Bool.false_ne_true
theorem g5 {x:V}:∀ {xs:List V} {us:List Value},aq xs us→xs.all dw=true→us.any (eqU x)=xs.any fun y=> eqV y x
 | _,_,.nil,_=> rfl
 | y::xs,u::us,.cons r t,f=> by
  rw [List.all_cons,Bool.and_eq_true] at f
  rw [List.any_cons,List.any_cons,lC r f.1,g5 t f.2]
theorem fz {A:Around} {s:Shared} {x:V} {v:Value} (rx:aK x v) (fx:dw x=true):∀ {xs:List V} {us:List Value},aq xs us→xs.all dw=true→∀ u∈us,SeqAt.EqAt A s u v (eqU x u)
 | _,_,.nil,_=> fun u hu=> by cases hu
 | y::xs,u::us,.cons r t,f=> fun u' hu=> by
  rw [List.all_cons,Bool.and_eq_true] at f
  rcases List.mem_cons.mp hu with rfl | hu
  ·rw [lC r f.1]; exact pO r rx f.1 fx
  ·exact fz rx fx t f.2 u' hu
def inV (x:V) (xs:List V):Bool:=xs.any fun y=> eqV y x
def rIn (K:PySem.W.Frag) (neg:Bool):R2:=fun x y H Q=> ∃ p xs,y=.ref p∧(SqL K H p xs∨SqT K H p xs)∧dw x=true∧xs.all dw=true∧Q (.bl (if neg then !inV x xs else inV x xs)) H
theorem kR:OpR X (compareOp .In) (rIn X.K false):=by
 intro pins s σ H x y v u Q I rx ry h
 obtain ⟨p,xs,rfl,hq,fx,fs,q⟩:=h
 cases ry
 rcases hq with hq | hq
 ·obtain ⟨its,r,pl,hz⟩:=I.list hq
  refine SeqAt.in_listAt (eqU x) pl.isList (fun w hw=> fz rx fx r fs w (by simpa using hw)) ⟨.bl _,H,I,rfl,?_⟩
  rw [show its.toArray.any (eqU x)=its.any (eqU x) by simp,g5 r fs]
  exact q
 ·obtain ⟨its,r,pl,hz⟩:=I.tuple hq
  refine SeqAt.in_tupleAt (eqU x) pl (fun w hw=> fz rx fx r fs w (by simpa using hw)) ⟨.bl _,H,I,rfl,?_⟩
  rw [show its.toArray.any (eqU x)=its.any (eqU x) by simp,g5 r fs]
  exact q
theorem dN:cb X (.builtin "len") (fun xs H Q=> ∃ p ys,xs=[.ref p]∧(SqL X.K H p ys∨SqT X.K H p ys)∧Q (.int ys.length) H):=by
 intro pins s σ H xs us Q I r h
 obtain ⟨p,ys,rfl,hq,q⟩:=h
 obtain ⟨u,rfl,rx⟩:=iB r
 cases rx
 have hn:=ji
 rcases hq with hq | hq
 ·obtain ⟨its,r',pl,hz⟩:=I.list hq
  have hlen:=r'.length
  exact Calls.call_len_list pl.isList (by simp only [List.size_toArray] <;> omega) ⟨.int ys.length,H,I.tok _,⟨s.toks+1,by rw [List.size_toArray,hlen]⟩,q⟩
 ·obtain ⟨its,r',pl,hz⟩:=I.tuple hq
  have hlen:=r'.length
  exact len_tuple pl (by simp only [List.size_toArray] <;> omega) ⟨.int ys.length,H,I.tok _,⟨s.toks+1,by rw [List.size_toArray,hlen]⟩,q⟩
theorem gY:cb X (.type "list") (fun xs H Q=> ∃ p ys,xs=[.ref p]∧(SqL X.K H p ys∨SqT X.K H p ys)∧∀ l,H l=none→Q (.ref l) (upd H l (.lst ys))):=by
 intro pins s σ H xs us Q I r h
 obtain ⟨p,ys,rfl,hq,q⟩:=h
 obtain ⟨u,rfl,rx⟩:=iB r
 cases rx
 have fin:∀ (its:List Value),aq ys its→ys.length≤sizeLine→∀ (h':Heap) (c':Nat),(∀ b o',s.heap.get? b=some o'→h'.get? b=some o')→
   h'.get? s.heap.objs.size=some { cls:=.type "list",dict:=none,data:=.seq its.toArray c',slots:=#[] }→EP X pins σ Q (.ref s.heap.objs.size) { s with heap:=h' }:=fun its r' hz h' c' kp e=>
  ⟨.ref s.heap.objs.size,_,I.laid (t':=s.toks) kp (Nat.le_refl _) (show bF X.prog X.w _ h' _ (.lst ys) from ⟨hz,its,c',r',e⟩),rfl,q _ (I.hok.fresh (Nat.le_refl _))⟩
 rcases hq with hq | hq
 ·obtain ⟨its,r',pl,hz⟩:=I.list hq
  have hlen:=r'.length
  obtain ⟨o,ho,hc,n,hd⟩:=pl.isList
  exact call_list_seq p (.inl rfl) ho hc hd (fun h' c' kp e=> fin its r' hz h' c' kp e) (by simp only [List.size_toArray] <;> omega)
 ·obtain ⟨its,r',pl,hz⟩:=I.tuple hq
  have hlen:=r'.length
  obtain ⟨o,ho,hc,n,hd⟩:=pl
  exact call_list_seq p (.inr rfl) ho hc hd (fun h' c' kp e=> fin its r' hz h' c' kp e) (by simp only [List.size_toArray] <;> omega)
def tyV (K:PySem.W.Frag) (T:String) (x:V) (H:Hp):Prop:=match x with
 | .str _=> T="str"
 | .int _=> T="int"
 | .ref p=> (T="list"∧∃ xs,SqL K H p xs)∨(T="tuple"∧∃ o,K.lookup p=some o∧o.cls=.type "tuple"∧o.dict=none)∨
   (T="dict"∧((∃ kvs,H p=some (.dK kvs))∨∃ kvs,H p=some (.dT kvs)))∨(T="set"∧∃ S n,H p=some (.set S n))
 | _=> False
theorem mJ {pins:List (Addr×Obj)} {σ:St} {H:Hp} {s:Shared} {T:String} {x:V} {v:Value} (I:Inv X pins σ H s) (r:aK x v) (ty:tyV X.K T x H):
  s.TypeIs v T∧∀ a,v=.ref a→∃ ob,s.heap.get? a=some ob∧ob.dict=none:=by
 cases x with
 | str z=>
  obtain ⟨t,rfl⟩:=r
  cases (show T="str" from ty)
  exact ⟨typeIs_str s z t,fun _ e=> nomatch e⟩
 | int i=>
  obtain ⟨t,rfl⟩:=r
  cases (show T="int" from ty)
  exact ⟨typeIs_int s i t,fun _ e=> nomatch e⟩
 | ref p=>
  cases r
  rcases ty with ⟨rfl,xs,hq⟩ | ⟨rfl,o,hk,hc,hd⟩ | ⟨rfl,hk⟩ | ⟨rfl,S,n,hk⟩
  ·obtain ⟨its,_,pl,_⟩:=I.list hq
   refine ⟨pl.isList.typeIs,fun a e=> ?_⟩
   cases e
   obtain ⟨o,n,e,c,hd,_⟩:=pl
   exact ⟨o,e,hd⟩
  ·refine ⟨⟨o,I.kIn p o hk,hc⟩,fun a e=> ?_⟩
   cases e
   exact ⟨o,I.kIn _ o hk,hd⟩
  ·have z:∃ o,s.heap.get? p=some o∧o.ExactDict:=by
    rcases hk with ⟨kvs,hk⟩ | ⟨kvs,hk⟩
    ·obtain ⟨_,_,_,_,o,_,_,e,ex,_⟩:=I.hok p _ hk
     exact ⟨o,e,ex⟩
    ·obtain ⟨_,_,_,_,o,_,_,e,ex,_⟩:=I.hok p _ hk
     exact ⟨o,e,ex⟩
   obtain ⟨o,e,ex⟩:=z
   refine ⟨⟨o,e,ex.1⟩,fun a e2=> ?_⟩
   cases e2
   exact ⟨o,e,ex.2.1⟩
  ·obtain ⟨o,_,_,_,e,ex,_⟩:=I.hok p _ hk
   refine ⟨⟨o,e,ex.1⟩,fun a e2=> ?_⟩
   cases e2
   exact ⟨o,e,ex.2.1⟩
 | _=> exact False.elim ty
def rG (K:PySem.W.Frag) (T:String) (r:V→List V→Hp→VK→Prop) (to:TE):TE:=fun σ H Q=> to σ H fun x H1=> tyV K T x H1∧r x [] H1 Q
def tBM (K:PySem.W.Frag) (T:String) (r:V→List V→Hp→VK→Prop) (to:TE) (t:TA):TE:=fun σ H Q=> to σ H fun x H1=> tyV K T x H1∧t σ H1 fun xs H2=> r x xs H2 Q
variable {o e:Expr} {es:List Expr} {to:TE} {t:TA} {name:Str} {apos cpos:Pos} {T id:String} {r:V→List V→Hp→VK→Prop}
theorem px (pa:PlainAttrs T) (slot:Slot T name id) (hty:typeOf (.builtin id)=pure (.type "method_descriptor")) (hm:MtR X id r) (ho:PE X o to)
  (hbase:attributeBase o name X.env (eval o X.env)=eval o X.env:=by rfl) (hline:(apos.endLine==cpos.line)=true:=by rfl):PE X (.Call (.Attribute o name apos) [] [] cpos) (rG X.K T r to):=by
 intro pins s σ H Q I h
 refine wpAny_Call_method0_late hbase hline (thn (ho pins s σ H _ I h) fun v s1 ⟨x,H1,I1,r1,ty,q1⟩=> ?_)
 obtain ⟨h1,h2⟩:=mJ I1 r1 ty
 exact ⟨T,id,pa,slot,hty,h1,h2,Calls.callWith_builtin rfl (PySem.evalArgs_none (hm pins s1 σ H1 x [] v [] Q I1 r1 .nil q1))⟩
theorem qU (pa:PlainAttrs T) (slot:Slot T name id) (hty:typeOf (.builtin id)=pure (.type "method_descriptor")) (hm:MtR X id r) (ho:PE X o to) (ha:PA X (e::es) t)
  (hbase:attributeBase o name X.env (eval o X.env)=eval o X.env:=by rfl)
  (hfew:((backTo cpos (starEach (e::es) X.env)).all (fun x=> !x.1) && (backToKw cpos (keywordEach [] X.env)).all (fun x=> x.1.isSome)
   && decide ((e::es).length+([]:List Keyword).length+(if ([]:List Keyword).isEmpty then 0 else 1) < 30))=true:=by rfl)
  (hline:(apos.endLine==cpos.line)=true:=by rfl) (hs:starEach (e::es) X.env=(false,eval e X.env)::starEach es X.env:=by rfl) (hplain:(backTo cpos (starEach es X.env)).any (·.1)=false:=by rfl):
  PE X (.Call (.Attribute o name apos) (e::es) [] cpos) (tBM X.K T r to t):=by
 intro pins s σ H Q I h
 refine wpAny_Call_method_late hbase hfew hline rfl (thn (ho pins s σ H _ I h) fun v s1 ⟨x,H1,I1,r1,ty,q1⟩=> ?_)
 obtain ⟨h1,h2⟩:=mJ I1 r1 ty
 refine ⟨T,id,pa,slot,hty,h1,h2,?_⟩
 have hA:=ha cpos pins s1 σ H1 _ I1 q1
 rw [hs] at hA ⊢
 refine Calls.callWith_builtin (by show (false || (backTo cpos (starEach es X.env)).any (·.1))=false; rw [hplain] <;> rfl) (Calls.evalArgs_plain ?_)
 exact thn hA fun us s2 ⟨vs,H2,I2,r2,q2⟩=> hm pins s2 σ H2 x vs v us Q I2 r1 r2 q2
/- xs.append(e),list.index on a module's tuple .. are MtR facts of 06m -/
end
end L2
namespace L2
open PySem PySem.Spec PyProof.Rows
def MtM (X:Cx) (id:String) (r:V→List V→Hp→VK→Prop):Prop:=
 ∀ (pins:List (Addr×Obj)) (s:Shared) (σ:St) (H:Hp) (x:V) (xs:List V) (v:Value) (us:List Value) (Q:VK),Inv X pins σ H s→aK x v→aq xs us→r x xs H Q→
  wpAny (model X.prog X.w) X.A (call (.builtin id) (v::us)) (EP X pins σ Q) X.xe s
theorem aq.one:∀ {x:V} {us:List Value},aq [x] us→∃ u,us=[u]∧aK x u
 | _,_,.cons r .nil=> ⟨_,rfl,r⟩
theorem aq.zero:∀ {us:List Value},aq [] us→us=[]
 | _,.nil=> rfl
theorem aq.dropLast {xs:List V} {us:List Value} (h:aq xs us):aq xs.dropLast us.dropLast:=by
 induction h with
 | nil=> exact .nil
 | cons r t ih=>
  cases t with
  | nil=> exact .nil
  | cons q t'=> exact .cons r ih
theorem aq.rep {xs:List V} {us:List Value} (h:aq xs us):∀ k:Nat,aq (List.replicate k xs).flatten (List.replicate k us).flatten
 | 0=> .nil
 | k+1=> by
  rw [List.replicate_succ,List.replicate_succ,List.flatten_cons,List.flatten_cons]
  exact aq.append h (aq.rep h k)
theorem i9 {α:Type} (l:List α):l.eraseIdx (l.length - 1)=l.dropLast:=by
 induction l with
 | nil=> rfl
 | cons a r ih=>
  cases r with
  | nil=> rfl
  | cons b r=>
   have e:(a::b::r).length - 1=((b::r).length - 1)+1:=by
    have h1:(a::b::r).length=r.length+2:=rfl
    have h2:(b::r).length=r.length+1:=rfl
    omega
   rw [e,List.eraseIdx_cons_succ,ih]
   all_goals rfl
theorem gw (its:List Value):∀ (k:Nat) (acc:List Value),
  List.foldl (fun x1 x2=> x1++x2) acc.toArray (List.replicate k its.toArray)=(acc++(List.replicate k its).flatten).toArray
 | 0,acc=> by simp
 | k+1,acc=> by
  have e:acc.toArray++its.toArray=(acc++its).toArray:=by simp
  have e2:(acc++its)++(List.replicate k its).flatten=acc++(List.replicate (k+1) its).flatten:=by
   rw [List.replicate_succ,List.flatten_cons,List.append_assoc]
  rw [← e2,← gw its k (acc++its),← e,List.replicate_succ,List.foldl_cons]
section
variable {X:Cx} {pins:List (Addr×Obj)} {σ:St} {H:Hp} {s:Shared} {l b:Addr} {xs ys zs:List V}
theorem Inv.lset {its its':List Value} {n:Nat} {f:Array Value→Array Value} {t':Nat} (I:Inv X pins σ H s) (hH:H l=some (.lst xs))
  (e:s.heap.get? l=some { cls:=.type "list",data:=.seq its.toArray n }) (hf:f its.toArray=its'.toArray) (hv:aq ys its') (hz:ys.length≤sizeLine):
  Inv X pins σ (upd H l (.lst ys)) { s with heap:=s.heap.update l (Obj.mapSeq f),toks:=t' }:=by
 have q:=PySem.IsL.update e f
 rw [hf] at q
 refine I.write (x:=l) (e:=l) (by rw [hH]; exact trivial) (.inl rfl) (fun b' u hb hu=> (Heap.get?_update_other s.heap (Obj.mapSeq f) (Ne.symm hb)).trans hu) ⟨_,q⟩ ?_
 exact ⟨hz,its',_,hv,q⟩
theorem Inv.lnew {its:List Value} {t':Nat} (I:Inv X pins σ H s) (hv:aq ys its) (hz:ys.length≤sizeLine):
  Inv X pins σ (upd H s.heap.objs.size (.lst ys)) { s with heap:=s.heap.push { cls:=.type "list",data:=.seq its.toArray },toks:=t' }:=
 I.laid (fun _ _ q=> Heap.get?_push_of_some _ q) (Nat.le_refl _) ⟨hz,its,0,hv,Heap.get?_push_size _ rfl⟩
theorem Inv.fresh (I:Inv X pins σ H s):H s.heap.objs.size=none:=I.hok.fresh (Nat.le_refl _)
theorem Inv.lstM (I:Inv X pins σ H s) (hH:H l=some (.lst xs)):xs.length≤sizeLine∧∃ (its:List Value) (n:Nat),aq xs its∧xs.length=its.length∧s.heap.get? l=some { cls:=.type "list",data:=.seq its.toArray n }:=by
 obtain ⟨z,its,n,r,e⟩:=I.hok l _ hH
 exact ⟨z,its,n,r,r.length,e⟩
theorem mM {n:Nat} (h:n≤sizeLine):Builtin.List.listTooLong n=false:=by
 unfold Builtin.List.listTooLong
 exact decide_eq_false (by omega)
end
section
variable {X:Cx}
def n9:V→List V→Hp→VK→Prop:=fun x vs H Q=> ∃ l xs y,x=.ref l∧vs=[y]∧H l=some (.lst xs)∧xs.length < sizeLine∧Q .non (upd H l (.lst (xs++[y])))
theorem eE:MtM X "list.append" n9:=by
 intro pins s σ H x vs v us Q I rx rv h
 obtain ⟨l,xs,y,rfl,rfl,hH,hz,q⟩:=h
 cases rx
 obtain ⟨u,rfl,ru⟩:=rv.one
 obtain ⟨z,its,n,r,hl,e⟩:=I.lstM hH
 refine call_meets F.slot_list_append ⟨_,e,rfl⟩ F.entry_list_append (F.args_list_append_2 _ _) (PySem.list_append l its.toArray n u (by rw [List.size_toArray]; omega)) ⟨e,?_⟩
 refine ⟨.non,_,I.lset (its':=its++[u]) hH e (by simp) (r.append (.cons ru .nil)) ?_,rfl,q⟩
 rw [List.length_append,List.length_singleton]
 omega
def qY:V→List V→Hp→VK→Prop:=fun x vs H Q=> ∃ l xs y,x=.ref l∧vs=[]∧H l=some (.lst xs)∧xs[xs.length - 1]?=some y∧Q y (upd H l (.lst xs.dropLast))
theorem o6:MtM X "list.pop" qY:=by
 intro pins s σ H x vs v us Q I rx rv h
 obtain ⟨l,xs,y,rfl,rfl,hH,hy,q⟩:=h
 cases rx
 have hus:=rv.zero
 subst hus
 obtain ⟨z,its,n,r,hl,e⟩:=I.lstM hH
 obtain ⟨u,hu,ru⟩:=r.get hy
 have hy':its.toArray[its.toArray.size - 1]?=some u:=by
  show its.toArray[its.length - 1]?=some u
  rw [← Array.getElem?_toList,← hl]
  exact hu
 refine call_meets F.slot_list_pop ⟨_,e,rfl⟩ F.entry_list_pop (F.args_list_pop_1 _) (MeetsSeq.list_pop_last l its.toArray n u hy' (by rw [List.size_toArray]; omega)) ⟨e,?_⟩
 refine ⟨y,_,I.lset (its':=its.dropLast) hH e ?_ r.dropLast ?_,ru,q⟩
 ·show its.toArray.eraseIdxIfInBounds (its.toArray.size - 1)=its.dropLast.toArray
  rw [List.size_toArray,List.eraseIdxIfInBounds_toArray,i9]
 ·rw [List.length_dropLast]
  omega
def rb:R2:=fun x y H Q=> ∃ l b xs zs,x=.ref l∧y=.ref b∧H l=some (.lst xs)∧H b=some (.lst zs)∧xs.length+zs.length≤sizeLine∧∀ p,H p=none→Q (.ref p) (upd H p (.lst (xs++zs)))
theorem pG:OpR X (binaryOp .Add) rb:=by
 intro pins s σ H x y v u Q I rx ry h
 obtain ⟨l,b,xs,zs,rfl,rfl,hH,hB,hz,q⟩:=h
 cases rx
 cases ry
 obtain ⟨z,its,n,r,hl,e⟩:=I.lstM hH
 obtain ⟨z2,its2,n2,r2,hl2,e2⟩:=I.lstM hB
 refine PySem.P.add_list e e2 ?_ (by rw [List.size_toArray,List.size_toArray]; omega)
 have ea:its.toArray++its2.toArray=(its++its2).toArray:=by simp
 rw [ea]
 exact ⟨.ref _,_,I.lnew (t':=s.toks) (r.append r2) (by rw [List.length_append]; omega),rfl,q _ I.fresh⟩
def rA:R2:=fun x y H Q=> ∃ l k xs,x=.ref l∧y=.int k∧H l=some (.lst xs)∧-(2 ^ 63)≤k∧k < 2 ^ 63∧xs.length * k.toNat≤sizeLine∧
 ∀ p,H p=none→Q (.ref p) (upd H p (.lst (List.replicate k.toNat xs).flatten))
theorem nI {α:Type} (xs:List α) (k:Nat):(List.replicate k xs).flatten.length=k * xs.length:=by
 induction k with
 | zero=> simp
 | succ k ih=> rw [List.replicate_succ,List.flatten_cons,List.length_append,ih,Nat.succ_mul,Nat.add_comm]
theorem ph:OpR X (binaryOp .Mult) rA:=by
 intro pins s σ H x y v u Q I rx ry h
 obtain ⟨l,k,xs,rfl,rfl,hH,h1,h2,hz,q⟩:=h
 cases rx
 obtain ⟨t,rfl⟩:=ry
 obtain ⟨z,its,n,r,hl,e⟩:=I.lstM hH
 have hlen:its.toArray.size * k.toNat≤sizeLine:=by rw [List.size_toArray,← hl]; exact hz
 have hcap:¬ its.toArray.size * k.toNat > (2 ^ 63 - 1) / 8:=by
  have:(sizeLine:Nat)≤(2 ^ 63 - 1) / 8:=by decide
  omega
 have hfit:¬ (!Builtin.List.listFitsIndex k)=true:=by
  rw [fitsIndex_both h1 h2]
  exact Bool.false_ne_true
 have hlong:¬ Builtin.List.listTooLong (its.toArray.size * k.toNat)=true:=by
  rw [mM hlen]
  exact Bool.false_ne_true
 have hnew:List.foldl (fun x1 x2=> x1++x2) #[] (List.replicate (if its.toArray.isEmpty=true then 0 else k.toNat) its.toArray)=(List.replicate k.toNat its).flatten.toArray:=by
  have f0:∀ m:Nat,List.foldl (fun x1 x2=> x1++x2) #[] (List.replicate m its.toArray)=(List.replicate m its).flatten.toArray:=fun m=> by
   have:=gw its m []
   rw [List.nil_append] at this
   exact this
  rw [f0]
  cases its with
  | nil=> simp
  | cons a r'=> rw [if_neg (by simp)]
 refine wpAny_binaryOp_repeat_ref (T:="list") (U:="int") (by decide) ⟨_,e,rfl⟩ (fun s'=> typeIs_int s' k t) noFill_list_mul F.fills_int_mul F.slot_int_rmul repeat_list F.slot_int_index.lookup
  (call_meets F.slot_int_rmul (typeIs_int s k t) F.entry_int_rmul (F.args_int_rmul_2 _ _) (int___rmul___int_list k t l its.toArray n)
   ⟨e,rfl,⟨_,e,rfl⟩,call_meets F.slot_list_mul ⟨_,e,rfl⟩ F.entry_list_mul (F.args_list_mul_2 _ _) (AutoListH.list___mul___list_int_3 l its.toArray n k t hfit hcap hlong) ⟨e,?_⟩⟩)
 rw [hnew]
 exact ⟨.ref _,_,I.lnew (t':=s.toks) (r.rep k.toNat) (by rw [nI,Nat.mul_comm]; exact hz),rfl,q _ I.fresh⟩
end
section
variable {prog:Program} {w:World} {A:Around} {E:Value→Shared→Prop} {s:Shared}
end
section
variable {X:Cx}
end
end L2
namespace Att
open PySem PySem.W PySem.Calls PyProof.Rows
theorem eQ {P:Params} {h:Heap}:∀ (ns:List Int) (vs:List Value),WellAll P h vs (ns.map WData.int)→IntsAre vs ns:=by
 intro ns
 induction ns with
 | nil=>
  intro vs w
  rw [List.map_nil] at w
  cases w
  exact .nil
 | cons n ns ih=>
  intro vs w
  rw [List.map_cons] at w
  cases w with
  | cons a b=>
   cases a
   exact .cons _ _ (ih _ b)
theorem script_of {l:OpenLaw} {n:Nat} (hn:l.most=some n) {P:Params} {h:Heap} {args:List WData} {vals:List Value}
  (hpre:l.row.toRowW.claim.pre args=true) (hwl:WellAll P h vals args):
  ∃ a vs ns,vals=[Value.ref a]∧args=[WData.list (ns.map WData.int)]∧h.get? a=some { cls:=.type "list",data:=.seq vs.toArray }∧IntsAre vs ns∧ns.length≤n:=by
 have hsh:WShape.hasAll [] args [.list .int]=true:=(pre_splitW hpre).1
 have hc:l.pre.holds [] { args:=args }=true:=(pre_splitW hpre).2
 obtain ⟨d,r,rfl,h1,h2⟩:=hasAllW_cons hsh
 obtain rfl:=hasAllW_nil h2
 obtain ⟨xs,rfl,h3⟩:=hasW_list h1
 obtain ⟨ns,rfl⟩:=items_int h3
 have hlen:ns.length≤n:=by
  unfold OpenLaw.pre at hc
  have h4:(WTm.not (.lt (.lit (.int (n:Int))) (.len (.arg 0)))).holds [] { args:=[.list (ns.map .int)] }=true:=by
   have h4:=(holds_andW hc).1
   rw [hn] at h4
   exact h4
  have h5:=condW_of h4 (w_not (w_lt w_lit (w_len_list (w_arg rfl))))
  rw [List.length_map] at h5
  refine Nat.le_of_not_lt fun q=> ?_
  have q':(n:Int) < ((ns.length:Nat):Int):=by omega
  first
   | (rw [decide_eq_true q'] at h5; exact absurd h5 (by decide))
   | (simp at h5; omega)
 cases hwl with
 | cons w1 w2=>
  cases w2
  cases w1 with
  | list ho hall=> exact ⟨_,_,ns,rfl,rfl,ho,eQ ns _ hall,hlen⟩
theorem post_true (l:OpenLaw) (args:List WData):l.row.toRowW.claim.post args (.bool true) args=true:=
 postW_of (r:=l.row.toRowW) (X:=(true==true))
  (show WShape.has [] (.bool true) .bool=true by first | rfl | decide | simp [WShape.has,WShape.arms,WShape.armsAll])
  (show (WTm.eq .res (.lit (.bool true))).value [] { args:=args,res:=some (.bool true),after:=args }=some (.bool (true==true)) from w_eq_bool (w_res rfl) w_lit) rfl
section
variable {prog:Program} {w:World} {A:Around} {E:Value→Shared→Prop} {s:Shared} {K:Frag}
end
end Att
namespace L2
open PySem PySem.Spec PyProof.Rows
theorem gu:∀ {vs:List Value} {ns:List Int},IntsAre vs ns→aq (ns.map V.int) vs
 | _,_,.nil=> .nil
 | _,_,.cons n t h=> .cons ⟨t,rfl⟩ (gu h)
def nV (H:Hp):Prop:=∀ b,H b=none∨∃ o xs,H b=some (.frz o (.lst xs))
theorem mf {P:Program} {w:World} {K:PySem.W.Frag} {mg mb:Str→Option Value} {CX:CXT} {k:Nat} {fa a:Addr} {fd:FuncData} {x:Str} {sp:Sp} {s₁:Shared} {vs:List Value} {ns:List Int}
  (KX:K.In s₁.heap) (hns:s₁.heap.Ns mainGlobals mg) (hb:s₁.heap.Ns builtinsNs mb) (hbb:∀ x:Str,x≠"__name__"→mb x=bootBuiltins x) (hlim:s₁.heap.NoLimit) (hg:s₁.gens=#[])
  (ha:s₁.heap.get? a=some { cls:=.type "list",data:=.seq vs.toArray }) (hi:IntsAre vs ns) (hl:ns.length≤sizeLine) (hr:cg k callerA)
  (F:∀ base:Heap,K.In base→base.Ns mainGlobals mg→a_ P w K mg base CX k fa fd [x] sp) (hbind:∀ (s:Shared) (u:Value),BindsTo s fd ⟨[u],[]⟩ [(x,u)])
  (hsp:∀ H:Hp,nV H→SqL K H a (ns.map V.int)→sp [.ref a] H (fun v _=> v=.bl true) fun _ _ _=> False)
  (hCX:∀ H e s',CX [] H s₁ (fun _ _ _=> False) e s'→False):
  codeAny (model P w) callerA (.call (.ref fa) ⟨[.ref a],[]⟩) (fun r s'=> r=.ok (.ret (.bool true))∧OldK s₁.heap s'.heap∧s'.os=s₁.os∧AllBare s'.gens) s₁:=by
 have rv:=gu hi
 have lenV:=hi.length
 have core:∀ H:Hp,nV H→SqL K H a (ns.map V.int)→HOk P w H s₁.heap→(∀ b,H b≠none→b=a)→(H a≠none→K.lookup a=none)→
   codeAny (model P w) callerA (.call (.ref fa) ⟨[.ref a],[]⟩) (fun r s'=> r=.ok (.ret (.bool true))∧OldK s₁.heap s'.heap∧s'.os=s₁.os∧AllBare s'.gens) s₁:=by
  intro H hO hS hok hA hK
  have base_of:∀ {b:Addr} {o:Obj},s₁.heap.get? b=some o→H b=none→(gT s₁.heap H).get? b=some o:=fun e n=> lY e n
  have noA:∀ {b:Addr} {o:Obj} {es:Array DictEntry} {ep:Nat},s₁.heap.get? b=some o→o.data=.dict es ep→H b=none:=fun {b o es ep} e d=> by
   cases q:H b with
   | none=> rfl
   | some u=>
    have e':b=a:=hA b (by rw [q]; simp)
    subst e'
    rw [ha] at e; cases e
    have d':Data.seq vs.toArray _=Data.dict es ep:=d
    cases d'
  have nsK:∀ {b:Addr} {m:Str→Option Value},s₁.heap.Ns b m→(gT s₁.heap H).Ns b m:=fun {b m} ⟨o,es,ep,e,d,r⟩=> ⟨o,es,ep,base_of e (noA e d),d,r⟩
  have hKb:K.In (gT s₁.heap H):=fun b o e=> base_of (KX b o e) (by
   cases q:H b with
   | none=> rfl
   | some u=>
    have e':b=a:=hA b (by rw [q]; simp)
    subst e'
    rw [hK (by rw [q]; simp)] at e; cases e)
  have hM:Mod K mg (gT s₁.heap H):=⟨hKb,nsK hns,⟨mb,nsK hb,hbb⟩,let ⟨mc,h1,h2⟩:=hlim; ⟨mc,nsK h1,h2⟩⟩
  have e0:nE P w K mg (gT s₁.heap H) callerA [] s₁ H:=⟨rfl,hM,fun b o e=> mZ e,Nat.le_of_eq (kI _ _),trivial,fun b hb=> absurd (show b∈([]:List Addr) from hb) (by simp),hok,.of_eq hg⟩
  refine codeAny_mono ((F _ hKb (nsK hns)).run callerA [] s₁ H ⟨[.ref a],[]⟩ [.ref a] [.ref a] _ _ hr e0 (hbind s₁ (.ref a)) (.cons rfl .nil) (hsp H hO hS)) fun r s' h=> ?_
  cases r with
  | error e=> exact (hCX H e s' h).elim
  | ok fl=>
   cases fl with
   | next=> exact False.elim h
   | brk=> exact False.elim h
   | cont=> exact False.elim h
   | ret u=>
    obtain ⟨v,H',os,bare,un,hok',r',q⟩:=h
    have q':v=.bl true:=q
    subst q'
    obtain rfl:u=Value.bool true:=r'
    refine ⟨rfl,OldK.of_keep fun b o e=> ?_,os,bare⟩
    cases q:H b with
    | none=> exact un.keep b o e q (by intro z; exact absurd (show b∈([]:List Addr) from z) (by simp)) (by simp)
    | some u=>
     rcases hO b with z | ⟨ob,xs,z⟩
     ·rw [q] at z; cases z
     ·have z2:=un.frzs b ob _ z
      obtain ⟨e1,_⟩:=hok b _ z
      obtain ⟨e2,_⟩:=hok' b _ z2
      rw [e] at e1; cases e1
      exact e2
 cases hk:K.lookup a with
 | some o=>
  have e:=KX a o hk
  rw [ha] at e
  cases e
  refine core (fun _=> none) (fun _=> .inl rfl) (.inr ⟨_,vs.toArray,_,hk,rfl,rfl,rfl,by rw [List.size_toArray,lenV]; exact hl,by simpa using rv⟩) (fun b u z=> by have z':(none:Option HO)=some u:=z; cases z') (fun b z=> absurd rfl z) fun z=> absurd rfl z
 | none=>
  refine core (fun b=> if b=a then some (.frz { cls:=.type "list",data:=.seq vs.toArray } (.lst (ns.map V.int))) else none) (fun b=> ?_) (.inl (.inr ⟨{ cls:=.type "list",data:=.seq vs.toArray },if_pos rfl⟩)) (fun b u z=> ?_) (fun b z=> ?_) fun _=> hk
  ·by_cases hb:b=a
   ·exact .inr ⟨_,_,if_pos hb⟩
   ·exact .inl (if_neg hb)
  ·by_cases hb:b=a
   ·have z':=(if_pos hb).symm.trans z
    cases z'
    subst hb
    exact ⟨ha,by rw [List.length_map]; exact hl,vs,_,rv,ha⟩
   ·have z':=(if_neg hb).symm.trans z
    cases z'
  ·by_cases hb:b=a
   ·exact hb
   ·exact absurd (if_neg hb) z
end L2
namespace L2
open PySem PySem.Spec PyProof.Rows
abbrev KOf {K:PySem.W.Frag} {h:Heap} (_:K.In h):PySem.W.Frag:=K
end L2
/- THE LAST THEOREM (shape; LID,My.* are yours):
   My.Adr:a structure of the addresses that your layer names (classes,functions); My.Txt K t:a structure (Prop) of the equations over K;
   My.txt_mk:{K} {implicit addresses ..} (e1:nsIn K mainGlobals "law"=some (some (.ref f))) (e2:K.lookup f=some ⟨oc,od,.func (fnOf "law" "law" params body scope dV kV doc pm an cdv ct),sl⟩) (e3:codeIn K cdv "law"=true) ..:∃ t,My.Txt K t
set_option maxRecDepth 100000 in
set_option maxHeartbeats 0 in
theorem PySem.Challenge.cw_LID_holds : PySem.Challenge.rw_LID.Holds := by
 w_on; o_law; k_head; (case hw=> w_witness2)
 k_fill
 refine L2.walk_of (l:=PySem.Challenge.rw_LID) (n:=63) (k:=40) (x:="script") (CX:=fun w=> ..) (sp:=fun _=> My.sp_law) rfl (by decide) rfl ⟨rfl,by decide,by decide⟩ (fun w h Y=> PySem.W.kIn_of Y) ?F ?S ?C
 case F=>
  intro w mg fa h KX G hmg
  have T:∃ t,My.Txt (L2.KOf KX) t:=by
   dsimp only [L2.KOf]                          -- K must stand as «<heap const> w.params» for k_is
   refine' My.txt_mk ?e1 ?e2 ?e3 ..
   (case e1=> PySem.W.k_is)                    -- in the order:a name -> its address -> its object -> its parts
   (case e2=> PySem.W.k_is)
   ..
  obtain ⟨t,T⟩:=T
  have e0:=hmg.symm.trans (PySem.W.mg_of KX G T.law)
  cases e0                                       -- fa is the law's own address
  exact ⟨_,fun s u=> .of_eq rfl,fun base kb nb=> My.law_fn T kb nb⟩     -- if «.of_eq rfl» comes too early:refine' ⟨_,?b,fun base kb nb=> My.law_fn T kb nb⟩; exact fun s u=> .of_eq rfl
 case S=> exact fun w H a ns hl hO hS=> ..
 case C=> exact ..
(the tactic k_is has no namespace:write k_is) -/
namespace L2
open PySem PySem.Spec PyProof.Rows
def ax (s:Stmt):Arguments:=match s with
 | .FunctionDef _ a _ _ _ _ _ _ _ _=> a
 | _=> { posonlyargs:=[],args:=[],vararg:=none,kwonlyargs:=[],kw_defaults:=[],kwarg:=none,defaults:=[] }
def au (s:Stmt):List Stmt:=match s with
 | .FunctionDef _ _ b _ _ _ _ _ _ _=> b
 | _=> []
def ai (s:Stmt):Scope:=match s with
 | .FunctionDef _ _ _ _ _ _ sc _ _ _=> sc
 | _=> { kind:=.function,names:=[],isGenerator:=false,isCoroutine:=false }
abbrev CX0:CXT:=fun _ _ _ _ _ _=> False
abbrev E0:XK:=fun _ _ _=> False
structure Fun (K:PySem.W.Frag) (x qual:Str) (st:Stmt) (f:Addr) (fd:FuncData):Prop where
 ex:∃ (oc:Value) (od:Option Addr) (kV doc pm:Value) (an:Option Addr) (cdv ct:Value) (osl:Array (Option Value)),
  fd=PySem.W.fnOf x qual (ax st) (au st) (ai st) .none kV doc pm an cdv ct∧K.lookup f=some ⟨oc,od,.func fd,osl⟩∧PySem.W.codeIn K cdv qual=true
 kp:PySem.W.keepIn K (.ref f)=true
section
variable {P:Program} {w:World} {K:PySem.W.Frag} {mg:Str→Option Value} {base:Heap}
theorem Fun.binds {x qual:Str} {st:Stmt} {f:Addr} {fd:FuncData} {ps:List Str} (F:Fun K x qual st f fd)
  (h:∀ (kV doc pm:Value) (an:Option Addr) (cdv ct:Value) (us:List Value),us.length=ps.length→bindArgs (PySem.W.fnOf x qual (ax st) (au st) (ai st) .none kV doc pm an cdv ct) ⟨us,[]⟩=pure (ps.zip us)):aO K fd ps []:=by
 obtain ⟨oc,od,kV,doc,pm,an,cdv,ct,osl,rfl,lk,hcd⟩:=F.ex
 exact .all (h kV doc pm an cdv ct)
theorem aT {x qual:Str} {st:Stmt} {f:Addr} {oc:Value} {od an:Option Addr} {osl:Array (Option Value)} {kV doc pm cdv ct:Value} (l:K.lookup f=some ⟨oc,od,.func (PySem.W.fnOf x qual (ax st) (au st) (ai st) .none kV doc pm an cdv ct),osl⟩)
  (c:PySem.W.codeIn K cdv qual=true) (k:PySem.W.keepIn K (.ref f)=true):Fun K x qual st f (PySem.W.fnOf x qual (ax st) (au st) (ai st) .none kV doc pm an cdv ct):=⟨⟨oc,od,kV,doc,pm,an,cdv,ct,osl,rfl,l,c⟩,k⟩
end
theorem aH {n:Nat} (h:n≤1000):n < sizeLine:=Nat.lt_of_le_of_lt h (by decide)
section
variable {X:Cx}
end
theorem lg {A B:Prop} (h:B):if false=true then A else B:=by
 rw [if_neg Bool.false_ne_true]
 exact h
theorem mG {A B:Prop} (h:A):if true=true then A else B:=by
 rw [if_pos rfl]
 exact h
def ay (H H':Hp):Prop:=∀ b o,H b=some o→H' b=some o
theorem ay.refl (H:Hp):ay H H:=fun _ _ h=> h
theorem ay.trans {H H1 H2:Hp} (a:ay H H1) (b:ay H1 H2):ay H H2:=fun c o h=> b c o (a c o h)
theorem ay.free {H H':Hp} (e:ay H H') {l:Addr} (h:H' l=Option.none):H l=Option.none:=by
 cases q:H l with
 | none=> rfl
 | some o=>
  rw [e l o q] at h
  cases h
theorem ay.seq {K:PySem.W.Frag} {H H':Hp} {a:Addr} {xs:List V} (e:ay H H') (h:SqL K H a xs):SqL K H' a xs:=by
 rcases h with (h | ⟨o,h⟩) | h
 ·exact .inl (.inl (e _ _ h))
 ·exact .inl (.inr ⟨o,e _ _ h⟩)
 ·exact .inr h
end L2
namespace L2
open PySem PySem.Spec PyProof.Rows
def Sz (m:Nat) (x:Int):Prop:=x.natAbs < 2 ^ m
theorem Sz.mono {m n:Nat} {x:Int} (h:Sz m x) (hmn:m≤n):Sz n x:=Nat.lt_of_lt_of_le h (Nat.pow_le_pow_right (by decide) hmn)
theorem Sz.neg {m:Nat} {x:Int} (h:Sz m x):Sz m (-x):=by unfold Sz at *; rw [Int.natAbs_neg]; exact h
theorem Sz.add {m:Nat} {x y:Int} (hx:Sz m x) (hy:Sz m y):Sz (m+1) (x+y):=by
 unfold Sz at *
 have:=Int.natAbs_add_le x y
 rw [Nat.pow_succ]; omega
theorem Sz.sub {m:Nat} {x y:Int} (hx:Sz m x) (hy:Sz m y):Sz (m+1) (x - y):=by
 rw [Int.sub_eq_add_neg]; exact hx.add hy.neg
theorem Sz.mul {m n:Nat} {x y:Int} (hx:Sz m x) (hy:Sz n y):Sz (m+n) (x * y):=by
 unfold Sz at *
 rw [Int.natAbs_mul,Nat.pow_add]
 exact Nat.mul_lt_mul'' hx hy
theorem Sz.le {m:Nat} {x y:Int} (h:x.natAbs≤y.natAbs) (hy:Sz m y):Sz m x:=Nat.lt_of_le_of_lt h hy
theorem Sz.ediv {m:Nat} {x y:Int} (hx:Sz m x):Sz m (x / y):=Sz.le (Int.natAbs_ediv_le_natAbs x y) hx
instance (m:Nat) (x:Int):Decidable (Sz m x):=inferInstanceAs (Decidable (x.natAbs < 2 ^ m))
theorem Sz.add' {m n:Nat} {x y:Int} (hx:Sz m x) (hy:Sz n y):Sz (max m n+1) (x+y):=(hx.mono (Nat.le_max_left m n)).add (hy.mono (Nat.le_max_right m n))
theorem Sz.sub' {m n:Nat} {x y:Int} (hx:Sz m x) (hy:Sz n y):Sz (max m n+1) (x - y):=(hx.mono (Nat.le_max_left m n)).sub (hy.mono (Nat.le_max_right m n))
theorem Sz.lit {m:Nat} {x:Int} (h:Sz m x):Sz m x:=h
theorem Sz.ok {m n:Nat} {x y:Int} (hx:Sz m x) (hy:Sz n y) (h:m+n≤134217728):IntMulOk x y:=
 PyProof.Rows.mulOk_of_bits (intBits_le_iff.mpr hx) (intBits_le_iff.mpr hy) h
theorem Sz.log {m:Nat} {x:Int} (h:Sz m x) (hm:m≤9000) (h0:x≠0):x.natAbs.log2 < 9000:=by
 have q:=(Nat.log2_lt (by omega)).mpr (show x.natAbs < 2 ^ m from h)
 omega
def oF (_ j:Int):Prop:=0 < j∧Sz 9000 j
section
variable {X:Cx} {a b c:Expr} {ta tb tc:TE} {pos:Pos}
theorem ou:OpR X (binaryOp .Mult) (rI IntMulOk fun i j=> .int (i * j)):=opI fun _ _ _ _ _ _ _ hc q=> mul_int q hc
theorem lD:OpR X (binaryOp .FloorDiv) (rI oF fun i j=> .int (i / j)):=opI fun i j _ _ _ _ _ hc q=> by
 have h1:(0:Int) < j:=hc.1
 exact floordiv_int (by omega) (by rw [Int.fdiv_eq_ediv_of_nonneg i (by omega)]; exact q) (.inl (PyProof.noPylong_of_log2 (hc.2.log (by decide) (by omega))))
theorem qA {x:Str} {n:String} {pos:Pos} (hg:Gl X x) (hm:X.mg x=none) (hv:bootBuiltins x=some (.type n)) (hn:x≠"__name__":=by decide) (hd:(x==("__debug__":Str))=false:=by decide):PE X (.Name x pos) (tC (.ty n)):=
 nt hg hm hv rfl hn hd
end
section
variable {X:Cx}
end
theorem kit_int_int (K:PySem.W.Frag):PySem.W.kitOne K (.type "int") (.type "int")=some true:=rfl
theorem kit_int_bool (K:PySem.W.Frag):PySem.W.kitOne K (.type "int") (.type "bool")=some false:=rfl
theorem kit_bool_int (K:PySem.W.Frag):PySem.W.kitOne K (.type "bool") (.type "int")=some true:=rfl
theorem kit_tuple_tuple (K:PySem.W.Frag):PySem.W.kitOne K (.type "tuple") (.type "tuple")=some true:=rfl
theorem kit_list_tuple (K:PySem.W.Frag):PySem.W.kitOne K (.type "list") (.type "tuple")=some false:=rfl
section
variable {X:Cx} {tg:Expr}
end
theorem av {H:Hp} {p:Addr} (h:H p=none) (o:HO):ay H (upd H p o):=fun b u q=> by rw [aI (aS q h)]; exact q
theorem ay.put {H H':Hp} {l:Addr} (e:ay H H') (h:H l=none) (o:HO):ay H (upd H' l o):=fun b u q=> by rw [aI (aS q h)]; exact e b u q
theorem ay.tup {K:PySem.W.Frag} {H H':Hp} {a:Addr} {xs:List V} (e:ay H H') (h:SqT K H a xs):SqT K H' a xs:=by
 rcases h with (h | ⟨o,h⟩) | h
 ·exact .inl (.inl (e _ _ h))
 ·exact .inl (.inr ⟨o,e _ _ h⟩)
 ·exact .inr h
end L2
namespace L2
open PySem PySem.W PySem.Calls PySem.Spec PyProof.Rows
theorem hG {ns:List Int} (h:WData.layableAll [WData.list (ns.map WData.int)]=true):∀ n∈ns,Sz 1048576 n:=by
 intro n hn
 have h1:=(PySem.W.layableW_arg h) _ (List.mem_singleton.mpr rfl)
 have h2:=PySem.W.layableW_item h1 (WData.int n) (List.mem_map.mpr ⟨n,hn,rfl⟩)
 have h3:=(PySem.W.layableW_iff.mp h2).2.2
 have h4:Builtin.Int.intBits n≤1048576:=by simpa only [WData.weight,Builtin.Int.intBits] using h3
 exact intBits_le_iff.mp h4
theorem gL {l:PySem.W.OpenLaw} {n:Nat} {q:Program} {loose:List Str} {XP:(Str→Option Value)→Heap→Prop} {YP:World→Heap→Prop} {d:DefRec}
  (hn:l.most=some n) (hdf:d.params.defaults=[])
  (call:∀ (w:World) (s₀ s₁:Shared) (mg mb:Str→Option Value) (fa:Addr) (o:Obj) (pm cd doc:Value) (a:Addr) (vs:List Value) (ns:List Int),
   PySem.W.Ground q loose [] XP w s₀ mg mb s₁.heap→YP w s₁.heap→
   s₁.heap.get? fa=some o→o.data=.func (docDef d.name d.params d.body d.scope pm cd doc)→s₁.heap.CodeRec cd d.name→mg d.name=some (.ref fa)→
   s₁.heap.get? a=some { cls:=.type "list",data:=.seq vs.toArray }→IntsAre vs ns→ns.length≤n→(∀ m∈ns,Sz 1048576 m)→s₁.gens=#[]→
   codeAny (model l.prog w) callerA (.call (.ref fa) ⟨[.ref a],[]⟩) (fun r s'=> r=.ok (.ret (.bool true))∧OldK s₁.heap s'.heap∧s'.os=s₁.os∧AllBare s'.gens) s₁):
  PySem.W.WalkO q loose XP YP l.row.toRowW d [] (fun f vs=> PySem.call f vs):=by
 intro w s₀ s₁ mg mb G Y fa o pm cd doc dV kV ho hd hcd hD hmg hg args vals as hpre hlay hrd hwl hlo
 obtain rfl:dV=.none:=PySem.W.Dflts.none hD hdf
 obtain rfl:kV=.none:=PySem.W.Dflts.noKw hD
 obtain ⟨a,vs,ns,rfl,rfl,hobj,hints,hlen⟩:=Att.script_of hn hpre hwl
 refine PySem.W.enter_call (codeAny_mono (call w s₀ s₁ mg mb fa o pm cd doc a vs ns G Y ho (PySem.W.fd_plain hd) hcd hmg hobj hints hlen (hG hlay) hg) fun r s' hq=> ?_)
 obtain ⟨rfl,h2,h3,h4⟩:=hq
 exact ⟨.inl ⟨.bool true,.bool true,[],rfl,fun _=> rfl,.bool true,Att.post_true l _,fun _=> ⟨List.Pairwise.nil,fun _ hm=> (nomatch hm)⟩⟩,h2,h3,h4⟩
theorem walk_ofB {l:PySem.W.OpenLaw} {n k:Nat} {q:Program} {loose:List Str} {XP:(Str→Option Value)→Heap→Prop} {YP:World→Heap→Prop} {d:DefRec} {K:Params→PySem.W.Frag} {CX:CXT} {sp:PySem.W.Frag→Sp} {x:Str}
  (hn:l.most=some n) (hn2:n≤sizeLine) (hdf:d.params.defaults=[]) (hr:cg k callerA)
  (hY:∀ (w:World) (h:Heap),YP w h→(K w.params).In h)
  (F:∀ (w:World) (mg:Str→Option Value) (fa:Addr) (h:Heap),(K w.params).In h→h.Ns mainGlobals mg→mg d.name=some (.ref fa)→
   ∃ fd:FuncData,(∀ (s:Shared) (u:Value),BindsTo s fd ⟨[u],[]⟩ [(x,u)])∧
    ∀ base:Heap,(K w.params).In base→base.Ns mainGlobals mg→a_ l.prog w (K w.params) mg base CX k fa fd [x] (sp (K w.params)))
  (hsp:∀ (K:PySem.W.Frag) (H:Hp) (a:Addr) (ns:List Int),ns.length≤n→(∀ m∈ns,Sz 1048576 m)→nV H→SqL K H a (ns.map V.int)→sp K [.ref a] H (fun v _=> v=.bl true) fun _ _ _=> False)
  (hCX:∀ (H:Hp) (s:Shared) (e:Value) (s':Shared),CX [] H s (fun _ _ _=> False) e s'→False):
  PySem.W.WalkO q loose XP YP l.row.toRowW d [] (fun f vs=> PySem.call f vs):=by
 refine gL hn hdf fun w s₀ s₁ mg mb fa o pm cd doc a vs ns G Y ho hd hcd hmg hobj hints hlen hbits hg=> ?_
 have KX:=hY w _ Y
 obtain ⟨fd,hb,hF⟩:=F w mg fa _ KX G.T.g hmg
 exact mf KX G.T.g G.T.b G.T.builtins G.T.nolimit hg hobj hints (Nat.le_trans hlen hn2) hr hF hb (fun H hO hS=> hsp _ H a ns hlen hbits hO hS) fun H e s'=> hCX H s₁ e s'
end L2
namespace L2
theorem mF {α:Type} {xs:List α} {k:Int} {i:Nat} {v:α} (e:k=(i:Int)) (h:xs[i]?=some v):atI xs k=some v:=by subst e; exact jP h
end L2
namespace L2
end L2
namespace L2
open PySem PySem.Spec PyProof.Rows
abbrev al (X:Cx) (scope:Scope) (cl:List (Str×Addr)) (C:Addr) (s:Shared) (H:Hp) (fp:List Addr):Cx:=
 { X with s₀:=s,H₀:=H,env:=compEnvC scope cl C X.env,outer:=X.stack,ex:=fp,fn:=fun _=> false,pn:=[],xe:=fun _ _=> False }
def mask:List Nat→St→St
 | [],σ=> σ
 | i::is,σ=> mask is (σ.set i none)
theorem dY:∀ (is:List Nat) (σ:St),(mask is σ).length=σ.length
 | [],_=> rfl
 | i::is,σ=> by rw [mask,dY is]; simp
theorem dQ:∀ (is:List Nat) (σ:St) (j:Nat) (v:V),(mask is σ)[j]?=some (some v)→σ[j]?=some (some v)∧j ∉ is
 | [],σ,j,v,h=> ⟨h,by simp⟩
 | i::is,σ,j,v,h=> by
  obtain ⟨h1,h2⟩:=dQ is _ j v h
  by_cases e:i=j
  ·subst e
   rw [List.getElem?_set] at h1
   simp at h1
  ·rw [List.getElem?_set_ne e] at h1
   exact ⟨h1,by simp [Ne.symm e,h2]⟩
structure cr (X:Cx) (scope:Scope) (cl:List (Str×Addr)) (is:List Nat):Prop where
 clos:closureFor scope X.env=pure cl
 cell:∀ y∈scope.names,y.2≠.cell
 kind:scope.kind=.function
 names:∀ y∈scope.names,y.2=.local→scope.names.lookup y.1=some .local
 cls:∀ x c,cl.lookup x=some c→X.env.cells.lookup x=some c
 free:∀ x,((relabel scope X.env).names.lookup x=some .cell∨(relabel scope X.env).names.lookup x=some .free)→Vis X.env.scope x∧X.env.scope.names.lookup x≠some .local∧∃ c,cl.lookup x=some c
 own:∀ i x,X.N[i]?=some x→(relabel scope X.env).names.lookup x=some .local→i∈is
def lK (J:It) (is:List Nat) (g:TG) (te:TE) (σ:St) (H1:Hp) (l:Addr) (Q:VK):Prop:=
 ∃ W:Nat→Nat→Hp→Prop,(∃ m,W 0 m (upd H1 l (.lst [])))∧∀ i m H2,W i m H2→
  (J.stop i H2∧Q (.ref l) H2)∨(J.go i H2∧∀ x H3,J.yld i H2 x H3→g x (mask is σ) H3 fun σ4 H4=> te σ4 H4 fun y H5=>
   (∀ (j:Nat) (v:V),(mask is σ)[j]?=some (some v)→σ4[j]?=some (some v))∧∃ vs,H5 l=some (.lst vs)∧vs.length < sizeLine∧∃ m',m' < m∧W (i+1) m' (upd H5 l (.lst (vs++[y]))))
def oI (is:List Nat) (g:TG) (te:TE) (σ:St) (Q:VK) (J:It) (H1:Hp):Prop:=∀ l,H1 l=none→lK J is g te σ H1 l Q
def jM (is:List Nat) (wi:TI) (g:TG) (te:TE):TE:=fun σ H Q=> wi σ H (oI is g te σ Q)
section
variable {X:Cx} {pins:List (Addr×Obj)} {σ:St} {H:Hp} {s:Shared}
theorem eM {scope:Scope} {cl:List (Str×Addr)} {is:List Nat} {fp:List Addr} {h₁:Heap} {m:Str→Option Value} {t':Nat} (I:Inv X pins σ H s) (B:cr X scope cl is) (hf:∀ b∈fp,fH X pins H b) (hfl:∀ b∈fp,b < s.heap.objs.size)
  (hn:h₁.Ns s.heap.objs.size m) (hk:∀ b o,s.heap.get? b=some o→h₁.get? b=some o):
  Inv (al X scope cl s.heap.objs.size s H fp) [] (mask is σ) H { s with heap:=h₁,toks:=t' }:=by
 refine ⟨⟨I.ok.mod,B.kind,I.ok.glob,I.ok.blt,Nat.le_refl _,fun x y c h1 h2=> I.ok.inj x y c (B.cls x c h1) (B.cls y c h2),fun x hx=> (B.free x hx).2.2,fun x c h=> (by cases h),I.ok.hd,I.ok.frames,.inl rfl,fun b hb=> ⟨Nat.ne_of_lt (hfl b hb),fun x c e=> (hf b hb).2.2.2.2.1 x c (B.cls x c e)⟩,
  I.bs,Nat.le_trans I.ok.bsz I.sz,fun b o e hb=> ?_,fun b hb z=> ?_,I.stack,I.stkFree⟩,rfl,I.bare,Un.kept hk,⟨m,hn,fun i x v h1 h2 h3=> ?_⟩,fun x c e=> ?_,I.hok.fresh (Nat.le_refl _),fun x c e=> I.freeC x c (B.cls x c e),fun p hp=> absurd (show p∈([]:List (Addr×Obj)) from hp) (by simp),I.hok.kept hk,?_⟩
 ·rcases (hf b hb).2.2.2.1 with z | z
  ·exact I.ok.noex b o e z
  ·exact absurd (Nat.lt_of_lt_of_le (Heap.lt_size e) (Nat.le_trans I.ok.bsz z)) (Nat.lt_irrefl _)
 ·rcases List.mem_cons.mp (I.stkSub b z) with e | e
  ·exact (hf b hb).2.1 e
  ·exact (hf b hb).2.2.1 e
 ·obtain ⟨e2,ni⟩:=dQ is σ i v h2
  have h3':(relabel scope X.env).names.lookup x=some .local∨(relabel scope X.env).names.lookup x=some .cell∨(relabel scope X.env).names.lookup x=some .free:=h3
  rcases h3' with z | z
  ·exact absurd (B.own i x h1 z) ni
  ·obtain ⟨hv,hnl,c,hc⟩:=B.free x z
   obtain ⟨m0,_,hl⟩:=I.loc
   obtain ⟨u,r,l⟩:=hl i x v h1 e2 hv
   refine ⟨u,r,.inr ⟨z,c,hc,?_⟩⟩
   rcases l with ⟨k,_⟩ | ⟨_,c',hc',o,ho,hd⟩
   ·exact absurd k hnl
   ·have ec:=B.cls x c hc
    rw [hc'] at ec
    cases ec
    exact ⟨o,hk _ _ ho,hd⟩
 ·obtain ⟨v,o,ho,hd⟩:=I.cell x c (B.cls x c e)
  exact ⟨v,o,hk _ _ ho,hd⟩
 ·show (mask is σ).length=X.N.length
  rw [dY]; exact I.len
theorem lw {elt iter tg:Expr} {scope:Scope} {cl:List (Str×Addr)} {pos pos0:Pos} {is:List Nat} {wi:TI} {g:TG} {te:TE} {use:Option (Value→Sem Unit)} {Q0:VK} {Q:Value→Shared→Prop} (hc:X.calm=true) (B:cr X scope cl is)
  (hi:PI X tg iter wi) (hg:∀ C s H fp,PG (al X scope cl C s H fp) tg g) (he:∀ C s H fp,PE (al X scope cl C s H fp) elt te) (hs:∀ x,foldedSetIterable iter X.env x=pure x)
  (I:Inv X pins σ H s) (h:jM is wi g te σ H Q0)
  (fin:∀ (l C:Addr) (H':Hp) (s':Shared) (m:Str→Option Value),Inv X pins σ H' s'→s'.heap.Ns C m→H' C=none→C≠X.env.locals→C ∉ X.fs→X.s₀.heap.objs.size≤C→(∀ x c,X.env.cells.lookup x=some c→c≠C)→(∀ p∈X.pn++pins,p.1≠C)→Q0 (.ref l) H'→
   compPost (model X.prog X.w) X.A X.xe use Q (.ref l) C (.ok .next) s'):
  wpAny (model X.prog X.w) X.A (comprehension (.ListComp elt [⟨tg,iter,[],0⟩] scope pos) scope X.env pos0 (newList []) false (eval iter X.env) use) Q X.xe s:=by
 refine wpAny_comprehension_free rfl hs B.clos B.kind B.names (thn (hi pins s σ H _ I h) fun xv s1 h1=> thn h1 fun itv s2 h2=> ?_)
 obtain ⟨it,fp,tn,J,H2,e,I2,T,st2,f2,R⟩:=h2
 subst e
 refine wpAny_newObj_type (wpAny_newFunctionEnv B.cell (by intro y hy; simp at hy) (fun h₁ hns hsb=> ?_) B.kind)
 have hl:H2 s2.heap.objs.size=none:=I2.hok.fresh (Nat.le_refl _)
 obtain ⟨W,⟨m0,w0⟩,turn⟩:=R s2.heap.objs.size hl
 have I3:Inv X pins σ (upd H2 s2.heap.objs.size (.lst [])) { s2 with heap:=s2.heap.push { cls:=.type "list",dict:=none,data:=.seq ([]:List Value).toArray } }:=
  I2.laid (t':=s2.toks) (o:=.lst []) (fun b u e=> Heap.get?_push_of_some _ e) (Nat.le_refl _) ⟨Nat.zero_le _,[],0,.nil,Heap.get?_push_size _ rfl⟩
 have hfl:∀ b∈fp,b < s2.heap.objs.size:=fun b hb=> let ⟨o,e,_⟩:=T.obj 0 _ st2 b hb; Heap.lt_size e
 have f3:∀ b∈fp,fH X pins (upd H2 s2.heap.objs.size (.lst [])) b:=fun b hb=> ⟨by rw [aI (Nat.ne_of_lt (hfl b hb))]; exact (f2 b hb).1,(f2 b hb).2⟩
 have kp:∀ b o,(s2.heap.push { cls:=.type "list",dict:=none,data:=.seq ([]:List Value).toArray }).get? b=some o→h₁.get? b=some o:=fun b o e=>
  hsb.extBut b o (Nat.ne_of_lt (Heap.lt_size e)) (Heap.get?_push_of_some _ e)
 have st4:tn 0 h₁:=T.keep 0 _ _ st2 fun b _ o e=> kp b o (Heap.get?_push_of_some _ e)
 have hfl3:∀ b∈fp,b < (s2.heap.push { cls:=.type "list",dict:=none,data:=.seq ([]:List Value).toArray }).objs.size:=fun b hb=> by
  rw [Heap.size_push]; exact Nat.lt_succ_of_lt (hfl b hb)
 have I4:=eM (t':=s2.toks+([]:List (Str×Value)).length) I3 B f3 hfl3 hns kp
 have loop:codeAny (model X.prog X.w) X.A (.compLoop (.ListComp elt [⟨tg,iter,[],0⟩] scope pos) 0 (.ref it) (.ref s2.heap.objs.size) (compEnvC scope cl (s2.heap.push { cls:=.type "list",dict:=none,data:=.seq ([]:List Value).toArray }).objs.size X.env))
   (compPost (model X.prog X.w) X.A X.xe use Q (.ref s2.heap.objs.size) (s2.heap.push { cls:=.type "list",dict:=none,data:=.seq ([]:List Value).toArray }).objs.size)
   { s2 with heap:=h₁,toks:=s2.toks+([]:List (Str×Value)).length }:=by
  generalize hs3:({ s2 with heap:=s2.heap.push { cls:=.type "list",dict:=none,data:=.seq ([]:List Value).toArray } }:Shared)=s3 at *
  have hC:(s2.heap.push { cls:=.type "list",dict:=none,data:=.seq ([]:List Value).toArray }).objs.size=s3.heap.objs.size:=by rw [← hs3]
  rw [hC]
  have hstat:∀ {H':Hp},(∀ b∈fp,H' b=none)→∀ b∈fp,fH (al X scope cl s3.heap.objs.size s3 (upd H2 s2.heap.objs.size (.lst [])) fp) [] H' b:=fun hn b hb=>
   ⟨hn b hb,(I4.ok.exf b hb).1,I4.ok.exfs b hb,.inl hb,fun x c e=> (I4.ok.exf b hb).2 x c e,fun p hp=> absurd (show p∈([]:List (Addr×Obj)) from hp) (by simp)⟩
  have back:∀ {σ':St} {H':Hp} {pp:List (Addr×Obj)} {s':Shared},Inv (al X scope cl s3.heap.objs.size s3 (upd H2 s2.heap.objs.size (.lst [])) fp) pp σ' H' s'→Inv X pins σ H' s':=fun I'=>
   I3.call' (ch:=fp) I'.os I'.base I'.hok I'.bare fun b hb=> ⟨(f3 b hb).2.2.2.1,(f3 b hb).2.1,(f3 b hb).2.2.2.2.1,(f3 b hb).2.2.2.2.2⟩
  refine codeAny_loop rfl (fun n s'=> ∃ i H',Inv (al X scope cl s3.heap.objs.size s3 (upd H2 s2.heap.objs.size (.lst [])) fp) [] (mask is σ) H' s'∧tn i s'.heap∧(∀ b∈fp,H' b=none)∧W i n H') ?_ m0 ⟨0,_,(by subst hs3; exact I4),st4,fun b hb=> (f3 b hb).1,w0⟩
  rintro n s5 ⟨i,H5,I5,st5,fr5,w5⟩
  show wpAny _ _ ((compTurn (.ListComp elt [⟨tg,iter,[],0⟩] scope pos) 0 (.ref it) (.ref s2.heap.objs.size) (compEnvC scope cl s3.heap.objs.size X.env)).onRaise (fun x=> do noteFrame x (compEnvC scope cl s3.heap.objs.size X.env); theTreesLotGoes x)) _ _ s5
  refine wpAny_noted ?_
  rw [compTurn_list1]
  refine wpAny_bind (wpAny_standAt (wpAny_bind ?_))
  rcases turn i n H5 w5 with ⟨stop,q⟩ | ⟨go,step⟩
  ·refine thn (T.done (al X scope cl s3.heap.objs.size s3 (upd H2 s2.heap.objs.size (.lst [])) fp) rfl rfl rfl hc i [] s5 _ H5 _ I5 (hstat fr5) st5 stop) fun r s6 ⟨hr,I6⟩=> ?_
   subst hr
   refine wpAny_pure ?_
   obtain ⟨m6,hn6,_⟩:=I6.loc
   have hCn:∀ b,b < s3.heap.objs.size→b≠s3.heap.objs.size:=fun b hb=> Nat.ne_of_lt hb
   refine fin _ s3.heap.objs.size H5 s6 m6 (back I6) hn6 I6.free (Nat.ne_of_gt I3.lt) (I3.nofs (Nat.le_refl _)) I3.sz (fun x c e=> ?_) (fun p hp=> ?_) q
   ·obtain ⟨v,z⟩:=I3.cell x c e
    exact Nat.ne_of_lt z.lt
   ·exact Nat.ne_of_lt (Heap.lt_size (I3.pin p hp).1)
  ·refine thn (T.item (al X scope cl s3.heap.objs.size s3 (upd H2 s2.heap.objs.size (.lst [])) fp) rfl rfl rfl hc i [] s5 _ H5 _ I5 (hstat fr5) st5 go) fun r s6 ⟨u,hr,h6⟩=> ?_
   subst hr
   refine wpAny_bind (thn h6 fun _ s7 ⟨x,H7,I7,r7,y7,st7,fr7⟩=> ?_)
   have I7':=I7.pinned (hstat fr7) (T.obj _ _ st7)
   refine wpAny_bind (wpAny_mono (hg _ _ _ _ _ s7 (mask is σ) H7 x u _ I7' r7 (step x H7 y7)) (fun _ s8 ⟨σ8,H8,I8,q8⟩=> ?_) fun _ _ z=> z.elim)
   refine wpAny_bind (wpAny_bind (wpAny_mono (he _ _ _ _ _ s8 σ8 H8 _ I8 q8) (fun v s9 ⟨y,H9,I9,r9,sub,vs,hl9,hz,m',hm,w'⟩=> ?_) fun _ _ z=> z.elim))
   refine wpAny_bind (wpAny_mono (eE (X:=al X scope cl s3.heap.objs.size s3 (upd H2 s2.heap.objs.size (.lst [])) fp) _ s9 σ8 H9 (.ref s2.heap.objs.size) [y] (.ref s2.heap.objs.size) [v] (fun _ H'=> H'=upd H9 s2.heap.objs.size (.lst (vs++[y]))) I9 rfl (.cons r9 .nil) ⟨_,vs,y,rfl,rfl,hl9,hz,rfl⟩) (fun z s10 ⟨zv,H10,I10,_,e10⟩=> ?_) fun _ _ z=> z.elim)
   subst e10
   refine wpAny_pure (wpAny_pure ⟨rfl,m',hm,i+1,_,(I10.unpinned (pins:=[])).weak (by rw [I10.len,dY,I.len]) sub,T.keep _ _ _ st7 fun b hb o e=> (I10.pin (b,o) (List.mem_append_right _ (List.mem_append_right _ (bQ hb e)))).1,fun b hb=> ?_,w'⟩)
   obtain ⟨o,e,d⟩:=T.obj _ _ st7 b hb
   exact (I10.pin (b,o) (List.mem_append_right _ (List.mem_append_right _ (bQ hb e)))).2.1
 exact codeAny_compStart_list loop (T.self X.A 0 _ _ _ st4 loop)
theorem n4 {elt iter tg:Expr} {scope:Scope} {cl:List (Str×Addr)} {pos:Pos} {is:List Nat} {wi:TI} {g:TG} {te:TE} (hc:X.calm=true) (B:cr X scope cl is)
  (hi:PI X tg iter wi) (hg:∀ C s H fp,PG (al X scope cl C s H fp) tg g) (he:∀ C s H fp,PE (al X scope cl C s H fp) elt te) (hs:∀ x,foldedSetIterable iter X.env x=pure x:=by intro _; rfl):
  PE X (.ListComp elt [⟨tg,iter,[],0⟩] scope pos) (jM is wi g te):=by
 intro pins s σ H Q I h
 rw [eval_ListComp]
 refine lw (use:=none) hc B hi hg he hs I h fun l C H' s' m I' hn h1 h2 h3 h4 h5 h6 q=> ⟨m,hn,fun h' hsb=> ?_⟩
 exact ⟨.ref l,H',I'.turned (t':=s'.toks) (fun b o hb e=> hsb.extBut b o hb e) h1 (Ne.symm h2.symm) (.inr h4) h5 h6,rfl,q⟩
end
end L2
namespace L2
open PySem PySem.Spec PyProof.Rows
section
variable {X:Cx}
end
section
variable {prog:Program} {w:World} {A:Around} {E:Value→Shared→Prop}
end
section
variable {X:Cx} {pos:Pos}
end
end L2
namespace L2
open PySem PySem.Spec PyProof.Rows
def goC (cells:List (Str×Addr)):List (Str×NameKind)→List (Str×Addr)→List (Str×Addr)
 | [],acc=> acc
 | (n,k)::r,acc=> goC cells r (if (k==.free)=true then (n,(cells.lookup n).getD 0)::acc else acc)
theorem iW {env:Env} {scope:Scope} (h:∀ y∈scope.names,y.2=.free→(env.cells.lookup y.1).isSome=true):closureFor scope env=pure (goC env.cells scope.names []):=by
 have all:∀ (names:List (Str×NameKind)) (acc:List (Str×Addr)),(∀ y∈names,y.2=.free→(env.cells.lookup y.1).isSome=true)→
   (forIn names acc (fun x cs=> match x with | (name,kind)=> if (kind==.free)=true then (do let c ← cellOf env name; pure (ForInStep.yield ((name,c)::cs))) else pure (ForInStep.yield cs)):Sem (List (Str×Addr)))=pure (goC env.cells names acc):=by
  intro names
  induction names with
  | nil=> intro acc _; rfl
  | cons y r ih=>
   intro acc hy
   obtain ⟨n,k⟩:=y
   rw [List.forIn_cons]
   by_cases hk:k=.free
   ·subst hk
    have:=hy (n,.free) List.mem_cons_self rfl
    obtain ⟨c,hc⟩:=Option.isSome_iff_exists.mp this
    have e:cellOf env n=pure c:=by unfold cellOf; rw [hc]
    simp only [beq_self_eq_true,if_true,e,pure_bind]
    rw [ih _ fun y hy'=> hy y (List.mem_cons_of_mem _ hy')]
    simp only [goC,beq_self_eq_true,if_true,hc,Option.getD_some]
   ·have hb:(k==NameKind.free)=false:=by simpa using hk
    simp only [hb,Bool.false_eq_true,if_false,pure_bind]
    rw [ih _ fun y hy'=> hy y (List.mem_cons_of_mem _ hy')]
    simp only [goC,hb,Bool.false_eq_true,if_false]
 simp only [closureFor]
 have:=all scope.names [] h
 simpa using this
theorem jW {cells:List (Str×Addr)}:∀ (names:List (Str×NameKind)) (acc:List (Str×Addr)),(∀ y∈names,y.2=.free→(cells.lookup y.1).isSome=true)→(∀ x c,acc.lookup x=some c→cells.lookup x=some c)→
  ∀ x c,(goC cells names acc).lookup x=some c→cells.lookup x=some c
 | [],_,_,ha,x,c,h=> ha x c h
 | (n,k)::r,acc,hy,ha,x,c,h=> by
  rw [goC] at h
  refine jW r _ (fun y hy'=> hy y (List.mem_cons_of_mem _ hy')) (fun x' c' e=> ?_) x c h
  by_cases hk:k=.free
  ·subst hk
   simp only [beq_self_eq_true,if_true] at e
   rw [List.lookup_cons] at e
   by_cases hx:(x'==n)=true
   ·rw [hx] at e
    have hx':x'=n:=by simpa using hx
    obtain ⟨c2,hc2⟩:=Option.isSome_iff_exists.mp (hy (n,.free) List.mem_cons_self rfl)
    simp only [hc2,Option.getD_some] at e
    rw [hx',hc2]; exact e
   ·have:(x'==n)=false:=by simpa using hx
    rw [this] at e
    exact ha x' c' e
  ·have hb:(k==NameKind.free)=false:=by simpa using hk
   rw [hb] at e
   exact ha x' c' e
theorem jy {cells:List (Str×Addr)} {x:Str}:∀ (names:List (Str×NameKind)) (acc:List (Str×Addr)),((x,NameKind.free)∈names∨∃ c,acc.lookup x=some c)→∃ c,(goC cells names acc).lookup x=some c
 | [],_,h=> by
  rcases h with h | h
  ·cases h
  ·exact h
 | (n,k)::r,acc,h=> by
  rw [goC]
  refine jy r _ ?_
  rcases h with h | ⟨c,h⟩
  ·rcases List.mem_cons.mp h with e | h
   ·cases e
    right
    simp
   ·exact .inl h
  ·right
   by_cases hk:k=.free
   ·subst hk
    simp only [beq_self_eq_true,if_true]
    rw [List.lookup_cons]
    cases hx:x==n with
    | true=> exact ⟨_,rfl⟩
    | false=> exact ⟨c,h⟩
   ·have hb:(k==NameKind.free)=false:=by simpa using hk
    rw [hb]; exact ⟨c,h⟩
theorem bL {env:Env} {x:Str} {kd:NameKind}:∀ {names:List (Str×NameKind)},
  (names.map fun (n,k)=> if (k==NameKind.free && env.scope.kind==.function && env.kindOf n==some .cell) then (n,NameKind.cell) else (n,k)).lookup x=some kd→names.lookup x=some kd∨(kd=.cell∧names.lookup x=some .free)
 | [],h=> by simp at h
 | (n,k)::r,h=> by
  have ih:=@bL env x kd r
  change List.lookup x ((if (k==NameKind.free && env.scope.kind==.function && env.kindOf n==some .cell)=true then (n,NameKind.cell) else (n,k))::_)=_ at h
  by_cases hc:(k==NameKind.free && env.scope.kind==.function && env.kindOf n==some .cell)=true
  ·rw [if_pos hc] at h
   rw [List.lookup_cons] at h ⊢
   cases hx:x==n with
   | true=>
    rw [hx] at h
    have hk:k=.free:=by
     have:=(Bool.and_eq_true_iff.mp (Bool.and_eq_true_iff.mp hc).1).1
     simpa using this
    subst hk
    have h':some NameKind.cell=some kd:=h
    cases h'
    exact .inr ⟨rfl,rfl⟩
   | false=> rw [hx] at h; exact ih h
  ·rw [if_neg hc] at h
   rw [List.lookup_cons] at h ⊢
   cases hx:x==n with
   | true=> rw [hx] at h; exact .inl h
   | false=> rw [hx] at h; exact ih h
def ll (scope fscope:Scope) (N:List Str) (is:List Nat):Bool:=
 scope.names.all (fun y=> y.2 !=.cell) && scope.names.all (fun y=> y.2 !=.local || scope.names.lookup y.1==some .local) && scope.names.all (fun y=> y.2 !=.free || fscope.names.lookup y.1==some .cell) &&
  (List.range N.length).all fun i=> match N[i]? with | some x=> scope.names.lookup x !=some .local || is.contains i | none=> true
theorem blk {X:Cx} {scope:Scope} (fscope:Scope) (N:List Str) (is:List Nat) (hNN:X.N=N) (hs:X.env.scope=fscope) (hcs:X.env.cells=cellsFrom (X.env.locals+1) fscope.names []) (hk:scope.kind=.function) (h:ll scope fscope N is=true):cr X scope (goC X.env.cells scope.names []) is:=by
 subst hNN
 unfold ll at h
 simp only [Bool.and_eq_true,List.all_eq_true] at h
 obtain ⟨⟨⟨h1,h2⟩,h3⟩,h4⟩:=h
 have f1:∀ y∈scope.names,y.2=.free→fscope.names.lookup y.1=some .cell:=fun y hy e=> by
  have:=h3 y hy
  simp only [Bool.or_eq_true,bne_iff_ne,ne_eq,beq_iff_eq] at this
  exact this.resolve_left fun z=> z e
 have f2:∀ y∈scope.names,y.2=.free→(X.env.cells.lookup y.1).isSome=true:=fun y hy e=> by
  rw [hcs]; exact PySem.W.cellsFrom_some _ _ _ (.inl (f1 y hy e))
 have nc:∀ y∈scope.names,y.2≠.cell:=fun y hy=> by have:=h1 y hy; simpa using this
 refine ⟨iW f2,nc,hk,fun y hy e=> ?_,jW _ _ f2 (fun x c e=> by simp at e),fun x hx=> ?_,fun i x hi hl=> ?_⟩
 ·have:=h2 y hy
  simp only [Bool.or_eq_true,bne_iff_ne,ne_eq,beq_iff_eq] at this
  exact this.resolve_left fun z=> z e
 ·have hf:(x,NameKind.free)∈scope.names:=by
   rcases hx with hx | hx
   ·rcases bL hx with z | ⟨_,z⟩
    ·exact absurd rfl (nc _ (PySem.mem_of_lookup z))
    ·exact PySem.mem_of_lookup z
   ·rcases bL hx with z | ⟨z,_⟩
    ·exact PySem.mem_of_lookup z
    ·cases z
  have hc:=f1 _ hf rfl
  refine ⟨.inr (.inl (by rw [hs]; exact hc)),(by rw [hs,show fscope.names.lookup x=some .cell from hc]; intro z; cases z),jy _ _ (.inl hf)⟩
 ·have hi':i < X.N.length:=(List.getElem?_eq_some_iff.mp hi).1
  have:=h4 i (List.mem_range.mpr hi')
  rw [hi] at this
  have hl':scope.names.lookup x=some .local:=by
   rcases bL hl with z | ⟨z,_⟩
   ·exact z
   ·cases z
  simp only [hl',bne_self_eq_false,Bool.false_or,List.contains_iff_mem] at this
  exact this
end L2
namespace L2
end L2
namespace L2
open PySem PySem.Spec PySem.W PyProof.Rows
theorem nw {K:Frag} {h:Heap} {mg:Str→Option Value} {x:Str} {C:Addr} {bmB:List Value} {newId:String} (X:K.In h) (hb:mg x=some (.ref C)) (q:excIn K C bmB newId=true):OwnCls x C bmB newId mg h:=by
 refine ⟨hb,?_⟩
 unfold excIn at q
 split at q
 ·rename_i dd cd sl ho
  split at q
  ·rename_i C' bm k0 k1 k2 k3 n k5 hm hs
   simp only [Bool.and_eq_true,beq_iff_eq,Bool.not_eq_true'] at q
   obtain ⟨⟨⟨⟨⟨e1,e2⟩,hdel⟩,ht⟩,hok⟩,hni⟩:=q
   subst e1 e2
   obtain ⟨nm,bs,mro,ns,qn,hd,sn,sub,ab,col,del⟩:=cd
   dsimp only at hm hdel hok hni
   subst hm hdel
   have hsl:sl=#[k0,k1,k2,k3,some (.builtin n),k5]:=by cases sl; simp only at hs; rw [hs]
   subst hsl
   exact ⟨bm,ns,nm,qn,bs,hd,sn,sub,ab,col,dd,k0,k1,k2,k3,k5,_,X _ _ ho,.of_isNs (isNs_of_in X hok),nsMap_none_of_in X hok hni,tail_of_in X ht⟩
  ·cases q
 ·cases q
def CXF (P:Program) (w:World):CXT:=fun outer H s E e s'=> ∃ (ea:Addr) (cls a0:Value) (B:Heap) (H':Hp),e=.ref ea∧s'.os=s.os∧AllBare s'.gens∧Un (frs outer) [] H H' s.heap s'.heap∧HOk P w H' s'.heap∧H' ea=none∧
 (∀ b o,s.heap.get? b=some o→b ∉ frs outer→H b=none→B.get? b=some o)∧(∀ b u,H' b=some u→∃ o,B.get? b=some o)∧(∀ b o,s.heap.get? b=some o→b ∉ frs outer→∃ o',B.get? b=some o')∧
 Heap.FlyingW B outer ea cls a0 s'.heap∧E cls none H'
theorem aD {P:Program} {w:World} {X:Cx}:bR (CXF P w) X E0:=fun _ _ _ _ _ _ _ h=> by
 obtain ⟨_,_,_,_,_,_,_,_,_,_,_,_,_,_,_,hE⟩:=h
 exact hE.elim
theorem fY {P:Program} {w:World} {H:Hp} {h:Heap} {a:Addr} {o:HO} (x:bF P w H h a o):∃ ob,h.get? a=some ob:=by
 cases o with
 | lst xs=> obtain ⟨_,_,_,_,e⟩:=x; exact ⟨_,e⟩
 | tup xs=> obtain ⟨_,_,_,ob,e,_⟩:=x; exact ⟨_,e⟩
 | dK kvs=> obtain ⟨_,_,_,_,o,_,_,e,_⟩:=x; exact ⟨_,e⟩
 | dT kvs=> obtain ⟨_,_,_,_,o,_,_,e,_⟩:=x; exact ⟨_,e⟩
 | set S n=> obtain ⟨o,_,_,_,e,_⟩:=x; exact ⟨_,e⟩
 | ins C dx fs=> obtain ⟨_,_,_,e,_⟩:=x; exact ⟨_,e⟩
 | own y=> obtain ⟨_,e⟩:=x; exact ⟨_,e⟩
 | xd fs=> obtain ⟨_,⟨_,_,_,e,_⟩,_⟩:=x; exact ⟨_,e⟩
 | rng lo hi=> obtain ⟨_,_,_,e⟩:=x; exact ⟨_,e⟩
 | frz ob u=> obtain ⟨e,_⟩:=x; exact ⟨_,e⟩
 | tbl ps=> exact ⟨_,(show h.get? a=some _ from x)⟩
 | met f y=> exact ⟨_,(show h.get? a=some _ from x)⟩
 | ext φ=> obtain ⟨_,⟨_,e⟩,_⟩:=x; exact ⟨_,e⟩
theorem dk {P:Program} {w:World} {H':Hp} {h h' B:Heap} (ok:HOk P w H' h) (hB:∀ b u,H' b=some u→∃ o,B.get? b=some o) (s1:B.StaysIn h) (s2:B.StaysIn h'):HOk P w H' h':=fun a o e=> by
 refine (ok a o e).stay (fun b u hb q=> ?_) (fun _ q=> q) fun _ _ q=> q
 have:∃ v,H' b=some v:=by
  rcases hb with z | z
  ·subst z; exact ⟨_,e⟩
  ·exact ⟨_,z⟩
 obtain ⟨v,hv⟩:=this
 obtain ⟨ob,hob⟩:=hB b v hv
 have:=s1 b ob hob
 rw [q] at this
 cases this
 exact s2 b _ hob
theorem lS {fs:List Addr} {H0 H':Hp} {h0 h1 h2 B:Heap} (u:Un fs [] H0 H' h0 h1) (k1:∀ b o,h0.get? b=some o→b ∉ fs→H0 b=none→B.get? b=some o) (k3:∀ b o,h0.get? b=some o→b ∉ fs→∃ o',B.get? b=some o')
  (st:B.StaysIn h2) (up:h1.UpToSlots h2) (fr:∀ b∈fs,∀ o,h0.get? b=some o→∀ vs,o.data≠.fields vs) (frf:∀ b∈fs,H0 b=none):Un fs [] H0 H' h0 h2 where
 keep:=fun b o e n hb _=> st b o (k1 b o e hb n)
 slot:=fun b o e n hb hx=> by
  obtain ⟨sl,e1⟩:=u.slot b o e n hb hx
  obtain ⟨sl2,e2⟩:=up b _ e1 (fr b hb o e)
  exact ⟨sl2,e2⟩
 free:=u.free
 there:=fun b o e hx=> by
  by_cases hb:b∈fs
  ·obtain ⟨sl,e1⟩:=u.slot b o e (frf b hb) hb hx
   obtain ⟨sl2,e2⟩:=up b _ e1 (fr b hb o e)
   exact ⟨_,e2⟩
  ·obtain ⟨o',e'⟩:=k3 b o e hb
   exact ⟨o',st b o' e'⟩
 tups:=u.tups
 frzs:=u.frzs
 tbls:=u.tbls
theorem dR {h base:Heap}:∀ {l:List Env},h.FunFrames base l→∀ b∈frs l,∀ o,h.get? b=some o→∀ vs,o.data≠.fields vs
 | [],_,b,hb,_,_=> absurd (show b∈([]:List Addr) from hb) (by simp)
 | env::r,⟨_,⟨L,o',hf,_,ho,hd⟩,hr⟩,b,hb,o,e=> by
  unfold frs at hb
  rw [List.filterMap_cons,hf] at hb
  rcases List.mem_cons.mp hb with z | z
  ·subst z; rw [ho] at e; cases e; exact hd
  ·exact dR hr b z o e
section
variable {P:Program} {w:World} {K:Frag} {mg:Str→Option Value} {base:Heap} {N:List Str} {qual:Str} {scope:Scope} {f:Addr} {cd:Value} {A:Around} {outer:List Env} {s:Shared} {H:Hp} {E:XK}
theorem d8 {env:Env} {L:Addr} {l:List Env} (h:env.frame=some L):frs (env::l)=L::frs l:=by unfold frs; rw [List.filterMap_cons,h]
theorem iu {pins:List (Addr×Obj)} {σ:St} {H1 H':Hp} {s1:Shared} {B h1 h2:Heap} (I:Inv (cn (CXF P w) P w K mg base N qual scope f cd A outer s H E) pins σ H1 s1)
  (un:Un (frs (envOfC qual scope s.heap.objs.size f cd::outer)) [] H1 H' s1.heap h1)
  (k1:∀ b o,s1.heap.get? b=some o→b ∉ frs (envOfC qual scope s.heap.objs.size f cd::outer)→H1 b=none→B.get? b=some o) (k3:∀ b o,s1.heap.get? b=some o→b ∉ frs (envOfC qual scope s.heap.objs.size f cd::outer)→∃ o',B.get? b=some o')
  (st:B.StaysIn h2) (up:h1.UpToSlots h2):
  Un (frs outer) [] H H' s.heap h2∧(∀ b o,s.heap.get? b=some o→b ∉ frs outer→H b=none→B.get? b=some o)∧(∀ b o,s.heap.get? b=some o→b ∉ frs outer→∃ o',B.get? b=some o'):=by
 have ef:frs (envOfC qual scope s.heap.objs.size f cd::outer)=s.heap.objs.size::frs outer:=d8 rfl
 rw [ef] at un k1 k3
 have ne:∀ b o,s.heap.get? b=some o→b ∉ frs outer→b ∉ s.heap.objs.size::frs outer:=fun b o e hb z=> by
  rcases List.mem_cons.mp z with y | y
  ·exact absurd (Heap.lt_size e) (by rw [y]; exact Nat.lt_irrefl _)
  ·exact hb y
 have ib:Un (frs outer) [] H H1 s.heap s1.heap:=I.base
 have K1:∀ b o,s.heap.get? b=some o→b ∉ frs outer→H b=none→B.get? b=some o:=fun b o e hb n=>
  k1 b o (ib.keep b o e n hb (by simp)) (ne b o e hb) (ib.free b o e n (by simp))
 have K3:∀ b o,s.heap.get? b=some o→b ∉ frs outer→∃ o',B.get? b=some o':=fun b o e hb=> by
  obtain ⟨o',e'⟩:=ib.there b o e (by simp)
  exact k3 b o' e' (ne b o e hb)
 have ffr:∀ b∈frs outer,∀ o,s.heap.get? b=some o→∀ vs,o.data≠.fields vs:=dR I.ok.funs
 have frf:∀ b∈frs outer,H b=none:=I.ok.frf
 refine ⟨⟨fun b o e n hb _=> st b o (K1 b o e hb n),fun b o e n hb hx=> ?_,fun b o e n hx=> ?_,fun b o e hx=> ?_,fun b xs e=> un.tups b xs (ib.tups b xs e),fun b o u e=> un.frzs b o u (ib.frzs b o u e),fun b ps e=> ?_⟩,K1,K3⟩
 ·obtain ⟨sl,e1⟩:=ib.slot b o e n hb hx
  obtain ⟨sl2,e2⟩:=un.slot b _ e1 (ib.free b o e n hx) (List.mem_cons_of_mem _ hb) hx
  obtain ⟨sl3,e3⟩:=up b _ e2 (ffr b hb o e)
  exact ⟨sl3,e3⟩
 ·obtain ⟨o',e1⟩:=ib.there b o e hx
  exact un.free b o' e1 (ib.free b o e n hx) hx
 ·by_cases hb:b∈frs outer
  ·obtain ⟨sl,e1⟩:=ib.slot b o e (frf b hb) hb hx
   obtain ⟨sl2,e2⟩:=un.slot b _ e1 (ib.free b o e (frf b hb) hx) (List.mem_cons_of_mem _ hb) hx
   obtain ⟨sl3,e3⟩:=up b _ e2 (ffr b hb o e)
   exact ⟨_,e3⟩
  ·obtain ⟨o',e'⟩:=K3 b o e hb
   exact ⟨o',st b o' e'⟩
 ·obtain ⟨m1,e1⟩:=ib.tbls b ps e
  obtain ⟨m2,e2⟩:=un.tbls b _ e1
  exact ⟨m1++m2,by rw [e2,Array.append_assoc]⟩
theorem ny:bR (CXF P w) (cn (CXF P w) P w K mg base N qual scope f cd A outer s H E) E:=by
 intro pins σ H1 s1 e s' I hcx
 obtain ⟨ea,cls,a0,B,H',rfl,os,bare,un,hok,hea,k1,k2,k3,fl,hE⟩:=hcx
 show wpAny _ _ (leaving (envOfC qual scope s.heap.objs.size f cd) (.ref ea)) _ _ s'
 refine wpAny_leaves_onW (L:=s.heap.objs.size) I.ok.frames rfl fl fun h2 fl2 up=> ?_
 obtain ⟨u,K1,K3⟩:=iu I un k1 k3 fl2.1 up
 exact ⟨ea,cls,a0,B,H',rfl,os.trans I.os,bare,u,dk hok k2 fl.1 fl2.1,hea,K1,k2,K3,fl2,hE⟩
def pS (E:XK) (C:Addr) (te:TE):TS:=fun _ σ H=> te σ H fun _ H1=> E (.ref C) none H1
theorem mD {x:Str} {C:Addr} {e0:Expr} {te:TE} {np cpos pos:Pos} (hex:excIn K C [.type "ValueError",.type "Exception",.type "BaseException",.type "object"] "ValueError.__new__"=true)
  (hg:Gl (cn (CXF P w) P w K mg base N qual scope f cd A outer s H E) x) (hm:mg x=some (.ref C)) (he:PE (cn (CXF P w) P w K mg base N qual scope f cd A outer s H E) e0 te)
  (hst:starEach [e0] (cn (CXF P w) P w K mg base N qual scope f cd A outer s H E).env=[(false,eval e0 (cn (CXF P w) P w K mg base N qual scope f cd A outer s H E).env)]:=by rfl) (hd:(x==("__debug__":Str))=false:=by decide):
  PS (cn (CXF P w) P w K mg base N qual scope f cd A outer s H E) (.Raise (some (.Call (.Name x np) [e0] [] cpos)) none pos) (pS E C te):=by
 intro pins s1 σ H1 D I h
 have O:=nw I.ok.mod.kin hm hex
 obtain ⟨tl,NN,nm,q,bs,hdct,sn,sub,ab,col,dd,k0,k1,k2,k3,k5,mN,hC,hN,hni,T⟩:=O.obj
 have hpl:(backTo cpos (starEach [e0] (cn (CXF P w) P w K mg base N qual scope f cd A outer s H E).env)).any (·.1)=false:=by rw [hst]; rfl
 refine wpAny_Raise_call_subT (C:=C) (nm:=nm) (q:=q) (N:=NN) (bs:=bs) (bm:=tl) (hdct:=hdct) (sn:=sn) (sub:=sub) (ab:=ab) (col:=col) (dd:=dd) (k0:=k0) (k1:=k1) (k2:=k2) (k3:=k3) (k5:=k5)
  PySem.F.excBase_ValueError (mN:=mN) (T.hasType PySem.F.excBase_ValueError.hasBase) (I.ok.hd rfl) hpl hni (d5 I hg hm ⟨rfl,?_⟩ hd)
 rw [hst]
 refine Calls.evalArgs_plain ?_
 show wpAny _ _ (spliced ((false,eval e0 _)::backTo cpos [])) _ _ s1
 refine Calls.spliced_cons (thn (he pins s1 σ H1 _ I h) fun v s2 ⟨y,H2,I2,r2,hE⟩=> Calls.spliced_nil ⟨rfl,by show 1≤sizeLine; decide,I2.bk _ _ hC,hN.keeps I2.bk,T.keeps I2.bk,fun h' e hx=> ?_⟩)
 show wpAny _ _ (leaving (envOfC qual scope s.heap.objs.size f cd) (.ref e)) _ _ { s2 with heap:=h' }
 have stk:s2.heap.FunFrames base (envOfC qual scope s.heap.objs.size f cd::outer):=I2.stack
 refine wpAny_leaves_madeW (base:=hideAll s2.heap (frs (envOfC qual scope s.heap.objs.size f cd::outer))) (h:=s2.heap) (L:=s.heap.objs.size) I2.ok.frames rfl (fun b o q=> of_hideAll _ q)
  (funFrames_hide stk fun env he b hb=> List.mem_filterMap.mpr ⟨env,he,hb⟩) hx fun h2 t fl _ _ up=> ?_
 have k2':∀ b u,H2 b=some u→∃ o,(hideAll s2.heap (frs (envOfC qual scope s.heap.objs.size f cd::outer))).get? b=some o:=fun b u e=> by
  obtain ⟨ob,hob⟩:=fY (I2.hok b u e)
  exact ⟨ob,hideAll_get _ hob fun z=> by have:=I2.stkFree b z; rw [e] at this; cases this⟩
 obtain ⟨u,K1,K3⟩:=iu (h1:=h') I2 (Un.kept hx.keeps) (fun b o e hb _=> hideAll_get _ e hb) (fun b o e hb=> ⟨o,hideAll_get _ e hb⟩) fl.1 up
 refine ⟨e,.ref C,.ref t,_,H2,rfl,I2.os,I2.bare,u,dk (h:=s2.heap) I2.hok k2' (fun b o q=> of_hideAll _ q) fl.1,?_,K1,k2',K3,fl,hE⟩
 cases z:H2 e with
 | none=> rfl
 | some u=>
  obtain ⟨ob,hob⟩:=fY (I2.hok e u z)
  rw [hx.new] at hob; cases hob
end
theorem Fun.okF {P:Program} {w:World} {K:Frag} {mg:Str→Option Value} {base:Heap} {x qual:Str} {st:Stmt} {f:Addr} {fd:FuncData} {N ps:List Str} {k:Nat} {sp:Sp} (F:Fun K x qual st f fd) (S:aC N ps (ai st)) (len:∀ vs H Q E,sp vs H Q E→vs.length=ps.length)
  (hbody:∀ (cdv:Value) (A:Around) (outer:List Env) (s:Shared) (H:Hp) (vs:List V) (Q:VK) (E:XK),cg k (A.deeper (envOfC qual (ai st) s.heap.objs.size f cdv))→sp vs H Q E→
   ∃ t,PSs (cn (CXF P w) P w K mg base N qual (ai st) f cdv A outer s H E) (au st) t∧t { nx:=fun _ H'=> Q .non H',rt:=Q } (start N vs) H):a_ P w K mg base (CXF P w) (k+1) f fd ps sp:=by
 obtain ⟨oc,od,kV,doc,pm,an,cdv,ct,osl,rfl,lk,hcd⟩:=F.ex
 exact qw lk hcd S len fun A outer s H vs Q E hr hsp=> hbody cdv A outer s H vs Q E hr hsp
end L2
namespace L2
open PySem PySem.Spec PySem.W PyProof.Rows
abbrev dD (X:Cx) (ea:Addr):Cx:={ X with A:=X.A.mark (some (.ref ea)),calm:=false,xe:=fun _ _=> False }
section
variable {X:Cx} {pins:List (Addr×Obj)} {σ:St} {H:Hp} {s:Shared}
theorem Inv.hand (I:Inv X pins σ H s) (ea:Addr):Inv (dD X ea) pins σ H s:=
 ⟨⟨I.ok.mod,I.ok.kind,I.ok.glob,I.ok.blt,I.ok.above,I.ok.inj,I.ok.has,I.ok.cab,fun h=> (by cases h),I.ok.frames,I.ok.stk,I.ok.exf,I.ok.bs,I.ok.bsz,I.ok.noex,I.ok.exfs,I.ok.funs,I.ok.frf⟩,
  I.os,I.bare,I.base,I.loc,I.cell,I.free,I.freeC,I.pin,I.hok,I.len⟩
theorem Inv.unhand {ea:Addr} (hd:X.calm=true→X.A.handled=none) (I:Inv (dD X ea) pins σ H s):Inv X pins σ H s:=
 ⟨⟨I.ok.mod,I.ok.kind,I.ok.glob,I.ok.blt,I.ok.above,I.ok.inj,I.ok.has,I.ok.cab,hd,I.ok.frames,I.ok.stk,I.ok.exf,I.ok.bs,I.ok.bsz,I.ok.noex,I.ok.exfs,I.ok.funs,I.ok.frf⟩,
  I.os,I.bare,I.base,I.loc,I.cell,I.free,I.freeC,I.pin,I.hok,I.len⟩
theorem SP.unhand {ea:Addr} {D:fw} {f:Flow} {s':Shared} (hd:X.calm=true→X.A.handled=none) (h:SP (dD X ea) pins D f s'):SP X pins D f s':=by
 cases f with
 | next=> obtain ⟨σ',H',I,q⟩:=h; exact ⟨σ',H',I.unhand hd,q⟩
 | brk=> obtain ⟨σ',H',I,q⟩:=h; exact ⟨σ',H',I.unhand hd,q⟩
 | cont=> obtain ⟨σ',H',I,q⟩:=h; exact ⟨σ',H',I.unhand hd,q⟩
 | ret u=> obtain ⟨v,σ',H',I,r,q⟩:=h; exact ⟨v,σ',H',I.unhand hd,r,q⟩
end
section
variable {X:Cx}
end
end L2
namespace L2
open PySem PySem.Spec PyProof.Rows
theorem fZ {n:Nat} {e:Nat→Bool}:(List.range n).all e=true↔∀ j,j < n→e j=true:=by
 rw [List.all_eq_true]
 exact ⟨fun h j hj=> h j (List.mem_range.mpr hj),fun h j hj=> h j (List.mem_range.mp hj)⟩
section
variable {X:Cx}
end
end L2
namespace PySem.W
open PySem PySem.Spec PySem.Calls PyProof.Rows PySem.Builtin PySem.Builtin.ObjectAttr PySem.Builtin.Getset_descriptor
section
variable {prog:Program} {w:World} {A:Around} {E:Value→Shared→Prop} {s:Shared} {K:Frag} {x C:Addr}
def OfCls (x C:Addr) (h:Heap):Prop:=∃ o,h.get? x=some o∧o.cls=.ref C
theorem OfCls.type {M:Model} {h:Heap} (I:OfCls x C h):Looks M h (typeOf (.ref x)) (.ref C):=by
 obtain ⟨o,h1,h2⟩:=I
 exact h2 ▸ (Looks.ld h1).andThen .now
theorem oV {tp:Value} {R:Result→Shared→Prop} (X:K.In s.heap) (I:OfCls x C s.heap) (hm:mroIn K C (.type "object")=some true)
  (h:R (.ok (.ret (.ref C))) s):codeAny (model prog w) A (.call (.builtin "getset_descriptor.__get__") ⟨[.builtin "object.__class__",.ref x,tp],[]⟩) R s:=by
 obtain ⟨hh,g,dr,t,os⟩:=s
 have L0:=I.type (M:=model prog w)
 have L1:=looks_mroIn (M:=model prog w) X hm
 refine codeAny_call_builtin KF.slot_gs.plain KF.entry_gs (KF.slot_gs.check _ _ _ _ _ _ _ _ KF.type_class (KF.args_gs _ _ _) ?_)
 unfold Builtin.«getset_descriptor.__get__» descrGet
 rw [dga_obj]
 refine wpAny_bind (wpAny_pure ?_)
 unfold descrGetter descrCheckInstance descrNameAndClass isInstance
 simp only [KF.owner_class]
 repeat lk
 refine ⟨Code.quiet_builtin _ (by decide+kernel),codeAny_builtin KF.entry_class ?_⟩
 unfold Builtin.«object.__class__» shownTypeOf
 repeat lk
 exact h
theorem nA {M:Model} {h:Heap} {name:Str} {a g:Value} (X:K.In h) (ha:findIn K (.ref C) name=some (some a)) (hg:specialIn K a "__get__"=some (some g)) (ht:takesIn K a=some true):
  Looks M h (find (.ref x) (.ref C) name) (.bind g a):=by
 have L1:=looks_findIn (M:=M) X ha
 have L2:Looks M h (getOf (some a)) (some g):=looks_specialIn X hg
 have L3:=looks_takesIn (M:=M) X ht
 exact L1.andThen (L2.andThen ((show Looks M h (dataDescriptor? (some a) (some g)) (some (g,a)) from L3.andThen .now).andThen (Looks.tag .now)))
variable (hga:findIn K (.ref C) "__getattribute__"=some (some (.builtin "BaseException.__getattribute__"))) (hgn:findIn K (.ref C) "__getattr__"=some none) (ha:findIn K (.ref C) "__class__"=some (some (.builtin "object.__class__")))
 (hn:specialIn K (.builtin "object.__class__") "__get__"=some (some (.builtin "getset_descriptor.__get__"))) (htk:takesIn K (.builtin "object.__class__")=some true) (hm:mroIn K C (.type "object")=some true) (hmB:mroIn K C (.type "BaseException")=some true)
include ha hn htk hm in
theorem lT {tk:Tok} {Q:Fin→Shared→Prop} (X:K.In s.heap) (I:OfCls x C s.heap) (hq:Q (.done (.ret (.ref C))) s):
  wpAny (model prog w) A (Builtin.«object.__getattribute__» ⟨[.ref x,.str "__class__" tk],[]⟩) Q E s:=by
 have L0:=I.type (M:=model prog w)
 have L1:=nA (M:=model prog w) (x:=x) X ha hn htk
 obtain ⟨hh,g,dr,t,os⟩:=s
 unfold Builtin.«object.__getattribute__»
 refine wpAny_bind (wpAny_pure ?_)
 refine wpAny_bind (wpAny_pure (wpAny_bind (L0.at (wpAny_bind (L1.at ?_)))))
 show wpAny _ _ (bindTo _ _ _ _) _ _ _
 unfold bindTo
 show wpAny _ _ (holding [_] (call _ [_,_,_]) >>=ret) _ _ _
 refine wpAny_bind (wpAny_holding (wpAny_call (oV X I hm ?_)))
 exact wpAny_pure hq
include hmB in
theorem lW {nameV:Value} {M:Model} {Q:Unit→Shared→Prop} (X:K.In s.heap) (I:OfCls x C s.heap) (hq:Q () s):wpAny M A (checkBuiltinCall "BaseException.__getattribute__" ⟨[.ref x,nameV],[]⟩) Q E s:=by
 have hk:builtinKind "BaseException.__getattribute__"=some .slot:=by decide+kernel
 have hsplit:splitId "BaseException.__getattribute__"=some ("BaseException","__getattribute__"):=by decide+kernel
 have ha':=F.args_bexc_ga (.ref x) nameV
 have L:Looks M s.heap (isInstance (.ref x) (.type "BaseException")) true:=I.type.andThen (looks_mroIn X hmB)
 obtain ⟨hh,g,dr,t,os⟩:=s
 simp only [checkBuiltinCall,hk,hsplit]
 refine wpAny_bind (L.at ?_)
 repeat (first | assumption | wp_step)
include hga hgn ha hn htk hm hmB
theorem nD {tk:Tok} {R:Result→Shared→Prop} (X:K.In s.heap) (I:OfCls x C s.heap) (hq:R (.ok (.ret (.ref C))) s):
  codeAny (model prog w) A (.call (.builtin "BaseException.__getattribute__") ⟨[.ref x,.str "__class__" tk],[]⟩) R s:=by
 exact codeAny_call_builtin F.excAttr_ValueError.ga.plain F.entry_bexc_ga (lW hmB X I (lT ha hn htk hm X I hq))
theorem ly {Q:Option Value→Shared→Prop} (X:K.In s.heap) (I:OfCls x C s.heap) (h:Q (some (.ref C)) { s with toks:=s.toks+1 }):wpAny (model prog w) A (getAttr? (.ref x) "__class__") Q E s:=by
 obtain ⟨hh,g,d,t,os⟩:=s
 have L0:=I.type (M:=model prog w)
 have L1:=looks_findIn (M:=model prog w) X hga
 have L2:=looks_findIn (M:=model prog w) X hgn
 have f3:=F.excAttr_ValueError.ga.bind (.ref x)
 unfold getAttr? getAttrBy? getAttrBy
 refine wpAny_bind (wpAny_mkText (wpAny_bind (wpAny_attempt (wpAny_holding (wpAny_bind (L0.at (wpAny_bind (L1.at ?_))))))))
 show wpAny _ _ (getAttrByItsOwn _ _ _ _ _ _) _ _ _
 unfold getAttrByItsOwn
 refine wpAny_bind (L2.at ?_)
 refine wpAny_bind (wpAny_attempt (wpAny_holding ?_))
 show wpAny _ _ (boundAndCalled _ _ _) _ _ _
 unfold boundAndCalled
 rw [f3]
 refine wpAny_bind (wpAny_pure (wpAny_call ?_))
 exact nD hga hgn ha hn htk hm hmB X I (wpAny_pure (wpAny_pure h))
theorem ox (hc:(clsIn K C).isSome=true):KitX K (.ref x) (.ref C) (OfCls x C) where
 ty:=fun _ _ _ I=> I.type
 it:=fun _ _ X _=> by
  obtain ⟨cdD,hcD⟩:=Option.isSome_iff_exists.mp hc
  unfold clsIn at hcD
  split at hcD
  ·rename_i c' d' cd' sl' ho
   intro A' Q' E' s' k q
   unfold isType loadHead
   exact wpAny_bind (wpAny_loadPart (k _ _ (X _ _ ho)) (wpAny_pure q))
  ·cases hcD
 ne:=fun h tp dd its n sl X htp=> by
  obtain ⟨cdD,hcD⟩:=Option.isSome_iff_exists.mp hc
  refine Bool.eq_false_iff.mpr fun q=> ?_
  have e:C=tp:=Value.ref.inj (beq_iff_eq.mp q)
  subst e
  unfold clsIn at hcD
  split at hcD
  ·rename_i c' d' cd' sl' ho
   have z:=(X _ _ ho).symm.trans htp
   cases z
  ·cases hcD
 ca:=fun X I k=> ly hga hgn ha hn htk hm hmB X I k
end
theorem fD {K:Frag} {C:Addr} {v:Value} {b:Bool} (h:mroIn K C v=some b):(clsIn K C).isSome=true:=by
 obtain ⟨cd,e,_⟩:=Option.bind_eq_some_iff.mp h
 rw [e]; rfl
structure XcOk (K:Frag) (C:Addr):Prop where
 ga:findIn K (.ref C) "__getattribute__"=some (some (.builtin "BaseException.__getattribute__"))
 gn:findIn K (.ref C) "__getattr__"=some none
 at_:findIn K (.ref C) "__class__"=some (some (.builtin "object.__class__"))
 sp:specialIn K (.builtin "object.__class__") "__get__"=some (some (.builtin "getset_descriptor.__get__"))
 tk:takesIn K (.builtin "object.__class__")=some true
 mo:mroIn K C (.type "object")=some true
 mb:mroIn K C (.type "BaseException")=some true
theorem XcOk.kit {K:Frag} {x C:Addr} (h:XcOk K C):KitX K (.ref x) (.ref C) (OfCls x C):=ox h.ga h.gn h.at_ h.sp h.tk h.mo h.mb (fD h.mo)
theorem XcOk.off {x C:Addr} {h:Heap} {o:Obj} {T:String} (I:OfCls x C h) (e:h.get? x=some o) (c:o.cls=.type T):False:=by
 obtain ⟨o',e',c'⟩:=I
 rw [e] at e'; cases e'
 rw [c] at c'; cases c'
end PySem.W
namespace L2
open PySem PySem.Spec PyProof.Rows
inductive TyX where
 | nm (n:String) | xc (C:Addr)
inductive U where
 | non | bl (b:Bool) | int (i:Int) | str (x:Str) | ty (n:TyX) | dic | scr (xs:List U) | tup (xs:List U) | lst (xs:List U)
def U.items:U→Option (List U)
 | .scr xs=> some xs
 | .tup xs=> some xs
 | .lst xs=> some xs
 | _=> none
def hid (H:Hp) (O:List Addr):Hp:=fun b=> if b∈O then none else H b
theorem dC {H:Hp} {O:List Addr} {b:Addr} {o:HO} (h:hid H O b=some o):H b=some o∧b ∉ O:=by
 unfold hid at h
 split at h
 ·cases h
 ·exact ⟨h,by assumption⟩
theorem cI {H:Hp} {O:List Addr} {b:Addr} {o:HO} (h:H b=some o) (n:b ∉ O):hid H O b=some o:=by
 unfold hid; rw [if_neg n]; exact h
theorem am {H:Hp} {O:List Addr}:ay (hid H O) H:=fun _ _ h=> (dC h).1
theorem aW {H H':Hp} {O:List Addr} (e:ay H H'):ay (hid H O) (hid H' O):=fun _ _ h=> cI (e _ _ (dC h).1) (dC h).2
theorem de {H:Hp} {O O':List Addr} (e:∀ a∈O',a∈O):ay (hid H O) (hid H O'):=fun _ _ h=> cI (dC h).1 fun z=> (dC h).2 (e _ z)
theorem ba {H H':Hp} {O:List Addr} {a:Addr} (e:ay H H') (n:H a=none):ay (hid H O) (hid H' (a::O)):=fun b o h=> by
 obtain ⟨h1,h2⟩:=dC h
 refine cI (e _ _ h1) fun z=> ?_
 rcases List.mem_cons.mp z with y | y
 ·subst y; rw [n] at h1; cases h1
 ·exact h2 y
theorem gK {H:Hp} {O:List Addr} {a:Addr} {o:HO} (h:a∈O):hid (upd H a o) O=hid H O:=by
 funext b
 unfold hid
 split
 ·rfl
 ·rename_i n
  rw [aI fun e=> n (by rw [e]; exact h)]
inductive Rp (K:PySem.W.Frag) (H:Hp):V→U→Prop where
 | non:Rp K H .non .non
 | bl (b:Bool):Rp K H (.bl b) (.bl b)
 | int (i:Int):Rp K H (.int i) (.int i)
 | str (x:Str):Rp K H (.str x) (.str x)
 | ty (n:String):Rp K H (.ty n) (.ty (.nm n))
 | dic {a:Addr} {kvs:List (Key×V)} (h:H a=some (.dK kvs)):Rp K H (.ref a) .dic
 | xc {a C:Addr} (h:H a=some (.ext (PySem.W.OfCls a C))) (k:PySem.W.XcOk K C):Rp K H (.ref a) (.ty (.xc C))
 | scr {a:Addr} {vs:List V} {xs:List U} (h:SqL K H a vs) (hl:vs.length=xs.length) (hi:∀ (i:Nat) (v:V) (x:U),vs[i]?=some v→xs[i]?=some x→Rp K H v x):Rp K H (.ref a) (.scr xs)
 | tup {a:Addr} {vs:List V} {xs:List U} (h:SqT K H a vs) (hl:vs.length=xs.length) (hi:∀ (i:Nat) (v:V) (x:U),vs[i]?=some v→xs[i]?=some x→Rp K H v x):Rp K H (.ref a) (.tup xs)
 | lst {a:Addr} {vs:List V} {xs:List U} (h:H a=some (.lst vs)) (hl:vs.length=xs.length) (hi:∀ (i:Nat) (v:V) (x:U),vs[i]?=some v→xs[i]?=some x→Rp K H v x):Rp K H (.ref a) (.lst xs)
theorem Rp.same {K:PySem.W.Frag} {H H':Hp} {v:V} {u:U} (e:ay H H') (h:Rp K H v u):Rp K H' v u:=by
 induction h with
 | non=> exact .non
 | bl b=> exact .bl b
 | int i=> exact .int i
 | str x=> exact .str x
 | ty n=> exact .ty n
 | dic h=> exact .dic (e _ _ h)
 | xc h k=> exact .xc (e _ _ h) k
 | scr h hl hi ih=> exact .scr (e.seq h) hl ih
 | tup h hl hi ih=> exact .tup (e.tup h) hl ih
 | lst h hl hi ih=> exact .lst (e _ _ h) hl ih
structure Rps (K:PySem.W.Frag) (H:Hp) (vs:List V) (xs:List U):Prop where
 len:vs.length=xs.length
 at_:∀ (i:Nat) (v:V) (x:U),vs[i]?=some v→xs[i]?=some x→Rp K H v x
theorem Rps.same {K:PySem.W.Frag} {H H':Hp} {vs:List V} {xs:List U} (e:ay H H') (h:Rps K H vs xs):Rps K H' vs xs:=⟨h.len,fun i v x a b=> (h.at_ i v x a b).same e⟩
theorem Rps.nil {K:PySem.W.Frag} {H:Hp}:Rps K H [] []:=⟨rfl,fun i v x h=> by simp at h⟩
theorem Rps.cons {K:PySem.W.Frag} {H:Hp} {v:V} {x:U} {vs:List V} {xs:List U} (h:Rp K H v x) (t:Rps K H vs xs):Rps K H (v::vs) (x::xs):=by
 refine ⟨by simp [t.len],fun i a b h1 h2=> ?_⟩
 cases i with
 | zero=> simp at h1 h2; subst h1; subst h2; exact h
 | succ i=> exact t.at_ i a b (by simpa using h1) (by simpa using h2)
theorem Rps.snoc {K:PySem.W.Frag} {H:Hp} {vs ws:List V} {xs ys:List U} (h:Rps K H vs xs) (t:Rps K H ws ys):Rps K H (vs++ws) (xs++ys):=by
 refine ⟨by simp [h.len,t.len],fun i a b h1 h2=> ?_⟩
 by_cases hi:i < vs.length
 ·rw [List.getElem?_append_left hi] at h1
  rw [List.getElem?_append_left (by rw [← h.len]; exact hi)] at h2
  exact h.at_ i a b h1 h2
 ·have hle:vs.length≤i:=Nat.le_of_not_lt hi
  rw [List.getElem?_append_right hle] at h1
  rw [List.getElem?_append_right (by rw [← h.len]; exact hle),← h.len] at h2
  exact t.at_ _ a b h1 h2
theorem Rps.get {K:PySem.W.Frag} {H:Hp} {vs:List V} {xs:List U} {i:Nat} {x:U} (h:Rps K H vs xs) (e:xs[i]?=some x):∃ v,vs[i]?=some v∧Rp K H v x:=by
 have hi:i < vs.length:=by rw [h.len]; exact (List.getElem?_eq_some_iff.mp e).1
 exact ⟨vs[i],List.getElem?_eq_getElem hi,h.at_ i _ x (List.getElem?_eq_getElem hi) e⟩
theorem Rps.atI {K:PySem.W.Frag} {H:Hp} {vs:List V} {xs:List U} {i:Int} {x:U} (h:Rps K H vs xs) (e:L2.atI xs i=some x):∃ v,L2.atI vs i=some v∧Rp K H v x:=by
 unfold L2.atI at e ⊢
 rw [h.len]
 cases q:ixN xs.length i with
 | none=> rw [q] at e; cases e
 | some j=>
  rw [q] at e
  obtain ⟨v,h1,h2⟩:=h.get (show xs[j]?=some x from e)
  exact ⟨v,h1,h2⟩
theorem Rps.cons_inv {K:PySem.W.Frag} {H:Hp} {vs:List V} {x:U} {xs:List U} (h:Rps K H vs (x::xs)):∃ v ws,vs=v::ws∧Rp K H v x∧Rps K H ws xs:=by
 cases vs with
 | nil=> have:=h.len; simp at this
 | cons v ws=>
  refine ⟨v,ws,rfl,h.at_ 0 v x rfl rfl,by have:=h.len; simpa using this,fun i a b h1 h2=> h.at_ (i+1) a b (by simpa using h1) (by simpa using h2)⟩
theorem Rps.nil_inv {K:PySem.W.Frag} {H:Hp} {vs:List V} (h:Rps K H vs []):vs=[]:=List.length_eq_zero_iff.mp (by rw [h.len]; rfl)
inductive Sl where
 | val (u:U) | own (xs:List U) | pin (w:V) (u:U)
abbrev PSt:=List (Option Sl)
def nY (K:PySem.W.Frag) (H:Hp) (O O0:List Addr) (v:V):Sl→Prop
 | .val u=> Rp K (hid H O) v u
 | .own xs=> ∃ a vs,v=.ref a∧a∈O∧a ∉ O0∧H a=some (.lst vs)∧Rps K (hid H O) vs xs
 | .pin w u=> v=w∧Rp K (hid H O) v u
structure Rs (K:PySem.W.Frag) (H0:Hp) (O0:List Addr) (ps:PSt) (σ:St) (H:Hp) (O:List Addr):Prop where
 same:ay H0 H
 old:∀ a∈O0,a∈O
 new:∀ a∈O,a∈O0∨H0 a=none
 dom:∀ a∈O,H a≠none
 len:σ.length=ps.length
 at_:∀ (i:Nat) (s:Sl),ps[i]?=some (some s)→∃ v,σ[i]?=some (some v)∧nY K H O O0 v s
 inj:∀ (i j:Nat) (xs ys:List U) (a:Addr),ps[i]?=some (some (.own xs))→ps[j]?=some (some (.own ys))→σ[i]?=some (some (.ref a))→σ[j]?=some (some (.ref a))→i=j
section
variable {K:PySem.W.Frag} {H0 H H':Hp} {O0 O:List Addr} {ps:PSt} {σ:St}
theorem nY.same {v:V} {s:Sl} (e:ay H H') (h:nY K H O O0 v s):nY K H' O O0 v s:=by
 cases s with
 | val u=> exact Rp.same (aW e) h
 | own xs=> obtain ⟨a,vs,h1,h2,h3,h4,h5⟩:=h; exact ⟨a,vs,h1,h2,h3,e _ _ h4,h5.same (aW e)⟩
 | pin w u=> exact ⟨h.1,Rp.same (aW e) h.2⟩
theorem Rs.go (R:Rs K H0 O0 ps σ H O) (e:ay H H'):Rs K H0 O0 ps σ H' O:=
 ⟨R.same.trans e,R.old,R.new,fun a ha z=> R.dom a ha (e.free z),R.len,fun i s h=> let ⟨v,h1,h2⟩:=R.at_ i s h; ⟨v,h1,h2.same e⟩,R.inj⟩
theorem bZ {α:Type} {xs:List α} {i j:Nat} {y x:α} (h:(xs.set i y)[j]?=some x):(i=j∧x=y)∨(i≠j∧xs[j]?=some x):=by
 by_cases e:i=j
 ·subst e
  rw [List.getElem?_set] at h
  simp at h
  exact .inl ⟨rfl,h.2.symm⟩
 ·rw [List.getElem?_set_ne e] at h
  exact .inr ⟨e,h⟩
theorem dX {α:Type} {xs:List α} {i:Nat} {y:α} (h:i < xs.length):(xs.set i y)[i]?=some y:=by rw [List.getElem?_set]; simp [h]
theorem aM {α:Type} {xs:List α} {i:Nat} {y:α} (h:xs[i]?=some y):i < xs.length:=(List.getElem?_eq_some_iff.mp h).1
theorem fP {i:Nat} {u:U} {j:Nat} {xs:List U} (h:(ps.set i (some (.val u)))[j]?=some (some (.own xs))):i≠j∧ps[j]?=some (some (.own xs)):=by
 rcases bZ h with ⟨_,e⟩ | h
 ·cases e
 ·exact h
theorem Rs.set {i:Nat} {v:V} {u:U} (R:Rs K H0 O0 ps σ H O) (r:Rp K (hid H O) v u):Rs K H0 O0 (ps.set i (some (.val u))) (σ.set i (some v)) H O:=by
 refine ⟨R.same,R.old,R.new,R.dom,by simp [R.len],fun j s h=> ?_,fun j k xs ys a h1 h2 h3 h4=> ?_⟩
 ·rcases bZ h with ⟨e,q⟩ | ⟨n,q⟩
  ·subst e
   cases q
   have hi:=aM h
   rw [List.length_set] at hi
   exact ⟨v,dX (by rw [R.len]; exact hi),r⟩
  ·obtain ⟨w,h1,h2⟩:=R.at_ j s q
   exact ⟨w,by rw [List.getElem?_set_ne n]; exact h1,h2⟩
 ·obtain ⟨n1,q1⟩:=fP h1
  obtain ⟨n2,q2⟩:=fP h2
  rw [List.getElem?_set_ne n1] at h3
  rw [List.getElem?_set_ne n2] at h4
  exact R.inj j k xs ys a q1 q2 h3 h4
theorem Rs.drop {i:Nat} {o:Option V} (R:Rs K H0 O0 ps σ H O):Rs K H0 O0 (ps.set i none) (σ.set i o) H O:=by
 have key:∀ {j:Nat} {s:Sl},(ps.set i none)[j]?=some (some s)→i≠j∧ps[j]?=some (some s):=fun {j s} h=> by
  rcases bZ h with ⟨_,e⟩ | h
  ·cases e
  ·exact h
 refine ⟨R.same,R.old,R.new,R.dom,by simp [R.len],fun j s h=> ?_,fun j k xs ys a h1 h2 h3 h4=> ?_⟩
 ·obtain ⟨n,q⟩:=key h
  obtain ⟨w,h1,h2⟩:=R.at_ j s q
  exact ⟨w,by rw [List.getElem?_set_ne n]; exact h1,h2⟩
 ·obtain ⟨n1,q1⟩:=key h1
  obtain ⟨n2,q2⟩:=key h2
  rw [List.getElem?_set_ne n1] at h3
  rw [List.getElem?_set_ne n2] at h4
  exact R.inj j k xs ys a q1 q2 h3 h4
theorem Rs.own {i:Nat} {a:Addr} {vs:List V} {xs:List U} (R:Rs K H0 O0 ps σ H O) (e:ay H H') (n:H a=none) (h:H' a=some (.lst vs)) (r:Rps K (hid H' (a::O)) vs xs):
  Rs K H0 O0 (ps.set i (some (.own xs))) (σ.set i (some (.ref a))) H' (a::O):=by
 have na:a ∉ O:=fun z=> R.dom a z n
 have na0:a ∉ O0:=fun z=> na (R.old a z)
 have n0:H0 a=none:=R.same.free n
 have noref:∀ (j:Nat) (ys:List U),ps[j]?=some (some (.own ys))→σ[j]?≠some (some (.ref a)):=fun j ys h1 h2=> by
  obtain ⟨v,h3,b,ws,h4,h5,_⟩:=R.at_ j _ h1
  rw [h2] at h3
  cases h3
  cases h4
  exact na h5
 refine ⟨R.same.trans e,fun b hb=> List.mem_cons_of_mem _ (R.old b hb),fun b hb=> ?_,fun b hb z=> ?_,by simp [R.len],fun j s q=> ?_,fun j k ys zs b h1 h2 h3 h4=> ?_⟩
 ·rcases List.mem_cons.mp hb with y | y
  ·subst y; exact .inr n0
  ·exact R.new b y
 ·rcases List.mem_cons.mp hb with y | y
  ·subst y; rw [h] at z; cases z
  ·exact R.dom b y (e.free z)
 ·rcases bZ q with ⟨e',q'⟩ | ⟨ne,q'⟩
  ·subst e'
   cases q'
   have hi:=aM q
   rw [List.length_set] at hi
   exact ⟨.ref a,dX (by rw [R.len]; exact hi),a,vs,rfl,List.mem_cons_self,na0,h,r⟩
  ·obtain ⟨w,h1,h2⟩:=R.at_ j s q'
   refine ⟨w,by rw [List.getElem?_set_ne ne]; exact h1,?_⟩
   cases s with
   | val u=> exact Rp.same (ba e n) h2
   | own ys=>
    obtain ⟨b,ws,k1,k2,k3,k4,k5⟩:=h2
    exact ⟨b,ws,k1,List.mem_cons_of_mem _ k2,k3,e _ _ k4,k5.same (ba e n)⟩
   | pin z u=> exact ⟨h2.1,Rp.same (ba e n) h2.2⟩
 ·rcases bZ h1 with ⟨e1,q1⟩ | ⟨n1,q1⟩ <;> rcases bZ h2 with ⟨e2,q2⟩ | ⟨n2,q2⟩
  ·rw [← e1,← e2]
  ·subst e1
   have hi:=aM h3
   rw [List.length_set] at hi
   rw [dX hi] at h3
   cases h3
   rw [List.getElem?_set_ne n2] at h4
   exact absurd h4 (noref k zs q2)
  ·subst e2
   have hi:=aM h4
   rw [List.length_set] at hi
   rw [dX hi] at h4
   cases h4
   rw [List.getElem?_set_ne n1] at h3
   exact absurd h3 (noref j ys q1)
  ·rw [List.getElem?_set_ne n1] at h3
   rw [List.getElem?_set_ne n2] at h4
   exact R.inj j k ys zs b q1 q2 h3 h4
theorem Rs.write {i:Nat} {a:Addr} {vs:List V} {xs ys:List U} (R:Rs K H0 O0 ps σ H O) (hp:ps[i]?=some (some (.own xs))) (hs:σ[i]?=some (some (.ref a))) (r:Rps K (hid H O) vs ys):
  Rs K H0 O0 (ps.set i (some (.own ys))) σ (upd H a (.lst vs)) O:=by
 obtain ⟨v,h1,b,ws,h2,h3,h4,h5,h6⟩:=R.at_ i _ hp
 rw [hs] at h1
 cases h1
 cases h2
 have h0:H0 a=none:=(R.new a h3).resolve_left h4
 have eh:hid (upd H a (.lst vs)) O=hid H O:=gK h3
 refine ⟨R.same.put h0 _,R.old,R.new,fun b hb z=> ?_,by simp [R.len],fun j s q=> ?_,fun j k zs us b q1 q2 q3 q4=> ?_⟩
 ·by_cases e:b=a
  ·subst e; rw [aE] at z; cases z
  ·rw [aI e] at z; exact R.dom b hb z
 ·rcases bZ q with ⟨e',q'⟩ | ⟨ne,q'⟩
  ·subst e'
   cases q'
   exact ⟨.ref a,hs,a,vs,rfl,h3,h4,aE,by rw [eh]; exact r⟩
  ·obtain ⟨w,k1,k2⟩:=R.at_ j s q'
   refine ⟨w,k1,?_⟩
   cases s with
   | val u=> exact (show Rp K (hid (upd H a (.lst vs)) O) w u by rw [eh]; exact k2)
   | own zs=>
    obtain ⟨b,us,e1,e2,e3,e4,e5⟩:=k2
    subst e1
    have:b≠a:=fun z=> by subst z; exact ne (R.inj i j xs zs b hp q' hs k1)
    exact ⟨b,us,rfl,e2,e3,by rw [aI this]; exact e4,by rw [eh]; exact e5⟩
   | pin z u=> exact ⟨k2.1,by rw [eh]; exact k2.2⟩
 ·have c1:∃ zs',ps[j]?=some (some (.own zs')):=by
   rcases bZ q1 with ⟨e,_⟩ | ⟨_,z⟩
   ·subst e; exact ⟨_,hp⟩
   ·exact ⟨_,z⟩
  have c2:∃ zs',ps[k]?=some (some (.own zs')):=by
   rcases bZ q2 with ⟨e,_⟩ | ⟨_,z⟩
   ·subst e; exact ⟨_,hp⟩
   ·exact ⟨_,z⟩
  obtain ⟨_,c1⟩:=c1
  obtain ⟨_,c2⟩:=c2
  exact R.inj j k _ _ b c1 c2 q3 q4
def SubP:PSt→PSt→Prop
 | [],[]=> True
 | none::p,_::q=> SubP p q
 | some s::p,t::q=> t=some s∧SubP p q
 | _,_=> False
theorem SubP.at_:∀ {p q:PSt},SubP p q→p.length=q.length∧∀ (i:Nat) (s:Sl),p[i]?=some (some s)→q[i]?=some (some s)
 | [],[],_=> ⟨rfl,fun i s h=> by simp at h⟩
 | none::p,t::q,h=> by
  obtain ⟨h1,h2⟩:=SubP.at_ (p:=p) (q:=q) h
  refine ⟨by simp [h1],fun i s e=> ?_⟩
  cases i with
  | zero=> simp at e
  | succ i=> exact h2 i s (by simpa using e)
 | some s0::p,t::q,h=> by
  obtain ⟨h0,h⟩:=h
  obtain ⟨h1,h2⟩:=SubP.at_ (p:=p) (q:=q) h
  refine ⟨by simp [h1],fun i s e=> ?_⟩
  cases i with
  | zero=> simp at e; subst e; rw [h0]; rfl
  | succ i=> exact h2 i s (by simpa using e)
 | [],_::_,h=> h.elim
 | none::_,[],h=> h.elim
 | some _::_,[],h=> h.elim
theorem Rs.sub {ps':PSt} (R:Rs K H0 O0 ps σ H O) (h:SubP ps' ps):Rs K H0 O0 ps' σ H O:=by
 obtain ⟨h1,h2⟩:=h.at_
 exact ⟨R.same,R.old,R.new,R.dom,R.len.trans h1.symm,fun i s e=> R.at_ i s (h2 i s e),fun i j xs ys a e1 e2=> R.inj i j xs ys a (h2 _ _ e1) (h2 _ _ e2)⟩
end
def Ev (X:Cx) (H0:Hp) (O0:List Addr) (ps:PSt) (e:Expr) (u:U):Prop:=
 PE X e fun σ H Q=> ∃ O,Rs X.K H0 O0 ps σ H O∧∀ v H',ay H H'→Rp X.K (hid H' O) v u→Q v H'
def EvN (X:Cx) (H0:Hp) (O0:List Addr) (ps:PSt) (e:Expr) (xs:List U):Prop:=
 PE X e fun σ H Q=> ∃ O,Rs X.K H0 O0 ps σ H O∧∀ a vs H',ay H H'→H a=none→H' a=some (.lst vs)→Rps X.K (hid H' (a::O)) vs xs→Q (.ref a) H'
def Tt (X:Cx) (H0:Hp) (O0:List Addr) (ps:PSt) (e:Expr) (b:Bool):Prop:=
 PT X e fun σ H Q=> ∃ O,Rs X.K H0 O0 ps σ H O∧∀ H',ay H H'→Q b H'
def Tw (X:Cx) (H0:Hp) (O0:List Addr) (ps:PSt) (e:Expr) (b:Bool):Prop:=
 PW X e fun σ H Q=> ∃ O,Rs X.K H0 O0 ps σ H O∧∀ H',ay H H'→Q b H'
def EvA (X:Cx) (H0:Hp) (O0:List Addr) (ps:PSt) (es:List Expr) (us:List U):Prop:=
 PA X es fun σ H Q=> ∃ O,Rs X.K H0 O0 ps σ H O∧∀ vs H',ay H H'→Rps X.K (hid H' O) vs us→Q vs H'
theorem PE.mono {X:Cx} {e:Expr} {t t':TE} (h:PE X e t) (m:∀ σ H Q,t' σ H Q→t σ H Q):PE X e t':=fun pins s σ H Q I q=> h pins s σ H Q I (m σ H Q q)
theorem PT.mono {X:Cx} {e:Expr} {t t':TT} (h:PT X e t) (m:∀ σ H Q,t' σ H Q→t σ H Q):PT X e t':=fun pins s σ H Q I q=> h pins s σ H Q I (m σ H Q q)
theorem PW.mono {X:Cx} {e:Expr} {t t':TT} (h:PW X e t) (m:∀ σ H Q,t' σ H Q→t σ H Q):PW X e t':=fun wh pins s σ H Q I q=> h wh pins s σ H Q I (m σ H Q q)
theorem PA.mono {X:Cx} {e:List Expr} {t t':TA} (h:PA X e t) (m:∀ σ H Q,t' σ H Q→t σ H Q):PA X e t':=fun pos pins s σ H Q I q=> h pos pins s σ H Q I (m σ H Q q)
theorem PS.mono {X:Cx} {e:Stmt} {t t':TS} (h:PS X e t) (m:∀ D σ H,t' D σ H→t D σ H):PS X e t':=fun pins s σ H D I q=> h pins s σ H D I (m D σ H q)
theorem PSs.mono {X:Cx} {e:List Stmt} {t t':TS} (h:PSs X e t) (m:∀ D σ H,t' D σ H→t D σ H):PSs X e t':=fun pins s σ H D I q=> h pins s σ H D I (m D σ H q)
section
variable {X:Cx} {H0:Hp} {O0:List Addr} {ps:PSt} {a b c e:Expr} {es:List Expr} {pos p:Pos} {u x y:U} {xs ys us:List U} {i j:Int}
theorem EvN.ev (h:EvN X H0 O0 ps e xs):Ev X H0 O0 ps e (.lst xs):=PE.mono h fun σ H Q ⟨O,R,k⟩=> ⟨O,R,fun a vs H' s n h r=> by
 have na:a ∉ O:=fun z=> R.dom a z n
 have less:ay (hid H' (a::O)) (hid H' O):=de fun b hb=> List.mem_cons_of_mem _ hb
 exact k _ H' s (.lst (cI h na) (r.same less).len (r.same less).at_)⟩
theorem aa (i:Nat) {x:Str} {u:U} (h:ps[i]?=some (some (.val u))) (hN:X.N[i]?=some x:=by rfl) (hv:Vis X.env.scope x:=by first | exact Or.inl rfl | exact Or.inr (Or.inl rfl) | exact Or.inr (Or.inr rfl)) (hd:(x==("__debug__":Str))=false:=by decide)
  (hcd:(x==("__classdict__":Str))=false:=by decide):Ev X H0 O0 ps (.Name x pos) u:=PE.mono (eA hN hv hd hcd) fun σ H Q ⟨O,R,k⟩=> by
 obtain ⟨v,h1,h2⟩:=R.at_ i _ h
 exact ⟨v,h1,k v H (.refl H) h2⟩
theorem ag {i j pos}:Ev X H0 O0 ps (.Constant (.int i) j pos) (.int i):=PE.mono p7 fun _ H _ ⟨_,_,k⟩=> k _ H (.refl H) (.int i)
theorem cL {i j pos}:Ev X H0 O0 ps (.Constant (.bool i) j pos) (.bl i):=PE.mono qy fun _ H _ ⟨_,_,k⟩=> k _ H (.refl H) (.bl i)
theorem qz {j pos}:Ev X H0 O0 ps (.Constant .none j pos) .non:=PE.mono o9 fun _ H _ ⟨_,_,k⟩=> k _ H (.refl H) .non
theorem jA {i j pos}:Ev X H0 O0 ps (.Constant (.str i) j pos) (.str i):=PE.mono pU fun _ H _ ⟨_,_,k⟩=> k _ H (.refl H) (.str i)
theorem bY {x:Str} {n:String} {pos:Pos} (hg:Gl X x) (hm:X.mg x=none) (hv:bootBuiltins x=some (.type n)) (hn:x≠"__name__":=by decide) (hd:(x==("__debug__":Str))=false:=by decide):Ev X H0 O0 ps (.Name x pos) (.ty (.nm n)):=
 PE.mono (qA hg hm hv hn hd) fun _ H _ ⟨_,_,k⟩=> k _ H (.refl H) (.ty n)
theorem two {ta tb:TE} {σ:St} {H:Hp} {Q:VK} {O:List Addr} {r:R2} (R:Rs X.K H0 O0 ps σ H O)
  (ha:∀ σ H Q,(∃ O,Rs X.K H0 O0 ps σ H O∧∀ v H',ay H H'→Rp X.K (hid H' O) v x→Q v H')→ta σ H Q) (hb:∀ σ H Q,(∃ O,Rs X.K H0 O0 ps σ H O∧∀ v H',ay H H'→Rp X.K (hid H' O) v y→Q v H')→tb σ H Q)
  (h:∀ v w H',ay H H'→Rs X.K H0 O0 ps σ H' O→Rp X.K (hid H' O) v x→Rp X.K (hid H' O) w y→r v w H' Q):tOp r ta tb σ H Q:=
 ha σ H _ ⟨O,R,fun v H1 s1 r1=> hb σ H1 _ ⟨O,R.go s1,fun w H2 s2 r2=> h v w H2 (s1.trans s2) (R.go (s1.trans s2)) (r1.same (aW s2)) r2⟩⟩
theorem oz {op:Operator} {g:Int→Int→Int} (ho:OpR X (binaryOp op) (rI0 fun i j=> .int (g i j))) (ha:Ev X H0 O0 ps a (.int i)) (hb:Ev X H0 O0 ps b (.int j)):Ev X H0 O0 ps (.BinOp a op b pos) (.int (g i j)):=
 PE.mono (iw ho ha hb) fun σ H Q ⟨O,R,k⟩=> two (x:=.int i) (y:=.int j) R (fun _ _ _ z=> z) (fun _ _ _ z=> z) fun v w H' s _ r1 r2=> by
  cases r1; cases r2; exact ⟨i,j,rfl,rfl,k _ H' s (.int _)⟩
theorem j4 {op:Operator} {C:Int→Int→Prop} {g:Int→Int→Int} (ho:OpR X (binaryOp op) (rI C fun i j=> .int (g i j))) (ha:Ev X H0 O0 ps a (.int i)) (hb:Ev X H0 O0 ps b (.int j)) (hc:C i j):Ev X H0 O0 ps (.BinOp a op b pos) (.int (g i j)):=
 PE.mono (iw ho ha hb) fun σ H Q ⟨O,R,k⟩=> two (x:=.int i) (y:=.int j) R (fun _ _ _ z=> z) (fun _ _ _ z=> z) fun v w H' s _ r1 r2=> by
  cases r1; cases r2; exact ⟨i,j,rfl,rfl,hc,k _ H' s (.int _)⟩
theorem bN (ha:Ev X H0 O0 ps a (.int i)) (hb:Ev X H0 O0 ps b (.int j)):Ev X H0 O0 ps (.BinOp a .Add b pos) (.int (i+j)):=oz o0 ha hb
theorem bW (ha:Ev X H0 O0 ps a (.int i)) (hb:Ev X H0 O0 ps b (.int j)):Ev X H0 O0 ps (.BinOp a .Sub b pos) (.int (i - j)):=oz pZ ha hb
theorem bi (ha:Ev X H0 O0 ps a (.int i)) (hb:Ev X H0 O0 ps b (.int j)) (hc:IntMulOk i j):Ev X H0 O0 ps (.BinOp a .Mult b pos) (.int (i * j)):=j4 ou ha hb hc
theorem iK (ha:Ev X H0 O0 ps a (.int i)) (hb:Ev X H0 O0 ps b (.int j)) (hc:oF i j):Ev X H0 O0 ps (.BinOp a .FloorDiv b pos) (.int (i / j)):=j4 lD ha hb hc
theorem eL (ha:Ev X H0 O0 ps a (.int i)) (hb:Ev X H0 O0 ps b (.int j)) (hc:0 < j):Ev X H0 O0 ps (.BinOp a .Mod b pos) (.int (i % j)):=j4 pq ha hb hc
theorem gv (ha:Ev X H0 O0 ps a (.int i)) (hb:Ev X H0 O0 ps b (.int j)) (hc:qV i j):Ev X H0 O0 ps (.BinOp a .Pow b pos) (.int (i ^ j.toNat)):=j4 pM ha hb hc
theorem db (ha:Ev X H0 O0 ps a (.int i)):Ev X H0 O0 ps (.UnaryOp .USub a pos) (.int (-i)):=
 PE.mono (qm pK ha) fun σ H Q ⟨O,R,k⟩=> ⟨O,R,fun v H' s r=> by cases r; exact ⟨i,rfl,k _ H' s (.int _)⟩⟩
end
end L2
namespace L2
open PySem PySem.Spec PyProof.Rows
mutual
def eqW:U→U→Bool
 | .non,.non=> true
 | .bl a,.bl b=> a==b
 | .bl a,.int j=> (if a then 1 else 0)==j
 | .int i,.bl b=> i==(if b then 1 else 0)
 | .int i,.int j=> i==j
 | .str a,.str b=> a==b
 | .tup xs,.tup ys=> eqWs xs ys
 | .lst xs,.lst ys=> eqWs xs ys
 | .lst xs,.scr ys=> eqWs xs ys
 | .scr xs,.lst ys=> eqWs xs ys
 | .scr xs,.scr ys=> eqWs xs ys
 | _,_=> false
def eqWs:List U→List U→Bool
 | [],[]=> true
 | x::xs,y::ys=> eqW x y && eqWs xs ys
 | _,_=> false
end
mutual
def okU:Nat→U→Bool
 | _,.ty _=> false
 | _,.dic=> false
 | 0,.tup _=> false
 | 0,.lst _=> false
 | 0,.scr _=> false
 | n+1,.tup xs=> okUs n xs
 | n+1,.lst xs=> okUs n xs
 | n+1,.scr xs=> okUs n xs
 | _,_=> true
def okUs:Nat→List U→Bool
 | _,[]=> true
 | n,x::xs=> okU n x && okUs n xs
end
theorem eU:∀ {n:Nat} {xs:List U} {i:Nat} {x:U},okUs n xs=true→xs[i]?=some x→okU n x=true
 | n,[],i,x,_,h=> by simp at h
 | n,y::xs,0,x,h,e=> by simp at e; subst e; simp [okUs] at h; exact h.1
 | n,y::xs,i+1,x,h,e=> by simp [okUs] at h; exact eU (i:=i) h.2 (by simpa using e)
theorem bV:∀ (xs ys:List U),((List.range (min xs.length ys.length)).all (fun j=> eqW (xs.getD j .non) (ys.getD j .non)) && xs.length==ys.length)=eqWs xs ys
 | [],[]=> rfl
 | [],y::ys=> by simp [eqWs]
 | x::xs,[]=> by simp [eqWs]
 | x::xs,y::ys=> by
  have ih:=bV xs ys
  rw [eqWs,← ih]
  simp only [List.length_cons,Nat.succ_min_succ]
  rw [List.range_succ_eq_map,List.all_cons,List.all_map]
  have e:((xs.length+1==ys.length+1))=(xs.length==ys.length):=by simp
  rw [e,Bool.and_assoc]
  rfl
theorem Rp.one {X:Cx} {pins:List (Addr×Obj)} {σ:St} {H:Hp} {s:Shared} (I:Inv X pins σ H s) {v:V} {x:U} (h:Rp X.K H v x):∀ {n:Nat} {y:U},Rp X.K H v y→okU n x=true→eqW x y=true:=by
 have key:∀ {vs ws:List V} {xs ys:List U},vs=ws→vs.length=xs.length→ws.length=ys.length→(∀ (i:Nat) (x y:U),xs[i]?=some x→ys[i]?=some y→eqW x y=true)→eqWs xs ys=true:=fun {vs ws xs ys} e h1 h2 hh=> by
  subst e
  rw [← bV,Bool.and_eq_true,fZ]
  refine ⟨fun j hj=> ?_,by simp [← h1,← h2]⟩
  have j1:j < xs.length:=by omega
  have j2:j < ys.length:=by omega
  rw [List.getD_eq_getElem?_getD,List.getElem?_eq_getElem j1,List.getD_eq_getElem?_getD,List.getElem?_eq_getElem j2]
  exact hh j _ _ (List.getElem?_eq_getElem j1) (List.getElem?_eq_getElem j2)
 have key2:∀ {vs:List V} {xs ys:List U} {n:Nat},vs.length=xs.length→(∀ (i:Nat) (v:V) (x:U),vs[i]?=some v→xs[i]?=some x→∀ {n:Nat} {y:U},Rp X.K H v y→okU n x=true→eqW x y=true)→(∀ (i:Nat) (v:V) (y:U),vs[i]?=some v→ys[i]?=some y→Rp X.K H v y)→okUs n xs=true→
   ∀ (i:Nat) (x y:U),xs[i]?=some x→ys[i]?=some y→eqW x y=true:=fun {vs xs ys n} h1 ih hi ok i x y e1 e2=> by
  have hlt:i < vs.length:=by rw [h1]; exact aM e1
  exact ih i _ x (List.getElem?_eq_getElem hlt) e1 (hi i _ y (List.getElem?_eq_getElem hlt) e2) (eU ok e1)
 induction h with
 | non=> intro n y q _; cases q; rfl
 | bl b=> intro n y q _; cases q; simp [eqW]
 | int i=> intro n y q _; cases q; simp [eqW]
 | str i=> intro n y q _; cases q; simp [eqW]
 | ty=> intro n y q ok; simp [okU] at ok
 | dic=> intro n y q ok; simp [okU] at ok
 | xc=> intro n y q ok; simp [okU] at ok
 | @scr a vs xs hq hl hi ih=>
  intro n y q ok
  cases n with
  | zero=> simp [okU] at ok
  | succ n=>
   rw [okU] at ok
   cases q with
   | scr hq' hl' hi'=> rw [eqW]; have e:=I.list_inj hq hq'; subst e; exact key rfl hl hl' (key2 hl (fun i v x a b=> ih i v x a b) hi' ok)
   | lst hq' hl' hi'=> rw [eqW]; have e:=I.list_inj hq (SqL.of hq'); subst e; exact key rfl hl hl' (key2 hl (fun i v x a b=> ih i v x a b) hi' ok)
   | xc hq' kk=>
    exfalso
    obtain ⟨_,_,pl,_⟩:=I.list hq
    obtain ⟨o,n,e,c,_⟩:=pl
    exact PySem.W.XcOk.off (I.hok _ _ hq').1 e c
   | dic hq'=>
    exfalso
    obtain ⟨_,_,pl,_⟩:=I.list hq
    obtain ⟨o,n,e,c,_⟩:=pl
    obtain ⟨_,_,_,_,o',_,_,e',ex,_⟩:=I.hok _ _ hq'
    rw [e] at e'; cases e'
    rw [ex.1] at c; exact absurd (Value.type.inj c) (by decide)
   | tup hq' hl' hi'=>
    exfalso
    obtain ⟨_,_,pl,_⟩:=I.list hq
    obtain ⟨_,_,pt,_⟩:=I.tuple hq'
    exact SeqAt.ne_of_list_tuple pl.isList pt rfl
 | @tup a vs xs hq hl hi ih=>
  intro n y q ok
  cases n with
  | zero=> simp [okU] at ok
  | succ n=>
   rw [okU] at ok
   cases q with
   | tup hq' hl' hi'=> rw [eqW]; have e:=I.tuple_inj hq hq'; subst e; exact key rfl hl hl' (key2 hl (fun i v x a b=> ih i v x a b) hi' ok)
   | scr hq' hl' hi'=>
    exfalso
    obtain ⟨_,_,pl,_⟩:=I.list hq'
    obtain ⟨_,_,pt,_⟩:=I.tuple hq
    exact SeqAt.ne_of_list_tuple pl.isList pt rfl
   | lst hq' hl' hi'=>
    exfalso
    obtain ⟨_,_,pl,_⟩:=I.list (SqL.of hq')
    obtain ⟨_,_,pt,_⟩:=I.tuple hq
    exact SeqAt.ne_of_list_tuple pl.isList pt rfl
   | xc hq' kk=>
    exfalso
    obtain ⟨_,_,pt,_⟩:=I.tuple hq
    obtain ⟨o,e,c,_⟩:=pt
    exact PySem.W.XcOk.off (I.hok _ _ hq').1 e c
   | dic hq'=>
    exfalso
    obtain ⟨_,_,pt,_⟩:=I.tuple hq
    obtain ⟨o,e,c,_⟩:=pt
    obtain ⟨_,_,_,_,o',_,_,e',ex,_⟩:=I.hok _ _ hq'
    rw [e] at e'; cases e'
    rw [ex.1] at c; exact absurd (Value.type.inj c) (by decide)
 | @lst a vs xs hq hl hi ih=>
  intro n y q ok
  cases n with
  | zero=> simp [okU] at ok
  | succ n=>
   rw [okU] at ok
   cases q with
   | lst hq' hl' hi'=> rw [eqW]; have e:=I.list_inj (SqL.of hq) (SqL.of hq'); subst e; exact key rfl hl hl' (key2 hl (fun i v x a b=> ih i v x a b) hi' ok)
   | scr hq' hl' hi'=> rw [eqW]; have e:=I.list_inj (SqL.of hq) hq'; subst e; exact key rfl hl hl' (key2 hl (fun i v x a b=> ih i v x a b) hi' ok)
   | tup hq' hl' hi'=>
    exfalso
    obtain ⟨_,_,pl,_⟩:=I.list (SqL.of hq)
    obtain ⟨_,_,pt,_⟩:=I.tuple hq'
    exact SeqAt.ne_of_list_tuple pl.isList pt rfl
   | xc hq' kk=>
    exfalso
    rw [hq] at hq'; cases hq'
   | dic hq'=>
    exfalso
    rw [hq] at hq'; cases hq'
theorem IsU.list {X:Cx} {pins:List (Addr×Obj)} {σ:St} {H:Hp} {s:Shared} (I:Inv X pins σ H s) {a:Addr} {xs:List U} {vs:List V} (h:SqL X.K H a vs) (hl:vs.length=xs.length):∃ its:List Value,aq vs its∧s.heap.IsList a its.toArray∧its.length=xs.length:=by
 obtain ⟨its,r,pl,_⟩:=I.list h
 exact ⟨its,r,pl.isList,by rw [← r.length,hl]⟩
theorem IsU.tup {X:Cx} {pins:List (Addr×Obj)} {σ:St} {H:Hp} {s:Shared} (I:Inv X pins σ H s) {a:Addr} {xs:List U} {vs:List V} (h:SqT X.K H a vs) (hl:vs.length=xs.length):∃ its:List Value,aq vs its∧IsTup s.heap a its.toArray∧its.length=xs.length:=by
 obtain ⟨its,r,pl,_⟩:=I.tuple h
 exact ⟨its,r,pl,by rw [← r.length,hl]⟩
section
variable {X:Cx} {pins:List (Addr×Obj)} {σ:St} {H:Hp} {s:Shared}
theorem bC (I:Inv X pins σ H s) {n:Nat} {vs ws:List V} {xs ys:List U} {its its2:List Value} (r1:aq vs its) (r2:aq ws its2) (hl1:vs.length=xs.length) (hl2:ws.length=ys.length)
  (h1:∀ (i:Nat) (v:V) (x:U),vs[i]?=some v→xs[i]?=some x→Rp X.K H v x) (h2:∀ (i:Nat) (v:V) (x:U),ws[i]?=some v→ys[i]?=some x→Rp X.K H v x) (ok1:okUs n xs=true) (ok2:okUs n ys=true) {A:Around}
  (rc0:∀ (x y:U) (v w:V) (p q:Value),Rp X.K H v x→Rp X.K H w y→aK v p→aK w q→okU n x=true→okU n y=true→SeqAt.RcAt A.in1 s p q (eqW x y)) (hu:A.units+n+1 < cLine)
  (j:Nat) (j1:j < its.length) (j2:j < its2.length):SeqAt.EqAt A.in1 s its[j] its2[j] (eqW (xs.getD j .non) (ys.getD j .non)):=by
 have a1:j < vs.length:=by rw [r1.length]; exact j1
 have a2:j < ws.length:=by rw [r2.length]; exact j2
 have b1:j < xs.length:=by omega
 have b2:j < ys.length:=by omega
 rw [List.getD_eq_getElem?_getD,List.getElem?_eq_getElem b1,List.getD_eq_getElem?_getD,List.getElem?_eq_getElem b2,Option.getD_some,Option.getD_some]
 have R1:=h1 j vs[j] xs[j] (List.getElem?_eq_getElem a1) (List.getElem?_eq_getElem b1)
 have R2:=h2 j ws[j] ys[j] (List.getElem?_eq_getElem a2) (List.getElem?_eq_getElem b2)
 obtain ⟨u1,e1,q1⟩:=r1.get (List.getElem?_eq_getElem a1)
 obtain ⟨u2,e2,q2⟩:=r2.get (List.getElem?_eq_getElem a2)
 rw [List.getElem?_eq_getElem j1] at e1
 rw [List.getElem?_eq_getElem j2] at e2
 cases e1; cases e2
 have o1:=eU ok1 (List.getElem?_eq_getElem b1)
 have o2:=eU ok2 (List.getElem?_eq_getElem b2)
 generalize vs[j]=v at *
 generalize ws[j]=w at *
 generalize its[j]=p at *
 generalize its2[j]=q at *
 generalize xs[j]=x at *
 generalize ys[j]=y at *
 have main:=rc0 x y v w p q R1 R2 q1 q2 o1 o2
 have ref_ref:∀ (a b:Addr),p=.ref a→q=.ref b→SeqAt.EqAt A.in1 s p q (eqW x y):=fun a b ea eb=> by
  subst ea eb
  by_cases e:a=b
  ·subst e
   have e2:v=w:=q1.inj q2
   subst e2
   rw [R1.one I R2 o1]
   exact SeqAt.EqAt.same _
  ·exact SeqAt.EqAt.of_refs e main
 have hu1:A.in1.units < cLine:=by show A.units+1 < _; omega
 cases R1 with
 | non=>
  cases (show p=Value.none from q1)
  cases R2 with
  | non=> cases (show q=Value.none from q2); exact SeqAt.EqAt.same _
  | bl b=> cases (show q=Value.bool b from q2); exact SeqAt.EqAt.none_bool b
  | int i=> obtain ⟨t,rfl⟩:=(show ∃ t,q=Value.int i t from q2); exact SeqAt.EqAt.none_int i t
  | str i=> obtain ⟨t,rfl⟩:=(show ∃ t,q=Value.str i t from q2); exact SeqAt.EqAt.none_str i t
  | ty=> simp [okU] at o2
  | dic=> simp [okU] at o2
  | xc=> simp [okU] at o2
  | scr hq hl hi=> cases q2; obtain ⟨_,_,pl,_⟩:=IsU.list I hq hl; exact SeqAt.EqAt.none_list pl hu1
  | tup hq hl hi=> cases q2; obtain ⟨_,_,pl,_⟩:=IsU.tup I hq hl; exact SeqAt.EqAt.none_tuple pl hu1
  | lst hq hl hi=> cases q2; obtain ⟨_,_,pl,_⟩:=IsU.list I (SqL.of hq) hl; exact SeqAt.EqAt.none_list pl hu1
 | bl c=>
  cases (show p=Value.bool c from q1)
  cases R2 with
  | non=> cases (show q=Value.none from q2); exact SeqAt.EqAt.bool_none c
  | bl b=> cases (show q=Value.bool b from q2); exact SeqAt.EqAt.bool_bool c b
  | int i=> obtain ⟨t,rfl⟩:=(show ∃ t,q=Value.int i t from q2); exact SeqAt.EqAt.bool_int c i t
  | str i=> obtain ⟨t,rfl⟩:=(show ∃ t,q=Value.str i t from q2); exact SeqAt.EqAt.bool_str c i t
  | ty=> simp [okU] at o2
  | dic=> simp [okU] at o2
  | xc=> simp [okU] at o2
  | scr hq hl hi=> cases q2; obtain ⟨_,_,pl,_⟩:=IsU.list I hq hl; exact SeqAt.EqAt.bool_list c pl hu1
  | tup hq hl hi=> cases q2; obtain ⟨_,_,pl,_⟩:=IsU.tup I hq hl; exact SeqAt.EqAt.bool_tuple c pl hu1
  | lst hq hl hi=> cases q2; obtain ⟨_,_,pl,_⟩:=IsU.list I (SqL.of hq) hl; exact SeqAt.EqAt.bool_list c pl hu1
 | int c=>
  obtain ⟨t0,rfl⟩:=(show ∃ t,p=Value.int c t from q1)
  cases R2 with
  | non=> cases (show q=Value.none from q2); exact SeqAt.EqAt.int_none c t0
  | bl b=> cases (show q=Value.bool b from q2); exact SeqAt.EqAt.int_bool c t0 b
  | int i=> obtain ⟨t,rfl⟩:=(show ∃ t,q=Value.int i t from q2); exact SeqAt.EqAt.int_int c t0 i t
  | str i=> obtain ⟨t,rfl⟩:=(show ∃ t,q=Value.str i t from q2); exact SeqAt.EqAt.int_str c t0 i t
  | ty=> simp [okU] at o2
  | dic=> simp [okU] at o2
  | xc=> simp [okU] at o2
  | scr hq hl hi=> cases q2; obtain ⟨_,_,pl,_⟩:=IsU.list I hq hl; exact SeqAt.EqAt.int_list c t0 pl hu1
  | tup hq hl hi=> cases q2; obtain ⟨_,_,pl,_⟩:=IsU.tup I hq hl; exact SeqAt.EqAt.int_tuple c t0 pl hu1
  | lst hq hl hi=> cases q2; obtain ⟨_,_,pl,_⟩:=IsU.list I (SqL.of hq) hl; exact SeqAt.EqAt.int_list c t0 pl hu1
 | str c=>
  obtain ⟨t0,rfl⟩:=(show ∃ t,p=Value.str c t from q1)
  cases R2 with
  | non=> cases (show q=Value.none from q2); exact SeqAt.EqAt.str_none c t0
  | bl b=> cases (show q=Value.bool b from q2); exact SeqAt.EqAt.str_bool c t0 b
  | int i=> obtain ⟨t,rfl⟩:=(show ∃ t,q=Value.int i t from q2); exact SeqAt.EqAt.str_int c t0 i t
  | str i=> obtain ⟨t,rfl⟩:=(show ∃ t,q=Value.str i t from q2); exact SeqAt.EqAt.str_str c t0 i t
  | ty=> simp [okU] at o2
  | dic=> simp [okU] at o2
  | xc=> simp [okU] at o2
  | scr hq hl hi=> cases q2; obtain ⟨_,_,pl,_⟩:=IsU.list I hq hl; exact SeqAt.EqAt.str_list c t0 pl hu1
  | tup hq hl hi=> cases q2; obtain ⟨_,_,pl,_⟩:=IsU.tup I hq hl; exact SeqAt.EqAt.str_tuple c t0 pl hu1
  | lst hq hl hi=> cases q2; obtain ⟨_,_,pl,_⟩:=IsU.list I (SqL.of hq) hl; exact SeqAt.EqAt.str_list c t0 pl hu1
 | ty=> simp [okU] at o1
 | dic=> simp [okU] at o1
 | xc=> simp [okU] at o1
 | @scr a vs xs hq hl hi=>
  cases q1
  obtain ⟨_,_,pl,_⟩:=IsU.list I hq hl
  cases R2 with
  | non=> cases (show q=Value.none from q2); exact SeqAt.EqAt.list_none pl hu1
  | bl b=> cases (show q=Value.bool b from q2); exact SeqAt.EqAt.list_bool b pl hu1
  | int i=> obtain ⟨t,rfl⟩:=(show ∃ t,q=Value.int i t from q2); exact SeqAt.EqAt.list_int i t pl hu1
  | str i=> obtain ⟨t,rfl⟩:=(show ∃ t,q=Value.str i t from q2); exact SeqAt.EqAt.list_str i t pl hu1
  | ty=> simp [okU] at o2
  | dic=> simp [okU] at o2
  | xc=> simp [okU] at o2
  | scr=> exact ref_ref _ _ rfl q2
  | tup=> exact ref_ref _ _ rfl q2
  | lst=> exact ref_ref _ _ rfl q2
 | @lst a vs xs hq hl hi=>
  cases q1
  obtain ⟨_,_,pl,_⟩:=IsU.list I (SqL.of hq) hl
  cases R2 with
  | non=> cases (show q=Value.none from q2); exact SeqAt.EqAt.list_none pl hu1
  | bl b=> cases (show q=Value.bool b from q2); exact SeqAt.EqAt.list_bool b pl hu1
  | int i=> obtain ⟨t,rfl⟩:=(show ∃ t,q=Value.int i t from q2); exact SeqAt.EqAt.list_int i t pl hu1
  | str i=> obtain ⟨t,rfl⟩:=(show ∃ t,q=Value.str i t from q2); exact SeqAt.EqAt.list_str i t pl hu1
  | ty=> simp [okU] at o2
  | dic=> simp [okU] at o2
  | xc=> simp [okU] at o2
  | scr=> exact ref_ref _ _ rfl q2
  | tup=> exact ref_ref _ _ rfl q2
  | lst=> exact ref_ref _ _ rfl q2
 | @tup a vs xs hq hl hi=>
  cases q1
  obtain ⟨_,_,pl,_⟩:=IsU.tup I hq hl
  cases R2 with
  | non=> cases (show q=Value.none from q2); exact SeqAt.EqAt.tuple_none pl hu1
  | bl b=> cases (show q=Value.bool b from q2); exact SeqAt.EqAt.tuple_bool b pl hu1
  | int i=> obtain ⟨t,rfl⟩:=(show ∃ t,q=Value.int i t from q2); exact SeqAt.EqAt.tuple_int i t pl hu1
  | str i=> obtain ⟨t,rfl⟩:=(show ∃ t,q=Value.str i t from q2); exact SeqAt.EqAt.tuple_str i t pl hu1
  | ty=> simp [okU] at o2
  | dic=> simp [okU] at o2
  | xc=> simp [okU] at o2
  | scr=> exact ref_ref _ _ rfl q2
  | tup=> exact ref_ref _ _ rfl q2
  | lst=> exact ref_ref _ _ rfl q2
theorem dW {A:Around} {n:Nat} {a b:Addr} {xs ys:List U} {its its2:List Value} (p1:s.heap.IsList a its.toArray) (p2:s.heap.IsList b its2.toArray) (l1:its.length=xs.length) (l2:its2.length=ys.length) (hu:A.units+n < cLine)
  (he:∀ (j:Nat) (j1:j < its.length) (j2:j < its2.length),SeqAt.EqAt A.in1 s its[j] its2[j] (eqW (xs.getD j .non) (ys.getD j .non))):SeqAt.RcAt A s (.ref a) (.ref b) (eqWs xs ys):=by
 by_cases hl:its.length=its2.length
 ·have:=SeqAt.RcAt.lists (A:=A) (s:=s) (e:=fun j=> eqW (xs.getD j .non) (ys.getD j .non)) p1 p2 (by simpa using hl) (by omega) (fun j h1 h2=> by simpa using he j (by simpa using h1) (by simpa using h2))
  rw [← bV,← l1,← l2,hl,Nat.min_self,beq_self_eq_true,Bool.and_true]
  rwa [List.size_toArray,hl] at this
 ·have:=SeqAt.RcAt.lists_lengths (A:=A) (s:=s) p1 p2 (by simpa using hl) (by omega)
  rw [← bV,← l1,← l2,show (its.length==its2.length)=false by simpa using hl,Bool.and_false]
  exact this
theorem nR {A:Around} {n:Nat} {a b:Addr} {xs ys:List U} {its its2:List Value} (p1:IsTup s.heap a its.toArray) (p2:IsTup s.heap b its2.toArray) (l1:its.length=xs.length) (l2:its2.length=ys.length) (hu:A.units+n < cLine)
  (he:∀ (j:Nat) (j1:j < its.length) (j2:j < its2.length),SeqAt.EqAt A.in1 s its[j] its2[j] (eqW (xs.getD j .non) (ys.getD j .non))):SeqAt.RcAt A s (.ref a) (.ref b) (eqWs xs ys):=by
 have:=SeqAt.RcAt.tuples (A:=A) (s:=s) (e:=fun j=> eqW (xs.getD j .non) (ys.getD j .non)) p1 p2 (by omega) (fun j h1 h2=> by simpa using he j (by simpa using h1) (by simpa using h2))
 rw [List.size_toArray,List.size_toArray,l1,l2,bV] at this
 exact this
theorem qO (I:Inv X pins σ H s):∀ (n:Nat) (A:Around) (x y:U) (v w:V) (p q:Value),Rp X.K H v x→Rp X.K H w y→aK v p→aK w q→okU n x=true→okU n y=true→A.units+n < cLine→SeqAt.RcAt A s p q (eqW x y):=by
 intro n
 induction n with
 | zero=>
  intro A x y v w p q R1 R2 q1 q2 o1 o2 hu
  cases R1 with
  | non=>
   cases (show p=Value.none from q1)
   cases R2 with
   | non=> cases (show q=Value.none from q2); exact SeqAt.RcAt.none_none
   | bl b=> cases (show q=Value.bool b from q2); exact SeqAt.RcAt.none_bool b
   | int i=> obtain ⟨t,rfl⟩:=(show ∃ t,q=Value.int i t from q2); exact SeqAt.RcAt.none_int i t
   | str i=> obtain ⟨t,rfl⟩:=(show ∃ t,q=Value.str i t from q2); exact SeqAt.RcAt.none_str i t
   | _=> simp [okU] at o2
  | bl c=>
   cases (show p=Value.bool c from q1)
   cases R2 with
   | non=> cases (show q=Value.none from q2); exact SeqAt.RcAt.bool_none c
   | bl b=> cases (show q=Value.bool b from q2); exact SeqAt.RcAt.bool_bool c b
   | int i=> obtain ⟨t,rfl⟩:=(show ∃ t,q=Value.int i t from q2); exact SeqAt.RcAt.bool_int c i t
   | str i=> obtain ⟨t,rfl⟩:=(show ∃ t,q=Value.str i t from q2); exact SeqAt.RcAt.bool_str c i t
   | _=> simp [okU] at o2
  | int c=>
   obtain ⟨t0,rfl⟩:=(show ∃ t,p=Value.int c t from q1)
   cases R2 with
   | non=> cases (show q=Value.none from q2); exact SeqAt.RcAt.int_none c t0
   | bl b=> cases (show q=Value.bool b from q2); exact SeqAt.RcAt.int_bool c t0 b
   | int i=> obtain ⟨t,rfl⟩:=(show ∃ t,q=Value.int i t from q2); exact SeqAt.RcAt.int_int c t0 i t
   | str i=> obtain ⟨t,rfl⟩:=(show ∃ t,q=Value.str i t from q2); exact SeqAt.RcAt.int_str c t0 i t
   | _=> simp [okU] at o2
  | str c=>
   obtain ⟨t0,rfl⟩:=(show ∃ t,p=Value.str c t from q1)
   cases R2 with
   | non=> cases (show q=Value.none from q2); exact SeqAt.RcAt.str_none c t0
   | bl b=> cases (show q=Value.bool b from q2); exact SeqAt.RcAt.str_bool c t0 b
   | int i=> obtain ⟨t,rfl⟩:=(show ∃ t,q=Value.int i t from q2); exact SeqAt.RcAt.str_int c t0 i t
   | str i=> obtain ⟨t,rfl⟩:=(show ∃ t,q=Value.str i t from q2); exact SeqAt.RcAt.str_str c t0 i t
   | _=> simp [okU] at o2
  | _=> simp [okU] at o1
 | succ n ih=>
  intro A x y v w p q R1 R2 q1 q2 o1 o2 hu
  have hu1:A.units < cLine:=by omega
  have rc0:∀ (x y:U) (v w:V) (p q:Value),Rp X.K H v x→Rp X.K H w y→aK v p→aK w q→okU n x=true→okU n y=true→SeqAt.RcAt A.in1 s p q (eqW x y):=fun x y v w p q r1 r2 k1 k2 z1 z2=> ih A.in1 x y v w p q r1 r2 k1 k2 z1 z2 (by show A.units+1+n < _; omega)
  cases R1 with
  | non=>
   cases (show p=Value.none from q1)
   cases R2 with
   | non=> cases (show q=Value.none from q2); exact SeqAt.RcAt.none_none
   | bl b=> cases (show q=Value.bool b from q2); exact SeqAt.RcAt.none_bool b
   | int i=> obtain ⟨t,rfl⟩:=(show ∃ t,q=Value.int i t from q2); exact SeqAt.RcAt.none_int i t
   | str i=> obtain ⟨t,rfl⟩:=(show ∃ t,q=Value.str i t from q2); exact SeqAt.RcAt.none_str i t
   | ty=> simp [okU] at o2
   | dic=> simp [okU] at o2
   | xc=> simp [okU] at o2
   | scr hq hl hi=> cases q2; obtain ⟨_,_,pl,_⟩:=IsU.list I hq hl; exact SeqAt.RcAt.none_list pl hu1
   | tup hq hl hi=> cases q2; obtain ⟨_,_,pl,_⟩:=IsU.tup I hq hl; exact SeqAt.RcAt.none_tuple pl hu1
   | lst hq hl hi=> cases q2; obtain ⟨_,_,pl,_⟩:=IsU.list I (SqL.of hq) hl; exact SeqAt.RcAt.none_list pl hu1
  | bl c=>
   cases (show p=Value.bool c from q1)
   cases R2 with
   | non=> cases (show q=Value.none from q2); exact SeqAt.RcAt.bool_none c
   | bl b=> cases (show q=Value.bool b from q2); exact SeqAt.RcAt.bool_bool c b
   | int i=> obtain ⟨t,rfl⟩:=(show ∃ t,q=Value.int i t from q2); exact SeqAt.RcAt.bool_int c i t
   | str i=> obtain ⟨t,rfl⟩:=(show ∃ t,q=Value.str i t from q2); exact SeqAt.RcAt.bool_str c i t
   | ty=> simp [okU] at o2
   | dic=> simp [okU] at o2
   | xc=> simp [okU] at o2
   | scr hq hl hi=> cases q2; obtain ⟨_,_,pl,_⟩:=IsU.list I hq hl; exact SeqAt.RcAt.bool_list c pl hu1
   | tup hq hl hi=> cases q2; obtain ⟨_,_,pl,_⟩:=IsU.tup I hq hl; exact SeqAt.RcAt.bool_tuple c pl hu1
   | lst hq hl hi=> cases q2; obtain ⟨_,_,pl,_⟩:=IsU.list I (SqL.of hq) hl; exact SeqAt.RcAt.bool_list c pl hu1
  | int c=>
   obtain ⟨t0,rfl⟩:=(show ∃ t,p=Value.int c t from q1)
   cases R2 with
   | non=> cases (show q=Value.none from q2); exact SeqAt.RcAt.int_none c t0
   | bl b=> cases (show q=Value.bool b from q2); exact SeqAt.RcAt.int_bool c t0 b
   | int i=> obtain ⟨t,rfl⟩:=(show ∃ t,q=Value.int i t from q2); exact SeqAt.RcAt.int_int c t0 i t
   | str i=> obtain ⟨t,rfl⟩:=(show ∃ t,q=Value.str i t from q2); exact SeqAt.RcAt.int_str c t0 i t
   | ty=> simp [okU] at o2
   | dic=> simp [okU] at o2
   | xc=> simp [okU] at o2
   | scr hq hl hi=> cases q2; obtain ⟨_,_,pl,_⟩:=IsU.list I hq hl; exact SeqAt.RcAt.int_list c t0 pl hu1
   | tup hq hl hi=> cases q2; obtain ⟨_,_,pl,_⟩:=IsU.tup I hq hl; exact SeqAt.RcAt.int_tuple c t0 pl hu1
   | lst hq hl hi=> cases q2; obtain ⟨_,_,pl,_⟩:=IsU.list I (SqL.of hq) hl; exact SeqAt.RcAt.int_list c t0 pl hu1
  | str c=>
   obtain ⟨t0,rfl⟩:=(show ∃ t,p=Value.str c t from q1)
   cases R2 with
   | non=> cases (show q=Value.none from q2); exact SeqAt.RcAt.str_none c t0
   | bl b=> cases (show q=Value.bool b from q2); exact SeqAt.RcAt.str_bool c t0 b
   | int i=> obtain ⟨t,rfl⟩:=(show ∃ t,q=Value.int i t from q2); exact SeqAt.RcAt.str_int c t0 i t
   | str i=> obtain ⟨t,rfl⟩:=(show ∃ t,q=Value.str i t from q2); exact SeqAt.RcAt.str_str c t0 i t
   | ty=> simp [okU] at o2
   | dic=> simp [okU] at o2
   | xc=> simp [okU] at o2
   | scr hq hl hi=> cases q2; obtain ⟨_,_,pl,_⟩:=IsU.list I hq hl; exact SeqAt.RcAt.str_list c t0 pl hu1
   | tup hq hl hi=> cases q2; obtain ⟨_,_,pl,_⟩:=IsU.tup I hq hl; exact SeqAt.RcAt.str_tuple c t0 pl hu1
   | lst hq hl hi=> cases q2; obtain ⟨_,_,pl,_⟩:=IsU.list I (SqL.of hq) hl; exact SeqAt.RcAt.str_list c t0 pl hu1
  | ty=> simp [okU] at o1
  | dic=> simp [okU] at o1
  | xc=> simp [okU] at o1
  | @scr a vs xs hq hl hi=>
   cases q1
   obtain ⟨its,r1,pl,l1⟩:=IsU.list I hq hl
   rw [okU] at o1
   cases R2 with
   | non=> cases (show q=Value.none from q2); exact SeqAt.RcAt.list_none pl hu1
   | bl b=> cases (show q=Value.bool b from q2); exact SeqAt.RcAt.list_bool b pl hu1
   | int i=> obtain ⟨t,rfl⟩:=(show ∃ t,q=Value.int i t from q2); exact SeqAt.RcAt.list_int i t pl hu1
   | str i=> obtain ⟨t,rfl⟩:=(show ∃ t,q=Value.str i t from q2); exact SeqAt.RcAt.list_str i t pl hu1
   | ty=> simp [okU] at o2
   | dic=> simp [okU] at o2
   | xc=> simp [okU] at o2
   | scr hq' hl' hi'=> cases q2; rw [okU] at o2; obtain ⟨its2,r2,pl2,l2⟩:=IsU.list I hq' hl'; rw [eqW]; exact dW pl pl2 l1 l2 hu (bC I r1 r2 hl hl' hi hi' o1 o2 rc0 (by omega))
   | lst hq' hl' hi'=> cases q2; rw [okU] at o2; obtain ⟨its2,r2,pl2,l2⟩:=IsU.list I (SqL.of hq') hl'; rw [eqW]; exact dW pl pl2 l1 l2 hu (bC I r1 r2 hl hl' hi hi' o1 o2 rc0 (by omega))
   | tup hq' hl' hi'=> cases q2; obtain ⟨its2,r2,pl2,l2⟩:=IsU.tup I hq' hl'; exact SeqAt.RcAt.list_tuple pl pl2 hu1
  | @lst a vs xs hq hl hi=>
   cases q1
   obtain ⟨its,r1,pl,l1⟩:=IsU.list I (SqL.of hq) hl
   rw [okU] at o1
   cases R2 with
   | non=> cases (show q=Value.none from q2); exact SeqAt.RcAt.list_none pl hu1
   | bl b=> cases (show q=Value.bool b from q2); exact SeqAt.RcAt.list_bool b pl hu1
   | int i=> obtain ⟨t,rfl⟩:=(show ∃ t,q=Value.int i t from q2); exact SeqAt.RcAt.list_int i t pl hu1
   | str i=> obtain ⟨t,rfl⟩:=(show ∃ t,q=Value.str i t from q2); exact SeqAt.RcAt.list_str i t pl hu1
   | ty=> simp [okU] at o2
   | dic=> simp [okU] at o2
   | xc=> simp [okU] at o2
   | scr hq' hl' hi'=> cases q2; rw [okU] at o2; obtain ⟨its2,r2,pl2,l2⟩:=IsU.list I hq' hl'; rw [eqW]; exact dW pl pl2 l1 l2 hu (bC I r1 r2 hl hl' hi hi' o1 o2 rc0 (by omega))
   | lst hq' hl' hi'=> cases q2; rw [okU] at o2; obtain ⟨its2,r2,pl2,l2⟩:=IsU.list I (SqL.of hq') hl'; rw [eqW]; exact dW pl pl2 l1 l2 hu (bC I r1 r2 hl hl' hi hi' o1 o2 rc0 (by omega))
   | tup hq' hl' hi'=> cases q2; obtain ⟨its2,r2,pl2,l2⟩:=IsU.tup I hq' hl'; exact SeqAt.RcAt.list_tuple pl pl2 hu1
  | @tup a vs xs hq hl hi=>
   cases q1
   obtain ⟨its,r1,pl,l1⟩:=IsU.tup I hq hl
   rw [okU] at o1
   cases R2 with
   | non=> cases (show q=Value.none from q2); exact SeqAt.RcAt.tuple_none pl hu1
   | bl b=> cases (show q=Value.bool b from q2); exact SeqAt.RcAt.tuple_bool b pl hu1
   | int i=> obtain ⟨t,rfl⟩:=(show ∃ t,q=Value.int i t from q2); exact SeqAt.RcAt.tuple_int i t pl hu1
   | str i=> obtain ⟨t,rfl⟩:=(show ∃ t,q=Value.str i t from q2); exact SeqAt.RcAt.tuple_str i t pl hu1
   | ty=> simp [okU] at o2
   | dic=> simp [okU] at o2
   | xc=> simp [okU] at o2
   | scr hq' hl' hi'=> cases q2; obtain ⟨its2,r2,pl2,l2⟩:=IsU.list I hq' hl'; exact SeqAt.RcAt.tuple_list pl pl2 hu1
   | lst hq' hl' hi'=> cases q2; obtain ⟨its2,r2,pl2,l2⟩:=IsU.list I (SqL.of hq') hl'; exact SeqAt.RcAt.tuple_list pl pl2 hu1
   | tup hq' hl' hi'=> cases q2; rw [okU] at o2; obtain ⟨its2,r2,pl2,l2⟩:=IsU.tup I hq' hl'; rw [eqW]; exact nR pl pl2 l1 l2 hu (bC I r1 r2 hl hl' hi hi' o1 o2 rc0 (by omega))
end
end L2
namespace L2
open PySem PySem.Spec PyProof.Rows
section
variable {X:Cx} {pins:List (Addr×Obj)} {σ:St} {H:Hp} {s:Shared}
theorem cO {A:Around} {n:Nat} {a b:Addr} {xs ys:List U} {its its2:List Value} (p1:s.heap.IsList a its.toArray) (p2:s.heap.IsList b its2.toArray) (l1:its.length=xs.length) (l2:its2.length=ys.length) (hu:A.units+n < cLine)
  (he:∀ (j:Nat) (j1:j < its.length) (j2:j < its2.length),SeqAt.EqAt A.in1 s its[j] its2[j] (eqW (xs.getD j .non) (ys.getD j .non))):SeqAt.RcNeAt A s (.ref a) (.ref b) (!eqWs xs ys):=by
 by_cases hl:its.length=its2.length
 ·have:=SeqAt.RcNeAt.lists (A:=A) (s:=s) (e:=fun j=> eqW (xs.getD j .non) (ys.getD j .non)) p1 p2 (by simpa using hl) (by omega) (fun j h1 h2=> by simpa using he j (by simpa using h1) (by simpa using h2))
  rw [← bV,← l1,← l2,hl,Nat.min_self,beq_self_eq_true,Bool.and_true]
  rwa [List.size_toArray,hl] at this
 ·have:=SeqAt.RcNeAt.lists_lengths (A:=A) (s:=s) p1 p2 (by simpa using hl) (by omega)
  rw [← bV,← l1,← l2,show (its.length==its2.length)=false by simpa using hl,Bool.and_false]
  exact this
theorem kg {A:Around} {n:Nat} {a b:Addr} {xs ys:List U} {its its2:List Value} (p1:IsTup s.heap a its.toArray) (p2:IsTup s.heap b its2.toArray) (l1:its.length=xs.length) (l2:its2.length=ys.length) (hu:A.units+n < cLine)
  (he:∀ (j:Nat) (j1:j < its.length) (j2:j < its2.length),SeqAt.EqAt A.in1 s its[j] its2[j] (eqW (xs.getD j .non) (ys.getD j .non))):SeqAt.RcNeAt A s (.ref a) (.ref b) (!eqWs xs ys):=by
 have:=SeqAt.RcNeAt.tuples (A:=A) (s:=s) (e:=fun j=> eqW (xs.getD j .non) (ys.getD j .non)) p1 p2 (by omega) (fun j h1 h2=> by simpa using he j (by simpa using h1) (by simpa using h2))
 rw [List.size_toArray,List.size_toArray,l1,l2,bV] at this
 exact this
theorem pT (I:Inv X pins σ H s) (n:Nat) (A:Around) (x y:U) (v w:V) (p q:Value) (R1:Rp X.K H v x) (R2:Rp X.K H w y) (q1:aK v p) (q2:aK w q) (o1:okU (n+1) x=true) (o2:okU (n+1) y=true) (hu:A.units+(n+1) < cLine):SeqAt.RcNeAt A s p q (!eqW x y):=by
 have hu1:A.units < cLine:=by omega
 have rc0:∀ (x y:U) (v w:V) (p q:Value),Rp X.K H v x→Rp X.K H w y→aK v p→aK w q→okU n x=true→okU n y=true→SeqAt.RcAt A.in1 s p q (eqW x y):=fun x y v w p q r1 r2 k1 k2 z1 z2=> qO I n A.in1 x y v w p q r1 r2 k1 k2 z1 z2 (by show A.units+1+n < _; omega)
 cases R1 with
 | ty=> simp [okU] at o1
 | dic=> simp [okU] at o1
 | xc=> simp [okU] at o1
 | non=>
  cases (show p=Value.none from q1)
  cases R2 with
  | ty=> simp [okU] at o2
  | dic=> simp [okU] at o2
  | xc=> simp [okU] at o2
  | non=> cases (show q=Value.none from q2); exact SeqAt.RcNeAt.none_none
  | bl c2=> cases (show q=Value.bool c2 from q2); exact SeqAt.RcNeAt.none_bool c2
  | int c2=> obtain ⟨t2,rfl⟩:=(show ∃ t,q=Value.int c2 t from q2); exact SeqAt.RcNeAt.none_int c2 t2
  | str c2=> obtain ⟨t2,rfl⟩:=(show ∃ t,q=Value.str c2 t from q2); exact SeqAt.RcNeAt.none_str c2 t2
  | scr hq2 hl2 hi2=> cases q2; obtain ⟨its2,r2,pl2,l2⟩:=IsU.list I hq2 hl2; exact SeqAt.RcNeAt.none_list pl2 hu1
  | tup hq2 hl2 hi2=> cases q2; obtain ⟨its2,r2,pl2,l2⟩:=IsU.tup I hq2 hl2; exact SeqAt.RcNeAt.none_tuple pl2 hu1
  | lst hq2 hl2 hi2=> cases q2; obtain ⟨its2,r2,pl2,l2⟩:=IsU.list I (SqL.of hq2) hl2; exact SeqAt.RcNeAt.none_list pl2 hu1
 | bl c1=>
  cases (show p=Value.bool c1 from q1)
  cases R2 with
  | ty=> simp [okU] at o2
  | dic=> simp [okU] at o2
  | xc=> simp [okU] at o2
  | non=> cases (show q=Value.none from q2); exact SeqAt.RcNeAt.bool_none c1
  | bl c2=> cases (show q=Value.bool c2 from q2); exact SeqAt.RcNeAt.bool_bool c1 c2
  | int c2=> obtain ⟨t2,rfl⟩:=(show ∃ t,q=Value.int c2 t from q2); exact SeqAt.RcNeAt.bool_int c1 c2 t2
  | str c2=> obtain ⟨t2,rfl⟩:=(show ∃ t,q=Value.str c2 t from q2); exact SeqAt.RcNeAt.bool_str c1 c2 t2
  | scr hq2 hl2 hi2=> cases q2; obtain ⟨its2,r2,pl2,l2⟩:=IsU.list I hq2 hl2; exact SeqAt.RcNeAt.bool_list c1 pl2 hu1
  | tup hq2 hl2 hi2=> cases q2; obtain ⟨its2,r2,pl2,l2⟩:=IsU.tup I hq2 hl2; exact SeqAt.RcNeAt.bool_tuple c1 pl2 hu1
  | lst hq2 hl2 hi2=> cases q2; obtain ⟨its2,r2,pl2,l2⟩:=IsU.list I (SqL.of hq2) hl2; exact SeqAt.RcNeAt.bool_list c1 pl2 hu1
 | int c1=>
  obtain ⟨t1,rfl⟩:=(show ∃ t,p=Value.int c1 t from q1)
  cases R2 with
  | ty=> simp [okU] at o2
  | dic=> simp [okU] at o2
  | xc=> simp [okU] at o2
  | non=> cases (show q=Value.none from q2); exact SeqAt.RcNeAt.int_none c1 t1
  | bl c2=> cases (show q=Value.bool c2 from q2); exact SeqAt.RcNeAt.int_bool c1 t1 c2
  | int c2=> obtain ⟨t2,rfl⟩:=(show ∃ t,q=Value.int c2 t from q2); exact SeqAt.RcNeAt.int_int c1 t1 c2 t2
  | str c2=> obtain ⟨t2,rfl⟩:=(show ∃ t,q=Value.str c2 t from q2); exact SeqAt.RcNeAt.int_str c1 t1 c2 t2
  | scr hq2 hl2 hi2=> cases q2; obtain ⟨its2,r2,pl2,l2⟩:=IsU.list I hq2 hl2; exact SeqAt.RcNeAt.int_list c1 t1 pl2 hu1
  | tup hq2 hl2 hi2=> cases q2; obtain ⟨its2,r2,pl2,l2⟩:=IsU.tup I hq2 hl2; exact SeqAt.RcNeAt.int_tuple c1 t1 pl2 hu1
  | lst hq2 hl2 hi2=> cases q2; obtain ⟨its2,r2,pl2,l2⟩:=IsU.list I (SqL.of hq2) hl2; exact SeqAt.RcNeAt.int_list c1 t1 pl2 hu1
 | str c1=>
  obtain ⟨t1,rfl⟩:=(show ∃ t,p=Value.str c1 t from q1)
  cases R2 with
  | ty=> simp [okU] at o2
  | dic=> simp [okU] at o2
  | xc=> simp [okU] at o2
  | non=> cases (show q=Value.none from q2); exact SeqAt.RcNeAt.str_none c1 t1
  | bl c2=> cases (show q=Value.bool c2 from q2); exact SeqAt.RcNeAt.str_bool c1 t1 c2
  | int c2=> obtain ⟨t2,rfl⟩:=(show ∃ t,q=Value.int c2 t from q2); exact SeqAt.RcNeAt.str_int c1 t1 c2 t2
  | str c2=> obtain ⟨t2,rfl⟩:=(show ∃ t,q=Value.str c2 t from q2); exact SeqAt.RcNeAt.str_str c1 t1 c2 t2
  | scr hq2 hl2 hi2=> cases q2; obtain ⟨its2,r2,pl2,l2⟩:=IsU.list I hq2 hl2; exact SeqAt.RcNeAt.str_list c1 t1 pl2 hu1
  | tup hq2 hl2 hi2=> cases q2; obtain ⟨its2,r2,pl2,l2⟩:=IsU.tup I hq2 hl2; exact SeqAt.RcNeAt.str_tuple c1 t1 pl2 hu1
  | lst hq2 hl2 hi2=> cases q2; obtain ⟨its2,r2,pl2,l2⟩:=IsU.list I (SqL.of hq2) hl2; exact SeqAt.RcNeAt.str_list c1 t1 pl2 hu1
 | scr hq1 hl1 hi1=>
  cases q1; obtain ⟨its1,r1,pl1,l1⟩:=IsU.list I hq1 hl1
  cases R2 with
  | ty=> simp [okU] at o2
  | dic=> simp [okU] at o2
  | xc=> simp [okU] at o2
  | non=> cases (show q=Value.none from q2); exact SeqAt.RcNeAt.list_none pl1 hu1
  | bl c2=> cases (show q=Value.bool c2 from q2); exact SeqAt.RcNeAt.list_bool c2 pl1 hu1
  | int c2=> obtain ⟨t2,rfl⟩:=(show ∃ t,q=Value.int c2 t from q2); exact SeqAt.RcNeAt.list_int c2 t2 pl1 hu1
  | str c2=> obtain ⟨t2,rfl⟩:=(show ∃ t,q=Value.str c2 t from q2); exact SeqAt.RcNeAt.list_str c2 t2 pl1 hu1
  | scr hq2 hl2 hi2=> cases q2; obtain ⟨its2,r2,pl2,l2⟩:=IsU.list I hq2 hl2; rw [okU] at o1; rw [okU] at o2; rw [eqW]; exact cO pl1 pl2 l1 l2 hu (bC I r1 r2 hl1 hl2 hi1 hi2 o1 o2 rc0 (by omega))
  | tup hq2 hl2 hi2=> cases q2; obtain ⟨its2,r2,pl2,l2⟩:=IsU.tup I hq2 hl2; exact SeqAt.RcNeAt.list_tuple pl1 pl2 hu1
  | lst hq2 hl2 hi2=> cases q2; obtain ⟨its2,r2,pl2,l2⟩:=IsU.list I (SqL.of hq2) hl2; rw [okU] at o1; rw [okU] at o2; rw [eqW]; exact cO pl1 pl2 l1 l2 hu (bC I r1 r2 hl1 hl2 hi1 hi2 o1 o2 rc0 (by omega))
 | tup hq1 hl1 hi1=>
  cases q1; obtain ⟨its1,r1,pl1,l1⟩:=IsU.tup I hq1 hl1
  cases R2 with
  | ty=> simp [okU] at o2
  | dic=> simp [okU] at o2
  | xc=> simp [okU] at o2
  | non=> cases (show q=Value.none from q2); exact SeqAt.RcNeAt.tuple_none pl1 hu1
  | bl c2=> cases (show q=Value.bool c2 from q2); exact SeqAt.RcNeAt.tuple_bool c2 pl1 hu1
  | int c2=> obtain ⟨t2,rfl⟩:=(show ∃ t,q=Value.int c2 t from q2); exact SeqAt.RcNeAt.tuple_int c2 t2 pl1 hu1
  | str c2=> obtain ⟨t2,rfl⟩:=(show ∃ t,q=Value.str c2 t from q2); exact SeqAt.RcNeAt.tuple_str c2 t2 pl1 hu1
  | scr hq2 hl2 hi2=> cases q2; obtain ⟨its2,r2,pl2,l2⟩:=IsU.list I hq2 hl2; exact SeqAt.RcNeAt.tuple_list pl1 pl2 hu1
  | tup hq2 hl2 hi2=> cases q2; obtain ⟨its2,r2,pl2,l2⟩:=IsU.tup I hq2 hl2; rw [okU] at o1; rw [okU] at o2; rw [eqW]; exact kg pl1 pl2 l1 l2 hu (bC I r1 r2 hl1 hl2 hi1 hi2 o1 o2 rc0 (by omega))
  | lst hq2 hl2 hi2=> cases q2; obtain ⟨its2,r2,pl2,l2⟩:=IsU.list I (SqL.of hq2) hl2; exact SeqAt.RcNeAt.tuple_list pl1 pl2 hu1
 | lst hq1 hl1 hi1=>
  cases q1; obtain ⟨its1,r1,pl1,l1⟩:=IsU.list I (SqL.of hq1) hl1
  cases R2 with
  | ty=> simp [okU] at o2
  | dic=> simp [okU] at o2
  | xc=> simp [okU] at o2
  | non=> cases (show q=Value.none from q2); exact SeqAt.RcNeAt.list_none pl1 hu1
  | bl c2=> cases (show q=Value.bool c2 from q2); exact SeqAt.RcNeAt.list_bool c2 pl1 hu1
  | int c2=> obtain ⟨t2,rfl⟩:=(show ∃ t,q=Value.int c2 t from q2); exact SeqAt.RcNeAt.list_int c2 t2 pl1 hu1
  | str c2=> obtain ⟨t2,rfl⟩:=(show ∃ t,q=Value.str c2 t from q2); exact SeqAt.RcNeAt.list_str c2 t2 pl1 hu1
  | scr hq2 hl2 hi2=> cases q2; obtain ⟨its2,r2,pl2,l2⟩:=IsU.list I hq2 hl2; rw [okU] at o1; rw [okU] at o2; rw [eqW]; exact cO pl1 pl2 l1 l2 hu (bC I r1 r2 hl1 hl2 hi1 hi2 o1 o2 rc0 (by omega))
  | tup hq2 hl2 hi2=> cases q2; obtain ⟨its2,r2,pl2,l2⟩:=IsU.tup I hq2 hl2; exact SeqAt.RcNeAt.list_tuple pl1 pl2 hu1
  | lst hq2 hl2 hi2=> cases q2; obtain ⟨its2,r2,pl2,l2⟩:=IsU.list I (SqL.of hq2) hl2; rw [okU] at o1; rw [okU] at o2; rw [eqW]; exact cO pl1 pl2 l1 l2 hu (bC I r1 r2 hl1 hl2 hi1 hi2 o1 o2 rc0 (by omega))
end
end L2
namespace L2
open PySem PySem.Spec PyProof.Rows
def OpS (X:Cx) (f:Value→Value→Sem Value) (x y:U) (z:V):Prop:=OpR X f fun v w H Q=> Rp X.K H v x∧Rp X.K H w y∧Q z H
section
variable {X:Cx} {H0:Hp} {O0:List Addr} {ps:PSt} {a b c e:Expr} {es rest:List Expr} {pos p:Pos} {u x y:U} {xs ys us:List U} {i j:Int} {k m:Bool}
theorem Rp.out {K:PySem.W.Frag} {H:Hp} {O:List Addr} {v:V} {u:U} (h:Rp K (hid H O) v u):Rp K H v u:=h.same am
theorem gh {op:CmpOp} (ho:OpS X (compareOp op) x y (.bl k)) (ha:Ev X H0 O0 ps a x) (hb:Ev X H0 O0 ps b y) (hm:behindInMarks op b=false:=by first | exact lr _ | with_unfolding_all rfl):Ev X H0 O0 ps (.Compare a [op] [b] pos) (.bl k):=
 PE.mono (m3 ho ha hb hm) fun σ H Q ⟨O,R,q⟩=> two R (fun _ _ _ z=> z) (fun _ _ _ z=> z) fun v w H' s _ r1 r2=> ⟨r1.out,r2.out,q _ H' s (.bl _)⟩
theorem bg {op:CmpOp} (ho:OpS X (compareOp op) x y (.bl k)) (ha:Ev X H0 O0 ps a x) (hb:Ev X H0 O0 ps b y) (hm:behindInMarks op b=false:=by first | exact lr _ | with_unfolding_all rfl):Tt X H0 O0 ps (.Compare a [op] [b] pos) k:=
 PT.mono (nv ho ha hb hm) fun σ H Q ⟨O,R,q⟩=> two R (fun _ _ _ z=> z) (fun _ _ _ z=> z) fun v w H' s _ r1 r2=> ⟨r1.out,r2.out,_,rfl,q H' s⟩
theorem lL {op:CmpOp} {g:Int→Int→Bool} (ho:OpR X (compareOp op) (rI0 fun i j=> .bl (g i j))):OpS X (compareOp op) (.int i) (.int j) (.bl (g i j)):=by
 intro pins s σ H v w p q Q I r1 r2 h
 obtain ⟨h1,h2,h3⟩:=h
 cases h1; cases h2
 exact ho pins s σ H _ _ _ _ Q I r1 r2 ⟨i,j,rfl,rfl,h3⟩
theorem lH:OpS X (compareOp .Lt) (.int i) (.int j) (.bl (decide (i < j))):=lL qr
theorem rg:OpS X (compareOp .LtE) (.int i) (.int j) (.bl (decide (i≤j))):=lL qi
theorem gD:OpS X (compareOp .Gt) (.int i) (.int j) (.bl (decide (j < i))):=lL qX
theorem o5 (hu:X.A.units+10 < cLine) (h1:okU 9 x=true) (h2:okU 9 y=true):OpS X (compareOp .Eq) x y (.bl (eqW x y)):=by
 intro pins s σ H v w p q Q I r1 r2 h
 obtain ⟨k1,k2,k3⟩:=h
 exact qO I 9 X.A x y v w p q k1 k2 r1 r2 h1 h2 (by omega) X.prog X.w _ _ (aA I k3 rfl)
theorem n8 (hu:X.A.units+10 < cLine) (h1:okU 9 x=true) (h2:okU 9 y=true):OpS X (compareOp .NotEq) x y (.bl (!eqW x y)):=by
 intro pins s σ H v w p q Q I r1 r2 h
 obtain ⟨k1,k2,k3⟩:=h
 exact pT I 8 X.A x y v w p q k1 k2 r1 r2 h1 h2 (by omega) X.prog X.w _ _ (aA I k3 rfl)
theorem gA:OpS X (compareOp .Eq) (.int i) (.int j) (.bl (decide (i=j))):=by
 intro pins s σ H v w p q Q I r1 r2 h
 obtain ⟨h1,h2,h3⟩:=h
 cases h1; cases h2
 exact qu pins s σ H _ _ _ _ Q I r1 r2 ⟨rfl,by rw [e7,← Bool.beq_eq_decide_eq] at *; simpa [Bool.beq_eq_decide_eq] using h3⟩
theorem qC:OpS X (compareOp .NotEq) (.int i) (.int j) (.bl (!decide (i=j))):=by
 intro pins s σ H v w p q Q I r1 r2 h
 obtain ⟨h1,h2,h3⟩:=h
 cases h1; cases h2
 exact qe pins s σ H _ _ _ _ Q I r1 r2 ⟨rfl,by rw [e7]; simpa [Bool.beq_eq_decide_eq] using h3⟩
theorem cD (h:Ev X H0 O0 ps e (.bl k)) (he:∀ whole,isTrue e X.env whole=(do let v ← whole; standAt e.pos; holding [v] (truthy v)):=by intro _; rfl):Tt X H0 O0 ps e k:=
 PT.mono (pX h he) fun σ H Q ⟨O,R,q⟩=> ⟨O,R,fun v H' s r=> by cases r; exact ⟨_,rfl,q H' s⟩⟩
theorem cx (h:Tt X H0 O0 ps a k):Tt X H0 O0 ps (.UnaryOp .Not a pos) (!k):=PT.mono (qb h) fun σ H Q ⟨O,R,q⟩=> ⟨O,R,q⟩
theorem Tw.t (h:Tw X H0 O0 ps e k):Tt X H0 O0 ps e k:=h.pt
theorem lU (h:Tt X H0 O0 ps a k):Tw X H0 O0 ps (.BoolOp .And [a] pos) k:=n5 h
theorem jD (h:Tt X H0 O0 ps a k):Tw X H0 O0 ps (.BoolOp .Or [a] pos) k:=oU h
theorem lO (ha:Tt X H0 O0 ps a k) (hb:k=true→Tw X H0 O0 ps (.BoolOp .And (b::rest) pos) m):Tw X H0 O0 ps (.BoolOp .And (a::b::rest) pos) (k && m):=by
 cases k with
 | true=> exact PW.mono (lQ ha (hb rfl)) fun σ H Q ⟨O,R,q⟩=> ⟨O,R,fun H' s=> by exact mG (⟨O,R.go s,fun H2 s2=> q H2 (s.trans s2)⟩)⟩
 | false=> exact PW.mono (lQ ha (fun _ _ _ _ _ _ _ h=> h.elim) (tB':=fun _ _ _=> False)) fun σ H Q ⟨O,R,q⟩=> ⟨O,R,fun H' s=> by exact lg (q H' s)⟩
theorem iC (ha:Tt X H0 O0 ps a k) (hb:k=false→Tw X H0 O0 ps (.BoolOp .Or (b::rest) pos) m):Tw X H0 O0 ps (.BoolOp .Or (a::b::rest) pos) (k || m):=by
 cases k with
 | false=> exact PW.mono (oQ ha (hb rfl)) fun σ H Q ⟨O,R,q⟩=> ⟨O,R,fun H' s=> by exact lg (⟨O,R.go s,fun H2 s2=> q H2 (s.trans s2)⟩)⟩
 | true=> exact PW.mono (oQ ha (fun _ _ _ _ _ _ _ h=> h.elim) (tB':=fun _ _ _=> False)) fun σ H Q ⟨O,R,q⟩=> ⟨O,R,fun H' s=> by exact mG (q H' s)⟩
theorem dU {op} (h:Ev X H0 O0 ps a u):Ev X H0 O0 ps (.BoolOp op [a] pos) u:=oS h
theorem dv (ha:Ev X H0 O0 ps a (.bl k)) (hb:k=true→Ev X H0 O0 ps (.BoolOp .And (b::rest) pos) (.bl m)):Ev X H0 O0 ps (.BoolOp .And (a::b::rest) pos) (.bl (k && m)):=by
 cases k with
 | true=> exact PE.mono (k_ ha (hb rfl)) fun σ H Q ⟨O,R,q⟩=> ⟨O,R,fun v H' s r=> by cases r; exact ⟨_,rfl,by exact mG (⟨O,R.go s,fun v H2 s2 r2=> q v H2 (s.trans s2) r2⟩)⟩⟩
 | false=> exact PE.mono (k_ ha (fun _ _ _ _ _ _ h=> h.elim) (tb:=fun _ _ _=> False)) fun σ H Q ⟨O,R,q⟩=> ⟨O,R,fun v H' s r=> by cases r; exact ⟨_,rfl,by exact lg (q _ H' s (.bl _))⟩⟩
theorem eP (ha:Ev X H0 O0 ps a (.bl k)):Ev X H0 O0 ps (.UnaryOp .Not a pos) (.bl (!k)):=PE.mono (p6 ha) fun σ H Q ⟨O,R,q⟩=> ⟨O,R,fun v H' s r=> by cases r; exact ⟨_,rfl,q _ H' s (.bl _)⟩⟩
theorem aj:EvA X H0 O0 ps [] []:=PA.mono eg fun σ H Q ⟨O,R,q⟩=> q [] H (.refl H) .nil
theorem ae (ha:Ev X H0 O0 ps e u) (hr:EvA X H0 O0 ps es us) (hs:starEach (e::es) X.env=(false,eval e X.env)::starEach es X.env:=by rfl):EvA X H0 O0 ps (e::es) (u::us):=
 PA.mono (cu ha hr hs) fun σ H Q ⟨O,R,q⟩=> ⟨O,R,fun v H1 s1 r1=> ⟨O,R.go s1,fun vs H2 s2 r2=> q _ H2 (s1.trans s2) (.cons (r1.same (aW s2)) r2)⟩⟩
theorem Rs.hidnew {K:PySem.W.Frag} {σ:St} {H:Hp} {O:List Addr} (R:Rs K H0 O0 ps σ H O) {p:Addr} {o:HO} (n:H p=none):hid (upd H p o) O p=some o:=cI aE fun z=> R.dom p z n
theorem qc {x1} (h:EvA X H0 O0 ps es us) (hz:us.length≤sizeLine:=by first | decide | (simp only [List.length_cons,List.length_nil]; decide)):Ev X H0 O0 ps (.Tuple es x1 pos) (.tup us):=
 PE.mono (p_ h) fun σ H Q ⟨O,R,q⟩=> ⟨O,R,fun vs H1 s1 r1=> ⟨by rw [r1.len]; exact hz,fun p hp=> by
  have s2:=av hp (.tup vs)
  have r2:=r1.same (aW (O:=O) s2)
  exact q _ _ (s1.trans s2) (.tup (SqT.of ((R.go s1).hidnew hp)) r2.len r2.at_)⟩⟩
theorem qN (h:EvA X H0 O0 ps es us) (hz:us.length≤sizeLine:=by first | decide | (simp only [List.length_cons,List.length_nil]; decide)):EvN X H0 O0 ps (.List es pos) us:=
 PE.mono (o8 h) fun σ H Q ⟨O,R,q⟩=> ⟨O,R,fun vs H1 s1 r1=> ⟨by rw [r1.len]; exact hz,fun p hp=> by
  exact q p vs _ (s1.trans (av hp _)) (s1.free hp) aE (r1.same (ba (av hp _) hp))⟩⟩
theorem bc (ha:Ev X H0 O0 ps a x) (hb:Ev X H0 O0 ps b (.int i)) (hx:x.items=some xs) (hi:atI xs i=some u) (hs:gO b:=by intro _ _; rfl):Ev X H0 O0 ps (.Subscript a b pos) u:=
 PE.mono (oK (ju.or pw) ha hb hs) fun σ H Q ⟨O,R,q⟩=> two (y:=.int i) R (fun _ _ _ z=> z) (fun _ _ _ z=> z) fun v w H' s _ r1 r2=> by
  cases r2
  cases r1 with
  | scr h hl hh=> cases hx; obtain ⟨z,h1,h2⟩:=Rps.atI ⟨hl,hh⟩ hi; exact .inl ⟨_,_,i,z,rfl,rfl,am.seq h,h1,q z H' s h2⟩
  | lst h hl hh=> cases hx; obtain ⟨z,h1,h2⟩:=Rps.atI ⟨hl,hh⟩ hi; exact .inl ⟨_,_,i,z,rfl,rfl,am.seq (SqL.of h),h1,q z H' s h2⟩
  | tup h hl hh=> cases hx; obtain ⟨z,h1,h2⟩:=Rps.atI ⟨hl,hh⟩ hi; exact .inr ⟨_,_,i,z,rfl,rfl,am.tup h,h1,q z H' s h2⟩
  | _=> cases hx
theorem jY (n:Nat) {x:Str} (h:ps[n]?=some (some (.own xs))) (hb:Ev X H0 O0 ps b (.int i)) (hi:atI xs i=some u) (hN:X.N[n]?=some x:=by rfl) (hv:Vis X.env.scope x:=by first | exact Or.inl rfl | exact Or.inr (Or.inl rfl) | exact Or.inr (Or.inr rfl)) (hd:(x==("__debug__":Str))=false:=by decide)
  (hcd:(x==("__classdict__":Str))=false:=by decide) (hs:gO b:=by intro _ _; rfl):Ev X H0 O0 ps (.Subscript (.Name x p) b pos) u:=
 PE.mono (oK ju (eA hN hv hd hcd) hb hs) fun σ H Q ⟨O,R,q⟩=> by
  obtain ⟨v,h1,a,vs,rfl,h3,h4,h5,h6⟩:=R.at_ n _ h
  refine ⟨_,h1,O,R,fun w H' s r=> ?_⟩
  cases r
  obtain ⟨z,k1,k2⟩:=h6.atI hi
  exact ⟨a,vs,i,z,rfl,rfl,SqL.of (s _ _ h5),k1,q z H' s (k2.same (aW s))⟩
def fq (X:Cx) (f:Value) (us:List U) (u:U):Prop:=cb X f fun vs H Q=> ∃ O,(∀ a∈O,H a≠none)∧Rps X.K (hid H O) vs us∧∀ v H',ay H H'→Rp X.K (hid H' O) v u→Q v H'
def oE (X:Cx) (f:Value) (us:List U) (xs:List U):Prop:=cb X f fun vs H Q=> ∃ O,(∀ a∈O,H a≠none)∧Rps X.K (hid H O) vs us∧∀ a vs H',ay H H'→H a=none→H' a=some (.lst vs)→Rps X.K (hid H' (a::O)) vs xs→Q (.ref a) H'
theorem ak {id:String} {f:Str} (hc:fq X (.builtin id) us u) (hg:Gl X f) (hm:X.mg f=none) (hv:bootBuiltins f=some (.builtin id)) (ha:EvA X H0 O0 ps (e::es) us) (hn:f≠"__name__":=by decide) (hdb:(f==("__debug__":Str))=false:=by decide)
  (he:starEach (e::es) X.env=(false,eval e X.env)::starEach es X.env:=by rfl) (hpl:(backTo pos (starEach es X.env)).any (·.1)=false:=by rfl):Ev X H0 O0 ps (.Call (.Name f p) (e::es) [] pos) u:=
 PE.mono (fL hc hg hm hv ha hn hdb he hpl) fun σ H Q ⟨O,R,q⟩=> ⟨O,R,fun vs H1 s1 r1=> ⟨O,(R.go s1).dom,r1,fun v H2 s2 r2=> q v H2 (s1.trans s2) r2⟩⟩
theorem jO {id:String} {f:Str} (hc:oE X (.type id) us xs) (hg:Gl X f) (hm:X.mg f=none) (hv:bootBuiltins f=some (.type id)) (ha:EvA X H0 O0 ps (e::es) us) (hn:f≠"__name__":=by decide) (hdb:(f==("__debug__":Str))=false:=by decide)
  (he:starEach (e::es) X.env=(false,eval e X.env)::starEach es X.env:=by rfl) (hpl:(backTo pos (starEach es X.env)).any (·.1)=false:=by rfl):EvN X H0 O0 ps (.Call (.Name f p) (e::es) [] pos) xs:=
 PE.mono (kw hc hg hm hv ha hn hdb he hpl) fun σ H Q ⟨O,R,q⟩=> ⟨O,R,fun vs H1 s1 r1=> ⟨O,(R.go s1).dom,r1,fun a vs H2 s2 n h r2=> q a vs H2 (s1.trans s2) (s1.free n) h r2⟩⟩
theorem eZ {K:PySem.W.Frag} {H:Hp} {vs:List V} (h:Rps K H vs [x]):∃ v,vs=[v]∧Rp K H v x:=by
 obtain ⟨v,ws,rfl,h1,h2⟩:=h.cons_inv
 rw [h2.nil_inv]
 exact ⟨v,rfl,h1⟩
theorem d6 {K:PySem.W.Frag} {H:Hp} {vs:List V} (h:Rps K H vs [x,y]):∃ v w,vs=[v,w]∧Rp K H v x∧Rp K H w y:=by
 obtain ⟨v,ws,rfl,h1,h2⟩:=h.cons_inv
 obtain ⟨w,rfl,h3⟩:=eZ h2
 exact ⟨v,w,rfl,h1,h3⟩
theorem cb.mono {f:Value} {r r':List V→Hp→VK→Prop} (h:cb X f r) (m:∀ vs H Q,r' vs H Q→r vs H Q):cb X f r':=fun pins s σ H vs us Q I v q=> h pins s σ H vs us Q I v (m vs H Q q)
theorem gE {K:PySem.W.Frag} {H:Hp} {v:V} (h:Rp K H v x) (hx:x.items=some xs):∃ a vs,v=.ref a∧(SqL K H a vs∨SqT K H a vs)∧Rps K H vs xs:=by
 cases h with
 | scr h hl hh=> cases hx; exact ⟨_,_,rfl,.inl h,hl,hh⟩
 | lst h hl hh=> cases hx; exact ⟨_,_,rfl,.inl (SqL.of h),hl,hh⟩
 | tup h hl hh=> cases hx; exact ⟨_,_,rfl,.inr h,hl,hh⟩
 | _=> cases hx
theorem jL {K:PySem.W.Frag} {H:Hp} {O:List Addr} {a:Addr} {vs:List V} (h:SqL K (hid H O) a vs∨SqT K (hid H O) a vs):SqL K H a vs∨SqT K H a vs:=h.imp (fun z=> am.seq z) fun z=> am.tup z
theorem dZ (hx:x.items=some xs):fq X (.builtin "len") [x] (.int xs.length):=cb.mono dN fun vs H Q ⟨O,d,r,q⟩=> by
 obtain ⟨v,rfl,h⟩:=eZ r
 obtain ⟨a,ws,rfl,h1,h2⟩:=gE h hx
 exact ⟨a,ws,rfl,jL h1,by rw [h2.len]; exact q _ H (.refl H) (.int _)⟩
theorem pC (n:Nat) {x:Str} (h:ps[n]?=some (some (.own xs))) (hg:Gl X "len") (hm:X.mg "len"=none) (hN:X.N[n]?=some x:=by rfl) (hv:Vis X.env.scope x:=by first | exact Or.inl rfl | exact Or.inr (Or.inl rfl) | exact Or.inr (Or.inr rfl)) (hd:(x==("__debug__":Str))=false:=by decide)
  (hcd:(x==("__classdict__":Str))=false:=by decide) {pc p':Pos} (hs:starEach [.Name x p'] X.env=(false,eval (.Name x p') X.env)::starEach [] X.env:=by rfl) (hpl:(backTo pos (starEach [] X.env)).any (·.1)=false:=by rfl):Ev X H0 O0 ps (.Call (.Name "len" pc) [.Name x p'] [] pos) (.int xs.length):=
 PE.mono (fL dN hg hm PySem.boot_len (cu (eA hN hv hd hcd) eg hs) (by decide) (by decide) hs hpl) fun σ H Q ⟨O,R,q⟩=> by
  obtain ⟨v,h1,a,vs,rfl,h3,h4,h5,h6⟩:=R.at_ n _ h
  exact ⟨_,h1,a,vs,rfl,.inl (SqL.of h5),by rw [h6.len]; exact q _ H (.refl H) (.int _)⟩
theorem qv (hc:X.calm=true):fq X (.builtin "max") [.int i,.int j] (.int (if j > i then j else i)):=cb.mono (kf hc) fun vs H Q ⟨O,d,r,q⟩=> by
 obtain ⟨v,w,rfl,h,h2⟩:=d6 r
 cases h; cases h2
 exact ⟨i,j,rfl,q _ H (.refl H) (.int _)⟩
theorem qD (hc:X.calm=true):fq X (.builtin "min") [.int i,.int j] (.int (if j < i then j else i)):=cb.mono (kO hc) fun vs H Q ⟨O,d,r,q⟩=> by
 obtain ⟨v,w,rfl,h,h2⟩:=d6 r
 cases h; cases h2
 exact ⟨i,j,rfl,q _ H (.refl H) (.int _)⟩
theorem mz (hx:x.items=some xs):oE X (.type "list") [x] xs:=cb.mono gY fun vs H Q ⟨O,d,r,q⟩=> by
 obtain ⟨v,rfl,h⟩:=eZ r
 obtain ⟨a,ws,rfl,h1,h2⟩:=gE h hx
 exact ⟨a,ws,rfl,jL h1,fun l hl=> q l ws _ (av hl _) hl aE (h2.same (ba (av hl _) hl))⟩
def tyU:U→Value
 | .non=> .type "NoneType" | .bl _=> .type "bool" | .int _=> .type "int" | .str _=> .type "str" | .ty _=> .type "type" | .dic=> .type "dict" | .scr _=> .type "list" | .tup _=> .type "tuple" | .lst _=> .type "list"
theorem ar {n:String} (hn:∀ m,x≠.ty m) (h:PySem.W.kitOne X.K (tyU x) (.type n)=some k):fq X (.builtin "isinstance") [x,.ty (.nm n)] (.bl k):=by
 intro pins s σ H vs us Q I r hq
 obtain ⟨O,d,rs,q⟩:=hq
 obtain ⟨v,w,rfl,h1,h2⟩:=d6 rs
 cases h2
 obtain ⟨p1,p2,rfl,r1,r2⟩:=gx r
 cases (show p2=Value.type n from r2)
 have fin:∀ tk,EP X pins σ Q (.bool k) { s with toks:=tk }:=fun tk=> ⟨.bl k,H,I.tok _,rfl,q _ H (.refl H) (.bl _)⟩
 cases h1 with
 | non=> exact ce I r1 .non h fin
 | bl b=> exact ce I r1 (.bl b) h fin
 | int b=> exact ce I r1 (.int b) h fin
 | str b=> exact ce I r1 (.str b) h fin
 | ty m=> exact absurd rfl (hn _)
 | dic e=> exact ce I r1 (.dK (am _ _ e)) h fin
 | xc e kk=> exact absurd rfl (hn _)
 | scr e hl hh=>
  cases r1
  obtain ⟨its,_,pl,_⟩:=I.list (am.seq e)
  obtain ⟨o,nn,e1,e2,_⟩:=pl
  exact PySem.W.kia_one PySem.W.kitx_list I.kIn ⟨o,e1,e2⟩ h (fun z=> nomatch z) fin
 | lst e hl hh=> exact ce I r1 (.lst (am _ _ e)) h fin
 | tup e hl hh=>
  cases r1
  obtain ⟨its,_,pl,_⟩:=I.tuple (am.tup e)
  obtain ⟨o,e1,e2,_⟩:=pl
  exact PySem.W.kia_one PySem.W.kitx_tuple I.kIn ⟨o,e1,e2⟩ h (fun z=> nomatch z) fin
end
end L2
namespace L2
open PySem PySem.Spec PyProof.Rows
inductive Out where
 | val (u:U) | new (xs:List U) | exc (C:Addr)
def ii (K:PySem.W.Frag) (H0:Hp) (O0:List Addr) (Q:VK) (E:XK):Out→Prop
 | .val u=> ∀ v H',ay H0 H'→Rp K (hid H' O0) v u→Q v H'
 | .new xs=> ∀ a vs H',ay H0 H'→H0 a=none→H' a=some (.lst vs)→Rps K (hid H' (a::O0)) vs xs→Q (.ref a) H'
 | .exc C=> ∀ H',ay H0 H'→E (.ref C) none H'
theorem ii.later {K:PySem.W.Frag} {H0 H1:Hp} {O0:List Addr} {Q:VK} {E:XK} {o:Out} (e:ay H0 H1) (h:ii K H0 O0 Q E o):ii K H1 O0 Q E o:=by
 cases o with
 | val u=> exact fun v H' s r=> h v H' (e.trans s) r
 | new xs=> exact fun a vs H' s n q r=> h a vs H' (e.trans s) (e.free n) q r
 | exc C=> exact fun H' s=> h H' (e.trans s)
structure PD where
 nx:PSt→Prop
 rt:Out→Prop
 bk:PSt→Prop:=fun _=> False
 ct:PSt→Prop:=fun _=> False
structure Lf (K:PySem.W.Frag) (H0:Hp) (O0:List Addr) (E:XK) (D:PD) (D':fw):Prop where
 nx:∀ ps σ H O,Rs K H0 O0 ps σ H O→D.nx ps→D'.nx σ H
 bk:∀ ps σ H O,Rs K H0 O0 ps σ H O→D.bk ps→D'.bk σ H
 ct:∀ ps σ H O,Rs K H0 O0 ps σ H O→D.ct ps→D'.ct σ H
 rt:∀ o,D.rt o→ii K H0 O0 D'.rt E o
def Ws (X:Cx) (H0:Hp) (O0:List Addr) (E:XK) (ss:List Stmt) (D:PD) (ps:PSt):Prop:=PSs X ss fun D' σ H=> Lf X.K H0 O0 E D D'∧∃ O,Rs X.K H0 O0 ps σ H O
def W1 (X:Cx) (H0:Hp) (O0:List Addr) (E:XK) (s:Stmt) (D:PD) (ps:PSt):Prop:=PS X s fun D' σ H=> Lf X.K H0 O0 E D D'∧∃ O,Rs X.K H0 O0 ps σ H O
section
variable {X:Cx} {H0:Hp} {O0:List Addr} {E:XK} {ps ps':PSt} {D:PD} {s:Stmt} {ss body:List Stmt} {a b c e:Expr} {es:List Expr} {pos p:Pos} {u x y:U} {xs ys us:List U} {k:Bool}
theorem bp (h:D.nx ps):Ws X H0 O0 E [] D ps:=PSs.mono oo fun D' σ H ⟨L,O,R⟩=> L.nx ps σ H O R h
theorem af (h:W1 X H0 O0 E s { D with nx:=fun p=> Ws X H0 O0 E ss D p } ps):Ws X H0 O0 E (s::ss) D ps:=by
 have h2:PSs X ss fun D' σ H=> ∃ p,Ws X H0 O0 E ss D p∧Lf X.K H0 O0 E D D'∧∃ O,Rs X.K H0 O0 p σ H O:=fun pins s σ H D' I ⟨p,w,l,r⟩=> w pins s σ H D' I ⟨l,r⟩
 exact PSs.mono (mT h h2) fun D' σ H ⟨L,O,R⟩=> ⟨⟨fun p σ H O R q=> ⟨p,q,L,O,R⟩,L.bk,L.ct,L.rt⟩,O,R⟩
theorem fM (h:Ws X H0 O0 E ss D ps') (hs:SubP ps' ps):Ws X H0 O0 E ss D ps:=PSs.mono h fun D' σ H ⟨L,O,R⟩=> ⟨L,O,R.sub hs⟩
theorem be {i:Nat} {x:Str} {pos':Pos} (hN:X.N.Nodup) (hi:X.N[i]?=some x) (hx:Loc X.env.scope x) (he:Ev X H0 O0 ps e u) (h:D.nx (ps.set i (some (.val u)))) (hs:swapsWith e (some (.Name x pos')) pos.line X.env=pure false:=by rfl) (hf:X.fn x=true∨X.env.scope.names.lookup x=some .local:=by first | exact .inl rfl | exact .inr rfl | assumption):
  W1 X H0 O0 E (.Assign [.Name x pos'] e pos) D ps:=PS.mono (mK hN hi hx he hs hf) fun D' σ H ⟨L,O,R⟩=> ⟨O,R,fun v H' s r=> L.nx _ _ _ O ((R.go s).set r) h⟩
theorem fO {i:Nat} {x:Str} {pos':Pos} (hN:X.N.Nodup) (hi:X.N[i]?=some x) (hx:Loc X.env.scope x) (he:EvN X H0 O0 ps e xs) (h:D.nx (ps.set i (some (.own xs)))) (hs:swapsWith e (some (.Name x pos')) pos.line X.env=pure false:=by rfl) (hf:X.fn x=true∨X.env.scope.names.lookup x=some .local:=by first | exact .inl rfl | exact .inr rfl | assumption):
  W1 X H0 O0 E (.Assign [.Name x pos'] e pos) D ps:=PS.mono (mK hN hi hx he hs hf) fun D' σ H ⟨L,O,R⟩=> ⟨O,R,fun a vs H' s n q r=> L.nx _ _ _ _ (R.own s n q r) h⟩
theorem iE {tb fb:List Stmt} (hc:Tt X H0 O0 ps c k) (h1:k=true→Ws X H0 O0 E tb D ps) (h2:k=false→Ws X H0 O0 E fb D ps):W1 X H0 O0 E (.If c tb fb pos) D ps:=by
 cases k with
 | true=> exact PS.mono (oB hc (h1 rfl) (fun _ _ _ _ _ _ h=> h.elim) (u:=fun _ _ _=> False)) fun D' σ H ⟨L,O,R⟩=> ⟨O,R,fun H' s=> mG ⟨L,O,R.go s⟩⟩
 | false=> exact PS.mono (oB hc (fun _ _ _ _ _ _ h=> h.elim) (h2 rfl) (t:=fun _ _ _=> False)) fun D' σ H ⟨L,O,R⟩=> ⟨O,R,fun H' s=> lg ⟨L,O,R.go s⟩⟩
theorem Rs.ret {K:PySem.W.Frag} {σ:St} {H:Hp} {O:List Addr} {v:V} (R:Rs K H0 O0 ps σ H O) (r:Rp K (hid H O) v u):Rp K (hid H O0) v u:=r.same (de R.old)
theorem aJ (he:Ev X H0 O0 ps e u) (h:D.rt (.val u)):W1 X H0 O0 E (.Return (some e) pos) D ps:=
 PS.mono (g8 he) fun D' σ H ⟨L,O,R⟩=> ⟨O,R,fun v H' s r=> L.rt _ h v H' (R.same.trans s) ((R.go s).ret r)⟩
theorem i3 (he:EvN X H0 O0 ps e xs) (h:D.rt (.new xs)):W1 X H0 O0 E (.Return (some e) pos) D ps:=
 PS.mono (g8 he) fun D' σ H ⟨L,O,R⟩=> ⟨O,R,fun a vs H' s n q r=> L.rt _ h a vs H' (R.same.trans s) (R.same.free n) q (r.same (de fun b hb=> by
  rcases List.mem_cons.mp hb with y | y
  ·subst y; exact List.mem_cons_self
  ·exact List.mem_cons_of_mem _ (R.old b y)))⟩
theorem fE (i:Nat) {x:Str} (hp:ps[i]?=some (some (.own xs))) (h:D.rt (.new xs)) (hN:X.N[i]?=some x:=by rfl) (hv:Vis X.env.scope x:=by first | exact Or.inl rfl | exact Or.inr (Or.inl rfl) | exact Or.inr (Or.inr rfl)) (hd:(x==("__debug__":Str))=false:=by decide)
  (hcd:(x==("__classdict__":Str))=false:=by decide):W1 X H0 O0 E (.Return (some (.Name x p)) pos) D ps:=
 PS.mono (g8 (eA hN hv hd hcd)) fun D' σ H ⟨L,O,R⟩=> by
  obtain ⟨v,h1,a,vs,rfl,h3,h4,h5,h6⟩:=R.at_ i _ hp
  refine ⟨_,h1,L.rt _ h a vs H R.same ((R.new a h3).resolve_left h4) h5 (h6.same (de fun b hb=> ?_))⟩
  rcases List.mem_cons.mp hb with y | y
  ·subst y; exact h3
  ·exact R.old b y
theorem o7 (he:Ev X H0 O0 ps e u) (h:D.nx ps) (hs:swapsWith e none pos.line X.env=pure false:=by rfl):W1 X H0 O0 E (.Expr e pos) D ps:=
 PS.mono (eW he hs) fun D' σ H ⟨L,O,R⟩=> ⟨O,R,fun v H' s r=> L.nx _ _ _ O (R.go s) h⟩
theorem cA (i:Nat) {x:Str} {apos cpos xp:Pos} (hp:ps[i]?=some (some (.own xs))) (ha:Ev X H0 O0 ps e u) (hz:xs.length < sizeLine) (h:D.nx (ps.set i (some (.own (xs++[u])))))
  (hN:X.N[i]?=some x:=by rfl) (hv:Vis X.env.scope x:=by first | exact Or.inl rfl | exact Or.inr (Or.inl rfl) | exact Or.inr (Or.inr rfl)) (hd:(x==("__debug__":Str))=false:=by decide) (hcd:(x==("__classdict__":Str))=false:=by decide)
  (hbase:attributeBase (.Name x xp) "append" X.env (eval (.Name x xp) X.env)=eval (.Name x xp) X.env:=by rfl)
  (hfew:((backTo cpos (starEach [e] X.env)).all (fun x=> !x.1) && (backToKw cpos (keywordEach [] X.env)).all (fun x=> x.1.isSome) && decide ([e].length+([]:List Keyword).length+(if ([]:List Keyword).isEmpty then 0 else 1) < 30))=true:=by rfl)
  (hline:(apos.endLine==cpos.line)=true:=by rfl) (hse:starEach [e] X.env=(false,eval e X.env)::starEach [] X.env:=by rfl) (hplain:(backTo cpos (starEach [] X.env)).any (·.1)=false:=by rfl)
  (hs:swapsWith (.Call (.Attribute (.Name x xp) "append" apos) [e] [] cpos) none pos.line X.env=pure false:=by rfl):W1 X H0 O0 E (.Expr (.Call (.Attribute (.Name x xp) "append" apos) [e] [] cpos) pos) D ps:=
 PS.mono (eW (qU PySem.F.plainAttrs_list PySem.F.slot_list_append PySem.F.type_list_append eE (eA hN hv hd hcd) (cu ha eg hse) hbase hfew hline hse hplain) hs) fun D' σ H ⟨L,O,R⟩=> by
  obtain ⟨v,h1,a,vs,rfl,h3,h4,h5,h6⟩:=R.at_ i _ hp
  refine ⟨_,h1,.inl ⟨rfl,_,SqL.of h5⟩,O,R,fun w H' s r=> ⟨a,vs,w,rfl,rfl,s _ _ h5,by rw [h6.len]; exact hz,?_⟩⟩
  exact L.nx _ _ _ O ((R.go s).write hp h1 ((h6.same (aW s)).snoc (.cons r .nil))) h
theorem oD (i:Nat) {x:Str} {apos cpos xp:Pos} (hp:ps[i]?=some (some (.own xs))) (hne:xs≠[]) (h:D.nx (ps.set i (some (.own xs.dropLast))))
  (hN:X.N[i]?=some x:=by rfl) (hv:Vis X.env.scope x:=by first | exact Or.inl rfl | exact Or.inr (Or.inl rfl) | exact Or.inr (Or.inr rfl)) (hd:(x==("__debug__":Str))=false:=by decide) (hcd:(x==("__classdict__":Str))=false:=by decide)
  (hbase:attributeBase (.Name x xp) "pop" X.env (eval (.Name x xp) X.env)=eval (.Name x xp) X.env:=by rfl)
  (hline:(apos.endLine==cpos.line)=true:=by rfl)
  (hs:swapsWith (.Call (.Attribute (.Name x xp) "pop" apos) [] [] cpos) none pos.line X.env=pure false:=by rfl):W1 X H0 O0 E (.Expr (.Call (.Attribute (.Name x xp) "pop" apos) [] [] cpos) pos) D ps:=
 PS.mono (eW (px PySem.F.plainAttrs_list PySem.F.slot_list_pop PySem.F.type_list_pop o6 (eA hN hv hd hcd) hbase hline) hs) fun D' σ H ⟨L,O,R⟩=> by
  obtain ⟨v,h1,a,vs,rfl,h3,h4,h5,h6⟩:=R.at_ i _ hp
  have hpos:0 < vs.length:=by rw [h6.len]; exact List.length_pos_iff.mpr hne
  have hlt:vs.length - 1 < vs.length:=by omega
  refine ⟨_,h1,.inl ⟨rfl,_,SqL.of h5⟩,a,vs,vs[vs.length - 1],rfl,rfl,h5,List.getElem?_eq_getElem hlt,?_⟩
  refine L.nx _ _ _ O (R.write hp h1 ⟨by simp [h6.len],fun j v x e1 e2=> ?_⟩) h
  rw [List.getElem?_dropLast] at e1 e2
  split at e1
  ·split at e2
   ·exact h6.at_ j v x e1 e2
   ·cases e2
  ·cases e1
end
end L2
namespace L2
open PySem PySem.Spec PyProof.Rows
def iS:List Nat→TGs
 | []=> qG
 | j::js=> oJ (j0 j) (iS js)
def setAll:PSt→List Nat→List U→PSt
 | ps,j::js,u::us=> setAll (ps.set j (some (.val u))) js us
 | ps,_,_=> ps
def e9:St→List Nat→List V→St
 | σ,j::js,u::us=> e9 (σ.set j (some u)) js us
 | σ,_,_=> σ
theorem Rs.setAll {K:PySem.W.Frag} {H0:Hp} {O0:List Addr} {H:Hp} {O:List Addr}:∀ {js:List Nat} {ps:PSt} {σ:St} {vs:List V} {us:List U},Rs K H0 O0 ps σ H O→Rps K (hid H O) vs us→Rs K H0 O0 (L2.setAll ps js us) (e9 σ js vs) H O
 | [],ps,σ,vs,us,R,r=> by cases us <;> cases vs <;> exact R
 | j::js,ps,σ,vs,[],R,r=> by rw [r.nil_inv]; exact R
 | j::js,ps,σ,vs,u::us,R,r=> by
  obtain ⟨v,ws,rfl,h1,h2⟩:=r.cons_inv
  exact Rs.setAll (js:=js) (R.set h1) h2
theorem gl {Q:St→Hp→Prop} {H:Hp}:∀ {js:List Nat} {σ:St} {vs:List V},vs.length=js.length→Q (e9 σ js vs) H→iS js vs σ H Q
 | [],σ,[],_,q=> ⟨rfl,q⟩
 | j::js,σ,v::vs,e,q=> ⟨v,vs,rfl,gl (js:=js) (by simpa using e) q⟩
 | [],_,_::_,e,_=> by simp at e
 | _::_,_,[],e,_=> by simp at e
def TgS (X:Cx) (H0:Hp) (O0:List Addr) (tg:Expr) (ps:PSt) (u:U) (ps':PSt):Prop:=
 PG X tg fun v σ H Q=> ∃ O,Rs X.K H0 O0 ps σ H O∧Rp X.K (hid H O) v u∧∀ σ' H',ay H H'→Rs X.K H0 O0 ps' σ' H' O→Q σ' H'
theorem PG.mono {X:Cx} {e:Expr} {t t':TG} (h:PG X e t) (m:∀ v σ H Q,t' v σ H Q→t v σ H Q):PG X e t':=fun pins s σ H v u Q I r q=> h pins s σ H v u Q I r (m v σ H Q q)
theorem PI.mono {X:Cx} {tg e:Expr} {t t':TI} (h:PI X tg e t) (m:∀ σ H Q,t' σ H Q→t σ H Q):PI X tg e t':=fun pins s σ H Q I q=> h pins s σ H Q I (m σ H Q q)
def Yl (K:PySem.W.Frag) (J:It) (G:Hp) (xs:List U):Prop:=
 ∀ H2,ay G H2→(∀ i,i < xs.length→J.go i H2∧∀ x H3,J.yld i H2 x H3→H3=H2∧∃ u,xs[i]?=some u∧Rp K G x u)∧J.stop xs.length H2
def EvI (X:Cx) (H0:Hp) (O0:List Addr) (ps:PSt) (tg iter:Expr) (xs:List U):Prop:=
 PI X tg iter fun σ H R=> ∃ O,Rs X.K H0 O0 ps σ H O∧∀ J H',ay H H'→Yl X.K J (hid H' O) xs→R J H'
section
variable {X:Cx} {H0:Hp} {O0:List Addr} {E:XK} {ps ps':PSt} {D:PD} {s:Stmt} {ss body:List Stmt} {a b c e tg iter:Expr} {es:List Expr} {pos p:Pos} {u x y:U} {xs ys us:List U} {k:Bool}
theorem gX {i:Nat} {x:Str} (hN:X.N.Nodup) (hi:X.N[i]?=some x) (hx:Loc X.env.scope x) (hf:X.fn x=true∨X.env.scope.names.lookup x=some .local:=by first | exact .inl rfl | exact .inr rfl | assumption):TgS X H0 O0 (.Name x pos) ps u (ps.set i (some (.val u))):=
 PG.mono (dg hN hi hx hf) fun v σ H Q ⟨O,R,r,q⟩=> q _ H (.refl H) (R.set r)
theorem eC (he:Ev X H0 O0 ps iter x) (hx:x=.lst xs∨x=.scr xs):EvI X H0 O0 ps tg iter xs:=
 PI.mono (nH he) fun σ H Q ⟨O,R,q⟩=> ⟨O,R,fun v H' s r=> by
  have key:∃ a vs,v=.ref a∧SqL X.K (hid H' O) a vs∧Rps X.K (hid H' O) vs xs:=by
   rcases hx with rfl | rfl
   ·cases r with
    | lst hq hl hh=> exact ⟨_,_,rfl,SqL.of hq,hl,hh⟩
   ·cases r with
    | scr hq hl hh=> exact ⟨_,_,rfl,hq,hl,hh⟩
  obtain ⟨a,vs,rfl,hq,rs⟩:=key
  refine ⟨a,rfl,⟨vs,am.seq hq⟩,q _ H' s fun H2 s2=> ⟨fun i hi=> ?_,⟨vs,s2.seq hq,by rw [rs.len]; exact Nat.le_refl _⟩⟩⟩
  have hi':i < vs.length:=by rw [rs.len]; exact hi
  refine ⟨⟨vs,vs[i],s2.seq hq,List.getElem?_eq_getElem hi'⟩,fun z H3 y=> ⟨y.1,xs[i],List.getElem?_eq_getElem hi,rs.at_ i z _ (y.2 vs (s2.seq hq)) (List.getElem?_eq_getElem hi)⟩⟩⟩
theorem qs (he:Ev X H0 O0 ps iter (.tup xs)):EvI X H0 O0 ps tg iter xs:=
 PI.mono (pJ he) fun σ H Q ⟨O,R,q⟩=> ⟨O,R,fun v H' s r=> by
  cases r with
  | @tup a vs _ hq hl hh=>
   have rs:Rps X.K (hid H' O) vs xs:=⟨hl,hh⟩
   refine ⟨a,rfl,⟨vs,am.tup hq⟩,q _ H' s fun H2 s2=> ⟨fun i hi=> ?_,⟨vs,s2.tup hq,by rw [rs.len]; exact Nat.le_refl _⟩⟩⟩
   have hi':i < vs.length:=by rw [rs.len]; exact hi
   refine ⟨⟨vs,vs[i],s2.tup hq,List.getElem?_eq_getElem hi'⟩,fun z H3 y=> ⟨y.1,xs[i],List.getElem?_eq_getElem hi,rs.at_ i z _ (y.2 vs (s2.tup hq)) (List.getElem?_eq_getElem hi)⟩⟩⟩
def dA (lo:Int) (n:Nat):List U:=(List.range n).map fun (i:Nat)=> U.int (lo+(i:Int))
theorem dG {lo:Int} {n:Nat}:(dA lo n).length=n:=by simp [dA]
theorem gb {lo:Int} {n i:Nat} (h:i < n):(dA lo n)[i]?=some (.int (lo+(i:Int))):=by
 unfold dA
 rw [List.getElem?_map,List.getElem?_range h]; rfl
theorem jg {lo:Int} {n i:Nat} {x:U} (h:(dA lo n)[i]?=some x):i < n∧x=.int (lo+(i:Int)):=by
 have hi:=aM h
 rw [dG] at hi
 rw [gb hi] at h
 exact ⟨hi,(Option.some.inj h).symm⟩
theorem mt {K:PySem.W.Frag} {G:Hp} {lo:Int} {n:Nat}:Yl K (Itr lo n) G (dA lo n):=fun H2 s2=> by
 rw [dG]
 refine ⟨fun i hi=> ⟨hi,fun z H3 y=> ⟨y.1,_,gb hi,?_⟩⟩,Nat.le_refl _⟩
 rw [y.2]; exact .int _
theorem mO {i j:Int} (hg:Gl X "range") (hm:X.mg "range"=none) (ha:EvA X H0 O0 ps [a,b] [.int i,.int j]) (h:-(2 ^ 62)≤i∧i < 2 ^ 62∧-(2 ^ 62)≤j∧j < 2 ^ 62) (hs:starEach [a,b] X.env=[(false,eval a X.env),(false,eval b X.env)]:=by rfl) (hs2:starEach [b] X.env=[(false,eval b X.env)]:=by rfl):
  EvI X H0 O0 ps tg (.Call (.Name "range" p) [a,b] [] pos) (dA i (j - i).toNat):=
 PI.mono (kP hg hm ha hs hs2) fun σ H Q ⟨O,R,q⟩=> ⟨O,R,fun vs H' s r=> by
  obtain ⟨v,w,rfl,k1,k2⟩:=d6 r
  cases k1; cases k2
  exact ⟨i,j,rfl,h,q _ H' s mt⟩⟩
theorem Rs.rebase {K:PySem.W.Frag} {σ:St} {H:Hp} {O:List Addr} (R:Rs K H0 O0 ps σ H O):Rs K (hid H (O.filter fun a=> decide (a ∉ O0))) O0 ps σ H O:=
 ⟨am,R.old,fun a ha=> by
  by_cases h:a∈O0
  ·exact .inl h
  ·right; unfold hid; rw [if_pos (List.mem_filter.mpr ⟨ha,by simpa using h⟩)],R.dom,R.len,R.at_,R.inj⟩
theorem Rs.base {K:PySem.W.Frag} {σ:St} {H:Hp} {O:List Addr} (R:Rs K H0 O0 ps σ H O):ay H0 (hid H (O.filter fun a=> decide (a ∉ O0))):=fun b o h=> by
 refine cI (R.same b o h) fun z=> ?_
 obtain ⟨z1,z2⟩:=List.mem_filter.mp z
 rcases R.new b z1 with y | y
 ·simp [y] at z2
 ·rw [h] at y; cases y
theorem Rs.unbase {K:PySem.W.Frag} {H1:Hp} {σ:St} {H:Hp} {O:List Addr} (e:ay H0 H1) (R:Rs K H1 O0 ps σ H O):Rs K H0 O0 ps σ H O:=
 ⟨e.trans R.same,R.old,fun a ha=> (R.new a ha).imp id fun z=> e.free z,R.dom,R.len,R.at_,R.inj⟩
theorem Rs.seen {K:PySem.W.Frag} {ps2:PSt} {σ σ2:St} {H H2:Hp} {O O2:List Addr} (R:Rs K H0 O0 ps σ H O) (R2:Rs K (hid H (O.filter fun a=> decide (a ∉ O0))) O0 ps2 σ2 H2 O2):ay (hid H O) (hid H2 O2):=fun b o h=> by
 obtain ⟨h1,h2⟩:=dC h
 have h3:hid H (O.filter fun a=> decide (a ∉ O0)) b=some o:=cI h1 fun z=> h2 (List.mem_filter.mp z).1
 refine cI (R2.same b o h3) fun z=> ?_
 rcases R2.new b z with y | y
 ·exact h2 (R.old b y)
 ·rw [h3] at y; cases y
theorem qF (hc:X.calm=true) (hp:PassesOwn (model X.prog X.w) X.A X.env X.xe) (hi:EvI X H0 O0 ps tg iter xs) (Iv:Nat→PSt→Prop) (h0:Iv 0 ps)
  (hs:∀ (H0:Hp) (i:Nat) (x:U) (ps:PSt),xs[i]?=some x→Iv i ps→∃ ps',TgS X H0 O0 tg ps x ps'∧Ws X H0 O0 E body { D with nx:=Iv (i+1),ct:=Iv (i+1),bk:=D.nx } ps') (hd:∀ ps,Iv xs.length ps→D.nx ps)
  (hf:∀ x,foldedSetIterable iter X.env x=pure x:=by intro _; rfl):W1 X H0 O0 E (.For tg iter body [] pos) D ps:=by
 have hg:PG X tg fun v σ H Q=> ∃ H1 ps u ps',TgS X H1 O0 tg ps u ps'∧∃ O,Rs X.K H1 O0 ps σ H O∧Rp X.K (hid H O) v u∧∀ σ' H',ay H H'→Rs X.K H1 O0 ps' σ' H' O→Q σ' H':=
  fun pins s σ H v u Q I r ⟨H1,ps,w,ps',t,z⟩=> t pins s σ H v u Q I r z
 have hb:PSs X body fun D' σ H=> ∃ H1 D1 ps',Ws X H1 O0 E body D1 ps'∧Lf X.K H1 O0 E D1 D'∧∃ O,Rs X.K H1 O0 ps' σ H O:=fun pins s σ H D' I ⟨H1,D1,ps',w,z⟩=> w pins s σ H D' I z
 refine PS.mono (qa hp hc hi hg hb hf) fun D' σ H ⟨L,O,R⟩=> ⟨O,R,fun J H1 s1 Y=> ?_⟩
 have R1:=R.go s1
 have base:=R1.base
 refine ⟨fun i m σ H=> m=xs.length - i∧i≤xs.length∧∃ ps O',Iv i ps∧Rs X.K (hid H1 (O.filter fun a=> decide (a ∉ O0))) O0 ps σ H O',⟨_,rfl,Nat.zero_le _,ps,O,h0,R1.rebase⟩,?_⟩
 rintro i m σ2 H2 ⟨rfl,hi2,ps2,O2,iv,R2⟩
 have seen:=R1.seen R2
 obtain ⟨y1,y2⟩:=Y H2 (seen.trans am)
 by_cases hlt:i < xs.length
 ·obtain ⟨g1,g2⟩:=y1 i hlt
  refine .inr ⟨g1,fun σ' H'=> ∃ ps O',Iv (i+1) ps∧Rs X.K (hid H1 (O.filter fun a=> decide (a ∉ O0))) O0 ps σ' H' O',fun σ' H' z=> ⟨xs.length - (i+1),by omega,rfl,hlt,z⟩,fun x H3 y=> ?_⟩
  obtain ⟨rfl,u,hu,r⟩:=g2 x H3 y
  obtain ⟨ps',t,w⟩:=hs (hid H1 (O.filter fun a=> decide (a ∉ O0))) i u ps2 hu iv
  refine ⟨_,ps2,u,ps',t,O2,R2,r.same seen,fun σ' H' s' R'=> ⟨_,_,ps',w,?_,O2,R'⟩⟩
  exact ⟨fun p σ H O R q=> ⟨p,O,q,R⟩,fun p σ H O R q=> L.nx _ _ _ _ (R.unbase base) q,fun p σ H O R q=> ⟨p,O,q,R⟩,fun o q=> (L.rt o q).later base⟩
 ·have e:i=xs.length:=by omega
  subst e
  exact .inl ⟨y2,L.nx _ _ _ _ (R2.unbase base) (hd ps2 iv)⟩
theorem mX (hp:PassesOwn (model X.prog X.w) X.A X.env X.xe) (Iv:Nat→PSt→Prop) (m:Nat) (h0:Iv m ps)
  (hs:∀ m ps,Iv m ps→∃ b,Tt X H0 O0 ps c b∧(b=true→Ws X H0 O0 E body { D with nx:=fun p=> ∃ m',m' < m∧Iv m' p,ct:=fun p=> ∃ m',m' < m∧Iv m' p,bk:=D.nx } ps)∧(b=false→D.nx ps)):W1 X H0 O0 E (.While c body [] pos) D ps:=by
 have ht:PT X c fun σ H Q=> ∃ ps b,Tt X H0 O0 ps c b∧∃ O,Rs X.K H0 O0 ps σ H O∧∀ H',ay H H'→Q b H':=fun pins s σ H Q I ⟨ps,b,t,z⟩=> t pins s σ H Q I z
 have hb:PSs X body fun D' σ H=> ∃ D1 ps',Ws X H0 O0 E body D1 ps'∧Lf X.K H0 O0 E D1 D'∧∃ O,Rs X.K H0 O0 ps' σ H O:=fun pins s σ H D' I ⟨D1,ps',w,z⟩=> w pins s σ H D' I z
 refine PS.mono (mL hp ht hb) fun D' σ H ⟨L,O,R⟩=> ⟨fun m σ H=> ∃ ps O,Iv m ps∧Rs X.K H0 O0 ps σ H O,⟨m,ps,O,h0,R⟩,?_⟩
 rintro m σ2 H2 ⟨ps2,O2,iv,R2⟩
 obtain ⟨b,t,h1,h2⟩:=hs m ps2 iv
 refine ⟨ps2,b,t,O2,R2,fun H3 s3=> ?_⟩
 cases b with
 | true=>
  refine mG ⟨fun σ H=> ∃ m',m' < m∧∃ ps O,Iv m' ps∧Rs X.K H0 O0 ps σ H O,fun σ' H' z=> z,_,ps2,h1 rfl,?_,O2,R2.go s3⟩
  exact ⟨fun p σ H O R ⟨m',l,q⟩=> ⟨m',l,p,O,q,R⟩,fun p σ H O R q=> L.nx _ _ _ _ R q,fun p σ H O R ⟨m',l,q⟩=> ⟨m',l,p,O,q,R⟩,L.rt⟩
 | false=> exact lg (L.nx _ _ _ _ (R2.go s3) (h2 rfl))
def dL:List Nat→PSt→PSt
 | [],ps=> ps
 | i::is,ps=> dL is (ps.set i none)
theorem Rs.mask {K:PySem.W.Frag} {H:Hp} {O:List Addr}:∀ {is:List Nat} {ps:PSt} {σ:St},Rs K H0 O0 ps σ H O→Rs K H0 O0 (dL is ps) (L2.mask is σ) H O
 | [],ps,σ,R=> R
 | i::is,ps,σ,R=> Rs.mask (is:=is) (R.drop (i:=i) (o:=none))
theorem Rs.hide {K:PySem.W.Frag} {σ:St} {H H':Hp} {O:List Addr} {l:Addr} (R:Rs K H0 O0 ps σ H O) (e:ay H H') (n:H l=none) (d:H' l≠none):Rs K H0 O0 ps σ H' (l::O):=by
 refine ⟨R.same.trans e,fun a ha=> List.mem_cons_of_mem _ (R.old a ha),fun a ha=> ?_,fun a ha z=> ?_,R.len,fun i s h=> ?_,R.inj⟩
 ·rcases List.mem_cons.mp ha with y | y
  ·subst y; exact .inr (R.same.free n)
  ·exact R.new a y
 ·rcases List.mem_cons.mp ha with y | y
  ·subst y; exact d z
  ·exact R.dom a y (e.free z)
 ·obtain ⟨w,h1,h2⟩:=R.at_ i s h
  refine ⟨w,h1,?_⟩
  cases s with
  | val u=> exact Rp.same (ba e n) h2
  | own ys=>
   obtain ⟨b,ws,k1,k2,k3,k4,k5⟩:=h2
   exact ⟨b,ws,k1,List.mem_cons_of_mem _ k2,k3,e _ _ k4,k5.same (ba e n)⟩
  | pin z u=> exact ⟨h2.1,Rp.same (ba e n) h2.2⟩
theorem ip {js is:List Nat}:∀ {σ:St} {vs:List V},(∀ j∈js,j∈is)→∀ (n:Nat) (v:V),n ∉ is→σ[n]?=some (some v)→(e9 σ js vs)[n]?=some (some v):=by
 induction js with
 | nil=> intro σ vs _ n v _ h; cases vs <;> exact h
 | cons j js ih=>
  intro σ vs hj n v hn h
  cases vs with
  | nil=> exact h
  | cons w ws=> exact ih (fun z hz=> hj z (List.mem_cons_of_mem _ hz)) n v hn (by rw [List.getElem?_set_ne (fun z=> hn (by rw [← z]; exact hj j List.mem_cons_self))]; exact h)
def GOk (g:TG) (K:PySem.W.Frag) (is:List Nat) (f:PSt→U→PSt) (dom:U→Prop):Prop:=
 ∀ (H0:Hp) (O0:List Addr) (ps:PSt) (σ:St) (H:Hp) (O:List Addr) (v:V) (u:U) (Q:St→Hp→Prop),dom u→Rs K H0 O0 ps σ H O→Rp K (hid H O) v u→
  (∀ σ',Rs K H0 O0 (f ps u) σ' H O→(∀ (n:Nat) (w:V),n ∉ is→σ[n]?=some (some w)→σ'[n]?=some (some w))→Q σ' H)→g v σ H Q
theorem fu {K:PySem.W.Frag} {is:List Nat} {i:Nat} (h:i∈is):GOk (j0 i) K is (fun ps u=> ps.set i (some (.val u))) fun _=> True:=fun H0 O0 ps σ H O v u Q _ R r q=>
 q _ (R.set r) fun n w hn e=> by rw [List.getElem?_set_ne (fun z=> hn (by rw [← z]; exact h))]; exact e
theorem m4 {K:PySem.W.Frag} {is js:List Nat} (h:∀ j∈js,j∈is):GOk (qk K js.length (iS js)) K is (fun ps u=> match u with | .tup us=> setAll ps js us | _=> ps) fun u=> ∃ us,u=.tup us∧us.length=js.length:=fun H0 O0 ps σ H O v u Q d R r q=> by
 obtain ⟨us,rfl,hl⟩:=d
 cases r with
 | tup hq hl' hh=> exact ⟨_,_,rfl,am.tup hq,hl'.trans hl,gl (hl'.trans hl) (q _ (R.setAll ⟨hl',hh⟩) fun n w hn e=> ip h n w hn e)⟩
theorem kj {is:List Nat} {g:TG} {f:PSt→U→PSt} {dom:U→Prop} {σ:St} {H1:Hp} {O:List Addr} {Q:VK} {J:It} {te:TE} (hg:GOk g X.K is f dom) (R1:Rs X.K H0 O0 ps σ H1 O) (Y:Yl X.K J (hid H1 O) xs) (hlen:ys.length=xs.length) (hz:xs.length≤sizeLine) (hdom:∀ x∈xs,dom x)
  (hte:∀ (i:Nat) (x y:U) (σ:St) (H:Hp) (O':List Addr) (Q:VK),xs[i]?=some x→ys[i]?=some y→Rs X.K H0 O0 (f (dL is ps) x) σ H O'→(∀ v H',ay H H'→Rp X.K (hid H' O') v y→Q v H')→te σ H Q)
  (fin:∀ a vs H',ay H1 H'→H1 a=none→H' a=some (.lst vs)→Rps X.K (hid H' (a::O)) vs ys→Q (.ref a) H'):oI is g te σ Q J H1:=by
 intro l hl
 refine ⟨fun i m H2=> m=xs.length - i∧i≤xs.length∧ay H1 H2∧∃ vs,H2 l=some (.lst vs)∧vs.length=i∧Rps X.K (hid H2 (l::O)) vs (ys.take i),⟨_,rfl,Nat.zero_le _,av hl _,[],aE,rfl,by rw [List.take_zero]; exact .nil⟩,?_⟩
 rintro i m H2 ⟨rfl,hi,s2,vs,h2,hv,rs⟩
 have seen:ay (hid H1 O) (hid H2 (l::O)):=ba s2 hl
 obtain ⟨y1,y2⟩:=Y H2 (seen.trans am)
 by_cases hlt:i < xs.length
 ·obtain ⟨g1,g2⟩:=y1 i hlt
  refine .inr ⟨g1,fun x H3 y=> ?_⟩
  obtain ⟨rfl,u,hu,r⟩:=g2 x H3 y
  have R2:=(R1.mask (is:=is)).hide s2 hl (by rw [h2]; intro z; cases z)
  refine hg H0 O0 _ _ H3 (l::O) x u _ (hdom u (List.mem_of_getElem? hu)) R2 (r.same seen) fun σ4 R4 keep=> ?_
  have hy:ys[i]?=some (ys[i]'(by omega)):=List.getElem?_eq_getElem _
  refine hte i u _ σ4 H3 (l::O) _ hu hy R4 fun v H5 s5 r5=> ⟨fun j w e=> keep j w (dQ is σ j w e).2 e,vs,s5 _ _ h2,?_,xs.length - (i+1),by omega,rfl,hlt,(s2.trans s5).put hl _,vs++[v],aE,by simp [hv],?_⟩
  ·rw [hv]; omega
  ·rw [gK List.mem_cons_self,List.take_succ,hy]
   exact (rs.same (aW s5)).snoc (.cons r5 .nil)
 ·have e:i=xs.length:=by omega
  subst e
  rw [← hlen,List.take_length] at rs
  exact .inl ⟨y2,fin l vs H2 s2 hl h2 rs⟩
theorem jt {elt:Expr} {scope:Scope} {cl:List (Str×Addr)} {is:List Nat} {g:TG} {f:PSt→U→PSt} {dom:U→Prop} (hc:X.calm=true) (B:cr X scope cl is) (hi:EvI X H0 O0 ps tg iter xs) (hg:∀ C s H fp,PG (al X scope cl C s H fp) tg g) (gk:GOk g X.K is f dom)
  (hlen:ys.length=xs.length) (hz:xs.length≤sizeLine) (hdom:∀ x∈xs,dom x) (he:∀ C s H fp (i:Nat) (x y:U),xs[i]?=some x→ys[i]?=some y→Ev (al X scope cl C s H fp) H0 O0 (f (dL is ps) x) elt y)
  (hs:∀ x,foldedSetIterable iter X.env x=pure x:=by intro _; rfl):EvN X H0 O0 ps (.ListComp elt [⟨tg,iter,[],0⟩] scope pos) ys:=by
 have hte:∀ C s H fp,PE (al X scope cl C s H fp) elt fun σ H Q=> ∃ i x y,xs[i]?=some x∧ys[i]?=some y∧∃ O',Rs X.K H0 O0 (f (dL is ps) x) σ H O'∧∀ v H',ay H H'→Rp X.K (hid H' O') v y→Q v H':=
  fun C s H fp pins s' σ H' Q I ⟨i,x,y,h1,h2,z⟩=> he C s H fp i x y h1 h2 pins s' σ H' Q I z
 refine PE.mono (n4 hc B hi hg hte hs) fun σ H Q ⟨O,R,q⟩=> ⟨O,R,fun J H1 s1 Y=> ?_⟩
 exact kj gk (R.go s1) Y hlen hz hdom (fun i x y σ H O' Q h1 h2 R' z=> ⟨i,x,y,h1,h2,O',R',z⟩) fun a vs H' s n h r=> q a vs H' (s1.trans s) (s1.free n) h r
end
end L2
namespace L2
open PySem PySem.Spec PyProof.Rows
def spU (K:PySem.W.Frag) (spec:List U→Out→Prop):Sp:=fun vs H Q E=> ∃ us O o,(∀ a∈O,H a≠none)∧Rps K (hid H O) vs us∧spec us o∧ii K H O Q E o
section
variable {X:Cx} {H0:Hp} {O0:List Addr} {E:XK} {ps ps':PSt} {D:PD} {s:Stmt} {ss body:List Stmt} {a b c e:Expr} {es:List Expr} {pos p:Pos} {u x y:U} {xs ys us:List U} {k:Bool}
 {CX:CXT} {n:Nat} {f C:Addr} {fd:FuncData} {pn:List Str} {spec:List U→Out→Prop} {nm:Str}
theorem aF (F:a_ X.prog X.w X.K X.mg X.base CX n f fd pn (spU X.K spec)) (hr:cg n X.A) (hg:Gl X nm) (hm:X.mg nm=some (.ref f)) (hk:PySem.W.keepIn X.K (.ref f)=true) (hb:aO X.K fd pn []) (hx:bR CX X E0)
  (ha:EvA X H0 O0 ps (e::es) us) (h:spec us (.val u)) (hdb:(nm==("__debug__":Str))=false:=by decide) (he:starEach (e::es) X.env=(false,eval e X.env)::starEach es X.env:=by rfl) (hpl:(backTo pos (starEach es X.env)).any (·.1)=false:=by rfl):
  Ev X H0 O0 ps (.Call (.Name nm p) (e::es) [] pos) u:=
 PE.mono (eV F hr hg hm hk hb .nil hx ha hdb he hpl) fun σ H Q ⟨O,R,q⟩=> ⟨O,R,fun vs H1 s1 r1=> by
  show spU X.K spec (vs++[]) H1 Q _
  rw [List.append_nil]
  exact ⟨us,O,.val u,(R.go s1).dom,r1,h,fun v H2 s2 r2=> q v H2 (s1.trans s2) r2⟩⟩
theorem cm (F:a_ X.prog X.w X.K X.mg X.base CX n f fd pn (spU X.K spec)) (hr:cg n X.A) (hg:Gl X nm) (hm:X.mg nm=some (.ref f)) (hk:PySem.W.keepIn X.K (.ref f)=true) (hb:aO X.K fd pn []) (hx:bR CX X E0)
  (ha:EvA X H0 O0 ps (e::es) us) (h:spec us (.new xs)) (hdb:(nm==("__debug__":Str))=false:=by decide) (he:starEach (e::es) X.env=(false,eval e X.env)::starEach es X.env:=by rfl) (hpl:(backTo pos (starEach es X.env)).any (·.1)=false:=by rfl):
  EvN X H0 O0 ps (.Call (.Name nm p) (e::es) [] pos) xs:=
 PE.mono (eV F hr hg hm hk hb .nil hx ha hdb he hpl) fun σ H Q ⟨O,R,q⟩=> ⟨O,R,fun vs H1 s1 r1=> by
  show spU X.K spec (vs++[]) H1 Q _
  rw [List.append_nil]
  exact ⟨us,O,.new xs,(R.go s1).dom,r1,h,fun a vs H2 s2 n2 h2 r2=> q a vs H2 (s1.trans s2) (s1.free n2) h2 r2⟩⟩
def Xv (X:Cx) (H0:Hp) (O0:List Addr) (E:XK) (ps:PSt) (e:Expr) (C:Addr):Prop:=PE X e fun σ H _=> ∃ O,Rs X.K H0 O0 ps σ H O∧∀ H',ay H H'→E (.ref C) none H'
theorem kU (F:a_ X.prog X.w X.K X.mg X.base CX n f fd pn (spU X.K spec)) (hr:cg n X.A) (hg:Gl X nm) (hm:X.mg nm=some (.ref f)) (hk:PySem.W.keepIn X.K (.ref f)=true) (hb:aO X.K fd pn []) (hx:bR CX X E)
  (ha:EvA X H0 O0 ps (e::es) us) (h:spec us (.exc C)) (hdb:(nm==("__debug__":Str))=false:=by decide) (he:starEach (e::es) X.env=(false,eval e X.env)::starEach es X.env:=by rfl) (hpl:(backTo pos (starEach es X.env)).any (·.1)=false:=by rfl):
  Xv X H0 O0 E ps (.Call (.Name nm p) (e::es) [] pos) C:=
 PE.mono (eV F hr hg hm hk hb .nil hx ha hdb he hpl) fun σ H Q ⟨O,R,q⟩=> ⟨O,R,fun vs H1 s1 r1=> by
  show spU X.K spec (vs++[]) H1 Q _
  rw [List.append_nil]
  exact ⟨us,O,.exc C,(R.go s1).dom,r1,h,fun H2 s2=> q H2 (s1.trans s2)⟩⟩
theorem nk (he:Xv X H0 O0 E ps e C) (h:D.rt (.exc C)) (hs:swapsWith e none pos.line X.env=pure false:=by rfl):W1 X H0 O0 E (.Expr e pos) D ps:=
 PS.mono (eW he hs) fun D' σ H ⟨L,O,R⟩=> ⟨O,R,fun H' s=> L.rt _ h H' (R.same.trans s)⟩
theorem pW (he:Xv X H0 O0 E ps e C) (h:D.rt (.exc C)):W1 X H0 O0 E (.Return (some e) pos) D ps:=
 PS.mono (g8 he) fun D' σ H ⟨L,O,R⟩=> ⟨O,R,fun H' s=> L.rt _ h H' (R.same.trans s)⟩
end
section
variable {P:Program} {w:World} {K:PySem.W.Frag} {mg:Str→Option Value} {base:Heap} {N pn:List Str} {qual nm:Str} {scope:Scope} {f:Addr} {cd:Value} {A:Around} {outer:List Env} {s:Shared} {H H0:Hp} {O0:List Addr} {E:XK} {D:PD} {ps:PSt} {u:U}
theorem jU {x:Str} {C:Addr} {e0:Expr} {np cpos pos:Pos} (hex:PySem.W.excIn K C [.type "ValueError",.type "Exception",.type "BaseException",.type "object"] "ValueError.__new__"=true)
  (hg:Gl (cn (CXF P w) P w K mg base N qual scope f cd A outer s H E) x) (hm:mg x=some (.ref C)) (he:Ev (cn (CXF P w) P w K mg base N qual scope f cd A outer s H E) H0 O0 ps e0 u) (h:D.rt (.exc C))
  (hst:starEach [e0] (cn (CXF P w) P w K mg base N qual scope f cd A outer s H E).env=[(false,eval e0 (cn (CXF P w) P w K mg base N qual scope f cd A outer s H E).env)]:=by rfl) (hd:(x==("__debug__":Str))=false:=by decide):
  W1 (cn (CXF P w) P w K mg base N qual scope f cd A outer s H E) H0 O0 E (.Raise (some (.Call (.Name x np) [e0] [] cpos)) none pos) D ps:=
 PS.mono (mD hex hg hm he hst hd) fun D' σ H ⟨L,O,R⟩=> ⟨O,R,fun v H' s r=> L.rt _ h H' (R.same.trans s)⟩
def gI (N:List Str) (us:List U):PSt:=us.map (fun u=> some (.val u))++List.replicate (N.length - us.length) none
theorem bB {st:Stmt} {fd:FuncData} {k:Nat} {spec:List U→Out→Prop} (F:Fun K nm qual st f fd) (S:aC N pn (ai st)) (len:∀ us o,spec us o→us.length=pn.length)
  (hbody:∀ (cdv:Value) (A:Around) (outer:List Env) (s:Shared) (H:Hp) (E:XK) (O:List Addr) (us:List U) (o:Out),cg k (A.deeper (envOfC qual (ai st) s.heap.objs.size f cdv))→spec us o→
   Ws (cn (CXF P w) P w K mg base N qual (ai st) f cdv A outer s H E) H O E (au st) ⟨fun _=> o=.val .non,fun o'=> o'=o,fun _=> False,fun _=> False⟩ (gI N us)):a_ P w K mg base (CXF P w) (k+1) f fd pn (spU K spec):=by
 refine F.okF S (fun vs H Q E h=> ?_) fun cdv A outer s H vs Q E hr h=> ?_
 ·obtain ⟨us,O,o,_,r,hsp,_⟩:=h
  rw [r.len]; exact len us o hsp
 ·obtain ⟨us,O,o,d,r,hsp,q⟩:=h
  refine ⟨_,hbody cdv A outer s H E O us o hr hsp,⟨fun ps σ H' O' R e=> ?_,fun _ _ _ _ _ e=> e.elim,fun _ _ _ _ _ e=> e.elim,fun o' e=> by subst e; exact q⟩,O,?_⟩
  ·subst e; exact q .non H' R.same .non
  ·refine ⟨.refl H,fun a h=> h,fun a h=> .inl h,d,?_,fun i sl e=> ?_,fun i j xs ys a e1 e2 _ _=> ?_⟩
   ·unfold start gI
    rw [List.length_append,List.length_append,List.length_map,List.length_map,List.length_replicate,List.length_replicate,r.len]
   ·unfold gI at e
    by_cases hi:i < us.length
    ·rw [List.getElem?_append_left (by simpa using hi),List.getElem?_map,List.getElem?_eq_getElem hi] at e
     cases e
     obtain ⟨v,h1,h2⟩:=r.get (List.getElem?_eq_getElem hi)
     refine ⟨v,?_,h2⟩
     unfold start
     rw [List.getElem?_append_left (by simpa [r.len] using hi),List.getElem?_map,h1]; rfl
    ·rw [List.getElem?_append_right (by simpa using hi),List.getElem?_replicate] at e
     split at e <;> cases e
   ·exfalso
    unfold gI at e1
    by_cases hi:i < us.length
    ·rw [List.getElem?_append_left (by simpa using hi),List.getElem?_map,List.getElem?_eq_getElem hi] at e1
     cases e1
    ·rw [List.getElem?_append_right (by simpa using hi),List.getElem?_replicate] at e1
     split at e1 <;> cases e1
end
section
variable {X:Cx} {H0:Hp} {O0:List Addr} {ps:PSt} {a b c e:Expr} {es rest:List Expr} {pos p p2:Pos} {u x y:U} {xs ys us:List U} {i j:Int} {k m:Bool} {lo hi:Option Expr} {l h:Option Int}
def EvO (X:Cx) (H0:Hp) (O0:List Addr) (ps:PSt) (e:Option Expr) (n:Option Int):Prop:=PO X e fun σ H Q=> ∃ O,Rs X.K H0 O0 ps σ H O∧∀ H',ay H H'→Q n H'
theorem eG:EvO X H0 O0 ps none none:=fun pins s σ H Q I ⟨O,R,q⟩=> nN pins s σ H Q I (q H (.refl H))
theorem eH (he:Ev X H0 O0 ps e (.int i)):EvO X H0 O0 ps (some e) (some i):=fun pins s σ H Q I ⟨O,R,q⟩=> m7 he pins s σ H Q I ⟨O,R,fun v H' s r=> by cases r; exact ⟨i,rfl,q H' s⟩⟩
def jc (xs:List U) (lo hi:Option Int):List U:=(xs.drop (HT.sIx xs.length 0 lo)).take (HT.sIx xs.length xs.length hi - HT.sIx xs.length 0 lo)
theorem Rps.drop {K:PySem.W.Frag} {H:Hp} {vs:List V} {xs:List U} (r:Rps K H vs xs) (n:Nat):Rps K H (vs.drop n) (xs.drop n):=⟨by simp [r.len],fun i v x h1 h2=> r.at_ _ v x (by rwa [List.getElem?_drop] at h1) (by rwa [List.getElem?_drop] at h2)⟩
theorem Rps.take {K:PySem.W.Frag} {H:Hp} {vs:List V} {xs:List U} (r:Rps K H vs xs) (n:Nat):Rps K H (vs.take n) (xs.take n):=⟨by simp [r.len],fun i v x h1 h2=> by
 by_cases hn:i < n
 ·rw [List.getElem?_take_of_lt hn] at h1 h2
  exact r.at_ i v x h1 h2
 ·rw [List.getElem?_take_eq_none (by omega)] at h1
  cases h1⟩
theorem Rps.cut {K:PySem.W.Frag} {H:Hp} {vs:List V} {xs:List U} (r:Rps K H vs xs):Rps K H (gS vs l h) (jc xs l h):=by
 unfold gS jc
 rw [r.len]
 exact (r.drop _).take _
theorem dO (he:Ev X H0 O0 ps e x) (hl:EvO X H0 O0 ps lo l) (hh:EvO X H0 O0 ps hi h) (hx:x=.lst xs∨x=.scr xs):EvN X H0 O0 ps (.Subscript e (.Slice lo hi none p2) pos) (jc xs l h):=
 PE.mono (iy nO he hl hh) fun σ H Q ⟨O,R,q⟩=> ⟨O,R,fun v H1 s1 r1=> ⟨O,R.go s1,fun H2 s2=> ⟨O,R.go (s1.trans s2),fun H3 s3=> by
  have key:∃ a vs,v=.ref a∧SqL X.K (hid H1 O) a vs∧Rps X.K (hid H1 O) vs xs:=by
   rcases hx with rfl | rfl
   ·cases r1 with
    | lst hq hl hh=> exact ⟨_,_,rfl,SqL.of hq,hl,hh⟩
   ·cases r1 with
    | scr hq hl hh=> exact ⟨_,_,rfl,hq,hl,hh⟩
  obtain ⟨a,vs,rfl,hq,rs⟩:=key
  have s13:=s2.trans s3
  refine ⟨a,vs,rfl,s13.seq (am.seq hq),fun p hp=> q p _ _ ((s1.trans s13).trans (av hp _)) ((s1.trans s13).free hp) aE ?_⟩
  exact (rs.cut.same (aW s13)).same (ba (av hp _) hp)⟩⟩⟩
theorem me (he:Ev X H0 O0 ps e (.tup xs)) (hl:EvO X H0 O0 ps lo l) (hh:EvO X H0 O0 ps hi h) (hn:¬ (HT.sIx xs.length 0 l=0∧HT.sIx xs.length xs.length h=xs.length)):Ev X H0 O0 ps (.Subscript e (.Slice lo hi none p2) pos) (.tup (jc xs l h)):=
 PE.mono (iy o_ he hl hh) fun σ H Q ⟨O,R,q⟩=> ⟨O,R,fun v H1 s1 r1=> ⟨O,R.go s1,fun H2 s2=> ⟨O,R.go (s1.trans s2),fun H3 s3=> by
  cases r1 with
  | @tup a vs _ hq hl hh=>
   have rs:Rps X.K (hid H1 O) vs xs:=⟨hl,hh⟩
   have s13:=s2.trans s3
   refine ⟨_,_,rfl,s13.tup (am.tup hq),by rw [hl]; exact hn,fun p hp=> q _ _ ((s1.trans s13).trans (av hp _)) ?_⟩
   have r2:=(rs.cut (l:=l) (h:=h)).same (aW (O:=O) (s13.trans (av hp (.tup (gS vs l h)))))
   exact .tup (SqT.of ((R.go (s1.trans s13)).hidnew hp)) r2.len r2.at_⟩⟩⟩
theorem gg (ha:Ev X H0 O0 ps a (.lst xs)) (hb:Ev X H0 O0 ps b (.lst ys)) (hz:xs.length+ys.length≤sizeLine):EvN X H0 O0 ps (.BinOp a .Add b pos) (xs++ys):=
 PE.mono (iw pG ha hb) fun σ H Q ⟨O,R,q⟩=> two R (fun _ _ _ z=> z) (fun _ _ _ z=> z) fun v w H' s _ r1 r2=> by
  cases r1 with
  | lst hq hl hh=>
   cases r2 with
   | lst hq' hl' hh'=>
    refine ⟨_,_,_,_,rfl,rfl,am _ _ hq,am _ _ hq',by rw [hl,hl']; exact hz,fun p hp=> q p _ _ (s.trans (av hp _)) (s.free hp) aE ?_⟩
    exact (Rps.snoc ⟨hl,hh⟩ ⟨hl',hh'⟩).same (ba (av hp _) hp)
theorem p8 (ha:Ev X H0 O0 ps a (.tup xs)) (hb:Ev X H0 O0 ps b (.tup ys)) (hx:xs≠[]) (hy:ys≠[]) (hz:xs.length+ys.length≤sizeLine):Ev X H0 O0 ps (.BinOp a .Add b pos) (.tup (xs++ys)):=
 PE.mono (iw m9 ha hb) fun σ H Q ⟨O,R,q⟩=> two R (fun _ _ _ z=> z) (fun _ _ _ z=> z) fun v w H' s R' r1 r2=> by
  cases r1 with
  | @tup a1 vs _ hq hl hh=>
   cases r2 with
   | @tup a2 ws _ hq' hl' hh'=>
    refine ⟨_,_,_,_,rfl,rfl,am.tup hq,am.tup hq',fun z=> hx (List.length_eq_zero_iff.mp (by rw [← hl,z]; rfl)),by rw [hl,hl']; exact hz,fun z=> absurd (List.length_eq_zero_iff.mp (by rw [← hl',z]; rfl)) hy,fun _ p hp=> q _ _ (s.trans (av hp _)) ?_⟩
    have r2:=(Rps.snoc ⟨hl,hh⟩ ⟨hl',hh'⟩).same (aW (O:=O) (av hp (.tup (vs++ws))))
    exact .tup (SqT.of (R'.hidnew hp)) r2.len r2.at_
def fl:U→V
 | .bl b=> .bl b | .int i=> .int i | .str x=> .str x | _=> .non
def mS:U→Bool
 | .bl _=> true | .int _=> true | .str _=> true | .non=> true | _=> false
theorem oN {K:PySem.W.Frag} {H:Hp} {v:V} {u:U} (h:Rp K H v u) (f:mS u=true):v=fl u∧dw v=true:=by
 cases h <;> first | exact ⟨rfl,rfl⟩ | simp [mS] at f
theorem la {K:PySem.W.Frag} {H:Hp}:∀ {vs:List V} {xs:List U},Rps K H vs xs→xs.all mS=true→vs=xs.map fl∧vs.all dw=true
 | vs,[],r,_=> by rw [r.nil_inv]; exact ⟨rfl,rfl⟩
 | vs,x::xs,r,f=> by
  obtain ⟨v,ws,rfl,h1,h2⟩:=r.cons_inv
  simp only [List.all_cons,Bool.and_eq_true] at f
  obtain ⟨e1,e2⟩:=oN h1 f.1
  obtain ⟨e3,e4⟩:=la h2 f.2
  refine ⟨by rw [List.map_cons,← e1,← e3],?_⟩
  simp only [List.all_cons,Bool.and_eq_true]
  exact ⟨e2,e4⟩
theorem rq (hx:mS x=true) (hy:y.items=some ys) (hf:ys.all mS=true):OpS X (compareOp .In) x y (.bl (inV (fl x) (ys.map fl))):=by
 intro pins s σ H v w p q Q I r1 r2 h
 obtain ⟨k1,k2,k3⟩:=h
 obtain ⟨a,vs,rfl,h1,h2⟩:=gE k2 hy
 obtain ⟨e1,e2⟩:=oN k1 hx
 obtain ⟨e3,e4⟩:=la h2 hf
 exact kR pins s σ H v _ p q Q I r1 r2 ⟨a,vs,rfl,h1,e2,e4,by rw [e1,e3]; exact k3⟩
theorem qS {bs:List Bool} (hc:X.calm=true):fq X (.builtin "all") [.lst (bs.map U.bl)] (.bl (bs.all id)):=by
 intro pins s σ H vs us Q I r hq
 obtain ⟨O,d,rs,q⟩:=hq
 obtain ⟨v,rfl,h1⟩:=eZ rs
 obtain ⟨p1,rfl,r1⟩:=iB r
 cases h1 with
 | @lst a ws _ hq hl hh=>
  cases r1
  obtain ⟨its,rv,pl,_⟩:=I.list (SqL.of (am _ _ hq))
  have hlen:its.length=bs.length:=by rw [← rv.length,hl,List.length_map]
  have hat:∀ (i:Nat) (z:Value),its.toArray[i]?=some z→z=.bool (bs.getD i false):=fun i z e=> by
   have hi:i < its.length:=by have:=aM (show its[i]?=some z by simpa using e); exact this
   have hb:i < bs.length:=by omega
   have hw:i < ws.length:=by rw [rv.length]; exact hi
   obtain ⟨u,e1,e2⟩:=rv.get (List.getElem?_eq_getElem hw)
   have e3:=hh i ws[i] (.bl bs[i]) (List.getElem?_eq_getElem hw) (by rw [List.getElem?_map,List.getElem?_eq_getElem hb]; rfl)
   have e4:its[i]?=some z:=by simpa using e
   rw [e4] at e1
   cases e1
   generalize ws[i]=wi at *
   cases e3
   rw [List.getD_eq_getElem?_getD,List.getElem?_eq_getElem hb]
   exact e2
  refine call_all_walk (wpAny_pyIter_list pl.isList ?_)
  have hne:a≠s.heap.objs.size:=by obtain ⟨o,e,_⟩:=pl.isList; exact Nat.ne_of_lt (Heap.lt_size e)
  refine ⟨s.heap.objs.size,_,_,_,_,_,fun i=> bs.getD i false,rfl,Walks.list (A:=X.A.in1) (I.ok.hd hc) s.heap.objs.size a hne its.toArray,⟨⟨_,Heap.get?_push_size _ rfl,rfl,rfl⟩,pl.isList.push _⟩,fun i z s' Q' E' hP hQ=> ?_,fun h' tk hk=> ?_⟩
  ·rw [hat i z hP]; exact wpAny_truthy_bool hQ
  ·have e:(List.range its.toArray.size).all (fun i=> bs.getD i false)=bs.all id:=by
    rw [List.size_toArray,hlen,Bool.eq_iff_iff,fZ,List.all_eq_true]
    constructor
    ·intro h x hx
     obtain ⟨i,hi,rfl⟩:=List.getElem_of_mem hx
     have:=h i hi
     rwa [List.getD_eq_getElem?_getD,List.getElem?_eq_getElem hi] at this
    ·intro h j hj
     rw [List.getD_eq_getElem?_getD,List.getElem?_eq_getElem hj]
     exact h _ (List.getElem_mem hj)
   rw [e]
   refine ⟨.bl _,H,I.kept (t':=tk) fun b o e=> hk b o ?_ (Heap.get?_push_of_some _ e),rfl,q _ H (.refl H) (.bl _)⟩
   intro z
   have:b=s.heap.objs.size:=by simpa using z
   exact absurd (Heap.lt_size e) (by rw [this]; exact Nat.lt_irrefl _)
end
end L2
namespace L2
open PySem PySem.Spec PyProof.Rows
section
variable {X:Cx} {pins:List (Addr×Obj)} {σ:St} {H:Hp} {s:Shared}
end
section
variable {X:Cx} {H0:Hp} {O0:List Addr} {E:XK} {ps ps':PSt} {D:PD} {tg iter cond:Expr} {pos p:Pos} {xs:List U} {fs:List (Option U)}
end
end L2
namespace L2
open PySem PySem.Spec PyProof.Rows
inductive pI:List (Option Expr)→List Expr→Prop where
 | nil:pI [] []
 | cons {k v:Int} {a b:Nat} {p q:Pos} {ks:List (Option Expr)} {vs:List Expr} (h:pI ks vs):pI (some (.Constant (.int k) a p)::ks) (.Constant (.int v) b q::vs)
section
variable {X:Cx} {H0:Hp} {O0:List Addr} {ps:PSt} {pos:Pos} {keys:List (Option Expr)} {values:List Expr} {k m:Bool}
theorem j3:OpS X (compareOp .IsNot) (.bl k) (.bl m) (.bl (!(k==m))):=by
 intro pins s σ H v w p q Q I r1 r2 h
 obtain ⟨k1,k2,k3⟩:=h
 cases k1; cases k2
 cases (show p=Value.bool k from r1); cases (show q=Value.bool m from r2)
 refine wpAny_isNot_plain (by cases k <;> cases m <;> rfl) (aA I k3 ?_)
 cases k <;> cases m <;> rfl
end
end L2
namespace L2
open PySem PySem.Spec PyProof.Rows
theorem Ws.nox {X:Cx} {H0:Hp} {O0:List Addr} {E:XK} {ss:List Stmt} {D:PD} {ps:PSt} (h:Ws X.nox H0 O0 E ss D ps):Ws X H0 O0 E ss D ps:=PSs.nox h
theorem a_.calm {P:Program} {w:World} {K:PySem.W.Frag} {mg:Str→Option Value} {base:Heap} {k:Nat} {f:Addr} {fd:FuncData} {ps:List Str} {sp:Sp} (F:a_ P w K mg base (CXF P w) k f fd ps sp) (h:∀ vs H Q E,sp vs H Q E→sp vs H Q E0):a_ P w K mg base CX0 k f fd ps sp:=by
 refine ⟨F.len,fun A outer s H args us vs Q E hr he hb hv hs=> codeAny_mono (F.run A outer s H args us vs Q E0 hr he hb hv (h _ _ _ _ hs)) fun r s' q=> ?_⟩
 cases r with
 | ok fl=>
  cases fl with
  | ret u=> exact q
  | next=> exact q
  | brk=> exact q
  | cont=> exact q
 | error e=>
  obtain ⟨_,_,_,_,_,_,_,_,_,_,_,_,_,_,_,hE⟩:=q
  exact hE.elim
def d4:List U→Out→Prop:=fun us o=> ∃ ns:List Int,us=[.scr (ns.map U.int)]∧ns.length≤63∧(∀ m∈ns,Sz 1048576 m)∧o=.val (.bl true)
theorem kT {K:PySem.W.Frag} (vs:List V) (H:Hp) (Q:VK) (E:XK) (h:spU K d4 vs H Q E):spU K d4 vs H Q E0:=by
 obtain ⟨us,O,o,d,r,⟨ns,h1,h2,h3,rfl⟩,q⟩:=h
 exact ⟨us,O,_,d,r,⟨ns,h1,h2,h3,rfl⟩,q⟩
theorem kE {K:PySem.W.Frag} {H:Hp} {a:Addr} {ns:List Int} {E:XK} (h1:ns.length≤63) (h2:∀ m∈ns,Sz 1048576 m) (h3:SqL K H a (ns.map V.int)):spU K d4 [.ref a] H (fun v _=> v=.bl true) E:=by
 refine ⟨[.scr (ns.map U.int)],[],.val (.bl true),fun a ha=> (nomatch ha),.cons ?_ .nil,⟨ns,rfl,h1,h2,rfl⟩,fun v H' s r=> by cases r; rfl⟩
 have e:hid H []=H:=by funext b; unfold hid; rw [if_neg (by simp)]
 rw [e]
 refine .scr h3 (by simp) fun i v x e1 e2=> ?_
 rw [List.getElem?_map] at e1 e2
 cases q:ns[i]? with
 | none=> rw [q] at e1; cases e1
 | some n=> rw [q] at e1 e2; cases e1; cases e2; exact .int n
theorem fC {k:Nat} {A:Around} (hr:cg k A):A.units+10 < cLine:=by have:=hr.un; omega
theorem mQ {ns:List Int} {k:Int} (h0:0≤k) (h:k < (ns.length:Int)):atI (ns.map U.int) k=some (.int (ns.getD k.toNat 0)):=by
 have hk:k.toNat < ns.length:=by omega
 have q:atI (ns.map U.int) ((k.toNat:Nat):Int)=some (.int (ns.getD k.toNat 0)):=jP (by rw [List.getElem?_map,List.getD_eq_getElem?_getD,List.getElem?_eq_getElem hk] <;> rfl)
 rwa [show ((k.toNat:Nat):Int)=k by omega] at q
theorem nU {ns:List Int} (h:∀ m∈ns,Sz 1048576 m) (i:Nat):Sz 1048576 (ns.getD i 0):=by
 by_cases hk:i < ns.length
 ·rw [List.getD_eq_getElem?_getD,List.getElem?_eq_getElem hk,Option.getD_some]; exact h _ (List.getElem_mem hk)
 ·rw [List.getD_eq_getElem?_getD,List.getElem?_eq_none (by omega),Option.getD_none]; exact Sz.mono (m:=8) (by decide) (by decide)
abbrev pt (x y:Int):U:=.tup [.int x,.int y]
theorem dTb {p:Prop} [Decidable p] (h:decide p=true):p:=of_decide_eq_true h
theorem dFb {p:Prop} [Decidable p] (h:decide p=false):¬ p:=of_decide_eq_false h
theorem nFb {p:Prop} [Decidable p] (h:(!decide p)=false):p:=by simpa using h
theorem vB {a b:Bool} (h:a=b):Out.val (.bl a)=Out.val (.bl b):=by rw [h]
theorem vIO {a b:Int} (h:a=b):Out.val (.int a)=Out.val (.int b):=by rw [h]
mutual
theorem l_:∀ (n:Nat) (u:U),okU n u=true→eqW u u=true
 | _,.non,_=> rfl
 | _,.bl b,_=> by simp [eqW]
 | _,.int b,_=> by simp [eqW]
 | _,.str b,_=> by simp [eqW]
 | _,.ty _,h=> by simp [okU] at h
 | _,.dic,h=> by simp [okU] at h
 | 0,.tup _,h=> by simp [okU] at h
 | 0,.lst _,h=> by simp [okU] at h
 | 0,.scr _,h=> by simp [okU] at h
 | n+1,.tup xs,h=> by rw [eqW]; rw [okU] at h; exact eqWs_refl n xs h
 | n+1,.lst xs,h=> by rw [eqW]; rw [okU] at h; exact eqWs_refl n xs h
 | n+1,.scr xs,h=> by rw [eqW]; rw [okU] at h; exact eqWs_refl n xs h
theorem eqWs_refl:∀ (n:Nat) (xs:List U),okUs n xs=true→eqWs xs xs=true
 | _,[],_=> rfl
 | n,x::xs,h=> by
  simp only [okUs,Bool.and_eq_true] at h
  simp only [eqWs,Bool.and_eq_true]
  exact ⟨l_ n x h.1,eqWs_refl n xs h.2⟩
end
theorem kW {α:Type} {n:Nat} {f:α→U} {l:List α} (h:∀ a∈l,okU n (f a)=true):okUs n (l.map f)=true:=by
 induction l with
 | nil=> rfl
 | cons a l ih=>
  rw [List.map_cons,okUs,Bool.and_eq_true]
  exact ⟨h a List.mem_cons_self,ih fun b hb=> h b (List.mem_cons_of_mem _ hb)⟩
theorem lF {α:Type} {n:Nat} {f:α→U} {l:List α} (h:∀ a,okU n (f a)=true):okU (n+1) (.lst (l.map f))=true:=by rw [okU]; exact kW fun a _=> h a
theorem iH {α:Type} {f:α→U} {p:α→α→Prop} [DecidableEq α] (hf:∀ a b,eqW (f a) (f b)=decide (a=b)):∀ (l m:List α),eqWs (l.map f) (m.map f)=decide (l=m)
 | [],[]=> rfl
 | [],_::_=> rfl
 | _::_,[]=> rfl
 | a::l,b::m=> by
  rw [List.map_cons,List.map_cons,eqWs,hf,iH (p:=p) hf l m,Bool.eq_iff_iff]
  simp
end L2
namespace L2
open PySem PySem.Spec PyProof.Rows
section
variable {X:Cx} {H0:Hp} {O0:List Addr} {E:XK} {ps:PSt} {D:PD} {a b c e:Expr} {rest:List Expr} {pos:Pos} {k:Bool}
theorem cX {tb fb:List Stmt} (hc:Tt X H0 O0 ps c k) (hk:k=true) (h:Ws X H0 O0 E tb D ps):W1 X H0 O0 E (.If c tb fb pos) D ps:=iE hc (fun _=> h) (fun e=> by rw [hk] at e; cases e)
theorem fS {tb fb:List Stmt} (hc:Tt X H0 O0 ps c k) (hk:k=false) (h:Ws X H0 O0 E fb D ps):W1 X H0 O0 E (.If c tb fb pos) D ps:=iE hc (fun e=> by rw [hk] at e; cases e) (fun _=> h)
theorem gZ (ha:Tt X H0 O0 ps a k) (hk:k=false):Tw X H0 O0 ps (.BoolOp .And (a::b::rest) pos) false:=by
 subst hk
 exact lO (m:=true) ha fun h=> by cases h
theorem fF (ha:Tt X H0 O0 ps a k) (hk:k=true):Tw X H0 O0 ps (.BoolOp .Or (a::b::rest) pos) true:=by
 subst hk
 exact iC (m:=true) ha fun h=> by cases h
theorem o3 (ha:Ev X H0 O0 ps a (.bl k)) (hk:k=false):Ev X H0 O0 ps (.BoolOp .And (a::b::rest) pos) (.bl false):=by
 subst hk
 exact dv (m:=true) ha fun h=> by cases h
end
end L2
namespace L2
open PySem PySem.Spec PyProof.Rows
section
variable {X:Cx} {H0:Hp} {O0:List Addr} {E:XK} {ps:PSt} {D:PD} {body:List Stmt} {tg iter c:Expr} {pos:Pos} {xs:List U} {α:Type}
theorem TgS.sub {p p':PSt} {u:U} {ps':PSt} (h:TgS X H0 O0 tg p u ps') (hs:SubP p p'):TgS X H0 O0 tg p' u ps':=PG.mono h fun v σ H Q ⟨O,R,r,q⟩=> ⟨O,R.sub hs,r,q⟩
theorem Tt.sub {p p':PSt} {e:Expr} {k:Bool} (h:Tt X H0 O0 p e k) (hs:SubP p p'):Tt X H0 O0 p' e k:=PT.mono h fun σ H Q ⟨O,R,q⟩=> ⟨O,R.sub hs,q⟩
theorem g7 (st:α→PSt) (Q:Nat→α→Prop) (hc:X.calm=true) (hp:PassesOwn (model X.prog X.w) X.A X.env X.xe) (hi:EvI X H0 O0 ps tg iter xs) (h0:∃ a,Q 0 a∧SubP (st a) ps)
  (hs:∀ (H0:Hp) (i:Nat) (x:U) (a:α),xs[i]?=some x→Q i a→∃ ps',TgS X H0 O0 tg (st a) x ps'∧Ws X H0 O0 E body { D with nx:=fun p=> ∃ b,Q (i+1) b∧SubP (st b) p,ct:=fun p=> ∃ b,Q (i+1) b∧SubP (st b) p,bk:=D.nx } ps')
  (hd:∀ a ps,Q xs.length a→SubP (st a) ps→D.nx ps) (hf:∀ x,foldedSetIterable iter X.env x=pure x:=by intro _; rfl):W1 X H0 O0 E (.For tg iter body [] pos) D ps:=
 qF hc hp hi (fun i ps=> ∃ a,Q i a∧SubP (st a) ps) h0 (fun H0 i x ps hx ⟨a,q,sb⟩=> by
  obtain ⟨ps',t,w⟩:=hs H0 i x a hx q
  exact ⟨ps',t.sub sb,w⟩) (fun ps ⟨a,q,sb⟩=> hd a ps q sb) hf
theorem h_ (st:α→PSt) (Q:Nat→α→Prop) (hp:PassesOwn (model X.prog X.w) X.A X.env X.xe) (h0:∃ m a,Q m a∧SubP (st a) ps)
  (hs:∀ m a,Q m a→∃ b,Tt X H0 O0 (st a) c b∧(b=true→Ws X H0 O0 E body { D with nx:=fun p=> ∃ m' a',m' < m∧Q m' a'∧SubP (st a') p,ct:=fun p=> ∃ m' a',m' < m∧Q m' a'∧SubP (st a') p,bk:=D.nx } (st a))∧(b=false→∀ ps,SubP (st a) ps→D.nx ps)):W1 X H0 O0 E (.While c body [] pos) D ps:=by
 obtain ⟨m,a,q,sb⟩:=h0
 refine mX hp (fun m ps=> ∃ a,Q m a∧SubP (st a) ps) m ⟨a,q,sb⟩ fun m ps ⟨a,q,sb⟩=> ?_
 obtain ⟨b,t,h1,h2⟩:=hs m a q
 refine ⟨b,t.sub sb,fun e=> ?_,fun e=> h2 e ps sb⟩
 refine fM (PSs.mono (h1 e) fun D' σ H ⟨L,O,R⟩=> ⟨⟨fun p σ H O R ⟨m',a',l,q',sb'⟩=> L.nx p σ H O R ⟨m',l,a',q',sb'⟩,L.bk,fun p σ H O R ⟨m',a',l,q',sb'⟩=> L.ct p σ H O R ⟨m',l,a',q',sb'⟩,L.rt⟩,O,R⟩) sb
end
abbrev P2:=Int×Int
abbrev pu (p:P2):U:=.tup [.int p.1,.int p.2]
abbrev lp (l:List P2):U:=.lst (l.map pu)
theorem oW (p q:P2):eqW (pu p) (pu q)=decide (p=q):=by
 obtain ⟨a,b⟩:=p
 obtain ⟨c,d⟩:=q
 simp only [pu,eqW,eqWs,Bool.and_true]
 rw [Bool.eq_iff_iff]; simp
theorem fh (l m:List P2):eqW (lp l) (lp m)=decide (l=m):=by rw [lp,lp,eqW]; exact iH (p:=fun _ _=> True) oW l m
theorem eK (l:List P2):okU 9 (lp l)=true:=lF fun _=> rfl
theorem mE {l:List P2} {i:Nat} {x:U} (h:(l.map pu)[i]?=some x):∃ p,l[i]?=some p∧p∈l∧x=pu p:=by
 rw [List.getElem?_map] at h
 cases q:l[i]? with
 | none=> rw [q] at h; cases h
 | some p=> rw [q] at h; cases h; exact ⟨p,rfl,List.mem_of_getElem? q,rfl⟩
theorem jN {α:Type} {l:List α} {f:α→U} {g:α→U} {i:Nat} {x y:U} (hx:(l.map f)[i]?=some x) (hy:(l.map g)[i]?=some y):∃ a,l[i]?=some a∧a∈l∧x=f a∧y=g a:=by
 rw [List.getElem?_map] at hx hy
 cases q:l[i]? with
 | none=> rw [q] at hx; cases hx
 | some p=> rw [q] at hx hy; cases hx; cases hy; exact ⟨p,rfl,List.mem_of_getElem? q,rfl,rfl⟩
end L2
namespace L2
open PySem PySem.Spec PyProof.Rows
theorem W1.mono {X:Cx} {H0:Hp} {O0:List Addr} {E:XK} {s:Stmt} {D:PD} {J:PSt→Prop} {ps:PSt} (h:W1 X H0 O0 E s { D with nx:=J } ps) (m:∀ ps,J ps→D.nx ps):W1 X H0 O0 E s D ps:=
 PS.mono h fun D' σ H ⟨L,O,R⟩=> ⟨⟨fun p σ H O R q=> L.nx p σ H O R (m p q),L.bk,L.ct,L.rt⟩,O,R⟩
theorem mV {X:Cx} {H0:Hp} {O0:List Addr} {E:XK} {s:Stmt} {ss:List Stmt} {D:PD} {ps:PSt} (J:PSt→Prop) (h1:W1 X H0 O0 E s { D with nx:=J } ps) (h2:∀ ps,J ps→Ws X H0 O0 E ss D ps):Ws X H0 O0 E (s::ss) D ps:=
 af (W1.mono (J:=J) (D:={ D with nx:=fun p=> Ws X H0 O0 E ss D p }) h1 h2)
end L2
namespace PySem.W
open PySem PySem.Spec PySem.Calls PyProof.Rows
theorem je {M:Model} {A:Around} {E:Value→Shared→Prop} {K:Frag} {s:Shared} {x C B:Addr} {Q:Bool→Shared→Prop} (X:K.In s.heap) (I:OfCls x C s.heap) (hT:typeIn K (.ref B)=some (.type "type")) (hc:(clsIn K B).isSome=true)
  (hB:mroIn K B (.type "BaseException")=some true) (hC:mroIn K C (.ref B)=some true) (h:Q true s):wpAny M A (excMatches (.ref x) (.ref B)) Q E s:=by
 have L1:Looks M s.heap (typeOf (.ref x)) (.ref C):=I.type
 have L2:Looks M s.heap (typeOf (.ref B)) (.type "type"):=looks_typeIn X hT
 have L3:Looks M s.heap (isInstance (.ref B) (.type "tuple")) false:=L2.andThen (Looks.of_pure tc_notTuple)
 have L4:Looks M s.heap (isSubtype (.ref B) (.type "BaseException")) true:=looks_mroIn X hB
 have L5:Looks M s.heap (isSubtype (.ref C) (.ref B)) true:=looks_mroIn X hC
 have L6:Looks M s.heap (isType (.ref B)) true:=by
  obtain ⟨cdD,hcD⟩:=Option.isSome_iff_exists.mp hc
  unfold clsIn at hcD
  split at hcD
  ·rename_i c' d' cd' sl' ho
   intro A' Q' E' s' k q
   unfold isType loadHead
   exact wpAny_bind (wpAny_loadPart (k _ _ (X _ _ ho)) (wpAny_pure q))
  ·cases hcD
 obtain ⟨hh,g,dr,t,os⟩:=s
 unfold excMatches isExcClass
 repeat (first | lk | wp_step)
 exact h
end PySem.W
namespace L2
open PySem PySem.Spec PySem.W PyProof.Rows
section
variable {X:Cx} {pins:List (Addr×Obj)} {σ:St} {H:Hp} {s:Shared}
theorem e_ {M:Model} {A:Around} {E:Value→Shared→Prop} {i:Nat} {x:Str} {pos:Pos} {Q:Unit→Shared→Prop} (I:Inv X pins σ H s) (hN:X.N.Nodup) (hi:X.N[i]?=some x) (hk:X.env.kindOf x=some .local)
  (h:∀ s',Inv X pins (σ.set i none) H s'→Q () s'):wpAny M A (do bindName X.env x .none; unbindBehindTheSuite X.env x pos) Q E s:=by
 obtain ⟨m,hn,hl⟩:=id I.loc
 have hcls:(X.env.scope.kind==.class || (X.env.scope.kind==.module && X.env.locals !=X.env.globals))=false:=by rw [I.ok.kind]; rfl
 have hiσ:i < σ.length:=by rw [I.len]; exact (List.getElem?_eq_some_iff.mp hi).1
 have cne:=I.cne
 refine wpAny_nameGoes_keeps hk hn hcls fun h' v hn' hs=> ?_
 have tracked:HOk X.prog X.w H h':=fun b ob e=> by
  refine (I.hok b ob e).stay (fun c w' hc q=> (hs.2 c ?_).trans q) (fun _ q=> q) fun _ _ q=> q
  rintro rfl
  rcases hc with z | hc
  ·rw [← z,I.free] at e; cases e
  ·rw [I.free] at hc; cases hc
 refine h _ ⟨I.ok,I.os,I.bare,⟨fun b o e n hb hx=> ?_,fun b o e n hb hx=> ?_,I.base.free,fun b o e hx=> ?_,I.base.tups,I.base.frzs,I.base.tbls⟩,⟨_,hn',fun j y v' e1 e2 e3=> ?_⟩,fun y c e=> ?_,I.free,I.freeC,fun p hp=> ?_,tracked,by simpa using I.len⟩
 ·exact (hs.2 b (Nat.ne_of_lt (Nat.lt_of_lt_of_le (Heap.lt_size e) I.ok.above))).trans (I.base.keep b o e n hb hx)
 ·obtain ⟨sl,e1⟩:=I.base.slot b o e n hb hx
  exact ⟨sl,(hs.2 b (Nat.ne_of_lt (Nat.lt_of_lt_of_le (Heap.lt_size e) I.ok.above))).trans e1⟩
 ·obtain ⟨o',e1⟩:=I.base.there b o e hx
  exact ⟨o',(hs.2 b (Nat.ne_of_lt (Nat.lt_of_lt_of_le (Heap.lt_size e) I.ok.above))).trans e1⟩
 ·by_cases hj:j=i
  ·subst hj
   rw [List.getElem?_set_self hiσ] at e2
   cases e2
  ·rw [List.getElem?_set_ne (Ne.symm hj)] at e2
   obtain ⟨u',r',q⟩:=hl j y v' e1 e2 e3
   refine ⟨u',r',?_⟩
   rcases q with ⟨k,e⟩ | ⟨k,c,e,z⟩
   ·refine .inl ⟨k,?_⟩
    have:y≠x:=fun e=> hj (fG hN e1 (e ▸ hi))
    simp [this,e]
   ·exact .inr ⟨k,c,e,z.sameBut hs (cne y c e)⟩
 ·obtain ⟨w',z⟩:=I.cell y c e
  exact ⟨w',z.sameBut hs (cne y c e)⟩
 ·obtain ⟨e,n,ne,nf,d⟩:=I.pin p hp
  exact ⟨(hs.2 p.1 ne).trans e,n,ne,nf,d⟩
theorem mB {fs:List Addr} {H0 H':Hp} {h0 h1:Heap} {ea:Addr} {o:HO} (u:Un fs [] H0 H' h0 h1) (n0:h0.get? ea=none) (n1:H' ea=none):Un fs [] H0 (upd H' ea o) h0 h1 where
 keep:=u.keep
 slot:=u.slot
 free:=fun b ob e n hx=> by
  rw [aI fun z=> by subst z; rw [n0] at e; cases e]; exact u.free b ob e n hx
 there:=u.there
 tups:=fun b xs e=> by have q:=u.tups b xs e; rw [aI (aS q n1)]; exact q
 frzs:=fun b ob xs e=> by have q:=u.frzs b ob xs e; rw [aI (aS q n1)]; exact q
 tbls:=fun b ps e=> by obtain ⟨m,q⟩:=u.tbls b ps e; exact ⟨m,by rw [aI (aS q n1)]; exact q⟩
theorem ku {P:Program} {w:World} {H':Hp} {h:Heap} {ea C:Addr} (ok:HOk P w H' h) (n1:H' ea=none) (I:OfCls ea C h):HOk P w (upd H' ea (.ext (OfCls ea C))) h:=fun a o e=> by
 by_cases z:a=ea
 ·subst z
  rw [aE] at e; cases e
  obtain ⟨ob,e1,e2⟩:=id I
  exact ⟨I,⟨ob,e1⟩,fun h1 h2 ⟨o1,q1,q2⟩ q3=> ⟨o1,q3 _ q1,q2⟩⟩
 ·rw [aI z] at e
  refine (ok a o e).stay (fun _ _ _ q=> q) (fun _ q=> ?_) fun _ _ q=> ?_
  all_goals (first | (rw [aI (aS q n1)]; exact q) | trace_state)
end
section
variable {X:Cx}
def fw.drop (D:fw) (i:Nat):fw:=⟨fun σ H=> D.nx (σ.set i none) H,D.rt,fun σ H=> D.bk (σ.set i none) H,fun σ H=> D.ct (σ.set i none) H⟩
def pj (K:Frag) (sp:Sp) (B:Addr) (i:Nat) (ta:TA) (th:TS):TS:=fun D σ H=> ta σ H fun vs H1=> sp vs H1 (fun _ H2=> D.nx σ H2) fun cls _ H2=> ∃ C,cls=.ref C∧mroIn K C (.ref B)=some true∧
 ∀ ea,H2 ea=none→th (D.drop i) (σ.set i (some (.ref ea))) (upd H2 ea (.ext (OfCls ea C)))
theorem lj {k:Nat} {fA B:Addr} {fd:FuncData} {ps:List Str} {sp:Sp} {f x n:Str} {i:Nat} {e:Expr} {es:List Expr} {ta:TA} {th:TS} {b₀:Stmt} {suite:List Stmt} {p cpos epos np hpos pos:Pos}
  (hstk:X.stack=X.env::X.outer) (hfr:X.env.frame=some X.env.locals) (F:a_ X.prog X.w X.K X.mg X.base (CXF X.prog X.w) k fA fd ps sp) (hr:cg k X.A) (hg:Gl X f) (hm:X.mg f=some (.ref fA)) (hk:keepIn X.K (.ref fA)=true) (hb:aO X.K fd ps []) (ha:PA X.nox (e::es) ta)
  (hgx:Gl X x) (hmx:X.mg x=some (.ref B)) (hT:typeIn X.K (.ref B)=some (.type "type")) (hB:mroIn X.K B (.type "BaseException")=some true)
  (hN:X.N.Nodup) (hi:X.N[i]?=some n) (hl:X.env.kindOf n=some .local) (hth:∀ ea,PSs (dD X ea) (b₀::suite) th)
  (hdb:(f==("__debug__":Str))=false:=by decide) (hdx:(x==("__debug__":Str))=false:=by decide) (he:starEach (e::es) X.env=(false,eval e X.env)::starEach es X.env:=by rfl) (hpl:(backTo cpos (starEach es X.env)).any (·.1)=false:=by rfl)
  (hsw:swapsWith (.Call (.Name f p) (e::es) [] cpos) none epos.line X.env=pure false:=by rfl):
  PS X (.Try [.Expr (.Call (.Name f p) (e::es) [] cpos) epos] [.ExceptHandler (some (.Name x np)) (some n) (b₀::suite) hpos] [] [] pos) (pj X.K sp B i ta th):=by
 intro pins s σ H D I h
 refine wpAny_Try_except ?_
 refine wpAny_execs_cons (wpAny_Expr_any (Q:=fun f s'=> match f with | .next=> wpAny (model X.prog X.w) X.A (execs [] X.env) (fun f s₁=> match f with | .next=> wpAny (model X.prog X.w) X.A (execs [] X.env) (SP X pins D) X.xe s₁ | f=> SP X pins D f s₁) _ s' | f=> _) ?_ I.quiet hsw)
 refine wpAny_Call_Name_kw (d5 I hg hm ?_ hdb)
 refine PySem.W.callWith_K (h₀:=X.base) I.ok.mod.kin hk (wpAny_mono (ha cpos pins s σ H _ (I.wish _) h) (fun us s1 ⟨vs,H1,I1,r,q⟩=> ⟨I1.kIn,?_⟩) fun _ _ z=> z.elim) he hpl
 have J1:Inv X pins σ H1 s1:=I1.unwish
 have hlen:us.length=ps.length:=by rw [← r.length]; exact F.len _ _ _ _ q
 have hbd:=hb s1 us J1.kIn (by rw [List.append_nil]; exact hlen)
 rw [List.append_nil] at hbd
 refine wpAny_call (codeAny_mono (F.run X.A X.stack s1 H1 ⟨us,[]⟩ us vs _ _ hr J1.env0 hbd r q) fun res s' hq=> ?_)
 cases res with
 | ok fl=>
  cases fl with
  | ret u=>
   obtain ⟨v,H2,I2,_,q2⟩:=J1.after hq
   exact wpAny_execs_nil (wpAny_execs_nil ⟨σ,H2,I2,q2⟩)
  | next=> exact False.elim hq
  | brk=> exact False.elim hq
  | cont=> exact False.elim hq
 | error ev=>
  obtain ⟨ea,cls,a0,B0,H',rfl,os,bare,un,hok,hea,k1,k2,k3,fl,C,rfl,hmC,hT'⟩:=hq
  have hfrs:=J1.ok.frames
  have fl0:=fl
  rw [hstk] at hfrs fl
  refine wpAny_looks_onW hfrs hfr fl fun h4 held4 up4=> ?_
  refine wpAny_landsW held4 fun h5 fl5 up5=> ?_
  have ffr:∀ b∈frs X.stack,∀ o,s1.heap.get? b=some o→∀ vs,o.data≠.fields vs:=dR J1.stack
  have inv:∀ h6,B0.StaysIn h6→s'.heap.UpToSlots h6→Inv X pins σ H' { s' with heap:=h6 }:=fun h6 st up=>
   J1.call' (s':={ s' with heap:=h6 }) (ch:=[]) os (lS un k1 k3 st up ffr J1.stkFree) (dk hok k2 fl.1 st) bare (fun b z=> absurd z (by simp))
  have n0:s1.heap.get? ea=none:=by
   cases z:s1.heap.get? ea with
   | none=> rfl
   | some o=>
    exfalso
    by_cases hb':ea∈frs X.stack
    ·obtain ⟨sl,e1⟩:=un.slot ea o z (J1.stkFree ea hb') hb' (by simp)
     obtain ⟨_,_,_,oe,vs',T',oT,ts,g1,g2,g3,_⟩:=fl0
     rw [e1] at g1; cases g1
     exact ffr ea hb' o z _ g3
    ·obtain ⟨o',e'⟩:=k3 ea o z hb'
     have:=fl0.2.1
     rw [e'] at this; cases this
  have inv2:∀ h6,B0.StaysIn h6→s'.heap.UpToSlots h6→OfCls ea C h6→Inv X pins σ (upd H' ea (.ext (OfCls ea C))) { s' with heap:=h6 }:=fun h6 st up oc=>
   J1.call' (s':={ s' with heap:=h6 }) (ch:=[]) os (mB (lS un k1 k3 st up ffr J1.stkFree) n0 hea) (ku (dk hok k2 fl.1 st) hea oc) bare (fun b z=> absurd z (by simp))
  have I5:=inv h5 fl5.1 (up4.trans up5)
  refine wpAny_handleBy_cons (codeAny_handlers_test (d5 (X:=dD X ea) (I5.hand ea) hgx hmx ?_ hdx)) (by intro z; cases z)
  refine je I5.kIn fl5.there hT (fD hB) hB hmC ?_
  refine codeAny_handlers_suite_as (lands_againW fl5 fun h6 fl6 up6=> ?_)
  have I6:=inv2 h6 fl6.1 ((up4.trans up5).trans up6) fl6.there
  refine gi (X:=dD X ea) (v:=.ref ea) (I6.hand ea) hN hi (.inl hl) rfl (fun s7 I7 _=> ?_) (.inr hl)
  refine wpAny_mono (hth ea pins s7 _ _ (D.drop i) I7 (hT' ea hea)) (fun f s2 z=> ?_) fun _ _ z=> z.elim
  have z1:SP X pins (D.drop i) f s2:=z.unhand I.ok.hd
  cases f with
  | next=> obtain ⟨σ',H8,I8,q8⟩:=z1; exact e_ I8 hN hi hl fun s9 I9=> ⟨_,_,I9,q8⟩
  | brk=> obtain ⟨σ',H8,I8,q8⟩:=z1; exact e_ I8 hN hi hl fun s9 I9=> ⟨_,_,I9,q8⟩
  | cont=> obtain ⟨σ',H8,I8,q8⟩:=z1; exact e_ I8 hN hi hl fun s9 I9=> ⟨_,_,I9,q8⟩
  | ret u=> obtain ⟨v,σ',H8,I8,r8,q8⟩:=z1; exact e_ I8 hN hi hl fun s9 I9=> ⟨v,_,_,I9,r8,q8⟩
end
section
variable {X:Cx} {H0:Hp} {O0:List Addr} {E:XK} {ps:PSt} {D:PD} {a e:Expr} {es:List Expr} {us:List U} {k:Bool} {n:Nat} {fd:FuncData} {pn:List Str} {spec:List U→Out→Prop}
theorem lG:cb X (.builtin "isinstance") (fun xs H Q=> ∃ a C D k,xs=[.ref a,.ref D]∧H a=some (.ext (OfCls a C))∧XcOk X.K C∧kitOne X.K (.ref C) (.ref D)=some k∧Q (.bl k) H):=by
 intro pins s σ H xs us Q I r h
 obtain ⟨a,C,D,k,rfl,ha,hk,e,q⟩:=h
 obtain ⟨u,w',rfl,r1,r2⟩:=gx r
 cases r1; cases r2
 exact PySem.W.kia_one hk.kit I.kIn (I.hok _ _ ha).1 e (fun z=> nomatch z) fun tk=> ⟨.bl k,H,I.tok _,rfl,q⟩
theorem bo {C D':Addr} {nm:Str} {p p2 pos:Pos} (h:kitOne X.K (.ref C) (.ref D')=some k) (hg:Gl X "isinstance") (hm:X.mg "isinstance"=none) (hv:bootBuiltins "isinstance"=some (.builtin "isinstance")) (ha:Ev X H0 O0 ps a (.ty (.xc C))) (hgD:Gl X nm) (hmD:X.mg nm=some (.ref D'))
  (hd:(nm==("__debug__":Str))=false:=by decide)
  (he:starEach [a,.Name nm p2] X.env=(false,eval a X.env)::starEach [.Name nm p2] X.env:=by rfl) (he2:starEach [.Name nm p2] X.env=(false,eval (.Name nm p2) X.env)::starEach [] X.env:=by rfl) (hpl:(backTo pos (starEach [.Name nm p2] X.env)).any (·.1)=false:=by rfl):
  Ev X H0 O0 ps (.Call (.Name "isinstance" p) [a,.Name nm p2] [] pos) (.bl k):=
 PE.mono (fL lG hg hm hv (cu ha (cu (nK (v:=.ref D') hgD hmD rfl hd) eg he2) he) (by decide) (by decide) he hpl) fun σ H Q ⟨O,R,q⟩=> ⟨O,R,fun v H1 s1 r1=> by
  cases r1 with
  | xc h1 h2=> exact ⟨_,_,_,k,rfl,am _ _ h1,h2,h,q _ H1 s1 (.bl k)⟩⟩
theorem gq {C:Addr} {n:String} (h:PySem.W.kitOne X.K (.ref C) (.type n)=some k):fq X (.builtin "isinstance") [.ty (.xc C),.ty (.nm n)] (.bl k):=by
 intro pins s σ H vs us Q I r hq
 obtain ⟨O,d,rs,q⟩:=hq
 obtain ⟨v,w,rfl,h1,h2⟩:=d6 rs
 cases h2
 obtain ⟨p1,p2,rfl,r1,r2⟩:=gx r
 cases (show p2=Value.type n from r2)
 have fin:∀ tk,EP X pins σ Q (.bool k) { s with toks:=tk }:=fun tk=> ⟨.bl k,H,I.tok _,rfl,q _ H (.refl H) (.bl _)⟩
 cases h1 with
 | xc e kk=>
  cases r1
  exact PySem.W.kia_one kk.kit I.kIn (I.hok _ _ (am _ _ e)).1 h (fun z=> nomatch z) fin
def PD.drop (D:PD) (i:Nat):PD:=⟨fun p=> D.nx (p.set i none),D.rt,fun p=> D.bk (p.set i none),fun p=> D.ct (p.set i none)⟩
theorem Lf.drop {K:Frag} {D':fw} (L:Lf K H0 O0 E D D') (i:Nat):Lf K H0 O0 E (D.drop i) (D'.drop i):=
 ⟨fun ps σ H O R h=> L.nx _ _ H O R.drop h,fun ps σ H O R h=> L.bk _ _ H O R.drop h,fun ps σ H O R h=> L.ct _ _ H O R.drop h,L.rt⟩
theorem gz {fA B C:Addr} {x f m:Str} {i:Nat} {b₀:Stmt} {suite:List Stmt} {p cpos epos np hpos pos:Pos}
  (hstk:X.stack=X.env::X.outer) (hfr:X.env.frame=some X.env.locals) (F:a_ X.prog X.w X.K X.mg X.base (CXF X.prog X.w) n fA fd pn (spU X.K spec)) (hr:cg n X.A) (hg:Gl X f) (hm:X.mg f=some (.ref fA)) (hk:PySem.W.keepIn X.K (.ref fA)=true) (hb:aO X.K fd pn []) (ha:EvA X.nox H0 O0 ps (e::es) us)
  (hgx:Gl X x) (hmx:X.mg x=some (.ref B)) (hT:typeIn X.K (.ref B)=some (.type "type")) (hB:mroIn X.K B (.type "BaseException")=some true)
  (hN:X.N.Nodup) (hi:X.N[i]?=some m) (hl:X.env.kindOf m=some .local) (hsp:spec us (.exc C)) (hC:mroIn X.K C (.ref B)=some true) (hxc:XcOk X.K C)
  (h:∀ ea,Ws (dD X ea) H0 O0 E (b₀::suite) (D.drop i) (ps.set i (some (.val (.ty (.xc C))))))
  (hdb:(f==("__debug__":Str))=false:=by decide) (hdx:(x==("__debug__":Str))=false:=by decide) (he:starEach (e::es) X.env=(false,eval e X.env)::starEach es X.env:=by rfl) (hpl:(backTo cpos (starEach es X.env)).any (·.1)=false:=by rfl)
  (hsw:swapsWith (.Call (.Name f p) (e::es) [] cpos) none epos.line X.env=pure false:=by rfl):
  W1 X H0 O0 E (.Try [.Expr (.Call (.Name f p) (e::es) [] cpos) epos] [.ExceptHandler (some (.Name x np)) (some m) (b₀::suite) hpos] [] [] pos) D ps:=
 PS.mono (lj (th:=fun D' σ H=> Lf X.K H0 O0 E (D.drop i) D'∧∃ O,Rs X.K H0 O0 (ps.set i (some (.val (.ty (.xc C))))) σ H O) hstk hfr F hr hg hm hk hb ha hgx hmx hT hB hN hi hl (fun ea=> h ea) hdb hdx he hpl hsw) fun D' σ H ⟨L,O,R⟩=>
  ⟨O,R,fun vs H1 s1 r1=> ⟨us,O,.exc C,(R.go s1).dom,r1,hsp,fun H2 s2=> ⟨C,rfl,hC,fun ea hn=> ⟨L.drop i,O,((R.go (s1.trans s2)).go (av hn _)).set (.xc ((R.go (s1.trans s2)).hidnew hn) hxc)⟩⟩⟩⟩
end
section
variable {X:Cx} {H0:Hp} {O0:List Addr} {ps:PSt} {pos:Pos}
end
end L2
namespace L2
open PySem
theorem aG {c:Const} {j:Nat} {pos:Pos} {es:List Expr} {env:Env}:starEach (.Constant c j pos::es) env=(false,eval (.Constant c j pos) env)::starEach es env:=by rw [starEach]; intro e p h; cases h
theorem fc {l:List Expr} {j:Nat} {pos:Pos} {es:List Expr} {env:Env}:starEach (.Tuple l j pos::es) env=(false,eval (.Tuple l j pos) env)::starEach es env:=by rw [starEach]; intro e p h; cases h
theorem mU {l:List Expr} {pos:Pos} {es:List Expr} {env:Env}:starEach (.List l pos::es) env=(false,eval (.List l pos) env)::starEach es env:=by rw [starEach]; intro e p h; cases h
theorem pL {o:UnaryOp} {a:Expr} {pos:Pos} {es:List Expr} {env:Env}:starEach (.UnaryOp o a pos::es) env=(false,eval (.UnaryOp o a pos) env)::starEach es env:=by rw [starEach]; intro e p h; cases h
theorem aZ {a b:Expr} {o:Operator} {pos:Pos} {es:List Expr} {env:Env}:starEach (.BinOp a o b pos::es) env=(false,eval (.BinOp a o b pos) env)::starEach es env:=by rw [starEach]; intro e p h; cases h
theorem ac {x:Str} {pos:Pos} {es:List Expr} {env:Env}:starEach (.Name x pos::es) env=(false,eval (.Name x pos) env)::starEach es env:=by rw [starEach]; intro e p h; cases h
theorem dB {a b:Expr} {pos:Pos} {es:List Expr} {env:Env}:starEach (.Subscript a b pos::es) env=(false,eval (.Subscript a b pos) env)::starEach es env:=by rw [starEach]; intro e p h; cases h
theorem aB {f:Expr} {a:List Expr} {k:List Keyword} {pos:Pos} {es:List Expr} {env:Env}:starEach (.Call f a k pos::es) env=(false,eval (.Call f a k pos) env)::starEach es env:=by rw [starEach]; intro e p h; cases h
theorem e8 {e:Expr} {g:List Comprehension} {sc:Scope} {pos:Pos} {es:List Expr} {env:Env}:starEach (.ListComp e g sc pos::es) env=(false,eval (.ListComp e g sc pos) env)::starEach es env:=by rw [starEach]; intro e p h; cases h
structure EvS (X:Cx) (H0:Hp) (O0:List Addr) (ps:PSt) (es:List Expr) (us:List U):Prop where
 a:EvA X H0 O0 ps es us
section
variable {X:Cx} {H0:Hp} {O0:List Addr} {ps:PSt} {e:Expr} {es:List Expr} {u:U} {us:List U} {pos:Pos}
theorem aN:EvS X H0 O0 ps [] []:=⟨aj⟩
theorem ah (ha:Ev X H0 O0 ps e u) (hr:EvS X H0 O0 ps es us) (hs:starEach (e::es) X.env=(false,eval e X.env)::starEach es X.env):EvS X H0 O0 ps (e::es) (u::us):=⟨ae ha hr.a hs⟩
theorem bM {x1} (h:EvS X H0 O0 ps es us) (hz:us.length≤sizeLine:=by first | decide | (simp only [List.length_cons,List.length_nil]; decide)):Ev X H0 O0 ps (.Tuple es x1 pos) (.tup us):=qc h.a hz
theorem bj (h:EvS X H0 O0 ps es us) (hz:us.length≤sizeLine:=by first | decide | (simp only [List.length_cons,List.length_nil]; decide)):EvN X H0 O0 ps (.List es pos) us:=qN h.a hz
end
end L2
namespace ST
open PySem PySem.SetTable
def Ris (xs:Array Nat):Prop:=∀ (i j x y:Nat),i < j→xs[i]?=some x→xs[j]?=some y→x < y
theorem Ris.inj {xs:Array Nat} (h:Ris xs) {i j x:Nat} (h1:xs[i]?=some x) (h2:xs[j]?=some x):i=j:=by
 rcases Nat.lt_trichotomy i j with z | z | z
 ·exact absurd (h i j x x z h1 h2) (Nat.lt_irrefl _)
 ·exact z
 ·exact absurd (h j i x x z h2 h1) (Nat.lt_irrefl _)
theorem cq {xs:Array Nat} {i:Nat} (h:i < xs.size):xs[i]?=some xs[i]:=by simp [h]
theorem jV {xs:Array Nat} {i x:Nat} (h:xs[i]?=some x):i < xs.size:=(Array.getElem?_eq_some_iff.mp h).1
theorem gR {xs:Array Nat} (R:Ris xs) (j:Nat):∀ (fuel lo hi:Nat),lo≤hi→hi≤xs.size→hi - lo≤fuel→(∀ (i x:Nat),i < lo→xs[i]?=some x→x < j)→(∀ (i x:Nat),hi≤i→xs[i]?=some x→j≤x)→
  (∀ (i x:Nat),i < below.go xs j fuel lo hi→xs[i]?=some x→x < j)∧(∀ (i x:Nat),below.go xs j fuel lo hi≤i→xs[i]?=some x→j≤x)∧below.go xs j fuel lo hi≤xs.size
 | 0,lo,hi,h1,h2,h3,h4,h5=> by
  have e:lo=hi:=by omega
  subst e
  rw [below.go]
  exact ⟨h4,h5,h2⟩
 | fuel+1,lo,hi,h1,h2,h3,h4,h5=> by
  rw [below.go]
  by_cases hlt:lo < hi
  ·rw [if_pos hlt]
   have hm:(lo+hi) / 2 < xs.size:=by omega
   have e:xs.getD ((lo+hi) / 2) j=xs[(lo+hi) / 2]:=by simp [Array.getD,hm]
   simp only [e]
   split
   ·rename_i hl
    refine gR R j fuel _ hi (by omega) h2 (by omega) (fun i x hi' hx=> ?_) h5
    rcases Nat.lt_or_eq_of_le (show i≤(lo+hi) / 2 by omega) with z | z
    ·exact Nat.lt_trans (R i _ x _ z hx (cq hm)) hl
    ·subst z; rw [cq hm] at hx; cases hx; exact hl
   ·rename_i hl
    refine gR R j fuel lo _ (by omega) (by omega) (by omega) h4 (fun i x hi' hx=> ?_)
    rcases Nat.lt_or_eq_of_le hi' with z | z
    ·exact Nat.le_trans (Nat.le_of_not_lt hl) (Nat.le_of_lt (R _ i _ x z (cq hm) hx))
    ·subst z; rw [cq hm] at hx; cases hx; exact Nat.le_of_not_lt hl
  ·rw [if_neg hlt]
   have e:lo=hi:=by omega
   subst e
   exact ⟨h4,h5,h2⟩
theorem cP {xs:Array Nat} (R:Ris xs) (j:Nat):(∀ (i x:Nat),i < below xs j→xs[i]?=some x→x < j)∧(∀ (i x:Nat),below xs j≤i→xs[i]?=some x→j≤x)∧below xs j≤xs.size:=
 gR R j xs.size 0 xs.size (Nat.zero_le _) (Nat.le_refl _) (by omega) (fun i x h=> absurd h (Nat.not_lt_zero _)) (fun i x h e=> absurd (jV e) (by omega))
theorem mr {xs:Array Nat} (R:Ris xs) {i j:Nat} (h:xs[i]?=some j):below xs j=i:=by
 obtain ⟨h1,h2,h3⟩:=cP R j
 rcases Nat.lt_trichotomy (below xs j) i with z | z | z
 ·have hk:below xs j < xs.size:=Nat.lt_trans z (jV h)
  have:=h2 _ _ (Nat.le_refl _) (cq hk)
  have:=R _ _ _ _ z (cq hk) h
  omega
 ·exact z
 ·have:=h1 i j z h
  omega
theorem gs {t:SetTable} (R:Ris t.place) {i j:Nat} (h:t.place[i]?=some j):t.slot j=.live i:=by
 unfold SetTable.slot
 simp only [mr R h,h,beq_self_eq_true,if_true]
theorem kK {t:SetTable} (hd:t.dummies=#[]) {j:Nat} (h:∀ i:Nat,t.place[i]?≠some j):t.slot j=.empty:=by
 unfold SetTable.slot
 have e:(t.place[below t.place j]?==some j)=false:=by simpa using h _
 simp only [e,hd]
 simp [SetTable.has]
theorem jd {t:SetTable} (R:Ris t.place) (hd:t.dummies=#[]) (j:Nat):(t.slot j=.empty∧∀ i:Nat,t.place[i]?≠some j)∨∃ i:Nat,t.slot j=.live i∧t.place[i]?=some j:=by
 by_cases h:∃ i:Nat,t.place[i]?=some j
 ·obtain ⟨i,hi⟩:=h
  exact .inr ⟨i,gs R hi,hi⟩
 ·exact .inl ⟨kK hd fun i e=> h ⟨i,e⟩,fun i e=> h ⟨i,e⟩⟩
theorem kJ {xs:Array Nat} (R:Ris xs) {mask:Nat} (hn:xs.size≤mask):∃ s,s≤mask∧∀ i:Nat,xs[i]?≠some s:=by
 apply Classical.byContradiction
 intro hno
 have all:∀ s,s≤mask→∃ i:Nat,xs[i]?=some s:=fun s hs=> by
  apply Classical.byContradiction
  intro h
  exact hno ⟨s,hs,fun i e=> h ⟨i,e⟩⟩
 have key:∀ s,s≤mask→∃ i:Nat,xs[i]?=some s∧s≤i:=by
  intro s
  induction s with
  | zero=> intro h; obtain ⟨i,hi⟩:=all 0 h; exact ⟨i,hi,Nat.zero_le _⟩
  | succ s ih=>
   intro h
   obtain ⟨i,hi,hle⟩:=ih (by omega)
   obtain ⟨k,hk⟩:=all (s+1) h
   refine ⟨k,hk,?_⟩
   rcases Nat.lt_trichotomy i k with z | z | z
   ·omega
   ·subst z; rw [hi] at hk; cases hk
   ·have:=R k i _ _ z hk hi; omega
 obtain ⟨i,hi,hle⟩:=key mask (Nat.le_refl _)
 have:=jV hi
 omega
def adv (mask:Nat) (p:Probe):Probe:=
 if p.more > 0 then { p with j:=p.j+1,more:=p.more - 1 } else
 { p with j:=(leap mask p.i p.perturb).1,more:=runEnd mask (leap mask p.i p.perturb).1 - (leap mask p.i p.perturb).1,i:=(leap mask p.i p.perturb).1,perturb:=(leap mask p.i p.perturb).2 }
theorem fJ (t:SetTable) (p:Probe):t.advance p=adv t.mask p:=by
 unfold SetTable.advance adv
 split
 ·rfl
 ·rfl
def start (mask:Nat) (h:Int):Probe:={ j:=bits h % (mask+1),more:=runEnd mask (bits h % (mask+1)) - bits h % (mask+1),i:=bits h % (mask+1),perturb:=bits h,dummy:=none }
def pth (mask:Nat) (h:Int):Nat→Probe
 | 0=> start mask h
 | n+1=> adv mask (pth mask h n)
def aw (mask:Nat) (h:Int):Nat→Nat×Nat
 | 0=> (bits h % (mask+1),bits h)
 | r+1=> leap mask (aw mask h r).1 (aw mask h r).2
theorem eX {mask:Nat}:∀ (m:Nat) (p:Probe) (f:Nat→Probe),f 0=p→(∀ n,f (n+1)=adv mask (f n))→m≤p.more→f m={ p with j:=p.j+m,more:=p.more - m }
 | 0,p,f,h0,_,_=> by rw [h0]; rfl
 | m+1,p,f,h0,hs,hm=> by
  rw [hs m,eX m p f h0 hs (by omega)]
  unfold adv
  rw [if_pos (by show p.more - m > 0; omega)]
  simp only [Probe.mk.injEq]
  exact ⟨by omega,by omega,trivial,trivial,trivial⟩
theorem fR (mask:Nat) (h:Int):∀ n,(pth mask h n).dummy=none
 | 0=> rfl
 | n+1=> by
  rw [pth]; unfold adv
  split
  ·exact fR mask h n
  ·exact fR mask h n
theorem kz (mask i:Nat):runEnd mask i - i≤9:=by unfold runEnd; split <;> omega
theorem jR (mask:Nat) (h:Int):∀ r,∃ n,n≤10 * r∧pth mask h n={ j:=(aw mask h r).1,more:=runEnd mask (aw mask h r).1 - (aw mask h r).1,i:=(aw mask h r).1,perturb:=(aw mask h r).2,dummy:=none }
 | 0=> ⟨0,Nat.le_refl _,rfl⟩
 | r+1=> by
  obtain ⟨n,hn,e⟩:=jR mask h r
  have hL:=kz mask (aw mask h r).1
  have step:=eX (mask:=mask) (runEnd mask (aw mask h r).1 - (aw mask h r).1) (pth mask h n) (fun m=> pth mask h (n+m)) rfl (fun m=> rfl) (by rw [e]; exact Nat.le_refl _)
  refine ⟨n+(runEnd mask (aw mask h r).1 - (aw mask h r).1)+1,by omega,?_⟩
  rw [pth]
  have step':pth mask h (n+(runEnd mask (aw mask h r).1 - (aw mask h r).1))=_:=step
  rw [step',e]
  unfold adv
  rw [if_neg (by simp)]
  rfl
theorem m_ (h:Int):bits h < 2 ^ 64:=by
 unfold bits
 have h1:=Int.emod_nonneg h (show (2 ^ 64:Int)≠0 by decide)
 have h2:=Int.emod_lt_of_pos h (show (0:Int) < 2 ^ 64 by decide)
 omega
theorem gp (mask:Nat) (h:Int):∀ r,(aw mask h r).2=bits h / 32 ^ r
 | 0=> by simp [aw]
 | r+1=> by
  rw [aw]
  show (aw mask h r).2 / 32=_
  rw [gp mask h r,Nat.div_div_eq_div_mul,Nat.pow_succ]
theorem kB (mask:Nat) (h:Int) (r:Nat) (hr:12≤r):(aw mask h r).2 / 32=0:=by
 rw [gp]
 have h1:=m_ h
 rw [Nat.div_div_eq_div_mul]
 apply Nat.div_eq_of_lt
 have:32 ^ 12 * 32≤32 ^ r * 32:=Nat.mul_le_mul_right _ (Nat.pow_le_pow_right (by decide) hr)
 exact Nat.lt_of_lt_of_le (Nat.lt_of_lt_of_le h1 (by decide)) this
def cK:Nat→Nat
 | 0=> 1
 | k+1=> cK k * (4 * cK k+2)
theorem kX:∀ k,∃ m,cK k=2 ^ k * (2 * m+1)
 | 0=> ⟨0,by simp [cK]⟩
 | k+1=> by
  obtain ⟨m,e⟩:=kX k
  refine ⟨2 * (cK k) * m+m+cK k,?_⟩
  rw [cK,Nat.pow_succ]
  have:cK k * (4 * cK k+2)=2 ^ k * (2 * m+1) * (4 * cK k+2):=by rw [← e]
  rw [this]
  generalize cK k=c
  generalize 2 ^ k=p
  grind
def du:Nat→Nat→Nat
 | 0,x=> x
 | n+1,x=> 5 * du n x+1
theorem fm (m x:Nat):∀ n,du (m+n) x=du n (du m x)
 | 0=> rfl
 | n+1=> by rw [← Nat.add_assoc,du,fm m x n,du]
theorem fB:∀ (k x:Nat),du (2 ^ k) x=(1+4 * cK k) * x+cK k
 | 0,x=> by simp [du,cK]
 | k+1,x=> by
  rw [Nat.pow_succ,Nat.mul_two,fm,fB k,fB k,cK]
  generalize cK k=c
  grind
theorem jr (k x:Nat):du (2 ^ k) x % 2 ^ (k+1)=(x+2 ^ k) % 2 ^ (k+1):=by
 rw [fB]
 obtain ⟨m,e⟩:=kX k
 rw [e]
 have:(1+4 * (2 ^ k * (2 * m+1))) * x+2 ^ k * (2 * m+1)=(x+2 ^ k)+2 ^ (k+1) * (2 * (2 * m+1) * x+m):=by
  rw [Nat.pow_succ]
  generalize 2 ^ k=p
  grind
 rw [this,Nat.add_mul_mod_self_left]
theorem dF (x:Nat):∀ (k y:Nat),∃ n,n < 2 ^ k∧du n x % 2 ^ k=y % 2 ^ k
 | 0,y=> ⟨0,by simp,by simp [Nat.mod_one]⟩
 | k+1,y=> by
  obtain ⟨n,hn,e⟩:=dF x k y
  have hp:2 ^ (k+1)=2 ^ k+2 ^ k:=by rw [Nat.pow_succ]; omega
  have h2:0 < 2 ^ k:=Nat.pow_pos (by decide)
  by_cases h:du n x % 2 ^ (k+1)=y % 2 ^ (k+1)
  ·exact ⟨n,by omega,h⟩
  ·refine ⟨n+2 ^ k,by omega,?_⟩
   rw [fm,jr]
   generalize du n x=z at *
   have d1:z % 2 ^ (k+1) % 2 ^ k=z % 2 ^ k:=Nat.mod_mod_of_dvd _ ⟨2,by rw [Nat.pow_succ]⟩
   have d2:y % 2 ^ (k+1) % 2 ^ k=y % 2 ^ k:=Nat.mod_mod_of_dvd _ ⟨2,by rw [Nat.pow_succ]⟩
   have l1:=Nat.mod_lt z (show 0 < 2 ^ (k+1) by omega)
   have l2:=Nat.mod_lt y (show 0 < 2 ^ (k+1) by omega)
   rw [← Nat.mod_add_mod]
   rw [← d1,← d2] at e
   generalize z % 2 ^ (k+1)=a at *
   generalize y % 2 ^ (k+1)=b at *
   rw [hp] at *
   generalize 2 ^ k=p at *
   have ea:a % p=if a < p then a else a - p:=by
    split
    ·exact Nat.mod_eq_of_lt (by assumption)
    ·rw [Nat.mod_eq_sub_mod (by omega),Nat.mod_eq_of_lt (by omega)]
   have eb:b % p=if b < p then b else b - p:=by
    split
    ·exact Nat.mod_eq_of_lt (by assumption)
    ·rw [Nat.mod_eq_sub_mod (by omega),Nat.mod_eq_of_lt (by omega)]
   rw [ea,eb] at e
   by_cases ha:a < p
   ·rw [if_pos ha] at e
    rw [Nat.mod_eq_of_lt (by omega)]
    split at e <;> omega
   ·rw [if_neg ha] at e
    rw [Nat.mod_eq_sub_mod (by omega),Nat.mod_eq_of_lt (by omega)]
    split at e <;> omega
theorem fo {mask k:Nat} (hk:mask+1=2 ^ k) (h:Int):∀ q,(aw mask h (12+q)).1=du q (aw mask h 12).1 % 2 ^ k
 | 0=> by
  rw [du]
  have:(aw mask h 12).1 < 2 ^ k:=by
   rw [← hk]
   show (leap mask (aw mask h 11).1 (aw mask h 11).2).1 < _
   exact Nat.mod_lt _ (by omega)
  exact (Nat.mod_eq_of_lt this).symm
 | q+1=> by
  show (leap mask (aw mask h (12+q)).1 (aw mask h (12+q)).2).1=_
  unfold leap
  simp only [kB mask h (12+q) (by omega)]
  rw [fo hk h q,hk,du,Nat.add_zero,Nat.mul_comm 5 _]
  generalize du q (aw mask h 12).1=z
  generalize 2 ^ k=m
  rw [Nat.add_mod,Nat.mod_mul_mod,← Nat.add_mod]
theorem cover {mask k:Nat} (hk:mask+1=2 ^ k) (h:Int) (s:Nat) (hs:s≤mask):∃ n,n < 10 * turns mask∧(pth mask h n).j=s:=by
 obtain ⟨q,hq,e⟩:=dF (aw mask h 12).1 k s
 obtain ⟨n,hn,en⟩:=jR mask h (12+q)
 refine ⟨n,?_,?_⟩
 ·unfold turns; omega
 ·rw [en]
  show (aw mask h (12+q)).1=s
  rw [fo hk h q,e]
  exact Nat.mod_eq_of_lt (by omega)
end ST
namespace ST
open PySem PySem.SetTable
def Liv (t:SetTable) (j:Nat):Prop:=∃ i:Nat,t.place[i]?=some j
structure TOk (t:SetTable) (hs:List Int):Prop where
 R:Ris t.place
 d:t.dummies=#[]
 k:∃ k,3≤k∧t.mask+1=2 ^ k
 n:t.place.size=hs.length
 f:t.place.size≤t.mask
 le:∀ (i x:Nat),t.place[i]?=some x→x≤t.mask
 reach:∀ (i j:Nat) (h:Int),t.place[i]?=some j→hs[i]?=some h→∃ m,(pth t.mask h m).j=j∧∀ m',m' < m→Liv t (pth t.mask h m').j
theorem qT {P:Nat→Prop}:∀ n,P n→∃ m,m≤n∧P m∧∀ k,k < m→¬ P k:=by
 intro n
 induction n using Nat.strongRecOn with
 | _ n ih=>
  intro h
  by_cases hk:∃ k,k < n∧P k
  ·obtain ⟨k,hk,hp⟩:=hk
   obtain ⟨m,h1,h2,h3⟩:=ih k hk hp
   exact ⟨m,by omega,h2,h3⟩
  ·exact ⟨n,Nat.le_refl _,h,fun k hk' hp=> hk ⟨k,hk',hp⟩⟩
theorem i8 {t:SetTable} {hs:List Int} (T:TOk t hs) (h:Int):∃ N,N < 10 * turns t.mask∧¬ Liv t (pth t.mask h N).j∧∀ m,m < N→Liv t (pth t.mask h m).j:=by
 obtain ⟨s,hs1,hs2⟩:=kJ T.R T.f
 obtain ⟨k,_,hk⟩:=T.k
 obtain ⟨n,hn,e⟩:=cover hk h s hs1
 obtain ⟨m,h1,h2,h3⟩:=qT (P:=fun n=> ¬ Liv t (pth t.mask h n).j) n (by show ¬ Liv t (pth t.mask h n).j; rw [e]; rintro ⟨i,hi⟩; exact hs2 i hi)
 exact ⟨m,by omega,h2,fun k hk'=> Classical.byContradiction fun z=> h3 k hk' z⟩
theorem iD {t:SetTable} {hs:List Int} (T:TOk t hs) (hashAt:Nat→Int) (h:Int) {N:Nat} (h0:¬ Liv t (pth t.mask h N).j) (h1:∀ m,m < N→Liv t (pth t.mask h m).j):∀ (fuel n:Nat),n≤N→N - n < fuel→
  (probe.go t hashAt h fuel (pth t.mask h n)=some (.empty (pth t.mask h N).j none)∧∀ (m i:Nat),n≤m→m < N→t.place[i]?=some (pth t.mask h m).j→hashAt i≠h)∨
  ∃ m i:Nat,n≤m∧m < N∧t.place[i]?=some (pth t.mask h m).j∧hashAt i=h∧probe.go t hashAt h fuel (pth t.mask h n)=some (.candidate (pth t.mask h m).j i (pth t.mask h (m+1)))∧
   ∀ (m' i':Nat),n≤m'→m' < m→t.place[i']?=some (pth t.mask h m').j→hashAt i'≠h
 | 0,n,_,hf=> by omega
 | fuel+1,n,hn,hf=> by
  rw [probe.go]
  rcases jd T.R T.d (pth t.mask h n).j with ⟨e,hno⟩ | ⟨i,e,hi⟩
  ·have hN:n=N:=by
    rcases Nat.lt_or_eq_of_le hn with z | z
    ·obtain ⟨i,hi⟩:=h1 n z; exact absurd hi (hno i)
    ·exact z
   subst hN
   refine .inl ⟨by simp only [e,fR],fun m i z1 z2=> by omega⟩
  ·have hN:n < N:=by
    rcases Nat.lt_or_eq_of_le hn with z | z
    ·exact z
    ·subst z; exact absurd ⟨i,hi⟩ h0
   simp only [e]
   by_cases hh:hashAt i=h
   ·refine .inr ⟨n,i,Nat.le_refl _,hN,hi,hh,?_,fun m' i' z1 z2=> by omega⟩
    simp only [hh,beq_self_eq_true,if_true,fJ]
    rfl
   ·have hb:(hashAt i==h)=false:=by simpa using hh
    simp only [hb,Bool.false_eq_true,if_false,fJ]
    have ih:=iD T hashAt h h0 h1 fuel (n+1) (by omega) (by omega)
    rcases ih with ⟨q1,q2⟩ | ⟨m,i2,q1,q2,q3,q4,q5,q6⟩
    ·refine .inl ⟨q1,fun m i' z1 z2 z3=> ?_⟩
     rcases Nat.lt_or_eq_of_le z1 with z | z
     ·exact q2 m i' z z2 z3
     ·subst z
      rw [T.R.inj z3 hi]; exact hh
    ·refine .inr ⟨m,i2,by omega,q2,q3,q4,q5,fun m' i' z1 z2 z3=> ?_⟩
     rcases Nat.lt_or_eq_of_le z1 with z | z
     ·exact q6 m' i' z z2 z3
     ·subst z
      rw [T.R.inj z3 hi]; exact hh
theorem lJ {t:SetTable} {hs:List Int} (T:TOk t hs) {h:Int} {N i:Nat} (h0:¬ Liv t (pth t.mask h N).j) (hi:hs[i]?=some h):∃ (m j:Nat),m < N∧t.place[i]?=some j∧(pth t.mask h m).j=j:=by
 have hlt:i < t.place.size:=by rw [T.n]; exact (List.getElem?_eq_some_iff.mp hi).1
 obtain ⟨m,e,hm⟩:=T.reach i _ h (cq hlt) hi
 refine ⟨m,_,?_,cq hlt,e⟩
 rcases Nat.lt_trichotomy m N with z | z | z
 ·exact z
 ·subst z; exact absurd ⟨i,by rw [e]; exact cq hlt⟩ h0
 ·exact absurd (hm N z) h0
theorem cv {α:Type} (xs:Array α) (p:Nat) (x:α):(insertAt xs p x).toList=xs.toList.take p++x::xs.toList.drop p:=by
 unfold insertAt
 simp [Array.toList_extract]
 exact List.take_of_length_le (by simp)
theorem bA {α:Type} {xs:Array α} {p:Nat} {x:α} (hp:p≤xs.size) (i:Nat):(insertAt xs p x)[i]?=if i < p then xs[i]? else if i=p then some x else xs[i - 1]?:=by
 rw [← Array.getElem?_toList,cv]
 have hl:(xs.toList.take p).length=p:=by simp; omega
 by_cases h1:i < p
 ·rw [if_pos h1,List.getElem?_append_left (by omega),List.getElem?_take_of_lt h1,Array.getElem?_toList]
 ·rw [if_neg h1,List.getElem?_append_right (by omega),hl]
  by_cases h2:i=p
  ·subst h2; simp
  ·rw [if_neg h2]
   obtain ⟨q,hq⟩:∃ q,i - p=q+1:=⟨i - p - 1,by omega⟩
   rw [hq,List.getElem?_cons_succ,List.getElem?_drop,Array.getElem?_toList]
   congr 1; omega
theorem dy {α:Type} (xs:Array α) (p:Nat) (x:α) (hp:p≤xs.size):(insertAt xs p x).size=xs.size+1:=by
 rw [← Array.length_toList,cv]; simp; omega
def dt {α:Type} (xs:List α) (p:Nat) (x:α):List α:=xs.take p++x::xs.drop p
theorem mm {α:Type} {xs:List α} {p:Nat} {x:α} (hp:p≤xs.length) (i:Nat):(dt xs p x)[i]?=if i < p then xs[i]? else if i=p then some x else xs[i - 1]?:=by
 unfold dt
 have hl:(xs.take p).length=p:=by simp; omega
 by_cases h1:i < p
 ·rw [if_pos h1,List.getElem?_append_left (by omega),List.getElem?_take_of_lt h1]
 ·rw [if_neg h1,List.getElem?_append_right (by omega),hl]
  by_cases h2:i=p
  ·subst h2; simp
  ·rw [if_neg h2]
   obtain ⟨q,hq⟩:∃ q,i - p=q+1:=⟨i - p - 1,by omega⟩
   rw [hq,List.getElem?_cons_succ,List.getElem?_drop]
   congr 1; omega
theorem nh {xs:Array Nat} (R:Ris xs) {j:Nat} (hno:∀ i:Nat,xs[i]?≠some j):Ris (insertAt xs (below xs j) j):=by
 obtain ⟨h1,h2,h3⟩:=cP R j
 have gt:∀ (i x:Nat),below xs j≤i→xs[i]?=some x→j < x:=fun i x hi hx=> by
  rcases Nat.lt_or_eq_of_le (h2 i x hi hx) with z | z
  ·exact z
  ·subst z; exact absurd hx (hno i)
 intro a b x y hab hx hy
 rw [bA h3] at hx hy
 by_cases a1:a < below xs j
 ·rw [if_pos a1] at hx
  by_cases b1:b < below xs j
  ·rw [if_pos b1] at hy; exact R a b x y hab hx hy
  ·rw [if_neg b1] at hy
   by_cases b2:b=below xs j
   ·rw [if_pos b2] at hy; cases hy; exact h1 a x a1 hx
   ·rw [if_neg b2] at hy; exact R a (b - 1) x y (by omega) hx hy
 ·rw [if_neg a1] at hx
  have b1:¬ b < below xs j:=by omega
  rw [if_neg b1] at hy
  have b2:¬ b=below xs j:=by omega
  rw [if_neg b2] at hy
  by_cases a2:a=below xs j
  ·rw [if_pos a2] at hx; cases hx; exact gt (b - 1) y (by omega) hy
  ·rw [if_neg a2] at hx; exact R (a - 1) (b - 1) x y (by omega) hx hy
theorem jZ {xs:Array Nat} {p j:Nat} (hp:p≤xs.size) (s:Nat):(∃ i:Nat,(insertAt xs p j)[i]?=some s)↔s=j∨∃ i:Nat,xs[i]?=some s:=by
 constructor
 ·rintro ⟨i,hi⟩
  rw [bA hp] at hi
  split at hi
  ·exact .inr ⟨i,hi⟩
  ·split at hi
   ·cases hi; exact .inl rfl
   ·exact .inr ⟨i - 1,hi⟩
 ·rintro (rfl | ⟨i,hi⟩)
  ·exact ⟨p,by rw [bA hp,if_neg (Nat.lt_irrefl _),if_pos rfl]⟩
  ·by_cases h:i < p
   ·exact ⟨i,by rw [bA hp,if_pos h]; exact hi⟩
   ·exact ⟨i+1,by rw [bA hp,if_neg (by omega),if_neg (by omega)]; simpa using hi⟩
theorem TOk.put {t:SetTable} {hs:List Int} (T:TOk t hs) {h:Int} {N:Nat} (h0:¬ Liv t (pth t.mask h N).j) (h1:∀ m,m < N→Liv t (pth t.mask h m).j) (hle:(pth t.mask h N).j≤t.mask) (hf:t.place.size+1≤t.mask):
  TOk (t.put (pth t.mask h N).j).1 (dt hs (t.put (pth t.mask h N).j).2 h):=by
 have hno:∀ i:Nat,t.place[i]?≠some (pth t.mask h N).j:=fun i e=> h0 ⟨i,e⟩
 obtain ⟨_,_,hb⟩:=cP T.R (pth t.mask h N).j
 have hbl:below t.place (pth t.mask h N).j≤hs.length:=by rw [← T.n]; exact hb
 have ed:(if SetTable.has t.dummies (pth t.mask h N).j then eraseAt t.dummies (below t.dummies (pth t.mask h N).j) else t.dummies)=#[]:=by
  rw [T.d]; simp [SetTable.has]
 unfold SetTable.put
 simp only [ed]
 refine ⟨nh T.R hno,rfl,T.k,?_,?_,fun i x e=> ?_,fun i j hh e1 e2=> ?_⟩
 ·show (insertAt _ _ _).size=(dt hs _ h).length
  rw [dy _ _ _ hb,T.n]; unfold dt; simp; omega
 ·show (insertAt _ _ _).size≤t.mask
  rw [dy _ _ _ hb]; exact hf
 ·rcases (jZ hb x).mp ⟨i,e⟩ with z | ⟨q,hq⟩
  ·rw [z]; exact hle
  ·exact T.le q x hq
 ·have liv:∀ s,Liv t s→Liv { t with place:=insertAt t.place (below t.place (pth t.mask h N).j) (pth t.mask h N).j,dummies:=#[] } s:=fun s z=> (jZ hb s).mpr (.inr z)
  change (insertAt t.place _ _)[i]?=some j at e1
  rw [bA hb] at e1
  rw [mm hbl] at e2
  split at e1
  ·rename_i z
   rw [if_pos z] at e2
   obtain ⟨m,q1,q2⟩:=T.reach i j hh e1 e2
   exact ⟨m,q1,fun m' hm=> liv _ (q2 m' hm)⟩
  ·rename_i z
   rw [if_neg z] at e2
   split at e1
   ·rename_i z2
    rw [if_pos z2] at e2
    cases e1; cases e2
    exact ⟨N,rfl,fun m' hm=> liv _ (h1 m' hm)⟩
   ·rename_i z2
    rw [if_neg z2] at e2
    obtain ⟨m,q1,q2⟩:=T.reach (i - 1) j hh e1 e2
    exact ⟨m,q1,fun m' hm=> liv _ (q2 m' hm)⟩
theorem mq {mask:Nat} (h:Int):∀ n,(pth mask h n).j+(pth mask h n).more≤mask
 | 0=> by
  show bits h % (mask+1)+(runEnd mask (bits h % (mask+1)) - bits h % (mask+1))≤mask
  have:=Nat.mod_lt (bits h) (show 0 < mask+1 by omega)
  unfold runEnd; split <;> omega
 | n+1=> by
  have ih:=mq (mask:=mask) h n
  rw [pth]; unfold adv
  split
  ·simp only; omega
  ·show (leap mask _ _).1+(runEnd mask (leap mask _ _).1 - (leap mask _ _).1)≤mask
   have:(leap mask (pth mask h n).i (pth mask h n).perturb).1 < mask+1:=Nat.mod_lt _ (by omega)
   unfold runEnd; split <;> omega
end ST
namespace ST
open PySem PySem.SetTable
def OL (owner:Array (Option Nat)) (j:Nat):Prop:=∃ k:Nat,owner[j]?=some (some k)
def nr (mask:Nat) (h:Int):Nat→Nat
 | 0=> 0
 | r+1=> nr mask h r+(runEnd mask (aw mask h r).1 - (aw mask h r).1)+1
theorem oP (mask:Nat) (h:Int):∀ r,pth mask h (nr mask h r)={ j:=(aw mask h r).1,more:=runEnd mask (aw mask h r).1 - (aw mask h r).1,i:=(aw mask h r).1,perturb:=(aw mask h r).2,dummy:=none }
 | 0=> rfl
 | r+1=> by
  have e:=oP mask h r
  have step:=eX (mask:=mask) (runEnd mask (aw mask h r).1 - (aw mask h r).1) (pth mask h (nr mask h r)) (fun m=> pth mask h (nr mask h r+m)) rfl (fun m=> rfl) (by rw [e]; exact Nat.le_refl _)
  have step':pth mask h (nr mask h r+(runEnd mask (aw mask h r).1 - (aw mask h r).1))=_:=step
  rw [nr,pth,step',e]
  unfold adv
  rw [if_neg (by simp)]
  rfl
theorem iZ (mask:Nat) (h:Int) (r k:Nat) (hk:k≤runEnd mask (aw mask h r).1 - (aw mask h r).1):(pth mask h (nr mask h r+k)).j=(aw mask h r).1+k:=by
 have e:=oP mask h r
 have step:=eX (mask:=mask) k (pth mask h (nr mask h r)) (fun m=> pth mask h (nr mask h r+m)) rfl (fun m=> rfl) (by rw [e]; exact hk)
 have step':pth mask h (nr mask h r+k)=_:=step
 rw [step',e]
theorem ki (mask i:Nat):i≤runEnd mask i:=by unfold runEnd; split <;> omega
theorem nL (mask:Nat) (h:Int):∀ r,(aw mask h r).1≤mask
 | 0=> Nat.le_of_lt_succ (Nat.mod_lt _ (by omega))
 | r+1=> Nat.le_of_lt_succ (Nat.mod_lt _ (by omega))
theorem iP {mask i:Nat} (h:i≤mask):runEnd mask i≤mask:=by unfold runEnd; split <;> omega
theorem jB {mask:Nat} {owner:Array (Option Nat)} (hsz:owner.size=mask+1) (h:Int):∀ (fuel r:Nat),(∃ r',r≤r'∧r' < r+fuel∧owner[(aw mask h r').1]?=some none)→(∀ m,m < nr mask h r→OL owner (pth mask h m).j)→
  ∃ N,layClean.free mask owner fuel (aw mask h r).1 (aw mask h r).2=some (pth mask h N).j∧owner[(pth mask h N).j]?=some none∧∀ m,m < N→OL owner (pth mask h m).j
 | 0,r,⟨r',h1,h2,_⟩,_=> by omega
 | fuel+1,r,hex,hl=> by
  rw [layClean.free]
  have hge:=ki mask (aw mask h r).1
  have hmk:=iP (nL mask h r)
  have hin:∀ k,k < runEnd mask (aw mask h r).1+1 - (aw mask h r).1→(aw mask h r).1+k < owner.size:=fun k hk=> by omega
  cases hf:(List.range (runEnd mask (aw mask h r).1+1 - (aw mask h r).1)).find? fun k=> (owner.getD ((aw mask h r).1+k) (some 0)).isNone with
  | some k=>
   obtain ⟨p1,p2,p3⟩:=List.find?_range_eq_some.mp hf
   have hk:=List.mem_range.mp p2
   have hlt:=hin k hk
   have e1:owner[(aw mask h r).1+k]?=some none:=by
    have:owner.getD ((aw mask h r).1+k) (some 0)=owner[(aw mask h r).1+k]:=by simp [Array.getD,hlt]
    rw [this] at p1
    have:owner[(aw mask h r).1+k]=none:=by simpa using p1
    simp [hlt,this]
   have ej:=iZ mask h r k (by omega)
   refine ⟨nr mask h r+k,by simp only [ej],by rw [ej]; exact e1,fun m hm=> ?_⟩
   by_cases hm1:m < nr mask h r
   ·exact hl m hm1
   ·obtain ⟨q,rfl⟩:∃ q,m=nr mask h r+q:=⟨m - nr mask h r,by omega⟩
    have hq:=p3 q (by omega)
    have hlt2:=hin q (by omega)
    rw [iZ mask h r q (by omega)]
    have:owner.getD ((aw mask h r).1+q) (some 0)=owner[(aw mask h r).1+q]:=by simp [Array.getD,hlt2]
    rw [this] at hq
    cases hv:owner[(aw mask h r).1+q] with
    | none=> rw [hv] at hq; simp at hq
    | some v=> exact ⟨v,by simp [hlt2,hv]⟩
  | none=>
   have hall:∀ q,q < runEnd mask (aw mask h r).1+1 - (aw mask h r).1→OL owner ((aw mask h r).1+q):=fun q hq=> by
    have:=List.find?_eq_none.mp hf q (List.mem_range.mpr hq)
    have hlt2:=hin q hq
    have e:owner.getD ((aw mask h r).1+q) (some 0)=owner[(aw mask h r).1+q]:=by simp [Array.getD,hlt2]
    rw [e] at this
    cases hv:owner[(aw mask h r).1+q] with
    | none=> rw [hv] at this; simp at this
    | some v=> exact ⟨v,by simp [hlt2,hv]⟩
   have next:=jB hsz h fuel (r+1) (by
    obtain ⟨r',h1,h2,h3⟩:=hex
    refine ⟨r',?_,by omega,h3⟩
    rcases Nat.lt_or_eq_of_le h1 with z | z
    ·exact z
    ·subst z
     obtain ⟨v,hv⟩:=hall 0 (by omega)
     rw [Nat.add_zero,h3] at hv
     cases hv) (fun m hm=> by
    by_cases hm1:m < nr mask h r
    ·exact hl m hm1
    ·obtain ⟨q,rfl⟩:∃ q,m=nr mask h r+q:=⟨m - nr mask h r,by omega⟩
     have hm2:nr mask h r+q < nr mask h r+(runEnd mask (aw mask h r).1 - (aw mask h r).1)+1:=hm
     rw [iZ mask h r q (by omega)]
     exact hall q (by omega))
   exact next
structure OI (mask:Nat) (owner:Array (Option Nat)) (hs:List Int):Prop where
 sz:owner.size=mask+1
 lt:∀ (j k:Nat),owner[j]?=some (some k)→k < hs.length
 inj:∀ (i j k:Nat),owner[i]?=some (some k)→owner[j]?=some (some k)→i=j
 all:∀ k:Nat,k < hs.length→∃ j:Nat,owner[j]?=some (some k)
 reach:∀ (j k:Nat) (h:Int),owner[j]?=some (some k)→hs[k]?=some h→∃ m,(pth mask h m).j=j∧∀ m',m' < m→OL owner (pth mask h m').j
theorem OI.free {mask:Nat} {owner:Array (Option Nat)} {hs:List Int} (O:OI mask owner hs) (hn:hs.length≤mask):∃ s,s≤mask∧owner[s]?=some none:=by
 apply Classical.byContradiction
 intro hno
 have hlive:∀ s,s≤mask→OL owner s:=fun s hs'=> by
  have hlt:s < owner.size:=by rw [O.sz]; omega
  cases e:owner[s] with
  | none=> exact absurd ⟨s,hs',by simp [hlt,e]⟩ hno
  | some k=> exact ⟨k,by simp [hlt,e]⟩
 have nd:((List.range (mask+1)).map fun s=> (owner.getD s none).getD 0).Nodup:=by
  rw [List.nodup_iff_pairwise_ne,List.pairwise_map]
  refine List.Pairwise.imp_of_mem ?_ (List.pairwise_lt_range (n:=mask+1))
  intro a b ha hb hab e
  obtain ⟨k1,h1⟩:=hlive a (by have:=List.mem_range.mp ha; omega)
  obtain ⟨k2,h2⟩:=hlive b (by have:=List.mem_range.mp hb; omega)
  have e1:(owner.getD a none).getD 0=k1:=by simp [Array.getD_eq_getD_getElem?,h1]
  have e2:(owner.getD b none).getD 0=k2:=by simp [Array.getD_eq_getD_getElem?,h2]
  rw [e1,e2] at e
  subst e
  have:=O.inj a b k1 h1 h2
  omega
 have sub:((List.range (mask+1)).map fun s=> (owner.getD s none).getD 0) ⊆ List.range hs.length:=by
  intro x hx
  obtain ⟨s,hs1,rfl⟩:=List.mem_map.mp hx
  obtain ⟨k1,h1⟩:=hlive s (by have:=List.mem_range.mp hs1; omega)
  have e1:(owner.getD s none).getD 0=k1:=by simp [Array.getD_eq_getD_getElem?,h1]
  rw [e1]
  exact List.mem_range.mpr (O.lt s k1 h1)
 have:=List.Nodup.length_le_of_subset nd sub
 simp at this
 omega
theorem OI.step {mask k:Nat} (hk:mask+1=2 ^ k) {owner:Array (Option Nat)} {hs:List Int} (O:OI mask owner hs) (hn:hs.length≤mask) (h:Int):
  ∃ j,layClean.free mask owner (turns mask) (bits h % (mask+1)) (bits h)=some j∧OI mask (owner.setIfInBounds j (some hs.length)) (hs++[h]):=by
 obtain ⟨s,hs1,hs2⟩:=O.free hn
 obtain ⟨q,hq,e⟩:=dF (aw mask h 12).1 k s
 have er:(aw mask h (12+q)).1=s:=by rw [fo hk h q,e]; exact Nat.mod_eq_of_lt (by omega)
 obtain ⟨N,f1,f2,f3⟩:=jB O.sz h (turns mask) 0 ⟨12+q,Nat.zero_le _,by unfold turns; omega,by rw [er]; exact hs2⟩ (fun m hm=> absurd hm (Nat.not_lt_zero _))
 refine ⟨_,f1,?_⟩
 generalize hj:(pth mask h N).j=j at *
 have hjs:j < owner.size:=(Array.getElem?_eq_some_iff.mp f2).1
 have get:∀ i:Nat,(owner.setIfInBounds j (some hs.length))[i]?=if j=i then some (some hs.length) else owner[i]?:=fun i=> by
  rw [Array.getElem?_setIfInBounds]
  split
  ·rename_i z; subst z; simp [hjs]
  ·rfl
 have liv:∀ i,OL owner i→OL (owner.setIfInBounds j (some hs.length)) i:=fun i ⟨v,hv⟩=> by
  refine ⟨v,?_⟩
  rw [get,if_neg (fun z=> by subst z; rw [f2] at hv; cases hv)]
  exact hv
 refine ⟨by simp [O.sz],fun i v e=> ?_,fun a b v e1 e2=> ?_,fun v hv=> ?_,fun i v hh e1 e2=> ?_⟩
 ·rw [get] at e
  split at e
  ·cases e; simp
  ·have:=O.lt i v e; simp; omega
 ·rw [get] at e1 e2
  split at e1 <;> split at e2
  ·omega
  ·cases e1; exact absurd (O.lt b _ e2) (Nat.lt_irrefl _)
  ·cases e2; exact absurd (O.lt a _ e1) (Nat.lt_irrefl _)
  ·exact O.inj a b v e1 e2
 ·simp at hv
  rcases Nat.lt_or_eq_of_le (Nat.le_of_lt_succ hv) with z | z
  ·obtain ⟨i,hi⟩:=O.all v z
   refine ⟨i,?_⟩
   rw [get,if_neg (fun y=> by subst y; rw [f2] at hi; cases hi)]
   exact hi
  ·subst z; exact ⟨j,by rw [get,if_pos rfl]⟩
 ·rw [get] at e1
  split at e1
  ·rename_i z
   cases e1
   rw [List.getElem?_append_right (Nat.le_refl _)] at e2
   simp at e2
   subst e2
   exact ⟨N,by rw [hj]; exact z,fun m hm=> liv _ (f3 m hm)⟩
  ·have hv:=O.lt i v e1
   rw [List.getElem?_append_left hv] at e2
   obtain ⟨m,q1,q2⟩:=O.reach i v hh e1 e2
   exact ⟨m,q1,fun m' hm=> liv _ (q2 m' hm)⟩
theorem jH {mask k:Nat} (hk:mask+1=2 ^ k):∀ (more done:List Int) (owner:Array (Option Nat)),OI mask owner done→done.length+more.length≤mask+1→∃ owner',more.foldl (fun acc h=> do
  let (owner,k) ← acc
  let j ← layClean.free mask owner (turns mask) (bits h % (mask+1)) (bits h)
  pure (owner.setIfInBounds j (some k),k+1)) (some (owner,done.length))=some (owner',done.length+more.length)∧OI mask owner' (done++more)
 | [],done,owner,O,_=> ⟨owner,by simp,by simpa using O⟩
 | h::more,done,owner,O,hl=> by
  obtain ⟨j,e,O2⟩:=O.step hk (by simp at hl; omega) h
  obtain ⟨ow,e2,O3⟩:=jH hk more (done++[h]) _ O2 (by simp at hl ⊢; omega)
  refine ⟨ow,?_,by simpa using O3⟩
  rw [List.foldl_cons]
  have:(do
   let (owner,k) ← some (owner,done.length)
   let j ← layClean.free mask owner (turns mask) (bits h % (mask+1)) (bits h)
   pure (owner.setIfInBounds j (some k),k+1):Option (Array (Option Nat)×Nat))=some (owner.setIfInBounds j (some done.length),done.length+1):=by
   simp [e]
  rw [this]
  simp only [List.length_append,List.length_singleton] at e2
  rw [e2]
  simp; omega
theorem iM {mask k:Nat} (hk:mask+1=2 ^ k) {hs:Array Int} (hl:hs.size≤mask+1):∃ owner,layClean mask hs=some owner∧OI mask owner hs.toList:=by
 have O0:OI mask (Array.replicate (mask+1) none) []:=⟨by simp,fun j k e=> by simp [Array.getElem?_replicate] at e,fun i j k e=> by simp [Array.getElem?_replicate] at e,fun k h=> by simp at h,fun j k h e=> by simp [Array.getElem?_replicate] at e⟩
 obtain ⟨ow,e,O⟩:=jH hk hs.toList [] _ O0 (by simpa using hl)
 refine ⟨ow,?_,by simpa using O⟩
 unfold layClean
 rw [← Array.foldl_toList]
 simp only [List.length_nil] at e
 rw [e]
 rfl
end ST
namespace ST
open PySem PySem.SetTable
theorem im (n:Nat):∀ (fuel k:Nat),n < 2 ^ (k+fuel)→∃ k',k≤k'∧sizeAbove.go n fuel (2 ^ k)=2 ^ k'∧n < 2 ^ k'∧(2 ^ k'≤2 * n∨k'=k)
 | 0,k,h=> ⟨k,Nat.le_refl _,rfl,by simpa using h,.inr rfl⟩
 | fuel+1,k,h=> by
  rw [sizeAbove.go]
  by_cases hle:2 ^ k≤n
  ·rw [if_pos hle,← Nat.pow_succ]
   obtain ⟨k',h1,h2,h3,h4⟩:=im n fuel (k+1) (by rw [show k+1+fuel=k+(fuel+1) by omega]; exact h)
   refine ⟨k',by omega,h2,h3,.inl ?_⟩
   rcases h4 with z | z
   ·exact z
   ·subst z; rw [Nat.pow_succ]; omega
  ·rw [if_neg hle]
   exact ⟨k,Nat.le_refl _,rfl,by omega,.inr rfl⟩
theorem above (n:Nat) (h:n < 2 ^ 60):∃ k,3≤k∧sizeAbove n=2 ^ k∧n < 2 ^ k∧2 ^ k≤2 * n+8:=by
 obtain ⟨k,h1,h2,h3,h4⟩:=im n 64 3 (Nat.lt_of_lt_of_le h (Nat.pow_le_pow_right (by decide) (by decide)))
 refine ⟨k,h1,h2,h3,?_⟩
 rcases h4 with z | z
 ·omega
 ·subst z; omega
def bX (mask:Nat) (owner:Array (Option Nat)):List (Nat×Nat):=(List.range (mask+1)).filterMap fun j=> (owner.getD j none).map (j,·)
theorem iF (owner:Array (Option Nat)):∀ l:List Nat,(l.filterMap fun j=> (owner.getD j none).map (j,·)).map (·.1)=l.filter fun j=> (owner.getD j none).isSome
 | []=> rfl
 | a::l=> by
  have ih:=iF owner l
  rw [List.filterMap_cons,List.filter_cons]
  cases owner.getD a none with
  | none=> simpa using ih
  | some v=> simpa using ih
theorem cj {mask:Nat} {owner:Array (Option Nat)} (hsz:owner.size=mask+1) (j k:Nat):(j,k)∈bX mask owner↔owner[j]?=some (some k):=by
 unfold bX
 rw [List.mem_filterMap]
 constructor
 ·rintro ⟨a,ha,e⟩
  have hlt:a < owner.size:=by rw [hsz]; exact List.mem_range.mp ha
  cases hv:owner.getD a none with
  | none=> rw [hv] at e; cases e
  | some v=>
   rw [hv] at e
   cases e
   have:owner.getD j none=owner[j]:=by simp [Array.getD,hlt]
   rw [this] at hv
   simp [hlt,hv]
 ·intro e
  have hlt:=(Array.getElem?_eq_some_iff.mp e).1
  refine ⟨j,List.mem_range.mpr (by omega),?_⟩
  rw [Array.getD_eq_getD_getElem?,e]; rfl
theorem kS (mask:Nat) (owner:Array (Option Nat)):(bX mask owner).Pairwise fun a b=> a.1 < b.1:=by
 have:=(List.pairwise_lt_range (n:=mask+1)).filter fun j=> (owner.getD j none).isSome
 rw [← iF owner (List.range (mask+1)),List.pairwise_map] at this
 exact this
theorem pe {l:List Nat} (h:l.Pairwise (· < ·)):Ris l.toArray:=by
 intro i j x y hij hx hy
 rw [List.getElem?_toArray] at hx hy
 obtain ⟨h1,e1⟩:=List.getElem?_eq_some_iff.mp hx
 obtain ⟨h2,e2⟩:=List.getElem?_eq_some_iff.mp hy
 have:=List.pairwise_iff_getElem.mp h i j h1 h2 hij
 rw [e1,e2] at this
 exact this
theorem n_ {mask k:Nat} (h3:3≤k) (hk:mask+1=2 ^ k) {hs:Array Int} (hl:hs.size≤mask) (finger moves:Nat) (led plain:Bool):
  ∃ t order,laid mask finger moves led plain hs=some (t,order)∧TOk t (order.toList.map fun i=> hs.getD i 0)∧order.toList.Perm (List.range hs.size)∧t.mask=mask∧t.led=led∧t.plain=plain∧t.moves=moves:=by
 obtain ⟨owner,e,O⟩:=iM hk (hs:=hs) (by omega)
 have pr:=kS mask owner
 have nd:((bX mask owner).map (·.2)).Nodup:=by
  rw [List.nodup_iff_pairwise_ne,List.pairwise_map]
  refine List.Pairwise.imp_of_mem ?_ pr
  intro a b ha hb hab ee
  have h1:=(cj O.sz a.1 a.2).mp ha
  have h2:=(cj O.sz b.1 b.2).mp hb
  rw [ee] at h1
  have:=O.inj a.1 b.1 b.2 h1 h2
  omega
 have perm:((bX mask owner).map (·.2)).Perm (List.range hs.size):=by
  refine (List.perm_ext_iff_of_nodup nd List.nodup_range).mpr fun x=> ?_
  rw [List.mem_map,List.mem_range]
  constructor
  ·rintro ⟨⟨j,v⟩,hm,rfl⟩
   have:=O.lt j v ((cj O.sz j v).mp hm)
   simpa using this
  ·intro hx
   obtain ⟨j,hj⟩:=O.all x (by simpa using hx)
   exact ⟨(j,x),(cj O.sz j x).mpr hj,rfl⟩
 have len:(bX mask owner).length=hs.size:=by have:=perm.length_eq; simpa using this
 refine ⟨_,_,by unfold laid; rw [e]; rfl,⟨?_,rfl,⟨k,h3,hk⟩,?_,?_,fun i x ee=> ?_,fun i j h e1 e2=> ?_⟩,?_,rfl,rfl,rfl,rfl⟩
 ·show Ris ((bX mask owner).map (·.1)).toArray
  exact pe (by rw [List.pairwise_map]; exact pr)
 ·show ((bX mask owner).map (·.1)).toArray.size=_
  simp [bX]
 ·show ((bX mask owner).map (·.1)).toArray.size≤mask
  simp [len,hl]
 ·change ((bX mask owner).map (·.1)).toArray[i]?=some x at ee
  rw [List.getElem?_toArray,List.getElem?_map] at ee
  cases q:(bX mask owner)[i]? with
  | none=> rw [q] at ee; cases ee
  | some p=>
   rw [q] at ee
   cases ee
   have:=(cj O.sz p.1 p.2).mp (List.mem_of_getElem? q)
   have:=(Array.getElem?_eq_some_iff.mp this).1
   show p.1≤mask
   have hz:=O.sz
   omega
 ·change ((bX mask owner).map (·.1)).toArray[i]?=some j at e1
  change (((bX mask owner).map (·.2)).toArray.toList.map fun i=> hs.getD i 0)[i]?=some h at e2
  rw [List.getElem?_toArray,List.getElem?_map] at e1
  rw [List.getElem?_map,List.getElem?_map] at e2
  cases q:(bX mask owner)[i]? with
  | none=> rw [q] at e1; cases e1
  | some p=>
   rw [q] at e1 e2
   cases e1
   have hp:=(cj O.sz p.1 p.2).mp (List.mem_of_getElem? q)
   have hlt:=O.lt _ _ hp
   have e3:hs.toList[p.2]?=some h:=by
    have e4:hs.getD p.2 0=h:=by simpa using e2
    have:p.2 < hs.size:=by simpa using hlt
    rw [← e4]
    simp [Array.getD,this]
   obtain ⟨m,q1,q2⟩:=O.reach _ _ h hp e3
   refine ⟨m,q1,fun m' hm=> ?_⟩
   obtain ⟨v,hv⟩:=q2 m' hm
   obtain ⟨n,hn⟩:=List.mem_iff_getElem?.mp ((cj O.sz _ v).mpr hv)
   refine ⟨n,?_⟩
   show ((bX mask owner).map (·.1)).toArray[n]?=_
   rw [List.getElem?_toArray,List.getElem?_map,hn]; rfl
 ·show ((bX mask owner).map (·.2)).toArray.toList.Perm _
  simpa using perm
end ST
namespace ST
open PySem PySem.SetTable
section
variable {prog:Program} {w:World} {A:Around} {E:Value→Shared→Prop} {s:Shared}
abbrev TK (prog:Program) (w:World) (h:Heap) (k:List Int) (b:Addr):Prop:=IsTupleKey (intKind prog w) h k b
abbrev hsh (prog:Program) (w:World) (k:List Int):Int:=tupleKeyHash (intKind prog w) k
theorem TK.ints {h:Heap} {k:List Int} {vs:List Value} (x:ItemsAre (intKind prog w) k vs):∀ v∈vs,∃ n t,v=.int n t:=by
 induction x with
 | nil=> intro v hv; simp at hv
 | cons h1 _ ih=>
  intro v hv
  rcases List.mem_cons.mp hv with rfl | hv
  ·obtain ⟨t,rfl⟩:=Value.isInt_shape h1; exact ⟨_,t,rfl⟩
  ·exact ih v hv
theorem gB {k:List Int} {a:Addr} {Q:Bool→Shared→Prop} (hk:TK prog w s.heap k a) (h:Q false s):wpAny (model prog w) A (ofAClassStatement 8 (.ref a)) Q E s:=by
 have hT:=hk.typeIs
 obtain ⟨o,items,n,ho,_,hd,hi⟩:=hk
 unfold ofAClassStatement
 refine wpAny_bind (wpAny_typeOf hT ?_)
 dsimp only
 rw [if_pos (by decide)]
 refine wpAny_bind (wpAny_pure ?_)
 simp only [Bool.not_true,Bool.false_eq_true,if_false]
 refine wpAny_bind (wpAny_seqItems ho hd ?_)
 dsimp only
 refine wpAny_bind ?_
 rw [← Array.forIn_toList]
 refine wpAny_forIn_list _ (fun rest r s'=> r.1=none∧s'=s∧∀ v∈rest,∃ n t,v=Value.int n t) _ ?_ ?_ _ _ ⟨rfl,rfl,TK.ints (h:=s.heap) hi⟩
 ·rintro v rest r s' ⟨hr,rfl,hall⟩
  obtain ⟨n,t,rfl⟩:=hall v List.mem_cons_self
  have e:ofAClassStatement 7 (Value.int n t)=pure false:=by unfold ofAClassStatement; rfl
  rw [e]
  refine wpAny_bind (wpAny_pure ?_)
  simp only [Bool.false_eq_true,if_false]
  exact wpAny_pure ⟨rfl,rfl,fun u hu'=> hall u (List.mem_cons_of_mem _ hu')⟩
 ·rintro ⟨r1,r2⟩ s' ⟨hr,rfl,_⟩
  simp only at hr
  subst hr
  exact wpAny_pure h
theorem qo {k:List Int} {a:Addr} {Q:Bool→Shared→Prop} (hk:TK prog w s.heap k a) (h:Q true s):wpAny (model prog w) A (hashByValue 8 (.ref a)) Q E s:=by
 have hT:=hk.typeIs
 obtain ⟨o,items,n,ho,_,hd,hi⟩:=hk
 unfold hashByValue
 refine wpAny_bind (wpAny_specialOf hT F.slot_tuple_hash.lookup ?_)
 show wpAny _ _ (seqItems? (.ref a) >>=_) _ _ s
 refine wpAny_bind (wpAny_seqItems ho hd ?_)
 refine wpAny_bind ?_
 show wpAny _ _ (forIn items _ _) _ _ s
 rw [← Array.forIn_toList]
 refine wpAny_forIn_list _ (fun rest r s'=> r.1=none∧s'=s∧∀ v∈rest,∃ n t,v=Value.int n t) _ ?_ ?_ _ _ ⟨rfl,rfl,TK.ints (h:=s.heap) hi⟩
 ·rintro v rest r s' ⟨hr,rfl,hall⟩
  obtain ⟨n,t,rfl⟩:=hall v List.mem_cons_self
  have e:hashByValue 7 (Value.int n t)=pure true:=by unfold hashByValue; rfl
  rw [e]
  refine wpAny_bind (wpAny_pure ?_)
  simp only [Bool.not_true,Bool.false_eq_true,if_false]
  exact wpAny_pure ⟨rfl,rfl,fun u hu'=> hall u (List.mem_cons_of_mem _ hu')⟩
 ·rintro ⟨r1,r2⟩ s' ⟨hr,rfl,_⟩
  simp only at hr
  subst hr
  exact wpAny_pure h
theorem jb {k:List Int} {a:Addr} {l:List Value} {Q:Bool→Shared→Prop} (hk:TK prog w s.heap k a) (hl:∀ v∈l,∃ k' b,v=.ref b∧TK prog w s.heap k' b) (h:Q false s):
  wpAny (model prog w) A (searchCouldBeSeen (.ref a) l) Q E s:=by
 unfold searchCouldBeSeen
 refine wpAny_bind ?_
 refine wpAny_forIn_list _ (fun rest r s'=> r.1=none∧s'=s∧∀ v∈rest,∃ k' b,v=.ref b∧TK prog w s.heap k' b) _ ?_ ?_ _ _ ⟨rfl,rfl,hl⟩
 ·rintro v rest r s' ⟨hr,rfl,hall⟩
  obtain ⟨k',b,rfl,hb⟩:=hall v List.mem_cons_self
  dsimp only
  split
  ·exact wpAny_pure ⟨rfl,rfl,fun u hu'=> hall u (List.mem_cons_of_mem _ hu')⟩
  ·refine wpAny_bind (wpAny_eqIsQuiet_tuple hk ?_)
   simp only [Bool.not_true,Bool.false_eq_true,if_false]
   refine wpAny_bind (wpAny_eqIsQuiet_tuple hb ?_)
   simp only [Bool.not_true,Bool.false_eq_true,if_false]
   refine wpAny_bind (gB hk ?_)
   simp only [Bool.false_eq_true,if_false]
   refine wpAny_bind (gB hb ?_)
   simp only [Bool.false_eq_true,if_false]
   exact wpAny_pure ⟨rfl,rfl,fun u hu'=> hall u (List.mem_cons_of_mem _ hu')⟩
 ·rintro ⟨r1,r2⟩ s' ⟨hr,rfl,_⟩
  simp only at hr
  subst hr
  exact wpAny_pure h
def cT (prog:Program) (w:World) (kb:List (List Int×Addr)):List (Int×Value):=kb.map fun p=> (hsh prog w p.1,.ref p.2)
theorem jT {kb:List (List Int×Addr)} {i:Nat}:(cT prog w kb)[i]?=(kb[i]?).map fun p=> (hsh prog w p.1,.ref p.2):=by unfold cT; rw [List.getElem?_map]
theorem om (kb:List (List Int×Addr)):(cT prog w kb).map (·.1)=kb.map fun p=> hsh prog w p.1:=by unfold cT; rw [List.map_map]; rfl
theorem TOk.fits {t:SetTable} {hs:List Int} (T:TOk t hs) {n:Nat} (hn:hs.length=n):t.fits n=true:=by
 have h1:=T.n
 have h2:=T.f
 have h3:t.fill=t.place.size:=by unfold fill; rw [T.d]; rfl
 unfold SetTable.fits
 rw [h3]
 simp [h1,hn]
 omega
theorem TOk.gave {t:SetTable} {hs:List Int} (T:TOk t hs):t.gaveWay=false:=by
 obtain ⟨k,h3,hk⟩:=T.k
 unfold SetTable.gaveWay
 obtain ⟨j,rfl⟩:∃ j,k=j+1:=⟨k - 1,by omega⟩
 rw [Nat.pow_succ] at hk
 have:t.mask % 2=1:=by omega
 simp [this]
theorem hV {S:Addr} {o:Obj} {es:Array (Int×Value)} {ep:Nat} {t:SetTable} {kb:List (List Int×Addr)} {k:List Int} {x:Addr} (hu:A.units < cLine)
  (ho:s.heap.get? S=some o) (hd:o.data=.set es ep t) (he:es.toList=cT prog w kb) (T:TOk t (kb.map fun p=> hsh prog w p.1)) (hkb:∀ p∈kb,TK prog w s.heap p.1 p.2) (hx:TK prog w s.heap k x)
  {N:Nat} (hN:N < 10 * turns t.mask) (h0:¬ Liv t (pth t.mask (hsh prog w k) N).j) (h1:∀ m,m < N→Liv t (pth t.mask (hsh prog w k) m).j) {Q:SetFound→Shared→Prop}
  (qf:(∀ p∈kb,p.1≠k)→Q (.free (pth t.mask (hsh prog w k) N).j false) s) (qt:(∃ p∈kb,p.1=k)→Q (.there none) s):
  ∀ (fuel n:Nat) (stand:Option Probe),n≤N→N - n < fuel→stand.getD (t.probeStart (hsh prog w k))=pth t.mask (hsh prog w k) n→
   (∀ (m i:Nat) (p:List Int×Addr),m < n→t.place[i]?=some (pth t.mask (hsh prog w k) m).j→kb[i]?=some p→p.1≠k)→
   wpAny (model prog w) A (setSearchFrom S (.ref x) (hsh prog w k) true fuel stand) Q E s:=by
 have hsz:es.size=kb.length:=by rw [← Array.length_toList,he]; simp [cT]
 have hfit:t.fits es.size=true:=T.fits (by rw [List.length_map,hsz])
 have eat:∀ i:Nat,es[i]?=(kb[i]?).map fun (p:List Int×Addr)=> (hsh prog w p.1,Value.ref p.2):=fun i=> by rw [← Array.getElem?_toList,he,jT]
 intro fuel
 induction fuel with
 | zero=> intro n stand _ h; omega
 | succ fuel ih=>
  intro n stand hn hf hst hpre
  unfold setSearchFrom
  refine wpAny_bind (wpAny_setState_of ho hd hfit ?_)
  dsimp only
  rw [T.gave]
  simp only [Bool.false_eq_true,if_false]
  rw [hst]
  have hash:∀ (i:Nat) (p:List Int×Addr),kb[i]?=some p→((es[i]?.map (fun (e:Int×Value)=> e.1)).getD 0:Int)=hsh prog w p.1:=fun i p hp=> by rw [eat,hp]; rfl
  have pg:=iD T (fun (i:Nat)=> (es[i]?.map (fun (e:Int×Value)=> e.1)).getD 0) (hsh prog w k) h0 h1 (10 * turns t.mask) n hn (by omega)
  split
  ·rename_i met hmet
   rcases pg with ⟨e,hne⟩ | ⟨m,i,hnm,hmN,hpl,hhi,e,hbef⟩
   ·have q:some met=some (.empty (pth t.mask (hsh prog w k) N).j none):=hmet.symm.trans e
    cases q
    dsimp only
    refine wpAny_pure (qf fun p hp hpk=> ?_)
    obtain ⟨i,hi⟩:=List.mem_iff_getElem?.mp hp
    obtain ⟨m,j,hm,hpl,hj⟩:=lJ T (h:=hsh prog w k) h0 (i:=i) (by rw [List.getElem?_map,hi,← hpk]; rfl)
    rcases Nat.lt_or_ge m n with hmn | hmn
    ·exact hpre m i p hmn (by rw [hj]; exact hpl) hi hpk
    ·exact hne m i hmn hm (by rw [hj]; exact hpl) (by rw [hash i p hi,hpk])
   ·have q:some met=some (.candidate (pth t.mask (hsh prog w k) m).j i (pth t.mask (hsh prog w k) (m+1))):=hmet.symm.trans e
    cases q
    dsimp only
    have hik:i < kb.length:=by rw [← hsz,← show t.place.size=es.size by rw [T.n,List.length_map,hsz]]; exact jV hpl
    obtain ⟨p,hp⟩:∃ p,kb[i]?=some p:=⟨_,List.getElem?_eq_getElem hik⟩
    have hpm:p∈kb:=List.mem_of_getElem? hp
    have hei:es[i]?=some (hsh prog w p.1,Value.ref p.2):=by rw [eat,hp]; rfl
    have rest:wpAny (model prog w) A (do
      let equal ← holding [Value.ref p.2] (eqBool (Value.ref p.2) (.ref x))
      let (es',_,t') ← setState S
      if true && equal then return .there none
      let some same:=t'.sameMemory t.moves t.mask | unsupported "set.changed-during-lookup:is-the-new-block-at-the-old-address"
      let still ← match (if same then t'.slot (pth t.mask (hsh prog w k) m).j else .empty) with
       | .live i'=> match es'[i']? with
        | some (_,y')=> do pure (if ← isSame y' (Value.ref p.2) then some i' else none)
        | none=> pure none
       | _=> pure none
      match still with
      | none=> rule "set.search.anew"; setSearchFrom S (.ref x) (hsh prog w k) true fuel none
      | some i'=> if equal then return .there (some i') else setSearchFrom S (.ref x) (hsh prog w k) true fuel (some (pth t.mask (hsh prog w k) (m+1)))) Q E s:=by
     refine wpAny_bind (wpAny_holding (wpAny_eqBool_tuple hu (hkb p hpm) hx ?_))
     refine wpAny_bind (wpAny_setState_of ho hd hfit ?_)
     dsimp only
     by_cases hpk:p.1=k
     ·rw [decide_eq_true hpk]
      simp only [Bool.and_self,if_true]
      exact wpAny_pure (qt ⟨p,hpm,hpk⟩)
     ·rw [decide_eq_false hpk]
      simp only [Bool.and_false,Bool.false_eq_true,if_false]
      have hsm:t.sameMemory t.moves t.mask=some true:=by unfold SetTable.sameMemory; simp
      rw [hsm]
      dsimp only
      rw [if_pos rfl,gs T.R hpl]
      dsimp only
      rw [hei]
      dsimp only
      refine wpAny_bind (wpAny_isSame_ref_self ?_)
      refine wpAny_bind (wpAny_pure ?_)
      simp only [if_true]
      refine ih (m+1) (some (pth t.mask (hsh prog w k) (m+1))) (by omega) (by omega) rfl fun m' i' p' hm' hpl' hp'=> ?_
      rcases Nat.lt_or_ge m' n with z | z
      ·exact hpre m' i' p' z hpl' hp'
      ·rcases Nat.lt_or_eq_of_le (Nat.le_of_lt_succ hm') with y | y
       ·have:=hbef m' i' z y hpl'
        intro e'
        exact this (by rw [hash i' p' hp',e'])
       ·subst y
        have ei:=T.R.inj hpl hpl'
        subst ei
        rw [hp] at hp'
        cases hp'
        exact hpk
    by_cases hled:t.led=true
    ·rw [hled]
     simp only [Bool.not_true,Bool.false_eq_true,if_false]
     rw [hei]
     exact rest
    ·rw [show t.led=false by simpa using hled]
     simp only [Bool.not_false,if_true]
     refine wpAny_bind (jb hx (fun v hv=> ?_) ?_)
     ·obtain ⟨e',he',rfl⟩:=List.mem_map.mp hv
      have hm':e'∈es.toList:=by
       have:=Array.mem_toList_iff.mp he'
       exact Array.mem_toList_iff.mpr (Array.mem_filter.mp this).1
      rw [he] at hm'
      obtain ⟨p',hp',rfl⟩:=List.mem_map.mp hm'
      exact ⟨p'.1,p'.2,rfl,hkb p' hp'⟩
     ·simp only [Bool.false_eq_true,if_false]
      rw [hei]
      exact rest
  ·rename_i hno
   rcases pg with ⟨e,hne⟩ | ⟨m,i,hnm,hmN,hpl,hhi,e,hbef⟩
   ·exact absurd e (hno _)
   ·exact absurd e (hno _)
end
end ST
namespace ST
open PySem PySem.SetTable
section
variable {prog:Program} {w:World} {A:Around} {E:Value→Shared→Prop} {s:Shared}
structure SP (prog:Program) (w:World) (h:Heap) (S:Addr) (kb:List (List Int×Addr)):Prop where
 ex:∃ o es ep t,h.get? S=some o∧o.ExactSet∧o.data=.set es ep t∧es.toList=cT prog w kb∧TOk t (kb.map fun p=> hsh prog w p.1)∧t.led=(!w.params.followText "set-order")∧t.plain=true∧t.tooFull=false∧t.mask < 8 * kb.length+8
 keys:∀ p∈kb,TK prog w h p.1 p.2
 nd:(kb.map (·.1)).Nodup
theorem TK.keep {h h':Heap} {k:List Int} {b S:Addr} {o:Obj} {es ep t} (x:TK prog w h k b) (ho:h.get? S=some o) (hd:o.data=.set es ep t) (hs:Heap.SameBut S h h'):TK prog w h' k b:=by
 obtain ⟨o',items,n,ho',hc,hd',hi⟩:=x
 have hne:b≠S:=by
  rintro rfl
  obtain rfl:o'=o:=Option.some.inj (ho'.symm.trans ho)
  rw [hd] at hd'; exact nomatch hd'
 exact ⟨o',items,n,(hs.2 b hne).trans ho',hc,hd',hi⟩
theorem i4 (x:Addr) (es:Array (Int×Value)):byScan (.ref x) es=false:=by simp [byScan,Value.scannable]
theorem iI {α β:Type} (f:α→β) (xs:List α) (p:Nat) (x:α):(dt xs p x).map f=dt (xs.map f) p (f x):=by
 unfold dt; rw [List.map_append,List.map_cons,List.map_take,List.map_drop]
theorem cE {α:Type} (xs:List α) (p:Nat) (x:α):(dt xs p x).Perm (xs++[x]):=by
 unfold dt
 refine List.perm_middle.trans ?_
 rw [List.take_append_drop]
 exact (List.perm_append_singleton x xs).symm
theorem iL {α β:Type} {kb:List α} (f:α→β) (d:β):∀ (o:List Nat),(∀ i∈o,i < kb.length)→o.map (fun i=> ((kb.map f).toArray).getD i d)=(o.filterMap fun i=> kb[i]?).map f
 | [],_=> rfl
 | i::o,h=> by
  have hi:=h i List.mem_cons_self
  rw [List.map_cons,List.filterMap_cons,List.getElem?_eq_getElem hi,iL f d o fun j hj=> h j (List.mem_cons_of_mem _ hj)]
  simp [Array.getD,hi]
theorem kA {α:Type} {kb:List α} {o:List Nat} (h:o.Perm (List.range kb.length)):(o.filterMap fun i=> kb[i]?).Perm kb:=by
 refine (h.filterMap _).trans ?_
 suffices (List.range kb.length).filterMap (fun i=> kb[i]?)=kb by rw [this]
 have:∀ (l pre:List α),(List.range' pre.length l.length).filterMap (fun i=> (pre++l)[i]?)=l:=by
  intro l
  induction l with
  | nil=> intro pre; rfl
  | cons x l ih=>
   intro pre
   rw [List.length_cons,List.range'_succ,List.filterMap_cons]
   have e:(pre++x::l)[pre.length]?=some x:=by rw [List.getElem?_append_right (Nat.le_refl _)]; simp
   rw [e]
   have:=ih (pre++[x])
   rw [List.append_assoc,List.length_append] at this
   simpa using this
 have q:=this kb []
 simpa [List.range_eq_range'] using q
theorem nu {t:SetTable} {hs:List Int} (T:TOk t hs) (h:t.tooFull=false):t.place.size+1≤t.mask:=by
 obtain ⟨k,h3,hk⟩:=T.k
 have hf:t.fill=t.place.size:=by unfold fill; rw [T.d]; rfl
 have h8:2 ^ 3≤2 ^ k:=Nat.pow_le_pow_right (by decide) h3
 unfold tooFull at h
 rw [hf] at h
 simp at h
 omega
set_option maxHeartbeats 1000000 in
theorem qh {S:Addr} {o:Obj} {es:Array (Int×Value)} {ep:Nat} {t:SetTable} {kb:List (List Int×Addr)} {Q:Unit→Shared→Prop} (ho:s.heap.get? S=some o) (hex:o.ExactSet) (hd:o.data=.set es ep t) (he:es.toList=cT prog w kb)
  (T:TOk t (kb.map fun p=> hsh prog w p.1)) (hl:t.led=(!w.params.followText "set-order")) (hp:t.plain=true) (hkb:∀ p∈kb,TK prog w s.heap p.1 p.2) (hnd:(kb.map (·.1)).Nodup) (h1:0 < kb.length) (hn:kb.length≤1000)
  (h:∀ h' kb',Heap.SameBut S s.heap h'→SP prog w h' S kb'→kb'.Perm kb→Q () { s with heap:=h' }):wpAny (model prog w) A (setRelay S (grown kb.length)) Q E s:=by
 have hsz:es.size=kb.length:=by rw [← Array.length_toList,he]; simp [cT]
 have hfit:t.fits es.size=true:=T.fits (by rw [List.length_map,hsz])
 have eat:∀ i:Nat,es[i]?=(kb[i]?).map fun (p:List Int×Addr)=> (hsh prog w p.1,Value.ref p.2):=fun i=> by rw [← Array.getElem?_toList,he,jT]
 have hg:grown kb.length=kb.length * 4:=by unfold grown; rw [if_neg (by omega)]
 rw [hg]
 obtain ⟨k,k3,ek,lk,uk⟩:=above (kb.length * 4) (by omega)
 have hmask:(sizeAbove (kb.length * 4) - 1)+1=2 ^ k:=by omega
 obtain ⟨t',order,e,T',hord,em,el,ep',_⟩:=n_ k3 hmask (hs:=es.map (·.1)) (by rw [Array.size_map,hsz]; omega) t.finger (t.movedTo (sizeAbove (kb.length * 4) - 1)) t.led t.plain
 have hrel:t.relaid (es.map (·.1)) (kb.length * 4)=some (t',order):=e
 have hord':order.toList.Perm (List.range kb.length):=by rw [Array.size_map,hsz] at hord; exact hord
 have hlt:∀ i∈order.toList,i < kb.length:=fun i hi=> List.mem_range.mp (hord'.mem_iff.mp hi)
 have hpk:=kA hord'
 have hes:(order.filterMap (fun i=> es[i]?)).toList=cT prog w (order.toList.filterMap fun i=> kb[i]?):=by
  rw [Array.toList_filterMap]
  unfold cT
  rw [List.map_filterMap]
  congr 1
  funext i
  rw [eat]
 have hes2:(order.filterMap (fun i=> es[i]?)).size=es.size:=by
  rw [← Array.length_toList,hes,hsz]
  unfold cT
  rw [List.length_map,hpk.length_eq]
 unfold setRelay
 refine wpAny_bind (wpAny_setState_of ho hd hfit ?_)
 dsimp only
 rw [if_neg (by rw [ek,sizeLine_eq]; omega),hrel]
 have goal:wpAny (model prog w) A (do
   if (order.filterMap (fun i=> es[i]?)).size !=es.size then unsupported "internal:set-table-lost-an-element"
   pure (order.filterMap (fun i=> es[i]?),t'):Sem (Array (Int×Value)×SetTable)) (fun r s'=> wpAny (model prog w) A (storeSet S r.1 r.2) Q E s') E s:=by
  rw [hes2]
  simp only [bne_self_eq_false,Bool.false_eq_true,if_false]
  refine wpAny_pure ?_
  refine wpAny_storeSet_of ho hd ?_ (by rw [hes2,hsz,sizeLine_eq]; omega)
  have hg':(s.heap.update S (Obj.putSet (order.filterMap (fun i=> es[i]?)) t')).get? S=some { o with data:=.set (order.filterMap (fun i=> es[i]?)) (ep+1) t' }:=by
   have:=Heap.get?_update_self (Obj.putSet (order.filterMap (fun i=> es[i]?)) t') ho (by rw [putSet_of _ t' hd]; rfl)
   rw [putSet_of _ t' hd] at this; exact this
  have hsb:=Heap.SameBut.update s.heap S (Obj.putSet (order.filterMap (fun i=> es[i]?)) t')
  refine h _ (order.toList.filterMap fun i=> kb[i]?) hsb ⟨⟨_,_,_,t',hg',hex,rfl,hes,?_,by rw [el]; exact hl,by rw [ep']; exact hp,?_,?_⟩,fun p hp'=> ?_,?_⟩ hpk
  ·have:=iL (kb:=kb) (fun p=> hsh prog w p.1) 0 order.toList hlt
   rw [← this]
   have e2:(es.map (·.1))=((kb.map fun p=> hsh prog w p.1)).toArray:=by
    apply Array.toList_inj.mp
    rw [Array.toList_map,he,om]
   rw [e2] at T'
   exact T'
  ·have hf:t'.fill=t'.place.size:=by unfold fill; rw [T'.d]; rfl
   have hn':=T'.n
   rw [List.length_map,hord'.length_eq,List.length_range] at hn'
   unfold tooFull
   rw [hf,hn',em]
   simp
   omega
  ·rw [em,hpk.length_eq]; omega
  ·exact (hkb p (hpk.mem_iff.mp hp')).keep ho hd hsb
  ·exact ((hpk.map (·.1)).nodup_iff).mpr hnd
 exact wpAny_bind goal
end
end ST
namespace ST
open PySem PySem.SetTable
section
variable {prog:Program} {w:World} {A:Around} {E:Value→Shared→Prop} {s:Shared}
set_option maxHeartbeats 1000000 in
theorem jf {S x:Addr} {kb:List (List Int×Addr)} {k:List Int} {Q:Bool→Shared→Prop} (hu:A.units < cLine) (P:SP prog w s.heap S kb) (hx:TK prog w s.heap k x) (hn:kb.length < 1000)
  (h:∀ b h' kb',Heap.SameBut S s.heap h'→SP prog w h' S kb'→(if k∈kb.map (·.1) then kb'=kb else kb'.Perm (kb++[(k,x)]))→Q b { s with heap:=h' }):
  wpAny (model prog w) A (setAddHashed S (.ref x) (hsh prog w k)) Q E s:=by
 obtain ⟨⟨o,es,ep,t,ho,hex,hd,he,T,hl,hp,hfull,hmask⟩,hkb,hnd⟩:=P
 have P0:SP prog w s.heap S kb:=⟨⟨o,es,ep,t,ho,hex,hd,he,T,hl,hp,hfull,hmask⟩,hkb,hnd⟩
 have hsz:es.size=kb.length:=by rw [← Array.length_toList,he]; simp [cT]
 have hfit:t.fits es.size=true:=T.fits (by rw [List.length_map,hsz])
 obtain ⟨N,hN,h0,h1⟩:=i8 T (hsh prog w k)
 have hN':N < 100000:=by unfold turns at hN; omega
 unfold setAddHashed setAddHashedIn
 refine wpAny_holding (wpAny_bind (wpAny_setState_of ho hd hfit ?_))
 dsimp only
 rw [i4]
 simp only [Bool.false_eq_true,if_false]
 unfold setSearch
 refine wpAny_bind (hV hu ho hd he T hkb hx hN h0 h1 (fun hno=> ?_) (fun hyes=> ?_) 100000 0 none (Nat.zero_le _) (by omega) rfl fun m i p hm=> by omega)
 ·dsimp only
  have hk:k ∉ kb.map (·.1):=fun z=> by obtain ⟨p,hp',e⟩:=List.mem_map.mp z; exact hno p hp' e
  refine wpAny_bind (wpAny_setState_of ho hd hfit ?_)
  dsimp only
  generalize hj:(pth t.mask (hsh prog w k) N).j=j at *
  have T1:=T.put (h:=hsh prog w k) (N:=N) (by rw [hj]; exact h0) h1 (by have:=mq (mask:=t.mask) (hsh prog w k) N; omega) (nu T hfull)
  rw [hj] at T1
  have epl:(t.put j).1.plain=true:=hp
  have eled:(t.put j).1.led=(!w.params.followText "set-order"):=hl
  have emask:(t.put j).1.mask=t.mask:=rfl
  generalize (t.put j).1=t1 at *
  generalize (t.put j).2=q at *
  have hlen1:(dt kb q (k,x)).length=kb.length+1:=by rw [(cE kb q (k,x)).length_eq]; simp
  have he1:(insertAt es q (hsh prog w k,Value.ref x)).toList=cT prog w (dt kb q (k,x)):=by
   rw [cv,he]
   unfold cT
   rw [iI]
   rfl
  have hsz1:(insertAt es q (hsh prog w k,Value.ref x)).size=kb.length+1:=by
   rw [← Array.length_toList,he1]; unfold cT; rw [List.length_map,hlen1]
  have T2:TOk t1 ((dt kb q (k,x)).map fun p=> hsh prog w p.1):=by rw [iI]; exact T1
  rw [if_pos epl]
  refine wpAny_bind (qo hx ?_)
  rw [if_pos rfl]
  have hg1:(s.heap.update S (Obj.putSet (insertAt es q (hsh prog w k,Value.ref x)) t1)).get? S=some { o with data:=.set (insertAt es q (hsh prog w k,Value.ref x)) (ep+1) t1 }:=by
   have:=Heap.get?_update_self (Obj.putSet (insertAt es q (hsh prog w k,Value.ref x)) t1) ho (by rw [putSet_of _ t1 hd]; rfl)
   rw [putSet_of _ t1 hd] at this; exact this
  have hsb:=Heap.SameBut.update s.heap S (Obj.putSet (insertAt es q (hsh prog w k,Value.ref x)) t1)
  have hkb1:∀ p∈dt kb q (k,x),TK prog w (s.heap.update S (Obj.putSet (insertAt es q (hsh prog w k,Value.ref x)) t1)) p.1 p.2:=fun p hp'=> by
   have:=(cE kb q (k,x)).mem_iff.mp hp'
   rcases List.mem_append.mp this with z | z
   ·exact (hkb p z).keep ho hd hsb
   ·rw [List.mem_singleton.mp z]; exact hx.keep ho hd hsb
  have hnd1:((dt kb q (k,x)).map (·.1)).Nodup:=by
   rw [((cE kb q (k,x)).map (·.1)).nodup_iff,List.map_append,List.nodup_append]
   refine ⟨hnd,by simp,fun a ha b hb=> ?_⟩
   simp at hb
   subst hb
   rintro rfl
   exact hk ha
  refine wpAny_bind (wpAny_storeSet_of ho hd ?_ (by rw [hsz1,sizeLine_eq]; omega))
  rw [Bool.not_false,Bool.true_and]
  by_cases hft:t1.tooFull=true
  ·rw [if_pos hft,hsz,← hlen1]
   refine wpAny_bind (qh (s:={ s with heap:=s.heap.update S (Obj.putSet (insertAt es q (hsh prog w k,Value.ref x)) t1) }) hg1 hex rfl he1 T2 eled epl hkb1 hnd1 (by omega) (by omega) fun h' kb' hsb' P' pm=> wpAny_pure ?_)
   exact h true h' kb' (hsb.trans hsb') P' (by rw [if_neg hk]; exact pm.trans (cE kb q (k,x)))
  ·rw [if_neg hft]
   refine wpAny_pure (h true _ (dt kb q (k,x)) hsb ⟨⟨_,_,_,t1,hg1,hex,rfl,he1,T2,eled,epl,by simpa using hft,by rw [emask,hlen1]; omega⟩,hkb1,hnd1⟩ (by rw [if_neg hk]; exact cE kb q (k,x)))
 ·dsimp only
  refine wpAny_pure ?_
  have hk:k∈kb.map (·.1):=by obtain ⟨p,hp',e⟩:=hyes; exact List.mem_map.mpr ⟨p,hp',e⟩
  exact h false s.heap kb (Heap.SameBut.refl S s.heap) P0 (by rw [if_pos hk])
end
end ST
namespace ST
open PySem PySem.SetTable
section
variable {prog:Program} {w:World} {A:Around}
theorem TK.moved {s s':Shared} {wr:List Addr} {G:Array GenState→Array GenState→Prop} {k:List Int} {b:Addr} (x:TK prog w s.heap k b) (hb:b ∉ wr) (m:Moved wr G s s'):TK prog w s'.heap k b:=by
 obtain ⟨o,its,n,ho,hc,hd,hi⟩:=x
 exact ⟨o,its,n,m.heap b o hb ho,hc,hd,hi⟩
theorem SP.moved {s s':Shared} {wr:List Addr} {G:Array GenState→Array GenState→Prop} {S:Addr} {kb:List (List Int×Addr)} (x:SP prog w s.heap S kb) (hS:S ∉ wr) (hb:∀ p∈kb,p.2 ∉ wr) (m:Moved wr G s s'):SP prog w s'.heap S kb:=by
 obtain ⟨⟨o,es,ep,t,ho,r⟩,hk,hn⟩:=x
 exact ⟨⟨o,es,ep,t,m.heap S o hS ho,r⟩,fun p hp=> (hk p hp).moved (hb p hp) m,hn⟩
structure Got (kx:Nat→List Int×Addr) (i:Nat) (kb:List (List Int×Addr)):Prop where
 src:∀ p∈kb,∃ j,j < i∧p=kx j
 all:∀ j,j < i→(kx j).1∈kb.map (·.1)
 len:kb.length≤i
variable {R:Result→Shared→Prop} {I:Addr} {fp wr:List Addr} {G:Array GenState→Array GenState→Prop} {n:Nat} {P:Nat→Value→Prop} {St:Nat→Shared→Prop}
set_option maxHeartbeats 1000000 in
theorem lb (W:WalksS prog w A.in1 I fp wr G n P St) (hu:A.in1.units < cLine) {S:Addr} (hSf:S ∉ fp) (kx:Nat→List Int×Addr) (hP:∀ i v,P i v→v=.ref (kx i).2) (hwr:∀ i,i < n→(kx i).2 ∉ wr) (hn:n≤1000):
  ∀ (k i:Nat) (s:Shared) (kb:List (List Int×Addr)),n - i=k→i≤n→St i s→SP prog w s.heap S kb→Got kx i kb→(∀ j,j < n→TK prog w s.heap (kx j).1 (kx j).2)→
   (∀ s' kb',Moved (S::wr) G s s'→SP prog w s'.heap S kb'→Got kx n kb'→R (.ok (.ret .none)) s')→
   codeAny (model prog w) A (.builtin "set.update.loop" ⟨[.ref S,.ref I],[]⟩) R s:=by
 have hSw:S ∉ wr:=fun h=> hSf (W.sub _ h)
 have more:∀ b∈wr,b∈S::wr:=fun b hb=> List.mem_cons_of_mem _ hb
 intro k
 induction k with
 | zero=>
  intro i s kb hk hi st hS g tk hR
  obtain rfl:i=n:=by omega
  refine codeAny_builtin PyProof.Rows.F.entry_set_update_loop ?_
  rw [Around.under_plainId PyProof.Rows.F.plain_set_update_loop _]
  show wpAny _ A.in1 (pyNext (.ref I) >>=_) _ _ s
  refine wpAny_bind (W.done s _ _ st fun s' m=> ?_)
  exact wpAny_pure (hR s' kb (m.mono more) (hS.moved hSw (fun p hp=> by obtain ⟨j,hj,rfl⟩:=g.src p hp; exact hwr j hj) m) g)
 | succ k ih=>
  intro i s kb hk hi st hS g tk hR
  have hlt:i < n:=by omega
  have hkb:∀ p∈kb,p.2 ∉ wr:=fun p hp=> by obtain ⟨j,hj,rfl⟩:=g.src p hp; exact hwr j (by omega)
  refine codeAny_builtin PyProof.Rows.F.entry_set_update_loop ?_
  rw [Around.under_plainId PyProof.Rows.F.plain_set_update_loop _]
  show wpAny _ A.in1 (pyNext (.ref I) >>=_) _ _ s
  refine wpAny_bind (W.item i s _ _ hlt st fun v s1 pv st1 m=> ?_)
  obtain rfl:=hP i v pv
  have hS1:=hS.moved hSw hkb m
  have tk1:∀ j,j < n→TK prog w s1.heap (kx j).1 (kx j).2:=fun j hj=> (tk j hj).moved (hwr j hj) m
  show wpAny _ A.in1 (holding [Value.ref (kx i).2] (setAdd S (.ref (kx i).2)) >>=_) _ _ s1
  refine wpAny_bind (wpAny_holding ?_)
  unfold setAdd
  refine wpAny_holding (wpAny_bind (wpAny_pyHash_tuple hu (tk1 i hlt) ?_))
  refine jf (s:={ s1 with toks:=s1.toks+((kx i).1.length+1) }) hu hS1 (tk1 i hlt) (by have:=g.len; omega) fun b h' kb' sb hS2 hkk=> ?_
  obtain ⟨⟨o,es,ep,t,ho,hex,hd,hrest⟩,hks,hnd⟩:=hS1
  have same:∀ b o,b ∉ S::wr→s1.heap.get? b=some o→h'.get? b=some o:=fun b o hb e=> by rw [sb.2 b (fun z=> hb (by rw [z]; exact List.mem_cons_self))]; exact e
  refine wpAny_pure ⟨plainId_quiet PyProof.Rows.F.plain_set_update_loop _,ih (i+1) _ kb' (by omega) hlt (W.frame _ s1 _ _ st1 (by show s1.toks≤s1.toks+_; omega) fun b hb o e=> ?_) hS2 ?_ (fun j hj=> (tk1 j hj).keep ho hd sb) fun s2 kb2 m2 hS3 g2=> ?_⟩
  ·rw [sb.2 b (fun z=> hSf (by rw [← z]; exact hb))]; exact e
  ·by_cases hin:(kx i).1∈kb.map (·.1)
   ·rw [if_pos hin] at hkk
    subst hkk
    refine ⟨fun p hp=> ?_,fun j hj=> ?_,by have:=g.len; omega⟩
    ·obtain ⟨j,hj,e⟩:=g.src p hp; exact ⟨j,by omega,e⟩
    ·rcases Nat.lt_or_eq_of_le (Nat.le_of_lt_succ hj) with z | z
     ·exact g.all j z
     ·rw [z]; exact hin
   ·rw [if_neg hin] at hkk
    refine ⟨fun p hp=> ?_,fun j hj=> ?_,by rw [hkk.length_eq]; have:=g.len; simp; omega⟩
    ·rcases List.mem_append.mp (hkk.mem_iff.mp hp) with z | z
     ·obtain ⟨j,hj,e⟩:=g.src p z; exact ⟨j,by omega,e⟩
     ·exact ⟨i,Nat.lt_succ_self i,by rw [List.mem_singleton.mp z]⟩
    ·rw [(hkk.map (·.1)).mem_iff,List.map_append]
     rcases Nat.lt_or_eq_of_le (Nat.le_of_lt_succ hj) with z | z
     ·exact List.mem_append_left _ (g.all j z)
     ·rw [z]; exact List.mem_append_right _ (by simp)
  ·exact hR s2 kb2 (Moved.trans W.gtrans ((m.mono more).then_heap (by show s1.toks≤s1.toks+_; omega) same) m2) hS3 g2
end
section
variable {prog:Program} {w:World} {A:Around} {E:Value→Shared→Prop} {s:Shared}
abbrev bq (w:World):Obj:={ cls:=.type "set",dict:=none,data:=.set #[] 0 (.fresh 0 0 (!w.params.followText "set-order")) }
theorem lP:TOk (.fresh 0 0 (!w.params.followText "set-order")) [] where
 R:=by intro i j x y _ h; simp [SetTable.fresh] at h
 d:=rfl
 k:=⟨3,by decide,rfl⟩
 n:=rfl
 f:=by show 0≤7; decide
 le:=by intro i x h; simp [SetTable.fresh] at h
 reach:=by intro i x h hi; simp [SetTable.fresh] at hi
theorem ml {h:Heap} {S:Addr} (e:h.get? S=some (bq w)):SP prog w h S []:=by
 refine ⟨⟨_,_,_,_,e,⟨rfl,rfl,rfl⟩,rfl,rfl,lP,rfl,rfl,by simp [SetTable.tooFull,SetTable.fresh,SetTable.fill],by show 7 < 8; decide⟩,fun p hp=> by simp at hp,by simp⟩
theorem nQ (a:Value) {Q:Value→Shared→Prop} (h:Q (.ref s.heap.objs.size) { s with heap:=s.heap.push (bq w) }):
  codeAny (model prog w) A (.call (.builtin "set.__new__") ⟨[.type "set",a],[]⟩) (wants Q E) s:=by
 refine codeAny_of_tree ?_
 show wpAny _ A.in1 (do checkBuiltinCall "set.__new__" ⟨[.type "set",a],[]⟩; again (.builtin "set.__new__" ⟨[.type "set",a],[]⟩)) _ _ s
 refine wpAny_bind (wpAny_of_eq (PySem.F.newCall_set_1 a) (wpAny_pure ⟨plainId_quiet PySem.F.plain_set_new _,codeAny_builtin PySem.F.entry_set_new ?_⟩))
 rw [Around.under_plainId PySem.F.plain_set_new _]
 unfold Builtin.«set.__new__» Builtin.Frozenset.newClass
 have hsub:=sub_set_self
 obtain ⟨hp,g,d,tk,os⟩:=s
 dsimp only
 wp_walk
 refine wpAny_askSetting (wpAny_pure ?_)
 dsimp only
 simp only [newObj]
 exact wpAny_bind (wpAny_alloc (wpAny_pure (wpAny_pure h)))
end
end ST
namespace ST
open PySem PySem.SetTable
section
variable {prog:Program} {w:World} {A:Around} {E:Value→Shared→Prop} {s:Shared}
set_option maxRecDepth 100000 in
set_option maxHeartbeats 3200000 in
theorem call_set_pts {l:Addr} {items:Array Value} {Q:Value→Shared→Prop} (kx:Nat→List Int×Addr) (hh:A.handled=none) (hu:A.in1.in1.in1.units < cLine) (hl:s.heap.IsList l items)
  (hit:∀ (i:Nat) (v:Value),items[i]?=some v→v=.ref (kx i).2) (htk:∀ i,i < items.size→TK prog w s.heap (kx i).1 (kx i).2) (hn:items.size≤1000)
  (h:∀ (h':Heap) (tk:Nat) (kb:List (List Int×Addr)),SP prog w h' s.heap.objs.size kb→Got kx items.size kb→(∀ b o,s.heap.get? b=some o→h'.get? b=some o)→Q (.ref s.heap.objs.size) { s with heap:=h',toks:=tk }):
  wpAny (model prog w) A (call (.type "set") [.ref l]) Q E s:=by
 obtain ⟨cc,tl,hmro⟩:=PySem.F.called_set.mro
 have hmade:=PySem.F.called_set.made
 have hsub:=PySem.F.called_set.sub
 refine wpAny_call (codeAny_of_tree ?_)
 show wpAny _ _ (callAny (.type "set") _) _ _ _
 refine wpAny_pure ⟨Code.quiet_builtin _ (by decide+kernel),codeAny_builtin PySem.F.entry_type_call ?_⟩
 rw [Around.under_plain (weight_type_call_type "set" [.ref l] []) rfl]
 have g1:=PySem.F.called_set.notType
 have g2:=PySem.F.called_set.canCreate
 have g3:=PySem.F.typeCall_set_1 (.ref l)
 repeat (any_goals (first | assumption | wp_step))
 refine codeAny_mono (nQ (w:=w) (.ref l) (E:=E) (Q:=fun obj s₁=> obj=.ref s.heap.objs.size∧s₁={ s with heap:=s.heap.push (bq w) }) ⟨rfl,rfl⟩) fun r s₁ hr=> ?_
 cases r with
 | error e=> exact hr
 | ok fl=>
  cases fl with
  | ret obj=>
   obtain ⟨rfl,rfl⟩:=hr
   have hS:(s.heap.push (bq w)).get? s.heap.objs.size=some (bq w):=Heap.get?_push_size _ rfl
   have hT:Shared.TypeIs { s with heap:=s.heap.push (bq w) } (.ref s.heap.objs.size) "set":=⟨_,hS,rfl⟩
   have hli:=PySem.F.called_set.init.lookup
   have hbi:=PySem.F.called_set.init.bind (.ref s.heap.objs.size)
   repeat (any_goals (first | assumption | wp_step))
   refine codeAny_mono (codeAny_call_builtin (R:=wants (fun r s₂=> r=.none∧∃ h' tk kb,s₂={ s with heap:=h',toks:=tk }∧
     SP prog w h' s.heap.objs.size kb∧Got kx items.size kb∧(∀ b o,s.heap.get? b=some o→h'.get? b=some o)) E) PySem.F.called_set.init.plain PySem.F.entry_set_init (check_set_init_1 hT ?_)) fun r₂ s₂ hr₂=> ?_
   ·obtain ⟨ol,hol,hcl,nl,hdl⟩:=hl
    obtain ⟨ocls,odict,odata,oslots⟩:=ol
    simp only at hcl hdl
    subst hcl; subst hdl
    have hol':(s.heap.push (bq w)).get? l=some { cls:=.type "list",dict:=odict,data:=.seq items nl,slots:=oslots }:=Heap.get?_push_of_some _ hol
    have k1:=PySem.F.sub_list_set
    have k2:=PySem.F.sub_list_frozenset
    have k3:(Value.type "list"==Value.type "dict")=false:=by decide
    have hl1:(s.heap.push (bq w)).IsList l items:=⟨_,hol',rfl,nl,rfl⟩
    unfold Builtin.«set.__init__» noKeywords Builtin.Frozenset.updateFrom
    generalize hPI:pyIter=PI
    wp_walk
    subst hPI
    refine wpAny_pyIter_list hl1 (wpAny_bind (wpAny_runValue ?_))
    have hlS:l < s.heap.objs.size:=Heap.lt_size hol
    have h3:A.in1.in1.in1.handled=none:=by simp [hh]
    have szI:(s.heap.push (bq w)).objs.size=s.heap.objs.size+1:=Heap.size_push ..
    have hneI:l≠(s.heap.push (bq w)).objs.size:=by rw [szI]; exact Nat.ne_of_lt (Nat.lt_succ_of_lt hlS)
    have hSf:s.heap.objs.size ∉ [(s.heap.push (bq w)).objs.size,l]:=by
     rw [szI]
     intro z
     rcases List.mem_cons.mp z with z | z
     ·exact absurd z (Nat.ne_of_lt (Nat.lt_succ_self _))
     ·exact absurd (List.mem_singleton.mp z) (Nat.ne_of_gt hlS)
    refine lb ((Walks.list h3 _ l hneI items).toS) hu hSf kx hit (fun i hi=> ?_) hn (items.size - 0) 0 _ [] (by omega) (Nat.zero_le _)
     ⟨⟨_,Heap.get?_push_size _ rfl,rfl,rfl⟩,(hl1.push _)⟩ ?_ ⟨fun p hp=> by simp at hp,fun j hj=> by omega,by simp⟩ (fun j hj=> ?_) fun s' kb m hS' g=> ?_
    ·intro z
     have z':=List.mem_singleton.mp z
     obtain ⟨o,_,_,ho,_⟩:=htk i hi
     have:=Heap.lt_size ho
     rw [z',szI] at this
     exact Nat.lt_irrefl _ (Nat.lt_trans (Nat.lt_succ_self _) this)
    ·exact ml (Heap.get?_push_of_some _ hS)
    ·obtain ⟨o,its,k,ho,r⟩:=htk j hj
     exact ⟨o,its,k,Heap.get?_push_of_some _ (Heap.get?_push_of_some _ ho),r⟩
    ·obtain ⟨h',g',d',tk',os'⟩:=s'
     obtain rfl:g'=s.gens:=m.gens
     obtain rfl:d'=s.drawn:=m.drawn
     obtain rfl:os'=s.os:=m.os
     refine wpAny_pure ?_
     show wpAny _ _ (ret Value.none) _ _ _
     refine wpAny_pure ⟨rfl,h',tk',kb,rfl,hS',g,fun b o e=> ?_⟩
     have hb:=Heap.lt_size e
     refine m.heap b o (fun z=> ?_) (Heap.get?_push_of_some _ (Heap.get?_push_of_some _ e))
     rcases List.mem_cons.mp z with z | z
     ·exact absurd z (Nat.ne_of_lt hb)
     ·have z':=List.mem_singleton.mp z
      rw [z',szI] at hb
      exact Nat.lt_irrefl _ (Nat.lt_trans (Nat.lt_succ_self _) hb)
   ·cases r₂ with
    | error e=> exact hr₂
    | ok fl₂=>
     cases fl₂ with
     | ret r=>
      obtain ⟨rfl,h',tk,kb,rfl,hS',g,hk'⟩:=hr₂
      repeat (any_goals (first | assumption | wp_step))
      exact h _ _ kb hS' g hk'
     | _=> exact hr₂.elim
  | _=> exact hr.elim
end
end ST
namespace ST
open PySem PySem.SetTable
theorem cf:Slot "set_iterator" "__next__" "set_iterator.__next__":=
 .of (owner:="set_iterator") (n:="__next__") (by rw [typeLookup_type,builtinLookup_eq_fast]; kernel_rfl) (by decide+kernel) (by decide+kernel) (by decide+kernel) (by first | exact .inl (by decide+kernel) | exact .inr (by decide+kernel)) (by rw [isSubtype_type]; kernel_rfl)
theorem fg:entryFor table "set_iterator.__next__"=some Builtin.«set_iterator.__next__»:=entryFor_of_tree (by kernel_rfl)
theorem gc (a:Value):argsOk "set_iterator.__next__" ⟨[a],[]⟩:=by unfold argsOk; kernel_rfl
theorem iR:entryFor table "set.__iter__"=some Builtin.«frozenset.__iter__»:=entryFor_alias (id':="frozenset.__iter__") (by kernel_rfl) rfl (by decide+kernel) (by kernel_rfl)
theorem iV {α:Type} {l:List α} {i:Nat} (h:i < l.length):(l[i]::l.eraseIdx i).Perm l:=by
 rw [List.eraseIdx_eq_take_drop_succ]
 refine List.perm_middle.symm.trans ?_
 rw [← List.drop_eq_getElem_cons h,List.take_append_drop]
theorem jv {α:Type} (next:Nat→Nat):∀ (fuel k:Nat) (left:List α) (out:Array α),left.length=fuel→(pickOrder.go next fuel k left out).toList.Perm (out.toList++left)
 | 0,k,left,out,h=> by
  obtain rfl:left=[]:=List.length_eq_zero_iff.mp h
  rw [pickOrder.go,List.append_nil]
 | fuel+1,k,left,out,h=> by
  have hi:next k % left.length < left.length:=Nat.mod_lt _ (by omega)
  rw [pickOrder.go,List.getElem?_eq_getElem hi]
  refine (jv next fuel (k+1) _ _ (by rw [List.length_eraseIdx_of_lt hi]; omega)).trans ?_
  rw [Array.toList_push,List.append_assoc]
  refine List.Perm.append_left _ ?_
  rw [List.singleton_append]
  exact iV hi
theorem lZ {α:Type} (next:Nat→Nat) (xs:Array α):(pickOrder next xs).toList.Perm xs.toList:=by
 unfold pickOrder
 have:=jv next xs.size 0 xs.toList #[] (by simp)
 simpa using this
section
variable {prog:Program} {w:World} {A:Around} {E:Value→Shared→Prop} {s:Shared}
def bw (w:World) (S:Addr) (es:Array (Int×Value)) (ep:Nat):List Value:=(if w.params.followText "set-order"=true then pickOrder (w.params.setOrder S ep) es else es).toList.map (·.2)
theorem cC (w:World) (S:Addr) (es:Array (Int×Value)) (ep:Nat):(bw w S es ep).Perm (es.toList.map (·.2)):=by
 unfold bw
 refine List.Perm.map _ ?_
 split
 ·exact lZ _ es
 ·exact List.Perm.refl _
def cW (t:SetTable):Nat→Nat
 | 0=> 0
 | j+1=> t.place.getD j 0+1
def az (w:World) (t:SetTable) (i:Nat):Nat:=if w.params.followText "set-order"=true then 0 else cW t i
def jl (w:World) (h:Heap) (it S:Addr) (t:SetTable) (i n ep:Nat):Prop:=∃ o,h.get? it=some o∧o.cls=.type "set_iterator"∧o.data=.fields #[rawInt (az w t i),rawInt i,.ref S,rawInt n,rawInt ep]
theorem jl.ty {it S:Addr} {t:SetTable} {i n ep:Nat} (x:jl w s.heap it S t i n ep):s.TypeIs (.ref it) "set_iterator":=let ⟨o,ho,hc,_⟩:=x; ⟨o,ho,hc⟩
structure SO (prog:Program) (w:World) (o:Obj) (es:Array (Int×Value)) (ep:Nat) (t:SetTable) (hs:List Int):Prop where
 ex:o.ExactSet
 d:o.data=.set es ep t
 T:TOk t hs
 n:hs.length=es.size
 led:t.led=(!w.params.followText "set-order")
 plain:t.plain=true
theorem lm {S:Addr} {o:Obj} {es ep t hs} {Q:Bool→Shared→Prop} (O:SO prog w o es ep t hs) (ho:s.heap.get? S=some o) (h:Q false s):wpAny (model prog w) A (setDrawn S) Q E s:=by
 unfold setDrawn setsByText
 refine wpAny_bind (wpAny_setState_of ho O.d (O.T.fits O.n) (wpAny_bind (wpAny_bind (wpAny_askSetting (wpAny_pure (wpAny_pure ?_))))))
 have q:Q (!w.params.followText "set-order" && (!t.plain && decide (es.size > 1))) s:=by rw [O.plain]; simpa using h
 exact q
theorem lx {S:Addr} {o:Obj} {es ep t hs} {Q:Value→Shared→Prop} (O:SO prog w o es ep t hs) (ho:s.heap.get? S=some o)
  (hQ:Q (.ref s.heap.objs.size) { s with heap:=s.heap.push { cls:=.type "set_iterator",data:=.fields #[rawInt 0,rawInt 0,.ref S,rawInt es.size,rawInt ep] } }):wpAny (model prog w) A (pyIter (.ref S)) Q E s:=by
 have hT:s.TypeIs (.ref S) "set":=⟨o,ho,O.ex.1⟩
 refine wpAny_pyIter_slot hT PySem.F.slot_set_iter (wpAny_call_entry PySem.F.slot_set_iter hT iR ?_ (PySem.F.args_set_iter_1 _))
 unfold Builtin.«frozenset.__iter__»
 show wpAny _ _ (Builtin.Frozenset.sizeOf S >>=_) _ _ s
 unfold Builtin.Frozenset.sizeOf
 refine wpAny_bind (wpAny_bind (wpAny_setEntries_of ho O.d (O.T.fits O.n) (wpAny_pure ?_)))
 refine wpAny_bind (lm O ho ?_)
 simp only [Bool.false_eq_true,if_false]
 refine wpAny_bind (wpAny_pure ?_)
 refine wpAny_bind (wpAny_setEpoch_of ho O.d (O.T.fits O.n) ?_)
 refine wpAny_bind (wpAny_newObj_type (wpAny_pure ⟨_,rfl,"set_iterator",_,⟨_,Heap.get?_push_size _ rfl,rfl⟩,cf.lookup,?_⟩))
 exact hQ
theorem iX {t:SetTable} {hs:List Int} (T:TOk t hs) {i:Nat} (hi:i≤t.place.size):below t.place (cW t i)=i:=by
 obtain ⟨h1,h2,h3⟩:=cP T.R (cW t i)
 cases i with
 | zero=>
  dsimp only [cW] at *
  rcases Nat.eq_zero_or_pos (below t.place 0) with z | z
  ·exact z
  ·have:=h1 0 _ z (cq (by omega)); omega
 | succ j=>
  dsimp only [cW] at *
  have hj:j < t.place.size:=by omega
  have ej:t.place.getD j 0=t.place[j]:=by simp [Array.getD,hj]
  rw [ej] at h1 h2 h3 ⊢
  generalize hb:below t.place (t.place[j]+1)=b at *
  rcases Nat.lt_trichotomy b (j+1) with z | z | z
  ·have:=h2 j t.place[j] (by omega) (cq hj); omega
  ·exact z
  ·have q:=h1 (j+1) _ z (cq (by omega))
   have:=T.R j (j+1) _ _ (by omega) (cq hj) (cq (show j+1 < t.place.size by omega))
   omega
theorem fQ {S:Addr} {o:Obj} {es ep t hs} {i:Nat} {Q:Option (Value×Nat)→Shared→Prop} (O:SO prog w o es ep t hs) (ho:s.heap.get? S=some o) (hi:i≤es.size)
  (h:Q (((bw w S es ep)[i]?).map fun v=> (v,az w t (i+1))) s):wpAny (model prog w) A (setNext S (az w t i) i ep) Q E s:=by
 have hfit:=O.T.fits O.n
 have hpl:t.place.size=es.size:=by rw [O.T.n,O.n]
 unfold setNext setsByText
 refine wpAny_bind (wpAny_setState_of ho O.d hfit (wpAny_bind (wpAny_bind (wpAny_askSetting (wpAny_pure ?_)))))
 by_cases bt:w.params.followText "set-order"=true
 ·dsimp only
  rw [show (model prog w).w.params.followText "set-order"=true from bt,if_pos rfl,if_neg (by simp)]
  unfold setWalk setsByText
  refine wpAny_bind (wpAny_bind (wpAny_setState_of ho O.d hfit (wpAny_bind (wpAny_bind (wpAny_askSetting (wpAny_pure ?_))))))
  dsimp only
  rw [show (model prog w).w.params.followText "set-order"=true from bt,if_pos rfl]
  refine wpAny_bind (wpAny_askSetting (wpAny_pure (wpAny_pure ?_)))
  have e:Option.map (fun (e:Int×Value)=> (e.2,az w t i)) (pickOrder (w.params.setOrder S ep) es)[i]?=((bw w S es ep)[i]?).map fun v=> (v,az w t (i+1)):=by
   unfold bw az
   rw [if_pos bt,if_pos bt,if_pos bt,List.getElem?_map,Array.getElem?_toList,Option.map_map]
   rfl
  have q:Q (Option.map (fun (e:Int×Value)=> (e.2,az w t i)) (pickOrder (w.params.setOrder S ep) es)[i]?) s:=by rw [e]; exact h
  exact q
 ·have bf:w.params.followText "set-order"=false:=by simpa using bt
  dsimp only
  rw [show (model prog w).w.params.followText "set-order"=false from bf,if_neg (by simp)]
  have e1:az w t i=cW t i:=by unfold az; rw [if_neg bt]
  have e2:below t.place (az w t i)=i:=by rw [e1]; exact iX O.T (by omega)
  have e3:(match es[below t.place (az w t i)]?,t.place[below t.place (az w t i)]? with
    | some (_,x),some j=> some (x,j+1)
    | _,_=> none)=((bw w S es ep)[i]?).map fun v=> (v,az w t (i+1)):=by
   rw [e2]
   unfold bw az
   rw [if_neg bt,if_neg bt,List.getElem?_map,Array.getElem?_toList]
   rcases Nat.lt_or_ge i es.size with z | z
   ·have z':i < t.place.size:=by omega
    simp [z,z',Array.getD,cW]
   ·have z':t.place.size≤i:=by omega
    simp [z,z']
  split
  ·rename_i hc
   exact absurd (show (!t.plain && decide (es.size > 1))=true from hc) (by rw [O.plain]; simp)
  ·refine wpAny_bind ?_
   show wpAny _ _ (if (!t.led && !es.isEmpty)=true then unsupported "set:maker-not-led" else pure ()) _ _ _
   rw [O.led,bf,if_neg (by simp)]
   refine wpAny_pure (wpAny_pure ?_)
   have q:Q (match es[below t.place (az w t i)]?,t.place[below t.place (az w t i)]? with
    | some (_,x),some j=> some (x,j+1)
    | _,_=> none) s:=by rw [e3]; exact h
   exact q
set_option maxHeartbeats 1000000 in
theorem ke {S it:Addr} {o:Obj} {es ep t hs} {i:Nat} {v:Value} {Q:Option Value→Shared→Prop} (O:SO prog w o es ep t hs) (ho:s.heap.get? S=some o) (hit:jl w s.heap it S t i es.size ep) (hv:(bw w S es ep)[i]?=some v)
  (hQ:∀ h',jl w h' it S t (i+1) es.size ep→Heap.SameBut it s.heap h'→Q (some v) { s with heap:=h' }):wpAny (model prog w) A (pyNext (.ref it)) Q E s:=by
 obtain ⟨oi,hoi,hc,hd⟩:=id hit
 have hfit:=O.T.fits O.n
 unfold pyNext
 refine wpAny_bind (wpAny_attempt (wpAny_callSpecial?_slot (name:=Str.ofString "__next__") hit.ty cf (wpAny_call_entry cf hit.ty fg ?_ (gc _))))
 unfold Builtin.«set_iterator.__next__»
 refine wpAny_bind (m:=slotArgs "__next__" 0 _) (wpAny_pure ?_)
 dsimp only
 refine wpAny_bind (wpAny_fieldsOf hoi hd ?_)
 dsimp only [rawInt]
 refine wpAny_bind (wpAny_setEntries_of ho O.d hfit ?_)
 rw [if_neg (by simp)]
 have hlt:i < es.size:=by
  have q:=(List.getElem?_eq_some_iff.mp hv).1
  rw [(cC w S es ep).length_eq,List.length_map,Array.length_toList] at q
  exact q
 rw [show ((az w t i:Nat):Int).toNat=az w t i from Int.toNat_natCast _,show ((i:Nat):Int).toNat=i from Int.toNat_natCast _,show ((ep:Nat):Int).toNat=ep from Int.toNat_natCast _]
 refine wpAny_bind (fQ O ho (Nat.le_of_lt hlt) ?_)
 rw [hv]
 dsimp only [Option.map]
 refine wpAny_bind (wpAny_setField hoi hd (by simp) ?_)
 have g1:=Heap.get?_update_self (Obj.mapFields (·.setIfInBounds 0 (Value.int ((az w t (i+1):Nat):Int) 0))) hoi (Obj.isFreed_of_fields (Obj.data_mapFields hd _))
 refine wpAny_bind (wpAny_setField g1 (Obj.data_mapFields hd _) (by simp) ?_)
 refine wpAny_pure ⟨_,rfl,wpAny_pure (hQ _ ?_ ((Heap.SameBut.update ..).trans (Heap.SameBut.update ..)))⟩
 refine ⟨_,Heap.get?_update_self _ g1 (Obj.isFreed_of_fields (Obj.data_mapFields (Obj.data_mapFields hd _) _)),(Obj.cls_mapFields ..).trans ((Obj.cls_mapFields ..).trans hc),?_⟩
 rw [Obj.data_mapFields (Obj.data_mapFields hd _)]
 simp [rawInt]
set_option maxHeartbeats 1000000 in
theorem lM {S it:Addr} {o:Obj} {es ep t hs} {Q:Option Value→Shared→Prop} (hh:A.handled=none) (O:SO prog w o es ep t hs) (ho:s.heap.get? S=some o) (hit:jl w s.heap it S t es.size es.size ep)
  (hQ:∀ h',Heap.ExtBut it s.heap h'→Q none { s with heap:=h' }):wpAny (model prog w) A (pyNext (.ref it)) Q E s:=by
 obtain ⟨oi,hoi,hc,hd⟩:=id hit
 have hfit:=O.T.fits O.n
 unfold pyNext
 refine wpAny_bind (wpAny_attempt (wpAny_callSpecial?_slot (name:=Str.ofString "__next__") hit.ty cf (wpAny_call_entry cf hit.ty fg ?_ (gc _))))
 unfold Builtin.«set_iterator.__next__»
 refine wpAny_bind (m:=slotArgs "__next__" 0 _) (wpAny_pure ?_)
 dsimp only
 refine wpAny_bind (wpAny_fieldsOf hoi hd ?_)
 dsimp only [rawInt]
 refine wpAny_bind (wpAny_setEntries_of ho O.d hfit ?_)
 rw [if_neg (by simp)]
 rw [show ((az w t es.size:Nat):Int).toNat=az w t es.size from Int.toNat_natCast _,show ((es.size:Nat):Int).toNat=es.size from Int.toNat_natCast _,show ((ep:Nat):Int).toNat=ep from Int.toNat_natCast _]
 refine wpAny_bind (fQ O ho (Nat.le_refl _) ?_)
 rw [show (bw w S es ep)[es.size]?=none from List.getElem?_eq_none (by rw [(cC w S es ep).length_eq,List.length_map,Array.length_toList]; exact Nat.le_refl _)]
 dsimp only [Option.map]
 refine wpAny_bind (wpAny_setField hoi hd (by simp) ?_)
 refine wpAny_bind ?_
 simp only [newExc,newTuple]
 refine wpAny_bind (wpAny_newObj_type ?_ (by size_fits))
 refine wpAny_bind (m:=firstArgMember _ _) (wpAny_of_eq (a:=Value.none) (by first | rfl | (simp only [firstArgMember]; rfl)) ?_)
 refine wpAny_newObj_type ?_ (by size_fits)
 simp only [raiseNew]
 refine wpAny_bind (wpAny_handled ?_)
 rw [show A.in1.handled=none from hh]
 refine wpAny_bind (wpAny_pure (wpAny_throw ?_))
 refine wpAny_bind (wpAny_isInstance (T:="StopIteration") (b:=true) ⟨_,Heap.get?_push_size _ rfl,rfl⟩ isSubtype_stop ?_)
 exact wpAny_pure (hQ _ (((Heap.SameBut.update ..).extBut.push _).push _))
end
end ST
namespace ST
open PySem PySem.SetTable PySem.W
theorem gj:Slot "set_iterator" "__iter__" "set_iterator.__iter__":=
 .of (owner:="set_iterator") (n:="__iter__") (by rw [typeLookup_type,builtinLookup_eq_fast]; kernel_rfl) (by decide+kernel) (by decide+kernel) (by decide+kernel) (by first | exact .inl (by decide+kernel) | exact .inr (by decide+kernel)) (by rw [isSubtype_type]; kernel_rfl)
theorem i5:entryFor table "set_iterator.__iter__"=some Builtin.«dict_keyiterator.__iter__»:=entryFor_alias (id':="dict_keyiterator.__iter__") (by kernel_rfl) rfl (by decide+kernel) (by kernel_rfl)
theorem kr (a:Value):argsOk "set_iterator.__iter__" ⟨[a],[]⟩:=by unfold argsOk; kernel_rfl
section
variable {prog:Program} {w:World} {A:Around} {E:Value→Shared→Prop} {s:Shared}
theorem n6 {it S:Addr} {t:SetTable} {i n ep:Nat} {Q:Value→Shared→Prop} (hit:jl w s.heap it S t i n ep) (h:Q (.ref it) s):wpAny (model prog w) A (pyIter (.ref it)) Q E s:=by
 refine wpAny_pyIter_slot hit.ty gj (wpAny_call_entry gj hit.ty i5 ?_ (kr _))
 exact wpAny_pure ⟨_,rfl,"set_iterator",_,hit.ty,cf.lookup,h⟩
theorem j9 (hh:A.handled=none) {it S:Addr} (hne:S≠it) {o:Obj} {es ep t hs} (O:SO prog w o es ep t hs):
  Walks prog w A it [it,S] [it] es.size (fun i v=> (bw w S es ep)[i]?=some v) (fun i h=> jl w h it S t i es.size ep∧h.get? S=some o) where
 sub:=fun b hb=> by simp at hb; simp [hb]
 frame:=fun _ _ _ st hk=> ⟨let ⟨x,hx,r⟩:=st.1; ⟨x,hk it (by simp) x hx,r⟩,hk S (by simp) o st.2⟩
 item:=fun i s Q E hi st hQ=> by
  obtain ⟨v,hv⟩:∃ v,(bw w S es ep)[i]?=some v:=⟨_,List.getElem?_eq_getElem (by rw [(cC w S es ep).length_eq,List.length_map,Array.length_toList]; exact hi)⟩
  refine ke O st.2 st.1 hv fun h' hit' sb=> ?_
  exact hQ v h' s.toks hv ⟨hit',(sb.2 S hne).trans st.2⟩ fun b x hb e=> sb.extBut b x (fun z=> hb (by simp [z])) e
 done:=fun s Q E st hQ=> lM hh O st.2 st.1 fun h' xb=> hQ h' s.toks fun b x hb e=> xb b x (fun z=> hb (by simp [z])) e
 self:=fun _ _ _ _ st hQ=> n6 st.1 hQ
theorem kZ {r:Addr} {Q:Bool→Shared→Prop} (hT:s.TypeIs (.ref r) "set") (h:Q false s):wpAny (model prog w) A (Builtin.List.listLengthHint (.ref r)) Q E s:=by
 unfold Builtin.List.listLengthHint
 refine wpAny_bind (wpAny_specialOf hT PySem.F.slot_set_len.lookup ?_)
 generalize hid:("set.__len__":String)=id0
 wp_delta
 rw [show splitId id0=some ("set","__len__") from by subst hid; decide+kernel]
 subst hid
 refine wpAny_bind (wpAny_isInstance (T:="set") (b:=true) hT (by rw [isSubtype_type]; kernel_rfl) ?_)
 refine wpAny_ite_split (fun z=> absurd z (by decide)) (fun _=> ?_)
 refine wpAny_ite_split (fun _=> ?_) (fun z=> absurd (by decide+kernel) z)
 exact wpAny_bind (wpAny_typeOf hT (wpAny_pure h))
theorem og {S:Addr} {o:Obj} {es ep t hs} (O:SO prog w o es ep t hs):KdlSrc prog w "set" S S es.size (fun i v=> (bw w S es ep)[i]?=some v) (fun h=> h.get? S=some o) where
 type:=fun _ hm=> ⟨o,hm,O.ex.1⟩
 there:=fun _ hm=> ⟨Heap.lt_size hm,Heap.lt_size hm⟩
 keep:=fun _ _ hm hk=> hk S (.inl rfl) o hm
 notList:=by decide
 notTuple:=by decide
 hint:=fun _ _ _ _ hm hq=> kZ ⟨o,hm,O.ex.1⟩ hq
 iter:=fun _ s hh hm=> ⟨_,_,(fun _ _ hq=> lx O hm hq),j9 hh (Nat.ne_of_lt (Heap.lt_size hm)) O,⟨⟨_,Heap.get?_push_size _ rfl,rfl,by simp [az,cW]⟩,Heap.get?_push_of_some _ hm⟩⟩
end
end ST
namespace ST
open PySem PySem.W PyProof.Rows
inductive cY (lt:Nat→Nat→Bool) (n:Nat) {α:Type}:KasT α→α→Prop
 | ret (a:α):cY lt n (.ret a) a
 | ask {i j:Nat} {k:Bool→KasT α} {a:α}:i < n→j < n→cY lt n (k (lt i j)) a→cY lt n (.ask i j k) a
variable {lt:Nat→Nat→Bool} {n:Nat}
theorem cY.bind {α β:Type} {t:KasT α} {a:α} {f:α→KasT β} {b:β} (h:cY lt n t a) (h':cY lt n (f a) b):cY lt n (t.bind f) b:=by
 induction h with
 | ret a=> exact h'
 | ask hi hj _ ih=> exact cY.ask hi hj (ih h')
theorem cY.wp {α:Type} {t:KasT α} {a:α} (h:cY lt n t a) {cmp:Nat→Nat→(Bool→Shared→Prop)→Shared→Prop} {s:Shared} (hc:∀ i j C,i < n→j < n→C (lt i j) s→cmp i j C s) {Q:α→Shared→Prop} (q:Q a s):t.kasWp cmp Q s:=by
 induction h with
 | ret a=> exact q
 | ask hi hj _ ih=> exact hc _ _ _ hi hj (ih q)
structure LtO (n:Nat) (lt:Nat→Nat→Bool):Prop where
 tr:∀ i j k,lt i j=true→lt j k=true→lt i k=true
 tot:∀ i j,i < n→j < n→i≠j→lt i j=false→lt j i=true
 asy:∀ i j,lt i j=true→lt j i=false
abbrev g (p:Array Nat) (k:Nat):Nat:=p.getD k 0
theorem nB {p q:Array Nat} {k l:Nat} (h:p[k]?=q[l]?):g p k=g q l:=by
 unfold g
 rw [Array.getD_eq_getD_getElem?,Array.getD_eq_getD_getElem?,h]
structure PP (n:Nat) (p:Array Nat):Prop where
 perm:p.toList.Perm (List.range n)
theorem PP.size {p:Array Nat} (h:PP n p):p.size=n:=by rw [← Array.length_toList,h.perm.length_eq,List.length_range]
theorem PP.mem {p:Array Nat} (h:PP n p) {k:Nat} (hk:k < n):g p k < n:=by
 have hk':k < p.size:=by rw [h.size]; exact hk
 have e:g p k=p[k]:=by simp [g,Array.getD,hk']
 rw [e]
 exact List.mem_range.mp (h.perm.mem_iff.mp (by simp))
theorem PP.inj {p:Array Nat} (h:PP n p) {k l:Nat} (hk:k < n) (hl:l < n) (e:g p k=g p l):k=l:=by
 have hk':k < p.toList.length:=by rw [Array.length_toList,h.size]; exact hk
 have hl':l < p.toList.length:=by rw [Array.length_toList,h.size]; exact hl
 have nd:p.toList.Nodup:=h.perm.nodup_iff.mpr List.nodup_range
 have e1:g p k=p.toList[k]:=by simp [g,Array.getD,h.size,hk]
 have e2:g p l=p.toList[l]:=by simp [g,Array.getD,h.size,hl]
 exact (List.getElem_inj nd).mp (by rw [← e1,← e2,e])
theorem PP.of {p q:Array Nat} (h:PP n p) (hq:q.Perm p):PP n q:=⟨(Array.perm_iff_toList_perm.mp hq).trans h.perm⟩
def Srt (lt:Nat→Nat→Bool) (p:Array Nat) (m:Nat):Prop:=∀ i j,i < j→j < m→lt (g p i) (g p j)=true
def Dsc (lt:Nat→Nat→Bool) (p:Array Nat) (m:Nat):Prop:=∀ i j,i < j→j < m→lt (g p j) (g p i)=true
theorem Srt.one (p:Array Nat):Srt lt p 1:=fun i j h1 h2=> by omega
theorem Srt.more (O:LtO n lt) {p:Array Nat} {m:Nat} (S:Srt lt p m) (h1:1≤m) (h:lt (g p (m - 1)) (g p m)=true):Srt lt p (m+1):=fun i j hij hj=> by
 rcases Nat.lt_or_eq_of_le (Nat.le_of_lt_succ hj) with z | z
 ·exact S i j hij z
 ·subst z
  rcases Nat.lt_or_eq_of_le (show i≤j - 1 by omega) with y | y
  ·exact O.tr _ _ _ (S i (j - 1) y (by omega)) h
  ·subst y; exact h
theorem Dsc.more (O:LtO n lt) {p:Array Nat} {m:Nat} (S:Dsc lt p m) (h1:1≤m) (h:lt (g p m) (g p (m - 1))=true):Dsc lt p (m+1):=fun i j hij hj=> by
 rcases Nat.lt_or_eq_of_le (Nat.le_of_lt_succ hj) with z | z
 ·exact S i j hij z
 ·subst z
  rcases Nat.lt_or_eq_of_le (show i≤j - 1 by omega) with y | y
  ·exact O.tr _ _ _ h (S i (j - 1) y (by omega))
  ·subst y; exact h
theorem g6 (O:LtO n lt) {p:Array Nat} (P:PP n p):∀ (f m:Nat),1≤m→m+f=n→Srt lt p m→∃ m',cY lt n (kas_asc p f m) m'∧m≤m'∧m'≤n∧Srt lt p m'∧(m' < n→lt (g p m') (g p (m' - 1))=true)
 | 0,m,h1,hf,S=> ⟨m,.ret m,Nat.le_refl _,by omega,S,fun h=> by omega⟩
 | f+1,m,h1,hf,S=> by
  by_cases hc:lt (g p m) (g p (m - 1))=true
  ·refine ⟨m,.ask (P.mem (by omega)) (P.mem (by omega)) ?_,Nat.le_refl _,by omega,S,fun _=> hc⟩
   rw [if_pos hc]; exact .ret m
  ·have hc':lt (g p m) (g p (m - 1))=false:=by simpa using hc
   have ht:=O.tot _ _ (P.mem (show m < n by omega)) (P.mem (show m - 1 < n by omega)) (fun e=> by have:=P.inj (by omega) (by omega) e; omega) hc'
   obtain ⟨m',r,a1,a2,a3,a4⟩:=g6 O P f (m+1) (by omega) (by omega) (S.more O h1 ht)
   refine ⟨m',.ask (P.mem (by omega)) (P.mem (by omega)) ?_,by omega,a2,a3,a4⟩
   rw [if_neg hc]; exact r
theorem hJ (O:LtO n lt) {p:Array Nat} (P:PP n p):∀ (f m:Nat),1≤m→m+f=n→Dsc lt p m→∃ m',cY lt n (kas_desc f p m 0) (p,m',0)∧m≤m'∧m'≤n∧Dsc lt p m'
 | 0,m,h1,hf,S=> ⟨m,.ret _,Nat.le_refl _,by omega,S⟩
 | f+1,m,h1,hf,S=> by
  by_cases hc:lt (g p m) (g p (m - 1))=true
  ·obtain ⟨m',r,a1,a2,a3⟩:=hJ O P f (m+1) (by omega) (by omega) (S.more O h1 hc)
   refine ⟨m',.ask (P.mem (by omega)) (P.mem (by omega)) ?_,by omega,a2,a3⟩
   rw [if_pos hc,if_neg (by omega)]; exact r
  ·have hc':lt (g p m) (g p (m - 1))=false:=by simpa using hc
   have ht:=O.tot _ _ (P.mem (show m < n by omega)) (P.mem (show m - 1 < n by omega)) (fun e=> by have:=P.inj (by omega) (by omega) e; omega) hc'
   refine ⟨m,.ask (P.mem (by omega)) (P.mem (by omega)) ?_,Nat.le_refl _,by omega,S⟩
   rw [if_neg hc]
   refine .ask (P.mem (by omega)) (P.mem (by omega)) ?_
   rw [if_pos ht]; exact .ret _
theorem lX {p:Array Nat} (P:PP n p) {m k:Nat} (hm:m≤n) (hk:k < m):g (kas_rev p 0 m) k=g p (m - 1 - k):=by
 refine nB ?_
 unfold kas_rev
 rw [getElem?_mirror (by rw [P.size]; exact hm) _ (by omega)]
 split
 ·congr 1; omega
 ·congr 1; omega
theorem my {p:Array Nat} (P:PP n p) (i j:Nat):PP n (kas_rev p i j):=P.of (mirror_perm _ _ _ _)
theorem nT {p:Array Nat} (P:PP n p) {m:Nat} (hm:m≤n) (D:Dsc lt p m):Srt lt (kas_rev p 0 m) m:=fun i j hij hj=> by
 rw [lX P hm (by omega),lX P hm hj]
 exact D _ _ (by omega) (by omega)
theorem kv (O:LtO n lt) {p:Array Nat} (P:PP n p) (h2:2≤n):∃ m p',cY lt n (kas_count n p) (m,p')∧PP n p'∧1≤m∧m≤n∧Srt lt p' m:=by
 obtain ⟨m,r,a1,a2,a3,a4⟩:=g6 O P (n - 1) 1 (Nat.le_refl _) (by omega) (Srt.one p)
 by_cases hm:m=n
 ·exact ⟨m,p,r.bind (by rw [if_pos (by simp [hm])]; exact .ret _),P,a1,a2,a3⟩
 ·have hne:¬ ((m==n)=true):=by simpa using hm
  by_cases h1:m > 1
  ·refine ⟨m,p,r.bind ?_,P,a1,a2,a3⟩
   rw [if_neg hne,if_pos h1]
   refine .ask (P.mem (by omega)) (P.mem (by omega)) ?_
   rw [if_pos (a3 0 (m - 1) (by omega) (by omega))]
   exact .ret _
  ·obtain rfl:m=1:=by omega
   have D2:Dsc lt p 2:=Dsc.more O (fun i j x y=> by omega) (Nat.le_refl _) (a4 (by omega))
   obtain ⟨d,rd,b1,b2,b3⟩:=hJ O P (n - 2) 2 (by omega) (by omega) D2
   obtain ⟨e,re,c1,c2,c3,c4⟩:=g6 O (my P 0 d) (n - d) d (by omega) (by omega) (nT P b2 b3)
   refine ⟨e,kas_rev p 0 d,r.bind ?_,my P 0 d,by omega,c2,c3⟩
   rw [if_neg hne,if_neg h1]
   unfold kas_descPart
   refine cY.bind (a:=(p,d,0)) rd ?_
   rw [if_neg (by simp)]
   unfold kas_tail3
   exact re.bind (.ret _)
theorem d_ (O:LtO n lt) {p:Array Nat} (P:PP n p) {k:Nat} (hk:k < n) (S:Srt lt p k):∀ (f l r:Nat),l≤r→r≤k→r - l≤f→(∀ i,i < l→lt (g p i) (g p k)=true)→(∀ i,r≤i→i < k→lt (g p k) (g p i)=true)→
  ∃ l',cY lt n (kas_place p k f l r) l'∧l'≤k∧(∀ i,i < l'→lt (g p i) (g p k)=true)∧(∀ i,l'≤i→i < k→lt (g p k) (g p i)=true)
 | 0,l,r,h1,h2,h3,a,b=> ⟨l,.ret l,by omega,a,fun i x y=> b i (by omega) y⟩
 | f+1,l,r,h1,h2,h3,a,b=> by
  unfold kas_place
  by_cases hlr:l ≥ r
  ·rw [if_pos hlr]
   exact ⟨l,.ret l,by omega,a,fun i x y=> b i (by omega) y⟩
  ·rw [if_neg hlr]
   have hm:(l+r) / 2 < k:=by omega
   by_cases hc:lt (g p k) (g p ((l+r) / 2))=true
   ·obtain ⟨l',r',x1,x2,x3⟩:=d_ O P hk S f l ((l+r) / 2) (by omega) (by omega) (by omega) a fun i hi hik=> by
     rcases Nat.lt_or_eq_of_le hi with z | z
     ·exact O.tr _ _ _ hc (S _ _ z hik)
     ·rw [← z]; exact hc
    refine ⟨l',.ask (P.mem hk) (P.mem (by omega)) ?_,x1,x2,x3⟩
    rw [if_pos hc]; exact r'
   ·have hc':lt (g p k) (g p ((l+r) / 2))=false:=by simpa using hc
    have ht:=O.tot _ _ (P.mem hk) (P.mem (show (l+r) / 2 < n by omega)) (fun e=> by have:=P.inj hk (by omega) e; omega) hc'
    obtain ⟨l',r',x1,x2,x3⟩:=d_ O P hk S f ((l+r) / 2+1) r (by omega) h2 (by omega) (fun i hi=> by
     rcases Nat.lt_or_eq_of_le (Nat.le_of_lt_succ hi) with z | z
     ·exact O.tr _ _ _ (S _ _ z hm) ht
     ·rw [z]; exact ht) b
    refine ⟨l',.ask (P.mem hk) (P.mem (by omega)) ?_,x1,x2,x3⟩
    rw [if_neg hc]; exact r'
theorem jS (O:LtO n lt):∀ (f k:Nat) (p:Array Nat),k+f=n→PP n p→Srt lt p k→∃ p',cY lt n (kas_bin f p k) p'∧PP n p'∧Srt lt p' n
 | 0,k,p,hf,P,S=> ⟨p,.ret p,P,by rw [← hf]; exact S⟩
 | f+1,k,p,hf,P,S=> by
  obtain ⟨l,rl,x1,x2,x3⟩:=d_ O P (show k < n by omega) S k 0 k (Nat.zero_le _) (Nat.le_refl _) (by omega) (fun i h=> by omega) (fun i h h'=> by omega)
  have at_:∀ j,g (bubble p k (k - l)) j=if j=l then g p k else if l < j∧j≤k then g p (j - 1) else g p j:=fun j=> by
   have e:=getElem?_bubble (xs:=p) (src:=k) (by rw [P.size]; omega) (k - l) (by omega) j
   rw [show k - (k - l)=l by omega] at e
   split
   ·rename_i z; rw [if_pos z] at e; exact nB e
   ·rename_i z
    rw [if_neg z] at e
    split
    ·rename_i y; rw [if_pos y] at e; exact nB e
    ·rename_i y; rw [if_neg y] at e; exact nB e
  have e1:g (bubble p k (k - l)) l=g p k:=by rw [at_,if_pos rfl]
  have e2:∀ j,l < j→j≤k→g (bubble p k (k - l)) j=g p (j - 1):=fun j y z=> by rw [at_,if_neg (by omega),if_pos ⟨y,z⟩]
  have e3:∀ j,j < l→g (bubble p k (k - l)) j=g p j:=fun j y=> by rw [at_,if_neg (by omega),if_neg (by omega)]
  have S':Srt lt (bubble p k (k - l)) (k+1):=fun i j hij hj=> by
   rcases Nat.lt_trichotomy j l with y | y | y
   ·rw [e3 i (by omega),e3 j y]; exact S _ _ hij (by omega)
   ·rw [y,e1,e3 i (by omega)]; exact x2 i (by omega)
   ·rw [e2 j y (by omega)]
    rcases Nat.lt_trichotomy i l with z | z | z
    ·rw [e3 i z]; exact S _ _ (by omega) (by omega)
    ·rw [z,e1]; exact x3 (j - 1) (by omega) (by omega)
    ·rw [e2 i z (by omega)]; exact S _ _ (by omega) (by omega)
  obtain ⟨p',r',P',S''⟩:=jS O f (k+1) (bubble p k (k - l)) (by omega) (P.of (bubble_perm _ _ _)) S'
  exact ⟨p',rl.bind r',P',S''⟩
theorem lR (O:LtO n lt) (h2:2≤n):∃ p,cY lt n (kas_sort n) p∧PP n p∧Srt lt p n:=by
 obtain ⟨m,p,r,P,a1,a2,S⟩:=kv O (p:=List.toArray (List.range n)) ⟨by simp⟩ h2
 by_cases hm:m < n
 ·obtain ⟨p',r',P',S'⟩:=jS O (n - max m 1) (max m 1) p (by omega) P (by rw [show max m 1=m by omega]; exact S)
  exact ⟨p',r.bind (by rw [if_pos hm]; exact r'),P',S'⟩
 ·obtain rfl:m=n:=by omega
  exact ⟨p,r.bind (by rw [if_neg hm]; exact .ret _),P,S⟩
end ST
namespace ST
open PySem PySem.W PyProof.Rows
def ltP (a b:Int×Int):Bool:=decide (a.1 < b.1∨(a.1=b.1∧a.2 < b.2))
theorem mW {a b c:Int×Int} (h1:ltP a b=true) (h2:ltP b c=true):ltP a c=true:=by
 unfold ltP at *; simp at *; omega
theorem jQ {a b:Int×Int} (h1:ltP a b=true):ltP b a=false:=by
 unfold ltP at *; simp at *; omega
theorem jF {a b:Int×Int} (h:a≠b) (h1:ltP a b=false):ltP b a=true:=by
 unfold ltP at *
 have:¬ (a.1=b.1∧a.2=b.2):=fun z=> h (Prod.ext z.1 z.2)
 simp at *; omega
section
variable {prog:Program} {w:World} {A:Around} {E:Value→Shared→Prop} {s:Shared}
theorem TK.two {h:Heap} {x y:Int} {b:Addr} (k:TK prog w h [x,y] b):∃ o its n t u,h.get? b=some o∧o.cls=.type "tuple"∧o.data=.seq its n∧its.toList=[.int x t,.int y u]:=by
 obtain ⟨o,its,n,ho,hc,hd,hi⟩:=k
 cases hi':its.toList with
 | nil=> rw [hi'] at hi; cases hi
 | cons v1 r=>
  rw [hi'] at hi
  cases hi with
  | cons h1 hr=>
   cases hr with
   | cons h2 hr2=>
    cases hr2
    obtain ⟨t,rfl⟩:=Value.isInt_shape h1
    obtain ⟨u,rfl⟩:=Value.isInt_shape h2
    exact ⟨o,its,n,t,u,ho,hc,hd,hi'⟩
theorem p9 {x y:Addr} {a b:Int×Int} {Q:Bool→Shared→Prop} (hx:TK prog w s.heap [a.1,a.2] x) (hy:TK prog w s.heap [b.1,b.2] y) (h:Q (ltP a b) s):wpAny (model prog w) A (keyLt' (tuples' true) (.ref x) (.ref y)) Q E s:=by
 obtain ⟨o,its,n,t,u,ho,_,hd,hi⟩:=hx.two
 obtain ⟨o',its',n',t',u',ho',_,hd',hi'⟩:=hy.two
 refine kat_lt ho hd ho' hd' ?_
 rw [hi,hi']
 refine kat_cons ((intKind prog w).eqBool (a:=a.1) (b:=b.1) (intKind_is _ _ _ _) (intKind_is _ _ _ _) ?_)
 by_cases e1:a.1=b.1
 ·rw [decide_eq_true e1]
  refine kat_yes (kat_cons ((intKind prog w).eqBool (a:=a.2) (b:=b.2) (intKind_is _ _ _ _) (intKind_is _ _ _ _) ?_))
  by_cases e2:a.2=b.2
  ·rw [decide_eq_true e2]
   refine kat_yes (kat_nil ?_)
   have z:ltP a b=false:=by unfold ltP; simp; omega
   rw [z] at h
   have z2:decide (its.size < its'.size)=false:=by
    rw [← Array.length_toList,← Array.length_toList,hi,hi']; simp
   rw [z2]; exact h
  ·rw [decide_eq_false e2]
   refine kat_no (kat_one _ _ (lt_int ?_))
   have z:ltP a b=decide (a.2 < b.2):=by unfold ltP; rw [e1]; simp
   rw [z] at h
   exact h
 ·rw [decide_eq_false e1]
  refine kat_no (oneLt_int ?_)
  have z:ltP a b=decide (a.1 < b.1):=by unfold ltP; simp [e1]
  rw [z] at h
  exact h
abbrev PB:=List ((Int×Int)×Addr)
abbrev refs (pb:PB):List Value:=pb.map fun p=> Value.ref p.2
def dfl:(Int×Int)×Addr:=((0,0),0)
theorem jh (pb:PB):(List.range pb.length).map (fun i=> pb.getD i dfl)=pb:=by
 apply List.ext_getElem
 ·simp
 ·intro i h1 h2
  simp at h1
  simp [h1]
theorem lh {pb:PB} {Q:SortKind→Shared→Prop} (htk:∀ p∈pb,TK prog w s.heap [p.1.1,p.1.2] p.2) (h0:0 < pb.length) (h:Q (tuples' true) s):wpAny (model prog w) A (keyKind' (refs pb).toArray) Q E s:=by
 obtain ⟨fs,hf,hl,hi⟩:∃ fs,KatTups s.heap (refs pb) fs∧fs.length=pb.length∧∀ v∈fs,∃ n t,v=Value.int n t:=by
  clear h h0
  induction pb with
  | nil=> exact ⟨[],.nil,rfl,fun v hv=> by simp at hv⟩
  | cons p r ih=>
   obtain ⟨fs,hf,hl,hi⟩:=ih fun q hq=> htk q (List.mem_cons_of_mem _ hq)
   obtain ⟨o,its,n,t,u,ho,hc,hd,hit⟩:=(htk p List.mem_cons_self).two
   refine ⟨.int p.1.1 t::fs,.cons ho hc hd (by rw [← Array.getElem?_toList,hit]; rfl) hf,by simp [hl],fun v hv=> ?_⟩
   rcases List.mem_cons.mp hv with z | z
   ·exact ⟨_,_,z⟩
   ·exact hi v z
 refine kat_kind (T:=.type "int") hf (by omega) (fun v hv=> ?_) (by decide) h
 obtain ⟨n,t,rfl⟩:=hi v hv
 exact Looks.of_pure rfl
set_option maxHeartbeats 1000000 in
theorem mh {a:Addr} {pb:PB} {n:Nat} {P:PySem.Fin→Shared→Prop} (ho:s.heap.get? a=some (seqObj "list" (refs pb).toArray n)) (htk:∀ p∈pb,TK prog w s.heap [p.1.1,p.1.2] p.2) (hnd:(pb.map (·.1)).Nodup) (h64:pb.length < 64)
  (h:∀ pb':PB,pb'.Perm pb→(pb'.map (·.1)).Pairwise (fun x y=> ltP x y=true)→P (.done (.ret .none)) { s with heap:=sortedHeap s.heap a (refs pb) (refs pb').toArray }):
  wpAny (model prog w) A (Builtin.«list.sort» ⟨[.ref a],[]⟩) P E s:=by
 have hvl:(refs pb).length=pb.length:=by simp
 have hva:(refs pb).toArray.size=pb.length:=by simp
 rw [list_sort_plain]
 have ha:a < s.heap.objs.size:=Heap.lt_size ho
 refine wpAny_bind (listItems_at ho rfl (wpAny_bind (listUpdate_at ho rfl ?_ (by rw [hva,sizeLine_eq]; omega) (Nat.zero_le _))))
 obtain ⟨e1,ho1⟩:∃ e1,(s.heap.update a (Obj.mapSeq fun _=> (#[]:Array Value))).get? a=some (seqObj "list" #[] e1):=⟨_,get?_update_seq ho (fun _=> #[])⟩
 refine wpAny_bind (seqEpoch_at ho1 rfl (wpAny_bind (wpAny_newTuple ?_ (by show (refs pb).length≤_; rw [hvl,sizeLine_eq]; omega))))
 refine wpAny_bind (wpAny_newList ?_ (Nat.zero_le _))
 refine wpAny_holding ?_
 generalize hh6:((s.heap.update a (Obj.mapSeq fun _=> (#[]:Array Value))).push (seqObj "tuple" (refs pb).toArray 0)).push (seqObj "list" #[] 0)=h6
 have old6:∀ b o,b≠a→s.heap.get? b=some o→h6.get? b=some o:=fun b o hb e=> by
  rw [← hh6]
  exact Heap.get?_push_of_some _ (Heap.get?_push_of_some _ ((Heap.get?_update_other _ _ (Ne.symm hb)).trans e))
 have ho6:h6.get? a=some (seqObj "list" #[] e1):=by rw [← hh6]; exact Heap.get?_push_of_some _ (Heap.get?_push_of_some _ ho1)
 have tk6:∀ p∈pb,TK prog w h6 [p.1.1,p.1.2] p.2:=fun p hp=> by
  obtain ⟨o,its,k,hop,hc,r⟩:=htk p hp
  refine ⟨o,its,k,old6 p.2 o (fun z=> ?_) hop,hc,r⟩
  rw [z,ho] at hop
  cases hop
  exact absurd hc (by show ¬ (Value.type "list"=Value.type "tuple"); decide)
 have fin:∀ pb':PB,pb'.Perm pb→(pb'.map (·.1)).Pairwise (fun x y=> ltP x y=true)→P (.done (.ret .none)) { s with heap:=h6.update a (Obj.mapSeq fun _=> (refs pb').toArray) }:=fun pb' p1 p2=> by
  rw [← hh6]; exact h pb' p1 p2
 show wpAny (model prog w) A _ P E { s with heap:=h6 }
 dsimp only
 by_cases h2:(refs pb).toArray.size < 2
 ·rw [if_pos h2,if_pos h2]
  refine wpAny_bind (wpAny_pure ?_)
  rw [StateT.run_pure]
  refine wpAny_bind (wpAny_pure ?_)
  dsimp only
  have eout:(arrOf (SortSt.mk' general' ((refs pb).toArray.zip (refs pb).toArray) #[] 7 none)).map (·.2)=(refs pb).toArray:=by
   show (((refs pb).toArray.zip (refs pb).toArray)).map (·.2)=_
   apply Array.toList_inj.mp
   have zip2:∀ l:List Value,(l.zip l).map (·.2)=l:=fun l=> by
    induction l with
    | nil=> rfl
    | cons x r ih=> rw [List.zip_cons_cons,List.map_cons,ih]
   rw [Array.toList_map,Array.toList_zip]
   exact zip2 _
  rw [eout]
  refine wpAny_bind (seqEpoch_at ho6 rfl (wpAny_bind (listUpdate_at ho6 rfl ?_ (Nat.zero_le _) (by rw [hva,sizeLine_eq]; omega))))
  show wpAny _ _ (if (e1 !=e1)=true then _ else _) _ _ _
  rw [if_neg (by simp)]
  refine wpAny_pure (fin pb (List.Perm.refl _) ?_)
  match pb,hva,h2 with
  | [],_,_=> simp
  | [_],_,_=> simp
  | _::_::r,hva,h2=> rw [hva] at h2; exact absurd h2 (by simp)
 ·rw [if_neg h2,if_neg h2]
  rw [hva] at h2
  have h2':2≤(refs pb).length:=by rw [hvl]; omega
  refine wpAny_bind (lh (s:={ s with heap:=h6 }) tk6 (by omega) ?_)
  have inj:∀ i j,i < pb.length→j < pb.length→i≠j→(pb.getD i dfl).1≠(pb.getD j dfl).1:=fun i j hi hj hij e=> by
   refine hij ((List.getElem_inj (xs:=pb.map (·.1)) (h₀:=by simpa using hi) (h₁:=by simpa using hj) hnd).mp ?_)
   simpa [hi,hj] using e
  have O:LtO pb.length (fun i j=> ltP (pb.getD i dfl).1 (pb.getD j dfl).1):=⟨fun i j k=> mW,fun i j hi hj hij=> jF (inj i j hi hj hij),fun i j=> jQ⟩
  obtain ⟨p,R,PP',S⟩:=lR O (by omega)
  have hcmp:∀ i j C,i < pb.length→j < pb.length→C (ltP (pb.getD i dfl).1 (pb.getD j dfl).1) { s with heap:=h6 }→kas_ask prog w A (tuples' true) (refs pb) i j C { s with heap:=h6 }:=fun i j C hi hj c=> by
   unfold kas_ask
   have ei:(refs pb).getD i Value.none=.ref (pb.getD i dfl).2:=by simp [hi]
   have ej:(refs pb).getD j Value.none=.ref (pb.getD j dfl).2:=by simp [hj]
   rw [ei,ej]
   have mi:pb.getD i dfl∈pb:=by simp [hi]
   have mj:pb.getD j dfl∈pb:=by simp [hj]
   exact p9 (s:={ s with heap:=h6 }) (tk6 _ mi) (tk6 _ mj) c
  have tree:(kas_sort (refs pb).length).kasWp (kas_ask prog w A (tuples' true) (refs pb)) (fun p' s'=> p'=p∧s'={ s with heap:=h6 }) { s with heap:=h6 }:=by
   rw [hvl]
   exact R.wp hcmp ⟨rfl,rfl⟩
  refine wpAny_bind (wpAny_mono (kat_run (Q:=fun st' s'=> s'={ s with heap:=h6 }∧failedOf st'=none∧(arrOf st').map (·.2)=List.toArray (p.toList.map fun i=> (refs pb).getD i Value.none)) rfl h2' (by rw [hvl]; exact h64) (fun p' st' s' _ a2 a3 a4=> ?_) tree) ?_ fun _ _ e=> e)
  ·obtain ⟨rfl,rfl⟩:=a4
   exact ⟨rfl,a3,kat_snds rfl a2⟩
  ·rintro ⟨⟨⟩,st'⟩ s' ⟨rfl,hf,hout⟩
   dsimp only
   rw [hout]
   have hlt:∀ i∈p.toList,i < pb.length:=fun i hi=> List.mem_range.mp (PP'.perm.mem_iff.mp hi)
   have er:(p.toList.map fun i=> (refs pb).getD i Value.none)=refs (p.toList.map fun i=> pb.getD i dfl):=by
    unfold refs
    rw [List.map_map]
    refine List.map_congr_left fun i hi=> ?_
    have:=hlt i hi
    simp [this]
   rw [er]
   have hperm:(p.toList.map fun i=> pb.getD i dfl).Perm pb:=by
    refine (PP'.perm.map _).trans ?_
    rw [jh]
   have hs2:(refs (p.toList.map fun i=> pb.getD i dfl)).toArray.size=pb.length:=by simp [PP'.size]
   refine wpAny_bind (seqEpoch_at ho6 rfl (wpAny_bind (listUpdate_at ho6 rfl ?_ (Nat.zero_le _) (by rw [hs2,sizeLine_eq]; omega))))
   rw [hf]
   show wpAny _ _ (if (e1 !=e1)=true then _ else _) _ _ _
   rw [if_neg (by simp)]
   refine wpAny_pure (fin _ hperm ?_)
   rw [List.map_map,List.pairwise_map,List.pairwise_iff_getElem]
   intro i j hi hj hij
   have hj':j < pb.length:=by rw [Array.length_toList,PP'.size] at hj; exact hj
   have q:=S i j hij hj'
   have ei:g p i=p.toList[i]:=by simp [g,Array.getD,PP'.size,show i < pb.length by omega]
   have ej:g p j=p.toList[j]:=by simp [g,Array.getD,PP'.size,hj']
   rw [ei,ej] at q
   exact q
end
end ST
namespace ST
open PySem PySem.W PyProof.Rows PySem.Calls
theorem mR {α β:Type} (f:α→β) {l m:List β} (h:l.Perm m):∀ kb:List α,m=kb.map f→∃ kb':List α,List.Perm kb' kb∧l=List.map f kb':=by
 induction h with
 | nil=> intro kb e; exact ⟨kb,.refl _,e⟩
 | @cons x l m _ ih=>
  intro kb e
  match kb,e with
  | [],e=> simp at e
  | k::kb,e=>
   rw [List.map_cons,List.cons.injEq] at e
   obtain ⟨kb',p,e'⟩:=ih kb e.2
   exact ⟨k::kb',p.cons k,by rw [List.map_cons,← e',e.1]⟩
 | swap x y l=>
  intro kb e
  match kb,e with
  | [],e=> simp at e
  | [_],e=> simp at e
  | k::k'::kb,e=>
   simp only [List.map_cons,List.cons.injEq] at e
   exact ⟨k'::k::kb,.swap k k' kb,by rw [List.map_cons,List.map_cons,← e.2.2,e.1,e.2.1]⟩
 | trans _ _ ih1 ih2=>
  intro kb e
  obtain ⟨kb2,p2,e2⟩:=ih2 kb e
  obtain ⟨kb1,p1,e1⟩:=ih1 kb2 e2
  exact ⟨kb1,p1.trans p2,e1⟩
def ptsOf (kb:List (List Int×Addr)):PB:=kb.map fun p=> ((p.1.getD 0 0,p.1.getD 1 0),p.2)
section
variable {prog:Program} {w:World} {A:Around} {E:Value→Shared→Prop} {s:Shared}
set_option maxHeartbeats 1000000 in
theorem call_sorted_set {S:Addr} {kb:List (List Int×Addr)} {Q:Value→Shared→Prop} (hh:A.handled=none) (P:SP prog w s.heap S kb) (h64:kb.length < 64) (h2:∀ p∈kb,p.1.length=2)
  (h:∀ (h1 h':Heap) (tk:Nat) (pb:PB) (e:Nat),List.Perm pb (ptsOf kb)→(pb.map (·.1)).Pairwise (fun x y=> ltP x y=true)→(∀ b o,s.heap.get? b=some o→h1.get? b=some o)→(∀ b o,h1.get? b=some o→h'.get? b=some o)→h'.get? h1.objs.size=some (seqObj "list" (refs pb).toArray e)→Q (.ref h1.objs.size) { s with heap:=h',toks:=tk }):
  wpAny (model prog w) A (call (.builtin "sorted") [.ref S]) Q E s:=by
 obtain ⟨⟨o,es,ep,t,ho,hex,hd,he,T,hl,hp,_,_⟩,hk,hnd⟩:=P
 have hsz:es.size=kb.length:=by rw [← Array.length_toList,he]; simp [cT]
 have O:SO prog w o es ep t (kb.map fun p=> hsh prog w p.1):=⟨hex,hd,T,by rw [List.length_map,hsz],hl,hp⟩
 have two:∀ p∈kb,p.1=[p.1.getD 0 0,p.1.getD 1 0]:=fun p hp'=> by
  have:=h2 p hp'
  match hq:p.1,this with
  | [x,y],_=> rfl
 refine call_function_entry kind_sorted plain_sorted entry_sorted (args_sorted1 _) ?_
 unfold Builtin.«sorted»
 refine wpAny_bind (m:=checkCount "sorted" 1 1 _) (wpAny_pure ?_)
 refine wpAny_bind (kdu_collect (A:=A.in1) (og O) hh ho (by rw [hsz,sizeLine_eq]; omega) fun h' tk acc keep hacc=> ?_)
 have hal:acc.toList=bw w S es ep:=by
  apply List.ext_getElem?
  intro i
  rcases Nat.lt_or_ge i acc.size with z | z
  ·rw [Array.getElem?_toList,Array.getElem?_eq_getElem z]
   exact (hacc.2 i _ (Array.getElem?_eq_getElem z)).symm
  ·rw [List.getElem?_eq_none (by simpa using z),List.getElem?_eq_none]
   rw [(cC w S es ep).length_eq,List.length_map,Array.length_toList,← hacc.1]; exact z
 obtain ⟨kb1,pk,ek⟩:=mR (fun (p:List Int×Addr)=> Value.ref p.2) (cC w S es ep) kb (by rw [he]; unfold cT; rw [List.map_map]; rfl)
 have hl1:acc.toList=refs (ptsOf kb1):=by
  rw [hal,ek]; unfold refs ptsOf; rw [List.map_map]; rfl
 have hlen1:(ptsOf kb1).length=kb.length:=by unfold ptsOf; rw [List.length_map,pk.length_eq]
 have hlenA:acc.toList.length=kb.length:=by rw [hl1]; simp [hlen1]
 refine wpAny_bind (wpAny_newList ?_ (by rw [hlenA,sizeLine_eq]; omega))
 have hD:(h'.push { cls:=.type "list",data:=.seq acc.toList.toArray }).get? h'.objs.size=some (seqObj "list" (refs (ptsOf kb1)).toArray 0):=by
  rw [← hl1]; exact Heap.get?_push_size _ rfl
 have tk1:∀ p∈ptsOf kb1,TK prog w (h'.push { cls:=.type "list",data:=.seq acc.toList.toArray }) [p.1.1,p.1.2] p.2:=fun p hp'=> by
  obtain ⟨q,hq,rfl⟩:=List.mem_map.mp hp'
  have hq':=pk.mem_iff.mp hq
  obtain ⟨oq,its,k,hoq,r⟩:=hk q hq'
  have e2:=two q hq'
  refine ⟨oq,its,k,Heap.get?_push_of_some _ (keep _ _ hoq),?_⟩
  rw [← e2]; exact r
 have nd1:((ptsOf kb1).map (·.1)).Nodup:=by
  have n1:(kb1.map (·.1)).Nodup:=((pk.map (·.1)).nodup_iff).mpr hnd
  unfold ptsOf
  rw [List.map_map]
  refine List.pairwise_map.mpr ((List.pairwise_map.mp n1).imp_of_mem fun {a b} ha hb hab=> ?_)
  intro z
  have ea:=two a (pk.mem_iff.mp ha)
  have eb:=two b (pk.mem_iff.mp hb)
  have z':(a.1.getD 0 0,a.1.getD 1 0)=(b.1.getD 0 0,b.1.getD 1 0):=z
  rw [Prod.mk.injEq] at z'
  rw [z'.1,z'.2] at ea
  exact hab (ea.trans eb.symm)
 refine wpAny_bind (wpAny_holding (wpAny_call_entry slot_list_sort ⟨_,hD,rfl⟩ entry_list_sort ?_ (args_list_sort _)))
 refine mh (s:={ s with heap:=h'.push { cls:=.type "list",data:=.seq acc.toList.toArray },toks:=tk }) hD tk1 nd1 (by omega) fun pb' pp so=> ⟨_,rfl,wpAny_pure ⟨_,rfl,?_⟩⟩
 obtain ⟨e,eD⟩:=sortedHeap_at (out:=(refs pb').toArray) hD
 refine h h' _ tk pb' e (pp.trans ?_) so keep (fun b x hb'=> ?_) eD
 ·unfold ptsOf; exact pk.map _
 ·have hlt:=Heap.lt_size hb'
  rw [sortedHeap_old (Nat.ne_of_lt hlt) (by rw [Heap.size_push]; exact Nat.lt_succ_of_lt hlt)]
  exact Heap.get?_push_of_some _ hb'
end
end ST
namespace ST
open PySem
def ins (x:Int×Int):List (Int×Int)→List (Int×Int)
 | []=> [x]
 | y::r=> if x=y then y::r else if ltP x y=true then x::y::r else y::ins x r
def srt (pts:List (Int×Int)):List (Int×Int):=pts.foldr ins []
theorem gM (x z:Int×Int):∀ l,z∈ins x l↔z=x∨z∈l
 | []=> by simp [ins]
 | y::r=> by
  unfold ins
  split
  ·rename_i h; subst h; simp
  ·split
   ·simp
   ·rw [List.mem_cons,gM x z r,List.mem_cons]
    constructor
    ·rintro (h | h | h)
     ·exact .inr (.inl h)
     ·exact .inl h
     ·exact .inr (.inr h)
    ·rintro (h | h | h)
     ·exact .inr (.inl h)
     ·exact .inl h
     ·exact .inr (.inr h)
abbrev Asc (l:List (Int×Int)):Prop:=l.Pairwise (fun x y=> ltP x y=true)
theorem jC (x:Int×Int):∀ l,Asc l→Asc (ins x l)
 | [],_=> by simp [ins]
 | y::r,h=> by
  unfold ins
  split
  ·exact h
  ·rename_i hne
   obtain ⟨h1,h2⟩:=List.pairwise_cons.mp h
   split
   ·rename_i hlt
    refine List.pairwise_cons.mpr ⟨fun z hz=> ?_,h⟩
    rcases List.mem_cons.mp hz with e | e
    ·rw [e]; exact hlt
    ·exact mW hlt (h1 z e)
   ·rename_i hlt
    refine List.pairwise_cons.mpr ⟨fun z hz=> ?_,jC x r h2⟩
    rcases (gM x z r).mp hz with e | e
    ·rw [e]; exact jF hne (by simpa using hlt)
    ·exact h1 z e
theorem srt_mem (z:Int×Int):∀ l,z∈srt l↔z∈l
 | []=> by simp [srt]
 | y::r=> by
  show z∈ins y (srt r)↔_
  rw [gM,srt_mem z r,List.mem_cons]
theorem srt_asc:∀ l,Asc (srt l)
 | []=> List.Pairwise.nil
 | y::r=> jC y (srt r) (srt_asc r)
theorem jX {x:Int×Int}:ltP x x=false:=by unfold ltP; simp
theorem asc_one:∀ {l m:List (Int×Int)},Asc l→Asc m→(∀ z,z∈l↔z∈m)→l=m
 | [],[],_,_,_=> rfl
 | [],y::r,_,_,h=> by have:=(h y).mpr List.mem_cons_self; simp at this
 | x::l,[],_,_,h=> by have:=(h x).mp List.mem_cons_self; simp at this
 | x::l,y::m,hl,hm,h=> by
  obtain ⟨a1,a2⟩:=List.pairwise_cons.mp hl
  obtain ⟨b1,b2⟩:=List.pairwise_cons.mp hm
  have e:x=y:=by
   rcases List.mem_cons.mp ((h x).mp List.mem_cons_self) with z | z
   ·exact z
   ·rcases List.mem_cons.mp ((h y).mpr List.mem_cons_self) with z' | z'
    ·exact z'.symm
    ·have:=jQ (b1 x z)
     rw [a1 y z'] at this; cases this
  subst e
  congr 1
  refine asc_one a2 b2 fun z=> ⟨fun hz=> ?_,fun hz=> ?_⟩
  ·rcases List.mem_cons.mp ((h z).mp (List.mem_cons_of_mem _ hz)) with e | e
   ·have:=a1 z hz; rw [e,jX] at this; cases this
   ·exact e
  ·rcases List.mem_cons.mp ((h z).mpr (List.mem_cons_of_mem _ hz)) with e | e
   ·have:=b1 z hz; rw [e,jX] at this; cases this
   ·exact e
theorem jz (x:Int×Int):∀ l,(ins x l).length≤l.length+1
 | []=> by simp [ins]
 | y::r=> by
  have:=jz x r
  unfold ins
  split
  ·simp
  ·split
   ·simp
   ·simp only [List.length_cons]; omega
theorem srt_len:∀ l,(srt l).length≤l.length
 | []=> Nat.le_refl _
 | y::r=> by
  have h1:=jz y (srt r)
  have h2:=srt_len r
  show (ins y (srt r)).length≤_
  simp only [List.length_cons]; omega
end ST
namespace L2
open PySem PySem.Spec PyProof.Rows
theorem rK {p:Nat→Addr→Prop} {n:Nat} (h:∀ i,i < n→∃ b,p i b):∃ f:Nat→Addr,∀ i,i < n→p i (f i):=by
 refine ⟨fun i=> if k:i < n then Classical.choose (h i k) else 0,fun i hi=> ?_⟩
 dsimp only
 rw [dif_pos hi]
 exact Classical.choose_spec (h i hi)
theorem ln:bootBuiltins "set"=some (.type "set"):=by decide+kernel
section
variable {X:Cx} {H0:Hp} {O0:List Addr} {ps:PSt} {e:Expr} {pts:List P2} {pos pos' p p':Pos}
set_option maxHeartbeats 2000000 in
theorem dh (hc:X.calm=true) (hu:X.A.units+10 < cLine) (hg:Gl X "sorted") (hm:X.mg "sorted"=none) (hgs:Gl X "set") (hms:X.mg "set"=none) (ha:Ev X H0 O0 ps e (lp pts)) (hl:pts.length < 64)
  (he:starEach [e] X.env=(false,eval e X.env)::starEach [] X.env:=by rfl):EvN X H0 O0 ps (.Call (.Name "sorted" p) [.Call (.Name "set" p') [e] [] pos'] [] pos) ((ST.srt pts).map pu):=by
 rintro pins s σ H Q I ⟨O,R,q⟩
 have hh:X.A.handled=none:=I.ok.hd hc
 refine wpAny_Call_Name_kw (cU I hg hm boot_sorted ?_)
 refine callWith_builtin1 (e:=.Call (.Name "set" p') [e] [] pos') (rest:=[]) ?_ rfl rfl
 show wpAny _ _ (spliced ((false,eval (.Call (.Name "set" p') [e] [] pos') X.env)::backTo pos (starEach [] X.env))) _ _ s
 refine Calls.spliced_cons ?_
 refine wpAny_Call_Name_kw (cU I hgs hms ln ?_)
 refine callWith_type1 (thn (cu ha eg he pos' pins s σ H (fun vs H1=> ∃ v,vs=[v]∧ay H H1∧Rp X.K (hid H1 O) v (lp pts)) I ⟨O,R,fun v H1 s1 r1=> ⟨v,rfl,s1,r1⟩⟩) fun us s1 hx=> ?_) he rfl
 obtain ⟨vs,H1,I1,rv,v,rfl,sm,rp⟩:=hx
 obtain ⟨u,rfl,ru⟩:=iB rv
 cases rp with
 | @lst a ws _ hq hwl hwi=>
  cases ru
  obtain ⟨its,rw',pl,hz⟩:=I1.list (SqL.of (am _ _ hq))
  have hlp:ws.length=pts.length:=by rw [hwl,List.length_map]
  have hil:its.length=pts.length:=by rw [← rw'.length,hlp]
  have item:∀ i,i < pts.length→∃ b,its[i]?=some (.ref b)∧Rp X.K (hid H1 O) (.ref b) (pu (pts.getD i (0,0)))∧ST.TK X.prog X.w s1.heap [(pts.getD i (0,0)).1,(pts.getD i (0,0)).2] b:=fun i hi=> by
   have hw:ws[i]?=some ws[i]:=List.getElem?_eq_getElem (by omega)
   have hp:(pts.map pu)[i]?=some (pu (pts.getD i (0,0))):=by rw [List.getElem?_map,List.getElem?_eq_getElem hi]; simp [hi]
   have r:=hwi i _ _ hw hp
   obtain ⟨u',e1,e2⟩:=rw'.get hw
   generalize ws[i]=z at *
   cases r with
   | @tup b zs _ hs hsl hsi=>
    cases e2
    refine ⟨b,e1,Rp.tup hs hsl hsi,?_⟩
    obtain ⟨jts,rj,ht,_⟩:=I1.tuple (by exact am.tup hs)
    have z0:zs.length=2:=hsl
    match zs,z0,hsi,rj with
    | [z1,z2],_,hsi,rj=>
     have q1:=hsi 0 z1 _ rfl rfl
     have q2:=hsi 1 z2 _ rfl rfl
     cases q1
     cases q2
     obtain ⟨u1,u2,rfl,r1,r2⟩:=gx rj
     obtain ⟨t1,rfl⟩:=r1
     obtain ⟨t2,rfl⟩:=r2
     obtain ⟨o,ho,hoc,n,hod⟩:=ht
     exact ⟨o,_,n,ho,hoc,hod,.cons (intKind_is _ _ _ _) (.cons (intKind_is _ _ _ _) .nil)⟩
  obtain ⟨ad',adE⟩:=rK item
  have hsz:its.toArray.size=pts.length:=by simp [hil]
  refine ST.call_set_pts (fun i=> ([(pts.getD i (0,0)).1,(pts.getD i (0,0)).2],ad' i)) hh (by show X.A.units+1+1+1 < cLine; omega) pl.isList (fun i z ez=> ?_) (fun i hi=> ?_) (by rw [hsz]; omega) fun h2 tk kb sp got keep=> ?_
  ·have hi:i < pts.length:=by have:=aM (show its[i]?=some z by simpa using ez); omega
   have:=(adE i hi).1
   rw [show its.toArray[i]?=its[i]? by simp,this] at ez
   cases ez; rfl
  ·exact (adE i (by rw [hsz] at hi; exact hi)).2.2
  ·rw [hsz] at got
   have I2:Inv X pins σ H1 { s1 with heap:=h2,toks:=tk }:=I1.kept (t':=tk) keep
   refine Calls.spliced_nil ?_
   have hkl:kb.length < 64:=by have:=got.len; omega
   refine ST.call_sorted_set (s:={ s1 with heap:=h2,toks:=tk }) hh sp hkl (fun z hz=> by obtain ⟨j,_,rfl⟩:=got.src z hz; rfl) fun h3 h4 tk2 pb ep pm so k1 k2 hD=> ?_
   have I3:Inv X pins σ H1 { s1 with heap:=h3,toks:=tk2 }:=I2.kept (t':=tk2) k1
   have src:∀ z∈pb,∃ j,j < pts.length∧z=(pts.getD j (0,0),ad' j):=fun z hz=> by
    obtain ⟨y,hy,rfl⟩:=List.mem_map.mp (pm.mem_iff.mp hz)
    obtain ⟨j,hj,rfl⟩:=got.src y hy
    exact ⟨j,hj,rfl⟩
   have epts:pb.map (·.1)=ST.srt pts:=by
    refine ST.asc_one so (ST.srt_asc pts) fun z=> ?_
    rw [ST.srt_mem]
    constructor
    ·intro hz
     obtain ⟨y,hy,rfl⟩:=List.mem_map.mp hz
     obtain ⟨j,hj,rfl⟩:=src y hy
     simp [hj]
    ·intro hz
     obtain ⟨j,hj⟩:=List.mem_iff_getElem?.mp hz
     have hjl:=aM hj
     have hk:=got.all j hjl
     obtain ⟨y,hy,ey⟩:=List.mem_map.mp hk
     have hin:((y.1.getD 0 0,y.1.getD 1 0),y.2)∈ST.ptsOf kb:=List.mem_map.mpr ⟨y,hy,rfl⟩
     have hin':=pm.mem_iff.mpr hin
     refine List.mem_map.mpr ⟨_,hin',?_⟩
     rw [ey]
     have:pts.getD j (0,0)=z:=by rw [List.getD_eq_getElem?_getD,hj]; rfl
     show ((pts.getD j (0,0)).1,(pts.getD j (0,0)).2)=z
     rw [this]
   have fr:H1 h3.objs.size=none:=I3.hok.fresh (Nat.le_refl _)
   refine ⟨.ref h3.objs.size,upd H1 h3.objs.size (.lst (pb.map fun z=> V.ref z.2)),?_,rfl,?_⟩
   ·refine I3.laid (t':=tk2) k2 (Nat.le_refl _) ⟨?_,(ST.refs pb),ep,?_,hD⟩
    ·rw [List.length_map,← List.length_map (f:=(·.1)),epts,sizeLine_eq]
     have:=ST.srt_len pts
     omega
    ·have all:∀ l:ST.PB,aq (l.map fun z=> V.ref z.2) (ST.refs l):=fun l=> by
      induction l with
      | nil=> exact .nil
      | cons z r ih=> exact .cons rfl ih
     exact all pb
   ·refine q _ _ _ (sm.trans (av fr _)) (sm.free fr) aE ⟨?_,fun i z x e1 e2=> ?_⟩
    ·rw [List.length_map,← epts,List.length_map,List.length_map]
    ·rw [← epts,List.map_map,List.getElem?_map] at e2
     rw [List.getElem?_map] at e1
     cases hpi:pb[i]? with
     | none=> rw [hpi] at e1; cases e1
     | some y=>
      rw [hpi] at e1 e2
      cases e1
      cases e2
      obtain ⟨j,hj,rfl⟩:=src y (List.mem_of_getElem? hpi)
      exact (adE j hj).2.1.same (ba (av fr _) fr)
end
end L2
namespace ST
open PySem
section
variable {prog:Program} {w:World} {A:Around} {s:Shared} {R:Result→Shared→Prop} {I:Addr} {fp wr:List Addr} {G:Array GenState→Array GenState→Prop} {n:Nat} {P:Nat→Value→Prop} {St:Nat→Shared→Prop} {T:String}
def nZ (prog:Program) (w:World) (T:String):Prop:=∀ (A:Around) (E:Value→Shared→Prop) (s:Shared) (r:Addr) (Q:Bool→Shared→Prop),s.TypeIs (.ref r) T→(∀ b,Q b s)→wpAny (model prog w) A (Builtin.List.listLengthHint (.ref r)) Q E s
theorem kN (W:WalksS prog w A.in1 I fp wr G n P St) (hT:∀ i s,St i s→s.TypeIs (.ref I) T) (hl:(Value.type T==Value.type "list")=false) (ht:(Value.type T==Value.type "tuple")=false) (hint:nZ prog w T) (S:Addr) (res:Value) (c₀:Nat) (hst:St 0 s) (hSf:S ∉ fp) (hI:I∈fp)
  (hS:s.heap.get? S=some { cls:=.type "list",data:=.seq #[] c₀ })
  (hR:∀ s' acc' c',Moved (S::wr) G s s'→s'.heap.get? S=some { cls:=.type "list",dict:=none,data:=.seq acc' c',slots:=#[] }→ItemsOf P acc' n→R (.ok (.ret res)) s') (hn:n≤sizeLine):
  wpAny (model prog w) A.in1 (Builtin.List.listExtendWith (.ref S) (.ref I) res)
   (fun fin s'=> match fin with | .done f=> R (.ok f) s' | .again c'=> c'.quiet=true∧codeAny (model prog w) A c' R s') (fun e s'=> R (.error e) s') s:=by
 have hSI:S≠I:=fun e=> hSf (e ▸ hI)
 unfold Builtin.List.listExtendWith
 refine wpAny_bind (wpAny_typeOf (hT 0 _ hst) ?_)
 have k1:Builtin.List.listSameRef (.ref S) (.ref I)=false:=by simp [Builtin.List.listSameRef,hSI]
 simp only [k1,hl,ht,Bool.or_false,Bool.false_eq_true,if_false]
 refine wpAny_bind (W.self 0 _ _ _ hst (wpAny_bind (wpAny_holding (hint _ _ _ _ _ (hT 0 _ hst) fun b=> ?_))))
 refine wpAny_ite_split (fun _=> ?_) (fun _=> ?_)
 ·refine wpAny_bind (wpAny_rule (wpAny_bind ?_))
  show wpAny _ A.in1 (updateSeq S (·.push .none) >>=fun _=> updateSeq S (·.pop)) _ _ _
  refine wpAny_bind (wpAny_updateSeq hS rfl ?_)
  have g2:=Heap.get?_update_self (Obj.mapSeq (·.push Value.none)) hS rfl
  refine wpAny_updateSeq (hz:=by seq_fits) g2 rfl ?_
  have g3:=Heap.get?_update_self (Obj.mapSeq (·.pop)) g2 rfl
  have oth:∀ b o,b≠S→s.heap.get? b=some o→((s.heap.update S (Obj.mapSeq (·.push Value.none))).update S (Obj.mapSeq (·.pop))).get? b=some o:=fun b o hb e=> (Heap.get?_update_other _ _ (Ne.symm hb)).trans ((Heap.get?_update_other _ _ (Ne.symm hb)).trans e)
  refine wpAny_pure ⟨plainId_quiet PySem.F.plain_extend_loop _,codeAny_extend_loopS W hn _ hSf _ n 0 _ _ _ rfl (Nat.zero_le _) (W.frame 0 s _ s.toks hst (Nat.le_refl _) fun b hb o e=> oth b o (fun z=> hSf (z ▸ hb)) e) g3 (ItemsOf.nil P) fun s' acc' c' m g' it=> ?_⟩
  exact hR s' acc' c' (Moved.trans W.gtrans ((Moved.refl W.grefl).then_heap (Nat.le_refl _) fun b o hb e=> oth b o (fun z=> hb (z ▸ List.mem_cons_self)) e) m) g' it
 ·exact wpAny_pure ⟨plainId_quiet PySem.F.plain_extend_loop _,codeAny_extend_loopS W hn _ hSf _ n 0 _ _ _ rfl (Nat.zero_le _) hst hS (ItemsOf.nil P) fun s' acc' c' m g' it=> hR s' acc' c' m g' it⟩
theorem m8 (W:WalksS prog w A.in1 I fp wr G n P St) (hT:∀ i s,St i s→s.TypeIs (.ref I) T) (hl:(Value.type T==Value.type "list")=false) (ht:(Value.type T==Value.type "tuple")=false) (hint:nZ prog w T) (S:Addr) (hst:St 0 s) (hSf:S ∉ fp) (hI:I∈fp)
  (hS:s.heap.get? S=some { cls:=.type "list",data:=.seq #[] })
  (hR:∀ s' acc' c',Moved (S::wr) G s s'→s'.heap.get? S=some { cls:=.type "list",dict:=none,data:=.seq acc' c',slots:=#[] }→ItemsOf P acc' n→R (.ok (.ret .none)) s') (hn:n≤sizeLine):
  wpAny (model prog w) A.in1 (Builtin.«list.__init__» ⟨[.ref S,.ref I],[]⟩)
   (fun fin s'=> match fin with | .done f=> R (.ok f) s' | .again c'=> c'.quiet=true∧codeAny (model prog w) A c' R s') (fun e s'=> R (.error e) s') s:=by
 show wpAny _ A.in1 (Builtin.List.listItems (.ref S) >>=fun old=> Builtin.List.listUpdate (.ref S) (fun _=> #[]) >>=fun _=> letGo old.toList.reverse >>=fun _=> Builtin.List.listExtendWith (.ref S) (.ref I) .none) _ _ s
 refine wpAny_bind ?_
 unfold Builtin.List.listItems
 refine wpAny_bind (wpAny_seqItems hS rfl (wpAny_pure ?_))
 show wpAny _ A.in1 (updateSeq S (fun _=> #[]) >>=fun _=> letGo (#[]:Array Value).toList.reverse >>=fun _=> Builtin.List.listExtendWith (.ref S) (.ref I) .none) _ _ s
 refine wpAny_bind (wpAny_updateSeq hS rfl ?_)
 have g2:=Heap.get?_update_self (Obj.mapSeq (fun _=> (#[]:Array Value))) hS rfl
 have oth:∀ b o,b≠S→s.heap.get? b=some o→(s.heap.update S (Obj.mapSeq (fun _=> (#[]:Array Value)))).get? b=some o:=fun b o hb e=> (Heap.get?_update_other _ _ (Ne.symm hb)).trans e
 refine wpAny_bind (wpAny_letGo ?_)
 refine kN W hT hl ht hint S .none _ (W.frame 0 s _ s.toks hst (Nat.le_refl _) fun b hb o e=> oth b o (fun z=> hSf (z ▸ hb)) e) hSf hI g2 (fun s' acc' c' m g' it=> ?_) hn
 exact hR s' acc' c' (Moved.trans W.gtrans ((Moved.refl W.grefl).then_heap (Nat.le_refl _) fun b o hb e=> oth b o (fun z=> hb (z ▸ List.mem_cons_self)) e) m) g' it
end
section
variable {prog:Program} {w:World} {A:Around} {E:Value→Shared→Prop} {s:Shared} {I:Addr} {fp wr:List Addr} {G:Array GenState→Array GenState→Prop} {n:Nat} {P:Nat→Value→Prop} {St:Nat→Shared→Prop} {T:String}
theorem call_list_it {Q:Value→Shared→Prop} (W:WalksS prog w A.in1.in1 I fp wr G n P St) (hT:∀ i s,St i s→s.TypeIs (.ref I) T) (hl:(Value.type T==Value.type "list")=false) (ht:(Value.type T==Value.type "tuple")=false) (hint:nZ prog w T) (hst:St 0 s) (hfp:∀ b∈fp,b < s.heap.objs.size) (hI:I∈fp)
  (hQ:∀ s' acc' c',Moved (s.heap.objs.size::wr) G { s with heap:=s.heap.push { cls:=.type "list",data:=.seq #[] } } s'→
   s'.heap.get? s.heap.objs.size=some { cls:=.type "list",dict:=none,data:=.seq acc' c',slots:=#[] }→ItemsOf P acc' n→Q (.ref s.heap.objs.size) s') (hn:n≤sizeLine):
  wpAny (model prog w) A (call (.type "list") [.ref I]) Q E s:=by
 have hSf:s.heap.objs.size ∉ fp:=fun hm=> Nat.lt_irrefl _ (hfp _ hm)
 refine callType_codes (Q₁:=fun obj s₁=> obj=.ref s.heap.objs.size∧s₁={ s with heap:=s.heap.push { cls:=.type "list",data:=.seq #[] } }) PySem.F.called_list (PySem.F.typeCall_list_1 _) PySem.F.entry_list_init (code_list_new _ ⟨rfl,rfl⟩) fun obj s₁ h₁=> ?_
 obtain ⟨rfl,rfl⟩:=h₁
 have hS:(s.heap.push { cls:=.type "list",data:=.seq #[] }).get? s.heap.objs.size=some { cls:=.type "list",data:=.seq #[] }:=Heap.get?_push_size _ rfl
 refine ⟨⟨_,hS,rfl⟩,PySem.F.args_list_init_2 _ _,m8 W hT hl ht hint _ (W.frame 0 s _ s.toks hst (Nat.le_refl _) fun b _ o e=> Heap.get?_push_of_some _ e) hSf hI hS (fun s' acc' c' m g' it=> ?_) hn⟩
 exact ⟨rfl,hQ s' acc' c' m g' it⟩
end
theorem nz:typeLookup (.type "list_reverseiterator") "__len__"=pure none:=by rw [typeLookup_type,builtinLookup_eq_fast]; kernel_rfl
theorem fT:Slot "list_reverseiterator" "__length_hint__" "list_reverseiterator.__length_hint__":=
 .of (owner:="list_reverseiterator") (n:="__length_hint__") (by rw [typeLookup_type,builtinLookup_eq_fast]; kernel_rfl) (by decide+kernel) (by decide+kernel) (by decide+kernel) (by first | exact .inl (by decide+kernel) | exact .inr (by decide+kernel)) (by rw [isSubtype_type]; kernel_rfl)
theorem hint_rev (prog:Program) (w:World):nZ prog w "list_reverseiterator":=fun A E s r Q hT h=> by
 unfold Builtin.List.listLengthHint
 refine wpAny_bind (wpAny_specialOf hT nz ?_)
 show wpAny _ A (specialOf (Value.ref r) (Str.ofString "__length_hint__") >>=_) _ _ _
 refine wpAny_bind (wpAny_specialOf hT fT.lookup ?_)
 generalize hid:("list_reverseiterator.__length_hint__":String)=id0
 wp_delta
 rw [show splitId id0=some ("list_reverseiterator","__length_hint__") from by subst hid; decide+kernel]
 subst hid
 refine wpAny_bind (wpAny_isInstance (T:="list_reverseiterator") (b:=true) hT (by rw [isSubtype_type]; kernel_rfl) ?_)
 refine wpAny_ite_split (fun z=> absurd z (by decide)) (fun _=> ?_)
 refine wpAny_ite_split (fun _=> ?_) (fun z=> absurd (by decide+kernel) z)
 refine wpAny_ite_split (fun z=> absurd z (by decide+kernel)) (fun _=> wpAny_pure (h _))
end ST
namespace L2
open PySem PySem.Spec PyProof.Rows
theorem fX:bootBuiltins "reversed"=some (.type "reversed"):=by decide+kernel
theorem aq.rev:∀ {xs:List V} {us:List Value},aq xs us→aq xs.reverse us.reverse:=fun {xs us} r=> by
 induction r with
 | nil=> exact .nil
 | @cons x u xs us r1 r2 ih=>
  rw [List.reverse_cons,List.reverse_cons]
  have app:∀ {a:List V} {b:List Value},aq a b→aq (a++[x]) (b++[u]):=fun {a b} q=> by
   induction q with
   | nil=> exact .cons r1 .nil
   | cons q1 _ ih'=> exact .cons q1 ih'
  exact app ih
theorem Rps.rev {K:PySem.W.Frag} {H:Hp} {vs:List V} {xs:List U} (r:Rps K H vs xs):Rps K H vs.reverse xs.reverse:=⟨by simp [r.len],fun i v x h1 h2=> by
 have hi:i < vs.length:=by have:=aM h1; simpa using this
 have hx:i < xs.length:=by rw [← r.len]; exact hi
 rw [List.getElem?_reverse hi] at h1
 rw [List.getElem?_reverse hx,← r.len] at h2
 exact r.at_ _ v x h1 h2⟩
section
variable {X:Cx} {H0:Hp} {O0:List Addr} {ps:PSt} {e k:Expr} {x:U} {xs:List U} {pos pos' p p' p2:Pos}
theorem qL {K:PySem.W.Frag} {H:Hp} {v:V} (rp:Rp K H v x) (hx:x=.lst xs∨x=.scr xs):∃ a vs,v=.ref a∧SqL K H a vs∧Rps K H vs xs:=by
 rcases hx with rfl | rfl
 ·cases rp with
  | lst hq hl hh=> exact ⟨_,_,rfl,SqL.of hq,hl,hh⟩
 ·cases rp with
  | scr hq hl hh=> exact ⟨_,_,rfl,hq,hl,hh⟩
theorem qj (he:Ev X H0 O0 ps e x) (hk:Ev X H0 O0 ps k (.int (-1))) (hx:x=.lst xs∨x=.scr xs):EvN X H0 O0 ps (.Subscript e (.Slice none none (some k) p2) pos) xs.reverse:=by
 rintro pins s σ H Q I ⟨O,R,q⟩
 refine Subscript_ (thn (he pins s σ H (fun v H1=> ay H H1∧Rp X.K (hid H1 O) v x) I ⟨O,R,fun v H1 s1 r1=> ⟨s1,r1⟩⟩) fun u s1 ⟨v,H1,I1,r1,sm,rp⟩=> ?_)
 obtain ⟨a,vs,rfl,hq,rs⟩:=qL rp hx
 cases r1
 refine wpAny_Slice ?_
 rw [evalPart_none]
 refine wpAny_pure (wpAny_pure ?_)
 rw [evalPart_some]
 refine thn (hk pins s1 σ H1 (fun v H2=> ay H1 H2∧v=.int (-1)) I1 ⟨O,R.go sm,fun v H2 s2 r2=> ⟨s2,by cases r2; rfl⟩⟩) fun uk s2 hy=> ?_
 obtain ⟨vk,H2,I2,rk,s12,rfl⟩:=hy
 obtain ⟨t,rfl⟩:=rk
 have I3:Inv X pins σ H2 { s2 with heap:=s2.heap.push { cls:=.type "slice",data:=.fields #[.none,.none,.int (-1) t] } }:=I2.kept (t':=s2.toks) fun b ob z=> Heap.get?_push_of_some _ z
 obtain ⟨its,rv,pl,hz⟩:=I3.list (s12.seq (am.seq hq))
 have hlen:=rv.length
 show wpAny (model X.prog X.w) X.A (subscriptTail e (.Slice none none (some k) p2) (.ref a) (.ref s2.heap.objs.size)) (EP X pins σ Q) X.xe { s2 with heap:=s2.heap.push { cls:=.type "slice",data:=.fields #[.none,.none,.int (-1) t] } }
 refine tail_any (ops:=[.ref a,.ref s2.heap.objs.size]) pl.isList.typeIs slot_list_getitem.lookup ?_ (by with_unfolding_all rfl)
 refine wpAny_getItem_list_slice pl.isList (Heap.IsSliceOf.new ..) .none .none (IsPart.int _ _) (by simp) ?_ (by rw [List.size_toArray]; omega)
 rw [PySem.W.krv_pick]
 generalize hn:(s2.heap.push { cls:=.type "slice",data:=.fields #[.none,.none,.int (-1) t] }).objs.size=D
 have fr:H2 D=none:=I3.hok.fresh (by rw [← hn]; exact Nat.le_refl _)
 refine ⟨.ref D,upd H2 D (.lst vs.reverse),I3.laid (t':=s2.toks) (o:=.lst vs.reverse) (fun b ob z=> Heap.get?_push_of_some _ z) (by rw [← hn]; exact Nat.le_refl _) ⟨by rw [List.length_reverse]; exact hz,its.reverse,0,rv.rev,?_⟩,rfl,?_⟩
 ·rw [← hn]; exact Heap.get?_push_size _ rfl
 ·refine q D _ _ ((sm.trans s12).trans (av fr _)) ((sm.trans s12).free fr) aE ?_
  exact (rs.rev.same (aW s12)).same (ba (av fr _) fr)
theorem kh (hc:X.calm=true) (hg:Gl X "list") (hm:X.mg "list"=none) (hgr:Gl X "reversed") (hmr:X.mg "reversed"=none) (ha:Ev X H0 O0 ps e (.lst xs))
  (he:starEach [e] X.env=(false,eval e X.env)::starEach [] X.env:=by rfl):EvN X H0 O0 ps (.Call (.Name "list" p) [.Call (.Name "reversed" p') [e] [] pos'] [] pos) xs.reverse:=by
 rintro pins s σ H Q I ⟨O,R,q⟩
 have hh:X.A.handled=none:=I.ok.hd hc
 refine wpAny_Call_Name_kw (cU I hg hm boot_list ?_)
 refine callWith_type1 (e:=.Call (.Name "reversed" p') [e] [] pos') (rest:=[]) ?_ aB rfl
 rw [aB]
 show wpAny _ _ (spliced ((false,eval (.Call (.Name "reversed" p') [e] [] pos') X.env)::backTo pos (starEach [] X.env))) _ _ s
 refine Calls.spliced_cons ?_
 refine wpAny_Call_Name_kw (cU I hgr hmr fX ?_)
 refine callWith_type1 (thn (cu ha eg he pos' pins s σ H (fun vs H1=> ∃ v,vs=[v]∧ay H H1∧Rp X.K (hid H1 O) v (.lst xs)) I ⟨O,R,fun v H1 s1 r1=> ⟨v,rfl,s1,r1⟩⟩) fun us s1 hx=> ?_) he rfl
 obtain ⟨vs,H1,I1,rv,v,rfl,sm,rp⟩:=hx
 obtain ⟨u,rfl,ru⟩:=iB rv
 obtain ⟨a,ws,rfl,hq,rs⟩:=qL rp (.inl rfl)
 cases ru
 obtain ⟨its,rw',pl,hz⟩:=I1.list (am.seq hq)
 have hlen:=rw'.length
 have hsz:its.toArray.size=its.length:=by simp
 refine call_reversed_list pl.isList ?_
 have I2:Inv X pins σ H1 { s1 with heap:=s1.heap.push (revObj a ((its.toArray.size:Int) - 1)) }:=I1.kept (t':=s1.toks) fun b ob z=> Heap.get?_push_of_some _ z
 refine Calls.spliced_nil ?_
 have hal:a < s1.heap.objs.size:=by obtain ⟨o,ho,_⟩:=pl.isList; exact Heap.lt_size ho
 have W:=(Walks.listRev (prog:=X.prog) (w:=X.w) (A:=X.A.in1.in1) hh s1.heap.objs.size a (Nat.ne_of_lt hal) its.toArray).toS
 refine ST.call_list_it (T:="list_reverseiterator") (s:={ s1 with heap:=s1.heap.push (revObj a ((its.toArray.size:Int) - 1)) }) W (fun i s' st=> st.2.1.typeIs) (by decide) (by decide) (ST.hint_rev _ _) ⟨Nat.zero_le _,⟨_,Heap.get?_push_size _ rfl,rfl,by simp [revObj]⟩,pl.isList.push _⟩ (fun b hb=> ?_) (by simp) (fun s3 acc c m hD hit=> ?_) (by rw [hsz]; omega)
 ·show b < (s1.heap.push _).objs.size
  rw [Heap.size_push]
  simp at hb
  rcases hb with z | z
  ·rw [z]; exact Nat.lt_succ_self _
  ·rw [z]; exact Nat.lt_succ_of_lt hal
 ·obtain ⟨h3,g3,d3,tk3,os3⟩:=s3
  obtain rfl:g3=s1.gens:=m.gens
  obtain rfl:d3=s1.drawn:=m.drawn
  obtain rfl:os3=s1.os:=m.os
  have szI:(s1.heap.push (revObj a ((its.toArray.size:Int) - 1))).objs.size=s1.heap.objs.size+1:=Heap.size_push ..
  have keep:∀ b ob,s1.heap.get? b=some ob→h3.get? b=some ob:=fun b ob z=> by
   have hb:=Heap.lt_size z
   refine m.heap b ob (fun y=> ?_) (Heap.get?_push_of_some _ (Heap.get?_push_of_some _ z))
   rcases List.mem_cons.mp y with y | y
   ·rw [y] at hb
    have hb':s1.heap.objs.size+1 < s1.heap.objs.size:=by rw [← szI]; exact hb
    exact absurd hb' (by omega)
   ·rw [List.mem_singleton.mp y] at hb; exact Nat.lt_irrefl _ hb
  have hacc:acc.toList=its.reverse:=by
   apply List.ext_getElem?
   intro i
   rcases Nat.lt_or_ge i acc.size with z | z
   ·have y:=hit.2 i _ (Array.getElem?_eq_getElem z)
    have hi:i < its.length:=by rw [hit.1,hsz] at z; exact z
    rw [Array.getElem?_toList,Array.getElem?_eq_getElem z,List.getElem?_reverse hi,← y,hsz]
    simp
   ·have hi:its.length≤i:=by rw [hit.1,hsz] at z; exact z
    rw [List.getElem?_eq_none (by simpa using z),List.getElem?_eq_none (by simpa using hi)]
  generalize hn:(s1.heap.push (revObj a ((its.toArray.size:Int) - 1))).objs.size=D at *
  have fr:H1 D=none:=I2.hok.fresh (by rw [← hn]; exact Nat.le_refl _)
  have I3:Inv X pins σ (upd H1 D (.lst ws.reverse)) { s1 with heap:=h3,toks:=tk3 }:=I1.laid (t':=tk3) (o:=.lst ws.reverse) keep (by rw [szI]; exact Nat.le_succ _) ⟨by rw [List.length_reverse]; exact hz,its.reverse,c,rw'.rev,by rw [← hacc,Array.toArray_toList]; exact hD⟩
  refine ⟨.ref D,_,I3,rfl,q D _ _ (sm.trans (av fr _)) (sm.free fr) aE ?_⟩
  exact rs.rev.same (ba (av fr _) fr)
end
end L2
namespace L2
open PySem PySem.Spec PyProof.Rows
section
variable {X:Cx} {H0:Hp} {O0:List Addr} {ps:PSt} {xs:List U} {us:List U} {es:List Expr} {x:Str} {pc p' pos:Pos}
theorem cZ (n:Nat) (h:ps[n]?=some (some (.own xs))) (hg:Gl X "len") (hm:X.mg "len"=none) (hN:X.N[n]?=some x:=by rfl) (hv:Vis X.env.scope x:=by first | exact Or.inl rfl | exact Or.inr (Or.inl rfl) | exact Or.inr (Or.inr rfl)) (hd:(x==("__debug__":Str))=false:=by decide)
  (hcd:(x==("__classdict__":Str))=false:=by decide) (hpl:(backTo pos (starEach [] X.env)).any (·.1)=false:=by rfl):Ev X H0 O0 ps (.Call (.Name "len" pc) [.Name x p'] [] pos) (.int xs.length):=pC n h hg hm hN hv hd hcd ac hpl
end
end L2
namespace ST
open PySem
abbrev q0 (h:Heap) (z TI TO T:Addr) (b:Bool):Prop:=h.get? z=some { cls:=.type "zip",dict:=none,data:=.fields #[rawInt T,.bool b,.bool false,.ref TI,.ref TO],slots:=#[] }
section
variable {prog:Program} {w:World} {A:Around} {E:Value→Shared→Prop} {s:Shared}
end
structure ZL (xs ys:Array Value) (z TI TO i1 i2 l1 l2 S:Addr) (h:Heap) (i:Nat) (ad:List Addr) (c:Nat):Prop where
 ti:IsPair h TI (.ref i1) (.ref i2)
 a1:h.IsListIter i1 l1 i
 a2:h.IsListIter i2 l2 i
 b1:h.IsList l1 xs
 b2:h.IsList l2 ys
 acc:h.get? S=some { cls:=.type "list",dict:=none,data:=.seq (ad.map Value.ref).toArray c,slots:=#[] }
 len:ad.length=i
 tup:∀ (j:Nat) (a:Addr),ad[j]?=some a→∃ x y,xs[j]?=some x∧ys[j]?=some y∧IsPair h a x y
 far:∀ a∈ad,a≠z∧a≠TO∧a≠i1∧a≠i2∧a≠S
 to:∃ o,h.get? TO=some o
 nd:ad.Nodup
 zz:(i=0∧IsZip h z TI TO .none∧∃ a b,IsPair h TO a b)∨(∃ b T,ad[0]?=some T∧q0 h z TI TO T b)
section
variable {prog:Program} {w:World} {A:Around} {R:Result→Shared→Prop}
end
end ST
namespace ST
open PySem
section
variable {prog:Program} {w:World} {A:Around} {R:Result→Shared→Prop}
structure ZF (xs ys:Array Value) (S:Addr) (h:Heap) (ad:List Addr) (c:Nat):Prop where
 acc:h.get? S=some { cls:=.type "list",dict:=none,data:=.seq (ad.map Value.ref).toArray c,slots:=#[] }
 len:ad.length=ys.size
 tup:∀ (j:Nat) (a:Addr),ad[j]?=some a→∃ x y,xs[j]?=some x∧ys[j]?=some y∧IsPair h a x y
 ne:∀ a∈ad,a≠S
 nd:ad.Nodup
end
end ST
namespace ST
open PySem
section
variable {prog:Program} {w:World} {A:Around} {E:Value→Shared→Prop} {s:Shared}
end
section
variable {prog:Program} {w:World} {A:Around} {R:Result→Shared→Prop} {s:Shared}
end
section
variable {prog:Program} {w:World} {A:Around} {E:Value→Shared→Prop} {s:Shared}
end
end ST
namespace L2
open PySem PySem.Spec PyProof.Rows
section
variable {P:Program} {w:World} {H:Hp} {h:Heap} {a:Addr} {o:HO}
end
section
variable {X:Cx} {H0:Hp} {O0:List Addr} {ps:PSt} {e f:Expr} {x y:U} {xs ys:List U} {pos pos' p p':Pos}
end
end L2
namespace L2
open PySem PySem.Spec PyProof.Rows
section
variable {X:Cx} {ns:List Int} {M:Int}
end
end L2
namespace ST
open PySem PyProof.Rows
section
variable {prog:Program} {w:World} {A:Around} {E:Value→Shared→Prop} {s:Shared}
end
end ST
namespace L2
open PySem PySem.Spec PyProof.Rows
section
variable {X:Cx} {H0:Hp} {O0:List Addr} {ps:PSt} {a b c:Expr} {pos:Pos} {x y z:U} {p q:P2} {k m:Bool}
end
end L2
namespace L2
open PySem PySem.Spec PyProof.Rows
section
variable {X:Cx} {p q:P2} {l:List P2}
end
end L2
namespace L2
open PySem PySem.Spec PyProof.Rows
section
variable {X:Cx} {H0:Hp} {O0:List Addr} {ps:PSt} {e:Expr} {pts:List P2} {pos pos' p p':Pos}
end
end L2
namespace ST
open PySem
section
variable {prog:Program} {w:World} {A:Around} {R:Result→Shared→Prop} {I S:Addr} {fp wr:List Addr} {n:Nat} {P:Nat→Value→Prop} {St:Nat→Heap→Prop} {G:Heap→Prop} {bt:Nat→Nat→Bool}
end
section
variable {prog:Program} {w:World} {A:Around} {E:Value→Shared→Prop} {s:Shared}
end
section
variable {prog:Program} {w:World} {A:Around} {R:Result→Shared→Prop} {I S:Addr} {fp wr:List Addr} {n:Nat} {P:Nat→Value→Prop} {St:Nat→Heap→Prop} {G:Heap→Prop} {bt:Nat→Nat→Bool}
end
section
variable {prog:Program} {w:World} {A:Around} {E:Value→Shared→Prop} {s:Shared}
end
end ST
namespace ST
open PySem PyProof.Rows
section
variable {prog:Program} {w:World} {A:Around} {E:Value→Shared→Prop} {s:Shared}
end
end ST
namespace L2
open PySem PySem.Spec PyProof.Rows
section
variable {X:Cx} {pts:List P2} {M:P2}
end
end L2
namespace L2
open PySem PySem.Spec PyProof.Rows
section
variable {X:Cx} {H0:Hp} {O0:List Addr} {ps:PSt} {xs:List U} {x:Str} {pos pc p':Pos}
end
end L2
namespace L2
open PySem PySem.Spec PyProof.Rows
section
variable {X:Cx} {H0:Hp} {O0:List Addr} {ps:PSt} {x:Str} {pos:Pos} {a b:Expr} {i j:Int}
end
end L2
namespace L2
open PySem PySem.Spec PyProof.Rows
section
variable {X:Cx} {H0:Hp} {O0:List Addr} {ps:PSt} {e tg:Expr} {p pos:Pos} {xs:List U} {x:U}
end
end L2
namespace L2
open PySem PySem.Spec PyProof.Rows
theorem Rps.rep {K:PySem.W.Frag} {H:Hp} {vs:List V} {xs:List U} (r:Rps K H vs xs):∀ k,Rps K H (List.replicate k vs).flatten (List.replicate k xs).flatten
 | 0=> .nil
 | k+1=> by
  rw [List.replicate_succ,List.replicate_succ,List.flatten_cons,List.flatten_cons]
  exact r.snoc (r.rep k)
section
variable {X:Cx} {H0:Hp} {O0:List Addr} {ps:PSt} {a b:Expr} {pos:Pos} {xs:List U} {u:U} {k:Int}
theorem qM (ha:Ev X H0 O0 ps a (.lst xs)) (hb:Ev X H0 O0 ps b (.int k)) (h1:-(2 ^ 63)≤k) (h2:k < 2 ^ 63) (hz:xs.length * k.toNat≤sizeLine):EvN X H0 O0 ps (.BinOp a .Mult b pos) (List.replicate k.toNat xs).flatten:=
 PE.mono (iw ph ha hb) fun σ H Q ⟨O,R,q⟩=> two R (fun _ _ _ z=> z) (fun _ _ _ z=> z) fun v w H' s _ r1 r2=> by
  cases r2
  cases r1 with
  | lst hq hl hh=>
   refine ⟨_,_,_,rfl,rfl,am _ _ hq,h1,h2,by rw [hl]; exact hz,fun p hp=> q p _ _ (s.trans (av hp _)) (s.free hp) aE ?_⟩
   exact (Rps.rep ⟨hl,hh⟩ _).same (ba (av hp _) hp)
theorem iz {α:Type} (u:α):∀ k,(List.replicate k [u]).flatten=List.replicate k u
 | 0=> rfl
 | k+1=> by rw [List.replicate_succ,List.flatten_cons,iz u k]; rfl
theorem mC (ha:Ev X H0 O0 ps a (.lst [u])) (hb:Ev X H0 O0 ps b (.int k)) (h1:-(2 ^ 63)≤k) (h2:k < 2 ^ 63) (hz:k.toNat≤sizeLine):EvN X H0 O0 ps (.BinOp a .Mult b pos) (List.replicate k.toNat u):=by
 rw [← iz]
 exact qM ha hb h1 h2 (by simpa using hz)
end
end L2
namespace L2
open PySem PySem.Spec PySem.W PyProof.Rows
section
variable {X:Cx}
end
end L2
namespace L2
open PySem PySem.Spec PyProof.Rows
section
variable {X:Cx} {H0:Hp} {O0:List Addr} {E:XK} {ps ps':PSt} {D:PD} {s:Stmt} {ss body:List Stmt} {a b c e:Expr} {es:List Expr} {pos p:Pos} {u x y:U} {xs ys us:List U} {k:Bool}
 {CX:CXT} {n:Nat} {f C:Addr} {fd:FuncData} {pn:List Str} {spec:List U→Out→Prop} {nm:Str}
end
end L2
namespace L2
open PySem PySem.Spec PyProof.Rows
theorem Rs.free {K:PySem.W.Frag} {H0 H:Hp} {O0 O:List Addr} {ps:PSt} {σ:St} {xs:List U} (n:Nat) (h:ps[n]?=some (some (.own xs))) (R:Rs K H0 O0 ps σ H O):∃ O',(∀ b∈O',b∈O)∧Rs K H0 O0 (ps.set n (some (.val (.lst xs)))) σ H O':=by
 obtain ⟨v,hv,a,vs,rfl,ha,ha0,hH,rs⟩:=R.at_ n _ h
 have less:∀ b∈O.filter (fun b=> decide (b≠a)),b∈O:=fun b hb=> (List.mem_filter.mp hb).1
 have keep:∀ b∈O,b≠a→b∈O.filter (fun b=> decide (b≠a)):=fun b hb ne=> List.mem_filter.mpr ⟨hb,by simpa using ne⟩
 have sm:ay (hid H O) (hid H (O.filter (fun b=> decide (b≠a)))):=de less
 have na:a ∉ O.filter (fun b=> decide (b≠a)):=fun z=> by have:=(List.mem_filter.mp z).2; simp at this
 refine ⟨O.filter (fun b=> decide (b≠a)),less,R.same,fun b hb=> keep b (R.old b hb) fun e=> ha0 (e ▸ hb),fun b hb=> R.new b (less b hb),fun b hb=> R.dom b (less b hb),by rw [R.len,List.length_set],fun i s hs=> ?_,fun i j ys zs b h1 h2 h3 h4=> ?_⟩
 ·rcases bZ hs with ⟨rfl,e⟩ | ⟨ne,hs⟩
  ·cases e
   exact ⟨.ref a,hv,.lst (cI hH na) (rs.same sm).len (rs.same sm).at_⟩
  ·obtain ⟨w,hw,ok⟩:=R.at_ i s hs
   refine ⟨w,hw,?_⟩
   cases s with
   | val u=> exact Rp.same sm ok
   | own ys=>
    obtain ⟨b,ws,rfl,hb,hb0,hHb,rsb⟩:=ok
    refine ⟨b,ws,rfl,keep b hb fun e=> ?_,hb0,hHb,rsb.same sm⟩
    subst e
    exact ne (R.inj n i _ _ b h hs hv hw)
   | pin z u=> exact ⟨ok.1,Rp.same sm ok.2⟩
 ·rcases bZ h1 with ⟨_,e⟩ | ⟨_,h1⟩
  ·cases e
  ·rcases bZ h2 with ⟨_,e⟩ | ⟨_,h2⟩
   ·cases e
   ·exact R.inj i j _ _ b h1 h2 h3 h4
section
variable {X:Cx} {H0:Hp} {O0:List Addr} {E:XK} {ps:PSt} {D:PD} {ss:List Stmt} {e:Expr} {xs:List U} {b:Bool}
theorem o4 (n:Nat) (h:ps[n]?=some (some (.own xs))) (w:Ws X H0 O0 E ss D (ps.set n (some (.val (.lst xs))))):Ws X H0 O0 E ss D ps:=
 PSs.mono w fun D' σ H ⟨L,O,R⟩=> by
  obtain ⟨O',_,R'⟩:=R.free n h
  exact ⟨L,O',R'⟩
end
end L2
namespace L2
open PySem PySem.Spec PyProof.Rows
section
variable {X:Cx} {ns:List Int} {M:Int}
end
end L2
namespace L2
open PySem PySem.Spec PyProof.Rows
section
variable {X:Cx} {H0:Hp} {O0:List Addr} {E:XK} {ps:PSt} {D:PD} {e:Expr} {pos:Pos} {xs ys:List U}
end
end L2
namespace L2
open PySem PySem.Spec PySem.W PyProof.Rows
section
variable {X:Cx}
end
section
variable {X:Cx} {H0:Hp} {O0:List Addr} {E:XK} {ps:PSt} {D:PD} {a e:Expr} {es:List Expr} {us:List U} {k:Bool} {n:Nat} {fd:FuncData} {pn:List Str} {spec:List U→Out→Prop}
end
end L2
namespace L2
open PySem PySem.Spec PyProof.Rows
section
variable {X:Cx} {H0:Hp} {O0:List Addr} {ps:PSt} {a b:Expr} {p:P2} {l:List P2}
end
end L2
namespace ST
open PySem PySem.W PySem.Calls PyProof.Rows
section
variable {prog:Program} {w:World} {A:Around} {E:Value→Shared→Prop} {s:Shared}
end
end ST
namespace L2
open PySem PySem.Spec PyProof.Rows
section
variable {X:Cx} {H0:Hp} {O0:List Addr} {ps:PSt} {e:Expr} {p pos:Pos} {a b:P2}
end
end L2
namespace ST
open PySem PySem.W PySem.Calls PyProof.Rows
section
variable {prog:Program} {w:World} {A:Around} {E:Value→Shared→Prop} {s:Shared}
end
end ST
namespace L2
open PySem PySem.Spec PyProof.Rows
section
variable {X:Cx} {H0:Hp} {O0:List Addr} {ps:PSt} {e:Expr} {pts:List P2} {pos p:Pos}
end
end L2
namespace L2
open PySem PySem.Spec PySem.W PyProof.Rows
section
variable {X:Cx}
end
section
variable {X:Cx} {H0:Hp} {O0:List Addr} {E:XK} {ps:PSt} {D:PD} {a e:Expr} {es:List Expr} {us:List U} {k:Bool} {n:Nat} {fd:FuncData} {pn:List Str} {spec:List U→Out→Prop}
end
end L2
namespace L2
open PySem PySem.Spec PySem.W PyProof.Rows
structure rT (K:PySem.W.Frag) (x qual:Str) (st:Stmt) (f:Addr) (fd:FuncData) (D:Addr):Prop where
 ex:∃ (oc:Value) (od:Option Addr) (kV doc pm:Value) (an:Option Addr) (cdv ct:Value) (osl:Array (Option Value)),
  fd=PySem.W.fnOf x qual (ax st) (au st) (ai st) (.ref D) kV doc pm an cdv ct∧K.lookup f=some ⟨oc,od,.func fd,osl⟩∧PySem.W.codeIn K cdv qual=true
 kp:PySem.W.keepIn K (.ref f)=true
section
variable {P:Program} {w:World} {K:PySem.W.Frag} {mg:Str→Option Value} {base:Heap} {N pn:List Str} {qual nm:Str} {f D:Addr}
end
section
variable {X:Cx} {H0:Hp} {O0:List Addr} {ps:PSt} {e:Expr} {es:List Expr} {pos p:Pos} {u:U} {us:List U} {xs:List U} {CX:CXT} {n:Nat} {f:Addr} {fd:FuncData} {pn:List Str} {spec:List U→Out→Prop} {nm:Str} {j:Int}
end
end L2
namespace L2
open PySem PySem.Spec PyProof.Rows
section
variable {X:Cx} {H0:Hp} {O0:List Addr} {ps:PSt} {a b:Expr} {k:Int} {ns:List Int}
end
end L2
namespace L2
open PySem PySem.Spec PyProof.Rows
section
variable {X:Cx} {tg:Expr}
variable {H0:Hp} {O0:List Addr} {ps:PSt} {a b:Expr} {p pos:Pos}
end
section
variable {X:Cx} {H0:Hp} {O0:List Addr} {E:XK} {ps ps':PSt} {D:PD} {tg iter cond:Expr} {pos p:Pos} {xs:List U}
end
end L2
namespace L2
open PySem PySem.Spec PyProof.Rows
section
variable {X:Cx} {H0:Hp} {O0:List Addr} {ps:PSt} {e:Expr} {ns:List Int} {pos p:Pos}
end
end L2
namespace L2
open PySem PySem.Spec PyProof.Rows
section
variable {X:Cx} {H0:Hp} {O0:List Addr} {E:XK} {ps:PSt} {D:PD} {c:Expr} {pos:Pos} {xs:List U}
end
end L2
namespace L2
open PySem PySem.Spec PyProof.Rows
theorem lN {X:Cx} {H0:Hp} {O0:List Addr} {ps:PSt} {xs:List U} {c:Expr} {b:Bool} (n:Nat) (h:ps[n]?=some (some (.own xs))) (w:Tt X H0 O0 (ps.set n (some (.val (.lst xs)))) c b):Tt X H0 O0 ps c b:=
 fun pins s σ H Q I ⟨O,R,k⟩=> by
  obtain ⟨O',_,R'⟩:=R.free n h
  exact w pins s σ H Q I ⟨O',R',k⟩
end L2
namespace TS
open PySem PyProof.Rows
section
variable {prog:Program} {w:World} {A:Around} {E:Value→Shared→Prop} {s:Shared}
def gt (a:Array Keyed) (i:Nat):Keyed:=a.getD i (Value.none,Value.none)
end
section
variable {prog:Program} {w:World} {A:Around} {E:Value→Shared→Prop} {s:Shared}
end
section
variable {α:Type} {R:α→α→Bool} {A B out:List α} {ia ib:Nat}
structure MI (R:α→α→Bool) (A B out:List α) (ia ib:Nat):Prop where
 perm:out.Perm (A.take ia++B.take ib)
 srt:out.Pairwise fun x y=> R x y=true
 lA:∀ x∈out,∀ y∈A.drop ia,R x y=true
 lB:∀ x∈out,∀ y∈B.drop ib,R x y=true
structure MO (R:α→α→Bool) (A B:List α):Prop where
 tr:∀ x y z,R x y=true→R y z=true→R x z=true
 sA:A.Pairwise fun x y=> R x y=true
 sB:B.Pairwise fun x y=> R x y=true
 tot:∀ x∈A,∀ y∈B,R y x=false→R x y=true
end
section
variable {M:Model} {A:Around} {E:Value→Shared→Prop} {s:Shared} {σ:Type}
end
section
variable {prog:Program} {w:World} {A:Around} {E:Value→Shared→Prop} {s:Shared}
def i7 (prog:Program) (w:World) (A:Around) (E:Value→Shared→Prop) (s:Shared) (κ:SortKind) (P:Keyed→Prop) (R:Keyed→Keyed→Bool):Prop:=
 ∀ x y st (Q:Option Bool→SortSt→Prop),P x→P y→kindOf st=κ→Q (some (R x y)) st→wpS (model prog w) A E s (lt' x y) Q st
variable {κ:SortKind} {P:Keyed→Prop} {R:Keyed→Keyed→Bool} (K:i7 prog w A E s κ P R)
include K
end
section
variable {α:Type} {R:α→α→Bool} {A B:List α}
end
section
variable {prog:Program} {w:World} {A:Around} {E:Value→Shared→Prop} {s:Shared} {κ:SortKind} {P:Keyed→Prop} {R:Keyed→Keyed→Bool} (K:i7 prog w A E s κ P R)
include K
end
end TS
namespace TS
open PySem PyProof.Rows
section
end
section
variable {prog:Program} {w:World} {A:Around} {E:Value→Shared→Prop} {s:Shared} {κ:SortKind} {P:Keyed→Prop} {R:Keyed→Keyed→Bool} (K:i7 prog w A E s κ P R)
include K
end
end TS
namespace TS
open PySem PyProof.Rows
section
variable {prog:Program} {w:World} {A:Around} {E:Value→Shared→Prop} {s:Shared} {κ:SortKind} {P:Keyed→Prop} {R:Keyed→Keyed→Bool}
structure Ord (P:Keyed→Prop) (R:Keyed→Keyed→Bool) (l:List Keyed):Prop where
 tr:∀ x y z,R x y=true→R y z=true→R x z=true
 tot:∀ x∈l,∀ y∈l,x≠y→R x y=false→R y x=true
 nd:l.Nodup
 hp:∀ x∈l,P x
structure Stt (κ:SortKind) (l:List Keyed) (pd:Array (Nat×Nat×Nat)) (st:SortSt):Prop where
 kind:kindOf st=κ
 failed:failedOf st=none
 perm:(arrOf st).toList.Perm l
 pend:pendingOf st=pd
variable {l:List Keyed} {pd:Array (Nat×Nat×Nat)}
def Kept (a b:Array Keyed) (lo:Nat):Prop:=∀ j,j < lo→gt b j=gt a j
variable (K:i7 prog w A E s κ P R)
include K
end
end TS
namespace TS
open PySem PyProof.Rows
section
variable {prog:Program} {w:World} {A:Around} {E:Value→Shared→Prop} {s:Shared} {κ:SortKind} {P:Keyed→Prop} {R:Keyed→Keyed→Bool} {l:List Keyed} {pd:Array (Nat×Nat×Nat)}
variable (K:i7 prog w A E s κ P R)
include K
end
end TS
namespace TS
open PySem PyProof.Rows
section
variable {prog:Program} {w:World} {A:Around} {E:Value→Shared→Prop} {s:Shared} {κ:SortKind} {P:Keyed→Prop} {R:Keyed→Keyed→Bool} {l:List Keyed}
variable (K:i7 prog w A E s κ P R)
include K
end
end TS
namespace TS
open PySem PyProof.Rows
section
variable {prog:Program} {w:World} {A:Around} {E:Value→Shared→Prop} {s:Shared} {κ:SortKind} {P:Keyed→Prop} {R:Keyed→Keyed→Bool} {l:List Keyed}
variable (K:i7 prog w A E s κ P R)
include K
end
end TS
namespace ST
open PySem PySem.W PyProof.Rows
abbrev ky (p:(Int×Int)×Addr):Keyed:=(Value.ref p.2,Value.ref p.2)
open Classical in
noncomputable def RP (pb:PB) (x y:Keyed):Bool:=decide (∃ p∈pb,∃ q∈pb,x=ky p∧y=ky q∧ltP p.1 q.1=true)
section
variable {prog:Program} {w:World} {A:Around} {E:Value→Shared→Prop} {s:Shared}
end
end ST
namespace ST
open PySem PySem.W PyProof.Rows PySem.Calls
section
variable {prog:Program} {w:World} {A:Around} {E:Value→Shared→Prop} {s:Shared}
end
end ST
namespace L2
open PySem PySem.Spec PyProof.Rows
section
variable {X:Cx} {H0:Hp} {O0:List Addr} {ps:PSt} {e:Expr} {pts:List P2} {pos pos' p p':Pos}
end
end L2
namespace L2
open PySem PySem.Spec PyProof.Rows
section
variable {X:Cx} {tg:Expr}
variable {H0:Hp} {O0:List Addr} {ps:PSt} {a:Expr} {p pos:Pos}
end
end L2
namespace ST
open PySem PySem.W PySem.Calls PyProof.Rows
section
variable {prog:Program} {w:World} {A:Around} {E:Value→Shared→Prop} {s:Shared}
end
end ST
namespace L2
open PySem PySem.Spec PyProof.Rows
section
variable {X:Cx} {H0:Hp} {O0:List Addr} {ps:PSt} {e:Expr} {pts:List P2} {pos p:Pos}
end
end L2
namespace L2
open PySem PySem.Spec PyProof.Rows
section
variable {X:Cx} {H0:Hp} {O0:List Addr} {E:XK} {ps ps':PSt} {D:PD} {a b c e:Expr} {es:List Expr} {u:U} {xs ys us:List U}
 {n:Nat} {C:Addr} {fd:FuncData} {pn:List Str} {spec:List U→Out→Prop}
end
end L2
namespace L2
open PySem PySem.Spec PySem.W PyProof.Rows
section
variable {X:Cx} {H0:Hp} {O0:List Addr} {E:XK} {ps:PSt} {D:PD} {s:Stmt} {pos:Pos} {u:U} {xs:List U}
end
section
variable {P:Program} {w:World} {K:PySem.W.Frag} {mg:Str→Option Value} {base:Heap} {N pn:List Str} {qual nm:Str} {f:Addr}
end
section
variable {X:Cx} {H0:Hp} {O0:List Addr} {ps:PSt} {e:Expr} {xs:List U} {us:List U} {x nm:Str} {pc p' pos:Pos} {u:U}
end
end L2
namespace L2
open PySem PySem.Spec PySem.W PyProof.Rows
section
variable {X:Cx}
end
section
variable {X:Cx} {H0:Hp} {O0:List Addr} {E:XK} {ps:PSt} {D:PD} {e c:Expr} {es:List Expr} {us:List U} {n:Nat} {fd:FuncData} {pn:List Str} {spec:List U→Out→Prop} {AA rest:List Stmt} {nx:PSt→Prop} {ex:PSt→Addr→Prop}
end
end L2
namespace L2
open PySem PySem.Spec PySem.W PyProof.Rows
abbrev T' (l:List Nat):Str:=⟨l.toArray⟩
section
variable {X:Cx} {tg:Expr}
end
section
variable {X:Cx} {H0:Hp} {O0:List Addr} {ps:PSt} {a b e tg:Expr} {es:List Expr} {pos p p2:Pos} {x y:Str} {i:Int} {lo hi:Option Expr} {l h:Option Int}
variable {apos cpos:Pos}
end
inductive Cst:Expr→U→Prop
 | str (x:Str) (j) (p:Pos):Cst (.Constant (.str x) j p) (.str x)
 | int (i:Int) (j) (p:Pos):Cst (.Constant (.int i) j p) (.int i)
 | bl (b:Bool) (j) (p:Pos):Cst (.Constant (.bool b) j p) (.bl b)
 | non (j) (p:Pos):Cst (.Constant .none j p) .non
inductive pE:List Expr→List U→Prop
 | nil:pE [] []
 | cons {e:Expr} {u:U} {es:List Expr} {us:List U}:Cst e u→pE es us→pE (e::es) (u::us)
structure EvD (X:Cx) (H0:Hp) (O0:List Addr) (ps:PSt) (e:Expr) (u:U):Prop where
 ev:Ev X H0 O0 ps e u
theorem dsp {X:Cx} {H0:Hp} {O0:List Addr} {ps:PSt} {es:List Expr} {us:List U} {pos:Pos} (h:EvS X H0 O0 ps es us) (hz:us.length≤sizeLine):EvD X H0 O0 ps (.List es pos) (.lst us):=⟨EvN.ev (bj h hz)⟩
end L2
namespace L2
open PySem PySem.Spec PySem.W PyProof.Rows
section
variable {X:Cx} {H0:Hp} {O0:List Addr} {ps:PSt} {a b e:Expr} {x y:Str}
variable {apos cpos:Pos}
end
section
variable {X:Cx} {H0:Hp} {O0:List Addr} {E:XK} {ps:PSt} {a b e:Expr} {es:List Expr} {y:Str} {l:List Nat} {c:Nat} {apos cpos pos:Pos} {u:U} {C:Addr}
theorem pY:PA X es (fun _ _ _=> False):=fun _ _ _ _ _ _ _ h=> h.elim
end
end L2
namespace L2
open PySem PySem.Spec PySem.W PyProof.Rows
section
variable {M:Model} {A:Around} {E:Value→Shared→Prop} {s:Shared}
theorem dE {base:Heap} {l:List Env} {e:Addr} {cls a0 fl:Value} {Q:Unit→Shared→Prop} (f:Option Addr) (k:base.StaysIn s.heap) (fr:s.heap.FunFrames base l) (t:s.heap.TracedAtW base e cls a0 fl)
  (h:∀ h',base.StaysIn h'→h'.FunFrames base l→h'.TracedAtW base e cls a0 (f.elim Value.none fun L=> rawInt L)→s.heap.UpToSlots h'→Q () { s with heap:=h' }):wpAny M A (setFlight (.ref e) f) Q E s:=by
 obtain ⟨oe,vs,T,oT,ts,he,hc,hd,h1,hn,hne,hT,hdT,h3⟩:=t
 have sz:3 < ts.size:=(Array.getElem?_eq_some_iff.mp h3).1
 have oth:∀ b,b≠T→(s.heap.update T (Obj.mapFields (·.setIfInBounds 3 (f.elim Value.none fun L=> rawInt L)))).get? b=s.heap.get? b:=fun b hb=> Heap.get?_update_other _ _ (Ne.symm hb)
 have ot:∀ b o,s.heap.get? b=some o→(∀ vs,o.data≠.fields vs)→b≠T:=fun b o hb q z=> by
  rw [z,hT] at hb; cases hb; exact q ts hdT
 unfold setFlight
 refine wpAny_bind (wpAny_field he hd h1 ?_)
 rw [if_pos (show (Value.ref T !=Value.none)=true by simp)]
 refine wpAny_setField hT hdT sz (h _ (fun b o q=> ?_) (fr.of_keeps fun b o q z=> ⟨o,(oth b (ot b o q z)).trans q,rfl⟩) ⟨oe,vs,T,_,_,(oth e (Ne.symm hne)).trans he,hc,hd,h1,hn,hne,Heap.get?_update_self _ hT (Obj.isFreed_of_fields (Obj.data_mapFields hdT _)),Obj.data_mapFields hdT _,by simp [sz]⟩ fun b o q z=> ⟨o.slots,(oth b (ot b o q z)).trans q⟩)
 exact (oth b fun z=> by rw [z,hn] at q; cases q).trans (k b o q)
theorem iY {base:Heap} {env:Env} {outer:List Env} {L e:Addr} {cls a0 fl:Value} {Q:Unit→Shared→Prop} (hfr:A.frames=some (env::outer)) (hf:env.frame=some L) (k:base.StaysIn s.heap) (n:base.get? e=none)
  (fr:s.heap.FunFrames base (env::outer)) (t:s.heap.TracedAtW base e cls a0 fl) (hQ:∀ h',Heap.FlyingW base outer e cls a0 h'→s.heap.UpToSlots h'→Q () { s with heap:=h' }):wpAny M A (leaving env (.ref e)) Q E s:=by
 have t':=t
 obtain ⟨oe,vs,T,oT,ts,he,⟨hc,h0⟩,hd,h1,hn,hne,hT,hdT,h3⟩:=t'
 unfold leaving
 refine wpAny_bind ?_
 by_cases hL:(fl==rawInt L)=true
 ·unfold noteFrame
  simp only [hf]
  refine wpAny_bind (wpAny_field he hd h1 ?_)
  rw [if_pos (show (Value.ref T !=Value.none)=true by simp)]
  refine wpAny_bind (wpAny_field hT hdT h3 ?_)
  rw [if_pos hL]
  exact wpAny_pure (dE none k fr t fun h' k1 k2 k3 k4=> hQ h' ⟨k1,n,k2.2.2,k3⟩ k4)
 ·subst hc
  have oth:∀ b,b≠T→(s.heap.update T (Obj.mapFields (·.setIfInBounds 3 Value.none))).get? b=s.heap.get? b:=fun b hb=> Heap.get?_update_other _ _ (Ne.symm hb)
  have ot:∀ b o,s.heap.get? b=some o→(∀ vs,o.data≠.fields vs)→b≠T:=fun b o hb q z=> by
   rw [z,hT] at hb; cases hb; exact q ts hdT
  unfold noteFrame
  simp only [hf]
  refine wpAny_bind (wpAny_field he hd h1 ?_)
  rw [if_pos (show (Value.ref T !=Value.none)=true by simp)]
  refine wpAny_bind (wpAny_field hT hdT h3 ?_)
  rw [if_neg hL]
  refine wpAny_bind (wpAny_setField hT hdT (Array.getElem?_eq_some_iff.mp h3).1 ?_)
  refine wpAny_newEntryW hfr (fr.of_keeps fun b o q z=> ⟨o,(oth b (ot b o q z)).trans q,rfl⟩) hf ((oth e (Ne.symm hne)).trans he) (fun b o q=> (oth b fun z=> by rw [z,hn] at q; cases q).trans (k b o q)) n hd (Array.getElem?_eq_some_iff.mp h1).1 h0
   fun h' ⟨x1,x2,x3,x4⟩=> hQ h' ⟨x1,n,x2.2.2,x3⟩ fun b o q z=> x4 b o ((oth b (ot b o q z)).trans q) z
end
theorem jI {h h' B B':Heap} (hb:∀ b,B.get? b=none→B'.get? b=none):∀ {l:List Env},(∀ L∈frs l,∀ o,h.get? L=some o→h'.get? L=some o)→h.FunFrames B l→h'.FunFrames B' l
 | [],_,_=> trivial
 | env::r,k,⟨h1,⟨L,o,hf,hn,ho,hd⟩,h3⟩=> by
  rw [d8 hf] at k
  exact ⟨h1,⟨L,o,hf,hb L hn,k L List.mem_cons_self o ho,hd⟩,jI hb (fun L' hL'=> k L' (List.mem_cons_of_mem _ hL')) h3⟩
def CXH (P:Program) (w:World) (ch:List Addr) (outer:List Env) (H:Hp) (s:Shared) (E:XK) (e:Value) (s':Shared):Prop:=
 ∃ (ea:Addr) (cls a0 fl:Value) (B:Heap) (H':Hp),e=.ref ea∧s'.os=s.os∧AllBare s'.gens∧Un (frs outer) ch H H' s.heap s'.heap∧HOk P w H' s'.heap∧H' ea=none∧
  (∀ b o,s.heap.get? b=some o→b ∉ frs outer→b ∉ ch→H b=none→B.get? b=some o)∧(∀ b u,H' b=some u→∃ o,B.get? b=some o)∧(∀ b o,s.heap.get? b=some o→b ∉ frs outer→b ∉ ch→∃ o',B.get? b=some o')∧
  B.StaysIn s'.heap∧B.get? ea=none∧s'.heap.FunFrames B outer∧s'.heap.TracedAtW B ea cls a0 fl∧E cls none H'
def dS (X:Cx) (E:XK):Prop:=∀ (pins:List (Addr×Obj)) (σ:St) (H:Hp) (s:Shared) (e:Value) (s':Shared) (ch:List Addr),Inv X pins σ H s→(∀ b∈ch,X.s₀.heap.objs.size≤b)→CXH X.prog X.w ch X.stack H s E e s'→X.xe e s'
section
variable {P:Program} {w:World} {K:Frag} {mg:Str→Option Value} {base:Heap} {N:List Str} {qual:Str} {scope:Scope} {f:Addr} {cd:Value} {A:Around} {outer:List Env} {s:Shared} {H:Hp} {E:XK}
theorem j8 {pins:List (Addr×Obj)} {σ:St} {H1 H':Hp} {s1:Shared} {B h1 h2:Heap} {ch:List Addr} (I:Inv (cn (CXF P w) P w K mg base N qual scope f cd A outer s H E) pins σ H1 s1) (hch:∀ b∈ch,s.heap.objs.size≤b)
  (un:Un (frs (envOfC qual scope s.heap.objs.size f cd::outer)) ch H1 H' s1.heap h1)
  (k1:∀ b o,s1.heap.get? b=some o→b ∉ frs (envOfC qual scope s.heap.objs.size f cd::outer)→b ∉ ch→H1 b=none→B.get? b=some o) (k3:∀ b o,s1.heap.get? b=some o→b ∉ frs (envOfC qual scope s.heap.objs.size f cd::outer)→b ∉ ch→∃ o',B.get? b=some o')
  (st:B.StaysIn h2) (up:h1.UpToSlots h2):
  Un (frs outer) [] H H' s.heap h2∧(∀ b o,s.heap.get? b=some o→b ∉ frs outer→H b=none→B.get? b=some o)∧(∀ b o,s.heap.get? b=some o→b ∉ frs outer→∃ o',B.get? b=some o'):=by
 have nc:∀ b o,s.heap.get? b=some o→b ∉ ch:=fun b o e z=> absurd (Heap.lt_size e) (Nat.not_lt.mpr (hch b z))
 have ef:frs (envOfC qual scope s.heap.objs.size f cd::outer)=s.heap.objs.size::frs outer:=d8 rfl
 rw [ef] at un k1 k3
 have ne:∀ b o,s.heap.get? b=some o→b ∉ frs outer→b ∉ s.heap.objs.size::frs outer:=fun b o e hb z=> by
  rcases List.mem_cons.mp z with y | y
  ·exact absurd (Heap.lt_size e) (by rw [y]; exact Nat.lt_irrefl _)
  ·exact hb y
 have ib:Un (frs outer) [] H H1 s.heap s1.heap:=I.base
 have K1:∀ b o,s.heap.get? b=some o→b ∉ frs outer→H b=none→B.get? b=some o:=fun b o e hb n=>
  k1 b o (ib.keep b o e n hb (by simp)) (ne b o e hb) (nc b o e) (ib.free b o e n (by simp))
 have K3:∀ b o,s.heap.get? b=some o→b ∉ frs outer→∃ o',B.get? b=some o':=fun b o e hb=> by
  obtain ⟨o',e'⟩:=ib.there b o e (by simp)
  exact k3 b o' e' (ne b o e hb) (nc b o e)
 have ffr:∀ b∈frs outer,∀ o,s.heap.get? b=some o→∀ vs,o.data≠.fields vs:=dR I.ok.funs
 have frf:∀ b∈frs outer,H b=none:=I.ok.frf
 refine ⟨⟨fun b o e n hb _=> st b o (K1 b o e hb n),fun b o e n hb hx=> ?_,fun b o e n hx=> ?_,fun b o e hx=> ?_,fun b xs e=> un.tups b xs (ib.tups b xs e),fun b o u e=> un.frzs b o u (ib.frzs b o u e),fun b ps e=> ?_⟩,K1,K3⟩
 ·obtain ⟨sl,e1⟩:=ib.slot b o e n hb hx
  obtain ⟨sl2,e2⟩:=un.slot b _ e1 (ib.free b o e n hx) (List.mem_cons_of_mem _ hb) (nc b o e)
  obtain ⟨sl3,e3⟩:=up b _ e2 (ffr b hb o e)
  exact ⟨sl3,e3⟩
 ·obtain ⟨o',e1⟩:=ib.there b o e hx
  exact un.free b o' e1 (ib.free b o e n hx) (nc b o e)
 ·by_cases hb:b∈frs outer
  ·obtain ⟨sl,e1⟩:=ib.slot b o e (frf b hb) hb hx
   obtain ⟨sl2,e2⟩:=un.slot b _ e1 (ib.free b o e (frf b hb) hx) (List.mem_cons_of_mem _ hb) (nc b o e)
   obtain ⟨sl3,e3⟩:=up b _ e2 (ffr b hb o e)
   exact ⟨_,e3⟩
  ·obtain ⟨o',e'⟩:=K3 b o e hb
   exact ⟨o',st b o' e'⟩
 ·obtain ⟨m1,e1⟩:=ib.tbls b ps e
  obtain ⟨m2,e2⟩:=un.tbls b _ e1
  exact ⟨m1++m2,by rw [e2,Array.append_assoc]⟩
theorem lV:dS (cn (CXF P w) P w K mg base N qual scope f cd A outer s H E) E:=by
 intro pins σ H1 s1 e s' ch I hch hcx
 obtain ⟨ea,cls,a0,fl,B,H',rfl,os,bare,un,hok,hea,k1,k2,k3,st,bn,ff,tr,hE⟩:=hcx
 show wpAny _ _ (leaving (envOfC qual scope s.heap.objs.size f cd) (.ref ea)) _ _ s'
 refine iY (L:=s.heap.objs.size) I.ok.frames rfl st bn ff tr fun h2 fl2 up=> ?_
 obtain ⟨u,K1,K3⟩:=j8 I hch un k1 k3 fl2.1 up
 exact ⟨ea,cls,a0,B,H',rfl,os.trans I.os,bare,u,dk hok k2 st fl2.1,hea,K1,k2,K3,fl2,hE⟩
end
section
variable {X:Cx} {pins:List (Addr×Obj)} {σ:St} {H:Hp} {s:Shared} {E:XK}
theorem jq {scope:Scope} {cl:List (Str×Addr)} {fp:List Addr} {use:Option (Value→Sem Unit)} {Q:Value→Shared→Prop} {acc:Value} (hstk:X.stack=X.env::X.outer) (hfr:X.env.frame=some X.env.locals) (hx:dS X E) (I3:Inv X pins σ H s) (hfp:∀ b∈fp,X.s₀.heap.objs.size≤b):
  bR (CXF X.prog X.w) ((al X scope cl s.heap.objs.size s H fp).wish (notedBy (model X.prog X.w) X.A (compEnvC scope cl s.heap.objs.size X.env) (fun e s'=> compPost (model X.prog X.w) X.A X.xe use Q acc s.heap.objs.size (.error e) s'))) E:=by
 intro pp σ' H' s' e s6 I' hcx
 have J:=I'.unwish
 obtain ⟨ea,cls,a0,B0,H6,rfl,os,bare,un,hok,hea,k1,k2,k3,fl,hE⟩:=hcx
 have un:Un (frs X.stack) [] H' H6 s'.heap s6.heap:=un
 have ib:Un (frs X.stack) fp H H' s.heap s'.heap:=J.base
 have fl':Heap.FlyingW B0 (X.env::X.outer) ea cls a0 s6.heap:=by rw [← hstk]; exact fl
 show wpAny _ _ (noteFrame (.ref ea) X.env) _ _ s6
 refine wpAny_looks_onW (I3.ok.frames.trans (congrArg some hstk)) hfr fl' fun h7 held up=> ?_
 generalize hC:s.heap.objs.size=C at *
 have lt:∀ b o,s.heap.get? b=some o→b≠C:=fun b o q=> by rw [← hC]; exact Nat.ne_of_lt (Heap.lt_size q)
 have cF:C ∉ frs X.stack:=fun z=> by
  rw [hstk,d8 hfr] at z
  rcases List.mem_cons.mp z with y | y
  ·have:=I3.lt
   rw [← hC] at y
   exact absurd this (by rw [y]; exact Nat.lt_irrefl _)
  ·exact I3.nofs (Nat.le_of_eq hC) y
 have cN:H' C=none:=J.free
 obtain ⟨m,hns,_⟩:=J.loc
 have hns:s'.heap.Ns C m:=hns
 obtain ⟨oC,es,ep,hoC,hdC,rC⟩:=id hns
 have ns6:s6.heap.Ns C m:=⟨oC,es,ep,un.keep _ oC hoC cN cF (by simp),hdC,rC⟩
 have ns7:=up.ns ns6
 refine ⟨m,ns7,fun h8 sb cenv _=> ?_⟩
 obtain ⟨p1,p2,p3,p4⟩:=held
 have keep8:∀ b o,b≠C→h7.get? b=some o→h8.get? b=some o:=fun b o hb q=> sb.extBut b o hb q
 have notC:∀ b o vs,h7.get? b=some o→o.data=.fields vs→b≠C:=by
  intro b o vs q d z
  subst z
  obtain ⟨o',_,_,e',d',_⟩:=ns7
  rw [q] at e'
  cases e'
  rw [d] at d'
  cases d'
 have bst:(hideAll B0 [C]).StaysIn h8:=fun b o q=> keep8 b o (fun z=> by rw [z,hideAll_none [C] (by simp)] at q; cases q) (p1 b o (of_hideAll _ q))
 have bnone:∀ b,B0.get? b=none→(hideAll B0 [C]).get? b=none:=fun b hb=> by
  cases q:(hideAll B0 [C]).get? b with
  | none=> rfl
  | some o=> have:=of_hideAll _ q; rw [hb] at this; cases this
 have ff8:h8.FunFrames (hideAll B0 [C]) X.stack:=by
  rw [← hstk] at p3
  exact jI bnone (fun L hL o q=> keep8 L o (fun z=> cF (by rw [← z]; exact hL)) q) p3
 have tr8:h8.TracedAtW (hideAll B0 [C]) ea cls a0 (rawInt X.env.locals):=by
  obtain ⟨oe,vs,T,oT,ts,he,hc',hd,h1,hn,hne,hT,hdT,h3⟩:=p4
  exact ⟨oe,vs,T,oT,ts,keep8 _ _ (notC _ _ _ he hd) he,hc',hd,h1,bnone _ hn,hne,keep8 _ _ (notC _ _ _ hT hdT) hT,hdT,h3⟩
 obtain ⟨oe,vs,T,oT,ts,he8,hc8,hd8,h18,_⟩:=id tr8
 have fin:∀ h9 fl9,(hideAll B0 [C]).StaysIn h9→h9.FunFrames (hideAll B0 [C]) X.stack→h9.TracedAtW (hideAll B0 [C]) ea cls a0 fl9→h8.UpToSlots h9→X.xe (.ref ea) { s6 with heap:=h9 }:=by
  intro h9 fl9 q1 q2 q3 q4
  have K1:∀ b o,s.heap.get? b=some o→b ∉ frs X.stack→b ∉ fp→H b=none→(hideAll B0 [C]).get? b=some o:=fun b o q hb hp n=>
   hideAll_get _ (k1 b o (ib.keep b o q n hb hp) hb (ib.free b o q n hp)) (by simpa using lt b o q)
  have k2':∀ b u,H6 b=some u→∃ o,(hideAll B0 [C]).get? b=some o:=fun b u q=> by
   obtain ⟨o,ho⟩:=k2 b u q
   refine ⟨o,hideAll_get _ ho ?_⟩
   have:b≠C:=fun z=> by
    subst z
    have:=un.free b oC hoC cN (by simp)
    rw [q] at this; cases this
   simpa using this
  have K3:∀ b o,s.heap.get? b=some o→b ∉ frs X.stack→b ∉ fp→∃ o',(hideAll B0 [C]).get? b=some o':=fun b o q hb hp=> by
   obtain ⟨o',e'⟩:=ib.there b o q hp
   obtain ⟨o2,e2⟩:=k3 b o' e' hb
   exact ⟨o2,hideAll_get _ e2 (by simpa using lt b o q)⟩
  have slot:∀ b o,s.heap.get? b=some o→b∈frs X.stack→b ∉ fp→∃ sl,h9.get? b=some { o with slots:=sl }:=fun b o q hb hp=> by
   have hn:H b=none:=I3.stkFree b hb
   have dn:=dR I3.stack b hb o q
   obtain ⟨sl,e1⟩:=ib.slot b o q hn hb hp
   obtain ⟨sl2,e2⟩:=un.slot b _ e1 (ib.free b o q hn hp) hb (by simp)
   obtain ⟨sl3,e3⟩:=up b _ e2 dn
   obtain ⟨sl4,e4⟩:=q4 b _ (keep8 b _ (lt b o q) e3) dn
   exact ⟨sl4,e4⟩
  refine hx pins σ H s (.ref ea) { s6 with heap:=h9 } fp I3 hfp ⟨ea,cls,a0,fl9,hideAll B0 [C],H6,rfl,os.trans J.os,bare,⟨fun b o q n hb hp=> q1 b o (K1 b o q hb hp n),fun b o q n hb hp=> slot b o q hb hp,fun b o q n hp=> ?_,fun b o q hp=> ?_,fun b xs q=> un.tups b xs (ib.tups b xs q),fun b o u q=> un.frzs b o u (ib.frzs b o u q),fun b ps q=> ?_⟩,
   dk hok k2' (fun b o q=> fl.1 b o (of_hideAll _ q)) q1,hea,K1,k2',K3,q1,bnone _ p2,q2,q3,hE⟩
  ·obtain ⟨o',e1⟩:=ib.there b o q hp
   exact un.free b o' e1 (ib.free b o q n hp) (by simp)
  ·by_cases hb:b∈frs X.stack
   ·obtain ⟨sl,e1⟩:=slot b o q hb hp
    exact ⟨_,e1⟩
   ·obtain ⟨o',e'⟩:=K3 b o q hb hp
    exact ⟨o',q1 b o' e'⟩
  ·obtain ⟨m1,e1⟩:=ib.tbls b ps q
   obtain ⟨m2,e2⟩:=un.tbls b _ e1
   exact ⟨m1++m2,by rw [e2,Array.append_assoc]⟩
 unfold PySem.passOn
 refine wpAny_bind (wpAny_field he8 hd8 h18 ?_)
 rw [if_neg (show ¬ ((Value.ref T==Value.none)=true) by simp)]
 first
  | exact wpAny_bind (dE cenv.frame bst ff8 tr8 fun h9 q1 q2 q3 q4=> wpAny_throw (fin h9 _ q1 q2 q3 q4))
  | exact wpAny_bind (wpAny_pure (wpAny_bind (dE cenv.frame bst ff8 tr8 fun h9 q1 q2 q3 q4=> wpAny_throw (fin h9 _ q1 q2 q3 q4))))
theorem kG {elt iter tg:Expr} {scope:Scope} {cl:List (Str×Addr)} {pos pos0:Pos} {is:List Nat} {wi:TI} {g:TG} {te:TE} {use:Option (Value→Sem Unit)} {Q0:VK} {Q:Value→Shared→Prop} (hc:X.calm=true) (hstk:X.stack=X.env::X.outer) (hfr:X.env.frame=some X.env.locals) (hx:dS X E) (hex:X.ex=[]) (B:cr X scope cl is)
  (hi:PI X tg iter wi) (hg:∀ C s H fp,PG (al X scope cl C s H fp) tg g) (he:∀ C s H fp EE,bR (CXF X.prog X.w) ((al X scope cl C s H fp).wish EE) E→PE ((al X scope cl C s H fp).wish EE) elt te) (hs:∀ x,foldedSetIterable iter X.env x=pure x)
  (I:Inv X pins σ H s) (h:jM is wi g te σ H Q0)
  (fin:∀ (l C:Addr) (H':Hp) (s':Shared) (m:Str→Option Value),Inv X pins σ H' s'→s'.heap.Ns C m→H' C=none→C≠X.env.locals→C ∉ X.fs→X.s₀.heap.objs.size≤C→(∀ x c,X.env.cells.lookup x=some c→c≠C)→(∀ p∈X.pn++pins,p.1≠C)→Q0 (.ref l) H'→
   compPost (model X.prog X.w) X.A X.xe use Q (.ref l) C (.ok .next) s'):
  wpAny (model X.prog X.w) X.A (comprehension (.ListComp elt [⟨tg,iter,[],0⟩] scope pos) scope X.env pos0 (newList []) false (eval iter X.env) use) Q X.xe s:=by
 refine wpAny_comprehension_free rfl hs B.clos B.kind B.names (thn (hi pins s σ H _ I h) fun xv s1 h1=> thn h1 fun itv s2 h2=> ?_)
 obtain ⟨it,fp,tn,J,H2,e,I2,T,st2,f2,R⟩:=h2
 subst e
 refine wpAny_newObj_type (wpAny_newFunctionEnv B.cell (by intro y hy; simp at hy) (fun h₁ hns hsb=> ?_) B.kind)
 have hl:H2 s2.heap.objs.size=none:=I2.hok.fresh (Nat.le_refl _)
 obtain ⟨W,⟨m0,w0⟩,turn⟩:=R s2.heap.objs.size hl
 have I3:Inv X pins σ (upd H2 s2.heap.objs.size (.lst [])) { s2 with heap:=s2.heap.push { cls:=.type "list",dict:=none,data:=.seq ([]:List Value).toArray } }:=
  I2.laid (t':=s2.toks) (o:=.lst []) (fun b u e=> Heap.get?_push_of_some _ e) (Nat.le_refl _) ⟨Nat.zero_le _,[],0,.nil,Heap.get?_push_size _ rfl⟩
 have hfl:∀ b∈fp,b < s2.heap.objs.size:=fun b hb=> let ⟨o,e,_⟩:=T.obj 0 _ st2 b hb; Heap.lt_size e
 have f3:∀ b∈fp,fH X pins (upd H2 s2.heap.objs.size (.lst [])) b:=fun b hb=> ⟨by rw [aI (Nat.ne_of_lt (hfl b hb))]; exact (f2 b hb).1,(f2 b hb).2⟩
 have kp:∀ b o,(s2.heap.push { cls:=.type "list",dict:=none,data:=.seq ([]:List Value).toArray }).get? b=some o→h₁.get? b=some o:=fun b o e=>
  hsb.extBut b o (Nat.ne_of_lt (Heap.lt_size e)) (Heap.get?_push_of_some _ e)
 have st4:tn 0 h₁:=T.keep 0 _ _ st2 fun b _ o e=> kp b o (Heap.get?_push_of_some _ e)
 have hfl3:∀ b∈fp,b < (s2.heap.push { cls:=.type "list",dict:=none,data:=.seq ([]:List Value).toArray }).objs.size:=fun b hb=> by
  rw [Heap.size_push]; exact Nat.lt_succ_of_lt (hfl b hb)
 have I4:=eM (t':=s2.toks+([]:List (Str×Value)).length) I3 B f3 hfl3 hns kp
 have loop:codeAny (model X.prog X.w) X.A (.compLoop (.ListComp elt [⟨tg,iter,[],0⟩] scope pos) 0 (.ref it) (.ref s2.heap.objs.size) (compEnvC scope cl (s2.heap.push { cls:=.type "list",dict:=none,data:=.seq ([]:List Value).toArray }).objs.size X.env))
   (compPost (model X.prog X.w) X.A X.xe use Q (.ref s2.heap.objs.size) (s2.heap.push { cls:=.type "list",dict:=none,data:=.seq ([]:List Value).toArray }).objs.size)
   { s2 with heap:=h₁,toks:=s2.toks+([]:List (Str×Value)).length }:=by
  generalize hs3:({ s2 with heap:=s2.heap.push { cls:=.type "list",dict:=none,data:=.seq ([]:List Value).toArray } }:Shared)=s3 at *
  have hC:(s2.heap.push { cls:=.type "list",dict:=none,data:=.seq ([]:List Value).toArray }).objs.size=s3.heap.objs.size:=by rw [← hs3]
  rw [hC]
  have pass:=jq (scope:=scope) (cl:=cl) (fp:=fp) (use:=use) (Q:=Q) (acc:=.ref s2.heap.objs.size) hstk hfr hx I3 fun b hb=> by
   rcases (f3 b hb).2.2.2.1 with z | z
   ·rw [hex] at z; cases z
   ·exact z
  have hstat:∀ {H':Hp},(∀ b∈fp,H' b=none)→∀ b∈fp,fH (al X scope cl s3.heap.objs.size s3 (upd H2 s2.heap.objs.size (.lst [])) fp) [] H' b:=fun hn b hb=>
   ⟨hn b hb,(I4.ok.exf b hb).1,I4.ok.exfs b hb,.inl hb,fun x c e=> (I4.ok.exf b hb).2 x c e,fun p hp=> absurd (show p∈([]:List (Addr×Obj)) from hp) (by simp)⟩
  have back:∀ {σ':St} {H':Hp} {pp:List (Addr×Obj)} {s':Shared},Inv (al X scope cl s3.heap.objs.size s3 (upd H2 s2.heap.objs.size (.lst [])) fp) pp σ' H' s'→Inv X pins σ H' s':=fun I'=>
   I3.call' (ch:=fp) I'.os I'.base I'.hok I'.bare fun b hb=> ⟨(f3 b hb).2.2.2.1,(f3 b hb).2.1,(f3 b hb).2.2.2.2.1,(f3 b hb).2.2.2.2.2⟩
  refine codeAny_loop rfl (fun n s'=> ∃ i H',Inv (al X scope cl s3.heap.objs.size s3 (upd H2 s2.heap.objs.size (.lst [])) fp) [] (mask is σ) H' s'∧tn i s'.heap∧(∀ b∈fp,H' b=none)∧W i n H') ?_ m0 ⟨0,_,(by subst hs3; exact I4),st4,fun b hb=> (f3 b hb).1,w0⟩
  rintro n s5 ⟨i,H5,I5,st5,fr5,w5⟩
  show wpAny _ _ ((compTurn (.ListComp elt [⟨tg,iter,[],0⟩] scope pos) 0 (.ref it) (.ref s2.heap.objs.size) (compEnvC scope cl s3.heap.objs.size X.env)).onRaise (fun x=> do noteFrame x (compEnvC scope cl s3.heap.objs.size X.env); theTreesLotGoes x)) _ _ s5
  refine wpAny_noted ?_
  rw [compTurn_list1]
  refine wpAny_bind (wpAny_standAt (wpAny_bind ?_))
  rcases turn i n H5 w5 with ⟨stop,q⟩ | ⟨go,step⟩
  ·refine thn (T.done (al X scope cl s3.heap.objs.size s3 (upd H2 s2.heap.objs.size (.lst [])) fp) rfl rfl rfl hc i [] s5 _ H5 _ I5 (hstat fr5) st5 stop) fun r s6 ⟨hr,I6⟩=> ?_
   subst hr
   refine wpAny_pure ?_
   obtain ⟨m6,hn6,_⟩:=I6.loc
   refine fin _ s3.heap.objs.size H5 s6 m6 (back I6) hn6 I6.free (Nat.ne_of_gt I3.lt) (I3.nofs (Nat.le_refl _)) I3.sz (fun x c e=> ?_) (fun p hp=> ?_) q
   ·obtain ⟨v,z⟩:=I3.cell x c e
    exact Nat.ne_of_lt z.lt
   ·exact Nat.ne_of_lt (Heap.lt_size (I3.pin p hp).1)
  ·refine thn (T.item (al X scope cl s3.heap.objs.size s3 (upd H2 s2.heap.objs.size (.lst [])) fp) rfl rfl rfl hc i [] s5 _ H5 _ I5 (hstat fr5) st5 go) fun r s6 ⟨u,hr,h6⟩=> ?_
   subst hr
   refine wpAny_bind (thn h6 fun _ s7 ⟨x,H7,I7,r7,y7,st7,fr7⟩=> ?_)
   have I7':=I7.pinned (hstat fr7) (T.obj _ _ st7)
   refine wpAny_bind (wpAny_mono (hg _ _ _ _ _ s7 (mask is σ) H7 x u _ I7' r7 (step x H7 y7)) (fun _ s8 ⟨σ8,H8,I8,q8⟩=> ?_) fun _ _ z=> z.elim)
   refine wpAny_bind (wpAny_bind (wpAny_mono (he _ _ _ _ _ pass _ s8 σ8 H8 _ (I8.wish _) q8) (fun v s9 ⟨y,H9,I9',r9,sub,vs,hl9,hz,m',hm,w'⟩=> ?_) fun _ _ z=> z))
   have I9:=I9'.unwish
   refine wpAny_bind (wpAny_mono (eE (X:=al X scope cl s3.heap.objs.size s3 (upd H2 s2.heap.objs.size (.lst [])) fp) _ s9 σ8 H9 (.ref s2.heap.objs.size) [y] (.ref s2.heap.objs.size) [v] (fun _ H'=> H'=upd H9 s2.heap.objs.size (.lst (vs++[y]))) I9 rfl (.cons r9 .nil) ⟨_,vs,y,rfl,rfl,hl9,hz,rfl⟩) (fun z s10 ⟨zv,H10,I10,_,e10⟩=> ?_) fun _ _ z=> z.elim)
   subst e10
   refine wpAny_pure (wpAny_pure ⟨rfl,m',hm,i+1,_,(I10.unpinned (pins:=[])).weak (by rw [I10.len,dY,I.len]) sub,T.keep _ _ _ st7 fun b hb o e=> (I10.pin (b,o) (List.mem_append_right _ (List.mem_append_right _ (bQ hb e)))).1,fun b hb=> ?_,w'⟩)
   obtain ⟨o,e,d⟩:=T.obj _ _ st7 b hb
   exact (I10.pin (b,o) (List.mem_append_right _ (List.mem_append_right _ (bQ hb e)))).2.1
 exact codeAny_compStart_list loop (T.self X.A 0 _ _ _ st4 loop)
theorem mH {elt iter tg:Expr} {scope:Scope} {cl:List (Str×Addr)} {pos:Pos} {is:List Nat} {wi:TI} {g:TG} {te:TE} (hc:X.calm=true) (hstk:X.stack=X.env::X.outer) (hfr:X.env.frame=some X.env.locals) (hx:dS X E) (hex:X.ex=[]) (B:cr X scope cl is)
  (hi:PI X tg iter wi) (hg:∀ C s H fp,PG (al X scope cl C s H fp) tg g) (he:∀ C s H fp EE,bR (CXF X.prog X.w) ((al X scope cl C s H fp).wish EE) E→PE ((al X scope cl C s H fp).wish EE) elt te) (hs:∀ x,foldedSetIterable iter X.env x=pure x:=by intro _; rfl):
  PE X (.ListComp elt [⟨tg,iter,[],0⟩] scope pos) (jM is wi g te):=by
 intro pins s σ H Q I h
 rw [eval_ListComp]
 refine kG (use:=none) hc hstk hfr hx hex B hi hg he hs I h fun l C H' s' m I' hn h1 h2 h3 h4 h5 h6 q=> ⟨m,hn,fun h' hsb=> ?_⟩
 exact ⟨.ref l,H',I'.turned (t':=s'.toks) (fun b o hb e=> hsb.extBut b o hb e) h1 (Ne.symm h2.symm) (.inr h4) h5 h6,rfl,q⟩
end
section
variable {X:Cx} {H0:Hp} {O0:List Addr} {E:XK} {ps:PSt} {iter tg elt e:Expr} {es:List Expr} {pos p:Pos} {xs ys us:List U} {C0:Addr}
theorem pH {scope:Scope} {cl:List (Str×Addr)} {is:List Nat} {g:TG} {f:PSt→U→PSt} {dom:U→Prop} {k:Nat} (hc:X.calm=true) (hstk:X.stack=X.env::X.outer) (hfr:X.env.frame=some X.env.locals) (hx:dS X E) (hex:X.ex=[]) (B:cr X scope cl is) (hi:EvI X H0 O0 ps tg iter xs)
  (hg:∀ C s H fp,PG (al X scope cl C s H fp) tg g) (gk:GOk g X.K is f dom) (hk:k < xs.length) (hlen:k≤ys.length) (hz:xs.length≤sizeLine) (hdom:∀ x∈xs,dom x)
  (he:∀ C s H fp EE (i:Nat) (x y:U),i < k→xs[i]?=some x→ys[i]?=some y→Ev ((al X scope cl C s H fp).wish EE) H0 O0 (f (dL is ps) x) elt y)
  (hv:∀ C s H fp EE (x:U),xs[k]?=some x→bR (CXF X.prog X.w) ((al X scope cl C s H fp).wish EE) E→Xv ((al X scope cl C s H fp).wish EE) H0 O0 E (f (dL is ps) x) elt C0)
  (hs:∀ x,foldedSetIterable iter X.env x=pure x:=by intro _; rfl):Xv X H0 O0 E ps (.ListComp elt [⟨tg,iter,[],0⟩] scope pos) C0:=by
 have hte:∀ C s H fp EE,bR (CXF X.prog X.w) ((al X scope cl C s H fp).wish EE) E→PE ((al X scope cl C s H fp).wish EE) elt (fun σ H Q=> (∃ i x y,i < k∧xs[i]?=some x∧ys[i]?=some y∧∃ O',Rs X.K H0 O0 (f (dL is ps) x) σ H O'∧∀ v H',ay H H'→Rp X.K (hid H' O') v y→Q v H')∨∃ x,xs[k]?=some x∧∃ O',Rs X.K H0 O0 (f (dL is ps) x) σ H O'∧∀ H',ay H H'→E (.ref C0) none H'):=by
  intro C s H fp EE pa pins s' σ H' Q I h
  rcases h with ⟨i,x,y,h1,h2,h3,z⟩ | ⟨x,h1,z⟩
  ·exact he C s H fp EE i x y h1 h2 h3 pins s' σ H' Q I z
  ·exact hv C s H fp EE x h1 pa pins s' σ H' Q I z
 refine PE.mono (mH hc hstk hfr hx hex B hi hg hte hs) fun σ H Q ⟨O,R,q⟩=> ⟨O,R,fun J H1 s1 Y=> ?_⟩
 have R1:=R.go s1
 intro l hl
 refine ⟨fun i m H2=> m=xs.length - i∧i≤k∧ay H1 H2∧∃ vs,H2 l=some (.lst vs)∧vs.length=i∧Rps X.K (hid H2 (l::O)) vs (ys.take i),⟨_,rfl,Nat.zero_le _,av hl _,[],aE,rfl,by rw [List.take_zero]; exact .nil⟩,?_⟩
 rintro i m H2 ⟨rfl,hi,s2,vs,h2,hv,rs⟩
 have seen:ay (hid H1 O) (hid H2 (l::O)):=ba s2 hl
 obtain ⟨y1,y2⟩:=Y H2 (seen.trans am)
 obtain ⟨g1,g2⟩:=y1 i (by omega)
 refine .inr ⟨g1,fun x H3 y=> ?_⟩
 obtain ⟨rfl,u,hu,r⟩:=g2 x H3 y
 have R2:=(R1.mask (is:=is)).hide s2 hl (by rw [h2]; intro z; cases z)
 refine gk H0 O0 _ _ H3 (l::O) x u _ (hdom u (List.mem_of_getElem? hu)) R2 (r.same seen) fun σ4 R4 keep=> ?_
 by_cases hik:i < k
 ·have hy:ys[i]?=some (ys[i]'(by omega)):=List.getElem?_eq_getElem _
  refine .inl ⟨i,u,_,hik,hu,hy,l::O,R4,fun v H5 s5 r5=> ⟨fun j w e=> keep j w (dQ is σ j w e).2 e,vs,s5 _ _ h2,?_,xs.length - (i+1),by omega,rfl,hik,(s2.trans s5).put hl _,vs++[v],aE,by simp [hv],?_⟩⟩
  ·rw [hv]; omega
  ·rw [gK List.mem_cons_self,List.take_succ,hy]
   exact (rs.same (aW s5)).snoc (.cons r5 .nil)
 ·have e:i=k:=by omega
  subst e
  exact .inr ⟨u,hu,l::O,R4,fun H' s'=> q H' ((s1.trans s2).trans s')⟩
theorem ql {CX:CXT} {n:Nat} {f:Addr} {fd:FuncData} {pn:List Str} {spec:List U→Out→Prop} {nm:Str} (F:a_ X.prog X.w X.K X.mg X.base CX n f fd pn (spU X.K spec)) (hr:cg n X.A) (hg:Gl X nm) (hm:X.mg nm=some (.ref f)) (hk:PySem.W.keepIn X.K (.ref f)=true) (hb:aO X.K fd pn []) (hx:bR CX X E0)
  (ha:Xv X H0 O0 E ps e C0) (he:starEach (e::es) X.env=(false,eval e X.env)::starEach es X.env) (hdb:(nm==("__debug__":Str))=false:=by decide) (hpl:(backTo pos (starEach es X.env)).any (·.1)=false:=by rfl):
  Xv X H0 O0 E ps (.Call (.Name nm p) (e::es) [] pos) C0:=
 PE.mono (eV F hr hg hm hk hb .nil hx (cu ha pY he) hdb he hpl) fun _ _ _ h=> h
end
structure EvM (X:Cx) (H0:Hp) (O0:List Addr) (ps:PSt) (e:Expr) (us:List U):Prop where
 ev:EvN X H0 O0 ps e us
theorem rL {X:Cx} {H0:Hp} {O0:List Addr} {ps:PSt} {es:List Expr} {us:List U} {pos:Pos} (h:EvS X H0 O0 ps es us) (hz:us.length≤sizeLine):EvM X H0 O0 ps (.List es pos) us:=⟨bj h hz⟩
end L2
local macro_rules | `(tactic| walk_at "sz")=> `(tactic| first | with_reducible assumption | ((with_reducible apply L2.Sz.sub') <;> walk_at "sz") | ((with_reducible apply L2.Sz.add') <;> walk_at "sz") | ((with_reducible apply L2.Sz.mul) <;> walk_at "sz") | ((with_reducible apply L2.Sz.neg) <;> walk_at "sz") | ((with_reducible apply L2.Sz.ediv) <;> walk_at "sz") | ((with_reducible apply L2.Sz.abs) <;> walk_at "sz") | exact L2.Sz.lit (m:=8) (by decide) | exact L2.Sz.emod (m:=250) (by decide) (by decide) | exact L2.Sz.lit (m:=250) (by decide))
local macro_rules | `(tactic| walk_at "mul")=> `(tactic| exact L2.Sz.ok (by walk_at "sz") (by walk_at "sz") (by decide))
local macro_rules | `(tactic| walk_at "div")=> `(tactic| first | exact ⟨by decide,L2.Sz.mono (m:=250) (by decide) (by decide)⟩ | exact ⟨by omega,L2.Sz.mono (by walk_at "sz") (by decide)⟩)
local macro_rules | `(tactic| walk_at "mod")=> `(tactic| first | decide | omega)
local macro_rules | `(tactic| walk_at "szb")=> `(tactic| exact L2.Sz.mono (by walk_at "sz") (by decide))
local macro_rules | `(tactic| walk_at "kit")=> `(tactic| first | exact L2.kit_int_int _ | exact L2.kit_int_bool _ | exact L2.kit_tuple_tuple _ | exact L2.kit_list_list _ | exact L2.kit_bool_int _ | exact L2.kit_list_tuple _ | rfl)
local macro_rules | `(tactic| walk_at "ok")=> `(tactic| first | rfl | decide)
local macro_rules | `(tactic| walk_at "sub")=> `(tactic| first | exact trivial | (refine ⟨rfl,?_⟩; walk_at "sub") | (with_reducible apply L2.SubP.skip; walk_at "sub"))
local macro_rules | `(tactic| walk_at "len")=> `(tactic| first | decide | (simp only [List.length_append,List.length_cons,List.length_nil,List.length_map]; decide))
namespace My
open PySem PySem.Spec PyProof.Rows L2
def top (i:Nat):Stmt:=PySem.Challenge.pw_stakefield_k10_refused_fields.main.body.getD i (.Pass ⟨0,0,0,0⟩)
abbrev bT:Stmt:=top 15
abbrev eo:Stmt:=top 16
abbrev d9:Stmt:=top 18
abbrev bO:Stmt:=top 19
abbrev bG:Stmt:=top 20
abbrev cG:Stmt:=top 21
abbrev di:Stmt:=top 22
abbrev eI:Stmt:=top 24
abbrev bv:Stmt:=top 25
abbrev dj:Stmt:=top 26
abbrev bP:Stmt:=top 27
abbrev aQ:Stmt:=top 28
abbrev bK:Stmt:=top 30
abbrev bI:Stmt:=top 31
abbrev bE:Stmt:=top 32
abbrev bb:Stmt:=top 33
abbrev bx:Stmt:=top 34
abbrev bH:Stmt:=top 35
abbrev bu:Stmt:=top 36
abbrev aU:Stmt:=top 37
abbrev bd:Stmt:=top 38
abbrev ft:Stmt:=top 39
theorem iN:aC ["thing"] ["thing"] (ai bT):=⟨rfl,rfl,rfl,by decide+kernel,rfl,by decide+kernel,by decide+kernel⟩
theorem m5:aC ["number"] ["number"] (ai eo):=⟨rfl,rfl,rfl,by decide+kernel,rfl,by decide+kernel,by decide+kernel⟩
theorem nS:aC ["move"] ["move"] (ai d9):=⟨rfl,rfl,rfl,by decide+kernel,rfl,by decide+kernel,by decide+kernel⟩
theorem fI:aC ["thing","number"] ["thing"] (ai bO):=⟨rfl,rfl,rfl,by decide+kernel,rfl,by decide+kernel,by decide+kernel⟩
theorem gH:aC ["thing"] ["thing"] (ai bG):=⟨rfl,rfl,rfl,by decide+kernel,rfl,by decide+kernel,by decide+kernel⟩
theorem ko:aC ["P","move"] ["P","move"] (ai cG):=⟨rfl,rfl,rfl,by decide+kernel,rfl,by decide+kernel,by decide+kernel⟩
theorem il:aC ["P","move","place"] ["P","move"] (ai di):=⟨rfl,rfl,rfl,by decide+kernel,rfl,by decide+kernel,by decide+kernel⟩
theorem nW:aC ["P","Q","R"] ["P","Q","R"] (ai eI):=⟨rfl,rfl,rfl,by decide+kernel,rfl,by decide+kernel,by decide+kernel⟩
theorem cw:aC ["row","kept","P"] ["row"] (ai bv):=⟨rfl,rfl,rfl,by decide+kernel,rfl,by decide+kernel,by decide+kernel⟩
theorem da:aC ["points","row","there","back"] ["points"] (ai dj):=⟨rfl,rfl,rfl,by decide+kernel,rfl,by decide+kernel,by decide+kernel⟩
theorem iQ:aC ["points"] ["points"] (ai bP):=⟨rfl,rfl,rfl,by decide+kernel,rfl,by decide+kernel,by decide+kernel⟩
theorem ck:aC ["land","move","P"] ["land","move"] (ai aQ):=⟨rfl,rfl,rfl,by decide+kernel,rfl,by decide+kernel,by decide+kernel⟩
theorem gF:aC ["script","k"] ["script","k"] (ai bK):=⟨rfl,rfl,rfl,by decide+kernel,rfl,by decide+kernel,by decide+kernel⟩
theorem gJ:aC ["a","b","p"] ["a","b","p"] (ai bI):=⟨rfl,rfl,rfl,by decide+kernel,rfl,by decide+kernel,by decide+kernel⟩
theorem cH:aC ["points","way","p"] ["points"] (ai bE):=⟨rfl,rfl,rfl,by decide+kernel,rfl,by decide+kernel,by decide+kernel⟩
theorem b_:aC ["points","some"] ["points"] (ai bb):=⟨rfl,rfl,rfl,by decide+kernel,rfl,by decide+kernel,by decide+kernel⟩
theorem fV:aC ["cell","most"] ["cell","most"] (ai bx):=⟨rfl,rfl,rfl,by decide+kernel,rfl,by decide+kernel,by decide+kernel⟩
theorem aV:aC ["script","points","k","cell","x","y"] ["script"] (ai bH):=⟨rfl,rfl,rfl,by decide+kernel,rfl,by decide+kernel,by decide+kernel⟩
theorem aP:aC ["script","m","n","e","f","off","good","none"] ["script"] (ai bu):=⟨rfl,rfl,rfl,by decide+kernel,rfl,by decide+kernel,by decide+kernel⟩
theorem bz:aC ["points","kinds","e"] ["points"] (ai aU):=⟨rfl,rfl,rfl,by decide+kernel,rfl,by decide+kernel,by decide+kernel⟩
theorem bD:aC ["land","thing","kinds","e"] ["land","thing"] (ai bd):=⟨rfl,rfl,rfl,by decide+kernel,rfl,by decide+kernel,by decide+kernel⟩
theorem ci:aC ["script","points","land","handed","moves","good","due","x","y","thing"] ["script"] (ai ft):=⟨rfl,rfl,rfl,by decide+kernel,rfl,by decide+kernel,by decide+kernel⟩
set_option genInjectivity false in
set_option genSizeOf false in
set_option genSizeOfSpec false in
structure Txt (K:PySem.W.Frag) (mg:Str→Option Value) where
 a_is_whole:Addr
 d_is_whole:FuncData
 F_is_whole:Fun K "is_whole" "is_whole" bT a_is_whole d_is_whole
 b_is_whole:aO K d_is_whole ["thing"] []
 m_is_whole:mg "is_whole"=some (.ref a_is_whole)
 a_sign:Addr
 d_sign:FuncData
 F_sign:Fun K "sign" "sign" eo a_sign d_sign
 b_sign:aO K d_sign ["number"] []
 m_sign:mg "sign"=some (.ref a_sign)
 a_hand:Addr
 d_hand:FuncData
 F_hand:Fun K "hand" "hand" d9 a_hand d_hand
 b_hand:aO K d_hand ["move"] []
 m_hand:mg "hand"=some (.ref a_hand)
 a_is_move:Addr
 d_is_move:FuncData
 F_is_move:Fun K "is_move" "is_move" bO a_is_move d_is_move
 b_is_move:aO K d_is_move ["thing"] []
 m_is_move:mg "is_move"=some (.ref a_is_move)
 a_need_move:Addr
 d_need_move:FuncData
 F_need_move:Fun K "need_move" "need_move" bG a_need_move d_need_move
 b_need_move:aO K d_need_move ["thing"] []
 m_need_move:mg "need_move"=some (.ref a_need_move)
 a_turned:Addr
 d_turned:FuncData
 F_turned:Fun K "turned" "turned" cG a_turned d_turned
 b_turned:aO K d_turned ["P","move"] []
 m_turned:mg "turned"=some (.ref a_turned)
 a_moved:Addr
 d_moved:FuncData
 F_moved:Fun K "moved" "moved" di a_moved d_moved
 b_moved:aO K d_moved ["P","move"] []
 m_moved:mg "moved"=some (.ref a_moved)
 a_turn:Addr
 d_turn:FuncData
 F_turn:Fun K "turn" "turn" eI a_turn d_turn
 b_turn:aO K d_turn ["P","Q","R"] []
 m_turn:mg "turn"=some (.ref a_turn)
 a_left_bends:Addr
 d_left_bends:FuncData
 F_left_bends:Fun K "left_bends" "left_bends" bv a_left_bends d_left_bends
 b_left_bends:aO K d_left_bends ["row"] []
 m_left_bends:mg "left_bends"=some (.ref a_left_bends)
 a_field:Addr
 d_field:FuncData
 F_field:Fun K "field" "field" dj a_field d_field
 b_field:aO K d_field ["points"] []
 m_field:mg "field"=some (.ref a_field)
 a_is_field:Addr
 d_is_field:FuncData
 F_is_field:Fun K "is_field" "is_field" bP a_is_field d_is_field
 b_is_field:aO K d_is_field ["points"] []
 m_is_field:mg "is_field"=some (.ref a_is_field)
 a_field_moved:Addr
 d_field_moved:FuncData
 F_field_moved:Fun K "field_moved" "field_moved" aQ a_field_moved d_field_moved
 b_field_moved:aO K d_field_moved ["land","move"] []
 m_field_moved:mg "field_moved"=some (.ref a_field_moved)
 a__law_cell:Addr
 d__law_cell:FuncData
 F__law_cell:Fun K "_law_cell" "_law_cell" bK a__law_cell d__law_cell
 b__law_cell:aO K d__law_cell ["script","k"] []
 m__law_cell:mg "_law_cell"=some (.ref a__law_cell)
 a__law_side:Addr
 d__law_side:FuncData
 F__law_side:Fun K "_law_side" "_law_side" bI a__law_side d__law_side
 b__law_side:aO K d__law_side ["a","b","p"] []
 m__law_side:mg "_law_side"=some (.ref a__law_side)
 a__law_half:Addr
 d__law_half:FuncData
 F__law_half:Fun K "_law_half" "_law_half" bE a__law_half d__law_half
 b__law_half:aO K d__law_half ["points"] []
 m__law_half:mg "_law_half"=some (.ref a__law_half)
 a__law_corners:Addr
 d__law_corners:FuncData
 F__law_corners:Fun K "_law_corners" "_law_corners" bb a__law_corners d__law_corners
 b__law_corners:aO K d__law_corners ["points"] []
 m__law_corners:mg "_law_corners"=some (.ref a__law_corners)
 a__law_great:Addr
 d__law_great:FuncData
 F__law_great:Fun K "_law_great" "_law_great" bx a__law_great d__law_great
 b__law_great:aO K d__law_great ["cell","most"] []
 m__law_great:mg "_law_great"=some (.ref a__law_great)
 a__law_land:Addr
 d__law_land:FuncData
 F__law_land:Fun K "_law_land" "_law_land" bH a__law_land d__law_land
 b__law_land:aO K d__law_land ["script"] []
 m__law_land:mg "_law_land"=some (.ref a__law_land)
 a__law_moves:Addr
 d__law_moves:FuncData
 F__law_moves:Fun K "_law_moves" "_law_moves" bu a__law_moves d__law_moves
 b__law_moves:aO K d__law_moves ["script"] []
 m__law_moves:mg "_law_moves"=some (.ref a__law_moves)
 a__law_no_field:Addr
 d__law_no_field:FuncData
 F__law_no_field:Fun K "_law_no_field" "_law_no_field" aU a__law_no_field d__law_no_field
 b__law_no_field:aO K d__law_no_field ["points"] []
 m__law_no_field:mg "_law_no_field"=some (.ref a__law_no_field)
 a__law_no_move:Addr
 d__law_no_move:FuncData
 F__law_no_move:Fun K "_law_no_move" "_law_no_move" bd a__law_no_move d__law_no_move
 b__law_no_move:aO K d__law_no_move ["land","thing"] []
 m__law_no_move:mg "_law_no_move"=some (.ref a__law_no_move)
 a_law:Addr
 d_law:FuncData
 F_law:Fun K "law" "law" ft a_law d_law
 b_law:aO K d_law ["script"] []
 m_law:mg "law"=some (.ref a_law)
 c_Flat:Addr
 mx_Flat:mg "Flat"=some (.ref c_Flat)
 c_NoField:Addr
 x_NoField:PySem.W.excIn K c_NoField [.type "ValueError",.type "Exception",.type "BaseException",.type "object"] "ValueError.__new__"=true
 mx_NoField:mg "NoField"=some (.ref c_NoField)
 c_NoHeart:Addr
 mx_NoHeart:mg "NoHeart"=some (.ref c_NoHeart)
 c_NoMove:Addr
 x_NoMove:PySem.W.excIn K c_NoMove [.type "ValueError",.type "Exception",.type "BaseException",.type "object"] "ValueError.__new__"=true
 mx_NoMove:mg "NoMove"=some (.ref c_NoMove)
 c_NoName:Addr
 mx_NoName:mg "NoName"=some (.ref c_NoName)
 c_NoNumber:Addr
 mx_NoNumber:mg "NoNumber"=some (.ref c_NoNumber)
 c_NoRow:Addr
 mx_NoRow:mg "NoRow"=some (.ref c_NoRow)
 c_NoText:Addr
 mx_NoText:mg "NoText"=some (.ref c_NoText)
 c_NoWedge:Addr
 mx_NoWedge:mg "NoWedge"=some (.ref c_NoWedge)
 c_NotThere:Addr
 mx_NotThere:mg "NotThere"=some (.ref c_NotThere)
 c_StakeError:Addr
 mx_StakeError:mg "StakeError"=some (.ref c_StakeError)
 c_TooGreat:Addr
 mx_TooGreat:mg "TooGreat"=some (.ref c_TooGreat)
 c_TooMany:Addr
 mx_TooMany:mg "TooMany"=some (.ref c_TooMany)
 z_ValueError:mg "ValueError"=none
 z_all:mg "all"=none
 z_bool:mg "bool"=none
 z_int:mg "int"=none
 z_isinstance:mg "isinstance"=none
 z_len:mg "len"=none
 z_list:mg "list"=none
 z_max:mg "max"=none
 z_min:mg "min"=none
 z_range:mg "range"=none
 z_reversed:mg "reversed"=none
 z_set:mg "set"=none
 z_sorted:mg "sorted"=none
 z_tuple:mg "tuple"=none
 bx_StakeError:PySem.W.mroIn K c_StakeError (.type "BaseException")=some true
 kit_NoField_Flat:PySem.W.kitOne K (.ref c_NoField) (.ref c_Flat)=some false
 kit_NoField_NoField:PySem.W.kitOne K (.ref c_NoField) (.ref c_NoField)=some true
 kit_NoField_NoHeart:PySem.W.kitOne K (.ref c_NoField) (.ref c_NoHeart)=some false
 kit_NoField_NoMove:PySem.W.kitOne K (.ref c_NoField) (.ref c_NoMove)=some false
 kit_NoField_NoName:PySem.W.kitOne K (.ref c_NoField) (.ref c_NoName)=some false
 kit_NoField_NoNumber:PySem.W.kitOne K (.ref c_NoField) (.ref c_NoNumber)=some false
 kit_NoField_NoRow:PySem.W.kitOne K (.ref c_NoField) (.ref c_NoRow)=some false
 kit_NoField_NoText:PySem.W.kitOne K (.ref c_NoField) (.ref c_NoText)=some false
 kit_NoField_NoWedge:PySem.W.kitOne K (.ref c_NoField) (.ref c_NoWedge)=some false
 kit_NoField_NotThere:PySem.W.kitOne K (.ref c_NoField) (.ref c_NotThere)=some false
 kit_NoField_TooGreat:PySem.W.kitOne K (.ref c_NoField) (.ref c_TooGreat)=some false
 kit_NoField_TooMany:PySem.W.kitOne K (.ref c_NoField) (.ref c_TooMany)=some false
 kit_NoField_ValueError:PySem.W.kitOne K (.ref c_NoField) (.type "ValueError")=some true
 kit_NoMove_Flat:PySem.W.kitOne K (.ref c_NoMove) (.ref c_Flat)=some false
 kit_NoMove_NoField:PySem.W.kitOne K (.ref c_NoMove) (.ref c_NoField)=some false
 kit_NoMove_NoHeart:PySem.W.kitOne K (.ref c_NoMove) (.ref c_NoHeart)=some false
 kit_NoMove_NoMove:PySem.W.kitOne K (.ref c_NoMove) (.ref c_NoMove)=some true
 kit_NoMove_NoName:PySem.W.kitOne K (.ref c_NoMove) (.ref c_NoName)=some false
 kit_NoMove_NoNumber:PySem.W.kitOne K (.ref c_NoMove) (.ref c_NoNumber)=some false
 kit_NoMove_NoRow:PySem.W.kitOne K (.ref c_NoMove) (.ref c_NoRow)=some false
 kit_NoMove_NoText:PySem.W.kitOne K (.ref c_NoMove) (.ref c_NoText)=some false
 kit_NoMove_NoWedge:PySem.W.kitOne K (.ref c_NoMove) (.ref c_NoWedge)=some false
 kit_NoMove_NotThere:PySem.W.kitOne K (.ref c_NoMove) (.ref c_NotThere)=some false
 kit_NoMove_TooGreat:PySem.W.kitOne K (.ref c_NoMove) (.ref c_TooGreat)=some false
 kit_NoMove_TooMany:PySem.W.kitOne K (.ref c_NoMove) (.ref c_TooMany)=some false
 kit_NoMove_ValueError:PySem.W.kitOne K (.ref c_NoMove) (.type "ValueError")=some true
 sub_NoField_StakeError:PySem.W.mroIn K c_NoField (.ref c_StakeError)=some true
 sub_NoMove_StakeError:PySem.W.mroIn K c_NoMove (.ref c_StakeError)=some true
 ty_StakeError:PySem.W.typeIn K (.ref c_StakeError)=some (.type "type")
 xc_NoField:PySem.W.XcOk K c_NoField
 xc_NoMove:PySem.W.XcOk K c_NoMove
section
variable {P:Program} {w:World} {K:PySem.W.Frag} {mg:Str→Option Value} {base:Heap}
def sgn (n:Int):Int:=if 0 < n then 1 else if n < 0 then -1 else 0
def kL:List U→Out→Prop:=fun us o=> ∃ n:Int,us=[.int n]∧o=.val (.int (sgn n))
set_option maxHeartbeats 8000000 in
theorem nG (T:Txt K mg):a_ P w K mg base (CXF P w) 1 T.a_sign T.d_sign ["number"] (spU K (kL)):=by
 refine bB T.F_sign m5 (fun us o h=> ?_) (fun cdv A outer s H E O us o hr h=> ?_)
 ·obtain ⟨n,rfl,rfl⟩:=h
  rfl
 obtain ⟨n,rfl,rfl⟩:=h
 refine Ws.nox ?_
 refine af (iE (bg gD (aa 0 rfl) ag) (fun hT=> ?_) (fun hF=> (bp ?_)))
 ·refine af (aJ ag ?_)
  exact vIO (by unfold sgn; rw [if_pos (dTb hT)])
 ·refine af (iE (bg lH (aa 0 rfl) ag) (fun hT=> ?_) (fun hF=> (bp ?_)))
  ·refine af (aJ (db ag) ?_)
   exact vIO (by unfold sgn; rw [if_neg (dFb hF),if_pos (dTb hT)])
  ·rename_i hF2
   refine af (aJ ag ?_)
   exact vIO (by unfold sgn; rw [if_neg (dFb hF),if_neg (dFb hF2)])
def isInt:U→Bool
 | .int _=> true
 | _=> false
abbrev mv (a b c d e f:Int):U:=.tup [.int a,.int b,.int c,.int d,.int e,.int f]
def cJ:U→Bool
 | .tup [.int a,.int b,.int c,.int d,.int _,.int _]=> decide (a * d - b * c=1) || decide (a * d - b * c=-1)
 | _=> false
structure dI (u:U):Prop where
 ty:∀ m,u≠.ty m
 ity:∀ xs,u=.tup xs→∀ x∈xs,∀ m,x≠.ty m
 len:∀ xs,u=.tup xs→xs.length≤100
 sz:∀ a b c d e f,u=mv a b c d e f→Sz 30000 a∧Sz 30000 b∧Sz 30000 c∧Sz 30000 d
theorem dI.of {a b c d e f:Int} (ha:Sz 30000 a) (hb:Sz 30000 b) (hc:Sz 30000 c) (hd:Sz 30000 d):dI (mv a b c d e f):=by
 refine ⟨fun m h=> (nomatch h),fun xs h x hx m e=> ?_,fun xs h=> ?_,fun a' b' c' d' e' f' h=> ?_⟩
 ·cases h; subst e; simp at hx
 ·cases h; simp
 ·cases h; exact ⟨ha,hb,hc,hd⟩
theorem nF {a b c d e f:Int} (h:a * d - b * c=1∨a * d - b * c=-1):cJ (mv a b c d e f)=true:=by
 show (decide (a * d - b * c=1) || decide (a * d - b * c=-1))=true
 simpa using h
theorem io {xs:List U} (h:xs.length≠6):cJ (.tup xs)=false:=by
 unfold cJ
 split
 ·rename_i e; cases e; simp at h
 ·rfl
theorem pR {xs:List U} (h:xs.length=6) (hi:xs.all isInt=true):∃ a b c d e f,xs=[.int a,.int b,.int c,.int d,.int e,.int f]:=by
 match xs,h with
 | [x1,x2,x3,x4,x5,x6],_=>
  simp only [List.all_cons,List.all_nil,Bool.and_true,Bool.and_eq_true] at hi
  obtain ⟨h1,h2,h3,h4,h5,h6⟩:=hi
  have key:∀ {x:U},isInt x=true→∃ n,x=.int n:=fun {x} h=> by cases x <;> simp [isInt] at h; exact ⟨_,rfl⟩
  obtain ⟨a,rfl⟩:=key h1
  obtain ⟨b,rfl⟩:=key h2
  obtain ⟨c,rfl⟩:=key h3
  obtain ⟨d,rfl⟩:=key h4
  obtain ⟨e,rfl⟩:=key h5
  obtain ⟨f,rfl⟩:=key h6
  exact ⟨a,b,c,d,e,f,rfl⟩
theorem hX {xs:List U} (h:xs.all isInt=false):cJ (.tup xs)=false:=by
 unfold cJ
 split
 ·rename_i e; cases e; simp [isInt] at h
 ·rfl
def jo:List U→Out→Prop:=fun us o=> ∃ u,us=[u]∧(∀ m,u≠.ty m)∧o=.val (.bl (isInt u))
set_option maxHeartbeats 8000000 in
theorem ir (T:Txt K mg):a_ P w K mg base (CXF P w) 1 T.a_is_whole T.d_is_whole ["thing"] (spU K (jo)):=by
 refine bB T.F_is_whole iN (fun us o h=> ?_) (fun cdv A outer s H E O us o hr h=> ?_)
 ·obtain ⟨u,rfl,hu,rfl⟩:=h
  rfl
 obtain ⟨u,rfl,hu,rfl⟩:=h
 refine Ws.nox ?_
 cases u with
 | ty m=> exact absurd rfl (hu m)
 | int n=> refine af (aJ (dv (ak (ar (by intro _ h; cases h) (by walk_at "kit")) rfl T.z_isinstance boot_isinstance (ae (aa 0 rfl) (ae (bY rfl T.z_int boot_int) aj ac) ac)) (fun hz=> (dU (eP (ak (ar (by intro _ h; cases h) (by walk_at "kit")) rfl T.z_isinstance boot_isinstance (ae (aa 0 rfl) (ae (bY rfl T.z_bool boot_bool) aj ac) ac)))))) ?_); exact rfl
 | bl n=> refine af (aJ (dv (ak (ar (by intro _ h; cases h) (by walk_at "kit")) rfl T.z_isinstance boot_isinstance (ae (aa 0 rfl) (ae (bY rfl T.z_int boot_int) aj ac) ac)) (fun hz=> (dU (eP (ak (ar (by intro _ h; cases h) (by walk_at "kit")) rfl T.z_isinstance boot_isinstance (ae (aa 0 rfl) (ae (bY rfl T.z_bool boot_bool) aj ac) ac)))))) ?_); exact rfl
 | non=> refine af (aJ (dv (ak (ar (by intro _ h; cases h) (by walk_at "kit")) rfl T.z_isinstance boot_isinstance (ae (aa 0 rfl) (ae (bY rfl T.z_int boot_int) aj ac) ac)) (fun hz=> (dU (eP (ak (ar (by intro _ h; cases h) (by walk_at "kit")) rfl T.z_isinstance boot_isinstance (ae (aa 0 rfl) (ae (bY rfl T.z_bool boot_bool) aj ac) ac)))))) ?_); exact rfl
 | str n=> refine af (aJ (dv (ak (ar (by intro _ h; cases h) (by walk_at "kit")) rfl T.z_isinstance boot_isinstance (ae (aa 0 rfl) (ae (bY rfl T.z_int boot_int) aj ac) ac)) (fun hz=> (dU (eP (ak (ar (by intro _ h; cases h) (by walk_at "kit")) rfl T.z_isinstance boot_isinstance (ae (aa 0 rfl) (ae (bY rfl T.z_bool boot_bool) aj ac) ac)))))) ?_); exact rfl
 | dic=> refine af (aJ (dv (ak (ar (by intro _ h; cases h) (by walk_at "kit")) rfl T.z_isinstance boot_isinstance (ae (aa 0 rfl) (ae (bY rfl T.z_int boot_int) aj ac) ac)) (fun hz=> (dU (eP (ak (ar (by intro _ h; cases h) (by walk_at "kit")) rfl T.z_isinstance boot_isinstance (ae (aa 0 rfl) (ae (bY rfl T.z_bool boot_bool) aj ac) ac)))))) ?_); exact rfl
 | scr n=> refine af (aJ (dv (ak (ar (by intro _ h; cases h) (by walk_at "kit")) rfl T.z_isinstance boot_isinstance (ae (aa 0 rfl) (ae (bY rfl T.z_int boot_int) aj ac) ac)) (fun hz=> (dU (eP (ak (ar (by intro _ h; cases h) (by walk_at "kit")) rfl T.z_isinstance boot_isinstance (ae (aa 0 rfl) (ae (bY rfl T.z_bool boot_bool) aj ac) ac)))))) ?_); exact rfl
 | lst n=> refine af (aJ (dv (ak (ar (by intro _ h; cases h) (by walk_at "kit")) rfl T.z_isinstance boot_isinstance (ae (aa 0 rfl) (ae (bY rfl T.z_int boot_int) aj ac) ac)) (fun hz=> (dU (eP (ak (ar (by intro _ h; cases h) (by walk_at "kit")) rfl T.z_isinstance boot_isinstance (ae (aa 0 rfl) (ae (bY rfl T.z_bool boot_bool) aj ac) ac)))))) ?_); exact rfl
 | tup n=> refine af (aJ (dv (ak (ar (by intro _ h; cases h) (by walk_at "kit")) rfl T.z_isinstance boot_isinstance (ae (aa 0 rfl) (ae (bY rfl T.z_int boot_int) aj ac) ac)) (fun hz=> (dU (eP (ak (ar (by intro _ h; cases h) (by walk_at "kit")) rfl T.z_isinstance boot_isinstance (ae (aa 0 rfl) (ae (bY rfl T.z_bool boot_bool) aj ac) ac)))))) ?_); exact rfl
def kt:List U→Out→Prop:=fun us o=> ∃ a b c d e f,us=[mv a b c d e f]∧Sz 30000 a∧Sz 30000 b∧Sz 30000 c∧Sz 30000 d∧o=.val (.int (a * d - b * c))
set_option maxHeartbeats 8000000 in
theorem nM (T:Txt K mg):a_ P w K mg base (CXF P w) 1 T.a_hand T.d_hand ["move"] (spU K (kt)):=by
 refine bB T.F_hand nS (fun us o h=> ?_) (fun cdv A outer s H E O us o hr h=> ?_)
 ·obtain ⟨a,b,c,d,e,f,rfl,sa,sb,sc,sd,rfl⟩:=h
  rfl
 obtain ⟨a,b,c,d,e,f,rfl,sa,sb,sc,sd,rfl⟩:=h
 refine Ws.nox ?_
 refine af (aJ (bW (bi (bc (aa 0 rfl) ag rfl rfl) (bc (aa 0 rfl) ag rfl rfl) (by walk_at "mul")) (bi (bc (aa 0 rfl) ag rfl rfl) (bc (aa 0 rfl) ag rfl rfl) (by walk_at "mul"))) ?_); exact rfl
def g9:List U→Out→Prop:=fun us o=> ∃ u,us=[u]∧dI u∧o=.val (.bl (cJ u))
set_option maxHeartbeats 8000000 in
theorem jn (T:Txt K mg):a_ P w K mg base (CXF P w) 2 T.a_is_move T.d_is_move ["thing"] (spU K (g9)):=by
 refine bB T.F_is_move fI (fun us o h=> ?_) (fun cdv A outer s H E O us o hr h=> ?_)
 ·obtain ⟨u,rfl,hu,rfl⟩:=h
  rfl
 obtain ⟨u,rfl,hu,rfl⟩:=h
 refine Ws.nox ?_
 cases u with
 | ty m=> exact absurd rfl (hu.ty m)
 | int n=> refine af (cX (Tw.t (fF (cx (cD (ak (ar (by intro _ h; cases h) (by walk_at "kit")) rfl T.z_isinstance boot_isinstance (ae (aa 0 rfl) (ae (bY rfl T.z_tuple boot_tuple) aj ac) ac)))) rfl)) rfl ?_); refine af (aJ cL ?_); exact rfl
 | bl n=> refine af (cX (Tw.t (fF (cx (cD (ak (ar (by intro _ h; cases h) (by walk_at "kit")) rfl T.z_isinstance boot_isinstance (ae (aa 0 rfl) (ae (bY rfl T.z_tuple boot_tuple) aj ac) ac)))) rfl)) rfl ?_); refine af (aJ cL ?_); exact rfl
 | non=> refine af (cX (Tw.t (fF (cx (cD (ak (ar (by intro _ h; cases h) (by walk_at "kit")) rfl T.z_isinstance boot_isinstance (ae (aa 0 rfl) (ae (bY rfl T.z_tuple boot_tuple) aj ac) ac)))) rfl)) rfl ?_); refine af (aJ cL ?_); exact rfl
 | str n=> refine af (cX (Tw.t (fF (cx (cD (ak (ar (by intro _ h; cases h) (by walk_at "kit")) rfl T.z_isinstance boot_isinstance (ae (aa 0 rfl) (ae (bY rfl T.z_tuple boot_tuple) aj ac) ac)))) rfl)) rfl ?_); refine af (aJ cL ?_); exact rfl
 | dic=> refine af (cX (Tw.t (fF (cx (cD (ak (ar (by intro _ h; cases h) (by walk_at "kit")) rfl T.z_isinstance boot_isinstance (ae (aa 0 rfl) (ae (bY rfl T.z_tuple boot_tuple) aj ac) ac)))) rfl)) rfl ?_); refine af (aJ cL ?_); exact rfl
 | scr n=> refine af (cX (Tw.t (fF (cx (cD (ak (ar (by intro _ h; cases h) (by walk_at "kit")) rfl T.z_isinstance boot_isinstance (ae (aa 0 rfl) (ae (bY rfl T.z_tuple boot_tuple) aj ac) ac)))) rfl)) rfl ?_); refine af (aJ cL ?_); exact rfl
 | lst n=> refine af (cX (Tw.t (fF (cx (cD (ak (ar (by intro _ h; cases h) (by walk_at "kit")) rfl T.z_isinstance boot_isinstance (ae (aa 0 rfl) (ae (bY rfl T.z_tuple boot_tuple) aj ac) ac)))) rfl)) rfl ?_); refine af (aJ cL ?_); exact rfl
 | tup xs=>
  refine af (iE (Tw.t (iC (cx (cD (ak (ar (by intro _ h; cases h) (by walk_at "kit")) rfl T.z_isinstance boot_isinstance (ae (aa 0 rfl) (ae (bY rfl T.z_tuple boot_tuple) aj ac) ac)))) (fun hz=> (jD (bg qC (ak (dZ rfl) rfl T.z_len PySem.boot_len (ae (aa 0 rfl) aj ac)) ag))))) (fun hT=> ?_) (fun hF=> (bp ?_)))
  ·have:xs.length≠6:=fun e=> by rw [e] at hT; revert hT; decide
   refine af (aJ cL ?_)
   exact vB (io this).symm
  ·have hl:xs.length=6:=by
    have:=nFb (show (!decide ((xs.length:Int)=6))=false from hF)
    omega
   refine af (iE (cx (cD (ak (qS rfl (bs:=xs.map isInt)) rfl T.z_all boot_all (ae (EvN.ev (jt  rfl (blk (ai bO) ["thing","number"] [1] rfl rfl rfl rfl (by decide+kernel)) (qs (aa 0 rfl)) (fun _ _ _ _=> dg (i:=1) fI.nd rfl (Or.inl rfl)) (fu (by decide)) ?clen ?csz (fun _ _=> trivial) ?celt)) aj e8)))) (fun hT=> ?_) (fun hF=> (bp ?_)))
   case clen=> simp
   case csz=> exact Nat.le_trans (hu.len xs rfl) (by decide)
   case celt=>
    intro C s' H' fp i x y hx hy
    rw [List.getElem?_map,List.getElem?_map,hx] at hy
    cases hy
    exact (aF ((ir T).mono (by decide)) hr rfl T.m_is_whole T.F_is_whole.kp T.b_is_whole aD (ae (aa 1 rfl) aj ac) ⟨x,rfl,hu.ity xs rfl x (List.mem_of_getElem? hx),rfl⟩)
   ·have hall:xs.all isInt=false:=by simpa using hT
    refine af (aJ cL ?_)
    exact vB (hX hall).symm
   ·have hall:xs.all isInt=true:=by simpa using hF
    obtain ⟨a,b,c,d,e,f,rfl⟩:=pR hl hall
    obtain ⟨sa,sb,sc,sd⟩:=hu.sz a b c d e f rfl
    refine af (aJ (gh (rq rfl rfl rfl) (aF ((nM T).mono (by decide)) hr rfl T.m_hand T.F_hand.kp T.b_hand aD (ae (aa 0 rfl) aj ac) ⟨a,b,c,d,e,f,rfl,sa,sb,sc,sd,rfl⟩) (bM (ah ag (ah (db ag) aN pL) aG))) ?_)
    refine vB ?_
    show inV (fl (.int (a * d - b * c))) ([U.int 1,.int (-1)].map fl)=_
    rw [show cJ (.tup [.int a,.int b,.int c,.int d,.int e,.int f])=(decide (a * d - b * c=1) || decide (a * d - b * c=-1)) from rfl]
    generalize a * d - b * c=h
    rw [Bool.eq_iff_iff]
    simp [inV,fl,eqV]
    omega
def eu (C:Addr):List U→Out→Prop:=fun us o=> ∃ u,us=[u]∧dI u∧o=if cJ u=true then .val .non else .exc C
set_option maxHeartbeats 8000000 in
theorem dM (T:Txt K mg):a_ P w K mg base (CXF P w) 3 T.a_need_move T.d_need_move ["thing"] (spU K (eu T.c_NoMove)):=by
 refine bB T.F_need_move gH (fun us o h=> ?_) (fun cdv A outer s H E O us o hr h=> ?_)
 ·obtain ⟨u,rfl,hu,rfl⟩:=h
  rfl
 obtain ⟨u,rfl,hu,rfl⟩:=h
 refine af (iE (cx (cD (aF ((jn T).mono (by decide)) hr rfl T.m_is_move T.F_is_move.kp T.b_is_move aD (ae (aa 0 rfl) aj ac) ⟨u,rfl,hu,rfl⟩))) (fun hT=> ?_) (fun hF=> (bp (bp ?_))))
 ·have h:cJ u=false:=by simpa using hT
  refine af (jU T.x_NoMove rfl T.mx_NoMove jA ?_)
  show Out.exc _=_
  rw [if_neg (by rw [h]; decide)]
 ·have h:cJ u=true:=by simpa using hF
  show _=_
  rw [if_pos h]
structure Mv (a b c d e f:Int):Prop where
 u:a * d - b * c=1∨a * d - b * c=-1
 a:Sz 30000 a
 b:Sz 30000 b
 c:Sz 30000 c
 d:Sz 30000 d
 e:Sz 30000 e
 f:Sz 30000 f
theorem Mv.ok {a b c d e f:Int} (M:Mv a b c d e f):dI (mv a b c d e f):=dI.of M.a M.b M.c M.d
theorem Mv.need {C:Addr} {a b c d e f:Int} (M:Mv a b c d e f):eu C [mv a b c d e f] (.val .non):=⟨_,rfl,M.ok,by rw [if_pos (nF M.u)]⟩
theorem mY {C:Addr} {u:U} (h:dI u) (n:cJ u=false):eu C [u] (.exc C):=⟨_,rfl,h,by rw [if_neg (by rw [n]; decide)]⟩
def ix:List U→Out→Prop:=fun us o=> ∃ x y a b c d e f,us=[pt x y,mv a b c d e f]∧(Sz 30000 x∧Sz 30000 y∧Sz 30000 a∧Sz 30000 b∧Sz 30000 c∧Sz 30000 d)∧o=.val (pt (a * x+b * y) (c * x+d * y))
set_option maxHeartbeats 8000000 in
theorem kH (T:Txt K mg):a_ P w K mg base (CXF P w) 1 T.a_turned T.d_turned ["P","move"] (spU K (ix)):=by
 refine bB T.F_turned ko (fun us o h=> ?_) (fun cdv A outer s H E O us o hr h=> ?_)
 ·obtain ⟨x,y,a,b,c,d,e,f,rfl,⟨sx,sy,sa,sb,sc,sd⟩,rfl⟩:=h
  rfl
 obtain ⟨x,y,a,b,c,d,e,f,rfl,⟨sx,sy,sa,sb,sc,sd⟩,rfl⟩:=h
 refine Ws.nox ?_
 refine af (aJ (bM (ah (bN (bi (bc (aa 1 rfl) ag rfl rfl) (bc (aa 0 rfl) ag rfl rfl) (by walk_at "mul")) (bi (bc (aa 1 rfl) ag rfl rfl) (bc (aa 0 rfl) ag rfl rfl) (by walk_at "mul"))) (ah (bN (bi (bc (aa 1 rfl) ag rfl rfl) (bc (aa 0 rfl) ag rfl rfl) (by walk_at "mul")) (bi (bc (aa 1 rfl) ag rfl rfl) (bc (aa 0 rfl) ag rfl rfl) (by walk_at "mul"))) aN aZ) aZ)) ?_); exact rfl
def jj (C:Addr):List U→Out→Prop:=fun us o=> (∃ x y a b c d e f,us=[pt x y,mv a b c d e f]∧Mv a b c d e f∧Sz 30000 x∧Sz 30000 y∧o=.val (pt (a * x+b * y+e) (c * x+d * y+f)))∨(∃ v u,us=[v,u]∧dI u∧cJ u=false∧o=.exc C)
set_option maxHeartbeats 8000000 in
theorem hZ (T:Txt K mg):a_ P w K mg base (CXF P w) 4 T.a_moved T.d_moved ["P","move"] (spU K (jj T.c_NoMove)):=by
 refine bB T.F_moved il (by rintro us o (⟨x,y,a,b,c,d,e,f,rfl,_⟩ | ⟨v,u,rfl,_⟩) <;> rfl) (fun cdv A outer s H E O us o hr h=> ?_)
 rcases h with ⟨x,y,a,b,c,d,e,f,rfl,M,sx,sy,rfl⟩ | ⟨v,u,rfl,hu,hn,rfl⟩
 ·refine af (o7 (aF ((dM T).mono (by decide)) hr rfl T.m_need_move T.F_need_move.kp T.b_need_move aD (ae (aa 1 rfl) aj ac) M.need) ?_)
  refine af (be (i:=2) il.nd rfl (Or.inl rfl) (aF ((kH T).mono (by decide)) hr rfl T.m_turned T.F_turned.kp T.b_turned aD (ae (aa 0 rfl) (ae (aa 1 rfl) aj ac) ac) ⟨x,y,a,b,c,d,e,f,rfl,⟨sx,sy,M.a,M.b,M.c,M.d⟩,rfl⟩) ?_)
  refine af (aJ (bM (ah (bN (bc (aa 2 rfl) ag rfl rfl) (bc (aa 1 rfl) ag rfl rfl)) (ah (bN (bc (aa 2 rfl) ag rfl rfl) (bc (aa 1 rfl) ag rfl rfl)) aN aZ) aZ)) ?_)
  exact rfl
 ·refine af (nk (kU ((dM T).mono (by decide)) hr rfl T.m_need_move T.F_need_move.kp T.b_need_move ny (ae (aa 1 rfl) aj ac) (mY hu hn)) ?_)
  exact rfl
end
section
variable {P:Program} {w:World} {K:PySem.W.Frag} {mg:Str→Option Value} {base:Heap}
abbrev Pt:=Int×Int
def plt (p q:Pt):Prop:=p.1 < q.1∨(p.1=q.1∧p.2 < q.2)
def br (a b p:Pt):Int:=(b.1 - a.1) * (p.2 - a.2) - (b.2 - a.2) * (p.1 - a.1)
theorem bJ {a b c:Pt} (h1:plt a b) (h2:plt b c):plt a c:=by unfold plt at *; omega
theorem bh (a:Pt):¬ plt a a:=by unfold plt; omega
theorem jK (a b:Pt):plt a b∨a=b∨plt b a:=by
 unfold plt
 by_cases h1:a.1=b.1
 ·by_cases h2:a.2=b.2
  ·exact .inr (.inl (Prod.ext h1 h2))
  ·omega
 ·omega
def dJ (x y:Int):Prop:=0 < x∨(x=0∧0 < y)
theorem aR {a b:Pt} (h:plt a b):dJ (b.1 - a.1) (b.2 - a.2):=by unfold plt dJ at *; omega
theorem cV {u1 u2 v1 v2 w1 w2:Int} (hu:dJ u1 u2) (hv:dJ v1 v2) (hw:dJ w1 w2) (h1:0≤u1 * v2 - u2 * v1) (h2:0≤v1 * w2 - v2 * w1):0≤u1 * w2 - u2 * w1:=by
 unfold dJ at *
 by_cases hv1:v1=0
 ·subst hv1
  have hv2:0 < v2:=by omega
  have hw1:w1=0:=by
   have:v2 * w1≤0:=by rw [Int.zero_mul] at h2; omega
   by_cases hz:0 < w1
   ·have:=Int.mul_pos hv2 hz; omega
   ·omega
  subst hw1
  have hw2:0 < w2:=by omega
  have:=Int.mul_nonneg (show 0≤u1 by omega) (show 0≤w2 by omega)
  simp; omega
 ·have hv':0 < v1:=by omega
  have e:v1 * (u1 * w2 - u2 * w1)=u1 * (v1 * w2 - v2 * w1)+w1 * (u1 * v2 - u2 * v1):=by grind
  have p1:=Int.mul_nonneg (show 0≤u1 by omega) h2
  have p2:=Int.mul_nonneg (show 0≤w1 by omega) h1
  have:0≤v1 * (u1 * w2 - u2 * w1):=by omega
  exact Int.nonneg_of_mul_nonneg_right this hv'
theorem fK {u1 u2 v1 v2 w1 w2:Int} (hu:dJ u1 u2) (hv:dJ v1 v2) (hw:dJ w1 w2) (h1:0 < u1 * v2 - u2 * v1) (h2:0≤v1 * w2 - v2 * w1):0 < u1 * w2 - u2 * w1:=by
 unfold dJ at *
 by_cases hv1:v1=0
 ·subst hv1
  have hv2:0 < v2:=by omega
  have hw1:w1=0:=by
   have:v2 * w1≤0:=by rw [Int.zero_mul] at h2; omega
   by_cases hz:0 < w1
   ·have:=Int.mul_pos hv2 hz; omega
   ·omega
  subst hw1
  have hw2:0 < w2:=by omega
  have hu1:0 < u1:=by
   rcases hu with h | ⟨h,_⟩
   ·exact h
   ·subst h; simp at h1
  have:=Int.mul_pos hu1 hw2
  simp; omega
 ·have hv':0 < v1:=by omega
  have e:v1 * (u1 * w2 - u2 * w1)=u1 * (v1 * w2 - v2 * w1)+w1 * (u1 * v2 - u2 * v1):=by grind
  have p1:=Int.mul_nonneg (show 0≤u1 by omega) h2
  by_cases hw1:w1=0
  ·subst hw1
   have hw2:0 < w2:=by omega
   have hu1:0 < u1:=by
    rcases hu with h | ⟨h,h'⟩
    ·exact h
    ·subst h
     have:=Int.mul_pos h' hv'
     simp at h1; omega
   have:=Int.mul_pos hu1 hw2
   simp; omega
  ·have p2:=Int.mul_pos (show 0 < w1 by omega) h1
   have:0 < v1 * (u1 * w2 - u2 * w1):=by omega
   exact Int.pos_of_mul_pos_right this (by omega)
def ic:List Pt→Prop
 | b::a::r=> plt a b∧ic (a::r)
 | _=> True
def fi:List Pt→Prop
 | c::b::a::r=> 0 < br a b c∧fi (b::a::r)
 | _=> True
def eJ (done:List Pt):List Pt→Prop
 | b::a::r=> (∀ q∈done,0≤br a b q)∧eJ done (a::r)
 | _=> True
theorem fi.tail:∀ {b:Pt} {st:List Pt},fi (b::st)→fi st
 | _,[],_=> trivial
 | _,[_],_=> trivial
 | _,_::_::_,h=> h.2
theorem ic.tail:∀ {b:Pt} {st:List Pt},ic (b::st)→ic st
 | _,[],_=> trivial
 | _,_::_,h=> h.2
theorem eJ.tail {done:List Pt}:∀ {b:Pt} {st:List Pt},eJ done (b::st)→eJ done st
 | _,[],_=> trivial
 | _,_::_,h=> h.2
def aL (P:Pt):List Pt→List Pt
 | b::a::r=> if br a b P≤0 then aL P (a::r) else b::a::r
 | st=> st
def ao (row:List Pt):List Pt:=row.foldl (fun st P=> P::aL P st) []
structure Kept (done st:List Pt):Prop where
 ne:st≠[]
 desc:ic st
 turns:fi st
 cover:eJ done st
 sub:∀ p∈st,p∈done
structure kD (done st:List Pt) (P:Pt):Prop extends Kept done st where
 pend:∀ h r,st=h::r→∀ q∈done,plt h q→0≤br h P q
theorem j_ {done:List Pt} {P b a:Pt} {r:List Pt} (hP:∀ q∈done,plt q P) (D:kD done (b::a::r) P) (h:br a b P≤0):kD done (a::r) P:=by
 refine ⟨⟨by simp,D.desc.tail,D.turns.tail,D.cover.tail,fun p hp=> D.sub p (List.mem_cons_of_mem _ hp)⟩,?_⟩
 intro h' r' e q hq hlt
 cases e
 have hab:=D.desc.1
 have hq':=D.cover.1 q hq
 have hbP:=hP b (D.sub b List.mem_cons_self)
 have hqP:=hP q hq
 rcases jK q b with z | z | z
 ·have l1:=aR hlt
  have l2:=aR hab
  have l3:=aR (bJ hab hbP)
  have:=cV (u1:=P.1 - a.1) (u2:=P.2 - a.2) (v1:=b.1 - a.1) (v2:=b.2 - a.2) (w1:=q.1 - a.1) (w2:=q.2 - a.2) l3 l2 l1 (by unfold br at h; grind) (by unfold br at hq'; grind)
  unfold br; grind
 ·subst z; unfold br at *; grind
 ·have p:=D.pend b _ rfl q hq z
  unfold br at *
  grind
theorem ig {done:List Pt} {P:Pt} (hP:∀ q∈done,plt q P):∀ st:List Pt,kD done st P→kD done (aL P st) P∧(∀ b a r,aL P st=b::a::r→0 < br a b P)∧(st.getLast?=(aL P st).getLast?)
 | [],D=> absurd rfl D.ne
 | [b],D=> ⟨D,fun _ _ _ e=> by simp [aL] at e,rfl⟩
 | b::a::r,D=> by
  by_cases h:br a b P≤0
  ·rw [aL,if_pos h]
   obtain ⟨h1,h2,h3⟩:=ig hP (a::r) (j_ hP D h)
   exact ⟨h1,h2,by rw [← h3]; simp⟩
  ·rw [aL,if_neg h]
   refine ⟨D,fun b' a' r' e=> ?_,rfl⟩
   cases e; omega
theorem kQ {done st:List Pt} {P:Pt} (hP:∀ q∈done,plt q P) (D:kD done st P) (ht:∀ b a r,st=b::a::r→0 < br a b P) (hmin:∀ x,st=[x]→∀ q∈done,q=x∨plt x q):Kept (done++[P]) (P::st):=by
 have up:∀ (b:Pt) (r:List Pt),ic (b::r)→fi (b::r)→eJ done (b::r)→plt b P→(∀ a r',r=a::r'→0≤br a b P)→eJ (done++[P]) (b::r):=by
  intro b r
  induction r generalizing b with
  | nil=> intro _ _ _ _ _; trivial
  | cons a r ih=>
   intro hd htn hc hbP hl
   refine ⟨fun q hq=> ?_,?_⟩
   ·rcases List.mem_append.mp hq with z | z
    ·exact hc.1 q z
    ·rw [List.mem_singleton.mp z]; exact hl a r rfl
   ·refine ih a hd.tail htn.tail hc.tail (bJ hd.1 hbP) (fun c r' e=> ?_)
    subst e
    have t:=htn.1
    have g:=hl a _ rfl
    have l1:=aR hd.2.1
    have l2:=aR hd.1
    have l3:=aR (bJ hd.1 hbP)
    have:=cV (u1:=a.1 - c.1) (u2:=a.2 - c.2) (v1:=b.1 - a.1) (v2:=b.2 - a.2) (w1:=P.1 - a.1) (w2:=P.2 - a.2) l1 l2 l3 (by unfold br at t; grind) (by unfold br at g; grind)
    unfold br; grind
 obtain ⟨h,r,e⟩:∃ h r,st=h::r:=by
  cases hst:st with
  | nil=> exact absurd hst D.ne
  | cons h r=> exact ⟨h,r,rfl⟩
 subst e
 have hhP:=hP h (D.sub h List.mem_cons_self)
 refine ⟨by simp,⟨hhP,D.desc⟩,?_,⟨fun q hq=> ?_,?_⟩,fun p hp=> ?_⟩
 ·cases r with
  | nil=> trivial
  | cons a r'=> exact ⟨ht h a r' rfl,D.turns⟩
 ·rcases List.mem_append.mp hq with z | z
  ·rcases jK q h with y | y | y
   ·cases r with
    | nil=>
     rcases hmin h rfl q z with w | w
     ·subst w; exact absurd y (bh _)
     ·exact absurd (bJ y w) (bh _)
    | cons a r'=>
     have t:=ht h a r' rfl
     have c:=D.cover.1 q z
     have l1:=aR D.desc.1
     have l2:=aR y
     have l3:=aR hhP
     have:=cV (u1:=h.1 - q.1) (u2:=h.2 - q.2) (v1:=h.1 - a.1) (v2:=h.2 - a.2) (w1:=P.1 - h.1) (w2:=P.2 - h.2) l2 l1 l3 (by unfold br at c; grind) (by unfold br at t; grind)
     unfold br; grind
   ·subst y; unfold br; grind
   ·exact D.pend h r rfl q z y
  ·rw [List.mem_singleton.mp z]; unfold br; grind
 ·exact up h r D.desc D.turns D.cover hhP (fun a r' e=> Int.le_of_lt (ht h a r' (by rw [e])))
 ·rcases List.mem_cons.mp hp with z | z
  ·subst z; exact List.mem_append_right _ List.mem_cons_self
  ·exact List.mem_append_left _ (D.sub p z)
theorem fN (row:List Pt) (P:Pt):ao (row++[P])=P::aL P (ao row):=by
 unfold ao; rw [List.foldl_append]; rfl
theorem fe {row:List Pt} (hs:row.Pairwise plt):∀ n,0 < n→n≤row.length→Kept (row.take n) (ao (row.take n))∧(ao (row.take n)).getLast?=row.head?∧(ao (row.take n)).head?=row[n - 1]?
 | 0,h,_=> absurd h (by decide)
 | 1,_,h=> by
  cases row with
  | nil=> simp at h
  | cons a r=>
   simp only [List.take_succ_cons,List.take_zero]
   exact ⟨⟨by simp [ao],trivial,trivial,trivial,fun p hp=> by simpa [ao,aL] using hp⟩,rfl,rfl⟩
 | n+2,_,h=> by
  obtain ⟨K,hl,hh⟩:=fe hs (n+1) (by omega) (by omega)
  have hn:n+1 < row.length:=by omega
  have et:row.take (n+2)=row.take (n+1)++[row[n+1]]:=by rw [List.take_succ_eq_append_getElem hn]
  have hP:∀ q∈row.take (n+1),plt q row[n+1]:=fun q hq=> by
   obtain ⟨i,hi,e⟩:=List.mem_take_iff_getElem.mp hq
   subst e
   exact List.pairwise_iff_getElem.mp hs i (n+1) (by omega) hn (by omega)
  have D:kD (row.take (n+1)) (ao (row.take (n+1))) row[n+1]:=⟨K,fun h' r e q hq hlt=> by
   exfalso
   rw [e] at hh
   simp only [List.head?_cons,Nat.add_sub_cancel] at hh
   have hn':n < row.length:=by omega
   rw [List.getElem?_eq_getElem hn'] at hh
   have hh':=Option.some.inj hh
   obtain ⟨i,hi,e2⟩:=List.mem_take_iff_getElem.mp hq
   subst e2
   rw [hh'] at hlt
   rcases Nat.lt_or_ge i n with z | z
   ·exact bh _ (bJ hlt (List.pairwise_iff_getElem.mp hs i n (by omega) hn' z))
   ·have:i=n:=by omega
    subst this
    exact bh _ hlt⟩
  obtain ⟨D2,ht,hlast⟩:=ig hP _ D
  rw [et,fN]
  refine ⟨kQ hP D2 ht (fun x e q hq=> ?_),?_,?_⟩
  ·rw [e,hl] at hlast
   simp at hlast
   obtain ⟨i,hi,e2⟩:=List.mem_take_iff_getElem.mp hq
   have h0:0 < row.length:=by omega
   have e3:row[0]=x:=by
    rw [List.head?_eq_getElem?,List.getElem?_eq_getElem h0] at hlast
    exact Option.some.inj hlast
   subst e2
   rcases Nat.eq_zero_or_pos i with z | z
   ·subst z; exact .inl e3
   ·right; rw [← e3]; exact List.pairwise_iff_getElem.mp hs 0 i h0 (by omega) z
  ·rw [List.getLast?_cons,← hlast,hl]
   cases row with
   | nil=> simp at hn
   | cons a r=> rfl
  ·simp only [List.head?_cons,Nat.add_sub_cancel]
   rw [show n+2 - 1=n+1 by omega,List.getElem?_eq_getElem hn]
theorem dm {row:List Pt} (hs:row.Pairwise plt) (h:row≠[]):Kept row (ao row)∧(ao row).getLast?=row.head?∧(ao row).head?=row.getLast?:=by
 have h0:0 < row.length:=List.length_pos_iff.mpr h
 obtain ⟨h1,h2,h3⟩:=fe hs row.length h0 (Nat.le_refl _)
 rw [List.take_length] at h1 h2 h3
 exact ⟨h1,h2,by rw [h3,List.getLast?_eq_getElem?]⟩
theorem eT {u1 u2 v1 v2 w1 w2:Int} (hu:dJ u1 u2) (hv:dJ v1 v2) (hw:dJ w1 w2) (h1:0≤u1 * v2 - u2 * v1) (h2:0 < v1 * w2 - v2 * w1):0 < u1 * w2 - u2 * w1:=by
 unfold dJ at *
 by_cases hv1:v1=0
 ·subst hv1
  have hv2:0 < v2:=by omega
  have:=Int.mul_nonneg (show 0≤v2 by omega) (show 0≤w1 by omega)
  simp at h2; omega
 ·have hv':0 < v1:=by omega
  have hu1:0 < u1:=by
   rcases hu with h | ⟨h,h'⟩
   ·exact h
   ·subst h
    have:=Int.mul_pos h' hv'
    simp at h1; omega
  have e:v1 * (u1 * w2 - u2 * w1)=u1 * (v1 * w2 - v2 * w1)+w1 * (u1 * v2 - u2 * v1):=by grind
  have p1:=Int.mul_pos hu1 h2
  have p2:=Int.mul_nonneg (show 0≤w1 by omega) h1
  have q:0 < v1 * (u1 * w2 - u2 * w1):=by omega
  exact Int.pos_of_mul_pos_right q hv'
def low (row:List Pt) (p:Pt):Prop:=∀ a∈row,∀ b∈row,plt a p→plt p b→0 < br a p b
theorem oA {row:List Pt} {p:Pt}:∀ (st:List Pt) (n:Pt),ic (n::st)→fi (n::st)→eJ row (n::st)→p∈st→(∀ l,(n::st).getLast?=some l→plt l p)→
  ∃ n' q,0 < br q p n'∧plt q p∧plt p n'∧(∀ x∈row,0≤br p n' x)∧(∀ x∈row,0≤br q p x)
 | [],n,_,_,_,hp,_=> by simp at hp
 | h::r,n,D,T,C,hp,hl=> by
  by_cases e:h=p
  ·subst e
   cases r with
   | nil=> exact absurd (hl h (by simp)) (bh h)
   | cons q r'=> exact ⟨n,q,T.1,D.2.1,D.1,C.1,C.2.1⟩
  ·have hp':p∈r:=by
    rcases List.mem_cons.mp hp with z | z
    ·exact absurd z.symm e
    ·exact z
   exact oA r h D.tail T.tail C.tail hp' (fun l hl'=> hl l (by rw [List.getLast?_cons_cons]; exact hl'))
theorem li {row:List Pt} (hs:row.Pairwise plt) {p:Pt} (hp:p∈ao row):low row p:=by
 intro a ha b hb hap hpb
 have hne:row≠[]:=fun z=> by rw [z] at ha; simp at ha
 obtain ⟨K,hlast,hhead⟩:=dm hs hne
 have mn:∀ x∈row,∀ m,row.head?=some m→x=m∨plt m x:=fun x hx m hm=> by
  cases row with
  | nil=> simp at hx
  | cons y r=>
   cases hm
   rcases List.mem_cons.mp hx with z | z
   ·exact .inl z
   ·exact .inr ((List.pairwise_cons.mp hs).1 x z)
 have mx:∀ x∈row,∀ m,row.getLast?=some m→x=m∨plt x m:=fun x hx m hm=> by
  obtain ⟨i,hi⟩:=List.mem_iff_getElem?.mp hx
  have hil:=(List.getElem?_eq_some_iff.mp hi).1
  rw [List.getLast?_eq_getElem?] at hm
  have hml:=(List.getElem?_eq_some_iff.mp hm).1
  rcases Nat.lt_or_eq_of_le (show i≤row.length - 1 by omega) with z | z
  ·right
   have h1:=List.pairwise_iff_getElem.mp hs i (row.length - 1) hil hml z
   rw [(List.getElem?_eq_some_iff.mp hi).2,(List.getElem?_eq_some_iff.mp hm).2] at h1
   exact h1
  ·left; rw [z,hm] at hi; exact (Option.some.inj hi).symm
 cases hst:ao row with
 | nil=> exact absurd hst K.ne
 | cons n st=>
  rw [hst] at K hlast hhead hp
  have hn:row.getLast?=some n:=by rw [← hhead]; rfl
  have hpn:p∈st:=by
   rcases List.mem_cons.mp hp with z | z
   ·rcases mx b hb n hn with y | y
    ·rw [y,← z] at hpb; exact absurd hpb (bh p)
    ·rw [z] at hpb; exact absurd (bJ hpb y) (bh n)
   ·exact z
  obtain ⟨n',q,t,qp,pn,c1,c2⟩:=oA st n K.desc K.turns K.cover hpn (fun l hl=> by
   rw [hlast] at hl
   rcases mn a ha l hl with y | y
   ·rw [← y]; exact hap
   ·exact bJ y hap)
  have g1:=c2 a ha
  have g2:=c1 b hb
  unfold br at *
  have k1:0≤(p.1 - a.1) * (p.2 - q.2) - (p.2 - a.2) * (p.1 - q.1):=by grind
  have k2:0 < (p.1 - q.1) * (n'.2 - p.2) - (p.2 - q.2) * (n'.1 - p.1):=by grind
  have k3:0≤(n'.1 - p.1) * (b.2 - p.2) - (n'.2 - p.2) * (b.1 - p.1):=by grind
  have k4:=fK (aR qp) (aR pn) (aR hpb) k2 k3
  have k5:=eT (aR hap) (aR qp) (aR hpb) k1 k4
  grind
abbrev Szp (m:Nat) (p:P2):Prop:=Sz m p.1∧Sz m p.2
theorem oO (b:P2) (r:List P2):atI ((b::r).reverse.map pu) (-1)=some (pu b):=by
 have h:ixN ((b::r).reverse.map pu).length (-1)=some r.length:=by
  unfold ixN
  simp
  omega
 unfold atI
 rw [h]
 simp
theorem oG (b a:P2) (r:List P2):atI ((b::a::r).reverse.map pu) (-2)=some (pu a):=by
 have h:ixN ((b::a::r).reverse.map pu).length (-2)=some r.length:=by
  unfold ixN
  simp
  omega
 unfold atI
 rw [h]
 simp
theorem eY (P:P2):∀ st:List P2,(aL P st).length≤st.length
 | []=> Nat.le_refl _
 | [_]=> Nat.le_refl _
 | b::a::r=> by
  unfold aL
  split
  ·have:=eY P (a::r); simp only [List.length_cons] at *; omega
  ·exact Nat.le_refl _
theorem jw (P:P2):∀ (st:List P2) (q:P2),q∈aL P st→q∈st
 | [],_,h=> h
 | [_],_,h=> h
 | b::a::r,q,h=> by
  unfold aL at h
  split at h
  ·exact List.mem_cons_of_mem _ (jw P (a::r) q h)
  ·exact h
theorem cM {row:List P2} {i:Nat} {P:P2} (h:row[i]?=some P):ao (row.take (i+1))=P::aL P (ao (row.take i)):=by
 rw [List.take_succ,h]; exact fN _ _
theorem dl (row:List P2):∀ i,(ao (row.take i)).length≤i
 | 0=> by simp [ao]
 | i+1=> by
  have ih:=dl row i
  cases h:row[i]? with
  | none=> rw [List.take_succ,h]; simp; omega
  | some P=>
   rw [cM h]
   have:=eY P (ao (row.take i))
   simp only [List.length_cons]; omega
theorem cB (row:List P2):∀ i q,q∈ao (row.take i)→q∈row
 | 0,q,h=> by simp [ao] at h
 | i+1,q,h=> by
  cases hi:row[i]? with
  | none=> rw [List.take_succ,hi] at h; exact cB row i q (by simpa using h)
  | some P=>
   rw [cM hi] at h
   rcases List.mem_cons.mp h with e | e
   ·rw [e]; exact List.mem_of_getElem? hi
   ·exact cB row i q (jw P _ q e)
theorem lc (n:Int):decide (sgn n < 1)=decide (n≤0):=by
 have h:sgn n < 1↔n≤0:=by
  unfold sgn
  split
  ·omega
  ·split <;> omega
 exact decide_eq_decide.mpr h
theorem c_ (l:List P2):jc (l.map pu) none (some (-1))=l.dropLast.map pu:=by
 unfold jc HT.sIx
 rw [List.map_dropLast,List.dropLast_eq_take]
 simp
 try omega
def bS (pts:List P2):List P2:=if (ST.srt pts).length=1 then ST.srt pts else (ao (ST.srt pts)).reverse.dropLast++(ao (ST.srt pts).reverse).reverse.dropLast
theorem ms (a b:Pt):plt a b↔ST.ltP a b=true:=by unfold plt ST.ltP; simp
theorem e6 {l:List Pt}:ST.Asc l↔l.Pairwise plt:=⟨fun h=> h.imp fun {a b} k=> (ms a b).mpr k,fun h=> h.imp fun {a b} k=> (ms a b).mp k⟩
theorem gf:∀ {st:List Pt},ic st→st.Pairwise (fun x y=> plt y x)
 | [],_=> List.Pairwise.nil
 | [_],_=> by simp
 | b::a::r,h=> by
  have ih:=gf h.2
  refine List.pairwise_cons.mpr ⟨fun x hx=> ?_,ih⟩
  rcases List.mem_cons.mp hx with z | z
  ·rw [z]; exact h.1
  ·exact bJ ((List.pairwise_cons.mp ih).1 x z) h.1
theorem dH (row:List Pt) (q:Pt) (h:q∈ao row):q∈row:=by
 have:=cB row row.length q
 rw [List.take_length] at this
 exact this h
theorem f_ {row:List Pt} (hs:row.Pairwise plt):ST.Asc (ao row).reverse:=by
 by_cases hne:row=[]
 ·subst hne; exact List.Pairwise.nil
 ·exact e6.mpr (List.pairwise_reverse.mpr (gf (dm hs hne).1.desc))
def ng (p:Pt):Pt:=(-p.1,-p.2)
theorem ie (p:Pt):ng (ng p)=p:=by unfold ng; simp
theorem pQ (l:List Pt):(l.map ng).map ng=l:=by
 rw [List.map_map,show ng ∘ ng=id from funext ie,List.map_id]
theorem ma (a b c:Pt):br (ng a) (ng b) (ng c)=br a b c:=by unfold br ng; grind
theorem i0 {a b:Pt} (h:plt a b):plt (ng b) (ng a):=by unfold plt ng at *; simp; omega
theorem lq (P:Pt):∀ st:List Pt,aL (ng P) (st.map ng)=(aL P st).map ng
 | []=> rfl
 | [_]=> rfl
 | b::a::r=> by
  show aL (ng P) (ng b::ng a::r.map ng)=_
  unfold aL
  rw [ma]
  split
  ·exact lq P (a::r)
  ·rfl
theorem hW:∀ row:List Pt,ao (row.map ng)=(ao row).map ng:=fun row=> by
 have key:∀ (l:List Pt) (st:List Pt),(l.map ng).foldl (fun st P=> P::aL P st) (st.map ng)=(l.foldl (fun st P=> P::aL P st) st).map ng:=by
  intro l
  induction l with
  | nil=> intro st; rfl
  | cons p r ih=>
   intro st
   rw [List.map_cons,List.foldl_cons,List.foldl_cons,lq]
   exact ih (p::aL p st)
 exact key row []
theorem gP {row:List Pt} (hs:row.Pairwise plt):(row.reverse.map ng).Pairwise plt:=by
 rw [List.pairwise_map,List.pairwise_reverse]
 exact hs.imp fun {a b} h=> i0 h
theorem eB (row:List Pt):ao row.reverse=(ao (row.reverse.map ng)).map ng:=by rw [hW,pQ]
theorem qR {row:List Pt} (hs:row.Pairwise plt) (h2:2≤row.length):∃ mn mx t1 t2,ao row=mx::t1∧ao row.reverse=mn::t2∧mn∈t1∧mx∈t2∧(∀ p∈row,p=mn∨plt mn p)∧(∀ p∈row,p=mx∨plt p mx)∧mn∈row∧mx∈row:=by
 have hne:row≠[]:=fun z=> by rw [z] at h2; simp at h2
 obtain ⟨K,hl,hh⟩:=dm hs hne
 have hneR:row.reverse.map ng≠[]:=by simpa using hne
 obtain ⟨KR,hlR,hhR⟩:=dm (gP hs) hneR
 have e1:row.head?=some row[0]:=by rw [List.head?_eq_getElem?]; exact List.getElem?_eq_getElem (by omega)
 have e2:row.getLast?=some row[row.length - 1]:=by rw [List.getLast?_eq_getElem?]; exact List.getElem?_eq_getElem (by omega)
 have l01:plt row[0] row[row.length - 1]:=List.pairwise_iff_getElem.mp hs 0 (row.length - 1) (by omega) (by omega) (by omega)
 have mnA:∀ p∈row,p=row[0]∨plt row[0] p:=fun p hp=> by
  obtain ⟨i,hi,rfl⟩:=List.mem_iff_getElem.mp hp
  rcases Nat.eq_zero_or_pos i with z | z
  ·left; subst z; rfl
  ·right; exact List.pairwise_iff_getElem.mp hs 0 i (by omega) hi z
 have mxA:∀ p∈row,p=row[row.length - 1]∨plt p row[row.length - 1]:=fun p hp=> by
  obtain ⟨i,hi,rfl⟩:=List.mem_iff_getElem.mp hp
  rcases Nat.lt_or_eq_of_le (show i≤row.length - 1 by omega) with z | z
  ·right; exact List.pairwise_iff_getElem.mp hs i (row.length - 1) hi (by omega) z
  ·left; subst z; rfl
 have ne:row[0]≠row[row.length - 1]:=fun z=> by rw [z] at l01; exact bh _ l01
 generalize row[0]=mn at *
 generalize row[row.length - 1]=mx at *
 have mmn:mn∈row:=List.mem_of_head? e1
 have mmx:mx∈row:=List.mem_of_getLast? e2
 rw [e1] at hl
 rw [e2] at hh
 have hlR':(ao row.reverse).getLast?=some mx:=by
  rw [eB,List.getLast?_map,hlR,List.head?_map,List.head?_reverse,e2]; simp [ie]
 have hhR':(ao row.reverse).head?=some mn:=by
  rw [eB,List.head?_map,hhR,List.getLast?_map,List.getLast?_reverse,e1]; simp [ie]
 cases hb:ao row with
 | nil=> rw [hb] at hh; cases hh
 | cons x t1=>
  rw [hb] at hh hl
  cases hh
  cases hbR:ao row.reverse with
  | nil=> rw [hbR] at hhR'; cases hhR'
  | cons y t2=>
   rw [hbR] at hhR' hlR'
   cases hhR'
   refine ⟨_,_,t1,t2,rfl,rfl,?_,?_,mnA,mxA,mmn,mmx⟩
   ·cases t1 with
    | nil=> simp at hl; exact absurd hl.symm ne
    | cons z r=> rw [List.getLast?_cons_cons] at hl; exact List.mem_of_getLast? hl
   ·cases t2 with
    | nil=> simp at hlR'; exact absurd hlR' ne
    | cons z r=> rw [List.getLast?_cons_cons] at hlR'; exact List.mem_of_getLast? hlR'
theorem lE (st:List Pt):st.reverse.dropLast=st.tail.reverse:=by
 cases st with
 | nil=> rfl
 | cons h t=> simp
theorem dq {l:List Pt}:l.reverse.Nodup↔l.Nodup:=by
 unfold List.Nodup
 rw [List.pairwise_reverse]
 exact ⟨fun h=> h.imp fun k=> Ne.symm k,fun h=> h.imp fun k=> Ne.symm k⟩
theorem ge:∀ {l m:List Pt},l.Nodup→(∀ x∈l,x∈m)→l.length≤m.length
 | [],_,_,_=> Nat.zero_le _
 | x::l,m,h,hs=> by
  obtain ⟨h1,h2⟩:=List.nodup_cons.mp h
  have hx:x∈m:=hs x List.mem_cons_self
  have ih:=ge (m:=m.erase x) h2 fun y hy=> (List.mem_erase_of_ne (fun e=> h1 (by rw [← e]; exact hy))).mpr (hs y (List.mem_cons_of_mem _ hy))
  rw [List.length_erase_of_mem hx] at ih
  have:=List.length_pos_of_mem hx
  simp only [List.length_cons]; omega
theorem gW (pts:List Pt):(ST.srt pts).Pairwise plt:=e6.mp (ST.srt_asc pts)
theorem iO {pts:List Pt} (h:2≤(ST.srt pts).length):bS pts=(ao (ST.srt pts)).tail.reverse++(ao (ST.srt pts).reverse).tail.reverse:=by
 unfold bS; rw [if_neg (by omega),lE,lE]
theorem nP {pts:List Pt} (h:pts≠[]):bS pts≠[]:=by
 have hs:ST.srt pts≠[]:=fun z=> by
  obtain ⟨p,r,rfl⟩:=List.exists_cons_of_ne_nil h
  have:=(ST.srt_mem p (p::r)).mpr List.mem_cons_self
  rw [z] at this; simp at this
 by_cases h1:(ST.srt pts).length=1
 ·unfold bS; rw [if_pos h1]; exact hs
 ·have h2:2≤(ST.srt pts).length:=by have:=List.length_pos_iff.mpr hs; omega
  obtain ⟨mn,mx,t1,t2,e1,e2,m1,m2,_⟩:=qR (gW pts) h2
  rw [iO h2,e1,e2]
  intro z
  have:t1.reverse=[]:=(List.append_eq_nil_iff.mp z).1
  rw [List.reverse_eq_nil_iff.mp this] at m1
  simp at m1
theorem jm (pts:List Pt):(bS pts).Nodup:=by
 have nd:∀ {l:List Pt},l.Pairwise plt→l.Nodup:=fun h=> h.imp fun {a b} k e=> by rw [e] at k; exact bh b k
 by_cases h2:2≤(ST.srt pts).length
 ·have hs:=gW pts
  obtain ⟨mn,mx,t1,t2,e1,e2,m1,m2,hmn,hmx,i1,i2⟩:=qR hs h2
  have n1:(mx::t1).Nodup:=by rw [← e1]; exact dq.mp (nd (e6.mp (f_ hs)))
  have n2:(mn::t2).Nodup:=by
   rw [← e2,eB]
   have:=dq.mp (nd (e6.mp (f_ (gP hs))))
   refine List.pairwise_map.mpr (this.imp fun {a b} hab e=> hab ?_)
   rw [← ie a,e,ie]
  obtain ⟨x1,y1⟩:=List.nodup_cons.mp n1
  obtain ⟨x2,y2⟩:=List.nodup_cons.mp n2
  rw [iO h2,e1,e2,List.tail_cons,List.tail_cons,List.nodup_append]
  refine ⟨dq.mpr y1,dq.mpr y2,fun p hp q hq=> ?_⟩
  rintro rfl
  have p1:p∈t1:=List.mem_reverse.mp hp
  have p2:p∈t2:=List.mem_reverse.mp hq
  have b1:p∈ao (ST.srt pts):=by rw [e1]; exact List.mem_cons_of_mem _ p1
  have b2:p∈ao (ST.srt pts).reverse:=by rw [e2]; exact List.mem_cons_of_mem _ p2
  have pr:=dH _ _ b1
  have l1:plt mn p:=(hmn p pr).resolve_left fun e=> x2 (by rw [← e]; exact p2)
  have l2:plt p mx:=(hmx p pr).resolve_left fun e=> x1 (by rw [← e]; exact p1)
  have d1:=li hs b1 mn i1 mx i2 l1 l2
  have b3:ng p∈ao ((ST.srt pts).reverse.map ng):=by rw [hW]; exact List.mem_map.mpr ⟨p,b2,rfl⟩
  have d2:=li (gP hs) b3 (ng mx) (List.mem_map.mpr ⟨mx,List.mem_reverse.mpr i2,rfl⟩) (ng mn) (List.mem_map.mpr ⟨mn,List.mem_reverse.mpr i1,rfl⟩) (i0 l2) (i0 l1)
  rw [ma] at d2
  unfold br at d1 d2
  grind
 ·unfold bS
  split
  ·exact nd (gW pts)
  ·have e:ST.srt pts=[]:=List.length_eq_zero_iff.mp (by omega)
   rw [e]; exact List.nodup_nil
theorem ij (pts:List Pt):∀ p∈bS pts,p∈pts:=fun p hp=> by
 unfold bS at hp
 split at hp
 ·exact (ST.srt_mem p pts).mp hp
 ·rcases List.mem_append.mp hp with h | h
  ·exact (ST.srt_mem p pts).mp (dH _ _ (List.mem_reverse.mp (List.dropLast_subset _ h)))
  ·exact (ST.srt_mem p pts).mp (List.mem_reverse.mp (dH _ _ (List.mem_reverse.mp (List.dropLast_subset _ h))))
theorem oa (pts:List Pt):(bS pts).length≤pts.length:=ge (jm pts) (ij pts)
end
section
variable {P:Program} {w:World} {K:PySem.W.Frag} {mg:Str→Option Value} {base:Heap}
def kC:List U→Out→Prop:=fun us o=> ∃ P Q R:P2,us=[pu P,pu Q,pu R]∧Szp 5000 P∧Szp 5000 Q∧Szp 5000 R∧o=.val (.int (sgn (br P Q R)))
set_option maxHeartbeats 8000000 in
theorem oh (T:Txt K mg):a_ P w K mg base (CXF P w) 2 T.a_turn T.d_turn ["P","Q","R"] (spU K (kC)):=by
 refine bB T.F_turn nW (fun us o h=> ?_) (fun cdv A outer s H E O us o hr h=> ?_)
 ·obtain ⟨P,Q,R,rfl,⟨p1,p2⟩,⟨q1,q2⟩,⟨r1,r2⟩,rfl⟩:=h
  rfl
 obtain ⟨P,Q,R,rfl,⟨p1,p2⟩,⟨q1,q2⟩,⟨r1,r2⟩,rfl⟩:=h
 refine Ws.nox ?_
 refine af (aJ (aF ((nG T).mono (by decide)) hr rfl T.m_sign T.F_sign.kp T.b_sign aD (ae (bW (bi (bW (bc (aa 1 rfl) ag rfl rfl) (bc (aa 0 rfl) ag rfl rfl)) (bW (bc (aa 2 rfl) ag rfl rfl) (bc (aa 0 rfl) ag rfl rfl)) (by walk_at "mul")) (bi (bW (bc (aa 1 rfl) ag rfl rfl) (bc (aa 0 rfl) ag rfl rfl)) (bW (bc (aa 2 rfl) ag rfl rfl) (bc (aa 0 rfl) ag rfl rfl)) (by walk_at "mul"))) aj aZ) ⟨_,rfl,rfl⟩) ?_)
 exact rfl
def fj:List U→Out→Prop:=fun us o=> ∃ row:List P2,us=[lp row]∧(∀ p∈row,Szp 5000 p)∧row.length≤900∧o=.new ((ao row).reverse.map pu)
set_option maxHeartbeats 8000000 in
theorem dz (T:Txt K mg):a_ P w K mg base (CXF P w) 3 T.a_left_bends T.d_left_bends ["row"] (spU K (fj)):=by
 refine bB T.F_left_bends cw (fun us o h=> ?_) (fun cdv A outer s H E O us o hr h=> ?_)
 ·obtain ⟨row,rfl,sz,hl,rfl⟩:=h
  rfl
 obtain ⟨row,rfl,sz,hl,rfl⟩:=h
 refine Ws.nox ?_
 refine af (fO (i:=1) cw.nd rfl (Or.inl rfl) (bj aN) ?_)
 refine af (g7 (fun st:List P2=> [some (.val (lp row)),some (.own (st.reverse.map pu)),none]) (fun i st=> st=ao (row.take i)) rfl PassesOwn.never (eC (aa 0 rfl) (.inl rfl)) ?h0 ?hs ?hd)
 case h0=> exact ⟨[],rfl,rfl,rfl,trivial⟩
 case hs=>
  rintro H0 i x _ hx rfl
  obtain ⟨P,hP,mP,rfl⟩:=mE hx
  have hi:i < row.length:=aM hP
  have sP:=sz P mP
  refine ⟨_,(gX (i:=2) cw.nd rfl (Or.inl rfl)),?_⟩
  have len0:=dl row i
  refine mV (fun ps=> SubP [some (.val (lp row)),some (.own ((aL P (ao (row.take i))).reverse.map pu)),some (.val (pu P))] ps) (h_ (fun s2:List P2=> [some (.val (lp row)),some (.own (s2.reverse.map pu)),some (.val (pu P))]) (fun m s2=> m=s2.length∧aL P s2=aL P (ao (row.take i))∧(∀ p∈s2,p∈row)∧s2.length≤i) PassesOwn.never ?h0 ?hs) ?hj
  case h0=> exact ⟨_,_,⟨rfl,rfl,fun q hq=> cB row i q hq,len0⟩,rfl,rfl,rfl,trivial⟩
  case hs=>
   rintro m s2 ⟨rfl,e2,sub,len2⟩
   match s2,e2,sub,len2 with
   | [],e2,sub,len2=>
    refine ⟨false,?_,fun h=> (nomatch h),fun h ps hps=> e2 ▸ hps⟩
    exact (Tw.t (gZ (bg gD (cZ 1 rfl rfl T.z_len) ag) rfl))
   | [b],e2,sub,len2=>
    refine ⟨false,?_,fun h=> (nomatch h),fun h ps hps=> e2 ▸ hps⟩
    exact (Tw.t (gZ (bg gD (cZ 1 rfl rfl T.z_len) ag) rfl))
   | b::a::r,e2,sub,len2=>
    have sa:=sz a (sub a (by simp))
    have sb:=sz b (sub b (by simp))
    have e1:decide ((1:Int) < ((((b::a::r).reverse.map pu).length:Nat):Int))=true:=decide_eq_true (by simp; omega)
    refine ⟨decide ((1:Int) < ((((b::a::r).reverse.map pu).length:Nat):Int)) && decide (sgn (br a b P) < 1),?_,fun h=> ?_,fun h ps hps=> ?_⟩
    ·exact (Tw.t (lO (bg gD (cZ 1 rfl rfl T.z_len) ag) (fun hz=> (lU (bg lH (aF ((oh T).mono (by decide)) hr rfl T.m_turn T.F_turn.kp T.b_turn aD (ae (jY 1 rfl (db ag) (oG b a r)) (ae (jY 1 rfl (db ag) (oO b (a::r))) (ae (aa 2 rfl) aj ac) dB) dB) ⟨a,b,P,rfl,sa,sb,sP,rfl⟩) ag)))))
    ·rw [e1,Bool.true_and,lc] at h
     have hd:=dTb h
     refine af (oD 1 rfl (by simp) (bp ?_))
     refine ⟨_,a::r,?_,⟨rfl,?_,fun q hq=> sub q (List.mem_cons_of_mem _ hq),?_⟩,rfl,?_,rfl,trivial⟩
     ·simp
     ·rw [← e2]; conv=> rhs; unfold aL
      rw [if_pos hd]
     ·simp only [List.length_cons] at *; omega
     ·exact congrArg (fun l=> some (Sl.own l)) (by simp)
    ·rw [e1,Bool.true_and,lc] at h
     have hd:=dFb h
     have e3:aL P (b::a::r)=b::a::r:=by conv=> lhs; unfold aL
                                        rw [if_neg hd]
     rw [← e2,e3]
     exact hps
  case hj=>
   intro ps hps
   refine fM ?_ hps
   have e4:=cM hP
   have len3:=eY P (ao (row.take i))
   refine af (cA 1 rfl (aa 2 rfl) (by rw [List.length_map,List.length_reverse]; exact aH (by omega)) (bp ?_))
   refine ⟨_,rfl,rfl,?_,trivial⟩
   exact congrArg (fun l=> some (Sl.own l)) (by rw [e4]; simp)
 case hd=>
  rintro st ps hst hps
  refine fM ?_ hps
  refine af (fE 1 rfl ?_)
  rw [hst]
  simp
end
section
variable {P:Program} {w:World} {K:PySem.W.Frag} {mg:Str→Option Value} {base:Heap}
theorem lv {m:Nat} {pts:List P2} (h:∀ p∈pts,Szp m p):∀ p∈ST.srt pts,Szp m p:=fun p hp=> h p ((ST.srt_mem p pts).mp hp)
theorem d0 (row:List P2):(ao row).length≤row.length:=by
 have:=dl row row.length
 rwa [List.take_length] at this
def jk (C:Addr):List U→Out→Prop:=fun us o=> ∃ pts:List P2,us=[lp pts]∧(∀ p∈pts,Szp 5000 p)∧pts.length < 64∧o=(if pts=[] then .exc C else .new ((bS pts).map pu))
set_option maxHeartbeats 8000000 in
theorem df (T:Txt K mg):a_ P w K mg base (CXF P w) 4 T.a_field T.d_field ["points"] (spU K (jk T.c_NoField)):=by
 refine bB T.F_field da (by rintro us o ⟨_,rfl,_⟩; rfl) (fun cdv A outer s H E O us o hr h=> ?_)
 obtain ⟨pts,rfl,sz,hl,rfl⟩:=h
 have hml:((pts.map pu).length:Int)=(pts.length:Int):=by rw [List.length_map]
 by_cases hne:pts=[]
 ·subst hne
  refine af (cX (bg gA (ak (dZ rfl) rfl T.z_len PySem.boot_len (ae (aa 0 rfl) aj ac)) ag) rfl ?_)
  refine af (jU T.x_NoField rfl T.mx_NoField jA ?_)
  exact rfl
 ·have hpos:0 < pts.length:=List.length_pos_iff.mpr hne
  rw [if_neg hne]
  refine af (fS (bg gA (ak (dZ rfl) rfl T.z_len PySem.boot_len (ae (aa 0 rfl) aj ac)) ag) (by rw [hml]; exact decide_eq_false (by omega)) (bp ?_))
  have sl:=ST.srt_len pts
  have hms:(((ST.srt pts).map pu).length:Int)=((ST.srt pts).length:Int):=by rw [List.length_map]
  have szs:=lv sz
  refine Ws.nox ?_
  by_cases h1:(ST.srt pts).length=1
  ·refine af (fO (i:=1) da.nd rfl (Or.inl rfl) (dh rfl (fC hr) rfl T.z_sorted rfl T.z_set (aa 0 rfl) hl ac) ?_)
   refine af (cX (bg gA (cZ 1 rfl rfl T.z_len) ag) (by rw [hms]; exact decide_eq_true (by omega)) ?_)
   refine af (fE 1 rfl ?_)
   show Out.new _=Out.new _
   unfold bS
   rw [if_pos h1]
  ·refine af (be (i:=1) da.nd rfl (Or.inl rfl) (EvN.ev (dh rfl (fC hr) rfl T.z_sorted rfl T.z_set (aa 0 rfl) hl ac)) ?_)
   refine af (fS (bg gA (ak (dZ rfl) rfl T.z_len PySem.boot_len (ae (aa 1 rfl) aj ac)) ag) (by rw [hms]; exact decide_eq_false (by omega)) (bp ?_))
   have b1:=d0 (ST.srt pts)
   have b2:=d0 (ST.srt pts).reverse
   rw [List.length_reverse] at b2
   refine af (be (i:=2) da.nd rfl (Or.inl rfl) (EvN.ev (cm ((dz T).mono (by decide)) hr rfl T.m_left_bends T.F_left_bends.kp T.b_left_bends aD (ae (aa 1 rfl) aj ac) ⟨ST.srt pts,rfl,szs,by omega,rfl⟩)) ?_)
   refine af (be (i:=3) da.nd rfl (Or.inl rfl) (EvN.ev (cm ((dz T).mono (by decide)) hr rfl T.m_left_bends T.F_left_bends.kp T.b_left_bends aD (ae (EvN.ev (qj (aa 1 rfl) (db ag) (.inl rfl))) aj dB) ⟨(ST.srt pts).reverse,by rw [lp,List.map_reverse],fun p hp=> szs p (List.mem_reverse.mp hp),by rw [List.length_reverse]; omega,rfl⟩)) ?_)
   refine af (i3 (gg (EvN.ev (dO (aa 2 rfl) eG (eH (db ag)) (.inl rfl))) (EvN.ev (dO (aa 3 rfl) eG (eH (db ag)) (.inl rfl))) (by rw [c_,c_,List.length_map,List.length_map,List.length_dropLast,List.length_dropLast,List.length_reverse,List.length_reverse]; exact Nat.le_of_lt (aH (by omega)))) ?_)
   show Out.new _=Out.new _
   unfold bS
   rw [if_neg h1,c_,c_,← List.map_append]
end
section
variable {P:Program} {w:World} {K:PySem.W.Frag} {mg:Str→Option Value} {base:Heap}
def kM:List U→Out→Prop:=fun us o=> ∃ P Q R:P2,us=[pu P,pu Q,pu R]∧Szp 5000 P∧Szp 5000 Q∧Szp 5000 R∧o=.val (.int (br P Q R))
set_option maxHeartbeats 8000000 in
theorem g4 (T:Txt K mg):a_ P w K mg base (CXF P w) 1 T.a__law_side T.d__law_side ["a","b","p"] (spU K (kM)):=by
 refine bB T.F__law_side gJ (fun us o h=> ?_) (fun cdv A outer s H E O us o hr h=> ?_)
 ·obtain ⟨P,Q,R,rfl,⟨p1,p2⟩,⟨q1,q2⟩,⟨r1,r2⟩,rfl⟩:=h
  rfl
 obtain ⟨P,Q,R,rfl,⟨p1,p2⟩,⟨q1,q2⟩,⟨r1,r2⟩,rfl⟩:=h
 refine Ws.nox ?_
 refine af (aJ (bW (bi (bW (bc (aa 1 rfl) ag rfl rfl) (bc (aa 0 rfl) ag rfl rfl)) (bW (bc (aa 2 rfl) ag rfl rfl) (bc (aa 0 rfl) ag rfl rfl)) (by walk_at "mul")) (bi (bW (bc (aa 1 rfl) ag rfl rfl) (bc (aa 0 rfl) ag rfl rfl)) (bW (bc (aa 2 rfl) ag rfl rfl) (bc (aa 0 rfl) ag rfl rfl)) (by walk_at "mul"))) ?_)
 exact rfl
set_option maxHeartbeats 8000000 in
theorem d7 (T:Txt K mg):a_ P w K mg base (CXF P w) 2 T.a__law_half T.d__law_half ["points"] (spU K (fj)):=by
 refine bB T.F__law_half cH (fun us o h=> ?_) (fun cdv A outer s H E O us o hr h=> ?_)
 ·obtain ⟨row,rfl,sz,hl,rfl⟩:=h
  rfl
 obtain ⟨row,rfl,sz,hl,rfl⟩:=h
 refine Ws.nox ?_
 refine af (fO (i:=1) cH.nd rfl (Or.inl rfl) (bj aN) ?_)
 refine af (g7 (fun st:List P2=> [some (.val (lp row)),some (.own (st.reverse.map pu)),none]) (fun i st=> st=ao (row.take i)) rfl PassesOwn.never (eC (aa 0 rfl) (.inl rfl)) ?h0 ?hs ?hd)
 case h0=> exact ⟨[],rfl,rfl,rfl,trivial⟩
 case hs=>
  rintro H0 i x _ hx rfl
  obtain ⟨P,hP,mP,rfl⟩:=mE hx
  have hi:i < row.length:=aM hP
  have sP:=sz P mP
  refine ⟨_,(gX (i:=2) cH.nd rfl (Or.inl rfl)),?_⟩
  have len0:=dl row i
  refine mV (fun ps=> SubP [some (.val (lp row)),some (.own ((aL P (ao (row.take i))).reverse.map pu)),some (.val (pu P))] ps) (h_ (fun s2:List P2=> [some (.val (lp row)),some (.own (s2.reverse.map pu)),some (.val (pu P))]) (fun m s2=> m=s2.length∧aL P s2=aL P (ao (row.take i))∧(∀ p∈s2,p∈row)∧s2.length≤i) PassesOwn.never ?h0 ?hs) ?hj
  case h0=> exact ⟨_,_,⟨rfl,rfl,fun q hq=> cB row i q hq,len0⟩,rfl,rfl,rfl,trivial⟩
  case hs=>
   rintro m s2 ⟨rfl,e2,sub,len2⟩
   match s2,e2,sub,len2 with
   | [],e2,sub,len2=>
    refine ⟨false,?_,fun h=> (nomatch h),fun h ps hps=> e2 ▸ hps⟩
    exact (Tw.t (gZ (bg gD (cZ 1 rfl rfl T.z_len) ag) rfl))
   | [b],e2,sub,len2=>
    refine ⟨false,?_,fun h=> (nomatch h),fun h ps hps=> e2 ▸ hps⟩
    exact (Tw.t (gZ (bg gD (cZ 1 rfl rfl T.z_len) ag) rfl))
   | b::a::r,e2,sub,len2=>
    have sa:=sz a (sub a (by simp))
    have sb:=sz b (sub b (by simp))
    have e1:decide ((1:Int) < ((((b::a::r).reverse.map pu).length:Nat):Int))=true:=decide_eq_true (by simp; omega)
    refine ⟨decide ((1:Int) < ((((b::a::r).reverse.map pu).length:Nat):Int)) && decide (br a b P≤0),?_,fun h=> ?_,fun h ps hps=> ?_⟩
    ·exact (Tw.t (lO (bg gD (cZ 1 rfl rfl T.z_len) ag) (fun hz=> (lU (bg rg (aF ((g4 T).mono (by decide)) hr rfl T.m__law_side T.F__law_side.kp T.b__law_side aD (ae (jY 1 rfl (db ag) (oG b a r)) (ae (jY 1 rfl (db ag) (oO b (a::r))) (ae (aa 2 rfl) aj ac) dB) dB) ⟨a,b,P,rfl,sa,sb,sP,rfl⟩) ag)))))
    ·rw [e1,Bool.true_and] at h
     have hd:=dTb h
     refine af (oD 1 rfl (by simp) (bp ?_))
     refine ⟨_,a::r,?_,⟨rfl,?_,fun q hq=> sub q (List.mem_cons_of_mem _ hq),?_⟩,rfl,?_,rfl,trivial⟩
     ·simp
     ·rw [← e2]; conv=> rhs; unfold aL
      rw [if_pos hd]
     ·simp only [List.length_cons] at *; omega
     ·exact congrArg (fun l=> some (Sl.own l)) (by simp)
    ·rw [e1,Bool.true_and] at h
     have hd:=dFb h
     have e3:aL P (b::a::r)=b::a::r:=by conv=> lhs; unfold aL
                                        rw [if_neg hd]
     rw [← e2,e3]
     exact hps
  case hj=>
   intro ps hps
   refine fM ?_ hps
   have e4:=cM hP
   have len3:=eY P (ao (row.take i))
   refine af (cA 1 rfl (aa 2 rfl) (by rw [List.length_map,List.length_reverse]; exact aH (by omega)) (bp ?_))
   refine ⟨_,rfl,rfl,?_,trivial⟩
   exact congrArg (fun l=> some (Sl.own l)) (by rw [e4]; simp)
 case hd=>
  rintro st ps hst hps
  refine fM ?_ hps
  refine af (fE 1 rfl ?_)
  rw [hst]
  simp
def g0:List U→Out→Prop:=fun us o=> ∃ pts:List P2,us=[lp pts]∧(∀ p∈pts,Szp 5000 p)∧pts.length < 64∧o=.new ((bS pts).map pu)
set_option maxHeartbeats 8000000 in
theorem cQ (T:Txt K mg):a_ P w K mg base (CXF P w) 3 T.a__law_corners T.d__law_corners ["points"] (spU K (g0)):=by
 refine bB T.F__law_corners b_ (fun us o h=> ?_) (fun cdv A outer s H E O us o hr h=> ?_)
 ·obtain ⟨pts,rfl,sz,hl,rfl⟩:=h
  rfl
 obtain ⟨pts,rfl,sz,hl,rfl⟩:=h
 refine Ws.nox ?_
 have sl:=ST.srt_len pts
 have hms:(((ST.srt pts).map pu).length:Int)=((ST.srt pts).length:Int):=by rw [List.length_map]
 have szs:=lv sz
 by_cases h1:(ST.srt pts).length < 2
 ·refine af (fO (i:=1) b_.nd rfl (Or.inl rfl) (dh rfl (fC hr) rfl T.z_sorted rfl T.z_set (aa 0 rfl) hl ac) ?_)
  refine af (cX (bg lH (cZ 1 rfl rfl T.z_len) ag) (by rw [hms]; exact decide_eq_true (by omega)) ?_)
  refine af (fE 1 rfl ?_)
  show Out.new _=Out.new _
  unfold bS
  by_cases h0:(ST.srt pts).length=1
  ·rw [if_pos h0]
  ·have e:ST.srt pts=[]:=List.length_eq_zero_iff.mp (by omega)
   rw [if_neg h0,e]; rfl
 ·refine af (be (i:=1) b_.nd rfl (Or.inl rfl) (EvN.ev (dh rfl (fC hr) rfl T.z_sorted rfl T.z_set (aa 0 rfl) hl ac)) ?_)
  refine af (fS (bg lH (ak (dZ rfl) rfl T.z_len PySem.boot_len (ae (aa 1 rfl) aj ac)) ag) (by rw [hms]; exact decide_eq_false (by omega)) (bp ?_))
  have b1:=d0 (ST.srt pts)
  have b2:=d0 (ST.srt pts).reverse
  rw [List.length_reverse] at b2
  refine af (i3 (gg (EvN.ev (dO (EvN.ev (cm ((d7 T).mono (by decide)) hr rfl T.m__law_half T.F__law_half.kp T.b__law_half aD (ae (aa 1 rfl) aj ac) ⟨ST.srt pts,rfl,szs,by omega,rfl⟩)) eG (eH (db ag)) (.inl rfl))) (EvN.ev (dO (EvN.ev (cm ((d7 T).mono (by decide)) hr rfl T.m__law_half T.F__law_half.kp T.b__law_half aD (ae (EvN.ev (kh rfl rfl T.z_list rfl T.z_reversed (aa 1 rfl) ac)) aj aB) ⟨(ST.srt pts).reverse,by rw [lp,List.map_reverse],fun p hp=> szs p (List.mem_reverse.mp hp),by rw [List.length_reverse]; omega,rfl⟩)) eG (eH (db ag)) (.inl rfl))) (by rw [c_,c_,List.length_map,List.length_map,List.length_dropLast,List.length_dropLast,List.length_reverse,List.length_reverse]; exact Nat.le_of_lt (aH (by omega)))) ?_)
  show Out.new _=Out.new _
  unfold bS
  rw [if_neg (by omega),c_,c_,← List.map_append]
def cel (ns:List Int) (k:Int):Int:=if k < (ns.length:Int) then ns.getD k.toNat 0 else 7 * k * k+3 * k+1
theorem fk {ns:List Int} (h:∀ m∈ns,Sz 1048576 m) {k:Int} (h0:0≤k) (h1:k < 1000):Sz 1048576 (cel ns k):=by
 unfold cel
 split
 ·exact nU h _
 ·refine Sz.mono (m:=100) ?_ (by decide)
  have:7 * k * k≤7 * 1000 * 1000:=by
   have:k * k≤1000 * 1000:=Int.mul_le_mul (by omega) (by omega) h0 (by omega)
   rw [Int.mul_assoc]; omega
  have h2:0≤7 * k * k:=Int.mul_nonneg (by omega) h0
  unfold Sz; omega
def j7:List U→Out→Prop:=fun us o=> ∃ (ns:List Int) (k:Int),us=[.scr (ns.map U.int),.int k]∧ns.length≤63∧0≤k∧k < 1000∧o=.val (.int (cel ns k))
set_option maxHeartbeats 8000000 in
theorem aX (T:Txt K mg):a_ P w K mg base (CXF P w) 1 T.a__law_cell T.d__law_cell ["script","k"] (spU K (j7)):=by
 refine bB T.F__law_cell gF (fun us o h=> ?_) (fun cdv A outer s H E O us o hr h=> ?_)
 ·obtain ⟨ns,k,rfl,hl,h0,h1,rfl⟩:=h
  rfl
 obtain ⟨ns,k,rfl,hl,h0,h1,rfl⟩:=h
 refine Ws.nox ?_
 have sk:Sz 64 k:=by unfold Sz; omega
 have hm:((ns.map U.int).length:Int)=(ns.length:Int):=by rw [List.length_map]
 refine af (iE (bg lH (aa 1 rfl) (ak (dZ rfl) rfl T.z_len PySem.boot_len (ae (aa 0 rfl) aj ac))) (fun hT=> ?_) (fun hF=> (bp ?_)))
 ·rw [hm] at hT
  have hk:=dTb hT
  refine af (aJ (bc (aa 0 rfl) (aa 1 rfl) rfl (mQ h0 hk)) ?_)
  exact vIO (by unfold cel; rw [if_pos hk])
 ·rw [hm] at hF
  have hk:=dFb hF
  refine af (aJ (bN (bN (bi (bi ag (aa 1 rfl) (by walk_at "mul")) (aa 1 rfl) (by walk_at "mul")) (bi ag (aa 1 rfl) (by walk_at "mul"))) ag) ?_)
  exact vIO (by unfold cel; rw [if_neg hk])
theorem qZ {m:Nat} {x y:Int} (h:0≤y) (sy:Sz m y):Sz m (x % (2 * y+1) - y):=by
 have h1:=Int.emod_nonneg x (show 2 * y+1≠0 by omega)
 have h2:=Int.emod_lt_of_pos x (show 0 < 2 * y+1 by omega)
 generalize x % (2 * y+1)=z at *
 refine Sz.le ?_ sy
 omega
def grt (c m:Int):Int:=c * (37 * m / 10+60013) % (2 * m+1) - m
def iU:List U→Out→Prop:=fun us o=> ∃ c m:Int,us=[.int c,.int m]∧Sz 1048576 c∧Sz 240 m∧0≤m∧o=.val (.int (grt c m))
set_option maxHeartbeats 8000000 in
theorem bU (T:Txt K mg):a_ P w K mg base (CXF P w) 1 T.a__law_great T.d__law_great ["cell","most"] (spU K (iU)):=by
 refine bB T.F__law_great fV (fun us o h=> ?_) (fun cdv A outer s H E O us o hr h=> ?_)
 ·obtain ⟨c,m,rfl,sc,sm,h0,rfl⟩:=h
  rfl
 obtain ⟨c,m,rfl,sc,sm,h0,rfl⟩:=h
 refine Ws.nox ?_
 refine af (aJ (bW (eL (bi (aa 0 rfl) (bN (iK (bi ag (aa 1 rfl) (by walk_at "mul")) ag (by walk_at "div")) ag) (by walk_at "mul")) (bN (bi ag (aa 1 rfl) (by walk_at "mul")) ag) (by omega)) (aa 1 rfl)) ?_)
 exact rfl
theorem gN {n:Nat} {m:Int} (c:Int) (h0:0≤m) (sm:Sz n m):Sz n (grt c m):=qZ h0 sm
end
section
variable {P:Program} {w:World} {K:PySem.W.Frag} {mg:Str→Option Value} {base:Heap}
def ap (a b c d e f:Int) (p:P2):P2:=(a * p.1+b * p.2+e,c * p.1+d * p.2+f)
theorem oM {m:Nat} {a b c d e f:Int} {p:P2} (sa:Sz 500 a) (sb:Sz 500 b) (sc:Sz 500 c) (sd:Sz 500 d) (se:Sz 500 e) (sf:Sz 500 f) (hm:m≤3000) (s:Szp m p):Szp (m+510) (ap a b c d e f p):=by
 have key:∀ {x y z:Int},Sz 500 x→Sz 500 y→Sz 500 z→Sz (m+510) (x * p.1+y * p.2+z):=fun sx sy sz=> by
  have h1:=L2.Sz.add' (L2.Sz.mul sx s.1) (L2.Sz.mul sy s.2)
  have h2:=L2.Sz.add' h1 sz
  exact h2.mono (by omega)
 exact ⟨key sa sb se,key sc sd sf⟩
def ov (C:Addr):List U→Out→Prop:=fun us o=> (∃ (pts:List P2) (a b c d e f:Int),us=[lp pts,mv a b c d e f]∧(a * d - b * c=1∨a * d - b * c=-1)∧(Sz 500 a∧Sz 500 b∧Sz 500 c∧Sz 500 d∧Sz 500 e∧Sz 500 f)∧(∀ p∈pts,Szp 3000 p)∧pts≠[]∧pts.length < 64∧o=.new ((bS (pts.map (ap a b c d e f))).map pu))∨
 (∃ (pts:List P2) (u:U),us=[lp pts,u]∧dI u∧cJ u=false∧pts≠[]∧pts.length < 64∧o=.exc C)
set_option maxHeartbeats 8000000 in
theorem dc (T:Txt K mg):a_ P w K mg base (CXF P w) 5 T.a_field_moved T.d_field_moved ["land","move"] (spU K (ov T.c_NoMove)):=by
 refine bB T.F_field_moved ck (by rintro us o (⟨_,_,_,_,_,_,_,rfl,_⟩ | ⟨_,_,rfl,_⟩) <;> rfl) (fun cdv A outer s H E O us o hr h=> ?_)
 rcases h with ⟨pts,a,b,c,d,e,f,rfl,hu,⟨sa,sb,sc,sd,se,sf⟩,sz,hne,hl,rfl⟩ | ⟨pts,u,rfl,hu,hm,hne,hl,rfl⟩
 ·have k5:500≤30000:=by decide
  have M:Mv a b c d e f:=⟨hu,sa.mono k5,sb.mono k5,sc.mono k5,sd.mono k5,se.mono k5,sf.mono k5⟩
  refine af (i3 (cm ((df T).mono (by decide)) hr rfl T.m_field T.F_field.kp T.b_field aD (ae (EvN.ev (jt (ys:=(pts.map fun p=> pu (ap a b c d e f p))) rfl (blk (ai aQ) ["land","move","P"] [2] rfl rfl rfl rfl (by decide+kernel)) (eC (aa 0 rfl) (.inl rfl)) (fun _ _ _ _=> dg (i:=2) ck.nd rfl (Or.inl rfl)) (fu (by decide)) ?clen ?csz (fun _ _=> trivial) ?celt)) aj e8) ⟨pts.map (ap a b c d e f),by rw [lp,List.map_map]; rfl,fun p hp=> by obtain ⟨q,hq,rfl⟩:=List.mem_map.mp hp; have z:=oM sa sb sc sd se sf (Nat.le_refl 3000) (sz q hq); exact ⟨z.1.mono (by decide),z.2.mono (by decide)⟩,by rw [List.length_map]; exact hl,by rw [if_neg (by simpa using hne)]⟩) ?_)
  case clen=> simp
  case csz=> rw [List.length_map]; exact Nat.le_of_lt (aH (by omega))
  case celt=>
   intro C s' H' fp j x y hx hy
   obtain ⟨p,hp,mp,rfl,rfl⟩:=jN hx hy
   exact (aF ((hZ T).mono (by decide)) hr rfl T.m_moved T.F_moved.kp T.b_moved aD (ae (aa 2 rfl) (ae (aa 1 rfl) aj ac) ac) (.inl ⟨p.1,p.2,a,b,c,d,e,f,rfl,M,(sz p mp).1.mono (by decide),(sz p mp).2.mono (by decide),rfl⟩))
  exact rfl
 ·have hk:0 < (pts.map pu).length:=by rw [List.length_map]; exact List.length_pos_iff.mpr hne
  refine af (pW (C:=T.c_NoMove) (ql ((df T).mono (by decide)) hr rfl T.m_field T.F_field.kp T.b_field aD (pH (k:=0) (ys:=[]) rfl rfl rfl lV rfl (blk (ai aQ) ["land","move","P"] [2] rfl rfl rfl rfl (by decide+kernel)) (eC (aa 0 rfl) (.inl rfl)) (fun _ _ _ _=> dg (i:=2) ck.nd rfl (Or.inl rfl)) (fu (by decide)) hk (Nat.zero_le _) ?csz (fun _ _=> trivial) (fun _ _ _ _ _ _ _ _ z=> absurd z (Nat.not_lt_zero _)) ?hv) e8) ?_)
  case csz=> rw [List.length_map]; exact Nat.le_of_lt (aH (by omega))
  case hv=>
   intro C s' H' fp EE x hx pa
   exact kU ((hZ T).mono (by decide)) hr rfl T.m_moved T.F_moved.kp T.b_moved pa (ae (aa 2 rfl) (ae (aa 1 rfl) aj ac) ac) (.inr ⟨x,u,rfl,hu,hm,rfl⟩)
  exact rfl
def pA (pts:List P2):Bool:=!pts.isEmpty && decide (pts=bS pts)
def mw:List U→Out→Prop:=fun us o=> ∃ pts:List P2,us=[lp pts]∧(∀ p∈pts,Szp 5000 p)∧pts.length < 64∧o=.val (.bl (pA pts))
set_option maxHeartbeats 8000000 in
theorem eO (T:Txt K mg):a_ P w K mg base (CXF P w) 5 T.a_is_field T.d_is_field ["points"] (spU K (mw)):=by
 refine bB T.F_is_field iQ (fun us o h=> ?_) (fun cdv A outer s H E O us o hr h=> ?_)
 ·obtain ⟨pts,rfl,sz,hl,rfl⟩:=h
  rfl
 obtain ⟨pts,rfl,sz,hl,rfl⟩:=h
 refine Ws.nox ?_
 have hml:((pts.map pu).length:Int)=(pts.length:Int):=by rw [List.length_map]
 by_cases hne:pts=[]
 ·subst hne
  refine af (aJ (o3 (gh gD (ak (dZ rfl) rfl T.z_len PySem.boot_len (ae (aa 0 rfl) aj ac)) ag) rfl) ?_)
  exact rfl
 ·have hpos:0 < pts.length:=List.length_pos_iff.mpr hne
  refine af (aJ (dv (gh gD (ak (dZ rfl) rfl T.z_len PySem.boot_len (ae (aa 0 rfl) aj ac)) ag) (fun hz=> (dU (gh (o5 (fC hr) (eK _) (eK _)) (aa 0 rfl) (EvN.ev (cm ((df T).mono (by decide)) hr rfl T.m_field T.F_field.kp T.b_field aD (ae (aa 0 rfl) aj ac) ⟨pts,rfl,sz,hl,by rw [if_neg hne]⟩)))))) ?_)
  refine vB ?_
  rw [hml,decide_eq_true (show (pts.length:Int) > 0 by omega),fh]
  unfold pA
  rw [show pts.isEmpty=false by cases pts with | nil=> exact absurd rfl hne | cons a r=> rfl]
  rfl
end
section
variable {P:Program} {w:World} {K:PySem.W.Frag} {mg:Str→Option Value} {base:Heap}
abbrev T40:Int:=10 ^ (40:Int).toNat
abbrev T20:Int:=10 ^ (20:Int).toNat
theorem t40:0≤T40∧Sz 140 T40:=by decide+kernel
theorem t20:0≤T20∧Sz 70 T20:=by decide+kernel
def cR (w c:Int):P2:=if w=1 then (grt c T40,grt (c / 7) T40) else (c % 13 - 6,c / 13 % 13 - 6)
theorem kY (w c:Int):Szp 200 (cR w c):=by
 unfold cR
 have small:∀ {x:Int},-100 < x→x < 100→Sz 200 x:=fun h1 h2=> Sz.mono (m:=12) (by unfold Sz; omega) (by decide)
 split
 ·exact ⟨(gN _ t40.1 t40.2).mono (by decide),(gN _ t40.1 t40.2).mono (by decide)⟩
 ·exact ⟨small (by omega) (by omega),small (by omega) (by omega)⟩
def dP (ns:List Int):Nat:=(max 4 (min ns.length 62)) - 3
def iJ (ns:List Int):List P2:=(List.range (dP ns)).map fun (i:Nat)=> cR (cel ns 0 % 3) (cel ns (3+(i:Int)))
theorem iG (ns:List Int):1≤dP ns∧dP ns≤59:=by unfold dP; omega
theorem kF (ns:List Int):(iJ ns).length=dP ns:=by unfold iJ; simp
theorem ls (ns:List Int):∀ p∈iJ ns,Szp 200 p:=fun p hp=> by
 obtain ⟨i,_,rfl⟩:=List.mem_map.mp hp
 exact kY _ _
def kl:List U→Out→Prop:=fun us o=> ∃ (ns:List Int),us=[.scr (ns.map U.int)]∧ns.length≤63∧(∀ m∈ns,Sz 1048576 m)∧o=.new ((iJ ns).map pu)
set_option maxHeartbeats 8000000 in
theorem gQ (T:Txt K mg):a_ P w K mg base (CXF P w) 2 T.a__law_land T.d__law_land ["script"] (spU K (kl)):=by
 refine bB T.F__law_land aV (fun us o h=> ?_) (fun cdv A outer s H E O us o hr h=> ?_)
 ·obtain ⟨ns,rfl,hl,hB,rfl⟩:=h
  rfl
 obtain ⟨ns,rfl,hl,hB,rfl⟩:=h
 refine Ws.nox ?_
 have hm:((ns.map U.int).length:Int)=(ns.length:Int):=by rw [List.length_map]
 have hN:=iG ns
 have c0:=fk hB (k:=0) (by decide) (by decide)
 have hmm:(if (if (62:Int) < ((ns.map U.int).length:Int) then (62:Int) else ((ns.map U.int).length:Int)) > 4 then (if (62:Int) < ((ns.map U.int).length:Int) then (62:Int) else ((ns.map U.int).length:Int)) else 4)=(dP ns:Int)+3:=by
  rw [hm]; unfold dP
  split <;> split <;> omega
 refine af (fO (i:=1) aV.nd rfl (Or.inl rfl) (bj aN) ?_)
 refine af (g7 (fun i:Nat=> [some (.val (.scr (ns.map U.int))),some (.own (((List.range i).map fun (j:Nat)=> cR (cel ns 0 % 3) (cel ns (3+(j:Int)))).map pu)),none,none,none,none]) (fun i j=> i=j) rfl PassesOwn.never (mO rfl T.z_range (ae ag (ae (ak (qv rfl) rfl T.z_max boot_max (ae ag (ae (ak (qD rfl) rfl T.z_min boot_min (ae (ak (dZ rfl) rfl T.z_len PySem.boot_len (ae (aa 0 rfl) aj ac)) (ae ag aj aG) aB)) aj aB) aG)) aj aB) aG) (by rw [hmm]; omega)) ?h0 ?hs ?hd)
 case h0=> exact ⟨0,rfl,rfl,rfl,trivial⟩
 case hs=>
  rintro H0 i x _ hx rfl
  rw [hmm] at hx
  obtain ⟨hi,rfl⟩:=jg hx
  have hi':i < 59:=by omega
  refine ⟨_,(gX (i:=2) aV.nd rfl (Or.inl rfl)),?_⟩
  have cz:=fk hB (k:=3+(i:Int)) (by omega) (by omega)
  refine af (be (i:=3) aV.nd rfl (Or.inl rfl) (aF ((aX T).mono (by decide)) hr rfl T.m__law_cell T.F__law_cell.kp T.b__law_cell aD (ae (aa 0 rfl) (ae (aa 2 rfl) aj ac) ac) ⟨ns,_,rfl,hl,by omega,by omega,rfl⟩) ?_)
  generalize hc:cel ns (3+(i:Int))=c at *
  have cz7:Sz 1048576 (c / 7):=cz.ediv
  have room:(((List.range i).map fun (j:Nat)=> cR (cel ns 0 % 3) (cel ns (3+(j:Int)))).map pu).length < 1000:=by simp; omega
  have fin:∀ {x y:Int},cR (cel ns 0 % 3) c=(x,y)→((List.range i).map fun (j:Nat)=> cR (cel ns 0 % 3) (cel ns (3+(j:Int)))).map pu++[pt x y]=((List.range (i+1)).map fun (j:Nat)=> cR (cel ns 0 % 3) (cel ns (3+(j:Int)))).map pu:=fun {x y} e=> by
   rw [List.range_succ,List.map_append,List.map_append]
   simp only [List.map_cons,List.map_nil]
   rw [hc,e]
  refine af (be (i:=4) aV.nd rfl (Or.inl rfl) (bW (eL (aa 3 rfl) ag (by walk_at "mod")) ag) ?_)
  refine af (be (i:=5) aV.nd rfl (Or.inl rfl) (bW (eL (iK (aa 3 rfl) ag (by walk_at "div")) ag (by walk_at "mod")) ag) ?_)
  by_cases h1:cel ns 0 % 3=1
  ·refine af (cX (bg gA (eL (aF ((aX T).mono (by decide)) hr rfl T.m__law_cell T.F__law_cell.kp T.b__law_cell aD (ae (aa 0 rfl) (ae ag aj aG) ac) ⟨ns,0,rfl,hl,by decide,by decide,rfl⟩) ag (by walk_at "mod")) ag) (decide_eq_true h1) ?_)
   refine af (be (i:=4) aV.nd rfl (Or.inl rfl) (aF ((bU T).mono (by decide)) hr rfl T.m__law_great T.F__law_great.kp T.b__law_great aD (ae (aa 3 rfl) (ae (gv ag ag ⟨by decide,by decide,by decide⟩) aj aZ) ac) ⟨_,_,rfl,cz,by decide+kernel,by decide+kernel,rfl⟩) ?_)
   refine af (be (i:=5) aV.nd rfl (Or.inl rfl) (aF ((bU T).mono (by decide)) hr rfl T.m__law_great T.F__law_great.kp T.b__law_great aD (ae (iK (aa 3 rfl) ag (by walk_at "div")) (ae (gv ag ag ⟨by decide,by decide,by decide⟩) aj aZ) aZ) ⟨_,_,rfl,cz7,by decide+kernel,by decide+kernel,rfl⟩) (bp ?_))
   refine af (cA 1 rfl (bM (ah (aa 4 rfl) (ah (aa 5 rfl) aN ac) ac)) (aH (Nat.le_of_lt room)) (bp ?_))
   refine ⟨i+1,rfl,rfl,?_,trivial⟩
   exact congrArg (fun l=> some (Sl.own l)) (fin (show cR (cel ns 0 % 3) c=(grt c T40,grt (c / 7) T40) by unfold cR; rw [if_pos h1]))
  ·refine af (fS (bg gA (eL (aF ((aX T).mono (by decide)) hr rfl T.m__law_cell T.F__law_cell.kp T.b__law_cell aD (ae (aa 0 rfl) (ae ag aj aG) ac) ⟨ns,0,rfl,hl,by decide,by decide,rfl⟩) ag (by walk_at "mod")) ag) (decide_eq_false h1) (bp ?_))
   refine af (cA 1 rfl (bM (ah (aa 4 rfl) (ah (aa 5 rfl) aN ac) ac)) (aH (Nat.le_of_lt room)) (bp ?_))
   refine ⟨i+1,rfl,rfl,?_,trivial⟩
   exact congrArg (fun l=> some (Sl.own l)) (fin (show cR (cel ns 0 % 3) c=(c % 13 - 6,c / 13 % 13 - 6) by unfold cR; rw [if_neg h1]))
 case hd=>
  rintro q ps hq hps
  refine fM ?_ hps
  rw [dG,hmm,show ((dP ns:Int)+3 - 3).toNat=dP ns by omega] at hq
  subst hq
  refine af (fE 1 rfl ?_)
  exact rfl
end
section
variable {P:Program} {w:World} {K:PySem.W.Frag} {mg:Str→Option Value} {base:Heap}
def bad (m n e f o:Int):List U:=[mv 1 m n (1+m * n+o) e f,mv 1 m n (m * n - 1 - o) e f,.tup [.int 1,.int m,.int n,.int (1+m * n),.int e],.tup [.int 1,.int m,.int n,.int (1+m * n),.int e,.int f,.int 0],.lst [.int 1,.int m,.int n,.int (1+m * n),.int e,.int f],mv 1 m n (m * n) e f]
def g_ (m n e f:Int):List U:=[.tup [.bl true,.int m,.int n,.int (1+m * n),.int e,.int f],.tup [.int 1,.int m,.int n,.int (1+m * n),.int e,.str (Str.ofString "0")],.tup [.int e,.int f],.non,.str (Str.ofString "1 0 0 1 0 0")]
theorem p5 {m n e f o:Int} (sm:Sz 500 m) (sn:Sz 10 n) (so:Sz 500 o) (h0:1≤o):∀ u∈bad m n e f o++g_ m n e f,dI u∧cJ u=false:=by
 have smn:Sz 510 (m * n):=L2.Sz.mul sm sn
 have k1:Sz 30000 1:=by decide
 have km:Sz 30000 m:=sm.mono (by decide)
 have kn:Sz 30000 n:=sn.mono (by decide)
 have kd:Sz 30000 (m * n):=smn.mono (by decide)
 have kd1:Sz 30000 (1+m * n):=(L2.Sz.add' (m:=510) (n:=510) (by decide) smn).mono (by decide)
 have kd2:Sz 30000 (1+m * n+o):=(L2.Sz.add' (m:=600) (n:=600) ((L2.Sz.add' (m:=510) (n:=510) (by decide) smn).mono (by decide)) (so.mono (by decide))).mono (by decide)
 have kd3:Sz 30000 (m * n - 1 - o):=by
  have:m * n - 1 - o=-(1+o)+m * n:=by omega
  rw [this]
  refine (L2.Sz.add' (m:=600) (n:=600) ?_ (smn.mono (by decide))).mono (by decide)
  have:=(L2.Sz.add' (m:=510) (n:=510) (show Sz 510 1 by decide) (so.mono (by decide))).mono (show _≤600 by decide)
  unfold Sz at this ⊢
  omega
 have other:∀ {u:U},(∀ xs,u≠.tup xs)→(∀ m,u≠.ty m)→dI u∧cJ u=false:=fun {u} h1 h2=> by
  refine ⟨⟨h2,fun xs e=> absurd e (h1 xs),fun xs e=> absurd e (h1 xs),fun a b c d e f z=> absurd z (h1 _)⟩,?_⟩
  unfold cJ
  split
  ·exact absurd rfl (h1 _)
  ·rfl
 have tup:∀ {xs:List U},xs.length≤100→(∀ x∈xs,∀ m,x≠.ty m)→(xs.length≠6∨xs.all isInt=false)→dI (.tup xs)∧cJ (.tup xs)=false:=fun {xs} h1 h2 h3=> by
  refine ⟨⟨fun m e=> (by cases e),fun ys e=> (by cases e; exact h2),fun ys e=> (by cases e; exact h1),fun a b c d e f z=> ?_⟩,?_⟩
  ·cases z
   rcases h3 with h | h
   ·simp at h
   ·simp [isInt] at h
  ·rcases h3 with h | h
   ·exact io h
   ·exact hX h
 have mvf:∀ {a b c d e f:Int},Sz 30000 a→Sz 30000 b→Sz 30000 c→Sz 30000 d→a * d - b * c≠1→a * d - b * c≠-1→dI (mv a b c d e f)∧cJ (mv a b c d e f)=false:=fun {a b c d e f} ha hb hc hd n1 n2=> by
  refine ⟨dI.of ha hb hc hd,?_⟩
  show (decide (a * d - b * c=1) || decide (a * d - b * c=-1))=false
  rw [decide_eq_false n1,decide_eq_false n2]; rfl
 intro u hu
 unfold bad g_ at hu
 simp only [List.cons_append,List.nil_append,List.mem_cons,List.not_mem_nil,or_false] at hu
 rcases hu with rfl | rfl | rfl | rfl | rfl | rfl | rfl | rfl | rfl | rfl | rfl
 ·exact mvf k1 km kn kd2 (by rw [Int.one_mul]; omega) (by rw [Int.one_mul]; omega)
 ·exact mvf k1 km kn kd3 (by rw [Int.one_mul]; omega) (by rw [Int.one_mul]; omega)
 ·exact tup (by simp) (by intro x hx m e; subst e; simp at hx) (.inl (by simp))
 ·exact tup (by simp) (by intro x hx m e; subst e; simp at hx) (.inl (by simp))
 ·exact other (by intro xs e; cases e) (by intro m e; cases e)
 ·exact mvf k1 km kn kd (by rw [Int.one_mul]; omega) (by rw [Int.one_mul]; omega)
 ·exact tup (by simp) (by intro x hx m e; subst e; simp at hx) (.inr rfl)
 ·exact tup (by simp) (by intro x hx m e; subst e; simp at hx) (.inr rfl)
 ·exact tup (by simp) (by intro x hx m e; subst e; simp at hx) (.inl (by simp))
 ·exact other (by intro xs e; cases e) (by intro m e; cases e)
 ·exact other (by intro xs e; cases e) (by intro m e; cases e)
structure Gd (ns:List Int) (m n e f o:Int):Prop where
 m:m=grt (cel ns 0 / 3) T20
 n:n=cel ns 1 % 7 - 3
 e:e=grt (cel ns 1 / 7) T40
 f:f=cel ns 2 % T40
 o:o=1+cel ns 2 % T20
def ja:List U→Out→Prop:=fun us o=> ∃ (ns:List Int) (m n e f q:Int),us=[.scr (ns.map U.int)]∧ns.length≤63∧(∀ m∈ns,Sz 1048576 m)∧Gd ns m n e f q∧o=.val (.lst (mv 1 m n (1+m * n) e f::(bad m n e f q++g_ m n e f)))
theorem Gd.sz {ns:List Int} {m n e f o:Int} (G:Gd ns m n e f o):Sz 70 m∧Sz 10 n∧Sz 140 e∧Sz 140 f∧Sz 80 o∧1≤o:=by
 obtain ⟨rfl,rfl,rfl,rfl,rfl⟩:=G
 have h20:(0:Int) < T20:=by decide+kernel
 have h40:(0:Int) < T40:=by decide+kernel
 have a1:=Int.emod_nonneg (cel ns 2) (Int.ne_of_gt h20)
 have a2:=Int.emod_lt_of_pos (cel ns 2) h20
 have b1:=Int.emod_nonneg (cel ns 2) (Int.ne_of_gt h40)
 have b2:=Int.emod_lt_of_pos (cel ns 2) h40
 have s20:Sz 80 (1+T20):=by decide+kernel
 refine ⟨gN _ t20.1 t20.2,by unfold Sz; omega,gN _ t40.1 t40.2,Sz.le ?_ t40.2,Sz.le ?_ s20,by omega⟩
 ·generalize cel ns 2 % T40=z at *
  generalize T40=y at *
  omega
 ·generalize cel ns 2 % T20=z at *
  generalize T20=y at *
  omega
set_option maxHeartbeats 8000000 in
theorem fW (T:Txt K mg):a_ P w K mg base (CXF P w) 2 T.a__law_moves T.d__law_moves ["script"] (spU K (ja)):=by
 refine bB T.F__law_moves aP (fun us o h=> ?_) (fun cdv A outer s H E O us o hr h=> ?_)
 ·obtain ⟨ns,m,n,e,f,q,rfl,hl,hB,G,rfl⟩:=h
  rfl
 obtain ⟨ns,m,n,e,f,q,rfl,hl,hB,G,rfl⟩:=h
 refine Ws.nox ?_
 obtain ⟨sm,sn,se,sf,so,o1⟩:=G.sz
 obtain ⟨rm,rn,re,rf,ro⟩:=G
 have c0:=fk hB (k:=0) (by decide) (by decide)
 have c1:=fk hB (k:=1) (by decide) (by decide)
 have c2:=fk hB (k:=2) (by decide) (by decide)
 have c03:Sz 1048576 (cel ns 0 / 3):=c0.ediv
 have c17:Sz 1048576 (cel ns 1 / 7):=c1.ediv
 refine af (be (i:=1) aP.nd rfl (Or.inl rfl) (aF ((bU T).mono (by decide)) hr rfl T.m__law_great T.F__law_great.kp T.b__law_great aD (ae (iK (aF ((aX T).mono (by decide)) hr rfl T.m__law_cell T.F__law_cell.kp T.b__law_cell aD (ae (aa 0 rfl) (ae ag aj aG) ac) ⟨ns,0,rfl,hl,by decide,by decide,rfl⟩) ag (by walk_at "div")) (ae (gv ag ag ⟨by decide,by decide,by decide⟩) aj aZ) aZ) ⟨_,_,rfl,c03,by decide+kernel,by decide+kernel,rfl⟩) ?_)
 refine af (be (i:=2) aP.nd rfl (Or.inl rfl) (bW (eL (aF ((aX T).mono (by decide)) hr rfl T.m__law_cell T.F__law_cell.kp T.b__law_cell aD (ae (aa 0 rfl) (ae ag aj aG) ac) ⟨ns,1,rfl,hl,by decide,by decide,rfl⟩) ag (by walk_at "mod")) ag) ?_)
 refine af (be (i:=3) aP.nd rfl (Or.inl rfl) (aF ((bU T).mono (by decide)) hr rfl T.m__law_great T.F__law_great.kp T.b__law_great aD (ae (iK (aF ((aX T).mono (by decide)) hr rfl T.m__law_cell T.F__law_cell.kp T.b__law_cell aD (ae (aa 0 rfl) (ae ag aj aG) ac) ⟨ns,1,rfl,hl,by decide,by decide,rfl⟩) ag (by walk_at "div")) (ae (gv ag ag ⟨by decide,by decide,by decide⟩) aj aZ) aZ) ⟨_,_,rfl,c17,by decide+kernel,by decide+kernel,rfl⟩) ?_)
 refine af (be (i:=4) aP.nd rfl (Or.inl rfl) (eL (aF ((aX T).mono (by decide)) hr rfl T.m__law_cell T.F__law_cell.kp T.b__law_cell aD (ae (aa 0 rfl) (ae ag aj aG) ac) ⟨ns,2,rfl,hl,by decide,by decide,rfl⟩) (gv ag ag ⟨by decide,by decide,by decide⟩) (by decide+kernel)) ?_)
 refine af (be (i:=5) aP.nd rfl (Or.inl rfl) (bN ag (eL (aF ((aX T).mono (by decide)) hr rfl T.m__law_cell T.F__law_cell.kp T.b__law_cell aD (ae (aa 0 rfl) (ae ag aj aG) ac) ⟨ns,2,rfl,hl,by decide,by decide,rfl⟩) (gv ag ag ⟨by decide,by decide,by decide⟩) (by decide+kernel))) ?_)
 rw [← rm,← rn,← re,← rf,← ro]
 clear rm rn re rf ro
 have smn:Sz 90 (m * n):=L2.Sz.mul sm (sn.mono (show 10≤20 by decide))
 refine af (be (i:=6) aP.nd rfl (Or.inl rfl) (bM (ah ag (ah (aa 1 rfl) (ah (aa 2 rfl) (ah (bN ag (bi (aa 1 rfl) (aa 2 rfl) (by walk_at "mul"))) (ah (aa 3 rfl) (ah (aa 4 rfl) aN ac) ac) aZ) ac) ac) aG)) ?_)
 show Ws _ _ _ _ _ _ [some (.val (.scr (ns.map U.int))),some (.val (.int m)),some (.val (.int n)),some (.val (.int e)),some (.val (.int f)),some (.val (.int q)),some (.val (mv 1 m n (1+m * n) e f)),none]
 refine af ?_
 generalize hE:(Expr.List _ _)=E0
 refine fO (i:=7) (xs:=[mv 1 m n (1+m * n+q) e f,mv 1 m n (m * n - 1 - q) e f,.tup [.int 1,.int m,.int n,.int (1+m * n),.int e],.tup [.int 1,.int m,.int n,.int (1+m * n),.int e,.int f,.int 0],.lst [.int 1,.int m,.int n,.int (1+m * n),.int e,.int f]]) aP.nd rfl (Or.inl rfl) ?_ ?_ (by subst hE; rfl) (.inl rfl)
 ·subst hE
  refine EvM.ev ?_
  refine rL ?_ (show 5≤sizeLine by decide)
  refine ah (bM (ah ag (ah (aa 1 rfl) (ah (aa 2 rfl) (ah (bN (bN ag (bi (aa 1 rfl) (aa 2 rfl) (by walk_at "mul"))) (aa 5 rfl)) (ah (aa 3 rfl) (ah (aa 4 rfl) aN ac) ac) aZ) ac) ac) aG)) ?_ fc
  refine ah (bM (ah ag (ah (aa 1 rfl) (ah (aa 2 rfl) (ah (bW (bW (bi (aa 1 rfl) (aa 2 rfl) (by walk_at "mul")) ag) (aa 5 rfl)) (ah (aa 3 rfl) (ah (aa 4 rfl) aN ac) ac) aZ) ac) ac) aG)) ?_ fc
  refine ah (show Ev _ _ _ _ _ (.tup (jc [.int 1,.int m,.int n,.int (1+m * n),.int e,.int f] none (some 5))) from me (aa 6 rfl) eG (eH ag) (show ¬ (HT.sIx 6 0 none=0∧HT.sIx 6 6 (some 5)=6) by decide)) ?_ dB
  refine ah (show Ev _ _ _ _ _ (.tup ([.int 1,.int m,.int n,.int (1+m * n),.int e,.int f]++[.int 0])) from p8 (aa 6 rfl) (bM (ah ag aN aG)) (by simp) (by simp) (show 6+1≤sizeLine by decide)) ?_ aZ
  refine ah (EvN.ev (jO (mz rfl) rfl T.z_list boot_list (ae (aa 6 rfl) aj ac))) ?_ aB
  exact aN
 clear hE
 show Ws _ _ _ _ _ _ [some (.val (.scr (ns.map U.int))),some (.val (.int m)),some (.val (.int n)),some (.val (.int e)),some (.val (.int f)),some (.val (.int q)),some (.val (mv 1 m n (1+m * n) e f)),some (.own [mv 1 m n (1+m * n+q) e f,mv 1 m n (m * n - 1 - q) e f,.tup [.int 1,.int m,.int n,.int (1+m * n),.int e],.tup [.int 1,.int m,.int n,.int (1+m * n),.int e,.int f,.int 0],.lst [.int 1,.int m,.int n,.int (1+m * n),.int e,.int f]])]
 refine af (cA 7 rfl (bM (ah ag (ah (aa 1 rfl) (ah (aa 2 rfl) (ah (bi (aa 1 rfl) (aa 2 rfl) (by walk_at "mul")) (ah (aa 3 rfl) (ah (aa 4 rfl) aN ac) ac) aZ) ac) ac) aG)) (aH (show 5≤1000 by decide)) ?_)
 refine o4 7 rfl ?_
 show Ws _ _ _ _ _ _ [some (.val (.scr (ns.map U.int))),some (.val (.int m)),some (.val (.int n)),some (.val (.int e)),some (.val (.int f)),some (.val (.int q)),some (.val (mv 1 m n (1+m * n) e f)),some (.val (.lst (bad m n e f q)))]
 refine af (aJ (u:=.lst (([mv 1 m n (1+m * n) e f]++bad m n e f q)++g_ m n e f)) (EvN.ev (gg (xs:=[mv 1 m n (1+m * n) e f]++bad m n e f q) (ys:=g_ m n e f) (EvN.ev (gg (xs:=[mv 1 m n (1+m * n) e f]) (ys:=bad m n e f q) (EvD.ev ?g1) (aa 7 rfl) (show 1+6≤sizeLine by decide))) (EvD.ev ?g2) (show 7+5≤sizeLine by decide))) ?_)
 case g1=>
  refine dsp ?_ (show 1≤sizeLine by decide)
  exact ah (aa 6 rfl) aN ac
 case g2=>
  refine dsp ?_ (show 5≤sizeLine by decide)
  unfold g_
  refine ah (bM (ah cL (ah (aa 1 rfl) (ah (aa 2 rfl) (ah (bN ag (bi (aa 1 rfl) (aa 2 rfl) (by walk_at "mul"))) (ah (aa 3 rfl) (ah (aa 4 rfl) aN ac) ac) aZ) ac) ac) aG)) ?_ fc
  refine ah (bM (ah ag (ah (aa 1 rfl) (ah (aa 2 rfl) (ah (bN ag (bi (aa 1 rfl) (aa 2 rfl) (by walk_at "mul"))) (ah (aa 3 rfl) (ah jA aN aG) ac) aZ) ac) ac) aG)) ?_ fc
  refine ah (bM (ah (aa 3 rfl) (ah (aa 4 rfl) aN ac) ac)) ?_ fc
  refine ah qz ?_ aG
  exact ah jA aN aG
 exact rfl
end
section
variable {P:Program} {w:World} {K:PySem.W.Frag} {mg:Str→Option Value} {base:Heap}
theorem cS:bootBuiltins "ValueError"=some (.type "ValueError"):=by decide+kernel
def lz:List U→Out→Prop:=fun us o=> us=[lp []]∧o=.val (.bl true)
set_option maxHeartbeats 8000000 in
theorem cy (T:Txt K mg):a_ P w K mg base (CXF P w) 5 T.a__law_no_field T.d__law_no_field ["points"] (spU K (lz)):=by
 refine bB T.F__law_no_field bz (fun us o h=> ?_) (fun cdv A outer s H E O us o hr h=> ?_)
 ·obtain ⟨rfl,rfl⟩:=h
  rfl
 obtain ⟨rfl,rfl⟩:=h
 refine Ws.nox ?_
 refine af (be (i:=1) bz.nd rfl (Or.inl rfl) (EvN.ev (bj aN)) ?_)
 refine af (gz rfl rfl ((df T).mono (by decide)) hr rfl T.m_field T.F_field.kp T.b_field (ae (aa 0 rfl) aj ac) rfl T.mx_StakeError T.ty_StakeError T.bx_StakeError bz.nd (i:=2) rfl rfl ⟨[],rfl,by simp,by decide,rfl⟩ T.sub_NoField_StakeError (T.xc_NoField) (fun ea=> ?_))
 refine af (be (i:=1) bz.nd rfl (Or.inl rfl) (EvN.ev (bj (ah (ak (gq T.kit_NoField_ValueError) rfl T.z_isinstance boot_isinstance (ae (aa 2 rfl) (ae (bY rfl T.z_ValueError cS) aj ac) ac)) (ah (bo T.kit_NoField_NoField rfl T.z_isinstance boot_isinstance (aa 2 rfl) rfl T.mx_NoField) (ah (bo T.kit_NoField_NoMove rfl T.z_isinstance boot_isinstance (aa 2 rfl) rfl T.mx_NoMove) (ah (bo T.kit_NoField_NoNumber rfl T.z_isinstance boot_isinstance (aa 2 rfl) rfl T.mx_NoNumber) (ah (bo T.kit_NoField_Flat rfl T.z_isinstance boot_isinstance (aa 2 rfl) rfl T.mx_Flat) (ah (bo T.kit_NoField_TooMany rfl T.z_isinstance boot_isinstance (aa 2 rfl) rfl T.mx_TooMany) (ah (bo T.kit_NoField_NotThere rfl T.z_isinstance boot_isinstance (aa 2 rfl) rfl T.mx_NotThere) (ah (bo T.kit_NoField_NoWedge rfl T.z_isinstance boot_isinstance (aa 2 rfl) rfl T.mx_NoWedge) (ah (bo T.kit_NoField_NoHeart rfl T.z_isinstance boot_isinstance (aa 2 rfl) rfl T.mx_NoHeart) (ah (bo T.kit_NoField_NoText rfl T.z_isinstance boot_isinstance (aa 2 rfl) rfl T.mx_NoText) (ah (bo T.kit_NoField_NoName rfl T.z_isinstance boot_isinstance (aa 2 rfl) rfl T.mx_NoName) (ah (bo T.kit_NoField_NoRow rfl T.z_isinstance boot_isinstance (aa 2 rfl) rfl T.mx_NoRow) (ah (bo T.kit_NoField_TooGreat rfl T.z_isinstance boot_isinstance (aa 2 rfl) rfl T.mx_TooGreat) aN aB) aB) aB) aB) aB) aB) aB) aB) aB) aB) aB) aB) aB))) (bp ?_))
 show Ws _ _ _ _ _ _ [some (.val (lp [])),some (.val (.lst [.bl true,.bl true,.bl false,.bl false,.bl false,.bl false,.bl false,.bl false,.bl false,.bl false,.bl false,.bl false,.bl false])),none]
 refine af (aJ (gh (o5 (fC hr) (by walk_at "ok") (by walk_at "ok")) (aa 1 rfl) (EvN.ev (gg (EvN.ev (bj (ah cL (ah cL aN aG) aG))) (EvN.ev (mC (EvN.ev (bj (ah cL aN aG))) ag (by decide) (by decide) (Nat.le_of_lt (aH (by decide))))) (by rw [List.length_replicate]; exact Nat.le_of_lt (aH (by decide)))))) ?_)
 exact rfl
def mI:List U→Out→Prop:=fun us o=> ∃ (pts:List P2) (u:U),us=[lp pts,u]∧dI u∧cJ u=false∧pts≠[]∧pts.length < 64∧o=.val (.bl true)
set_option maxHeartbeats 8000000 in
theorem eR (T:Txt K mg):a_ P w K mg base (CXF P w) 6 T.a__law_no_move T.d__law_no_move ["land","thing"] (spU K (mI)):=by
 refine bB T.F__law_no_move bD (fun us o h=> ?_) (fun cdv A outer s H E O us o hr h=> ?_)
 ·obtain ⟨pts,u,rfl,hu,hn,hne,hl,rfl⟩:=h
  rfl
 obtain ⟨pts,u,rfl,hu,hn,hne,hl,rfl⟩:=h
 refine Ws.nox ?_
 refine af (be (i:=2) bD.nd rfl (Or.inl rfl) (EvN.ev (bj aN)) ?_)
 refine af (gz rfl rfl ((dc T).mono (by decide)) hr rfl T.m_field_moved T.F_field_moved.kp T.b_field_moved (ae (aa 0 rfl) (ae (aa 1 rfl) aj ac) ac) rfl T.mx_StakeError T.ty_StakeError T.bx_StakeError bD.nd (i:=3) rfl rfl (.inr ⟨pts,u,rfl,hu,hn,hne,hl,rfl⟩) T.sub_NoMove_StakeError (T.xc_NoMove) (fun ea=> ?_))
 refine af (be (i:=2) bD.nd rfl (Or.inl rfl) (EvN.ev (bj (ah (ak (gq T.kit_NoMove_ValueError) rfl T.z_isinstance boot_isinstance (ae (aa 3 rfl) (ae (bY rfl T.z_ValueError cS) aj ac) ac)) (ah (bo T.kit_NoMove_NoMove rfl T.z_isinstance boot_isinstance (aa 3 rfl) rfl T.mx_NoMove) (ah (bo T.kit_NoMove_NoField rfl T.z_isinstance boot_isinstance (aa 3 rfl) rfl T.mx_NoField) (ah (bo T.kit_NoMove_NoNumber rfl T.z_isinstance boot_isinstance (aa 3 rfl) rfl T.mx_NoNumber) (ah (bo T.kit_NoMove_Flat rfl T.z_isinstance boot_isinstance (aa 3 rfl) rfl T.mx_Flat) (ah (bo T.kit_NoMove_TooMany rfl T.z_isinstance boot_isinstance (aa 3 rfl) rfl T.mx_TooMany) (ah (bo T.kit_NoMove_NotThere rfl T.z_isinstance boot_isinstance (aa 3 rfl) rfl T.mx_NotThere) (ah (bo T.kit_NoMove_NoWedge rfl T.z_isinstance boot_isinstance (aa 3 rfl) rfl T.mx_NoWedge) (ah (bo T.kit_NoMove_NoHeart rfl T.z_isinstance boot_isinstance (aa 3 rfl) rfl T.mx_NoHeart) (ah (bo T.kit_NoMove_NoText rfl T.z_isinstance boot_isinstance (aa 3 rfl) rfl T.mx_NoText) (ah (bo T.kit_NoMove_NoName rfl T.z_isinstance boot_isinstance (aa 3 rfl) rfl T.mx_NoName) (ah (bo T.kit_NoMove_NoRow rfl T.z_isinstance boot_isinstance (aa 3 rfl) rfl T.mx_NoRow) (ah (bo T.kit_NoMove_TooGreat rfl T.z_isinstance boot_isinstance (aa 3 rfl) rfl T.mx_TooGreat) aN aB) aB) aB) aB) aB) aB) aB) aB) aB) aB) aB) aB) aB))) (bp ?_))
 show Ws _ _ _ _ _ _ [some (.val (lp pts)),some (.val u),some (.val (.lst [.bl true,.bl true,.bl false,.bl false,.bl false,.bl false,.bl false,.bl false,.bl false,.bl false,.bl false,.bl false,.bl false])),none]
 refine af (aJ (gh (o5 (fC hr) (by walk_at "ok") (by walk_at "ok")) (aa 2 rfl) (EvN.ev (gg (EvN.ev (bj (ah cL (ah cL aN aG) aG))) (EvN.ev (mC (EvN.ev (bj (ah cL aN aG))) ag (by decide) (by decide) (Nat.le_of_lt (aH (by decide))))) (by rw [List.length_replicate]; exact Nat.le_of_lt (aH (by decide)))))) ?_)
 exact rfl
end
section
variable {P:Program} {w:World} {K:PySem.W.Frag} {mg:Str→Option Value} {base:Heap}
theorem hU (p:P2):bS [p]=[p]:=by
 unfold bS
 rw [if_pos (show (ST.srt [p]).length=1 from rfl)]
 rfl
theorem oY:eqW (.lst []) (.lst [])=true:=by
 exact (fh [] []).trans (decide_eq_true rfl)
def gd (m n e f:Int) (p:P2):P2:=(p.1+m * p.2+e,n * p.1+(1+m * n) * p.2+f)
theorem oy (m n e f:Int):ap 1 m n (1+m * n) e f=gd m n e f:=by
 funext p
 unfold ap gd
 rw [Int.one_mul]
set_option maxHeartbeats 8000000 in
theorem pi (T:Txt K mg):a_ P w K mg base (CXF P w) 7 T.a_law T.d_law ["script"] (spU K (d4)):=by
 refine bB T.F_law ci (fun us o h=> ?_) (fun cdv A outer s H E O us o hr h=> ?_)
 ·obtain ⟨ns,rfl,h63,hB,rfl⟩:=h
  rfl
 obtain ⟨ns,rfl,h63,hB,rfl⟩:=h
 refine Ws.nox ?_
 have hN:=iG ns
 have hL:=kF ns
 have hS:=ls ns
 obtain ⟨m,n,e,f,q,G⟩:∃ m n e f q,Gd ns m n e f q:=⟨_,_,_,_,_,rfl,rfl,rfl,rfl,rfl⟩
 obtain ⟨sm,sn,se,sf,so,o1⟩:=G.sz
 refine af (be (i:=1) ci.nd rfl (Or.inl rfl) (EvN.ev (cm ((gQ T).mono (by decide)) hr rfl T.m__law_land T.F__law_land.kp T.b__law_land aD (ae (aa 0 rfl) aj ac) ⟨ns,rfl,h63,hB,rfl⟩)) ?_)
 generalize iJ ns=pts at *
 have pl:pts.length < 64:=by omega
 have pne:pts≠[]:=fun e=> by rw [e] at hL; simp at hL; omega
 have s5:∀ p∈pts,Szp 5000 p:=fun p hp=> ⟨(hS p hp).1.mono (by decide),(hS p hp).2.mono (by decide)⟩
 refine af (be (i:=2) ci.nd rfl (Or.inl rfl) (EvN.ev (cm ((cQ T).mono (by decide)) hr rfl T.m__law_corners T.F__law_corners.kp T.b__law_corners aD (ae (aa 1 rfl) aj ac) ⟨pts,rfl,s5,pl,rfl⟩)) ?_)
 have cne:bS pts≠[]:=nP pne
 have clen:(bS pts).length < 64:=Nat.lt_of_le_of_lt (oa _) pl
 have csz:∀ p∈bS pts,Szp 200 p:=fun p hp=> hS p (ij _ p hp)
 generalize bS pts=land at *
 refine af (fO (i:=3) ci.nd rfl (Or.inl rfl) (bj aN) ?_)
 refine af (fS (lN 3 rfl (Tw.t (iC (cx (cD (aF ((cy T).mono (by decide)) hr rfl T.m__law_no_field T.F__law_no_field.kp T.b__law_no_field aD (ae (aa 3 rfl) aj ac) ⟨rfl,rfl⟩))) (fun hz=> (iC (bg (n8 (fC hr) (by walk_at "ok") (by walk_at "ok")) (aa 3 rfl) (EvN.ev (bj aN))) (fun hz=> (iC (bg j3 (aF ((eO T).mono (by decide)) hr rfl T.m_is_field T.F_is_field.kp T.b_is_field aD (ae (EvN.ev (bj aN)) aj mU) ⟨[],rfl,by simp,by decide,rfl⟩) cL) (fun hz=> (jD (cx (cD (aF ((cy T).mono (by decide)) hr rfl T.m__law_no_field T.F__law_no_field.kp T.b__law_no_field aD (ae (EvN.ev (bj aN)) aj mU) ⟨rfl,rfl⟩)))))))))))) (by rw [oY]; rfl) (bp ?_))
 obtain ⟨p0,rest,hp⟩:∃ p0 rest,pts=p0::rest:=by
  cases pts with
  | nil=> exact absurd rfl pne
  | cons a r=> exact ⟨a,r,rfl⟩
 have a0:atI (pts.map pu) 0=some (pu p0):=mF (i:=0) rfl (by rw [hp]; rfl)
 have sp0:Szp 5000 p0:=s5 p0 (by rw [hp]; exact List.mem_cons_self)
 refine af (cA 3 rfl (bc (aa 1 rfl) ag rfl a0) (aH (show 0≤1000 by decide)) ?_)
 show Ws _ _ _ _ _ _ [some (.val (.scr (ns.map U.int))),some (.val (lp pts)),some (.val (lp land)),some (.own [pu p0]),none,none,none,none,none,none]
 refine af (fS (lN 3 rfl (Tw.t (iC (bg (n8 (fC hr) (eK [p0]) (eK [p0])) (EvN.ev (cm ((df T).mono (by decide)) hr rfl T.m_field T.F_field.kp T.b_field aD (ae (aa 3 rfl) aj ac) ⟨[p0],rfl,by simpa using sp0,(by simp),by rw [if_neg (by simp),hU]⟩)) (EvN.ev (bj (us:=[pu p0]) (ah (bc (aa 1 rfl) ag rfl a0) aN dB) (show 1≤sizeLine by decide)))) (fun hz=> (jD (bg j3 (aF ((eO T).mono (by decide)) hr rfl T.m_is_field T.F_is_field.kp T.b_is_field aD (ae (aa 3 rfl) aj ac) ⟨[p0],rfl,by simpa using sp0,(by simp),rfl⟩) cL)))))) (by rw [show eqW (lp [p0]) (lp [p0])=true from (fh [p0] [p0]).trans (decide_eq_true rfl)]; unfold pA; rw [hU,decide_eq_true rfl]; rfl) (bp ?_))
 refine af (be (i:=4) ci.nd rfl (Or.inl rfl) (aF ((fW T).mono (by decide)) hr rfl T.m__law_moves T.F__law_moves.kp T.b__law_moves aD (ae (aa 0 rfl) aj ac) ⟨ns,m,n,e,f,q,rfl,h63,hB,G,rfl⟩) ?_)
 refine af (be (i:=5) ci.nd rfl (Or.inr rfl) (bc (aa 4 rfl) ag rfl (mF (i:=0) rfl rfl)) ?_)
 show Ws _ _ _ _ _ _ [some (.val (.scr (ns.map U.int))),some (.val (lp pts)),some (.val (lp land)),some (.own [pu p0]),some (.val (.lst (mv 1 m n (1+m * n) e f::(bad m n e f q++g_ m n e f)))),some (.val (mv 1 m n (1+m * n) e f)),none,none,none,none]
 have smn:Sz 90 (m * n):=L2.Sz.mul sm (sn.mono (show 10≤20 by decide))
 have s1mn:Sz 100 (1+m * n):=(L2.Sz.add' (m:=90) (n:=90) (by decide) smn).mono (by decide)
 have k5:Sz 500 1:=by decide
 have szs:Sz 500 1∧Sz 500 m∧Sz 500 n∧Sz 500 (1+m * n)∧Sz 500 e∧Sz 500 f:=⟨k5,sm.mono (by decide),sn.mono (by decide),s1mn.mono (by decide),se.mono (by decide),sf.mono (by decide)⟩
 have csz3:∀ p∈land,Szp 3000 p:=fun p hp=> ⟨(csz p hp).1.mono (by decide),(csz p hp).2.mono (by decide)⟩
 have gsz:∀ p∈land.map (gd m n e f),Szp 5000 p:=fun p hp=> by
  obtain ⟨r,hr',rfl⟩:=List.mem_map.mp hp
  rw [← oy]
  have z:=oM szs.1 szs.2.1 szs.2.2.1 szs.2.2.2.1 szs.2.2.2.2.1 szs.2.2.2.2.2 (Nat.le_refl 3000) (csz3 r hr')
  exact ⟨z.1.mono (by decide),z.2.mono (by decide)⟩
 refine af (be (i:=6) ci.nd rfl (Or.inl rfl) (EvN.ev (cm ((cQ T).mono (by decide)) hr rfl T.m__law_corners T.F__law_corners.kp T.b__law_corners aD (ae (EvN.ev (jt (ys:=(land.map fun p=> pu (gd m n e f p))) rfl (blk (ai ft) ["script","points","land","handed","moves","good","due","x","y","thing"] [7,8] rfl rfl rfl rfl (by decide+kernel)) (eC (aa 2 rfl) (.inl rfl)) (fun _ _ _ _=> pF rfl (iA (dg (i:=7) ci.nd rfl (Or.inl rfl)) (iA (dg (i:=8) ci.nd rfl (Or.inl rfl)) nq))) (m4 (js:=[7,8]) (by decide)) ?clen ?csz ?dom ?celt)) aj e8) ⟨land.map (gd m n e f),by rw [lp,List.map_map]; rfl,gsz,by rw [List.length_map]; exact clen,rfl⟩)) ?_)
 case clen=> simp
 case csz=> rw [List.length_map]; exact Nat.le_of_lt (aH (by omega))
 case dom=>
  intro x hx
  obtain ⟨i,hi⟩:=List.mem_iff_getElem?.mp hx
  obtain ⟨p,hp,mp,rfl⟩:=mE hi
  exact ⟨_,rfl,rfl⟩
 case celt=>
  intro C s' H' fp j x y hx hy
  obtain ⟨p,hp,mp,rfl,rfl⟩:=jN hx hy
  have s1:=(csz p mp).1
  have s2:=(csz p mp).2
  exact (bM (ah (bN (bN (aa 7 rfl) (bi (bc (aa 5 rfl) ag rfl rfl) (aa 8 rfl) (by walk_at "mul"))) (bc (aa 5 rfl) ag rfl rfl)) (ah (bN (bN (bi (bc (aa 5 rfl) ag rfl rfl) (aa 7 rfl) (by walk_at "mul")) (bi (bc (aa 5 rfl) ag rfl rfl) (aa 8 rfl) (by walk_at "mul"))) (bc (aa 5 rfl) ag rfl rfl)) aN aZ) aZ))
 refine af (be (i:=3) ci.nd rfl (Or.inl rfl) (EvN.ev (jO (mz rfl) rfl T.z_list boot_list (ae (aa 2 rfl) aj ac))) ?_)
 have hbad:=p5 (e:=e) (f:=f) (sm.mono (show 70≤500 by decide)) sn (so.mono (show 80≤500 by decide)) o1
 show Ws _ _ _ _ _ _ [some (.val (.scr (ns.map U.int))),some (.val (lp pts)),some (.val (lp land)),some (.val (lp land)),some (.val (.lst (mv 1 m n (1+m * n) e f::(bad m n e f q++g_ m n e f)))),some (.val (mv 1 m n (1+m * n) e f)),some (.val (lp (bS (land.map (gd m n e f))))),none,none,none]
 refine af (g7 (fun _:Unit=> [some (.val (.scr (ns.map U.int))),some (.val (lp pts)),some (.val (lp land)),some (.val (lp land)),some (.val (.lst (mv 1 m n (1+m * n) e f::(bad m n e f q++g_ m n e f)))),some (.val (mv 1 m n (1+m * n) e f)),some (.val (lp (bS (land.map (gd m n e f))))),none,none,none]) (fun _ _=> True) rfl PassesOwn.never (eC (EvN.ev (dO (aa 4 rfl) (eH ag) eG (.inl rfl))) (.inl rfl)) ?h0 ?hs ?hd)
 case h0=> exact ⟨(),trivial,rfl,rfl,rfl,rfl,rfl,rfl,rfl,trivial⟩
 case hs=>
  intro H0 i u _ hx _
  refine ⟨_,(gX (i:=9) ci.nd rfl (Or.inl rfl)),?_⟩
  obtain ⟨b1,b2⟩:=hbad u (List.mem_of_getElem? hx)
  refine af (fS (Tw.t (iC (cx (cD (aF ((eR T).mono (by decide)) hr rfl T.m__law_no_move T.F__law_no_move.kp T.b__law_no_move aD (ae (aa 3 rfl) (ae (aa 9 rfl) aj ac) ac) ⟨land,u,rfl,b1,b2,cne,clen,rfl⟩))) (fun hz=> (iC (bg (n8 (fC hr) (eK _) (eK _)) (aa 3 rfl) (aa 2 rfl)) (fun hz=> (jD (bg (n8 (fC hr) (eK _) (eK _)) (EvN.ev (cm ((dc T).mono (by decide)) hr rfl T.m_field_moved T.F_field_moved.kp T.b_field_moved aD (ae (aa 3 rfl) (ae (aa 5 rfl) aj ac) ac) (.inl ⟨land,1,m,n,1+m * n,e,f,rfl,.inl (by rw [Int.one_mul]; omega),szs,csz3,cne,clen,rfl⟩))) (aa 6 rfl)))))))) (by rw [oy]; rw [show eqW (lp land) (lp land)=true from (fh _ _).trans (decide_eq_true rfl),show eqW (.lst ((bS (land.map (gd m n e f))).map pu)) (lp (bS (land.map (gd m n e f))))=true from (fh _ _).trans (decide_eq_true rfl)]; rfl) (bp (bp ?_)))
  exact ⟨(),trivial,rfl,rfl,rfl,rfl,rfl,rfl,rfl,trivial⟩
 case hd=>
  intro _ ps _ hps
  refine fM ?_ hps
  refine af (aJ cL ?_)
  exact vB rfl
end
theorem ar1 {p:List Value→Prop} {us:List Value} (h:us.length=1) (q:∀ a0,p [a0]):p us:=match us,h with | [a0],_=> q a0
theorem ar2 {p:List Value→Prop} {us:List Value} (h:us.length=2) (q:∀ a0 a1,p [a0,a1]):p us:=match us,h with | [a0,a1],_=> q a0 a1
theorem ar3 {p:List Value→Prop} {us:List Value} (h:us.length=3) (q:∀ a0 a1 a2,p [a0,a1,a2]):p us:=match us,h with | [a0,a1,a2],_=> q a0 a1 a2
set_option maxHeartbeats 8000000 in
theorem txt_mk {K:PySem.W.Frag} {h:Heap} {mg:Str→Option Value} {fa f0 f1 f2 f3 f4 f5 f6 f7 f8 f9 f10 f11 f12 f13 f14 f15 f16 f17 f18 f19 f20 f21 c_Flat c_NoField c_NoHeart c_NoMove c_NoName c_NoNumber c_NoRow c_NoText c_NoWedge c_NotThere c_StakeError c_TooGreat c_TooMany:Addr} (X:K.In h) (G:h.Ns mainGlobals mg) (hfa:mg "law"=some (.ref fa))
  {od0 an0 od1 an1 od2 an2 od3 an3 od4 an4 od5 an5 od6 an6 od7 an7 od8 an8 od9 an9 od10 an10 od11 an11 od12 an12 od13 an13 od14 an14 od15 an15 od16 an16 od17 an17 od18 an18 od19 an19 od20 an20 od21 an21:Option Addr} {sl0 sl1 sl2 sl3 sl4 sl5 sl6 sl7 sl8 sl9 sl10 sl11 sl12 sl13 sl14 sl15 sl16 sl17 sl18 sl19 sl20 sl21:Array (Option Value)} {oc0 kV0 dc0 pm0 cd0 ct0 oc1 kV1 dc1 pm1 cd1 ct1 oc2 kV2 dc2 pm2 cd2 ct2 oc3 kV3 dc3 pm3 cd3 ct3 oc4 kV4 dc4 pm4 cd4 ct4 oc5 kV5 dc5 pm5 cd5 ct5 oc6 kV6 dc6 pm6 cd6 ct6 oc7 kV7 dc7 pm7 cd7 ct7 oc8 kV8 dc8 pm8 cd8 ct8 oc9 kV9 dc9 pm9 cd9 ct9 oc10 kV10 dc10 pm10 cd10 ct10 oc11 kV11 dc11 pm11 cd11 ct11 oc12 kV12 dc12 pm12 cd12 ct12 oc13 kV13 dc13 pm13 cd13 ct13 oc14 kV14 dc14 pm14 cd14 ct14 oc15 kV15 dc15 pm15 cd15 ct15 oc16 kV16 dc16 pm16 cd16 ct16 oc17 kV17 dc17 pm17 cd17 ct17 oc18 kV18 dc18 pm18 cd18 ct18 oc19 kV19 dc19 pm19 cd19 ct19 oc20 kV20 dc20 pm20 cd20 ct20 oc21 kV21 dc21 pm21 cd21 ct21:Value}
  (a0:PySem.W.nsIn K mainGlobals "is_whole"=some (some (.ref f0))) (l0:K.lookup f0=some ⟨oc0,od0,.func (PySem.W.fnOf "is_whole" "is_whole" (ax bT) (au bT) (ai bT) .none kV0 dc0 pm0 an0 cd0 ct0),sl0⟩) (c0:PySem.W.codeIn K cd0 "is_whole"=true) (k0:PySem.W.keepIn K (.ref f0)=true)
  (a1:PySem.W.nsIn K mainGlobals "sign"=some (some (.ref f1))) (l1:K.lookup f1=some ⟨oc1,od1,.func (PySem.W.fnOf "sign" "sign" (ax eo) (au eo) (ai eo) .none kV1 dc1 pm1 an1 cd1 ct1),sl1⟩) (c1:PySem.W.codeIn K cd1 "sign"=true) (k1:PySem.W.keepIn K (.ref f1)=true)
  (a2:PySem.W.nsIn K mainGlobals "hand"=some (some (.ref f2))) (l2:K.lookup f2=some ⟨oc2,od2,.func (PySem.W.fnOf "hand" "hand" (ax d9) (au d9) (ai d9) .none kV2 dc2 pm2 an2 cd2 ct2),sl2⟩) (c2:PySem.W.codeIn K cd2 "hand"=true) (k2:PySem.W.keepIn K (.ref f2)=true)
  (a3:PySem.W.nsIn K mainGlobals "is_move"=some (some (.ref f3))) (l3:K.lookup f3=some ⟨oc3,od3,.func (PySem.W.fnOf "is_move" "is_move" (ax bO) (au bO) (ai bO) .none kV3 dc3 pm3 an3 cd3 ct3),sl3⟩) (c3:PySem.W.codeIn K cd3 "is_move"=true) (k3:PySem.W.keepIn K (.ref f3)=true)
  (a4:PySem.W.nsIn K mainGlobals "need_move"=some (some (.ref f4))) (l4:K.lookup f4=some ⟨oc4,od4,.func (PySem.W.fnOf "need_move" "need_move" (ax bG) (au bG) (ai bG) .none kV4 dc4 pm4 an4 cd4 ct4),sl4⟩) (c4:PySem.W.codeIn K cd4 "need_move"=true) (k4:PySem.W.keepIn K (.ref f4)=true)
  (a5:PySem.W.nsIn K mainGlobals "turned"=some (some (.ref f5))) (l5:K.lookup f5=some ⟨oc5,od5,.func (PySem.W.fnOf "turned" "turned" (ax cG) (au cG) (ai cG) .none kV5 dc5 pm5 an5 cd5 ct5),sl5⟩) (c5:PySem.W.codeIn K cd5 "turned"=true) (k5:PySem.W.keepIn K (.ref f5)=true)
  (a6:PySem.W.nsIn K mainGlobals "moved"=some (some (.ref f6))) (l6:K.lookup f6=some ⟨oc6,od6,.func (PySem.W.fnOf "moved" "moved" (ax di) (au di) (ai di) .none kV6 dc6 pm6 an6 cd6 ct6),sl6⟩) (c6:PySem.W.codeIn K cd6 "moved"=true) (k6:PySem.W.keepIn K (.ref f6)=true)
  (a7:PySem.W.nsIn K mainGlobals "turn"=some (some (.ref f7))) (l7:K.lookup f7=some ⟨oc7,od7,.func (PySem.W.fnOf "turn" "turn" (ax eI) (au eI) (ai eI) .none kV7 dc7 pm7 an7 cd7 ct7),sl7⟩) (c7:PySem.W.codeIn K cd7 "turn"=true) (k7:PySem.W.keepIn K (.ref f7)=true)
  (a8:PySem.W.nsIn K mainGlobals "left_bends"=some (some (.ref f8))) (l8:K.lookup f8=some ⟨oc8,od8,.func (PySem.W.fnOf "left_bends" "left_bends" (ax bv) (au bv) (ai bv) .none kV8 dc8 pm8 an8 cd8 ct8),sl8⟩) (c8:PySem.W.codeIn K cd8 "left_bends"=true) (k8:PySem.W.keepIn K (.ref f8)=true)
  (a9:PySem.W.nsIn K mainGlobals "field"=some (some (.ref f9))) (l9:K.lookup f9=some ⟨oc9,od9,.func (PySem.W.fnOf "field" "field" (ax dj) (au dj) (ai dj) .none kV9 dc9 pm9 an9 cd9 ct9),sl9⟩) (c9:PySem.W.codeIn K cd9 "field"=true) (k9:PySem.W.keepIn K (.ref f9)=true)
  (a10:PySem.W.nsIn K mainGlobals "is_field"=some (some (.ref f10))) (l10:K.lookup f10=some ⟨oc10,od10,.func (PySem.W.fnOf "is_field" "is_field" (ax bP) (au bP) (ai bP) .none kV10 dc10 pm10 an10 cd10 ct10),sl10⟩) (c10:PySem.W.codeIn K cd10 "is_field"=true) (k10:PySem.W.keepIn K (.ref f10)=true)
  (a11:PySem.W.nsIn K mainGlobals "field_moved"=some (some (.ref f11))) (l11:K.lookup f11=some ⟨oc11,od11,.func (PySem.W.fnOf "field_moved" "field_moved" (ax aQ) (au aQ) (ai aQ) .none kV11 dc11 pm11 an11 cd11 ct11),sl11⟩) (c11:PySem.W.codeIn K cd11 "field_moved"=true) (k11:PySem.W.keepIn K (.ref f11)=true)
  (a12:PySem.W.nsIn K mainGlobals "_law_cell"=some (some (.ref f12))) (l12:K.lookup f12=some ⟨oc12,od12,.func (PySem.W.fnOf "_law_cell" "_law_cell" (ax bK) (au bK) (ai bK) .none kV12 dc12 pm12 an12 cd12 ct12),sl12⟩) (c12:PySem.W.codeIn K cd12 "_law_cell"=true) (k12:PySem.W.keepIn K (.ref f12)=true)
  (a13:PySem.W.nsIn K mainGlobals "_law_side"=some (some (.ref f13))) (l13:K.lookup f13=some ⟨oc13,od13,.func (PySem.W.fnOf "_law_side" "_law_side" (ax bI) (au bI) (ai bI) .none kV13 dc13 pm13 an13 cd13 ct13),sl13⟩) (c13:PySem.W.codeIn K cd13 "_law_side"=true) (k13:PySem.W.keepIn K (.ref f13)=true)
  (a14:PySem.W.nsIn K mainGlobals "_law_half"=some (some (.ref f14))) (l14:K.lookup f14=some ⟨oc14,od14,.func (PySem.W.fnOf "_law_half" "_law_half" (ax bE) (au bE) (ai bE) .none kV14 dc14 pm14 an14 cd14 ct14),sl14⟩) (c14:PySem.W.codeIn K cd14 "_law_half"=true) (k14:PySem.W.keepIn K (.ref f14)=true)
  (a15:PySem.W.nsIn K mainGlobals "_law_corners"=some (some (.ref f15))) (l15:K.lookup f15=some ⟨oc15,od15,.func (PySem.W.fnOf "_law_corners" "_law_corners" (ax bb) (au bb) (ai bb) .none kV15 dc15 pm15 an15 cd15 ct15),sl15⟩) (c15:PySem.W.codeIn K cd15 "_law_corners"=true) (k15:PySem.W.keepIn K (.ref f15)=true)
  (a16:PySem.W.nsIn K mainGlobals "_law_great"=some (some (.ref f16))) (l16:K.lookup f16=some ⟨oc16,od16,.func (PySem.W.fnOf "_law_great" "_law_great" (ax bx) (au bx) (ai bx) .none kV16 dc16 pm16 an16 cd16 ct16),sl16⟩) (c16:PySem.W.codeIn K cd16 "_law_great"=true) (k16:PySem.W.keepIn K (.ref f16)=true)
  (a17:PySem.W.nsIn K mainGlobals "_law_land"=some (some (.ref f17))) (l17:K.lookup f17=some ⟨oc17,od17,.func (PySem.W.fnOf "_law_land" "_law_land" (ax bH) (au bH) (ai bH) .none kV17 dc17 pm17 an17 cd17 ct17),sl17⟩) (c17:PySem.W.codeIn K cd17 "_law_land"=true) (k17:PySem.W.keepIn K (.ref f17)=true)
  (a18:PySem.W.nsIn K mainGlobals "_law_moves"=some (some (.ref f18))) (l18:K.lookup f18=some ⟨oc18,od18,.func (PySem.W.fnOf "_law_moves" "_law_moves" (ax bu) (au bu) (ai bu) .none kV18 dc18 pm18 an18 cd18 ct18),sl18⟩) (c18:PySem.W.codeIn K cd18 "_law_moves"=true) (k18:PySem.W.keepIn K (.ref f18)=true)
  (a19:PySem.W.nsIn K mainGlobals "_law_no_field"=some (some (.ref f19))) (l19:K.lookup f19=some ⟨oc19,od19,.func (PySem.W.fnOf "_law_no_field" "_law_no_field" (ax aU) (au aU) (ai aU) .none kV19 dc19 pm19 an19 cd19 ct19),sl19⟩) (c19:PySem.W.codeIn K cd19 "_law_no_field"=true) (k19:PySem.W.keepIn K (.ref f19)=true)
  (a20:PySem.W.nsIn K mainGlobals "_law_no_move"=some (some (.ref f20))) (l20:K.lookup f20=some ⟨oc20,od20,.func (PySem.W.fnOf "_law_no_move" "_law_no_move" (ax bd) (au bd) (ai bd) .none kV20 dc20 pm20 an20 cd20 ct20),sl20⟩) (c20:PySem.W.codeIn K cd20 "_law_no_move"=true) (k20:PySem.W.keepIn K (.ref f20)=true)
  (a21:PySem.W.nsIn K mainGlobals "law"=some (some (.ref f21))) (l21:K.lookup f21=some ⟨oc21,od21,.func (PySem.W.fnOf "law" "law" (ax ft) (au ft) (ai ft) .none kV21 dc21 pm21 an21 cd21 ct21),sl21⟩) (c21:PySem.W.codeIn K cd21 "law"=true) (k21:PySem.W.keepIn K (.ref f21)=true)
  (e_Flat:PySem.W.nsIn K mainGlobals "Flat"=some (some (.ref c_Flat)))
  (e_NoField:PySem.W.nsIn K mainGlobals "NoField"=some (some (.ref c_NoField))) (x_NoField:PySem.W.excIn K c_NoField [.type "ValueError",.type "Exception",.type "BaseException",.type "object"] "ValueError.__new__"=true)
  (e_NoHeart:PySem.W.nsIn K mainGlobals "NoHeart"=some (some (.ref c_NoHeart)))
  (e_NoMove:PySem.W.nsIn K mainGlobals "NoMove"=some (some (.ref c_NoMove))) (x_NoMove:PySem.W.excIn K c_NoMove [.type "ValueError",.type "Exception",.type "BaseException",.type "object"] "ValueError.__new__"=true)
  (e_NoName:PySem.W.nsIn K mainGlobals "NoName"=some (some (.ref c_NoName)))
  (e_NoNumber:PySem.W.nsIn K mainGlobals "NoNumber"=some (some (.ref c_NoNumber)))
  (e_NoRow:PySem.W.nsIn K mainGlobals "NoRow"=some (some (.ref c_NoRow)))
  (e_NoText:PySem.W.nsIn K mainGlobals "NoText"=some (some (.ref c_NoText)))
  (e_NoWedge:PySem.W.nsIn K mainGlobals "NoWedge"=some (some (.ref c_NoWedge)))
  (e_NotThere:PySem.W.nsIn K mainGlobals "NotThere"=some (some (.ref c_NotThere)))
  (e_StakeError:PySem.W.nsIn K mainGlobals "StakeError"=some (some (.ref c_StakeError)))
  (e_TooGreat:PySem.W.nsIn K mainGlobals "TooGreat"=some (some (.ref c_TooGreat)))
  (e_TooMany:PySem.W.nsIn K mainGlobals "TooMany"=some (some (.ref c_TooMany)))
  (z_ValueError:PySem.W.nsIn K mainGlobals "ValueError"=some none)
  (z_all:PySem.W.nsIn K mainGlobals "all"=some none)
  (z_bool:PySem.W.nsIn K mainGlobals "bool"=some none)
  (z_int:PySem.W.nsIn K mainGlobals "int"=some none)
  (z_isinstance:PySem.W.nsIn K mainGlobals "isinstance"=some none)
  (z_len:PySem.W.nsIn K mainGlobals "len"=some none)
  (z_list:PySem.W.nsIn K mainGlobals "list"=some none)
  (z_max:PySem.W.nsIn K mainGlobals "max"=some none)
  (z_min:PySem.W.nsIn K mainGlobals "min"=some none)
  (z_range:PySem.W.nsIn K mainGlobals "range"=some none)
  (z_reversed:PySem.W.nsIn K mainGlobals "reversed"=some none)
  (z_set:PySem.W.nsIn K mainGlobals "set"=some none)
  (z_sorted:PySem.W.nsIn K mainGlobals "sorted"=some none)
  (z_tuple:PySem.W.nsIn K mainGlobals "tuple"=some none)
  (bx_StakeError:PySem.W.mroIn K c_StakeError (.type "BaseException")=some true)
  (kit_NoField_Flat:PySem.W.kitOne K (.ref c_NoField) (.ref c_Flat)=some false)
  (kit_NoField_NoField:PySem.W.kitOne K (.ref c_NoField) (.ref c_NoField)=some true)
  (kit_NoField_NoHeart:PySem.W.kitOne K (.ref c_NoField) (.ref c_NoHeart)=some false)
  (kit_NoField_NoMove:PySem.W.kitOne K (.ref c_NoField) (.ref c_NoMove)=some false)
  (kit_NoField_NoName:PySem.W.kitOne K (.ref c_NoField) (.ref c_NoName)=some false)
  (kit_NoField_NoNumber:PySem.W.kitOne K (.ref c_NoField) (.ref c_NoNumber)=some false)
  (kit_NoField_NoRow:PySem.W.kitOne K (.ref c_NoField) (.ref c_NoRow)=some false)
  (kit_NoField_NoText:PySem.W.kitOne K (.ref c_NoField) (.ref c_NoText)=some false)
  (kit_NoField_NoWedge:PySem.W.kitOne K (.ref c_NoField) (.ref c_NoWedge)=some false)
  (kit_NoField_NotThere:PySem.W.kitOne K (.ref c_NoField) (.ref c_NotThere)=some false)
  (kit_NoField_TooGreat:PySem.W.kitOne K (.ref c_NoField) (.ref c_TooGreat)=some false)
  (kit_NoField_TooMany:PySem.W.kitOne K (.ref c_NoField) (.ref c_TooMany)=some false)
  (kit_NoField_ValueError:PySem.W.kitOne K (.ref c_NoField) (.type "ValueError")=some true)
  (kit_NoMove_Flat:PySem.W.kitOne K (.ref c_NoMove) (.ref c_Flat)=some false)
  (kit_NoMove_NoField:PySem.W.kitOne K (.ref c_NoMove) (.ref c_NoField)=some false)
  (kit_NoMove_NoHeart:PySem.W.kitOne K (.ref c_NoMove) (.ref c_NoHeart)=some false)
  (kit_NoMove_NoMove:PySem.W.kitOne K (.ref c_NoMove) (.ref c_NoMove)=some true)
  (kit_NoMove_NoName:PySem.W.kitOne K (.ref c_NoMove) (.ref c_NoName)=some false)
  (kit_NoMove_NoNumber:PySem.W.kitOne K (.ref c_NoMove) (.ref c_NoNumber)=some false)
  (kit_NoMove_NoRow:PySem.W.kitOne K (.ref c_NoMove) (.ref c_NoRow)=some false)
  (kit_NoMove_NoText:PySem.W.kitOne K (.ref c_NoMove) (.ref c_NoText)=some false)
  (kit_NoMove_NoWedge:PySem.W.kitOne K (.ref c_NoMove) (.ref c_NoWedge)=some false)
  (kit_NoMove_NotThere:PySem.W.kitOne K (.ref c_NoMove) (.ref c_NotThere)=some false)
  (kit_NoMove_TooGreat:PySem.W.kitOne K (.ref c_NoMove) (.ref c_TooGreat)=some false)
  (kit_NoMove_TooMany:PySem.W.kitOne K (.ref c_NoMove) (.ref c_TooMany)=some false)
  (kit_NoMove_ValueError:PySem.W.kitOne K (.ref c_NoMove) (.type "ValueError")=some true)
  (sub_NoField_StakeError:PySem.W.mroIn K c_NoField (.ref c_StakeError)=some true)
  (sub_NoMove_StakeError:PySem.W.mroIn K c_NoMove (.ref c_StakeError)=some true)
  (ty_StakeError:PySem.W.typeIn K (.ref c_StakeError)=some (.type "type"))
  (xc_NoField:PySem.W.XcOk K c_NoField)
  (xc_NoMove:PySem.W.XcOk K c_NoMove)
  :∃ T:Txt K mg,T.a_law=fa∧(∀ (s:Shared) (v:Value),BindsTo s T.d_law ⟨[v],[]⟩ [("script",v)]):=by
 have e:=hfa.symm.trans (PySem.W.mg_of X G a21)
 cases e
 have F0:=aT (st:=bT) l0 c0 k0
 have b0:=F0.binds (ps:=["thing"]) fun _ _ _ _ _ _ us hl=> ar1 (p:=fun us=> bindArgs _ ⟨us,[]⟩=pure (List.zip _ us)) hl fun _=> rfl
 have F1:=aT (st:=eo) l1 c1 k1
 have b1:=F1.binds (ps:=["number"]) fun _ _ _ _ _ _ us hl=> ar1 (p:=fun us=> bindArgs _ ⟨us,[]⟩=pure (List.zip _ us)) hl fun _=> rfl
 have F2:=aT (st:=d9) l2 c2 k2
 have b2:=F2.binds (ps:=["move"]) fun _ _ _ _ _ _ us hl=> ar1 (p:=fun us=> bindArgs _ ⟨us,[]⟩=pure (List.zip _ us)) hl fun _=> rfl
 have F3:=aT (st:=bO) l3 c3 k3
 have b3:=F3.binds (ps:=["thing"]) fun _ _ _ _ _ _ us hl=> ar1 (p:=fun us=> bindArgs _ ⟨us,[]⟩=pure (List.zip _ us)) hl fun _=> rfl
 have F4:=aT (st:=bG) l4 c4 k4
 have b4:=F4.binds (ps:=["thing"]) fun _ _ _ _ _ _ us hl=> ar1 (p:=fun us=> bindArgs _ ⟨us,[]⟩=pure (List.zip _ us)) hl fun _=> rfl
 have F5:=aT (st:=cG) l5 c5 k5
 have b5:=F5.binds (ps:=["P","move"]) fun _ _ _ _ _ _ us hl=> ar2 (p:=fun us=> bindArgs _ ⟨us,[]⟩=pure (List.zip _ us)) hl fun _ _=> rfl
 have F6:=aT (st:=di) l6 c6 k6
 have b6:=F6.binds (ps:=["P","move"]) fun _ _ _ _ _ _ us hl=> ar2 (p:=fun us=> bindArgs _ ⟨us,[]⟩=pure (List.zip _ us)) hl fun _ _=> rfl
 have F7:=aT (st:=eI) l7 c7 k7
 have b7:=F7.binds (ps:=["P","Q","R"]) fun _ _ _ _ _ _ us hl=> ar3 (p:=fun us=> bindArgs _ ⟨us,[]⟩=pure (List.zip _ us)) hl fun _ _ _=> rfl
 have F8:=aT (st:=bv) l8 c8 k8
 have b8:=F8.binds (ps:=["row"]) fun _ _ _ _ _ _ us hl=> ar1 (p:=fun us=> bindArgs _ ⟨us,[]⟩=pure (List.zip _ us)) hl fun _=> rfl
 have F9:=aT (st:=dj) l9 c9 k9
 have b9:=F9.binds (ps:=["points"]) fun _ _ _ _ _ _ us hl=> ar1 (p:=fun us=> bindArgs _ ⟨us,[]⟩=pure (List.zip _ us)) hl fun _=> rfl
 have F10:=aT (st:=bP) l10 c10 k10
 have b10:=F10.binds (ps:=["points"]) fun _ _ _ _ _ _ us hl=> ar1 (p:=fun us=> bindArgs _ ⟨us,[]⟩=pure (List.zip _ us)) hl fun _=> rfl
 have F11:=aT (st:=aQ) l11 c11 k11
 have b11:=F11.binds (ps:=["land","move"]) fun _ _ _ _ _ _ us hl=> ar2 (p:=fun us=> bindArgs _ ⟨us,[]⟩=pure (List.zip _ us)) hl fun _ _=> rfl
 have F12:=aT (st:=bK) l12 c12 k12
 have b12:=F12.binds (ps:=["script","k"]) fun _ _ _ _ _ _ us hl=> ar2 (p:=fun us=> bindArgs _ ⟨us,[]⟩=pure (List.zip _ us)) hl fun _ _=> rfl
 have F13:=aT (st:=bI) l13 c13 k13
 have b13:=F13.binds (ps:=["a","b","p"]) fun _ _ _ _ _ _ us hl=> ar3 (p:=fun us=> bindArgs _ ⟨us,[]⟩=pure (List.zip _ us)) hl fun _ _ _=> rfl
 have F14:=aT (st:=bE) l14 c14 k14
 have b14:=F14.binds (ps:=["points"]) fun _ _ _ _ _ _ us hl=> ar1 (p:=fun us=> bindArgs _ ⟨us,[]⟩=pure (List.zip _ us)) hl fun _=> rfl
 have F15:=aT (st:=bb) l15 c15 k15
 have b15:=F15.binds (ps:=["points"]) fun _ _ _ _ _ _ us hl=> ar1 (p:=fun us=> bindArgs _ ⟨us,[]⟩=pure (List.zip _ us)) hl fun _=> rfl
 have F16:=aT (st:=bx) l16 c16 k16
 have b16:=F16.binds (ps:=["cell","most"]) fun _ _ _ _ _ _ us hl=> ar2 (p:=fun us=> bindArgs _ ⟨us,[]⟩=pure (List.zip _ us)) hl fun _ _=> rfl
 have F17:=aT (st:=bH) l17 c17 k17
 have b17:=F17.binds (ps:=["script"]) fun _ _ _ _ _ _ us hl=> ar1 (p:=fun us=> bindArgs _ ⟨us,[]⟩=pure (List.zip _ us)) hl fun _=> rfl
 have F18:=aT (st:=bu) l18 c18 k18
 have b18:=F18.binds (ps:=["script"]) fun _ _ _ _ _ _ us hl=> ar1 (p:=fun us=> bindArgs _ ⟨us,[]⟩=pure (List.zip _ us)) hl fun _=> rfl
 have F19:=aT (st:=aU) l19 c19 k19
 have b19:=F19.binds (ps:=["points"]) fun _ _ _ _ _ _ us hl=> ar1 (p:=fun us=> bindArgs _ ⟨us,[]⟩=pure (List.zip _ us)) hl fun _=> rfl
 have F20:=aT (st:=bd) l20 c20 k20
 have b20:=F20.binds (ps:=["land","thing"]) fun _ _ _ _ _ _ us hl=> ar2 (p:=fun us=> bindArgs _ ⟨us,[]⟩=pure (List.zip _ us)) hl fun _ _=> rfl
 have F21:=aT (st:=ft) l21 c21 k21
 have b21:=F21.binds (ps:=["script"]) fun _ _ _ _ _ _ us hl=> ar1 (p:=fun us=> bindArgs _ ⟨us,[]⟩=pure (List.zip _ us)) hl fun _=> rfl
 exact ⟨⟨_,_,F0,b0,PySem.W.mg_of X G a0,_,_,F1,b1,PySem.W.mg_of X G a1,_,_,F2,b2,PySem.W.mg_of X G a2,_,_,F3,b3,PySem.W.mg_of X G a3,_,_,F4,b4,PySem.W.mg_of X G a4,_,_,F5,b5,PySem.W.mg_of X G a5,_,_,F6,b6,PySem.W.mg_of X G a6,_,_,F7,b7,PySem.W.mg_of X G a7,_,_,F8,b8,PySem.W.mg_of X G a8,_,_,F9,b9,PySem.W.mg_of X G a9,_,_,F10,b10,PySem.W.mg_of X G a10,_,_,F11,b11,PySem.W.mg_of X G a11,_,_,F12,b12,PySem.W.mg_of X G a12,_,_,F13,b13,PySem.W.mg_of X G a13,_,_,F14,b14,PySem.W.mg_of X G a14,_,_,F15,b15,PySem.W.mg_of X G a15,_,_,F16,b16,PySem.W.mg_of X G a16,_,_,F17,b17,PySem.W.mg_of X G a17,_,_,F18,b18,PySem.W.mg_of X G a18,_,_,F19,b19,PySem.W.mg_of X G a19,_,_,F20,b20,PySem.W.mg_of X G a20,_,_,F21,b21,PySem.W.mg_of X G a21,_,PySem.W.mg_of X G e_Flat,_,x_NoField,PySem.W.mg_of X G e_NoField,_,PySem.W.mg_of X G e_NoHeart,_,x_NoMove,PySem.W.mg_of X G e_NoMove,_,PySem.W.mg_of X G e_NoName,_,PySem.W.mg_of X G e_NoNumber,_,PySem.W.mg_of X G e_NoRow,_,PySem.W.mg_of X G e_NoText,_,PySem.W.mg_of X G e_NoWedge,_,PySem.W.mg_of X G e_NotThere,_,PySem.W.mg_of X G e_StakeError,_,PySem.W.mg_of X G e_TooGreat,_,PySem.W.mg_of X G e_TooMany,PySem.W.mg_none_of X G z_ValueError,PySem.W.mg_none_of X G z_all,PySem.W.mg_none_of X G z_bool,PySem.W.mg_none_of X G z_int,PySem.W.mg_none_of X G z_isinstance,PySem.W.mg_none_of X G z_len,PySem.W.mg_none_of X G z_list,PySem.W.mg_none_of X G z_max,PySem.W.mg_none_of X G z_min,PySem.W.mg_none_of X G z_range,PySem.W.mg_none_of X G z_reversed,PySem.W.mg_none_of X G z_set,PySem.W.mg_none_of X G z_sorted,PySem.W.mg_none_of X G z_tuple,bx_StakeError,kit_NoField_Flat,kit_NoField_NoField,kit_NoField_NoHeart,kit_NoField_NoMove,kit_NoField_NoName,kit_NoField_NoNumber,kit_NoField_NoRow,kit_NoField_NoText,kit_NoField_NoWedge,kit_NoField_NotThere,kit_NoField_TooGreat,kit_NoField_TooMany,kit_NoField_ValueError,kit_NoMove_Flat,kit_NoMove_NoField,kit_NoMove_NoHeart,kit_NoMove_NoMove,kit_NoMove_NoName,kit_NoMove_NoNumber,kit_NoMove_NoRow,kit_NoMove_NoText,kit_NoMove_NoWedge,kit_NoMove_NotThere,kit_NoMove_TooGreat,kit_NoMove_TooMany,kit_NoMove_ValueError,sub_NoField_StakeError,sub_NoMove_StakeError,ty_StakeError,xc_NoField,xc_NoMove⟩,rfl,fun s v=> .of_eq rfl⟩
abbrev spLaw (K:PySem.W.Frag):Sp:=spU K d4
theorem law_start (K:PySem.W.Frag) (H:Hp) (a:Addr) (ns:List Int) (h1:ns.length≤63) (h2:∀ m∈ns,Sz 1048576 m) (_:nV H) (h3:SqL K H a (ns.map V.int)):spLaw K [.ref a] H (fun v _=> v=.bl true) fun _ _ _=> False:=kE h1 h2 h3
theorem law_ok {P:Program} {w:World} {K:PySem.W.Frag} {mg:Str→Option Value} {fa:Addr} (h:∃ T:Txt K mg,T.a_law=fa∧(∀ (s:Shared) (v:Value),BindsTo s T.d_law ⟨[v],[]⟩ [("script",v)])):
  ∃ fd:FuncData,(∀ (s:Shared) (u:Value),BindsTo s fd ⟨[u],[]⟩ [("script",u)])∧∀ base:Heap,K.In base→base.Ns mainGlobals mg→a_ P w K mg base CX0 7 fa fd ["script"] (spLaw K):=by
 obtain ⟨T,rfl,hb⟩:=h
 exact ⟨T.d_law,hb,fun base _ _=> (pi T).calm kT⟩
end My
def PySem.W.Fast.tw4311293336711449564:Unit:=()
def PySem.W.Fast.tw15457871457436920767:Unit:=()
def PySem.W.Fast.tw16144153122294446882:Unit:=()
def PySem.W.Fast.tw16435559391269920832:Unit:=()
def PySem.W.Fast.tw193440061797930209:Unit:=()
def PySem.W.Fast.tw801917201698100201:Unit:=()
def PySem.W.Fast.tw432382332720711724:Unit:=()
def PySem.W.Fast.tw15562652793004663501:Unit:=()
def PySem.W.Fast.tw11928103436517205368:Unit:=()
def PySem.W.Fast.tw17180545986756348830:Unit:=()
def PySem.W.Fast.tw13542474290244230160:Unit:=()
def PySem.W.Fast.tw17086240573720356266:Unit:=()
def PySem.W.Fast.tw5870205412737294318:Unit:=()
def PySem.W.Fast.tw15850649196052063691:Unit:=()
def PySem.W.Fast.tw1889111998952853494:Unit:=()
def PySem.W.Fast.tw6992031543585777938:Unit:=()
def PySem.W.Fast.tw5146679991492861191:Unit:=()
def PySem.W.Fast.tw9208152215406487381:Unit:=()
def PySem.W.Fast.tw2797337667501313448:Unit:=()
def PySem.W.Fast.tw2910547677424887610:Unit:=()
def PySem.W.Fast.tw7047685135836117051:Unit:=()
def PySem.W.Fast.tw7292723468549954135:Unit:=()
def PySem.W.Fast.tw14036918447585045650:Unit:=()
def PySem.W.Fast.tw6955505992560083537:Unit:=()
def PySem.W.Fast.tw2119774610167163986:Unit:=()
def PySem.W.Fast.tw16819530812260381973:Unit:=()
def PySem.W.Fast.tw17782051403931176281:Unit:=()
def PySem.W.Fast.tw4083827738915666184:Unit:=()
def PySem.W.Fast.tw6735536846050861049:Unit:=()
def PySem.W.Fast.tw12948161233456678059:Unit:=()
open PySem PySem.W PyProof.Rows L2
set_option maxRecDepth 100000 in
set_option maxHeartbeats 0 in
theorem PySem.Challenge.cw_stakefield_k10_refused_fields_holds : PySem.Challenge.rw_stakefield_k10_refused_fields.Holds := by
 w_on; o_law; k_head; (case hw=> w_witness2)
 k_fill
 refine L2.walk_ofB (l:=PySem.Challenge.rw_stakefield_k10_refused_fields) (n:=63) (k:=7) (x:="script") (CX:=CX0) (sp:=My.spLaw) rfl (by decide) rfl ⟨rfl,by decide,by decide⟩ (fun w h Y=> by first | exact PySem.W.kIn_of Y | exact PySem.W.km_in_of Y) ?F My.law_start (fun _ _ _ _ z=> z)
 case F=>
  intro w mg fa h KX G hmg
  refine My.law_ok ?T
  refine' My.txt_mk KX G hmg ?a0 ?l0 ?c0 ?k0 ?a1 ?l1 ?c1 ?k1 ?a2 ?l2 ?c2 ?k2 ?a3 ?l3 ?c3 ?k3 ?a4 ?l4 ?c4 ?k4 ?a5 ?l5 ?c5 ?k5 ?a6 ?l6 ?c6 ?k6 ?a7 ?l7 ?c7 ?k7 ?a8 ?l8 ?c8 ?k8 ?a9 ?l9 ?c9 ?k9 ?a10 ?l10 ?c10 ?k10 ?a11 ?l11 ?c11 ?k11 ?a12 ?l12 ?c12 ?k12 ?a13 ?l13 ?c13 ?k13 ?a14 ?l14 ?c14 ?k14 ?a15 ?l15 ?c15 ?k15 ?a16 ?l16 ?c16 ?k16 ?a17 ?l17 ?c17 ?k17 ?a18 ?l18 ?c18 ?k18 ?a19 ?l19 ?c19 ?k19 ?a20 ?l20 ?c20 ?k20 ?a21 ?l21 ?c21 ?k21 ?e_Flat ?e_NoField ?x_NoField ?e_NoHeart ?e_NoMove ?x_NoMove ?e_NoName ?e_NoNumber ?e_NoRow ?e_NoText ?e_NoWedge ?e_NotThere ?e_StakeError ?e_TooGreat ?e_TooMany ?z_ValueError ?z_all ?z_bool ?z_int ?z_isinstance ?z_len ?z_list ?z_max ?z_min ?z_range ?z_reversed ?z_set ?z_sorted ?z_tuple ?bx_StakeError ?kit_NoField_Flat ?kit_NoField_NoField ?kit_NoField_NoHeart ?kit_NoField_NoMove ?kit_NoField_NoName ?kit_NoField_NoNumber ?kit_NoField_NoRow ?kit_NoField_NoText ?kit_NoField_NoWedge ?kit_NoField_NotThere ?kit_NoField_TooGreat ?kit_NoField_TooMany ?kit_NoField_ValueError ?kit_NoMove_Flat ?kit_NoMove_NoField ?kit_NoMove_NoHeart ?kit_NoMove_NoMove ?kit_NoMove_NoName ?kit_NoMove_NoNumber ?kit_NoMove_NoRow ?kit_NoMove_NoText ?kit_NoMove_NoWedge ?kit_NoMove_NotThere ?kit_NoMove_TooGreat ?kit_NoMove_TooMany ?kit_NoMove_ValueError ?sub_NoField_StakeError ?sub_NoMove_StakeError ?ty_StakeError ?xc_NoField ?xc_NoMove 
  (case a0=> k_is); (case l0=> k_is); (case c0=> k_is); (case k0=> k_is)
  (case a1=> k_is); (case l1=> k_is); (case c1=> k_is); (case k1=> k_is)
  (case a2=> k_is); (case l2=> k_is); (case c2=> k_is); (case k2=> k_is)
  (case a3=> k_is); (case l3=> k_is); (case c3=> k_is); (case k3=> k_is)
  (case a4=> k_is); (case l4=> k_is); (case c4=> k_is); (case k4=> k_is)
  (case a5=> k_is); (case l5=> k_is); (case c5=> k_is); (case k5=> k_is)
  (case a6=> k_is); (case l6=> k_is); (case c6=> k_is); (case k6=> k_is)
  (case a7=> k_is); (case l7=> k_is); (case c7=> k_is); (case k7=> k_is)
  (case a8=> k_is); (case l8=> k_is); (case c8=> k_is); (case k8=> k_is)
  (case a9=> k_is); (case l9=> k_is); (case c9=> k_is); (case k9=> k_is)
  (case a10=> k_is); (case l10=> k_is); (case c10=> k_is); (case k10=> k_is)
  (case a11=> k_is); (case l11=> k_is); (case c11=> k_is); (case k11=> k_is)
  (case a12=> k_is); (case l12=> k_is); (case c12=> k_is); (case k12=> k_is)
  (case a13=> k_is); (case l13=> k_is); (case c13=> k_is); (case k13=> k_is)
  (case a14=> k_is); (case l14=> k_is); (case c14=> k_is); (case k14=> k_is)
  (case a15=> k_is); (case l15=> k_is); (case c15=> k_is); (case k15=> k_is)
  (case a16=> k_is); (case l16=> k_is); (case c16=> k_is); (case k16=> k_is)
  (case a17=> k_is); (case l17=> k_is); (case c17=> k_is); (case k17=> k_is)
  (case a18=> k_is); (case l18=> k_is); (case c18=> k_is); (case k18=> k_is)
  (case a19=> k_is); (case l19=> k_is); (case c19=> k_is); (case k19=> k_is)
  (case a20=> k_is); (case l20=> k_is); (case c20=> k_is); (case k20=> k_is)
  (case a21=> k_is); (case l21=> k_is); (case c21=> k_is); (case k21=> k_is)
  (case e_Flat=> k_is)
  (case e_NoField=> k_is); (case x_NoField=> k_exc)
  (case e_NoHeart=> k_is)
  (case e_NoMove=> k_is); (case x_NoMove=> k_exc)
  (case e_NoName=> k_is)
  (case e_NoNumber=> k_is)
  (case e_NoRow=> k_is)
  (case e_NoText=> k_is)
  (case e_NoWedge=> k_is)
  (case e_NotThere=> k_is)
  (case e_StakeError=> k_is)
  (case e_TooGreat=> k_is)
  (case e_TooMany=> k_is)
  (case z_ValueError=> k_is)
  (case z_all=> k_is)
  (case z_bool=> k_is)
  (case z_int=> k_is)
  (case z_isinstance=> k_is)
  (case z_len=> k_is)
  (case z_list=> k_is)
  (case z_max=> k_is)
  (case z_min=> k_is)
  (case z_range=> k_is)
  (case z_reversed=> k_is)
  (case z_set=> k_is)
  (case z_sorted=> k_is)
  (case z_tuple=> k_is)
  (case bx_StakeError=> k_is)
  (case kit_NoField_Flat=> kit_is)
  (case kit_NoField_NoField=> kit_is)
  (case kit_NoField_NoHeart=> kit_is)
  (case kit_NoField_NoMove=> kit_is)
  (case kit_NoField_NoName=> kit_is)
  (case kit_NoField_NoNumber=> kit_is)
  (case kit_NoField_NoRow=> kit_is)
  (case kit_NoField_NoText=> kit_is)
  (case kit_NoField_NoWedge=> kit_is)
  (case kit_NoField_NotThere=> kit_is)
  (case kit_NoField_TooGreat=> kit_is)
  (case kit_NoField_TooMany=> kit_is)
  (case kit_NoField_ValueError=> kit_is)
  (case kit_NoMove_Flat=> kit_is)
  (case kit_NoMove_NoField=> kit_is)
  (case kit_NoMove_NoHeart=> kit_is)
  (case kit_NoMove_NoMove=> kit_is)
  (case kit_NoMove_NoName=> kit_is)
  (case kit_NoMove_NoNumber=> kit_is)
  (case kit_NoMove_NoRow=> kit_is)
  (case kit_NoMove_NoText=> kit_is)
  (case kit_NoMove_NoWedge=> kit_is)
  (case kit_NoMove_NotThere=> kit_is)
  (case kit_NoMove_TooGreat=> kit_is)
  (case kit_NoMove_TooMany=> kit_is)
  (case kit_NoMove_ValueError=> kit_is)
  (case sub_NoField_StakeError=> k_is)
  (case sub_NoMove_StakeError=> k_is)
  (case ty_StakeError=> k_is)
  (case xc_NoField=> exact ⟨by k_is,by k_is,by k_is,by k_is,by k_is,by k_is,by k_is⟩)
  (case xc_NoMove=> exact ⟨by k_is,by k_is,by k_is,by k_is,by k_is,by k_is,by k_is⟩)
