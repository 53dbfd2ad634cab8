import PyProof.Rows.All
import Wide.All
import OpenK.AllK
import Wide.FinOn
import Lean
import PyProof.EqAt
import PyProof.EqKinds
import PyProof.NeKinds
import PyProof.TupleCall
import KE.KDictSum
import KE.KSortTup
import KE.KRevIter
import KE.KRevSl
import PySem.Challenge.RW_stakefield_k33_share
set_option Elab.async false
set_option linter.all false
set_option maxRecDepth 100000
namespace L2
open PySem PySem.Spec PyProof.Rows
abbrev Key:=Sum Int Str
def xw:Key→Value→Bool
 | .inl k,v=> Value.isInt k v
 | .inr x,v=> Value.isStrOf x v
def AJ (w:World):Key→Int
 | .inl k=> hashInt k
 | .inr x=> hashStr w x
theorem bE:∀ {k:Key} {v:Value},xw k v=true→(∃ i t,k=Sum.inl i∧v=Value.int i t)∨(∃ x t,k=Sum.inr x∧v=Value.str x t)
 | .inl i,v,h=> by
  obtain ⟨t,e⟩:=Value.isInt_shape (k:=i) (v:=v) h
  exact .inl ⟨i,t,rfl,e⟩
 | .inr x,v,h=> by
  obtain ⟨t,e⟩:=Value.isStrOf_shape (x:=x) (v:=v) h
  exact .inr ⟨x,t,rfl,e⟩
theorem xW (a b:Int):decide ((Sum.inl a:Key)=Sum.inl b)=(a==b):=by
 by_cases e:a=b
 ·subst e; simp
 ·have h:¬ (Sum.inl a:Key)=Sum.inl b:=fun q=> e (Sum.inl.inj q)
  rw [decide_eq_false h]
  exact (beq_eq_false_iff_ne.mpr e).symm
theorem yz (a b:Str):decide ((Sum.inr a:Key)=Sum.inr b)=decide (a=b):=by
 by_cases e:a=b
 ·subst e; simp
 ·have h:¬ (Sum.inr a:Key)=Sum.inr b:=fun q=> e (Sum.inr.inj q)
  rw [decide_eq_false h,decide_eq_false e]
theorem yh (a:Int) (b:Str):decide ((Sum.inl a:Key)=Sum.inr b)=false:=decide_eq_false (fun q=> nomatch q)
theorem yF (a:Str) (b:Int):decide ((Sum.inr a:Key)=Sum.inl b)=false:=decide_eq_false (fun q=> nomatch q)
def qy (prog:Program) (w:World):PySem.KeyKind prog w Key where
 is:=xw
 hash:=AJ w
 inj:=fun v a b ha hb=> by
  rcases bE ha with ⟨i,t,rfl,rfl⟩ | ⟨x,t,rfl,rfl⟩
  ·rcases bE hb with ⟨j,u,rfl,e⟩ | ⟨y,u,rfl,e⟩
   ·injection e with e1 _; rw [e1]
   ·exact nomatch e
  ·rcases bE hb with ⟨j,u,rfl,e⟩ | ⟨y,u,rfl,e⟩
   ·exact nomatch e
   ·injection e with e1 _; rw [e1]
 byValue:=fun k v h=> by
  rcases bE h with ⟨i,t,rfl,rfl⟩ | ⟨x,t,rfl,rfl⟩ <;> rfl
 pyHash:=fun hv h=> by
  rcases bE hv with ⟨i,t,rfl,rfl⟩ | ⟨x,t,rfl,rfl⟩
  ·exact wpAny_pyHash_int h
  ·exact wpAny_pyHash_str h
 eqBool:=fun hu hv h=> by
  rcases bE hu with ⟨i,t,rfl,rfl⟩ | ⟨x,t,rfl,rfl⟩
  ·rcases bE hv with ⟨j,u,rfl,rfl⟩ | ⟨y,u,rfl,rfl⟩
   ·rw [xW] at h; exact wpAny_eqBool_int h
   ·rw [yh] at h; exact SeqAt.EqAt.int_str i t y u _ _ _ _ h
  ·rcases bE hv with ⟨j,u,rfl,rfl⟩ | ⟨y,u,rfl,rfl⟩
   ·rw [yF] at h; exact SeqAt.EqAt.str_int x t j u _ _ _ _ h
   ·rw [yz] at h; exact wpAny_eqBool_str h
 «strs»:=fun k x t v h=> by
  rcases bE h with ⟨i,u,rfl,e⟩ | ⟨y,u,rfl,e⟩
  ·exact nomatch e
  ·injection e with e1 _
   subst e1
   cases v <;> rfl
end L2
namespace L2
open PySem PySem.Spec PyProof.Rows
inductive V where
 | non | bl (b:Bool) | int (i:Int) | str (x:Str) | byt (b:Array UInt8) | flt (b:UInt64) | ref (a:Addr) | ty (n:String)
 deriving DecidableEq
def a_:V→Value→Prop
 | .non,u=> u=Value.none
 | .bl b,u=> u=Value.bool b
 | .int i,u=> ∃ t,u=Value.int i t
 | .str x,u=> ∃ t,u=Value.str x t
 | .byt b,u=> ∃ t,u=Value.bytes b t
 | .flt b,u=> ∃ t,u=Value.float b t
 | .ref a,u=> u=Value.ref a
 | .ty n,u=> u=Value.type n
abbrev aN:List V→List Value→Prop:=Paired a_
theorem aN.length {xs:List V} {us:List Value} (r:aN xs us):xs.length=us.length:=Paired.length r
theorem aN.get:∀ {xs:List V} {us:List Value} {i:Nat} {x:V},aN xs us→xs[i]?=some x→∃ u,us[i]?=some u∧a_ x u
 | _,_,_,_,.nil,e=> by simp at e
 | _,_,0,_,.cons r _,e=> by simp at e; subst e; exact ⟨_,rfl,r⟩
 | _,_,i+1,x,.cons _ t,e=> by
  obtain ⟨u,h1,h2⟩:=aN.get (i:=i) (x:=x) t (by simpa using e)
  exact ⟨u,by simpa using h1,h2⟩
theorem aN.append:∀ {xs ys:List V} {us ws:List Value},aN xs us→aN ys ws→aN (xs++ys) (us++ws)
 | _,_,_,_,.nil,s=> s
 | _,_,_,_,.cons r t,s=> .cons r (aN.append t s)
theorem aN.take:∀ {xs:List V} {us:List Value} (n:Nat),aN xs us→aN (xs.take n) (us.take n)
 | _,_,0,_=> .nil
 | _,_,_+1,.nil=> .nil
 | _,_,n+1,.cons r t=> .cons r (aN.take n t)
theorem aN.drop:∀ {xs:List V} {us:List Value} (n:Nat),aN xs us→aN (xs.drop n) (us.drop n)
 | _,_,0,r=> r
 | _,_,_+1,.nil=> .nil
 | _,_,n+1,.cons _ t=> aN.drop n t
def yH:Option V→Option Value→Prop
 | some v,some u=> a_ v u
 | none,none=> True
 | _,_=> False
def KV {κ:Type}:List (κ×V)→List (κ×Value)→Prop:=Paired fun (p:κ×V) (q:κ×Value)=> p.1=q.1∧a_ p.2 q.2
def kV:Key→V
 | .inl i=> .int i
 | .inr x=> .str x
inductive HO where
 /-- a list -/
 | lst (xs:List V)
 /-- a tuple (never changes) -/
 | tup (xs:List V)
 /-- a dict whose keys are ints and texts; one whose keys are tuples of ints and texts (the empty one is both) -/
 | dK (kvs:List (Key×V)) | dT (kvs:List (List Key×V))
 /-- a set of ints:its members,its size -/
 | set (S:Int→Bool) (n:Nat)
 /-- an instance of the class at C,its dict at dx,its attributes -/
 | ins (C dx:Addr) (fs:List (Str×V))
 /-- the dict of the instance at x -/
 | own (x:Addr)
 /-- the dict of an exception -/
 | xd (fs:List (Str×V))
 /-- a bound method,f of x -/
 | met (f x:Addr)
 /-- a range object lo,lo+1,.. below hi -/
 | rng (lo hi:Int)
 /-- a thing that is known to the object (the script; a dict while a loop walks it):read,never written while it is so -/
 | frz (o:Obj) (u:HO)
 /-- a code object's table -/
 | tbl (ps:Array Value)
 /-- any other thing,by what is true of its one object (a def of one's own:SetO a S n:=HO.ext fun h=> ..) -/
 | ext (φ:Heap→Prop)
abbrev Hp:=Addr→Option HO
def upd (H:Hp) (a:Addr) (o:HO):Hp:=fun b=> if b=a then some o else H b
theorem aX {H:Hp} {a:Addr} {o:HO}:upd H a o a=some o:=by unfold upd; rw [if_pos rfl]
theorem be {H:Hp} {a b:Addr} {o:HO} (h:b≠a):upd H a o b=H b:=by unfold upd; rw [if_neg h]
theorem cC {H:Hp} {a b:Addr} {o:HO} (h:H a=some o) (h':H b=none):a≠b:=by
 intro e; subst e; rw [h] at h'; cases h'
section
variable (P:Program) (w:World)
def cq (H:Hp) (h:Heap) (a:Addr):HO→Prop
 | .lst xs=> xs.length≤sizeLine∧∃ (its:List Value) (n:Nat),aN xs its∧h.get? a=some { cls:=.type "list",data:=.seq its.toArray n }
 | .tup xs=> xs.length≤sizeLine∧∃ its:List Value,aN xs its∧IsTup h a its.toArray
 | .dK kvs=> kvs.length≤sizeLine∧(a==sysModules)=false∧∃ vs,KV kvs vs∧h.DictOf (qy P w) a vs
 | .dT kvs=> kvs.length≤sizeLine∧(a==sysModules)=false∧∃ xs:List (List Key×Addr×Value),
   Paired (fun (p:List Key×V) (q:List Key×Addr×Value)=> p.1=q.1∧H q.2.1=some (.tup (p.1.map kV))∧a_ p.2 q.2.2) kvs xs∧
   ∃ o es ep,h.get? a=some o∧o.ExactDict∧o.data=.dict es ep∧es.toList=xs.map (entryOfKey (tupleKind (qy P w)))∧(xs.map (·.1)).Nodup
 | .set S n=> h.SetOf (intKind P w) a S n
 | .ins C dx fs=> H dx=some (.own a)∧fs.length≤1000∧dx≠a∧h.get? a=some (PySem.W.instObj C dx)∧
   ∃ mA,h.Ns1 dx mA∧(∀ f,yH (fs.lookup f) (mA f))∧PySem.Within mA (fs.map (·.1))
 | .own _=> ∃ o,h.get? a=some o
 | .xd fs=> ∃ mA,h.Ns1 a mA∧∀ f,yH (fs.lookup f) (mA f)
 | .rng lo hi=> ∃ t u v,h.get? a=some { cls:=.type "range",data:=.fields #[.int lo t,.int hi u,.int 1 v] }
 | .frz o u=> h.get? a=some o∧cq H h a u
 | .tbl ps=> h.get? a=some { cls:=.none,data:=.fields ps }
 | .met f x=> h.get? a=some (PySem.W.methodObj (.ref f) (.ref x))
 | .ext φ=> φ h∧(∃ o,h.get? a=some o)∧∀ h1 h2:Heap,φ h1→(∀ o,h1.get? a=some o→h2.get? a=some o)→φ h2
def HOk (H:Hp) (h:Heap):Prop:=∀ a o,H a=some o→cq P w H h a o
end
section
variable {P:Program} {w:World} {H H':Hp} {h h':Heap} {a:Addr} {o:HO}
theorem cq.lt (x:cq P w H h a o):a < h.objs.size:=by
 cases o with
 | lst xs=> obtain ⟨_,_,_,_,e⟩:=x; exact Heap.lt_size e
 | tup xs=> obtain ⟨_,_,_,p⟩:=x; exact p.lt
 | dK kvs=> obtain ⟨_,_,_,_,o,_,_,e,_⟩:=x; exact Heap.lt_size e
 | dT kvs=> obtain ⟨_,_,_,_,o,_,_,e,_⟩:=x; exact Heap.lt_size e
 | set S n=> obtain ⟨o,_,_,_,e,_⟩:=x; exact Heap.lt_size e
 | ins C dx fs=> obtain ⟨_,_,_,e,_⟩:=x; exact Heap.lt_size e
 | own y=> obtain ⟨_,e⟩:=x; exact Heap.lt_size e
 | xd fs=> obtain ⟨_,⟨_,_,_,e,_⟩,_⟩:=x; exact Heap.lt_size e
 | rng lo hi=> obtain ⟨_,_,_,e⟩:=x; exact Heap.lt_size e
 | frz ob u=> obtain ⟨e,_⟩:=x; exact Heap.lt_size e
 | tbl ps=> exact Heap.lt_size (show h.get? a=some _ from x)
 | met f y=> exact Heap.lt_size (show h.get? a=some _ from x)
 | ext φ=> obtain ⟨_,⟨_,e⟩,_⟩:=x; exact Heap.lt_size e
theorem Paired.mapP {α β:Type} {F G:α→β→Prop}:∀ {l₁:List α} {l₂:List β},Paired F l₁ l₂→(∀ a b,F a b→G a b)→Paired G l₁ l₂
 | _,_,.nil,_=> .nil
 | _,_,.cons r t,f=> .cons (f _ _ r) (Paired.mapP t f)
theorem cq.stay (x:cq P w H h a o) (k:∀ b u,(b=a∨H b=some (.own a))→h.get? b=some u→h'.get? b=some u)
  (ho:∀ b,H b=some (.own a)→H' b=some (.own a)) (ht:∀ b xs,H b=some (.tup xs)→H' b=some (.tup xs)):cq P w H' h' a o:=by
 induction o with
 | lst xs=> obtain ⟨z,its,n,r,e⟩:=x; exact ⟨z,its,n,r,k _ _ (.inl rfl) e⟩
 | tup xs=> obtain ⟨z,its,r,ob,e,c⟩:=x; exact ⟨z,its,r,ob,k _ _ (.inl rfl) e,c⟩
 | dK kvs=> obtain ⟨z,y,vs,r,ob,es,ep,e,c⟩:=x; exact ⟨z,y,vs,r,ob,es,ep,k _ _ (.inl rfl) e,c⟩
 | dT kvs=>
  obtain ⟨z,y,xs,r,ob,es,ep,e,c⟩:=x
  exact ⟨z,y,xs,Paired.mapP r fun p q z=> ⟨z.1,ht _ _ z.2.1,z.2.2⟩,ob,es,ep,k _ _ (.inl rfl) e,c⟩
 | set S n=> obtain ⟨ob,es,ep,t,e,c⟩:=x; exact ⟨ob,es,ep,t,k _ _ (.inl rfl) e,c⟩
 | ins C dx fs=>
  obtain ⟨d,z,ne,e,mA,⟨od,es,ep,e2,c⟩,r⟩:=x
  exact ⟨ho _ d,z,ne,k _ _ (.inl rfl) e,mA,⟨od,es,ep,k _ _ (.inr d) e2,c⟩,r⟩
 | own y=> obtain ⟨ob,e⟩:=x; exact ⟨ob,k _ _ (.inl rfl) e⟩
 | xd fs=> obtain ⟨mA,⟨od,es,ep,e,c⟩,r⟩:=x; exact ⟨mA,⟨od,es,ep,k _ _ (.inl rfl) e,c⟩,r⟩
 | rng lo hi=> obtain ⟨t,u,v,e⟩:=x; exact ⟨t,u,v,k _ _ (.inl rfl) e⟩
 | frz ob u ih=> obtain ⟨e,q⟩:=x; exact ⟨k _ _ (.inl rfl) e,ih q⟩
 | tbl ps=>
  have e:h.get? a=some { cls:=.none,data:=.fields ps }:=x
  show h'.get? a=some { cls:=.none,data:=.fields ps }
  exact k a _ (.inl rfl) e
 | met f y=>
  have e:h.get? a=some (PySem.W.methodObj (.ref f) (.ref y)):=x
  show h'.get? a=some (PySem.W.methodObj (.ref f) (.ref y))
  exact k a _ (.inl rfl) e
 | ext φ=> obtain ⟨p,⟨o,e⟩,st⟩:=x; exact ⟨st _ _ p fun o q=> k _ _ (.inl rfl) q,⟨o,k _ _ (.inl rfl) e⟩,st⟩
theorem HOk.lt (x:HOk P w H h) (e:H a=some o):a < h.objs.size:=(x a o e).lt
theorem HOk.fresh (x:HOk P w H h) (e:h.objs.size≤a):H a=none:=by
 cases q:H a with
 | none=> rfl
 | some u=> exact absurd (Nat.lt_of_lt_of_le (x.lt q) e) (Nat.lt_irrefl _)
theorem HOk.kept (x:HOk P w H h) (k:∀ b u,h.get? b=some u→h'.get? b=some u):HOk P w H h':=fun a o e=>
 (x a o e).stay (fun b u _ q=> k b u q) (fun _ q=> q) fun _ _ q=> q
theorem HOk.laid (x:HOk P w H h) (k:∀ b u,h.get? b=some u→h'.get? b=some u) (hp:h.objs.size≤a) (new:cq P w (upd H a o) h' a o):HOk P w (upd H a o) h':=fun b u e=> by
 have hn:=x.fresh hp
 by_cases hb:b=a
 ·subst hb; rw [aX] at e; cases e; exact new
 ·rw [be hb] at e
  exact (x b u e).stay (fun c v _ q=> k c v q) (fun c q=> by rw [be (cC q hn)]; exact q) fun c xs q=> by rw [be (cC q hn)]; exact q
end
def Rd (H:Hp) (a:Addr) (u:HO):Prop:=H a=some u∨∃ o,H a=some (.frz o u)
theorem Rd.ok {P:Program} {w:World} {H:Hp} {h:Heap} {a:Addr} {u:HO} (r:Rd H a u) (x:HOk P w H h):cq P w H h a u:=by
 rcases r with r | ⟨o,r⟩
 ·exact x a u r
 ·obtain ⟨_,q⟩:=x a _ r
  exact q
def Mut:Option HO→Prop
 | some (.lst _)=> True
 | some (.dK _)=> True
 | some (.dT _)=> True
 | some (.set _ _)=> True
 | some (.ins _ _ _)=> True
 | some (.ext _)=> True
 | _=> False
section
variable {P:Program} {w:World} {H:Hp} {h h':Heap} {x e:Addr} {o':HO}
theorem HOk.write (ok:HOk P w H h) (mu:Mut (H x)) (he:e=x∨H e=some (.own x)) (k:∀ b u,b≠e→h.get? b=some u→h'.get? b=some u) (heo:∃ u,h'.get? e=some u)
  (new:cq P w (upd H x o') h' x o'):HOk P w (upd H x o') h':=fun b u q=> by
 have nown:∀ c y,H c=some (.own y)→c≠x:=fun c y r z=> by subst z; rw [r] at mu; exact mu
 have ntup:∀ c xs,H c=some (.tup xs)→c≠x:=fun c xs r z=> by subst z; rw [r] at mu; exact mu
 by_cases hb:b=x
 ·subst hb; rw [aX] at q; cases q; exact new
 ·rw [be hb] at q
  by_cases hbe:b=e
  ·have q':H b=some (.own x):=by
    rcases he with z | z
    ·exact absurd (hbe.trans z) hb
    ·rw [hbe]; exact z
   rw [q] at q'; cases q'
   obtain ⟨v,hv⟩:=heo
   exact ⟨v,by rw [hbe]; exact hv⟩
  ·refine (ok b u q).stay (fun c v hc r=> k c v ?_ r) (fun c r=> by rw [be (nown c b r)]; exact r) fun c xs r=> by rw [be (ntup c xs r)]; exact r
   rcases hc with rfl | hc
   ·exact hbe
   ·rintro rfl
    rcases he with z | z
    ·exact nown c b hc z
    ·rw [hc] at z; cases z; exact hb rfl
end
structure Un (fs ex:List Addr) (H H':Hp) (h h':Heap):Prop where
 keep:∀ b o,h.get? b=some o→H b=none→b ∉ fs→b ∉ ex→h'.get? b=some o
 slot:∀ b o,h.get? b=some o→H b=none→b∈fs→b ∉ ex→∃ sl,h'.get? b=some { o with slots:=sl }
 free:∀ b o,h.get? b=some o→H b=none→b ∉ ex→H' b=none
 there:∀ b o,h.get? b=some o→b ∉ ex→∃ o',h'.get? b=some o'
 tups:∀ b xs,H b=some (.tup xs)→H' b=some (.tup xs)
 frzs:∀ b o u,H b=some (.frz o u)→H' b=some (.frz o u)
 tbls:∀ b ps,H b=some (.tbl ps)→∃ more,H' b=some (.tbl (ps++more))
section
variable {fs fs' ex ex':List Addr} {H H1 H2:Hp} {h h1 h2 h':Heap} {a x e:Addr} {o:HO}
theorem Un.any (u:Un fs ex H H1 h h1) {b:Addr} {ob:Obj} (q:h.get? b=some ob) (n:H b=none) (hx:b ∉ ex):∃ sl,h1.get? b=some { ob with slots:=sl }:=by
 by_cases hb:b∈fs
 ·exact u.slot b ob q n hb hx
 ·exact ⟨ob.slots,u.keep b ob q n hb hx⟩
theorem Un.kept (k:∀ b u,h.get? b=some u→h'.get? b=some u):Un fs ex H H h h':=
 ⟨fun b ob q _ _ _=> k b ob q,fun b ob q _ _ _=> ⟨ob.slots,k b ob q⟩,fun _ _ _ n _=> n,fun b ob q _=> ⟨ob,k b ob q⟩,fun _ _ q=> q,fun _ _ _ q=> q,fun _ ps q=> ⟨#[],by rw [q]; simp⟩⟩
theorem Un.refl:Un fs ex H H h h:=Un.kept fun _ _ q=> q
theorem Un.laid (k:∀ b u,h.get? b=some u→h'.get? b=some u) (hp:h.objs.size≤a) (hn:H a=none):Un fs ex H (upd H a o) h h' where
 keep:=fun b u q _ _ _=> k b u q
 slot:=fun b u q _ _ _=> ⟨u.slots,k b u q⟩
 free:=fun b u q n _=> by rw [be (Nat.ne_of_lt (Nat.lt_of_lt_of_le (Heap.lt_size q) hp))]; exact n
 there:=fun b u q _=> ⟨u,k b u q⟩
 tups:=fun b xs q=> by rw [be (cC q hn)]; exact q
 frzs:=fun b u xs q=> by rw [be (cC q hn)]; exact q
 tbls:=fun b ps q=> ⟨#[],by rw [be (cC q hn),q]; simp⟩
theorem Un.write (mu:Mut (H x)) (he:e=x∨H e=some (.own x)) (k:∀ b u,b≠e→h.get? b=some u→h'.get? b=some u) (heo:∃ u,h'.get? e=some u):Un fs ex H (upd H x o) h h':=by
 have hx:∀ b,H b=none→b≠x:=fun b n z=> by subst z; rw [n] at mu; exact mu
 have hb:∀ b,H b=none→b≠e:=fun b n z=> by
  subst z
  rcases he with r | r
  ·exact hx b n r
  ·rw [n] at r; cases r
 have hm:∀ b u,H b=some u→¬ Mut (some u)→b≠x:=fun b u q nm z=> by subst z; rw [q] at mu; exact nm mu
 refine ⟨fun b u q n _ _=> k b u (hb b n) q,fun b u q n _ _=> ⟨u.slots,k b u (hb b n) q⟩,fun b u q n _=> by rw [be (hx b n)]; exact n,fun b u q _=> ?_,
  fun b xs q=> by rw [be (hm b _ q fun z=> z)]; exact q,fun b u xs q=> by rw [be (hm b _ q fun z=> z)]; exact q,fun b ps q=> ⟨#[],by rw [be (hm b _ q fun z=> z),q]; simp⟩⟩
 by_cases hbe:b=e
 ·subst hbe; exact heo
 ·exact ⟨u,k b u hbe q⟩
end
def trk (h:Heap) (H:Hp):List Addr:=(List.range h.objs.size).filter fun a=> (H a).isSome
def kZ (h:Heap) (H:Hp):Heap:=PySem.W.hideAll h (trk h H)
theorem qI (h:Heap) (H:Hp):(kZ h H).objs.size=h.objs.size:=PySem.W.hideAll_size _ _
theorem sH {h:Heap} {H:Hp} {b:Addr} {o:Obj} (e:h.get? b=some o) (n:H b=none):(kZ h H).get? b=some o:=
 PySem.W.hideAll_get _ e fun hm=> by
  have q:(H b).isSome=true:=(List.mem_filter.mp hm).2
  rw [n] at q; simp at q
theorem wI {h:Heap} {H:Hp} {b:Addr} {o:Obj} (e:(kZ h H).get? b=some o):h.get? b=some o∧H b=none:=by
 have e':h.get? b=some o:=PySem.W.of_hideAll (trk h H) e
 refine ⟨e',?_⟩
 cases q:H b with
 | none=> rfl
 | some x=>
  have hm:b∈trk h H:=List.mem_filter.mpr ⟨List.mem_range.mpr (Heap.lt_size e'),by simp [q]⟩
  have z:(kZ h H).get? b=none:=PySem.W.hideAll_none (trk h H) hm
  rw [z] at e; cases e
def v0 (g h:Heap) (L:Addr):List (Addr×Obj):=(List.range h.objs.size).filterMap fun a=> if a=L∨(g.get? a).isSome=true then none else (h.get? a).map fun o=> (a,o)
def rest (g h:Heap) (L d:Addr):List (Addr×Obj):=(v0 g h L).filter fun p=> decide (p.1≠d)
end L2
namespace L2
open PySem PySem.Spec PyProof.Rows
structure Mod (K:PySem.W.Frag) (mg:Str→Option Value) (base:Heap):Prop where
 kin:K.In base
 glob:base.Ns mainGlobals mg
 blt:∃ mb,base.Ns builtinsNs mb∧∀ x:Str,x≠"__name__"→mb x=bootBuiltins x
 nolimit:base.NoLimit
structure Cx where
 prog:Program
 w:World
 K:PySem.W.Frag
 mg:Str→Option Value
 base:Heap
 A:Around
 N:List Str
 s₀:Shared
 H₀:Hp
 env:Env
 outer:List Env
 stack:List Env
 ex:List Addr
 fn:Str→Bool
 calm:Bool
 pn:List (Addr×Obj)
 xe:Value→Shared→Prop
def frs (l:List Env):List Addr:=l.filterMap (·.frame)
abbrev Cx.fs (X:Cx):List Addr:=frs X.outer
def Vis (sc:Scope) (x:Str):Prop:=sc.names.lookup x=some .local∨sc.names.lookup x=some .cell∨sc.names.lookup x=some .free
def Loc (sc:Scope) (x:Str):Prop:=sc.names.lookup x=some .local∨sc.names.lookup x=some .cell
def AI (env:Env) (h:Heap) (m:Str→Option Value) (x:Str) (u:Value):Prop:=
 (env.kindOf x=some .local∧m x=some u)∨((env.kindOf x=some .cell∨env.kindOf x=some .free)∧∃ c,env.cells.lookup x=some c∧h.IsCell c (some u))
structure Cx.Ok (X:Cx):Prop where
 mod:Mod X.K X.mg X.base
 kind:X.env.scope.kind=.function
 glob:X.env.globals=mainGlobals
 blt:X.env.builtins=builtinsNs
 above:X.s₀.heap.objs.size≤X.env.locals
 inj:∀ x y c,X.env.cells.lookup x=some c→X.env.cells.lookup y=some c→x=y
 has:∀ x,(X.env.kindOf x=some .cell∨X.env.kindOf x=some .free)→∃ c,X.env.cells.lookup x=some c
 cab:∀ x c,X.fn x=true→X.env.cells.lookup x=some c→X.s₀.heap.objs.size≤c
 hd:X.calm=true→X.A.handled=none
 frames:X.A.frames=some X.stack
 stk:X.stack=X.outer∨(X.stack=X.env::X.outer∧X.env.frame=some X.env.locals)
 exf:∀ b∈X.ex,b≠X.env.locals∧∀ x c,X.env.cells.lookup x=some c→c≠b
 bs:∀ b o,X.base.get? b=some o→X.s₀.heap.get? b=some o∧X.H₀ b=none
 bsz:X.base.objs.size≤X.s₀.heap.objs.size
 noex:∀ b o,X.base.get? b=some o→b ∉ X.ex
 exfs:∀ b∈X.ex,b ∉ X.fs
 funs:X.s₀.heap.FunFrames X.base X.outer
 frf:∀ b∈X.fs,X.H₀ b=none
structure Inv (X:Cx) (pins:List (Addr×Obj)) (σ:List (Option V)) (H:Hp) (s:Shared):Prop where
 ok:X.Ok
 os:s.os=X.s₀.os
 bare:AllBare s.gens
 base:Un X.fs X.ex X.H₀ H X.s₀.heap s.heap
 loc:∃ m,s.heap.Ns X.env.locals m∧∀ (i:Nat) (x:Str) (v:V),X.N[i]?=some x→σ[i]?=some (some v)→Vis X.env.scope x→∃ u,a_ v u∧AI X.env s.heap m x u
 cell:∀ x c,X.env.cells.lookup x=some c→∃ v,s.heap.IsCell c v
 free:H X.env.locals=none
 freeC:∀ x c,X.env.cells.lookup x=some c→H c=none
 pin:∀ p∈X.pn++pins,s.heap.get? p.1=some p.2∧H p.1=none∧p.1≠X.env.locals∧p.1 ∉ X.fs∧∀ v,p.2.data≠.cell v
 hok:HOk X.prog X.w H s.heap
 len:σ.length=X.N.length
section
variable {X:Cx} {pins:List (Addr×Obj)} {σ:List (Option V)} {H H':Hp} {s:Shared} {h':Heap}
theorem Cx.Ok.nofr (ok:X.Ok) {b:Addr} {o:Obj} (e:X.base.get? b=some o):b ∉ X.fs:=fun hb=> by
 have:=(ok.funs.mem hb).1
 rw [e] at this; cases this
theorem Inv.bs (I:Inv X pins σ H s):∀ b o,X.base.get? b=some o→s.heap.get? b=some o∧H b=none:=fun b o e=>
 ⟨I.base.keep b o (I.ok.bs b o e).1 (I.ok.bs b o e).2 (I.ok.nofr e) (I.ok.noex b o e),I.base.free b o (I.ok.bs b o e).1 (I.ok.bs b o e).2 (I.ok.noex b o e)⟩
theorem Inv.bk (I:Inv X pins σ H s):∀ b o,X.base.get? b=some o→s.heap.get? b=some o:=fun b o e=> (I.bs b o e).1
theorem Inv.mod (I:Inv X pins σ H s):Mod X.K X.mg X.base:=I.ok.mod
theorem Inv.kIn (I:Inv X pins σ H s):X.K.In s.heap:=I.ok.mod.kin.keeps I.bk
theorem Inv.lt (I:Inv X pins σ H s):X.env.locals < s.heap.objs.size:=let ⟨_,hn,_⟩:=I.loc; hn.lt
theorem Inv.sz (I:Inv X pins σ H s):X.s₀.heap.objs.size≤s.heap.objs.size:=Nat.le_trans I.ok.above (Nat.le_of_lt I.lt)
theorem Inv.nofs (I:Inv X pins σ H s) {a:Addr} (h:s.heap.objs.size≤a):a ∉ X.fs:=fun hb=> by
 obtain ⟨_,o,ho,_⟩:=I.ok.funs.mem hb
 exact absurd (Nat.lt_of_lt_of_le (Heap.lt_size ho) (Nat.le_trans I.sz h)) (Nat.lt_irrefl _)
theorem Inv.cne (I:Inv X pins σ H s):∀ x c,X.env.cells.lookup x=some c→c≠X.env.locals:=fun x c e z=> by
 obtain ⟨v,o,ho,hd⟩:=I.cell x c e
 obtain ⟨m,⟨o',es,ep,ho',hd',_⟩,_⟩:=I.loc
 rw [z,ho'] at ho; cases ho; rw [hd'] at hd; cases hd
theorem Inv.funs (I:Inv X pins σ H s):s.heap.FunFrames X.base X.outer:=by
 have all:∀ (l:List Env),(∀ b∈frs l,b∈X.fs)→X.s₀.heap.FunFrames X.base l→s.heap.FunFrames X.base l:=by
  intro l
  induction l with
  | nil=> intro _ _; trivial
  | cons env r ih=>
   intro hs hl
   obtain ⟨hk,⟨L,o,hf,hn,ho,hd⟩,hr⟩:=hl
   have hL:L∈X.fs:=hs L (by unfold frs; rw [List.filterMap_cons,hf]; exact List.mem_cons_self)
   obtain ⟨sl,e⟩:=I.base.slot L o ho (I.ok.frf L hL) hL fun z=> I.ok.exfs L z hL
   exact ⟨hk,⟨L,_,hf,hn,e,hd⟩,ih (fun b hb=> hs b (by unfold frs; rw [List.filterMap_cons,hf]; exact List.mem_cons_of_mem _ hb)) hr⟩
 exact all X.outer (fun _ hb=> hb) I.ok.funs
theorem Inv.stack (I:Inv X pins σ H s):s.heap.FunFrames X.base X.stack:=by
 rcases I.ok.stk with e | ⟨e,hf⟩
 ·rw [e]; exact I.funs
 ·rw [e]
  obtain ⟨m,hn,_⟩:=I.loc
  refine .cons (by rw [I.ok.kind]; decide) hf hn ?_ I.funs
  exact Heap.get?_none_of_le (Nat.le_trans I.ok.bsz I.ok.above)
theorem Inv.stkSub (I:Inv X pins σ H s):∀ b∈frs X.stack,b∈X.env.locals::X.fs:=fun b hb=> by
 rcases I.ok.stk with e | ⟨e,hf⟩
 ·rw [e] at hb; exact List.mem_cons_of_mem _ hb
 ·rw [e] at hb
  unfold frs at hb
  rw [List.filterMap_cons,hf] at hb
  exact hb
theorem Inv.stkFree (I:Inv X pins σ H s):∀ b∈frs X.stack,H b=none:=fun b hb=> by
 rcases List.mem_cons.mp (I.stkSub b hb) with e | hb
 ·rw [e]; exact I.free
 ·obtain ⟨_,o,ho,_⟩:=I.ok.funs.mem hb
  exact I.base.free b o ho (I.ok.frf b hb) fun z=> I.ok.exfs b z hb
theorem Inv.step {g':Array GenState} {t':Nat} {d':Drawn} {ch:List Addr} (I:Inv X pins σ H s)
  (hch:∀ b∈ch,(b∈X.ex∨X.s₀.heap.objs.size≤b)∧b≠X.env.locals∧(∀ x c,X.env.cells.lookup x=some c→c≠b)∧∀ p∈X.pn++pins,p.1≠b)
  (keep:∀ b o,b≠X.env.locals→b ∉ X.fs→b ∉ ch→s.heap.get? b=some o→H b=none→h'.get? b=some o)
  (slot:∀ b o,b≠X.env.locals→b∈X.fs→b ∉ ch→s.heap.get? b=some o→H b=none→∃ sl,h'.get? b=some { o with slots:=sl }) (free:∀ b o,b ∉ ch→s.heap.get? b=some o→H b=none→H' b=none)
  (there:∀ b o,b ∉ ch→s.heap.get? b=some o→∃ o',h'.get? b=some o')
  (tups:∀ b xs,H b=some (.tup xs)→H' b=some (.tup xs)) (frzs:∀ b o u,H b=some (.frz o u)→H' b=some (.frz o u)) (tbls:∀ b ps,H b=some (.tbl ps)→∃ more,H' b=some (.tbl (ps++more)))
  (ns:∀ m,s.heap.Ns X.env.locals m→h'.Ns X.env.locals m) (hok:HOk X.prog X.w H' h') (hg:AllBare g'):
  Inv X pins σ H' { s with heap:=h',gens:=g',drawn:=d',toks:=t' }:=by
 have neL:∀ b o,X.s₀.heap.get? b=some o→b≠X.env.locals:=fun b o e=> Nat.ne_of_lt (Nat.lt_of_lt_of_le (Heap.lt_size e) I.ok.above)
 have neC:∀ b o,X.s₀.heap.get? b=some o→b ∉ X.ex→b ∉ ch:=fun b o e hx hb=> by
  rcases (hch b hb).1 with z | z
  ·exact hx z
  ·exact absurd (Nat.lt_of_lt_of_le (Heap.lt_size e) z) (Nat.lt_irrefl _)
 have cellK:∀ x c,X.env.cells.lookup x=some c→∀ v,s.heap.IsCell c v→h'.IsCell c v:=fun x c e v ⟨o,ho,hd⟩=> by
  have nch:c ∉ ch:=fun z=> (hch c z).2.2.1 x c e rfl
  by_cases hc:c∈X.fs
  ·obtain ⟨sl,q⟩:=slot c o (I.cne x c e) hc nch ho (I.freeC x c e)
   exact ⟨_,q,hd⟩
  ·exact ⟨o,keep c o (I.cne x c e) hc nch ho (I.freeC x c e),hd⟩
 refine ⟨I.ok,I.os,hg,⟨fun b o e n hb hx=> ?_,fun b o e n hb hx=> ?_,fun b o e n hx=> ?_,fun b o e hx=> ?_,fun b xs e=> tups b xs (I.base.tups b xs e),fun b o xs e=> frzs b o xs (I.base.frzs b o xs e),fun b ps e=> ?_⟩,?_,fun x c e=> ?_,?_,fun x c e=> ?_,fun p hp=> ?_,hok,I.len⟩
 ·exact keep b o (neL b o e) hb (neC b o e hx) (I.base.keep b o e n hb hx) (I.base.free b o e n hx)
 ·obtain ⟨sl,e1⟩:=I.base.slot b o e n hb hx
  obtain ⟨sl',e2⟩:=slot b _ (neL b o e) hb (neC b o e hx) e1 (I.base.free b o e n hx)
  exact ⟨sl',e2⟩
 ·obtain ⟨o',e1⟩:=I.base.there b o e hx
  exact free b o' (neC b o e hx) e1 (I.base.free b o e n hx)
 ·obtain ⟨o',e1⟩:=I.base.there b o e hx
  exact there b o' (neC b o e hx) e1
 ·obtain ⟨m1,e1⟩:=I.base.tbls b ps e
  obtain ⟨m2,e2⟩:=tbls b _ e1
  exact ⟨m1++m2,by rw [e2,Array.append_assoc]⟩
 ·obtain ⟨m,hn,hl⟩:=I.loc
  refine ⟨m,ns m hn,fun i x v e1 e2 e3=> ?_⟩
  obtain ⟨u,r,l⟩:=hl i x v e1 e2 e3
  refine ⟨u,r,?_⟩
  rcases l with l | ⟨k,c,e,z⟩
  ·exact .inl l
  ·exact .inr ⟨k,c,e,cellK x c e _ z⟩
 ·obtain ⟨v,z⟩:=I.cell x c e
  exact ⟨v,cellK x c e v z⟩
 ·obtain ⟨m,⟨o,_,_,ho,_⟩,_⟩:=I.loc
  exact free _ o (fun z=> (hch _ z).2.1 rfl) ho I.free
 ·obtain ⟨v,o,ho,hd⟩:=I.cell x c e
  exact free c o (fun z=> (hch c z).2.2.1 x c e rfl) ho (I.freeC x c e)
 ·obtain ⟨e,n,ne,nf,d⟩:=I.pin p hp
  have nch:p.1 ∉ ch:=fun z=> (hch p.1 z).2.2.2 p hp rfl
  exact ⟨keep p.1 p.2 ne nf nch e n,free p.1 p.2 nch e n,ne,nf,d⟩
theorem Inv.un {t':Nat} (I:Inv X pins σ H s) (u:Un X.fs [] H H' s.heap h') (hok:HOk X.prog X.w H' h'):Inv X pins σ H' { s with heap:=h',toks:=t' }:=by
 obtain ⟨m,⟨o,es,ep,ho,r⟩,_⟩:=id I.loc
 obtain ⟨sl,hL⟩:=u.any ho I.free (by simp)
 exact I.step (g':=s.gens) (d':=s.drawn) (ch:=[]) (fun _ z=> nomatch z) (fun b o _ hb _ e n=> u.keep b o e n hb (by simp)) (fun b o _ hb _ e n=> u.slot b o e n hb (by simp)) (fun b o _ e n=> u.free b o e n (by simp)) (fun b o _ e=> u.there b o e (by simp)) u.tups u.frzs u.tbls (fun m' hm=> by
  obtain ⟨o',es',ep',ho',r'⟩:=hm
  rw [ho] at ho'; cases ho'
  exact ⟨_,es',ep',hL,r'⟩) hok I.bare
theorem Inv.call {g':Array GenState} {t':Nat} {d':Drawn} {ch:List Addr} (I:Inv X pins σ H s) (u:Un (frs X.stack) ch H H' s.heap h') (hok:HOk X.prog X.w H' h') (hg:AllBare g')
  (hch:∀ b∈ch,(b∈X.ex∨X.s₀.heap.objs.size≤b)∧b≠X.env.locals∧(∀ x c,X.env.cells.lookup x=some c→c≠b)∧∀ p∈X.pn++pins,p.1≠b):
  Inv X pins σ H' { s with heap:=h',gens:=g',drawn:=d',toks:=t' }:=by
 obtain ⟨m,⟨o,es,ep,ho,r⟩,_⟩:=id I.loc
 obtain ⟨sl,hL⟩:=u.any ho I.free fun z=> (hch _ z).2.1 rfl
 exact I.step (ch:=ch) hch (fun b o hL hb hc e n=> u.keep b o e n (fun z=> (List.mem_cons.mp (I.stkSub b z)).elim hL hb) hc) (fun b o _ _ hc e n=> u.any e n hc) (fun b o hc e n=> u.free b o e n hc) (fun b o hc e=> u.there b o e hc) u.tups u.frzs u.tbls (fun m' hm=> by
  obtain ⟨o',es',ep',ho',r'⟩:=hm
  rw [ho] at ho'; cases ho'
  exact ⟨_,es',ep',hL,r'⟩) hok hg
theorem Inv.turned {t':Nat} {it:Addr} (I:Inv X pins σ H s) (k:∀ b o,b≠it→s.heap.get? b=some o→h'.get? b=some o) (hn:H it=none) (hL:it≠X.env.locals)
  (h1:it∈X.ex∨X.s₀.heap.objs.size≤it) (h2:∀ x c,X.env.cells.lookup x=some c→c≠it) (h3:∀ p∈X.pn++pins,p.1≠it):Inv X pins σ H { s with heap:=h',toks:=t' }:=by
 have nit:∀ b u,H b=some u→b≠it:=fun b u e z=> by rw [z,hn] at e; cases e
 refine I.step (g':=s.gens) (d':=s.drawn) (ch:=[it]) (fun b hb=> ?_) (fun b o _ _ hc e _=> k b o (fun z=> hc (by simp [z])) e) (fun b o _ _ hc e _=> ⟨o.slots,k b o (fun z=> hc (by simp [z])) e⟩) (fun _ _ _ _ n=> n)
  (fun b o hc e=> ⟨o,k b o (fun z=> hc (by simp [z])) e⟩) (fun _ _ e=> e) (fun _ _ _ e=> e) (fun b ps e=> ⟨#[],by rw [e]; simp⟩) (fun m hm=> ?_) (fun b u e=> ?_) I.bare
 ·have e:b=it:=by simpa using hb
  subst e
  exact ⟨h1,hL,h2,h3⟩
 ·obtain ⟨o,es,ep,ho,r⟩:=hm
  exact ⟨o,es,ep,k _ o (Ne.symm hL) ho,r⟩
 ·refine (I.hok b u e).stay (fun c v hc q=> k c v ?_ q) (fun _ q=> q) fun _ _ q=> q
  rcases hc with z | z
  ·rw [z]; exact nit b u e
  ·exact nit c _ z
theorem Inv.tok (I:Inv X pins σ H s) (t:Nat):Inv X pins σ H { s with toks:=t }:=I.un (h':=s.heap) (t':=t) Un.refl I.hok
theorem Inv.kept {t':Nat} (I:Inv X pins σ H s) (k:∀ b u,s.heap.get? b=some u→h'.get? b=some u):Inv X pins σ H { s with heap:=h',toks:=t' }:=I.un (Un.kept k) (I.hok.kept k)
theorem Inv.laid {a:Addr} {o:HO} {t':Nat} (I:Inv X pins σ H s) (k:∀ b u,s.heap.get? b=some u→h'.get? b=some u) (hp:s.heap.objs.size≤a) (new:cq X.prog X.w (upd H a o) h' a o):
  Inv X pins σ (upd H a o) { s with heap:=h',toks:=t' }:=I.un (Un.laid k hp (I.hok.fresh hp)) (I.hok.laid k hp new)
theorem Inv.write {x e:Addr} {o:HO} {t':Nat} (I:Inv X pins σ H s) (mu:Mut (H x)) (he:e=x∨H e=some (.own x)) (k:∀ b u,b≠e→s.heap.get? b=some u→h'.get? b=some u) (heo:∃ u,h'.get? e=some u)
  (new:cq X.prog X.w (upd H x o) h' x o):Inv X pins σ (upd H x o) { s with heap:=h',toks:=t' }:=I.un (Un.write mu he k heo) (I.hok.write mu he k heo new)
theorem Inv.weak {σ':List (Option V)} (I:Inv X pins σ H s) (hl:σ'.length=σ.length) (w:∀ (i:Nat) v,σ'[i]?=some (some v)→σ[i]?=some (some v)):Inv X pins σ' H s:=
 ⟨I.ok,I.os,I.bare,I.base,let ⟨m,hn,hl'⟩:=I.loc; ⟨m,hn,fun i x v e1 e2 e3=> hl' i x v e1 (w i v e2) e3⟩,I.cell,I.free,I.freeC,I.pin,I.hok,hl.trans I.len⟩
theorem Inv.pins_of {pins':List (Addr×Obj)} (I:Inv X pins σ H s) (h:∀ p∈pins',s.heap.get? p.1=some p.2∧H p.1=none∧p.1≠X.env.locals∧p.1 ∉ X.fs∧∀ v,p.2.data≠.cell v):Inv X pins' σ H s:=
 ⟨I.ok,I.os,I.bare,I.base,I.loc,I.cell,I.free,I.freeC,fun p hp=> (List.mem_append.mp hp).elim (fun z=> I.pin p (List.mem_append_left _ z)) (h p),I.hok,I.len⟩
theorem mm {N:List Str} (hN:N.Nodup) {i j:Nat} {x:Str} (a:N[i]?=some x) (b:N[j]?=some x):i=j:=by
 obtain ⟨h1,e1⟩:=List.getElem?_eq_some_iff.mp a
 obtain ⟨h2,e2⟩:=List.getElem?_eq_some_iff.mp b
 exact (List.getElem_inj hN).mp (e1.trans e2.symm)
theorem ie {M:Model} {A:Around} {E:Value→Shared→Prop} {i:Nat} {x:Str} {v:V} {u:Value} {Q:Unit→Shared→Prop} (I:Inv X pins σ H s) (hN:X.N.Nodup) (hi:X.N[i]?=some x) (hx:Loc X.env.scope x) (r:a_ v u)
  (h:∀ s',Inv X pins (σ.set i (some v)) H s'→(∃ a,Heap.SameBut a s.heap s'.heap∧(a=X.env.locals∨X.env.cells.lookup x=some a))→Q () s') (hf:X.fn x=true∨X.env.scope.names.lookup x=some .local:=by first | exact .inl rfl | exact .inr rfl | assumption):wpAny M A (storeName X.env x u) Q E s:=by
 obtain ⟨m,hn,hl⟩:=id I.loc
 have hcls:(X.env.scope.kind==.class || (X.env.scope.kind==.module && X.env.locals !=X.env.globals))=false:=by rw [I.ok.kind]; rfl
 have hiσ:i < σ.length:=by rw [I.len]; exact (List.getElem?_eq_some_iff.mp hi).1
 have cne:=I.cne
 have tracked:∀ {a:Addr} {h':Heap},(∃ o,s.heap.get? a=some o∧H a=none)→Heap.SameBut a s.heap h'→HOk X.prog X.w H h':=fun {a h'} ha hs b ob e=> by
  obtain ⟨_,_,hfree⟩:=ha
  refine (I.hok b ob e).stay (fun c w' hc q=> (hs.2 c ?_).trans q) (fun _ q=> q) fun _ _ q=> q
  rintro rfl
  rcases hc with rfl | hc
  ·rw [hfree] at e; cases e
  ·rw [hfree] at hc; cases hc
 rcases hx with hk | hk
 ·refine wpAny_storeName_local hk hn (fun h' hn' hs=> ?_) hcls
  obtain ⟨oL,_,_,hoL,_⟩:=id hn
  refine h _ ⟨I.ok,I.os,I.bare,⟨fun b o e n hb hx=> ?_,fun b o e n hb hx=> ?_,I.base.free,fun b o e hx=> ?_,I.base.tups,I.base.frzs,I.base.tbls⟩,⟨_,hn',fun j y v' e1 e2 e3=> ?_⟩,fun y c e=> ?_,I.free,I.freeC,fun p hp=> ?_,tracked ⟨oL,hoL,I.free⟩ hs,by simpa using I.len⟩ ⟨_,hs,.inl rfl⟩
  ·exact (hs.2 b (Nat.ne_of_lt (Nat.lt_of_lt_of_le (Heap.lt_size e) I.ok.above))).trans (I.base.keep b o e n hb hx)
  ·obtain ⟨sl,e1⟩:=I.base.slot b o e n hb hx
   exact ⟨sl,(hs.2 b (Nat.ne_of_lt (Nat.lt_of_lt_of_le (Heap.lt_size e) I.ok.above))).trans e1⟩
  ·obtain ⟨o',e1⟩:=I.base.there b o e hx
   exact ⟨o',(hs.2 b (Nat.ne_of_lt (Nat.lt_of_lt_of_le (Heap.lt_size e) I.ok.above))).trans e1⟩
  ·by_cases hj:j=i
   ·subst hj
    rw [hi] at e1; cases e1
    rw [List.getElem?_set_self hiσ] at e2
    cases e2
    exact ⟨u,r,.inl ⟨hk,by simp⟩⟩
   ·rw [List.getElem?_set_ne (Ne.symm hj)] at e2
    obtain ⟨u',r',q⟩:=hl j y v' e1 e2 e3
    refine ⟨u',r',?_⟩
    rcases q with ⟨k,e⟩ | ⟨k,c,e,z⟩
    ·refine .inl ⟨k,?_⟩
     have:y≠x:=fun e=> hj (mm hN e1 (e ▸ hi))
     simp [this,e]
    ·exact .inr ⟨k,c,e,z.sameBut hs (cne y c e)⟩
  ·obtain ⟨w',z⟩:=I.cell y c e
   exact ⟨w',z.sameBut hs (cne y c e)⟩
  ·obtain ⟨e,n,ne,nf,d⟩:=I.pin p hp
   exact ⟨(hs.2 p.1 ne).trans e,n,ne,nf,d⟩
 ·have hfn:X.fn x=true:=by
   rcases hf with z | z
   ·exact z
   ·rw [z] at hk; cases hk
  obtain ⟨c,hc⟩:=I.ok.has x (.inl hk)
  obtain ⟨w',z⟩:=I.cell x c hc
  refine wpAny_storeName_cell I.ok.kind hk hc z (fun h' hc' hs=> ?_)
  obtain ⟨oc,hoc,hocd⟩:=id z
  refine h { s with heap:=h' } ⟨I.ok,I.os,I.bare,⟨fun b o e n hb hx=> ?_,fun b o e n hb hx=> ?_,I.base.free,fun b o e hx=> ?_,I.base.tups,I.base.frzs,I.base.tbls⟩,⟨m,hn.sameBut hs (Ne.symm (cne x c hc)),fun j y v' e1 e2 e3=> ?_⟩,fun y c' e=> ?_,I.free,I.freeC,fun p hp=> ?_,tracked ⟨oc,hoc,I.freeC x c hc⟩ hs,by simpa using I.len⟩ ⟨c,hs,.inr hc⟩
  ·exact (hs.2 b (Nat.ne_of_lt (Nat.lt_of_lt_of_le (Heap.lt_size e) (I.ok.cab x c hfn hc)))).trans (I.base.keep b o e n hb hx)
  ·obtain ⟨sl,e1⟩:=I.base.slot b o e n hb hx
   exact ⟨sl,(hs.2 b (Nat.ne_of_lt (Nat.lt_of_lt_of_le (Heap.lt_size e) (I.ok.cab x c hfn hc)))).trans e1⟩
  ·obtain ⟨o',e1⟩:=I.base.there b o e hx
   exact ⟨o',(hs.2 b (Nat.ne_of_lt (Nat.lt_of_lt_of_le (Heap.lt_size e) (I.ok.cab x c hfn hc)))).trans e1⟩
  ·by_cases hj:j=i
   ·subst hj
    rw [hi] at e1; cases e1
    rw [List.getElem?_set_self hiσ] at e2
    cases e2
    exact ⟨u,r,.inr ⟨.inl hk,c,hc,hc'⟩⟩
   ·rw [List.getElem?_set_ne (Ne.symm hj)] at e2
    obtain ⟨u',r',q⟩:=hl j y v' e1 e2 e3
    refine ⟨u',r',?_⟩
    rcases q with q | ⟨k,c',e,z'⟩
    ·exact .inl q
    ·refine .inr ⟨k,c',e,z'.sameBut hs ?_⟩
     rintro rfl
     exact hj (mm hN e1 (I.ok.inj _ _ _ e hc ▸ hi))
  ·by_cases hcc:c'=c
   ·subst hcc; exact ⟨_,hc'⟩
   ·obtain ⟨w2,z2⟩:=I.cell y c' e
    exact ⟨w2,z2.sameBut hs hcc⟩
  ·obtain ⟨e,n,ne,nf,d⟩:=I.pin p hp
   refine ⟨(hs.2 p.1 ?_).trans e,n,ne,nf,d⟩
   intro q
   rw [q,hoc] at e
   have q':oc=p.2:=Option.some.inj e
   exact d w' (by rw [← q']; exact hocd)
theorem jx {M:Model} {A:Around} {E:Value→Shared→Prop} {i:Nat} {x:Str} {v:V} {u:Value} {Q:Unit→Shared→Prop} (I:Inv X pins σ H s) (hN:X.N.Nodup) (hi:X.N[i]?=some x) (hx:Loc X.env.scope x) (r:a_ v u)
  (h:∀ s',Inv X pins (σ.set i (some v)) H s'→Q () s') (hf:X.fn x=true∨X.env.scope.names.lookup x=some .local:=by first | exact .inl rfl | exact .inr rfl | assumption):wpAny M A (storeName X.env x u) Q E s:=
 ie I hN hi hx r (fun s' I' _=> h s' I') hf
theorem Inv.call' {s':Shared} {ch:List Addr} (I:Inv X pins σ H s) (ho:s'.os=s.os) (u:Un (frs X.stack) ch H H' s.heap s'.heap) (hok:HOk X.prog X.w H' s'.heap) (hg:AllBare s'.gens)
  (hch:∀ b∈ch,(b∈X.ex∨X.s₀.heap.objs.size≤b)∧b≠X.env.locals∧(∀ x c,X.env.cells.lookup x=some c→c≠b)∧∀ p∈X.pn++pins,p.1≠b):Inv X pins σ H' s':=by
 obtain ⟨h',g',d',t',o'⟩:=s'
 have e:o'=s.os:=ho
 subst e
 exact I.call (g':=g') (t':=t') (d':=d') u hok hg hch
end
abbrev XK:=Value→Option Addr→Hp→Prop
abbrev St:=List (Option V)
abbrev VK:=V→Hp→Prop
abbrev TE:=St→Hp→VK→Prop
abbrev TT:=St→Hp→(Bool→Hp→Prop)→Prop
abbrev TA:=St→Hp→(List V→Hp→Prop)→Prop
structure lQ where
 nx:St→Hp→Prop
 rt:VK
 bk:St→Hp→Prop:=fun _ _=> False
 ct:St→Hp→Prop:=fun _ _=> False
abbrev TS:=lQ→St→Hp→Prop
def EP (X:Cx) (pins:List (Addr×Obj)) (σ:St) (Q:VK) (u:Value) (s':Shared):Prop:=∃ v H',Inv X pins σ H' s'∧a_ v u∧Q v H'
def TP (X:Cx) (pins:List (Addr×Obj)) (σ:St) (Q:Bool→Hp→Prop) (b:Bool) (s':Shared):Prop:=∃ H',Inv X pins σ H' s'∧Q b H'
def AP (X:Cx) (pins:List (Addr×Obj)) (σ:St) (Q:List V→Hp→Prop) (us:List Value) (s':Shared):Prop:=∃ vs H',Inv X pins σ H' s'∧aN vs us∧Q vs H'
def SP (X:Cx) (pins:List (Addr×Obj)) (D:lQ) (f:Flow) (s':Shared):Prop:=
 match f with
 | .next=> ∃ σ' H',Inv X pins σ' H' s'∧D.nx σ' H'
 | .brk=> ∃ σ' H',Inv X pins σ' H' s'∧D.bk σ' H'
 | .cont=> ∃ σ' H',Inv X pins σ' H' s'∧D.ct σ' H'
 | .ret u=> ∃ v σ' H',Inv X pins σ' H' s'∧a_ v u∧D.rt v H'
def PE (X:Cx) (e:Expr) (t:TE):Prop:=
 ∀ (pins:List (Addr×Obj)) (s:Shared) (σ:St) (H:Hp) (Q:VK),Inv X pins σ H s→t σ H Q→wpAny (model X.prog X.w) X.A (eval e X.env) (EP X pins σ Q) X.xe s
def PT (X:Cx) (e:Expr) (t:TT):Prop:=
 ∀ (pins:List (Addr×Obj)) (s:Shared) (σ:St) (H:Hp) (Q:Bool→Hp→Prop),Inv X pins σ H s→t σ H Q→wpAny (model X.prog X.w) X.A (isTrue e X.env (eval e X.env)) (TP X pins σ Q) X.xe s
def PW (X:Cx) (e:Expr) (t:TT):Prop:=
 ∀ (whole:Sem Value) (pins:List (Addr×Obj)) (s:Shared) (σ:St) (H:Hp) (Q:Bool→Hp→Prop),Inv X pins σ H s→t σ H Q→wpAny (model X.prog X.w) X.A (isTrue e X.env whole) (TP X pins σ Q) X.xe s
theorem PW.pt {X:Cx} {e:Expr} {t:TT} (h:PW X e t):PT X e t:=h _
def PA (X:Cx) (es:List Expr) (t:TA):Prop:=
 ∀ (pos:Pos) (pins:List (Addr×Obj)) (s:Shared) (σ:St) (H:Hp) (Q:List V→Hp→Prop),Inv X pins σ H s→t σ H Q→wpAny (model X.prog X.w) X.A (spliced (backTo pos (starEach es X.env))) (AP X pins σ Q) X.xe s
def PS (X:Cx) (st:Stmt) (t:TS):Prop:=
 ∀ (pins:List (Addr×Obj)) (s:Shared) (σ:St) (H:Hp) (D:lQ),Inv X pins σ H s→t D σ H→wpAny (model X.prog X.w) X.A (exec st X.env) (SP X pins D) X.xe s
def PSs (X:Cx) (st:List Stmt) (t:TS):Prop:=
 ∀ (pins:List (Addr×Obj)) (s:Shared) (σ:St) (H:Hp) (D:lQ),Inv X pins σ H s→t D σ H→wpAny (model X.prog X.w) X.A (execs st X.env) (SP X pins D) X.xe s
theorem thn {α:Type} {t:Sem α} {Q Q':α→Shared→Prop} {M:Model} {A:Around} {E:Value→Shared→Prop} {s:Shared} (h:wpAny M A t Q E s) (hQ:∀ a s,Q a s→Q' a s):wpAny M A t Q' E s:=wpAny_mono h hQ fun _ _ x=> x
end L2
namespace L2
open PySem PySem.Spec PyProof.Rows
section
variable {X:Cx}
def AV (i:Nat):TE:=fun σ H Q=> ∃ v,σ[i]?=some (some v)∧Q v H
def tC (v:V):TE:=fun _ H Q=> Q v H
theorem g7 {i:Nat} {x:Str} {pos:Pos} (hN:X.N[i]?=some x) (hv:Vis X.env.scope x) (hd:(x==("__debug__":Str))=false:=by decide) (hcd:(x==("__classdict__":Str))=false:=by decide):PE X (.Name x pos) (AV i):=by
 intro pins s σ H Q I h
 obtain ⟨v,e,h⟩:=h
 obtain ⟨m,hn,hl⟩:=I.loc
 obtain ⟨u,r,l⟩:=hl i x v hN e hv
 have fin:EP X pins σ Q u s:=⟨v,H,I,r,h⟩
 rcases l with ⟨hk,hm⟩ | ⟨hk,c,hc,hcell⟩
 ·exact wpAny_Name (wpAny_loadName_local I.ok.kind hk hn hm fin) hd
 ·rcases hk with hk | hk
  ·exact wpAny_Name (wpAny_loadName_cell I.ok.kind hk hc hcell fin) hd
  ·exact wpAny_Name (wpAny_loadName_free I.ok.kind hk hc hcell fin hcd) hd
theorem x_ {i j pos}:PE X (.Constant (.int i) j pos) (tC (.int i)):=fun _ _ _ H _ I h=> wpAny_Constant_int ⟨.int i,H,I.tok _,⟨_,rfl⟩,h⟩
theorem z8 {b j pos}:PE X (.Constant (.bool b) j pos) (tC (.bl b)):=fun _ _ _ H _ I h=> Constant_bool ⟨.bl b,H,I,rfl,h⟩
theorem yd {x j pos}:PE X (.Constant (.str x) j pos) (tC (.str x)):=fun _ _ _ H _ I h=> Calls.Constant_str ⟨.str x,H,I.tok _,⟨_,rfl⟩,h⟩
def Gl (X:Cx) (x:Str):Prop:=X.env.kindOf x=some .globalImplicit
theorem qw {E:Value→Shared→Prop} {pins:List (Addr×Obj)} {s:Shared} {σ:St} {H:Hp} {x:Str} {u:Value} {pos:Pos} {Q:Value→Shared→Prop} (I:Inv X pins σ H s) (hg:Gl X x) (hm:X.mg x=some u) (h:Q u s)
  (hd:(x==("__debug__":Str))=false:=by decide):wpAny (model X.prog X.w) X.A (eval (.Name x pos) X.env) Q E s:=
 Calls.Name_function_global I.ok.kind hg (Calls.loadGlobal_global (by rw [I.ok.glob]; exact I.mod.glob.keeps I.bk) hm h) hd
theorem dD {E:Value→Shared→Prop} {pins:List (Addr×Obj)} {s:Shared} {σ:St} {H:Hp} {x:Str} {u:Value} {pos:Pos} {Q:Value→Shared→Prop} (I:Inv X pins σ H s) (hg:Gl X x) (hm:X.mg x=none) (hv:bootBuiltins x=some u) (h:Q u s)
  (hn:x≠"__name__":=by decide) (hd:(x==("__debug__":Str))=false:=by decide):wpAny (model X.prog X.w) X.A (eval (.Name x pos) X.env) Q E s:=by
 obtain ⟨mb,h1,h2⟩:=I.mod.blt
 exact Calls.Name_function_global I.ok.kind hg (Calls.loadGlobal_builtin (by rw [I.ok.glob]; exact I.mod.glob.keeps I.bk) hm (by rw [I.ok.blt]; exact h1.keeps I.bk) ((h2 x hn).trans hv) h) hd
theorem v3 {x:Str} {v:V} {u:Value} {pos:Pos} (hg:Gl X x) (hm:X.mg x=none) (hv:bootBuiltins x=some u) (r:a_ v u) (hn:x≠"__name__":=by decide) (hd:(x==("__debug__":Str))=false:=by decide):PE X (.Name x pos) (tC v):=
 fun _ _ _ H _ I h=> dD I hg hm hv ⟨v,H,I,r,h⟩ hn hd
variable {a b:Expr} {ta tb:TE} {pos:Pos}
def tB (t:TE):TT:=fun σ H Q=> t σ H fun x H1=> ∃ c,x=.bl c∧Q c H1
theorem yn {e:Expr} {t:TE} (h:PE X e t) (he:∀ whole,isTrue e X.env whole=(do let v ← whole; standAt e.pos; holding [v] (truthy v)):=by intro _; rfl):PT X e (tB t):=by
 intro pins s σ H Q I hw
 refine isTrue_plain (thn (h pins s σ H _ I hw) fun v s1 ⟨x,H1,I1,r1,q1⟩=> ?_) (he _)
 obtain ⟨d,rfl,q⟩:=q1
 cases r1
 exact wpAny_truthy_bool ⟨H1,I1,q⟩
variable {tA tB':TT} {rest:List Expr}
def AS (t u:TT):TT:=fun σ H Q=> t σ H fun c H1=> if c=true then u σ H1 Q else Q false H1
def tOr (t u:TT):TT:=fun σ H Q=> t σ H fun c H1=> if c=true then Q true H1 else u σ H1 Q
def AC (t:TT):TT:=fun σ H Q=> t σ H fun c H1=> Q (!c) H1
theorem w9 (ha:PT X a tA):PW X (.BoolOp .And [a] pos) tA:=by
 intro wh pins s σ H Q I h
 refine isTrue_and (thn (ha pins s σ H Q I h) fun c s1 e=> ?_)
 cases c with
 | true=> exact isTrue_and_nil e
 | false=> exact e
theorem y4 (ha:PT X a tA):PW X (.BoolOp .Or [a] pos) tA:=by
 intro wh pins s σ H Q I h
 refine isTrue_or (thn (ha pins s σ H Q I h) fun c s1 e=> ?_)
 cases c with
 | false=> exact isTrue_or_nil e
 | true=> exact e
theorem t9 (ha:PT X a tA) (hb:PW X (.BoolOp .And (b::rest) pos) tB'):PW X (.BoolOp .And (a::b::rest) pos) (AS tA tB'):=by
 intro wh pins s σ H Q I h
 refine isTrue_and (thn (ha pins s σ H _ I h) fun c s1 ⟨H1,I1,q1⟩=> ?_)
 cases c with
 | true=> exact hb wh pins s1 σ H1 Q I1 q1
 | false=> exact ⟨H1,I1,q1⟩
theorem xN (ha:PT X a tA) (hb:PW X (.BoolOp .Or (b::rest) pos) tB'):PW X (.BoolOp .Or (a::b::rest) pos) (tOr tA tB'):=by
 intro wh pins s σ H Q I h
 refine isTrue_or (thn (ha pins s σ H _ I h) fun c s1 ⟨H1,I1,q1⟩=> ?_)
 cases c with
 | true=> exact ⟨H1,I1,q1⟩
 | false=> exact hb wh pins s1 σ H1 Q I1 q1
theorem y9 (ha:PT X a tA):PT X (.UnaryOp .Not a pos) (AC tA):=by
 intro pins s σ H Q I h
 exact isTrue_not (ha pins s σ H (fun c H1=> Q (!c) H1) I h)
def Ap (ta tb:TE):TE:=fun σ H Q=> ta σ H fun x H1=> ∃ c,x=.bl c∧if c=true then tb σ H1 Q else Q (.bl false) H1
def zJ (ta:TE):TE:=fun σ H Q=> ta σ H fun x H1=> ∃ c,x=.bl c∧Q (.bl (!c)) H1
theorem yw {op} {t:TE} (h:PE X a t):PE X (.BoolOp op [a] pos) t:=fun pins s σ H Q I hw=> BoolOp_one (h pins s σ H Q I hw)
theorem ud (ha:PE X a ta) (hb:PE X (.BoolOp .And (b::rest) pos) tb):PE X (.BoolOp .And (a::b::rest) pos) (Ap ta tb):=by
 intro pins s σ H Q I h
 refine BoolOp_and (thn (ha pins s σ H _ I h) fun v s1 ⟨x,H1,I1,r1,q1⟩=> ?_)
 obtain ⟨c,rfl,q1⟩:=q1
 cases r1
 refine wpAny_truthy_bool ?_
 cases c with
 | true=> exact hb pins s1 σ H1 Q I1 q1
 | false=> exact ⟨.bl false,H1,I1,rfl,q1⟩
theorem yA (ha:PE X a ta):PE X (.UnaryOp .Not a pos) (zJ ta):=by
 intro pins s σ H Q I h
 refine UnaryOp_ (thn (ha pins s σ H _ I h) fun v s1 ⟨x,H1,I1,r1,q1⟩=> ?_)
 obtain ⟨c,rfl,q1⟩:=q1
 cases r1
 exact not_of (wpAny_truthy_bool ⟨.bl (!c),H1,I1,rfl,q1⟩)
def tIf (t:TT) (ta tb:TE):TE:=fun σ H Q=> t σ H fun c H1=> if c=true then ta σ H1 Q else tb σ H1 Q
theorem nA {c:Expr} (hc:PT X c tA) (ha:PE X a ta) (hb:PE X b tb):PE X (.IfExp c a b pos) (tIf tA ta tb):=by
 intro pins s σ H Q I h
 refine wpAny_IfExp (thn (hc pins s σ H _ I h) fun d s1 ⟨H1,I1,q1⟩=> ?_)
 cases d with
 | true=> exact ha pins s1 σ H1 Q I1 q1
 | false=> exact hb pins s1 σ H1 Q I1 q1
end
end L2
namespace L2
open PySem PySem.Spec PyProof.Rows
def SqL (K:PySem.W.Frag) (H:Hp) (a:Addr) (xs:List V):Prop:=
 Rd H a (.lst xs)∨
  ∃ (o:Obj) (its:Array Value) (n:Nat),K.lookup a=some o∧o.cls=.type "list"∧o.dict=none∧o.data=.seq its n∧its.size≤sizeLine∧aN xs its.toList
def SqT (K:PySem.W.Frag) (H:Hp) (a:Addr) (xs:List V):Prop:=
 Rd H a (.tup xs)∨
  ∃ (o:Obj) (its:Array Value) (n:Nat),K.lookup a=some o∧o.cls=.type "tuple"∧o.data=.seq its n∧its.size≤sizeLine∧aN xs its.toList
def AD:Value→Option V
 | .none=> some .non
 | .bool b=> some (.bl b)
 | .int i _=> some (.int i)
 | .str x _=> some (.str x)
 | .bytes b _=> some (.byt b)
 | .float b _=> some (.flt b)
 | .ref a=> some (.ref a)
 | .type n=> some (.ty n)
 | _=> none
theorem a_.abs {x:V} {u:Value} (r:a_ x u):AD u=some x:=by
 cases x with
 | non=> cases r; rfl
 | bl _=> cases r; rfl
 | int _=> obtain ⟨t,rfl⟩:=r; rfl
 | str _=> obtain ⟨t,rfl⟩:=r; rfl
 | byt _=> obtain ⟨t,rfl⟩:=r; rfl
 | flt _=> obtain ⟨t,rfl⟩:=r; rfl
 | ref _=> cases r; rfl
 | ty _=> cases r; rfl
theorem a_.inj {x y:V} {u:Value} (r:a_ x u) (q:a_ y u):x=y:=Option.some.inj (r.abs.symm.trans q.abs)
theorem aN.inj:∀ {xs ys:List V} {us:List Value},aN xs us→aN ys us→xs=ys
 | _,_,_,.nil,.nil=> rfl
 | _,_,_,.cons r t,.cons r' t'=> by rw [r.inj r',aN.inj t t']
section
variable {X:Cx} {pins:List (Addr×Obj)} {σ:St} {H:Hp} {s:Shared} {a:Addr} {xs ys:List V}
theorem SqL.of {K:PySem.W.Frag} (h:H a=some (.lst xs)):SqL K H a xs:=.inl (.inl h)
theorem SqT.of {K:PySem.W.Frag} (h:H a=some (.tup xs)):SqT K H a xs:=.inl (.inl h)
theorem Inv.list (I:Inv X pins σ H s) (h:SqL X.K H a xs):∃ its:List Value,aN xs its∧PlainL s.heap a its.toArray∧xs.length≤sizeLine:=by
 rcases h with h | ⟨o,its,n,hk,hc,hd,hs,hz,r⟩
 ·obtain ⟨z,its,n,r,e⟩:=h.ok I.hok
  exact ⟨its,r,⟨_,n,e,rfl,rfl,rfl⟩,z⟩
 ·refine ⟨its.toList,r,⟨o,n,I.kIn a o hk,hc,hd,by simpa using hs⟩,?_⟩
  have e:=r.length
  simp only [Array.length_toList] at e
  omega
theorem Inv.tuple (I:Inv X pins σ H s) (h:SqT X.K H a xs):∃ its:List Value,aN xs its∧IsTup s.heap a its.toArray∧xs.length≤sizeLine:=by
 rcases h with h | ⟨o,its,n,hk,hc,hs,hz,r⟩
 ·obtain ⟨z,its,r,p⟩:=h.ok I.hok
  exact ⟨its,r,p,z⟩
 ·refine ⟨its.toList,r,⟨o,I.kIn a o hk,hc,n,by simpa using hs⟩,?_⟩
  have e:=r.length
  simp only [Array.length_toList] at e
  omega
theorem Inv.list_inj (I:Inv X pins σ H s) (h:SqL X.K H a xs) (h':SqL X.K H a ys):xs=ys:=by
 obtain ⟨its,r,⟨o,n,e,_,_,d⟩,_⟩:=I.list h
 obtain ⟨its',r',⟨o',n',e',_,_,d'⟩,_⟩:=I.list h'
 rw [e] at e'; cases e'
 rw [d] at d'
 injection d' with d1 _
 have:its=its':=by simpa using congrArg Array.toList d1
 subst this
 exact r.inj r'
theorem Inv.tuple_inj (I:Inv X pins σ H s) (h:SqT X.K H a xs) (h':SqT X.K H a ys):xs=ys:=by
 obtain ⟨its,r,⟨o,e,_,n,d⟩,_⟩:=I.tuple h
 obtain ⟨its',r',⟨o',e',_,n',d'⟩,_⟩:=I.tuple h'
 rw [e] at e'; cases e'
 rw [d] at d'
 injection d' with d1 _
 have:its=its':=by simpa using congrArg Array.toList d1
 subst this
 exact r.inj r'
end
abbrev Cx.wish (X:Cx) (E:Value→Shared→Prop):Cx:={ X with xe:=E }
abbrev Cx.nox (X:Cx):Cx:=X.wish fun _ _=> False
theorem Cx.Ok.wish {X:Cx} (ok:X.Ok) (E:Value→Shared→Prop):(X.wish E).Ok:=
 ⟨ok.mod,ok.kind,ok.glob,ok.blt,ok.above,ok.inj,ok.has,ok.cab,ok.hd,ok.frames,ok.stk,ok.exf,ok.bs,ok.bsz,ok.noex,ok.exfs,ok.funs,ok.frf⟩
theorem Cx.Ok.unwish {X:Cx} {E:Value→Shared→Prop} (ok:(X.wish E).Ok):X.Ok:=
 ⟨ok.mod,ok.kind,ok.glob,ok.blt,ok.above,ok.inj,ok.has,ok.cab,ok.hd,ok.frames,ok.stk,ok.exf,ok.bs,ok.bsz,ok.noex,ok.exfs,ok.funs,ok.frf⟩
section
variable {X:Cx} {pins:List (Addr×Obj)} {σ:St} {H:Hp} {s:Shared} {E:Value→Shared→Prop}
theorem Inv.wish (I:Inv X pins σ H s) (E:Value→Shared→Prop):Inv (X.wish E) pins σ H s:=⟨I.ok.wish E,I.os,I.bare,I.base,I.loc,I.cell,I.free,I.freeC,I.pin,I.hok,I.len⟩
theorem Inv.unwish (I:Inv (X.wish E) pins σ H s):Inv X pins σ H s:=⟨I.ok.unwish,I.os,I.bare,I.base,I.loc,I.cell,I.free,I.freeC,I.pin,I.hok,I.len⟩
theorem SP.unwish {D:lQ} {f:Flow} {s':Shared} (h:SP (X.wish E) pins D f s'):SP X pins D f s':=by
 cases f with
 | next=> obtain ⟨σ',H',I,q⟩:=h; exact ⟨σ',H',I.unwish,q⟩
 | brk=> obtain ⟨σ',H',I,q⟩:=h; exact ⟨σ',H',I.unwish,q⟩
 | cont=> obtain ⟨σ',H',I,q⟩:=h; exact ⟨σ',H',I.unwish,q⟩
 | ret u=> obtain ⟨v,σ',H',I,r,q⟩:=h; exact ⟨v,σ',H',I.unwish,r,q⟩
theorem PSs.nox {st:List Stmt} {t:TS} (h:PSs X.nox st t):PSs X st t:=fun pins s σ H D I hw=>
 wpAny_mono (h pins s σ H D (I.wish _) hw) (fun _ _ q=> q.unwish) fun _ _ z=> False.elim z
end
section
variable {X:Cx} {st:Stmt} {rest:List Stmt} {t u:TS} {e:Expr} {te:TE} {pos:Pos}
def Af:TS:=fun D σ H=> D.nx σ H
def Ay (t u:TS):TS:=fun D σ H=> t { D with nx:=u D } σ H
theorem wy:PSs X [] Af:=fun _ _ σ H _ I h=> wpAny_execs_nil ⟨σ,H,I,h⟩
theorem uF (h1:PS X st t) (h2:PSs X rest u):PSs X (st::rest) (Ay t u):=by
 intro pins s σ H D I h
 refine wpAny_execs_cons (thn (h1 pins s σ H { D with nx:=u D } I h) fun f s1 q=> ?_)
 cases f with
 | next=>
  obtain ⟨σ',H',I',q⟩:=q
  exact h2 pins s1 σ' H' D I' q
 | ret v=> exact q
 | brk=> exact q
 | cont=> exact q
theorem Inv.quiet {pins:List (Addr×Obj)} {σ:St} {H:Hp} {s:Shared} (I:Inv X pins σ H s):interactive X.env=false:=by simp [interactive,I.ok.kind]
def zT (te:TE):TS:=fun D σ H=> te σ H fun _ H1=> D.nx σ H1
theorem iG (he:PE X e te) (hs:swapsWith e none pos.line X.env=pure false:=by rfl):PS X (.Expr e pos) (zT te):=by
 intro pins s σ H D I h
 exact wpAny_Expr_any (thn (he pins s σ H _ I h) fun v s1 ⟨x,H1,I1,r1,q1⟩=> ⟨σ,H1,I1,q1⟩) I.quiet hs
def AY (te:TE):TS:=fun D σ H=> te σ H D.rt
theorem oj (he:PE X e te):PS X (.Return (some e) pos) (AY te):=by
 intro pins s σ H D I h
 exact wpAny_Return_some (thn (he pins s σ H _ I h) fun v s1 ⟨x,H1,I1,r1,q1⟩=> ⟨x,σ,H1,I1,r1,q1⟩)
def AZ (c:TT) (t u:TS):TS:=fun D σ H=> c σ H fun b H1=> if b=true then t D σ H1 else u D σ H1
theorem xE {c:Expr} {a b:List Stmt} {tc:TT} (hc:PT X c tc) (ha:PSs X a t) (hb:PSs X b u):PS X (.If c a b pos) (AZ tc t u):=by
 intro pins s σ H D I h
 refine wpAny_If (thn (hc pins s σ H _ I h) fun d s1 ⟨H1,I1,q1⟩=> ?_)
 cases d with
 | true=> exact ha pins s1 σ H1 D I1 q1
 | false=> exact hb pins s1 σ H1 D I1 q1
end
abbrev TG:=V→St→Hp→(St→Hp→Prop)→Prop
abbrev TGs:=List V→St→Hp→(St→Hp→Prop)→Prop
def PG (X:Cx) (target:Expr) (t:TG):Prop:=
 ∀ (pins:List (Addr×Obj)) (s:Shared) (σ:St) (H:Hp) (v:V) (u:Value) (Q:St→Hp→Prop),Inv X pins σ H s→a_ v u→t v σ H Q→
  wpAny (model X.prog X.w) X.A (assign target X.env u) (fun _ s'=> ∃ σ' H',Inv X pins σ' H' s'∧Q σ' H') X.xe s
def PGs (X:Cx) (ts:List Expr) (t:TGs):Prop:=
 ∀ (pins:List (Addr×Obj)) (s:Shared) (σ:St) (H:Hp) (vs:List V) (us:List Value) (Q:St→Hp→Prop),Inv X pins σ H s→aN vs us→t vs σ H Q→
  wpAny (model X.prog X.w) X.A (assignInOrder ((assignEach ts X.env).map (·.2)) us) (fun _ s'=> ∃ σ' H',Inv X pins σ' H' s'∧Q σ' H') X.xe s
abbrev TIp:=V→V→Hp→VK→Prop
def PIp (X:Cx) (op:Operator) (t:TIp):Prop:=
 ∀ (pins:List (Addr×Obj)) (s:Shared) (σ:St) (H:Hp) (x y:V) (v u:Value) (Q:VK),Inv X pins σ H s→a_ x v→a_ y u→t x y H Q→
  wpAny (model X.prog X.w) X.A (inplaceOp op v u) (EP X pins σ Q) X.xe s
section
variable {X:Cx} {pos:Pos}
def kB (i:Nat):TG:=fun v σ H Q=> Q (σ.set i (some v)) H
theorem bF {i:Nat} {x:Str} (hN:X.N.Nodup) (hi:X.N[i]?=some x) (hx:Loc X.env.scope x) (hf:X.fn x=true∨X.env.scope.names.lookup x=some .local:=by first | exact .inl rfl | exact .inr rfl | assumption):PG X (.Name x pos) (kB i):=by
 intro pins s σ H v u Q I r h
 exact wpAny_assign_Name (jx I hN hi hx r (fun s' I'=> ⟨_,H,I',h⟩) hf)
def zG:TGs:=fun vs σ H Q=> vs=[]∧Q σ H
def xU (t:TG) (u:TGs):TGs:=fun vs σ H Q=> ∃ v r,vs=v::r∧t v σ H fun σ' H'=> u r σ' H' Q
theorem gR:PGs X [] zG:=by
 intro pins s σ H vs us Q I r h
 obtain ⟨e,h⟩:=h
 subst e
 cases r
 exact assignInOrder_nil ⟨σ,H,I,h⟩
theorem bT {e:Expr} {es:List Expr} {t:TG} {u:TGs} (h1:PG X e t) (h2:PGs X es u)
  (hs:(assignEach (e::es) X.env).map (·.2)=assign e X.env::(assignEach es X.env).map (·.2):=by rfl):PGs X (e::es) (xU t u):=by
 intro pins s σ H vs us Q I r h
 obtain ⟨v,vr,e1,h⟩:=h
 subst e1
 cases r with
 | cons r rr=>
  rw [hs]
  refine assignInOrder_cons (thn (h1 pins s σ H _ _ _ I r h) fun _ s1 ⟨σ1,H1,I1,q1⟩=> ?_)
  exact h2 pins s1 σ1 H1 _ _ Q I1 rr q1
def At (K:PySem.W.Frag) (n:Nat) (t:TGs):TG:=fun v σ H Q=> ∃ a xs,v=.ref a∧SqT K H a xs∧xs.length=n∧t xs σ H Q
theorem kL {es:List Expr} {k:Nat} {t:TGs} {n:Nat} (hc:X.calm=true) (h:PGs X es t)
  (hn:(assignEach es X.env).length=n:=by rfl) (hst:(assignEach es X.env).findIdx? (·.1)=none:=by rfl):PG X (.Tuple es k pos) (At X.K n t):=by
 intro pins s σ H v u Q I r hw
 obtain ⟨a,xs,e1,hq,hl,hw⟩:=hw
 subst e1
 cases r
 obtain ⟨its,rv,ht,hz⟩:=I.tuple hq
 refine assign_Tuple_tuple (I.ok.hd hc) ht (by simp [hn,← hl,rv.length]) hst fun h' hx=> ?_
 have I1:Inv X pins σ H { s with heap:=h' }:=I.kept (t':=s.toks) fun b o e=> hx b o (Nat.ne_of_lt (Heap.lt_size e)) e
 exact h pins _ σ H xs _ Q I1 (by simpa using rv) hw
def w4 (te:TE) (g:TG):TS:=fun D σ H=> te σ H fun x H1=> g x σ H1 D.nx
theorem yc {tg e:Expr} {te:TE} {g:TG} (he:PE X e te) (hg:PG X tg g) (hs:swapsWithSole [tg] e pos.line X.env=pure false:=by rfl) (hw:swappedStores [tg] e X.env=pure none:=by rfl)
  (h1:(assignEach [tg] X.env).map (·.2)=[assign tg X.env]:=by rfl):PS X (.Assign [tg] e pos) (w4 te g):=by
 intro pins s σ H D I h
 refine wpAny_Assign_stores (thn (he pins s σ H _ I h) fun v s1 ⟨x,H1,I1,r1,q1⟩=> ?_) hs hw
 rw [h1]
 exact thn (hg pins s1 σ H1 x v _ I1 r1 q1) fun _ s2 q=> q
theorem vh {i:Nat} {x:Str} {e:Expr} {te:TE} {pos':Pos} (hN:X.N.Nodup) (hi:X.N[i]?=some x) (hx:Loc X.env.scope x) (he:PE X e te) (hs:swapsWith e (some (.Name x pos')) pos.line X.env=pure false:=by rfl) (hf:X.fn x=true∨X.env.scope.names.lookup x=some .local:=by first | exact .inl rfl | exact .inr rfl | assumption):
  PS X (.Assign [.Name x pos'] e pos) (w4 te (kB i)):=by
 intro pins s σ H D I h
 refine wpAny_Assign_Name (thn (he pins s σ H _ I h) fun v s1 ⟨y,H1,I1,r1,q1⟩=> ?_) hs
 exact jx I1 hN hi hx r1 (fun s2 I2=> ⟨_,H1,I2,q1⟩) hf
def Av (i:Nat) (te:TE) (ti:TIp):TS:=fun D σ H=> ∃ x,σ[i]?=some (some x)∧te σ H fun y H1=> ti x y H1 fun z H2=> D.nx (σ.set i (some z)) H2
theorem xX {i:Nat} {x:Str} {e:Expr} {te:TE} {op:Operator} {ti:TIp} {pos':Pos} (hN:X.N.Nodup) (hi:X.N[i]?=some x) (hx:Loc X.env.scope x) (he:PE X e te) (ho:PIp X op ti) (hf:X.fn x=true∨X.env.scope.names.lookup x=some .local:=by first | exact .inl rfl | exact .inr rfl | assumption):
  PS X (.AugAssign (.Name x pos') op e pos) (Av i te ti):=by
 intro pins s σ H D I h
 obtain ⟨v,e1,h⟩:=h
 obtain ⟨m,hn,hl⟩:=I.loc
 have vis:Vis X.env.scope x:=by rcases hx with k | k; exact .inl k; exact .inr (.inl k)
 obtain ⟨u,r,l⟩:=hl i x v hi e1 vis
 refine wpAny_AugAssign_Name ?_
 have go:wpAny (model X.prog X.w) X.A (eval e X.env) (fun w s₂=> wpAny (model X.prog X.w) X.A (inplaceOp op u w) (fun r s₃=> wpAny (model X.prog X.w) X.A (storeName X.env x r) (fun _=> SP X pins D .next) X.xe s₃) X.xe s₂) X.xe s:=by
  refine thn (he pins s σ H _ I h) fun w s1 ⟨y,H1,I1,r1,q1⟩=> ?_
  refine thn (ho pins s1 σ H1 v y u w _ I1 r r1 q1) fun z s2 ⟨zv,H2,I2,r2,q2⟩=> ?_
  exact jx I2 hN hi hx r2 (fun s3 I3=> ⟨_,H2,I3,q2⟩) hf
 rcases l with ⟨hk,hm⟩ | ⟨hk,c,hc,hcell⟩
 ·exact wpAny_loadName_local I.ok.kind hk hn hm go
 ·rcases hk with hk | hk
  ·exact wpAny_loadName_cell I.ok.kind hk hc hcell go
  ·rcases hx with k | k
   ·have:X.env.scope.names.lookup x=some .free:=hk
    rw [k] at this; cases this
   ·have:X.env.scope.names.lookup x=some .free:=hk
    rw [k] at this; cases this
def ipI (f:Int→Int→Int):TIp:=fun x y H Q=> ∃ i j,x=.int i∧y=.int j∧Q (.int (f i j)) H
theorem yk:PIp X .Add (ipI fun i j=> i+j):=by
 intro pins s σ H x y v u Q I r1 r2 h
 obtain ⟨i,j,e1,e2,q⟩:=h
 subst e1; subst e2
 obtain ⟨t,rfl⟩:=r1
 obtain ⟨t',rfl⟩:=r2
 exact iadd_int ⟨.int _,H,I.tok _,⟨_,rfl⟩,q⟩
end
section
variable {X:Cx} {pos:Pos}
def ym (c:TT) (tb:TS):TS:=fun D σ H=> ∃ W:Nat→St→Hp→Prop,(∃ m,W m σ H)∧∀ m σ H,W m σ H→
 c σ H fun b H1=> if b=true then ∃ N:St→Hp→Prop,(∀ σ' H',N σ' H'→∃ m',m' < m∧W m' σ' H')∧tb { D with nx:=N,ct:=N,bk:=D.nx } σ H1 else D.nx σ H1
theorem uQ {c:Expr} {body:List Stmt} {tc:TT} {tb:TS} (hp:PassesOwn (model X.prog X.w) X.A X.env X.xe) (hc:PT X c tc) (hb:PSs X body tb):PS X (.While c body [] pos) (ym tc tb):=by
 intro pins s σ H D I h
 obtain ⟨W,⟨m0,w0⟩,turn⟩:=h
 refine wpAny_While (codeAny_whileLoop (fun n s'=> ∃ σ' H',Inv X pins σ' H' s'∧W n σ' H') ?_ m0 ⟨σ,H,I,w0⟩)
 rintro n s1 ⟨σ1,H1,I1,w1⟩
 refine wpAny_passesOwn hp (thn (hc pins s1 σ1 H1 _ I1 (turn n σ1 H1 w1)) fun b s2 ⟨H2,I2,q2⟩=> ?_)
 cases b with
 | true=>
  obtain ⟨N,hN,q2⟩:=q2
  rw [if_pos rfl]
  refine wpAny_passesOwn hp (thn (hb pins s2 σ1 H2 _ I2 q2) fun f s3 q3=> ?_)
  cases f with
  | next=>
   obtain ⟨σ3,H3,I3,n3⟩:=q3
   obtain ⟨m',hm,w3⟩:=hN σ3 H3 n3
   exact ⟨m',hm,σ3,H3,I3,w3⟩
  | cont=>
   obtain ⟨σ3,H3,I3,n3⟩:=q3
   obtain ⟨m',hm,w3⟩:=hN σ3 H3 n3
   exact ⟨m',hm,σ3,H3,I3,w3⟩
  | brk=> exact q3
  | ret v=> exact q3
 | false=>
  rw [if_neg Bool.false_ne_true]
  exact wpAny_execs_nil ⟨σ1,H2,I2,q2⟩
end
structure It where
 go:Nat→Hp→Prop
 yld:Nat→Hp→V→Hp→Prop
 stop:Nat→Hp→Prop
def jh (X:Cx) (pins:List (Addr×Obj)) (H:Hp) (b:Addr):Prop:=
 H b=none∧b≠X.env.locals∧b ∉ X.fs∧(b∈X.ex∨X.s₀.heap.objs.size≤b)∧(∀ x c,X.env.cells.lookup x=some c→c≠b)∧∀ p∈X.pn++pins,p.1≠b
theorem Inv.fpOk {X:Cx} {pins:List (Addr×Obj)} {σ:St} {H H':Hp} {s:Shared} {b:Addr} (I:Inv X pins σ H s) (hb:s.heap.objs.size≤b) (hn:H' b=none):jh X pins H' b:=by
 refine ⟨hn,Nat.ne_of_gt (Nat.lt_of_lt_of_le I.lt hb),I.nofs hb,.inr (Nat.le_trans I.sz hb),fun x c e z=> ?_,fun p hp z=> ?_⟩
 ·obtain ⟨v,q⟩:=I.cell x c e
  exact absurd (Nat.lt_of_lt_of_le q.lt (by rw [z]; exact hb)) (Nat.lt_irrefl _)
 ·exact absurd (Nat.lt_of_lt_of_le (Heap.lt_size (I.pin p hp).1) (by rw [z]; exact hb)) (Nat.lt_irrefl _)
structure xa (P:Program) (w:World) (K:PySem.W.Frag) (tg:Expr) (J:It) (fp:List Addr) (it:Addr) (tn:Nat→Heap→Prop):Prop where
 mem:it∈fp
 obj:∀ i h,tn i h→∀ b∈fp,∃ o,h.get? b=some o∧∀ v,o.data≠.cell v
 keep:∀ i h h',tn i h→(∀ b∈fp,∀ o,h.get? b=some o→h'.get? b=some o)→tn i h'
 item:∀ (X:Cx),X.prog=P→X.w=w→X.K=K→X.calm=true→∀ (i:Nat) (pins:List (Addr×Obj)) (s:Shared) (σ:St) (H:Hp) (E:Value→Shared→Prop),Inv X pins σ H s→(∀ b∈fp,jh X pins H b)→tn i s.heap→J.go i H→
  wpAny (model P w) X.A (pyNext (.ref it)) (fun r s1=> ∃ u,r=some u∧
   wpAny (model P w) X.A (letOwnedTupleGo tg (.ref it) u) (fun _ s2=> ∃ x H',Inv X pins σ H' s2∧a_ x u∧J.yld i H x H'∧tn (i+1) s2.heap∧∀ b∈fp,H' b=none) E s1) E s
 done:∀ (X:Cx),X.prog=P→X.w=w→X.K=K→X.calm=true→∀ (i:Nat) (pins:List (Addr×Obj)) (s:Shared) (σ:St) (H:Hp) (E:Value→Shared→Prop),Inv X pins σ H s→(∀ b∈fp,jh X pins H b)→tn i s.heap→J.stop i H→
  wpAny (model P w) X.A (pyNext (.ref it)) (fun r s1=> r=none∧Inv X pins σ H s1) E s
 self:∀ (A:Around) (i:Nat) (s:Shared) (Q:Value→Shared→Prop) (E:Value→Shared→Prop),tn i s.heap→Q (.ref it) s→wpAny (model P w) A (pyIter (.ref it)) Q E s
abbrev TI:=St→Hp→(It→Hp→Prop)→Prop
def PIE (X:Cx) (pins:List (Addr×Obj)) (σ:St) (tg:Expr) (R:It→Hp→Prop) (itv:Value) (s2:Shared):Prop:=
 ∃ (it:Addr) (fp:List Addr) (tn:Nat→Heap→Prop) (J:It) (H':Hp),itv=.ref it∧Inv X pins σ H' s2∧xa X.prog X.w X.K tg J fp it tn∧tn 0 s2.heap∧(∀ b∈fp,jh X pins H' b)∧R J H'
def PI (X:Cx) (tg iter:Expr) (wi:TI):Prop:=
 ∀ (pins:List (Addr×Obj)) (s:Shared) (σ:St) (H:Hp) (R:It→Hp→Prop),Inv X pins σ H s→wi σ H R→
  wpAny (model X.prog X.w) X.A (eval iter X.env) (fun v s1=> wpAny (model X.prog X.w) X.A (pyIter v) (PIE X pins σ tg R) X.xe s1) X.xe s
theorem vn {M:Model} {A:Around} {E:Value→Shared→Prop} {s:Shared} {tg:Expr} {it:Addr} {u:Value} {o:Obj} {n:String} {vs:Array Value} {Q:Unit→Shared→Prop} (ho:s.heap.get? it=some o) (hc:o.cls=.type n) (hd:o.data=.fields vs)
  (hn:["enumerate","zip","dict_itemiterator","dict_reverseitemiterator","odict_iterator","itertools.zip_longest","itertools.pairwise"].contains n=false) (hQ:Q () s):wpAny M A (letOwnedTupleGo tg (.ref it) u) Q E s:=by
 unfold letOwnedTupleGo
 cases tg <;> first
  | exact wpAny_pure hQ
  | (cases u <;> first
    | exact wpAny_pure hQ
    | (refine wpAny_bind (wpAny_load ho ?_)
       rw [hc,hd]
       show wpAny M A (if (["enumerate","zip","dict_itemiterator","dict_reverseitemiterator","odict_iterator","itertools.zip_longest","itertools.pairwise"].contains n && vs[0]?==some (rawInt _))=true then _ else _) Q E s
       rw [if_neg (by intro h; rw [hn,Bool.false_and] at h; cases h)]
       exact wpAny_pure hQ))
def Itl (K:PySem.W.Frag) (a:Addr):It:=
 ⟨fun i H=> ∃ xs x,SqL K H a xs∧xs[i]?=some x,fun i H x H'=> H'=H∧∀ xs,SqL K H a xs→xs[i]?=some x,fun i H=> ∃ xs,SqL K H a xs∧xs.length≤i⟩
def Itt (K:PySem.W.Frag) (a:Addr):It:=
 ⟨fun i H=> ∃ xs x,SqT K H a xs∧xs[i]?=some x,fun i H x H'=> H'=H∧∀ xs,SqT K H a xs→xs[i]?=some x,fun i H=> ∃ xs,SqT K H a xs∧xs.length≤i⟩
def Itr (lo:Int) (n:Nat):It:=⟨fun i _=> i < n,fun i H x H'=> H'=H∧x=.int (lo+i),fun i _=> n≤i⟩
theorem qC {P:Program} {w:World} {K:PySem.W.Frag} {tg:Expr} (a it:Addr):xa P w K tg (Itl K a) [it] it (fun i h=> h.IsListIter it a i) where
 mem:=by simp
 obj:=fun i h st b hb=> by
  have e:b=it:=by simpa using hb
  subst e
  obtain ⟨o,e,c,d⟩:=st
  exact ⟨o,e,fun v z=> by rw [d] at z; cases z⟩
 keep:=fun i h h' st k=> st.at fun o e=> k it (by simp) o e
 item:=by
  intro X hP hw hK hc i pins s σ H E I hf st hg
  subst hP hw hK
  obtain ⟨xs,x,hq,hx⟩:=hg
  obtain ⟨its,rv,p,hz⟩:=I.list hq
  obtain ⟨u,hu,ru⟩:=rv.get hx
  obtain ⟨f0,f1,f2,f3,f4,f5⟩:=hf it (by simp)
  refine wpAny_pyNext_list_item st p.isList (x:=u) (by simpa using hu) fun h' st' sb=> ?_
  have I1:Inv X pins σ H { s with heap:=h' }:=I.turned (t':=s.toks) (fun b o hb e=> (sb.2 b hb).trans e) f0 f1 f3 f4 f5
  obtain ⟨o,e,c,d⟩:=id st'
  exact ⟨u,rfl,vn (s:={ s with heap:=h' }) e c d (by decide) ⟨x,H,I1,ru,⟨rfl,fun ys hy=> by rw [I.list_inj hy hq]; exact hx⟩,st',fun b hb=> (hf b hb).1⟩⟩
 done:=by
  intro X hP hw hK hc i pins s σ H E I hf st hg
  subst hP hw hK
  obtain ⟨xs,hq,hx⟩:=hg
  obtain ⟨its,rv,p,hz⟩:=I.list hq
  obtain ⟨f0,f1,f2,f3,f4,f5⟩:=hf it (by simp)
  have hl:=rv.length
  exact wpAny_pyNext_list_end (I.ok.hd hc) st p.isList (by simp; omega) fun h' eb=> ⟨rfl,I.turned (t':=s.toks) (fun b o hb e=> eb b o hb e) f0 f1 f3 f4 f5⟩
 self:=fun _ _ _ _ _ st h=> wpAny_pyIter_listiter st h
theorem nX {P:Program} {w:World} {K:PySem.W.Frag} {tg:Expr} (a it:Addr):xa P w K tg (Itt K a) [it] it (fun i h=> h.IsTupleIter it a i) where
 mem:=by simp
 obj:=fun i h st b hb=> by
  have e:b=it:=by simpa using hb
  subst e
  obtain ⟨o,e,c,d⟩:=st
  exact ⟨o,e,fun v z=> by rw [d] at z; cases z⟩
 keep:=fun i h h' st k=> st.at fun o e=> k it (by simp) o e
 item:=by
  intro X hP hw hK hc i pins s σ H E I hf st hg
  subst hP hw hK
  obtain ⟨xs,x,hq,hx⟩:=hg
  obtain ⟨its,rv,p,hz⟩:=I.tuple hq
  obtain ⟨u,hu,ru⟩:=rv.get hx
  obtain ⟨f0,f1,f2,f3,f4,f5⟩:=hf it (by simp)
  refine wpAny_pyNext_tuple_item st (show s.heap.IsTuple a its.toArray from p) (x:=u) (by simpa using hu) fun h' st' sb=> ?_
  have I1:Inv X pins σ H { s with heap:=h' }:=I.turned (t':=s.toks) (fun b o hb e=> (sb.2 b hb).trans e) f0 f1 f3 f4 f5
  obtain ⟨o,e,c,d⟩:=id st'
  exact ⟨u,rfl,vn (s:={ s with heap:=h' }) e c d (by decide) ⟨x,H,I1,ru,⟨rfl,fun ys hy=> by rw [I.tuple_inj hy hq]; exact hx⟩,st',fun b hb=> (hf b hb).1⟩⟩
 done:=by
  intro X hP hw hK hc i pins s σ H E I hf st hg
  subst hP hw hK
  obtain ⟨xs,hq,hx⟩:=hg
  obtain ⟨its,rv,p,hz⟩:=I.tuple hq
  obtain ⟨f0,f1,f2,f3,f4,f5⟩:=hf it (by simp)
  have hl:=rv.length
  exact wpAny_pyNext_tuple_end (I.ok.hd hc) st (show s.heap.IsTuple a its.toArray from p) (by simp; omega) fun h' eb=> ⟨rfl,I.turned (t':=s.toks) (fun b o hb e=> eb b o hb e) f0 f1 f3 f4 f5⟩
 self:=fun _ _ _ _ _ st h=> wpAny_pyIter_tupleiter st h
theorem oM {P:Program} {w:World} {K:PySem.W.Frag} {tg:Expr} (it:Addr) (lo:Int) (n:Nat):xa P w K tg (Itr lo n) [it] it (fun i h=> IsRangeIter h it (lo+(i:Nat) * 1) ((n:Int) - (i:Nat)) 1) where
 mem:=by simp
 obj:=fun i h st b hb=> by
  have e:b=it:=by simpa using hb
  subst e
  exact ⟨_,st,fun v z=> by
   have z':Data.fields _=Data.cell v:=z
   cases z'⟩
 keep:=fun i h h' st k=> k it (by simp) _ st
 item:=by
  intro X hP hw hK hc i pins s σ H E I hf st hg
  subst hP hw hK
  obtain ⟨f0,f1,f2,f3,f4,f5⟩:=hf it (by simp)
  have W:=Walks.range (prog:=X.prog) (w:=X.w) (I.ok.hd hc) it lo 1 n
  refine W.item i s _ _ hg st fun v h' tk hv st' kk=> ?_
  obtain ⟨t,rfl⟩:=hv
  have I1:Inv X pins σ H { s with heap:=h',toks:=tk }:=I.turned (fun b o hb e=> kk b o (by simpa using hb) e) f0 f1 f3 f4 f5
  refine ⟨_,rfl,vn (s:={ s with heap:=h',toks:=tk }) (n:="range_iterator") st' rfl rfl (by decide) ⟨.int (lo+i),H,I1,⟨t,?_⟩,⟨rfl,rfl⟩,st',fun b hb=> (hf b hb).1⟩⟩
  rw [Int.mul_one]
 done:=by
  intro X hP hw hK hc i pins s σ H E I hf st hg
  subst hP hw hK
  obtain ⟨f0,f1,f2,f3,f4,f5⟩:=hf it (by simp)
  exact wpAny_pyNext_range_end (I.ok.hd hc) st (by have:n≤i:=hg; omega) fun h' eb=> ⟨rfl,I.turned (t':=s.toks) (fun b o hb e=> eb b o hb e) f0 f1 f3 f4 f5⟩
 self:=fun _ _ _ _ _ st h=> wpAny_pyIter_rangeiter st h
end L2
namespace L2
open PySem PySem.Spec PyProof.Rows
section
variable {X:Cx} {tg:Expr}
def Aq (K:PySem.W.Frag) (tl:TE):TI:=fun σ H R=> tl σ H fun x H1=> ∃ a,x=.ref a∧(∃ xs,SqL K H1 a xs)∧R (Itl K a) H1
def AL (K:PySem.W.Frag) (tl:TE):TI:=fun σ H R=> tl σ H fun x H1=> ∃ a,x=.ref a∧(∃ xs,SqT K H1 a xs)∧R (Itt K a) H1
theorem vQ {l:Expr} {tl:TE} (hl:PE X l tl):PI X tg l (Aq X.K tl):=by
 intro pins s σ H R I h
 refine thn (hl pins s σ H _ I h) fun v s1 ⟨x,H1,I1,r1,q1⟩=> ?_
 obtain ⟨a,e,⟨xs,hq⟩,q⟩:=q1
 subst e
 cases r1
 obtain ⟨its,rv,p,hz⟩:=I1.list hq
 refine wpAny_pyIter_list p.isList ?_
 refine ⟨s1.heap.objs.size,[s1.heap.objs.size],_,_,H1,rfl,I1.kept (t':=s1.toks) fun b o e=> Heap.get?_push_of_some _ e,qC a _,⟨_,Heap.get?_push_size _ rfl,rfl,rfl⟩,fun b hb=> ?_,q⟩
 have e:b=s1.heap.objs.size:=by simpa using hb
 subst e
 exact I1.fpOk (Nat.le_refl _) (I1.hok.fresh (Nat.le_refl _))
theorem y_ {l:Expr} {tl:TE} (hl:PE X l tl):PI X tg l (AL X.K tl):=by
 intro pins s σ H R I h
 refine thn (hl pins s σ H _ I h) fun v s1 ⟨x,H1,I1,r1,q1⟩=> ?_
 obtain ⟨a,e,⟨xs,hq⟩,q⟩:=q1
 subst e
 cases r1
 obtain ⟨its,rv,p,hz⟩:=I1.tuple hq
 refine wpAny_pyIter_tuple (show s1.heap.IsTuple a its.toArray from p) ?_
 refine ⟨s1.heap.objs.size,[s1.heap.objs.size],_,_,H1,rfl,I1.kept (t':=s1.toks) fun b o e=> Heap.get?_push_of_some _ e,nX a _,⟨_,Heap.get?_push_size _ rfl,rfl,rfl⟩,fun b hb=> ?_,q⟩
 have e:b=s1.heap.objs.size:=by simpa using hb
 subst e
 exact I1.fpOk (Nat.le_refl _) (I1.hok.fresh (Nat.le_refl _))
theorem m8 {pins:List (Addr×Obj)} {σ:St} {H:Hp} {s:Shared} {R:It→Hp→Prop} {E:Value→Shared→Prop} {lo hi:Int} {t u v:Tok} {tk:Nat} (I:Inv X pins σ H s) (h1:-(2 ^ 62)≤lo) (h2:lo < 2 ^ 62) (h3:-(2 ^ 62)≤hi) (h4:hi < 2 ^ 62)
  (q:R (Itr lo (hi - lo).toNat) H):wpAny (model X.prog X.w) X.A (pyIter (.ref s.heap.objs.size)) (PIE X pins σ tg R) E { s with heap:=s.heap.push { cls:=.type "range",data:=.fields #[.int lo t,.int hi u,.int 1 v] },toks:=tk }:=by
 refine wpAny_pyIter_range (IsRange.new ..) (small_one h1 h2 h3 h4) ?_
 have I1:Inv X pins σ H { s with heap:=s.heap.push { cls:=.type "range",data:=.fields #[.int lo t,.int hi u,.int 1 v] },toks:=tk }:=I.kept fun b o e=> Heap.get?_push_of_some _ e
 refine ⟨(s.heap.push { cls:=.type "range",data:=.fields #[.int lo t,.int hi u,.int 1 v] }).objs.size,[(s.heap.push { cls:=.type "range",data:=.fields #[.int lo t,.int hi u,.int 1 v] }).objs.size],_,_,H,rfl,
  I1.kept (t':=tk) fun b o e=> Heap.get?_push_of_some _ e,oM _ lo (hi - lo).toNat,?_,fun b hb=> ?_,q⟩
 ·have e1:lo+((0:Nat):Int) * 1=lo:=by simp
  have e2:(((hi - lo).toNat:Nat):Int) - ((0:Nat):Int)=Builtin.Range.rangeSize lo hi 1:=by rw [rangeSize_one]; split <;> omega
  show IsRangeIter _ _ (lo+((0:Nat):Int) * 1) ((((hi - lo).toNat:Nat):Int) - ((0:Nat):Int)) 1
  rw [e1,e2]
  exact Heap.get?_push_size _ rfl
 ·have e:b=(s.heap.push { cls:=.type "range",data:=.fields #[.int lo t,.int hi u,.int 1 v] }).objs.size:=by simpa using hb
  subst e
  exact I1.fpOk (Nat.le_refl _) (I1.hok.fresh (Nat.le_refl _))
def Ag (ta:TA):TI:=fun σ H R=> ta σ H fun vs H1=> ∃ j:Int,vs=[.int j]∧-(2 ^ 62)≤j∧j < 2 ^ 62∧R (Itr 0 j.toNat) H1
def zH (ta:TA):TI:=fun σ H R=> ta σ H fun vs H1=> ∃ i j:Int,vs=[.int i,.int j]∧(-(2 ^ 62)≤i∧i < 2 ^ 62∧-(2 ^ 62)≤j∧j < 2 ^ 62)∧R (Itr i (j - i).toNat) H1
theorem rA {a:Expr} {ta:TA} {p pos:Pos} (hg:Gl X "range") (hm:X.mg "range"=none) (ha:PA X [a] ta) (hs:starEach [a] X.env=[(false,eval a X.env)]:=by rfl):PI X tg (.Call (.Name "range" p) [a] [] pos) (Ag ta):=by
 intro pins s σ H R I h
 refine Call_ (dD I hg hm boot_range (PyProof.Rows.callWith_type1 (thn (ha pos pins s σ H _ I h) fun us s1 ⟨vs,H1,I1,r1,q1⟩=> ?_) hs rfl))
 obtain ⟨j,e,q1,q2,q⟩:=q1
 subst e
 cases r1 with
 | cons r rr=>
  cases rr
  obtain ⟨t,rfl⟩:=r
  exact call_range_1 (m8 I1 (by omega) (by omega) q1 q2 (by simpa using q))
theorem sq {a b:Expr} {ta:TA} {p pos:Pos} (hg:Gl X "range") (hm:X.mg "range"=none) (ha:PA X [a,b] ta) (hs:starEach [a,b] X.env=[(false,eval a X.env),(false,eval b X.env)]:=by rfl) (hs2:starEach [b] X.env=[(false,eval b X.env)]:=by rfl):
  PI X tg (.Call (.Name "range" p) [a,b] [] pos) (zH ta):=by
 intro pins s σ H R I h
 refine Call_ (dD I hg hm boot_range (PyProof.Rows.callWith_type1 (thn (ha pos pins s σ H _ I h) fun us s1 ⟨vs,H1,I1,r1,q1⟩=> ?_) (by rw [hs,hs2]) (by rw [hs2]; rfl)))
 obtain ⟨i,j,e,⟨q1,q2,q3,q4⟩,q⟩:=q1
 subst e
 cases r1 with
 | cons r rr=>
  cases rr with
  | cons r' rr=>
   cases rr
   obtain ⟨t,rfl⟩:=r
   obtain ⟨t',rfl⟩:=r'
   exact call_range_2 (m8 I1 q1 q2 q3 q4 q)
def AE (wi:TI) (g:TG) (tb:TS):TS:=fun D σ H=> wi σ H fun J H1=> ∃ W:Nat→Nat→St→Hp→Prop,(∃ m,W 0 m σ H1)∧∀ i m σ H,W i m σ H→
 (J.stop i H∧D.nx σ H)∨(J.go i H∧∃ N:St→Hp→Prop,(∀ σ' H',N σ' H'→∃ m',m' < m∧W (i+1) m' σ' H')∧∀ x H',J.yld i H x H'→g x σ H' fun σ2 H2=> tb { D with nx:=N,ct:=N,bk:=D.nx } σ2 H2)
def jJ (fp:List Addr) (h:Heap):List (Addr×Obj):=fp.filterMap fun b=> (h.get? b).map fun o=> (b,o)
theorem cU {fp:List Addr} {h:Heap} {b:Addr} {o:Obj} (hb:b∈fp) (e:h.get? b=some o):(b,o)∈jJ fp h:=List.mem_filterMap.mpr ⟨b,hb,by rw [e]; rfl⟩
theorem qV {fp:List Addr} {h:Heap} {p:Addr×Obj} (hp:p∈jJ fp h):p.1∈fp∧h.get? p.1=some p.2:=by
 obtain ⟨b,hb,e⟩:=List.mem_filterMap.mp hp
 cases q:h.get? b with
 | none=> rw [q] at e; cases e
 | some o=>
  rw [q] at e
  have e':(b,o)=p:=Option.some.inj e
  subst e'
  exact ⟨hb,q⟩
theorem Inv.pinned {pins:List (Addr×Obj)} {σ:St} {H:Hp} {s:Shared} {fp:List Addr} (I:Inv X pins σ H s) (hf:∀ b∈fp,jh X pins H b) (ho:∀ b∈fp,∃ o,s.heap.get? b=some o∧∀ v,o.data≠.cell v):Inv X (pins++jJ fp s.heap) σ H s:=
 I.pins_of fun p hp=> (List.mem_append.mp hp).elim (fun z=> I.pin p (List.mem_append_right _ z)) fun z=> by
  obtain ⟨hb,e⟩:=qV z
  obtain ⟨f0,f1,f2,_⟩:=hf p.1 hb
  obtain ⟨o,e',d⟩:=ho p.1 hb
  rw [e] at e'; cases e'
  exact ⟨e,f0,f1,f2,d⟩
theorem Inv.unpinned {pins pl:List (Addr×Obj)} {σ:St} {H:Hp} {s:Shared} (I:Inv X (pins++pl) σ H s):Inv X pins σ H s:=I.pins_of fun p hp=> I.pin p (List.mem_append_right _ (List.mem_append_left _ hp))
theorem zd {iter:Expr} {body:List Stmt} {wi:TI} {g:TG} {tb:TS} {pos:Pos} (hp:PassesOwn (model X.prog X.w) X.A X.env X.xe) (hc:X.calm=true) (hi:PI X tg iter wi) (hg:PG X tg g) (hb:PSs X body tb)
  (hs:∀ x,foldedSetIterable iter X.env x=pure x:=by intro _; rfl):PS X (.For tg iter body [] pos) (AE wi g tb):=by
 intro pins s σ H D I h
 refine wpAny_For (thn (hi pins s σ H _ I h) fun v s1 h1=> thn h1 fun itv s2 h2=> ?_) hs
 obtain ⟨it,fp,tn,J,H2,e,I2,T,st2,f2,W,⟨m0,w0⟩,turn⟩:=h2
 subst e
 have stat:∀ {H':Hp},(∀ b∈fp,H' b=none)→∀ b∈fp,jh X pins H' b:=fun hn b hb=> ⟨hn b hb,(f2 b hb).2⟩
 refine codeAny_forLoop_any (fun n s'=> ∃ i σ' H',Inv X pins σ' H' s'∧tn i s'.heap∧(∀ b∈fp,H' b=none)∧W i n σ' H') ?_ m0 ⟨0,σ,H2,I2,st2,fun b hb=> (f2 b hb).1,w0⟩
 rintro n s3 ⟨i,σ3,H3,I3,st3,fr3,w3⟩
 rcases turn i n σ3 H3 w3 with ⟨stop,qn⟩ | ⟨go,N,hN,step⟩
 ·refine wpAny_passesOwn hp (thn (T.done X rfl rfl rfl hc i pins s3 σ3 H3 X.xe I3 (stat fr3) st3 stop) fun r s4 ⟨hr,I4⟩=> ?_)
  subst hr
  exact wpAny_execs_nil ⟨σ3,H3,I4,qn⟩
 ·refine wpAny_passesOwn hp (thn (T.item X rfl rfl rfl hc i pins s3 σ3 H3 X.xe I3 (stat fr3) st3 go) fun r s4 ⟨u,hr,h4⟩=> ?_)
  subst hr
  refine wpAny_passesOwn hp (thn h4 fun _ s5 ⟨x,H5,I5,r5,y5,st5,fr5⟩=> ?_)
  have I5':=I5.pinned (stat fr5) (T.obj _ _ st5)
  refine wpAny_passesOwn hp (thn (hg _ s5 σ3 H5 x u _ I5' r5 (step x H5 y5)) fun _ s6 ⟨σ6,H6,I6,q6⟩=> ?_)
  refine wpAny_passesOwn hp (thn (hb _ s6 σ6 H6 _ I6 q6) fun f s7 q7=> ?_)
  have again:∀ {σ7:St} {H7:Hp},Inv X (pins++jJ fp s5.heap) σ7 H7 s7→N σ7 H7→∃ m,m < n∧∃ i σ' H',Inv X pins σ' H' s7∧tn i s7.heap∧(∀ b∈fp,H' b=none)∧W i m σ' H':=fun {σ7 H7} I7 n7=> by
   obtain ⟨m',hm,w7⟩:=hN σ7 H7 n7
   refine ⟨m',hm,i+1,σ7,H7,I7.unpinned,T.keep _ _ _ st5 fun b hb o e=> (I7.pin (b,o) (List.mem_append_right _ (List.mem_append_right _ (cU hb e)))).1,fun b hb=> ?_,w7⟩
   obtain ⟨o,e,d⟩:=T.obj _ _ st5 b hb
   exact (I7.pin (b,o) (List.mem_append_right _ (List.mem_append_right _ (cU hb e)))).2.1
  cases f with
  | next=> obtain ⟨σ7,H7,I7,n7⟩:=q7; exact again I7 n7
  | cont=> obtain ⟨σ7,H7,I7,n7⟩:=q7; exact again I7 n7
  | brk=> obtain ⟨σ7,H7,I7,q7⟩:=q7; exact ⟨σ7,H7,I7.unpinned,q7⟩
  | ret v=> obtain ⟨x7,σ7,H7,I7,r7,q7⟩:=q7; exact ⟨x7,σ7,H7,I7.unpinned,r7,q7⟩
end
end L2
namespace L2
open PySem PySem.Spec PyProof.Rows
abbrev R2:=V→V→Hp→VK→Prop
def OpR (X:Cx) (f:Value→Value→Sem Value) (r:R2):Prop:=
 ∀ (pins:List (Addr×Obj)) (s:Shared) (σ:St) (H:Hp) (x y:V) (v u:Value) (Q:VK),Inv X pins σ H s→a_ x v→a_ y u→r x y H Q→
  wpAny (model X.prog X.w) X.A (f v u) (EP X pins σ Q) X.xe s
def UnR (X:Cx) (f:Value→Sem Value) (r:V→Hp→VK→Prop):Prop:=
 ∀ (pins:List (Addr×Obj)) (s:Shared) (σ:St) (H:Hp) (x:V) (v:Value) (Q:VK),Inv X pins σ H s→a_ x v→r x H Q→
  wpAny (model X.prog X.w) X.A (f v) (EP X pins σ Q) X.xe s
def dj (X:Cx) (f:Value) (r:List V→Hp→VK→Prop):Prop:=
 ∀ (pins:List (Addr×Obj)) (s:Shared) (σ:St) (H:Hp) (xs:List V) (us:List Value) (Q:VK),Inv X pins σ H s→aN xs us→r xs H Q→
  wpAny (model X.prog X.w) X.A (call f us) (EP X pins σ Q) X.xe s
def tOp (r:R2) (ta tb:TE):TE:=fun σ H Q=> ta σ H fun x H1=> tb σ H1 fun y H2=> r x y H2 Q
def tUn (r:V→Hp→VK→Prop) (ta:TE):TE:=fun σ H Q=> ta σ H fun x H1=> r x H1 Q
def rI (C:Int→Int→Prop) (g:Int→Int→V):R2:=fun x y H Q=> ∃ i j,x=.int i∧y=.int j∧C i j∧Q (g i j) H
def rI0 (g:Int→Int→V):R2:=fun x y H Q=> ∃ i j,x=.int i∧y=.int j∧Q (g i j) H
def rU (g:Int→V):V→Hp→VK→Prop:=fun x H Q=> ∃ i,x=.int i∧Q (g i) H
section
variable {X:Cx} {a b c:Expr} {ta tb tc:TE} {pos:Pos}
theorem yX (ha:PE X a ta) (hb:PE X b tb) {pins:List (Addr×Obj)} {s:Shared} {σ:St} {H:Hp} {R:V→V→Hp→Prop} (I:Inv X pins σ H s)
  (h:ta σ H fun x H1=> tb σ H1 fun y H2=> R x y H2) {Q:Value→Shared→Prop} {f:Value→Value→Sem Value}
  (hf:∀ v u s2 x y H2,Inv X pins σ H2 s2→a_ x v→a_ y u→R x y H2→wpAny (model X.prog X.w) X.A (f v u) Q X.xe s2):
  wpAny (model X.prog X.w) X.A (eval a X.env) (fun v s₁=> wpAny (model X.prog X.w) X.A (eval b X.env) (fun u s₂=> wpAny (model X.prog X.w) X.A (f v u) Q X.xe s₂) X.xe s₁) X.xe s:=by
 refine thn (ha pins s σ H _ I h) fun v s1 ⟨x,H1,I1,r1,q1⟩=> ?_
 refine thn (hb pins s1 σ H1 _ I1 q1) fun u s2 ⟨y,H2,I2,r2,q2⟩=> ?_
 exact hf v u s2 x y H2 I2 r1 r2 q2
theorem uL {op:Operator} {r:R2} (ho:OpR X (binaryOp op) r) (ha:PE X a ta) (hb:PE X b tb):PE X (.BinOp a op b pos) (tOp r ta tb):=by
 intro pins s σ H Q I h
 exact wpAny_BinOp (yX ha hb I h fun v u s2 x y H2 I2 rx ry q=> ho pins s2 σ H2 x y v u Q I2 rx ry q)
theorem Aa {op:UnaryOp} {r:V→Hp→VK→Prop} (ho:UnR X (unaryOp op) r) (ha:PE X a ta):PE X (.UnaryOp op a pos) (tUn r ta):=by
 intro pins s σ H Q I h
 exact UnaryOp_ (thn (ha pins s σ H _ I h) fun v s1 ⟨x,H1,I1,r1,q1⟩=> ho pins s1 σ H1 x v Q I1 r1 q1)
theorem opI {f:Value→Value→Sem Value} {C:Int→Int→Prop} {g:Int→Int→Int}
  (rule:∀ (i j:Int) (t u:Tok) (s:Shared) (Q:Value→Shared→Prop) (E:Value→Shared→Prop),C i j→Q (.int (g i j) s.toks) { s with toks:=s.toks+1 }→wpAny (model X.prog X.w) X.A (f (.int i t) (.int j u)) Q E s):
  OpR X f (rI C fun i j=> .int (g i j)):=by
 intro pins s σ H x y v u Q I rx ry h
 obtain ⟨i,j,rfl,rfl,hc,q⟩:=h
 obtain ⟨t,rfl⟩:=rx
 obtain ⟨t',rfl⟩:=ry
 exact rule i j t t' s _ _ hc ⟨.int (g i j),H,I.tok _,⟨_,rfl⟩,q⟩
theorem Ao {f:Value→Value→Sem Value} {g:Int→Int→Int}
  (rule:∀ (i j:Int) (t u:Tok) (s:Shared) (Q:Value→Shared→Prop) (E:Value→Shared→Prop),Q (.int (g i j) s.toks) { s with toks:=s.toks+1 }→wpAny (model X.prog X.w) X.A (f (.int i t) (.int j u)) Q E s):
  OpR X f (rI0 fun i j=> .int (g i j)):=by
 intro pins s σ H x y v u Q I rx ry h
 obtain ⟨i,j,rfl,rfl,q⟩:=h
 obtain ⟨t,rfl⟩:=rx
 obtain ⟨t',rfl⟩:=ry
 exact rule i j t t' s _ _ ⟨.int (g i j),H,I.tok _,⟨_,rfl⟩,q⟩
theorem wY {f:Value→Value→Sem Value} {g:Int→Int→Bool}
  (rule:∀ (i j:Int) (t u:Tok) (s:Shared) (Q:Value→Shared→Prop) (E:Value→Shared→Prop),Q (.bool (g i j)) s→wpAny (model X.prog X.w) X.A (f (.int i t) (.int j u)) Q E s):
  OpR X f (rI0 fun i j=> .bl (g i j)):=by
 intro pins s σ H x y v u Q I rx ry h
 obtain ⟨i,j,rfl,rfl,q⟩:=h
 obtain ⟨t,rfl⟩:=rx
 obtain ⟨t',rfl⟩:=ry
 exact rule i j t t' s _ _ ⟨.bl (g i j),H,I,rfl,q⟩
def zZ (i j:Int):Prop:=0≤j∧j≤1000000∧i.natAbs < 2 ^ 64
theorem yT:OpR X (binaryOp .Add) (rI0 fun i j=> .int (i+j)):=Ao fun _ _ _ _ _ _ _ q=> add_int q
theorem yt:OpR X (binaryOp .Sub) (rI0 fun i j=> .int (i - j)):=Ao fun _ _ _ _ _ _ _ q=> sub_int q
theorem yN:OpR X (binaryOp .Mod) (rI (fun _ j=> 0 < j) fun i j=> .int (i % j)):=opI fun i j _ _ _ _ _ hc q=> by
 have h1:(0:Int) < j:=hc
 exact mod_int' (by omega) (by rw [Int.fmod_eq_emod_of_nonneg i (by omega)]; exact q)
theorem yE:OpR X (binaryOp .Pow) (rI zZ fun i j=> .int (i ^ j.toNat)):=opI fun _ _ _ _ _ _ _ hc q=> pow_int_small hc.1 hc.2.1 hc.2.2 q
theorem unI {f:Value→Sem Value} {g:Int→Int}
  (rule:∀ (i:Int) (t:Tok) (s:Shared) (Q:Value→Shared→Prop) (E:Value→Shared→Prop),Q (.int (g i) s.toks) { s with toks:=s.toks+1 }→wpAny (model X.prog X.w) X.A (f (.int i t)) Q E s):
  UnR X f (rU fun i=> .int (g i)):=by
 intro pins s σ H x v Q I rx h
 obtain ⟨i,rfl,q⟩:=h
 obtain ⟨t,rfl⟩:=rx
 exact rule i t s _ _ ⟨.int (g i),H,I.tok _,⟨_,rfl⟩,q⟩
theorem yZ:UnR X (unaryOp .USub) (rU fun i=> .int (-i)):=unI fun _ _ _ _ _ q=> neg_int q
end
def zL:V→V→Bool
 | .non,.non=> true | .non,.int _=> true | .int _,.non=> true | .non,.bl _=> true | .bl _,.non=> true | .non,.str _=> true | .str _,.non=> true
 | .int _,.int _=> true | .bl _,.bl _=> true | .str _,.str _=> true | .byt _,.byt _=> true
 | .int _,.str _=> true | .str _,.int _=> true | .bl _,.str _=> true | .str _,.bl _=> true
 | _,_=> false
def rEq:R2:=fun x y H Q=> zL x y=true∧Q (.bl (decide (x=y))) H
def rNe:R2:=fun x y H Q=> zL x y=true∧Q (.bl (!decide (x=y))) H
theorem iK {i j:Int}:decide (V.int i=V.int j)=(i==j):=by
 rw [Bool.eq_iff_iff]
 simp
theorem uP {i j:Bool}:decide (V.bl i=V.bl j)=(i==j):=by
 rw [Bool.eq_iff_iff]
 simp
theorem pX {i j:Str}:decide (V.str i=V.str j)=(i==j):=by
 rw [Bool.eq_iff_iff]
 simp
theorem pF {i j:Array UInt8}:decide (V.byt i=V.byt j)=(i.toList==j.toList):=by
 rw [Bool.eq_iff_iff]
 cases i
 cases j
 simp
section
variable {X:Cx} {a b c:Expr} {ta tb tc:TE} {pos:Pos}
theorem aU {pins:List (Addr×Obj)} {σ:St} {H:Hp} {s:Shared} {Q:VK} {k k':Bool} (I:Inv X pins σ H s) (q:Q (.bl k) H) (e:k=k'):EP X pins σ Q (.bool k') s:=by
 subst e
 exact ⟨.bl k,H,I,rfl,q⟩
theorem Ab:OpR X (compareOp .Eq) rEq:=by
 intro pins s σ H x y v u Q I rx ry h
 obtain ⟨hs,q⟩:=h
 cases x with
 | non=>
  cases rx
  cases y with
  | non=> cases ry; exact PySem.EqNone.eq_none_none (aU I q (by simp))
  | bl j=> cases ry; exact PySem.EqNone.eq_none_bool (aU I q (by simp))
  | int j=> obtain ⟨t',rfl⟩:=ry; exact PySem.EqNone.eq_none_int (aU I q (by simp))
  | str j=> obtain ⟨t',rfl⟩:=ry; exact PySem.EqNone.eq_none_str (aU I q (by simp))
  | _=> exact absurd (show false=true from hs) Bool.false_ne_true
 | bl i=>
  cases rx
  cases y with
  | non=> cases ry; exact PySem.EqNone.eq_bool_none (aU I q (by simp))
  | bl j=> cases ry; exact eq_bool (aU I q uP)
  | str j=> obtain ⟨t',rfl⟩:=ry; exact PySem.EqMixed.eq_bool_str (aU I q (by simp))
  | _=> exact absurd (show false=true from hs) Bool.false_ne_true
 | int i=>
  obtain ⟨t,rfl⟩:=rx
  cases y with
  | non=> cases ry; exact PySem.EqNone.eq_int_none (aU I q (by simp))
  | int j=> obtain ⟨t',rfl⟩:=ry; exact eq_int (aU I q iK)
  | str j=> obtain ⟨t',rfl⟩:=ry; exact PySem.EqMixed.eq_int_str (aU I q (by simp))
  | _=> exact absurd (show false=true from hs) Bool.false_ne_true
 | str i=>
  obtain ⟨t,rfl⟩:=rx
  cases y with
  | non=> cases ry; exact PySem.EqNone.eq_str_none (aU I q (by simp))
  | bl j=> cases ry; exact PySem.EqMixed.eq_str_bool (aU I q (by simp))
  | int j=> obtain ⟨t',rfl⟩:=ry; exact PySem.EqMixed.eq_str_int (aU I q (by simp))
  | str j=> obtain ⟨t',rfl⟩:=ry; exact eq_str (aU I q pX)
  | _=> exact absurd (show false=true from hs) Bool.false_ne_true
 | byt i=>
  obtain ⟨t,rfl⟩:=rx
  cases y with
  | byt j=> obtain ⟨t',rfl⟩:=ry; exact PySem.W.eq_bytes (aU I q pF)
  | _=> exact absurd (show false=true from hs) Bool.false_ne_true
 | _=> cases y <;> exact absurd (show false=true from hs) Bool.false_ne_true
theorem zP:OpR X (compareOp .NotEq) rNe:=by
 intro pins s σ H x y v u Q I rx ry h
 obtain ⟨hs,q⟩:=h
 cases x with
 | non=>
  cases rx
  cases y with
  | non=> cases ry; exact PySem.EqNone.ne_none_none (aU I q (by simp))
  | bl j=> cases ry; exact PySem.EqNone.ne_none_bool (aU I q (by simp))
  | int j=> obtain ⟨t',rfl⟩:=ry; exact PySem.EqNone.ne_none_int (aU I q (by simp))
  | str j=> obtain ⟨t',rfl⟩:=ry; exact PySem.EqNone.ne_none_str (aU I q (by simp))
  | _=> exact absurd (show false=true from hs) Bool.false_ne_true
 | bl i=>
  cases rx
  cases y with
  | non=> cases ry; exact PySem.EqNone.ne_bool_none (aU I q (by simp))
  | bl j=> cases ry; exact ne_bool (aU I q (congrArg not uP))
  | str j=> obtain ⟨t',rfl⟩:=ry; exact PySem.EqMixed.ne_bool_str (aU I q (by simp))
  | _=> exact absurd (show false=true from hs) Bool.false_ne_true
 | int i=>
  obtain ⟨t,rfl⟩:=rx
  cases y with
  | non=> cases ry; exact PySem.EqNone.ne_int_none (aU I q (by simp))
  | int j=> obtain ⟨t',rfl⟩:=ry; exact ne_int (aU I q (congrArg not iK))
  | str j=> obtain ⟨t',rfl⟩:=ry; exact PySem.EqMixed.ne_int_str (aU I q (by simp))
  | _=> exact absurd (show false=true from hs) Bool.false_ne_true
 | str i=>
  obtain ⟨t,rfl⟩:=rx
  cases y with
  | non=> cases ry; exact PySem.EqNone.ne_str_none (aU I q (by simp))
  | bl j=> cases ry; exact PySem.EqMixed.ne_str_bool (aU I q (by simp))
  | int j=> obtain ⟨t',rfl⟩:=ry; exact PySem.EqMixed.ne_str_int (aU I q (by simp))
  | str j=> obtain ⟨t',rfl⟩:=ry; exact ne_str (aU I q (congrArg not pX))
  | _=> exact absurd (show false=true from hs) Bool.false_ne_true
 | byt i=>
  obtain ⟨t,rfl⟩:=rx
  cases y with
  | byt j=> obtain ⟨t',rfl⟩:=ry; exact PySem.W.ne_bytes (aU I q (congrArg not pF))
  | _=> exact absurd (show false=true from hs) Bool.false_ne_true
 | _=> cases y <;> exact absurd (show false=true from hs) Bool.false_ne_true
theorem An:OpR X (compareOp .Lt) (rI0 fun i j=> .bl (decide (i < j))):=wY fun _ _ _ _ _ _ _ q=> lt_int q
theorem zE:OpR X (compareOp .LtE) (rI0 fun i j=> .bl (decide (i≤j))):=wY fun _ _ _ _ _ _ _ q=> le_int q
theorem zY:OpR X (compareOp .Gt) (rI0 fun i j=> .bl (decide (j < i))):=wY fun _ _ _ _ _ _ _ q=> gt_int q
theorem zQ:OpR X (compareOp .GtE) (rI0 fun i j=> .bl (decide (j≤i))):=wY fun _ _ _ _ _ _ _ q=> ge_int q
theorem sS (b:Expr) {op:CmpOp} (h:op≠.In:=by decide) (h2:op≠.NotIn:=by decide):behindInMarks op b=false:=by
 have e1:(op==CmpOp.In)=false:=by cases op <;> first | rfl | exact absurd rfl h
 have e2:(op==CmpOp.NotIn)=false:=by cases op <;> first | rfl | exact absurd rfl h2
 cases b <;> simp [behindInMarks,e1,e2]
theorem wt {op:CmpOp} {r:R2} (ho:OpR X (compareOp op) r) (ha:PE X a ta) (hb:PE X b tb) (hm:behindInMarks op b=false):PE X (.Compare a [op] [b] pos) (tOp r ta tb):=by
 intro pins s σ H Q I h
 exact wpAny_Compare1 (yX ha hb I h fun v u s2 x y H2 I2 rx ry q=> ho pins s2 σ H2 x y v u Q I2 rx ry q) hm
def zA (t:TE):TT:=fun σ H Q=> t σ H fun x H'=> ∃ k,x=.bl k∧Q k H'
theorem v6 {op:CmpOp} {r:R2} (ho:OpR X (compareOp op) r) (ha:PE X a ta) (hb:PE X b tb) (hm:behindInMarks op b=false):PT X (.Compare a [op] [b] pos) (zA (tOp r ta tb)):=by
 intro pins s σ H Q I h
 refine wpAny_isTrue_Compare1 (thn (ha pins s σ H _ I h) fun v s1 ⟨x,H1,I1,r1,q1⟩=> thn (hb pins s1 σ H1 _ I1 q1) fun u s2 ⟨y,H2,I2,r2,q2⟩=>
  thn (ho pins s2 σ H2 x y v u _ I2 r1 r2 q2) fun c s3 ⟨z,H3,I3,r3,k,e,q3⟩=> ?_) hm
 subst e
 cases r3
 exact wpAny_truthy_bool ⟨H3,I3,q3⟩
theorem oJ:(sizeLine:Nat) < 2 ^ 63:=by rw [sizeLine_eq]; decide
theorem fX {x:V} {us:List Value} (r:aN [x] us):∃ u,us=[u]∧a_ x u:=by
 cases r with
 | cons r1 r2=> cases r2; exact ⟨_,rfl,r1⟩
theorem jb {x y:V} {us:List Value} (r:aN [x,y] us):∃ u w',us=[u,w']∧a_ x u∧a_ y w':=by
 cases r with
 | cons r1 r2=>
  cases r2 with
  | cons r3 r4=> cases r4; exact ⟨_,_,rfl,r1,r3⟩
theorem vx:dj X (.builtin "abs") (fun xs H Q=> ∃ i,xs=[.int i]∧Q (.int (if i < 0 then -i else i)) H):=by
 intro pins s σ H xs us Q I r h
 obtain ⟨i,rfl,q⟩:=h
 obtain ⟨u,rfl,t,rfl⟩:=fX r
 exact call_abs_int fun u tk=> ⟨.int (if i < 0 then -i else i),H,I.tok _,⟨_,rfl⟩,q⟩
theorem rH (hc:X.calm=true):dj X (.builtin "max") (fun xs H Q=> ∃ i j,xs=[.int i,.int j]∧Q (.int (if j > i then j else i)) H):=by
 intro pins s σ H xs us Q I r h
 obtain ⟨i,j,rfl,q⟩:=h
 obtain ⟨u,w',rfl,⟨t,rfl⟩,⟨t',rfl⟩⟩:=jb r
 refine max_two_ints (I.ok.hd hc) fun h' tk k=> ⟨_,H,I.kept k,?_,q⟩
 by_cases hj:j > i
 ·rw [if_pos hj,if_pos hj]; exact ⟨_,rfl⟩
 ·rw [if_neg hj,if_neg hj]; exact ⟨_,rfl⟩
theorem rN (hc:X.calm=true):dj X (.builtin "min") (fun xs H Q=> ∃ i j,xs=[.int i,.int j]∧Q (.int (if j < i then j else i)) H):=by
 intro pins s σ H xs us Q I r h
 obtain ⟨i,j,rfl,q⟩:=h
 obtain ⟨u,w',rfl,⟨t,rfl⟩,⟨t',rfl⟩⟩:=jb r
 refine min_two_ints (I.ok.hd hc) fun h' tk k=> ⟨_,H,I.kept k,?_,q⟩
 by_cases hj:j < i
 ·rw [if_pos hj,if_pos hj]; exact ⟨_,rfl⟩
 ·rw [if_neg hj,if_neg hj]; exact ⟨_,rfl⟩
end
end L2
namespace L2
open PySem PySem.Spec PyProof.Rows
structure yy (h:Heap) (x dx C:Addr) (mA:Str→Option Value):Prop where
 obj:h.get? x=some (PySem.W.instObj C dx)
 ns:h.Ns1 dx mA
 ne:dx≠x
theorem qE {h:Heap} {dx:Addr} {mA:Str→Option Value} (n:h.Ns1 dx mA):∃ od,h.get? dx=some od∧∀ name,PySem.W.lookIn name od=some (mA name):=by
 obtain ⟨o,es,ep,ho,hd,hk,_,hm⟩:=n
 refine ⟨o,ho,fun name=> ?_⟩
 have e:=hm name
 unfold nsFind findBy at e
 rw [← Array.find?_toList] at e
 unfold PySem.W.lookIn
 rw [hd]
 dsimp only
 split
 ·rename_i y q
  rw [q] at e
  exact congrArg some e
 ·rename_i q
  rw [q] at e
  have a:es.toList.any (·.refKey)=false:=by
   rw [List.any_eq_false]
   intro y hy
   obtain ⟨z,t,hkey⟩:=hk y (Array.mem_toList_iff.mp hy)
   simp [DictEntry.refKey,hkey]
  have a':¬ es.toList.any (·.refKey)=true:=by rw [a]; exact Bool.false_ne_true
  rw [if_neg a']
  exact congrArg some e
theorem yy.look {h:Heap} {x dx C:Addr} {mA:Str→Option Value} (I:yy h x dx C mA):∃ od,PySem.W.InstAt h x (PySem.W.instObj C dx) C (some od)∧∀ name,PySem.W.lookIn name od=some (mA name):=
 let ⟨od,ho,hl⟩:=qE I.ns
 ⟨od,⟨I.obj,rfl,rfl,ho⟩,hl⟩
section
variable {prog:Program} {w:World} {A:Around} {E:Value→Shared→Prop} {s:Shared} {K:PySem.W.Frag} {x dx C f:Addr} {mA:Str→Option Value} {name:Str} {v:Value}
end
section
variable {P:Program} {w:World} {H H':Hp} {h h':Heap} {a C dx:Addr} {fs fs':List (Str×V)}
theorem wz (hok:HOk P w H h) (e:H a=some (.ins C dx fs)):∃ mA,yy h a dx C mA∧(∀ f,yH (fs.lookup f) (mA f))∧PySem.Within mA (fs.map (·.1))∧fs.length≤1000∧H dx=some (.own a):=by
 obtain ⟨d,z,ne,ob,mA,n,r,q⟩:=(show cq P w H h a (.ins C dx fs) from hok a _ e)
 exact ⟨mA,⟨ob,n,ne⟩,r,q,z,d⟩
end
structure Cls (K:PySem.W.Frag) (C:Addr):Prop where
 pg:PySem.W.plainGet K C Str.empty=true
 hd:PySem.W.hasDictIn K C=true
 po:PySem.W.plainOver K C=true
 sa:PySem.W.findIn K (.ref C) "__setattr__"=some (some (.builtin "object.__setattr__"))
theorem Cls.get {K:PySem.W.Frag} {C:Addr} (c:Cls K C) (f:Str):PySem.W.plainGet K C f=true:=c.pg
structure Con (K:PySem.W.Frag) (C:Addr) (f:Str) (v:V) (u:Value):Prop where
 at_:PySem.W.findIn K (.ref C) f=some (some u)
 rel:a_ v u
 get:PySem.W.specialIn K u "__get__"=some none
 cp:PySem.W.copiedNames.contains f=false
structure A0 (K:PySem.W.Frag) (C:Addr) (m:Str) (f:Addr):Prop where
 at_:PySem.W.findIn K (.ref C) m=some (some (.ref f))
 fn:PySem.W.isFn K (.ref f)=true
 kp:PySem.W.keepIn K (.ref f)=true
section
variable {X:Cx} {pins:List (Addr×Obj)} {σ:St} {H:Hp} {s:Shared} {a C dx:Addr} {fs:List (Str×V)} {f:Str} {v:V} {A:Around} {E:Value→Shared→Prop}
end
section
variable {X:Cx} {o e value:Expr} {f:Str} {pos pos' tpos:Pos} {ta tv:TE}
end
section
variable {X:Cx} {pins:List (Addr×Obj)} {σ:St} {H:Hp} {s:Shared} {A:Around} {E:Value→Shared→Prop} {Q:Value→Shared→Prop} {c:Value} {b:Bool}
inductive iA (K:PySem.W.Frag) (H:Hp):V→Value→Prop where
 | non:iA K H .non (.type "NoneType")
 | bl (x:Bool):iA K H (.bl x) (.type "bool")
 | int (i:Int):iA K H (.int i) (.type "int")
 | str (x:Str):iA K H (.str x) (.type "str")
 | flt (x:UInt64):iA K H (.flt x) (.type "float")
 | lst {a:Addr} {xs:List V} (e:H a=some (.lst xs)):iA K H (.ref a) (.type "list")
 | frz {a:Addr} {o:Obj} {xs:List V} (e:H a=some (.frz o (.lst xs))):iA K H (.ref a) (.type "list")
 | tup {a:Addr} {xs:List V} (e:H a=some (.tup xs)):iA K H (.ref a) (.type "tuple")
 | dK {a:Addr} {kvs:List (Key×V)} (e:H a=some (.dK kvs)):iA K H (.ref a) (.type "dict")
 | dT {a:Addr} {kvs:List (List Key×V)} (e:H a=some (.dT kvs)):iA K H (.ref a) (.type "dict")
 | ins {a C dx:Addr} {fs:List (Str×V)} (e:H a=some (.ins C dx fs)) (cl:Cls K C) (ha:PySem.W.findIn K (.ref C) "__class__"=some (some (.builtin "object.__class__")))
   (hn:PySem.W.specialIn K (.builtin "object.__class__") "__get__"=some (some (.builtin "getset_descriptor.__get__"))) (htk:PySem.W.takesIn K (.builtin "object.__class__")=some true)
   (hm:PySem.W.mroIn K C (.type "object")=some true):iA K H (.ref a) (.ref C)
theorem dw {x:V} {u t:Value} (I:Inv X pins σ H s) (rx:a_ x u) (ty:iA X.K H x t) (e:PySem.W.kitOne X.K t c=some b) (h:∀ tk,Q (.bool b) { s with toks:=tk }):
  wpAny (model X.prog X.w) A (call (.builtin "isinstance") [u,c]) Q E s:=by
 cases ty with
 | non=> cases (show u=Value.none from rx); exact PySem.W.kia_one PySem.W.kitx_none I.kIn True.intro e (fun z=> nomatch z) h
 | bl y=> cases (show u=Value.bool y from rx); exact PySem.W.kia_one PySem.W.kitx_bool I.kIn True.intro e (fun z=> nomatch z) h
 | int i=> obtain ⟨t,q⟩:=(show ∃ t,u=Value.int i t from rx); cases q; exact PySem.W.kia_one PySem.W.kitx_int I.kIn True.intro e (fun z=> nomatch z) h
 | str y=> obtain ⟨t,q⟩:=(show ∃ t,u=Value.str y t from rx); cases q; exact PySem.W.kia_one PySem.W.kitx_str I.kIn True.intro e (fun z=> nomatch z) h
 | flt y=> obtain ⟨t,q⟩:=(show ∃ t,u=Value.float y t from rx); cases q; exact PySem.W.kia_one PySem.W.kitx_float I.kIn True.intro e (fun z=> nomatch z) h
 | @lst a xs ea=>
  cases (show u=Value.ref a from rx)
  obtain ⟨_,_,n,_,h1⟩:=(show cq X.prog X.w H s.heap a (.lst xs) from I.hok a _ ea)
  exact PySem.W.kia_one PySem.W.kitx_list I.kIn ⟨_,h1,rfl⟩ e (fun z=> nomatch z) h
 | @frz a ob xs ea=>
  cases (show u=Value.ref a from rx)
  obtain ⟨_,_,_,n,_,h1⟩:=(show cq X.prog X.w H s.heap a (.frz ob (.lst xs)) from I.hok a _ ea)
  exact PySem.W.kia_one PySem.W.kitx_list I.kIn ⟨_,h1,rfl⟩ e (fun z=> nomatch z) h
 | @tup a xs ea=>
  cases (show u=Value.ref a from rx)
  obtain ⟨_,_,_,p⟩:=(show cq X.prog X.w H s.heap a (.tup xs) from I.hok a _ ea)
  obtain ⟨o,h1,h2,_⟩:=p
  exact PySem.W.kia_one PySem.W.kitx_tuple I.kIn ⟨o,h1,h2⟩ e (fun z=> nomatch z) h
 | @dK a kvs ea=>
  cases (show u=Value.ref a from rx)
  obtain ⟨_,_,vs,_,p⟩:=(show cq X.prog X.w H s.heap a (.dK kvs) from I.hok a _ ea)
  obtain ⟨o,es,ep,h1,h2,_⟩:=p
  exact PySem.W.kia_one PySem.W.kitx_dict I.kIn ⟨o,h1,h2.1⟩ e (fun z=> nomatch z) h
 | @dT a kvs ea=>
  cases (show u=Value.ref a from rx)
  obtain ⟨_,_,xs,_,o,es,ep,h1,h2,_⟩:=(show cq X.prog X.w H s.heap a (.dT kvs) from I.hok a _ ea)
  exact PySem.W.kia_one PySem.W.kitx_dict I.kIn ⟨o,h1,h2.1⟩ e (fun z=> nomatch z) h
 | @ins a C dx fs ea cl ha hn htk hm=>
  cases (show u=Value.ref a from rx)
  obtain ⟨mA,O,_⟩:=wz I.hok ea
  obtain ⟨od,J,_⟩:=O.look
  exact PySem.W.kia_one (PySem.W.kitx_own (cl.get _) cl.hd ha hn htk hm) I.kIn J e (fun z=> nomatch z) h
end
end L2
namespace L2
open PySem PySem.Spec PyProof.Rows
structure dJ (k:Nat) (A:Around):Prop where
 hd:A.handled=none
 dp:A.depth+3 * k+5 < recursionLimit
 un:A.units+16 * k+200 < cLine
theorem dJ.mono {j k:Nat} {A:Around} (r:dJ k A) (h:j≤k):dJ j A:=⟨r.hd,by have:=r.dp; omega,by have:=r.un; omega⟩
theorem dJ.deeper {k:Nat} {A:Around} (r:dJ (k+1) A) (env:Env):dJ k (A.deeper env):=
 ⟨r.hd,by have:=r.dp; show A.depth+1+3 * k+5 < _; omega,by have:=r.un; show A.units+3+16 * k+200 < _; omega⟩
theorem dJ.depth {k:Nat} {A:Around} (r:dJ k A):A.depth < recursionLimit:=by have:=r.dp; omega
def AA:TA:=fun _ H Q=> Q [] H
def Ar (ta:TE) (tr:TA):TA:=fun σ H Q=> ta σ H fun x H1=> tr σ H1 fun xs H2=> Q (x::xs) H2
section
variable {X:Cx} {e:Expr} {es:List Expr} {te:TE} {t:TA} {pos:Pos}
theorem ii:PA X [] AA:=fun _ _ _ _ H Q I h=> Calls.spliced_nil ⟨[],H,I,.nil,h⟩
theorem eN (ha:PE X e te) (hr:PA X es t) (hs:starEach (e::es) X.env=(false,eval e X.env)::starEach es X.env:=by rfl):PA X (e::es) (Ar te t):=by
 intro pos pins s σ H Q I h
 rw [hs]
 show wpAny _ _ (spliced ((false,eval e X.env)::backTo pos (starEach es X.env))) _ _ s
 refine Calls.spliced_cons (thn (ha pins s σ H _ I h) fun u s1 ⟨x,H1,I1,r1,q1⟩=> ?_)
 exact thn (hr pos pins s1 σ H1 _ I1 q1) fun us s2 ⟨xs,H2,I2,r2,q2⟩=> ⟨x::xs,H2,I2,.cons r1 r2,q2⟩
def AG (t:TA):TE:=fun σ H Q=> t σ H fun xs H1=> xs.length≤sizeLine∧∀ p,H1 p=none→Q (.ref p) (upd H1 p (.tup xs))
def AW (t:TA):TE:=fun σ H Q=> t σ H fun xs H1=> xs.length≤sizeLine∧∀ p,H1 p=none→Q (.ref p) (upd H1 p (.lst xs))
theorem yu {x1} (h:PA X es t):PE X (.Tuple es x1 pos) (AG t):=by
 intro pins s σ H Q I hq
 refine wpAny_Tuple_spliced (thn (h pos pins s σ H _ I hq) fun us s1 ⟨xs,H1,I1,r,z,q⟩=> ⟨by rw [← r.length]; exact z,?_⟩)
 have hf:H1 s1.heap.objs.size=none:=I1.hok.fresh (Nat.le_refl _)
 refine ⟨.ref s1.heap.objs.size,upd H1 s1.heap.objs.size (.tup xs),I1.laid (t':=s1.toks) (fun b u e=> Heap.get?_push_of_some _ e) (Nat.le_refl _) ?_,rfl,q _ hf⟩
 exact ⟨z,us,r,⟨_,Heap.get?_push_size _ rfl,rfl,_,rfl⟩⟩
theorem yl (h:PA X es t):PE X (.List es pos) (AW t):=by
 intro pins s σ H Q I hq
 refine wpAny_List_spliced (thn (h pos pins s σ H _ I hq) fun us s1 ⟨xs,H1,I1,r,z,q⟩=> ⟨by rw [← r.length]; exact z,?_⟩)
 have hf:H1 s1.heap.objs.size=none:=I1.hok.fresh (Nat.le_refl _)
 refine ⟨.ref s1.heap.objs.size,upd H1 s1.heap.objs.size (.lst xs),I1.laid (t':=s1.toks) (fun b u e=> Heap.get?_push_of_some _ e) (Nat.le_refl _) ?_,rfl,q _ hf⟩
 exact ⟨z,us,0,r,Heap.get?_push_size _ rfl⟩
end
abbrev Sp:=List V→Hp→VK→XK→Prop
abbrev CXT:=List Env→Hp→Shared→XK→Value→Shared→Prop
structure wC (P:Program) (w:World) (K:PySem.W.Frag) (mg:Str→Option Value) (base:Heap) (A:Around) (outer:List Env) (s:Shared) (H:Hp):Prop where
 frames:A.frames=some outer
 mod:Mod K mg base
 bs:∀ b o,base.get? b=some o→s.heap.get? b=some o∧H b=none
 bsz:base.objs.size≤s.heap.objs.size
 funs:s.heap.FunFrames base outer
 frf:∀ b∈frs outer,H b=none
 hok:HOk P w H s.heap
 bare:AllBare s.gens
def CE (outer:List Env) (P:Program) (w:World) (H:Hp) (s:Shared) (Q:VK) (u:Value) (s':Shared):Prop:=
 ∃ v H',s'.os=s.os∧AllBare s'.gens∧Un (frs outer) [] H H' s.heap s'.heap∧HOk P w H' s'.heap∧a_ v u∧Q v H'
def CR (CX:CXT) (outer:List Env) (P:Program) (w:World) (H:Hp) (s:Shared) (Q:VK) (E:XK) (r:Result) (s':Shared):Prop:=
 match r with
 | .ok (.ret u)=> CE outer P w H s Q u s'
 | .ok _=> False
 | .error e=> CX outer H s E e s'
structure bh (P:Program) (w:World) (K:PySem.W.Frag) (mg:Str→Option Value) (base:Heap) (CX:CXT) (k:Nat) (f:Addr) (fd:FuncData) (ps:List Str) (sp:Sp):Prop where
 len:∀ vs H Q E,sp vs H Q E→vs.length=ps.length
 run:∀ (A:Around) (outer:List Env) (s:Shared) (H:Hp) (args:Args) (us:List Value) (vs:List V) (Q:VK) (E:XK),dJ k A→wC P w K mg base A outer s H→BindsTo s fd args (ps.zip us)→aN vs us→sp vs H Q E→
  codeAny (model P w) A (.call (.ref f) args) (CR CX outer P w H s Q E) s
theorem bh.mono {P:Program} {w:World} {K:PySem.W.Frag} {mg:Str→Option Value} {base:Heap} {CX:CXT} {j k:Nat} {f:Addr} {fd:FuncData} {ps:List Str} {sp:Sp} (F:bh P w K mg base CX j f fd ps sp) (h:j≤k):
  bh P w K mg base CX k f fd ps sp:=⟨F.len,fun A outer s H args us vs Q E hr=> F.run A outer s H args us vs Q E (hr.mono h)⟩
section
variable {X:Cx} {pins:List (Addr×Obj)} {σ:St} {H:Hp} {s s':Shared}
theorem Inv.env0 (I:Inv X pins σ H s):wC X.prog X.w X.K X.mg X.base X.A X.stack s H:=
 ⟨I.ok.frames,I.ok.mod,I.bs,Nat.le_trans I.ok.bsz I.sz,I.stack,I.stkFree,I.hok,I.bare⟩
theorem Inv.after {Q:VK} {u:Value} (I:Inv X pins σ H s) (h:CE X.stack X.prog X.w H s Q u s'):EP X pins σ Q u s':=by
 obtain ⟨v,H',os,bare,un,hok,r,q⟩:=h
 obtain ⟨hh,g,d,t,os'⟩:=s'
 obtain rfl:os'=s.os:=os
 exact ⟨v,H',I.call (h':=hh) (g':=g) (d':=d) (t':=t) (ch:=[]) un hok bare (fun b z=> absurd z (by simp)),r,q⟩
end
def Ae (sp:Sp) (dvs:List V) (E:XK) (t:TA):TE:=fun σ H Q=> t σ H fun vs H1=> sp (vs++dvs) H1 Q E
def aQ (K:PySem.W.Frag) (fd:FuncData) (ps:List Str) (ds:List Value):Prop:=
 ∀ (s:Shared) (us:List Value),K.In s.heap→(us++ds).length=ps.length→BindsTo s fd ⟨us,[]⟩ (ps.zip (us++ds))
theorem aQ.all {K:PySem.W.Frag} {fd:FuncData} {ps:List Str} (h:∀ us:List Value,us.length=ps.length→bindArgs fd ⟨us,[]⟩=pure (ps.zip us)):aQ K fd ps []:=fun s us _ hl=> by
 rw [List.append_nil] at hl ⊢
 exact .of_eq (h us hl)
def fA (CX:CXT) (X:Cx) (E:XK):Prop:=∀ (pins:List (Addr×Obj)) (σ:St) (H:Hp) (s:Shared) (e:Value) (s':Shared),Inv X pins σ H s→CX X.stack H s E e s'→X.xe e s'
section
variable {X:Cx} {CX:CXT} {k:Nat} {f C:Addr} {fd:FuncData} {ps:List Str} {sp:Sp} {dvs:List V} {ds:List Value} {E:XK} {x m:Str} {p pos apos:Pos} {e o:Expr} {es:List Expr} {ta:TE} {t:TA}
theorem yj {pins:List (Addr×Obj)} {σ:St} {H:Hp} {s:Shared} {Q:VK} {us:List Value} {vs:List V} (F:bh X.prog X.w X.K X.mg X.base CX k f fd ps sp) (hr:dJ k X.A) (hb:aQ X.K fd ps ds) (hd:aN dvs ds) (hx:fA CX X E)
  (I:Inv X pins σ H s) (r:aN vs us) (h:sp (vs++dvs) H Q E):wpAny (model X.prog X.w) X.A (call (.ref f) us) (EP X pins σ Q) X.xe s:=by
 have r2:aN (vs++dvs) (us++ds):=r.append hd
 have hl:(us++ds).length=ps.length:=by rw [← r2.length]; exact F.len _ _ _ _ h
 refine wpAny_call (codeAny_mono (F.run X.A X.stack s H ⟨us,[]⟩ (us++ds) (vs++dvs) Q E hr I.env0 (hb s us I.kIn hl) r2 h) fun r s' hq=> ?_)
 cases r with
 | error e=> exact hx pins σ H s e s' I hq
 | ok fl=>
  cases fl with
  | ret u=> exact I.after hq
  | next=> exact False.elim hq
  | brk=> exact False.elim hq
  | cont=> exact False.elim hq
theorem iL (F:bh X.prog X.w X.K X.mg X.base CX k f fd ps sp) (hr:dJ k X.A) (hg:Gl X x) (hm:X.mg x=some (.ref f)) (hk:PySem.W.keepIn X.K (.ref f)=true) (hb:aQ X.K fd ps ds) (hd:aN dvs ds) (hx:fA CX X E)
  (ha:PA X (e::es) t) (hdb:(x==("__debug__":Str))=false:=by decide) (he:starEach (e::es) X.env=(false,eval e X.env)::starEach es X.env:=by rfl) (hpl:(backTo pos (starEach es X.env)).any (·.1)=false:=by rfl):
  PE X (.Call (.Name x p) (e::es) [] pos) (Ae sp dvs E t):=by
 intro pins s σ H Q I h
 refine wpAny_Call_Name_kw (qw I hg hm ?_ hdb)
 refine PySem.W.callWith_K (h₀:=X.base) I.ok.mod.kin hk (thn (ha pos pins s σ H _ I h) fun us s1 ⟨vs,H1,I1,r,q⟩=> ⟨I1.kIn,?_⟩) he hpl
 exact yj F hr hb hd hx I1 r q
structure Mk (K:PySem.W.Frag) (C f:Addr):Prop where
 makes:PySem.W.makesIn K C=true
 init:PySem.W.findIn K (.ref C) "__init__"=some (some (.ref f))
 fn:PySem.W.isFn K (.ref f)=true
 kp:PySem.W.keepIn K (.ref C)=true
end
section
variable {X:Cx} {CX:CXT} {k:Nat} {f C:Addr} {fd:FuncData} {ps ks:List Str} {sp:Sp} {E:XK} {x m:Str} {p pos apos kpos:Pos} {e o:Expr} {es:List Expr} {kws:List Keyword} {te ta:TE} {t tk:TA} {nm:Option Str}
structure Aw (K:PySem.W.Frag) (fd:FuncData) (ps ks:List Str) (g:List Value→List Value→List Value) (gV:List V→List V→List V):Prop where
 to:∀ (s:Shared) (us ws:List Value),K.In s.heap→(g us ws).length=ps.length→BindsTo s fd ⟨us,ks.zip ws⟩ (ps.zip (g us ws))
 rel:∀ {vs:List V} {us:List Value} {zs:List V} {ws:List Value},aN vs us→aN zs ws→aN (gV vs zs) (g us ws)
variable {g:List Value→List Value→List Value} {gV:List V→List V→List V}
end
structure av (N P:List Str) (sc:Scope):Prop where
 kind:sc.kind=.function
 co:sc.isCoroutine=false
 gen:sc.isGenerator=false
 nd:N.Nodup
 pre:N.take P.length=P
 par:∀ x∈P,sc.names.lookup x=some .local∨sc.names.lookup x=some .cell
 nofree:∀ y∈sc.names,y.2≠.free
theorem ke {kindOf:Str→Option NameKind} {x:Str}:∀ {binds:List (Str×Value)} {m:Str→Option Value},(∀ v,(x,v) ∉ binds)→bindL kindOf binds m x=m x
 | [],_,_=> rfl
 | (n,v)::r,m,h=> by
  unfold bindL
  rw [ke fun w hw=> h w (List.mem_cons_of_mem _ hw)]
  split
  ·have:x≠n:=by rintro rfl; exact h v List.mem_cons_self
   simp [this]
  ·rfl
theorem kq {kindOf:Str→Option NameKind} {x:Str}:∀ {binds:List (Str×Value)} {m:Str→Option Value},(∀ v,(x,v) ∉ binds)→bindC kindOf binds m x=m x
 | [],_,_=> rfl
 | (n,v)::r,m,h=> by
  unfold bindC
  rw [kq fun w hw=> h w (List.mem_cons_of_mem _ hw)]
  split
  ·rfl
  ·have:x≠n:=by rintro rfl; exact h v List.mem_cons_self
   simp [this]
theorem ko {kindOf:Str→Option NameKind} {x:Str} {v:Value}:∀ {P:List Str} {vs:List Value} {i:Nat} {m:Str→Option Value},P.Nodup→P[i]?=some x→vs[i]?=some v→kindOf x=some .local→
  bindL kindOf (P.zip vs) m x=some v
 | [],_,_,_,_,h,_,_=> by simp at h
 | _::_,[],_,_,_,_,h,_=> by simp at h
 | p::P,w::vs,0,m,nd,h1,h2,hk=> by
  simp at h1 h2; subst h1; subst h2
  show bindL kindOf ((p,w)::P.zip vs) m p=_
  unfold bindL
  rw [ke fun v hv=> (List.nodup_cons.mp nd).1 (List.of_mem_zip hv).1,if_pos hk]
  simp
 | p::P,w::vs,i+1,m,nd,h1,h2,hk=> by
  show bindL kindOf ((p,w)::P.zip vs) m x=_
  unfold bindL
  exact ko (i:=i) (List.nodup_cons.mp nd).2 (by simpa using h1) (by simpa using h2) hk
theorem j_ {kindOf:Str→Option NameKind} {x:Str} {v:Value}:∀ {P:List Str} {vs:List Value} {i:Nat} {m:Str→Option Value},P.Nodup→P[i]?=some x→vs[i]?=some v→kindOf x≠some .local→
  bindC kindOf (P.zip vs) m x=some v
 | [],_,_,_,_,h,_,_=> by simp at h
 | _::_,[],_,_,_,_,h,_=> by simp at h
 | p::P,w::vs,0,m,nd,h1,h2,hk=> by
  simp at h1 h2; subst h1; subst h2
  show bindC kindOf ((p,w)::P.zip vs) m p=_
  unfold bindC
  rw [kq fun v hv=> (List.nodup_cons.mp nd).1 (List.of_mem_zip hv).1,if_neg hk]
  simp
 | p::P,w::vs,i+1,m,nd,h1,h2,hk=> by
  show bindC kindOf ((p,w)::P.zip vs) m x=_
  unfold bindC
  exact j_ (i:=i) (List.nodup_cons.mp nd).2 (by simpa using h1) (by simpa using h2) hk
def start (N:List Str) (vs:List V):St:=vs.map some++List.replicate (N.length - vs.length) none
def dN (CX:CXT) (P:Program) (w:World) (K:PySem.W.Frag) (mg:Str→Option Value) (base:Heap) (N:List Str) (qual:Str) (scope:Scope) (f:Addr) (cd:Value) (A:Around) (outer:List Env) (s:Shared) (H:Hp) (E:XK):Cx where
 prog:=P
 w:=w
 K:=K
 mg:=mg
 base:=base
 A:=A.deeper (envOfC qual scope s.heap.objs.size f cd)
 N:=N
 s₀:=s
 H₀:=H
 env:=envOfC qual scope s.heap.objs.size f cd
 outer:=outer
 stack:=envOfC qual scope s.heap.objs.size f cd::outer
 ex:=[]
 calm:=true
 fn:=fun _=> true
 pn:=[]
 xe:=fun e s'=> wpAny (model P w) (A.deeper (envOfC qual scope s.heap.objs.size f cd)) (leaving (envOfC qual scope s.heap.objs.size f cd) e) (fun _ s''=> CX outer H s E e s'') (fun e' s''=> CX outer H s E e' s'') s'
theorem mR {sc:Scope} {n:Nat} {x:Str} (h:sc.names.lookup x=some .cell):∃ c,(cellsFrom n sc.names []).lookup x=some c:=by
 have q:=PySem.W.cellsFrom_some sc.names n [] (.inl h)
 exact Option.isSome_iff_exists.mp q
theorem qB {CX:CXT} {P:Program} {w:World} {K:PySem.W.Frag} {mg:Str→Option Value} {base:Heap} {N ps:List Str} {qual:Str} {scope:Scope} {f:Addr} {cd:Value} {A:Around} {outer:List Env} {s s1:Shared} {H:Hp} {E:XK} {us:List Value} {vs:List V}
  (S:av N ps scope) (hd:A.handled=none) (e0:wC P w K mg base A outer s H) (hl:vs.length=ps.length) (r:aN vs us)
  (x:InCallC s s.heap.objs.size (bindL (envOfC qual scope s.heap.objs.size f cd).kindOf (ps.zip us) fun _=> none) (cellsFrom (s.heap.objs.size+1) scope.names []) (bindC (envOfC qual scope s.heap.objs.size f cd).kindOf (ps.zip us) fun _=> none) s1):
  Inv (dN CX P w K mg base N qual scope f cd A outer s H E) [] (start N vs) H s1:=by
 have hpl:ps.length≤N.length:=by have:=congrArg List.length S.pre; rw [List.length_take] at this; omega
 obtain ⟨h1,tk,rfl,hk⟩:=x.done
 have noA:∀ b:Addr,b ∉ (dN CX P w K mg base N qual scope f cd A outer s H E).ex:=fun b z=> absurd (show b∈([]:List Addr) from z) (by simp)
 refine ⟨⟨e0.mod,S.kind,rfl,rfl,Nat.le_refl _,fun y z c h1 h2=> ?_,fun y hy=> ?_,fun y c _ h=> ?_,fun _=> hd,Around.frames_deeper e0.frames,.inr ⟨rfl,rfl⟩,fun b z=> absurd z (noA b),e0.bs,e0.bsz,fun b _ _=> noA b,fun b z=> absurd z (noA b),e0.funs,e0.frf⟩,
  rfl,e0.bare,Un.kept hk,⟨_,x.toInCall.ns,fun i y v h1 h2 h3=> ?_⟩,fun y c h=> ⟨_,x.cell y c h⟩,e0.hok.fresh (Nat.le_refl _),fun y c h=> ?_,fun p hp=> absurd (show p∈([]:List (Addr×Obj)) from hp) (by simp),e0.hok.kept hk,?_⟩
 ·exact name_of_addr x.apart (PySem.mem_of_lookup h1) (PySem.mem_of_lookup h2)
 ·have hy:scope.names.lookup y=some .cell∨scope.names.lookup y=some .free:=hy
  rcases hy with hy | hy
  ·exact mR hy
  ·exact absurd rfl (S.nofree _ (PySem.mem_of_lookup hy))
 ·exact Nat.le_of_lt (x.above y c (PySem.mem_of_lookup h))
 ·have hi:i < vs.length:=by
   unfold start at h2
   by_cases hi:i < vs.length
   ·exact hi
   ·rw [List.getElem?_append_right (by simpa using hi)] at h2
    rw [List.getElem?_replicate] at h2
    split at h2 <;> cases h2
  have ha:vs[i]?=some v:=by
   unfold start at h2
   rw [List.getElem?_append_left (by simpa using hi),List.getElem?_map] at h2
   cases e:vs[i]? with
   | none=> rw [e] at h2; cases h2
   | some a=> rw [e] at h2; cases h2; rfl
  obtain ⟨u,hu,rv⟩:=r.get ha
  have hp:ps[i]?=some y:=by
   rw [← S.pre,List.getElem?_take_of_lt (by omega)]; exact h1
  have ndP:ps.Nodup:=by rw [← S.pre]; exact S.nd.sublist (List.take_sublist _ _)
  refine ⟨u,rv,?_⟩
  rcases S.par y (List.mem_of_getElem? hp) with k | k
  ·exact .inl ⟨k,ko ndP hp hu k⟩
  ·obtain ⟨c,e⟩:=mR (n:=s.heap.objs.size+1) k
   refine .inr ⟨.inl k,c,e,?_⟩
   have q:=x.cell y c e
   rw [j_ ndP hp hu (by show scope.names.lookup y≠_; rw [k]; decide)] at q
   exact q
 ·exact e0.hok.fresh (Nat.le_of_lt (x.above y c (PySem.mem_of_lookup h)))
 ·unfold start
  show _=N.length
  rw [List.length_append,List.length_map,List.length_replicate]
  omega
theorem xx {CX:CXT} {P:Program} {w:World} {K:PySem.W.Frag} {mg:Str→Option Value} {base:Heap} {k:Nat} {f:Addr} {name qual:Str} {params:Arguments} {body:List Stmt} {scope:Scope} {dV kV doc pm cdv ct oc:Value} {an od:Option Addr}
  {osl:Array (Option Value)} {N ps:List Str} {sp:Sp} (lk:K.lookup f=some ⟨oc,od,.func (PySem.W.fnOf name qual params body scope dV kV doc pm an cdv ct),osl⟩) (hcd:PySem.W.codeIn K cdv qual=true) (S:av N ps scope)
  (len:∀ vs H Q E,sp vs H Q E→vs.length=ps.length)
  (hbody:∀ (A:Around) (outer:List Env) (s:Shared) (H:Hp) (vs:List V) (Q:VK) (E:XK),dJ k (A.deeper (envOfC qual scope s.heap.objs.size f cdv))→sp vs H Q E→
   ∃ t,PSs (dN CX P w K mg base N qual scope f cdv A outer s H E) body t∧t { nx:=fun _ H'=> Q .non H',rt:=Q } (start N vs) H):
  bh P w K mg base CX (k+1) f (PySem.W.fnOf name qual params body scope dV kV doc pm an cdv ct) ps sp:=by
 refine ⟨len,fun A outer s H args us vs Q E hr e0 hb r hsp=> ?_⟩
 have hl:=len _ _ _ _ hsp
 have KX:K.In s.heap:=e0.mod.kin.keeps fun b o e=> (e0.bs b o e).1
 have lim:s.heap.NoLimit:=e0.mod.nolimit.keeps fun b o e=> (e0.bs b o e).1
 have hkind:∀ y∈ps.zip us,scope.names.lookup y.1=some .local∨(scope.names.lookup y.1=some .cell∧((cellsFrom (s.heap.objs.size+1) scope.names []).lookup y.1).isSome=true):=fun ⟨n,v⟩ hy=> by
  rcases S.par n (List.of_mem_zip hy).1 with q | q
  ·exact .inl q
  ·exact .inr ⟨q,PySem.W.cellsFrom_some _ _ _ (.inl q)⟩
 refine codeAny_call_function hr.depth (KX _ _ lk) rfl S.co S.gen rfl (PySem.W.codeRec_of KX hcd) (hb _ _ _ _ ?_)
 refine wpAny_newFunctionEnv_cells S.kind hkind fun env he s1 x=> ?_
 subst he
 refine ⟨lim.keeps x.toInCall.keep,codeAny_func ?_⟩
 obtain ⟨t,ht,hq⟩:=hbody A outer s H vs Q E (hr.deeper _) hsp
 have I:Inv (dN CX P w K mg base N qual scope f cdv A outer s H E) [] (start N vs) H s1:=qB S hr.hd e0 hl r x
 refine wpAny_mono (ht [] s1 (start N vs) H _ I hq) (fun fl s' hs=> ?_) fun e s' hs=> hs
 have fin:∀ {σ':St} {H':Hp} {v:V} {u:Value},Inv (dN CX P w K mg base N qual scope f cdv A outer s H E) [] σ' H' s'→a_ v u→Q v H'→CE outer P w H s Q u s':=
  fun {σ' H' v u} J rv q=> ⟨v,H',J.os,J.bare,J.base,J.hok,rv,q⟩
 cases fl with
 | ret u=>
  obtain ⟨v,σ',H',J,rv,q⟩:=hs
  exact fin J rv q
 | next=>
  obtain ⟨σ',H',J,q⟩:=hs
  exact fin (v:=V.non) (u:=Value.none) J rfl q
 | brk=>
  obtain ⟨_,_,_,q⟩:=hs
  exact False.elim q
 | cont=>
  obtain ⟨_,_,_,q⟩:=hs
  exact False.elim q
end L2
namespace L2
open PySem PySem.Spec PyProof.Rows
section
variable {X:Cx} {x:Str} {p pos:Pos} {e:Expr} {es:List Expr} {t:TA} {id T:String} {r:List V→Hp→VK→Prop}
def tCB (r:List V→Hp→VK→Prop) (t:TA):TE:=fun σ H Q=> t σ H fun vs H1=> r vs H1 Q
theorem mX (hc:dj X (.builtin id) r) (hg:Gl X x) (hm:X.mg x=none) (hv:bootBuiltins x=some (.builtin id)) (ha:PA X (e::es) t) (hn:x≠"__name__":=by decide) (hdb:(x==("__debug__":Str))=false:=by decide)
  (he:starEach (e::es) X.env=(false,eval e X.env)::starEach es X.env:=by rfl) (hpl:(backTo pos (starEach es X.env)).any (·.1)=false:=by rfl):PE X (.Call (.Name x p) (e::es) [] pos) (tCB r t):=by
 intro pins s σ H Q I h
 refine wpAny_Call_Name_kw (dD I hg hm hv ?_ hn hdb)
 exact PyProof.Rows.callWith_builtin1 (thn (ha pos pins s σ H _ I h) fun us s1 ⟨vs,H1,I1,r1,q1⟩=> hc pins s1 σ H1 vs us Q I1 r1 q1) he hpl
theorem qF (hc:dj X (.type T) r) (hg:Gl X x) (hm:X.mg x=none) (hv:bootBuiltins x=some (.type T)) (ha:PA X (e::es) t) (hn:x≠"__name__":=by decide) (hdb:(x==("__debug__":Str))=false:=by decide)
  (he:starEach (e::es) X.env=(false,eval e X.env)::starEach es X.env:=by rfl) (hpl:(backTo pos (starEach es X.env)).any (·.1)=false:=by rfl):PE X (.Call (.Name x p) (e::es) [] pos) (tCB r t):=by
 intro pins s σ H Q I h
 refine wpAny_Call_Name_kw (dD I hg hm hv ?_ hn hdb)
 exact PyProof.Rows.callWith_type1 (thn (ha pos pins s σ H _ I h) fun us s1 ⟨vs,H1,I1,r1,q1⟩=> hc pins s1 σ H1 vs us Q I1 r1 q1) he hpl
end
end L2
namespace HT
open PySem PyProof.Rows
section
open PySem.SeqAt
open PySem.AutoSeq1 (wpAny_loadPart')
open PySem.MeetsSeq PySem.MeetsSeq2 PySem.MeetsSeq3
end
section
variable {prog:Program} {w:World} {A:Around} {E:Value→Shared→Prop} {s:Shared}
def sIx (n d:Nat):Option Int→Nat
 | none=> d
 | some v=> if v < 0 then (v+(n:Int)).toNat else min v.toNat n
end
end HT
namespace L2
open PySem PySem.Spec PyProof.Rows
abbrev TO:=St→Hp→(Option Int→Hp→Prop)→Prop
def PO (X:Cx) (e:Option Expr) (t:TO):Prop:=
 ∀ (pins:List (Addr×Obj)) (s:Shared) (σ:St) (H:Hp) (Q:Option Int→Hp→Prop),Inv X pins σ H s→t σ H Q→
  wpAny (model X.prog X.w) X.A (evalPart e X.env) (fun u s'=> ∃ o H',Inv X pins σ H' s'∧IsPart u o∧Q o H') X.xe s
def wn:TO:=fun _ H Q=> Q none H
def Am (t:TE):TO:=fun σ H Q=> t σ H fun x H1=> ∃ i,x=.int i∧Q (some i) H1
section
variable {X:Cx} {e:Expr} {te:TE} {lo hi:Option Expr} {tl th:TO} {pos p2:Pos}
theorem wd:PO X none wn:=by
 intro pins s σ H Q I h
 rw [evalPart_none]
 exact wpAny_pure ⟨none,H,I,.none,h⟩
theorem xf (h:PE X e te):PO X (some e) (Am te):=by
 intro pins s σ H Q I hw
 rw [evalPart_some]
 refine thn (h pins s σ H _ I hw) fun u s1 ⟨x,H1,I1,r1,q1⟩=> ?_
 obtain ⟨i,rfl,q⟩:=q1
 obtain ⟨t,rfl⟩:=r1
 exact ⟨some i,H1,I1,.int i t,q⟩
def SlR (X:Cx) (r:V→Option Int→Option Int→Hp→VK→Prop):Prop:=
 ∀ (pins:List (Addr×Obj)) (s:Shared) (σ:St) (H:Hp) (x:V) (v vl vu:Value) (lo hi:Option Int) (sl:Addr) (Q:VK),Inv X pins σ H s→a_ x v→s.heap.IsSliceOf sl vl vu .none→IsPart vl lo→IsPart vu hi→r x lo hi H Q→
  ∃ T id,typeLookup (.type T) "__getitem__"=pure (some (.builtin id))∧s.TypeIs v T∧wpAny (model X.prog X.w) X.A (getItem v (.ref sl)) (EP X pins σ Q) X.xe s
def tSl (r:V→Option Int→Option Int→Hp→VK→Prop) (te:TE) (tl th:TO):TE:=fun σ H Q=> te σ H fun x H1=> tl σ H1 fun l H2=> th σ H2 fun u H3=> r x l u H3 Q
theorem sR {r:V→Option Int→Option Int→Hp→VK→Prop} (hr:SlR X r) (he:PE X e te) (hl:PO X lo tl) (hu:PO X hi th):PE X (.Subscript e (.Slice lo hi none p2) pos) (tSl r te tl th):=by
 intro pins s σ H Q I h
 refine Subscript_ (thn (he pins s σ H _ I h) fun v s1 ⟨x,H1,I1,r1,q1⟩=> ?_)
 refine wpAny_Slice (thn (hl pins s1 σ H1 _ I1 q1) fun vl s2 ⟨l,H2,I2,pl,q2⟩=> thn (hu pins s2 σ H2 _ I2 q2) fun vu s3 ⟨u,H3,I3,pu,q3⟩=> ?_)
 rw [evalPart_none]
 refine wpAny_pure ?_
 have I4:Inv X pins σ H3 { s3 with heap:=s3.heap.push { cls:=.type "slice",data:=.fields #[vl,vu,.none] } }:=I3.kept (t':=s3.toks) fun b ob q=> Heap.get?_push_of_some _ q
 obtain ⟨T,id,hT,ht,hg⟩:=hr pins { s3 with heap:=s3.heap.push { cls:=.type "slice",data:=.fields #[vl,vu,.none] } } σ H3 x v vl vu l u s3.heap.objs.size Q I4 r1 (Heap.IsSliceOf.new ..) pl pu q3
 show wpAny (model X.prog X.w) X.A (subscriptTail e (.Slice lo hi none p2) v (.ref s3.heap.objs.size)) (EP X pins σ Q) X.xe { s3 with heap:=s3.heap.push { cls:=.type "slice",data:=.fields #[vl,vu,.none] } }
 exact tail_any (ops:=[.ref s3.heap.objs.size,v]) ht hT hg (by with_unfolding_all rfl)
def qW (xs:List V) (lo hi:Option Int):List V:=(xs.drop (HT.sIx xs.length 0 lo)).take (HT.sIx xs.length xs.length hi - HT.sIx xs.length 0 lo)
theorem nN (xs:List V) (lo hi:Option Int):(qW xs lo hi).length≤xs.length:=by
 unfold qW
 rw [List.length_take,List.length_drop]
 omega
end
end L2
namespace L2
open PySem PySem.Spec PyProof.Rows
def ixN (n:Nat) (i:Int):Option Nat:=if 0≤i then (if i < n then some i.toNat else none) else if -(n:Int)≤i then some (i+n).toNat else none
def atI {α:Type} (xs:List α) (i:Int):Option α:=(ixN xs.length i).bind fun j=> xs[j]?
theorem v8 {n:Nat} {i:Int} {j:Nat} (h:ixN n i=some j):seqIndex? i n=some j∧j < n∧-(n:Int)≤i∧i < n:=by
 unfold ixN at h
 by_cases h0:0≤i
 ·rw [if_pos h0] at h
  by_cases h1:i < n
  ·rw [if_pos h1] at h
   have e:i.toNat=j:=Option.some.inj h
   exact ⟨by rw [seqIndex_of h0 h1,e],by omega,by omega,h1⟩
  ·rw [if_neg h1] at h; cases h
 ·rw [if_neg h0] at h
  by_cases h1:-(n:Int)≤i
  ·rw [if_pos h1] at h
   have e:(i+n).toNat=j:=Option.some.inj h
   exact ⟨by rw [seqIndex_neg (by omega) h1,e],by omega,h1,by omega⟩
  ·rw [if_neg h1] at h; cases h
theorem pA {α:Type} {xs:List α} {i:Int} {v:α} (h:atI xs i=some v):∃ j,seqIndex? i xs.length=some j∧xs[j]?=some v∧j < xs.length∧-(xs.length:Int)≤i∧i < xs.length:=by
 unfold atI at h
 cases e:ixN xs.length i with
 | none=> rw [e] at h; cases h
 | some j=>
  rw [e] at h
  obtain ⟨h1,h2,h3,h4⟩:=v8 e
  exact ⟨j,h1,h,h2,h3,h4⟩
theorem p7 {α:Type} {xs:List α} {j:Nat} {v:α} (h:xs[j]?=some v):atI xs (j:Int)=some v:=by
 have hj:j < xs.length:=(List.getElem?_eq_some_iff.mp h).1
 have e:ixN xs.length (j:Int)=some j:=by
  unfold ixN
  rw [if_pos (by omega),if_pos (by omega)]; simp
 unfold atI; rw [e]; exact h
def kU (b:Expr):Prop:=∀ o i,subscripted b false o i=operate [o,i] (getItem o i)
def IxR (X:Cx) (r:R2):Prop:=
 ∀ (value slice:Expr) (pins:List (Addr×Obj)) (s:Shared) (σ:St) (H:Hp) (x y:V) (v u:Value) (Q:VK),Inv X pins σ H s→a_ x v→a_ y u→r x y H Q→
  subscripted slice false v u=operate [v,u] (getItem v u)→wpAny (model X.prog X.w) X.A (subscriptTail value slice v u) (EP X pins σ Q) X.xe s
def MtR (X:Cx) (id:String) (r:V→List V→Hp→VK→Prop):Prop:=
 ∀ (pins:List (Addr×Obj)) (s:Shared) (σ:St) (H:Hp) (x:V) (xs:List V) (v:Value) (us:List Value) (Q:VK),Inv X pins σ H s→a_ x v→aN xs us→r x xs H Q→
  wpAny (model X.prog X.w) X.A (call (.builtin id) (v::us)) (EP X pins σ Q) X.xe s
section
variable {X:Cx} {a b:Expr} {ta tb:TE} {pos:Pos}
theorem IxR.or {r r':R2} (h:IxR X r) (h':IxR X r'):IxR X (fun x y H Q=> r x y H Q∨r' x y H Q):=by
 intro value slice pins s σ H x y v u Q I rx ry q hs
 rcases q with q | q
 ·exact h value slice pins s σ H x y v u Q I rx ry q hs
 ·exact h' value slice pins s σ H x y v u Q I rx ry q hs
theorem xL {r:R2} (hr:IxR X r) (ha:PE X a ta) (hb:PE X b tb) (hs:kU b):PE X (.Subscript a b pos) (tOp r ta tb):=by
 intro pins s σ H Q I h
 exact Subscript_ (yX ha hb I h fun v u s2 x y H2 I2 rx ry q=> hr a b pins s2 σ H2 x y v u Q I2 rx ry q (hs _ _))
def AX (K:PySem.W.Frag):R2:=fun x y H Q=> ∃ p xs i v,x=.ref p∧y=.int i∧SqL K H p xs∧atI xs i=some v∧Q v H
def AQ (K:PySem.W.Frag):R2:=fun x y H Q=> ∃ p xs i v,x=.ref p∧y=.int i∧SqT K H p xs∧atI xs i=some v∧Q v H
theorem qe:IxR X (AX X.K):=by
 intro value slice pins s σ H x y v u Q I rx ry h hs
 obtain ⟨p,xs,i,z,rfl,rfl,hq,he,q⟩:=h
 cases rx
 obtain ⟨t,rfl⟩:=ry
 obtain ⟨its,r,pl,hz⟩:=I.list hq
 obtain ⟨j,h1,h2,h3,h4,h5⟩:=pA he
 obtain ⟨w,ew,rw'⟩:=r.get h2
 have hl:=r.length
 have hn:=oJ
 have fin:EP X pins σ Q w s:=⟨z,H,I,rw',q⟩
 by_cases h0:0≤i
 ·have hj:i.toNat=j:=by
   rw [seqIndex_of h0 h5] at h1
   exact Option.some.inj h1
  exact item_listR pl.isList h0 (by omega) (by rw [hj]; simpa using ew) fin hs
 ·have hj:(i+(its.toArray.size:Int)).toNat=j:=by
   rw [seqIndex_neg (by omega) h4] at h1
   rw [List.size_toArray,← hl]
   exact Option.some.inj h1
  exact subscriptTail_builtinR (x:=w) pl.isList.typeIs slot_list_getitem.lookup
   (wpAny_getItem_list_neg (Q:=fun r s'=> r=w∧EP X pins σ Q r s') pl.isList (by omega) (by rw [List.size_toArray] <;> omega) (by omega) (by rw [hj]; simpa using ew) ⟨rfl,fin⟩) hs
theorem yV:IxR X (AQ X.K):=by
 intro value slice pins s σ H x y v u Q I rx ry h hs
 obtain ⟨p,xs,i,z,rfl,rfl,hq,he,q⟩:=h
 cases rx
 obtain ⟨t,rfl⟩:=ry
 obtain ⟨its,r,pl,hz⟩:=I.tuple hq
 obtain ⟨j,h1,h2,h3,h4,h5⟩:=pA he
 obtain ⟨w,ew,rw'⟩:=r.get h2
 have hl:=r.length
 have hn:=oJ
 have fin:EP X pins σ Q w s:=⟨z,H,I,rw',q⟩
 exact subscriptTail_builtinR (x:=w) pl.typeIs slot_tuple_getitem.lookup
  (getItem_tuple (j:=j) (Q:=fun r s'=> r=w∧EP X pins σ Q r s') pl (by omega) (by omega) (by rw [List.size_toArray,← hl]; exact h1) (by simpa using ew) ⟨rfl,fin⟩) hs
theorem lE (lo hi:Option Int) (n:Nat):(sliceBounds lo hi none n).1=((HT.sIx n 0 lo:Nat):Int)∧(sliceBounds lo hi none n).2.1=((HT.sIx n n hi:Nat):Int)∧(sliceBounds lo hi none n).2.2=1:=by
 refine ⟨?_,?_,rfl⟩
 ·cases lo with
  | none=> simp [sliceBounds,HT.sIx]
  | some i=>
   simp only [sliceBounds,HT.sIx,Option.getD_none,show (1:Int) > 0 by decide,if_true]
   by_cases h:i < 0
   ·simp only [h,if_true] <;> omega
   ·simp only [h,if_false] <;> omega
 ·cases hi with
  | none=> simp [sliceBounds,HT.sIx]
  | some i=>
   simp only [sliceBounds,HT.sIx,Option.getD_none,show (1:Int) > 0 by decide,if_true]
   by_cases h:i < 0
   ·simp only [h,if_true] <;> omega
   ·simp only [h,if_false] <;> omega
theorem jS (its:List Value) (lo hi:Option Int):slicePick its.toArray lo hi none=((its.drop (HT.sIx its.length 0 lo)).take (HT.sIx its.length its.length hi - HT.sIx its.length 0 lo)).toArray:=by
 obtain ⟨h1,h2,h3⟩:=lE lo hi its.toArray.size
 unfold slicePick
 rw [h1,h2,h3]
 simp only [sliceRange_one,pick_run,List.size_toArray] <;> rfl
def AO (K:PySem.W.Frag):V→Option Int→Option Int→Hp→VK→Prop:=fun x lo hi H Q=> ∃ a xs,x=.ref a∧SqL K H a xs∧∀ p,H p=none→Q (.ref p) (upd H p (.lst (qW xs lo hi)))
theorem wl:SlR X (AO X.K):=by
 intro pins s σ H x v vl vu lo hi sl Q I rx hs pl pu h
 obtain ⟨a,xs,rfl,hx,q⟩:=h
 cases rx
 obtain ⟨its,r,ht,hz⟩:=I.list hx
 have hlen:=r.length
 refine ⟨"list",_,slot_list_getitem.lookup,ht.isList.typeIs,?_⟩
 refine wpAny_getItem_list_slice ht.isList hs pl pu .none (by simp) ?_ (by rw [List.size_toArray] <;> omega)
 rw [jS,← hlen]
 refine ⟨.ref s.heap.objs.size,_,I.laid (t':=s.toks) (o:=.lst (qW xs lo hi)) (fun b ob q=> Heap.get?_push_of_some _ q) (Nat.le_refl _) ?_,rfl,q _ (I.hok.fresh (Nat.le_refl _))⟩
 exact ⟨Nat.le_trans (nN xs lo hi) hz,_,0,(r.drop (HT.sIx xs.length 0 lo)).take (HT.sIx xs.length xs.length hi - HT.sIx xs.length 0 lo),Heap.get?_push_size _ rfl⟩
def fZ:V→Bool
 | .non=> true
 | .bl _=> true
 | .int _=> true
 | .str _=> true
 | _=> false
def eqV:V→V→Bool
 | .non,.non=> true
 | .bl a,.bl b=> a==b
 | .bl a,.int b=> (if a then 1 else 0)==b
 | .int a,.bl b=> a==(if b then 1 else 0)
 | .int a,.int b=> a==b
 | .str a,.str b=> a==b
 | _,_=> false
theorem xZ {A:Around} {s:Shared} {y x:V} {u v:Value} (ry:a_ y u) (rx:a_ x v) (fy:fZ y=true) (fx:fZ x=true):SeqAt.EqAt A s u v (eqV y x):=by
 cases y with
 | non=>
  cases ry
  cases x with
  | non=> cases rx; exact SeqAt.EqAt.same _
  | bl b=> cases rx; exact SeqAt.EqAt.none_bool b
  | int b=> obtain ⟨t,rfl⟩:=rx; exact SeqAt.EqAt.none_int b t
  | str b=> obtain ⟨t,rfl⟩:=rx; exact SeqAt.EqAt.none_str b t
  | _=> exact absurd (show false=true from fx) Bool.false_ne_true
 | bl a=>
  cases ry
  cases x with
  | non=> cases rx; exact SeqAt.EqAt.bool_none a
  | bl b=> cases rx; exact SeqAt.EqAt.bool_bool a b
  | int b=> obtain ⟨t,rfl⟩:=rx; exact SeqAt.EqAt.bool_int a b t
  | str b=> obtain ⟨t,rfl⟩:=rx; exact SeqAt.EqAt.bool_str a b t
  | _=> exact absurd (show false=true from fx) Bool.false_ne_true
 | int a=>
  obtain ⟨t',rfl⟩:=ry
  cases x with
  | non=> cases rx; exact SeqAt.EqAt.int_none a t'
  | bl b=> cases rx; exact SeqAt.EqAt.int_bool a t' b
  | int b=> obtain ⟨t,rfl⟩:=rx; exact SeqAt.EqAt.int_int a t' b t
  | str b=> obtain ⟨t,rfl⟩:=rx; exact SeqAt.EqAt.int_str a t' b t
  | _=> exact absurd (show false=true from fx) Bool.false_ne_true
 | str a=>
  obtain ⟨t',rfl⟩:=ry
  cases x with
  | non=> cases rx; exact SeqAt.EqAt.str_none a t'
  | bl b=> cases rx; exact SeqAt.EqAt.str_bool a t' b
  | int b=> obtain ⟨t,rfl⟩:=rx; exact SeqAt.EqAt.str_int a t' b t
  | str b=> obtain ⟨t,rfl⟩:=rx; exact SeqAt.EqAt.str_str a t' b t
  | _=> exact absurd (show false=true from fx) Bool.false_ne_true
 | _=> exact absurd (show false=true from fy) Bool.false_ne_true
def eqU (x:V) (u:Value):Bool:=match u with
 | .none=> eqV .non x
 | .bool b=> eqV (.bl b) x
 | .int i _=> eqV (.int i) x
 | .str z _=> eqV (.str z) x
 | _=> false
theorem td {x y:V} {u:Value} (r:a_ y u) (f:fZ y=true):eqU x u=eqV y x:=by
 cases y with
 | non=> cases r; rfl
 | bl b=> cases r; rfl
 | int i=> obtain ⟨t,rfl⟩:=r; rfl
 | str z=> obtain ⟨t,rfl⟩:=r; rfl
 | _=> exact absurd (show false=true from f) Bool.false_ne_true
theorem lh {x:V}:∀ {xs:List V} {us:List Value},aN xs us→xs.all fZ=true→us.any (eqU x)=xs.any fun y=> eqV y x
 | _,_,.nil,_=> rfl
 | y::xs,u::us,.cons r t,f=> by
  rw [List.all_cons,Bool.and_eq_true] at f
  rw [List.any_cons,List.any_cons,td r f.1,lh t f.2]
theorem jN {A:Around} {s:Shared} {x:V} {v:Value} (rx:a_ x v) (fx:fZ x=true):∀ {xs:List V} {us:List Value},aN xs us→xs.all fZ=true→∀ u∈us,SeqAt.EqAt A s u v (eqU x u)
 | _,_,.nil,_=> fun u hu=> by cases hu
 | y::xs,u::us,.cons r t,f=> fun u' hu=> by
  rw [List.all_cons,Bool.and_eq_true] at f
  rcases List.mem_cons.mp hu with rfl | hu
  ·rw [td r f.1]; exact xZ r rx f.1 fx
  ·exact jN rx fx t f.2 u' hu
def inV (x:V) (xs:List V):Bool:=xs.any fun y=> eqV y x
def rIn (K:PySem.W.Frag) (neg:Bool):R2:=fun x y H Q=> ∃ p xs,y=.ref p∧(SqL K H p xs∨SqT K H p xs)∧fZ x=true∧xs.all fZ=true∧Q (.bl (if neg then !inV x xs else inV x xs)) H
theorem rD:OpR X (compareOp .In) (rIn X.K false):=by
 intro pins s σ H x y v u Q I rx ry h
 obtain ⟨p,xs,rfl,hq,fx,fs,q⟩:=h
 cases ry
 rcases hq with hq | hq
 ·obtain ⟨its,r,pl,hz⟩:=I.list hq
  refine SeqAt.in_listAt (eqU x) pl.isList (fun w hw=> jN rx fx r fs w (by simpa using hw)) ⟨.bl _,H,I,rfl,?_⟩
  rw [show its.toArray.any (eqU x)=its.any (eqU x) by simp,lh r fs]
  exact q
 ·obtain ⟨its,r,pl,hz⟩:=I.tuple hq
  refine SeqAt.in_tupleAt (eqU x) pl (fun w hw=> jN rx fx r fs w (by simpa using hw)) ⟨.bl _,H,I,rfl,?_⟩
  rw [show its.toArray.any (eqU x)=its.any (eqU x) by simp,lh r fs]
  exact q
theorem gL:dj X (.builtin "len") (fun xs H Q=> ∃ p ys,xs=[.ref p]∧(SqL X.K H p ys∨SqT X.K H p ys)∧Q (.int ys.length) H):=by
 intro pins s σ H xs us Q I r h
 obtain ⟨p,ys,rfl,hq,q⟩:=h
 obtain ⟨u,rfl,rx⟩:=fX r
 cases rx
 have hn:=oJ
 rcases hq with hq | hq
 ·obtain ⟨its,r',pl,hz⟩:=I.list hq
  have hlen:=r'.length
  exact Calls.call_len_list pl.isList (by simp only [List.size_toArray] <;> omega) ⟨.int ys.length,H,I.tok _,⟨s.toks+1,by rw [List.size_toArray,hlen]⟩,q⟩
 ·obtain ⟨its,r',pl,hz⟩:=I.tuple hq
  have hlen:=r'.length
  exact len_tuple pl (by simp only [List.size_toArray] <;> omega) ⟨.int ys.length,H,I.tok _,⟨s.toks+1,by rw [List.size_toArray,hlen]⟩,q⟩
theorem ly:dj X (.type "list") (fun xs H Q=> ∃ p ys,xs=[.ref p]∧(SqL X.K H p ys∨SqT X.K H p ys)∧∀ l,H l=none→Q (.ref l) (upd H l (.lst ys))):=by
 intro pins s σ H xs us Q I r h
 obtain ⟨p,ys,rfl,hq,q⟩:=h
 obtain ⟨u,rfl,rx⟩:=fX r
 cases rx
 have fin:∀ (its:List Value),aN ys its→ys.length≤sizeLine→∀ (h':Heap) (c':Nat),(∀ b o',s.heap.get? b=some o'→h'.get? b=some o')→
   h'.get? s.heap.objs.size=some { cls:=.type "list",dict:=none,data:=.seq its.toArray c',slots:=#[] }→EP X pins σ Q (.ref s.heap.objs.size) { s with heap:=h' }:=fun its r' hz h' c' kp e=>
  ⟨.ref s.heap.objs.size,_,I.laid (t':=s.toks) kp (Nat.le_refl _) (show cq X.prog X.w _ h' _ (.lst ys) from ⟨hz,its,c',r',e⟩),rfl,q _ (I.hok.fresh (Nat.le_refl _))⟩
 rcases hq with hq | hq
 ·obtain ⟨its,r',pl,hz⟩:=I.list hq
  have hlen:=r'.length
  obtain ⟨o,ho,hc,n,hd⟩:=pl.isList
  exact call_list_seq p (.inl rfl) ho hc hd (fun h' c' kp e=> fin its r' hz h' c' kp e) (by simp only [List.size_toArray] <;> omega)
 ·obtain ⟨its,r',pl,hz⟩:=I.tuple hq
  have hlen:=r'.length
  obtain ⟨o,ho,hc,n,hd⟩:=pl
  exact call_list_seq p (.inr rfl) ho hc hd (fun h' c' kp e=> fin its r' hz h' c' kp e) (by simp only [List.size_toArray] <;> omega)
def tyV (K:PySem.W.Frag) (T:String) (x:V) (H:Hp):Prop:=match x with
 | .str _=> T="str"
 | .int _=> T="int"
 | .ref p=> (T="list"∧∃ xs,SqL K H p xs)∨(T="tuple"∧∃ o,K.lookup p=some o∧o.cls=.type "tuple"∧o.dict=none)∨
   (T="dict"∧((∃ kvs,H p=some (.dK kvs))∨∃ kvs,H p=some (.dT kvs)))∨(T="set"∧∃ S n,H p=some (.set S n))
 | _=> False
theorem uc {pins:List (Addr×Obj)} {σ:St} {H:Hp} {s:Shared} {T:String} {x:V} {v:Value} (I:Inv X pins σ H s) (r:a_ x v) (ty:tyV X.K T x H):
  s.TypeIs v T∧∀ a,v=.ref a→∃ ob,s.heap.get? a=some ob∧ob.dict=none:=by
 cases x with
 | str z=>
  obtain ⟨t,rfl⟩:=r
  cases (show T="str" from ty)
  exact ⟨typeIs_str s z t,fun _ e=> nomatch e⟩
 | int i=>
  obtain ⟨t,rfl⟩:=r
  cases (show T="int" from ty)
  exact ⟨typeIs_int s i t,fun _ e=> nomatch e⟩
 | ref p=>
  cases r
  rcases ty with ⟨rfl,xs,hq⟩ | ⟨rfl,o,hk,hc,hd⟩ | ⟨rfl,hk⟩ | ⟨rfl,S,n,hk⟩
  ·obtain ⟨its,_,pl,_⟩:=I.list hq
   refine ⟨pl.isList.typeIs,fun a e=> ?_⟩
   cases e
   obtain ⟨o,n,e,c,hd,_⟩:=pl
   exact ⟨o,e,hd⟩
  ·refine ⟨⟨o,I.kIn p o hk,hc⟩,fun a e=> ?_⟩
   cases e
   exact ⟨o,I.kIn _ o hk,hd⟩
  ·have z:∃ o,s.heap.get? p=some o∧o.ExactDict:=by
    rcases hk with ⟨kvs,hk⟩ | ⟨kvs,hk⟩
    ·obtain ⟨_,_,_,_,o,_,_,e,ex,_⟩:=I.hok p _ hk
     exact ⟨o,e,ex⟩
    ·obtain ⟨_,_,_,_,o,_,_,e,ex,_⟩:=I.hok p _ hk
     exact ⟨o,e,ex⟩
   obtain ⟨o,e,ex⟩:=z
   refine ⟨⟨o,e,ex.1⟩,fun a e2=> ?_⟩
   cases e2
   exact ⟨o,e,ex.2.1⟩
  ·obtain ⟨o,_,_,_,e,ex,_⟩:=I.hok p _ hk
   refine ⟨⟨o,e,ex.1⟩,fun a e2=> ?_⟩
   cases e2
   exact ⟨o,e,ex.2.1⟩
 | _=> exact False.elim ty
def AM (K:PySem.W.Frag) (T:String) (r:V→List V→Hp→VK→Prop) (to:TE):TE:=fun σ H Q=> to σ H fun x H1=> tyV K T x H1∧r x [] H1 Q
def tBM (K:PySem.W.Frag) (T:String) (r:V→List V→Hp→VK→Prop) (to:TE) (t:TA):TE:=fun σ H Q=> to σ H fun x H1=> tyV K T x H1∧t σ H1 fun xs H2=> r x xs H2 Q
variable {o e:Expr} {es:List Expr} {to:TE} {t:TA} {name:Str} {apos cpos:Pos} {T id:String} {r:V→List V→Hp→VK→Prop}
theorem yJ (pa:PlainAttrs T) (slot:Slot T name id) (hty:typeOf (.builtin id)=pure (.type "method_descriptor")) (hm:MtR X id r) (ho:PE X o to)
  (hbase:attributeBase o name X.env (eval o X.env)=eval o X.env:=by rfl) (hline:(apos.endLine==cpos.line)=true:=by rfl):PE X (.Call (.Attribute o name apos) [] [] cpos) (AM X.K T r to):=by
 intro pins s σ H Q I h
 refine wpAny_Call_method0_late hbase hline (thn (ho pins s σ H _ I h) fun v s1 ⟨x,H1,I1,r1,ty,q1⟩=> ?_)
 obtain ⟨h1,h2⟩:=uc I1 r1 ty
 exact ⟨T,id,pa,slot,hty,h1,h2,Calls.callWith_builtin rfl (PySem.evalArgs_none (hm pins s1 σ H1 x [] v [] Q I1 r1 .nil q1))⟩
theorem zB (pa:PlainAttrs T) (slot:Slot T name id) (hty:typeOf (.builtin id)=pure (.type "method_descriptor")) (hm:MtR X id r) (ho:PE X o to) (ha:PA X (e::es) t)
  (hbase:attributeBase o name X.env (eval o X.env)=eval o X.env:=by rfl)
  (hfew:((backTo cpos (starEach (e::es) X.env)).all (fun x=> !x.1) && (backToKw cpos (keywordEach [] X.env)).all (fun x=> x.1.isSome)
   && decide ((e::es).length+([]:List Keyword).length+(if ([]:List Keyword).isEmpty then 0 else 1) < 30))=true:=by rfl)
  (hline:(apos.endLine==cpos.line)=true:=by rfl) (hs:starEach (e::es) X.env=(false,eval e X.env)::starEach es X.env:=by rfl) (hplain:(backTo cpos (starEach es X.env)).any (·.1)=false:=by rfl):
  PE X (.Call (.Attribute o name apos) (e::es) [] cpos) (tBM X.K T r to t):=by
 intro pins s σ H Q I h
 refine wpAny_Call_method_late hbase hfew hline rfl (thn (ho pins s σ H _ I h) fun v s1 ⟨x,H1,I1,r1,ty,q1⟩=> ?_)
 obtain ⟨h1,h2⟩:=uc I1 r1 ty
 refine ⟨T,id,pa,slot,hty,h1,h2,?_⟩
 have hA:=ha cpos pins s1 σ H1 _ I1 q1
 rw [hs] at hA ⊢
 refine Calls.callWith_builtin (by show (false || (backTo cpos (starEach es X.env)).any (·.1))=false; rw [hplain] <;> rfl) (Calls.evalArgs_plain ?_)
 exact thn hA fun us s2 ⟨vs,H2,I2,r2,q2⟩=> hm pins s2 σ H2 x vs v us Q I2 r1 r2 q2
/- xs.append(e),list.index on a module's tuple .. are MtR facts of 06m -/
end
end L2
namespace L2
open PySem PySem.Spec PyProof.Rows
def MtM (X:Cx) (id:String) (r:V→List V→Hp→VK→Prop):Prop:=
 ∀ (pins:List (Addr×Obj)) (s:Shared) (σ:St) (H:Hp) (x:V) (xs:List V) (v:Value) (us:List Value) (Q:VK),Inv X pins σ H s→a_ x v→aN xs us→r x xs H Q→
  wpAny (model X.prog X.w) X.A (call (.builtin id) (v::us)) (EP X pins σ Q) X.xe s
theorem aN.one:∀ {x:V} {us:List Value},aN [x] us→∃ u,us=[u]∧a_ x u
 | _,_,.cons r .nil=> ⟨_,rfl,r⟩
theorem aN.zero:∀ {us:List Value},aN [] us→us=[]
 | _,.nil=> rfl
theorem aN.dropLast {xs:List V} {us:List Value} (h:aN xs us):aN xs.dropLast us.dropLast:=by
 induction h with
 | nil=> exact .nil
 | cons r t ih=>
  cases t with
  | nil=> exact .nil
  | cons q t'=> exact .cons r ih
theorem oD {α:Type} (l:List α):l.eraseIdx (l.length - 1)=l.dropLast:=by
 induction l with
 | nil=> rfl
 | cons a r ih=>
  cases r with
  | nil=> rfl
  | cons b r=>
   have e:(a::b::r).length - 1=((b::r).length - 1)+1:=by
    have h1:(a::b::r).length=r.length+2:=rfl
    have h2:(b::r).length=r.length+1:=rfl
    omega
   rw [e,List.eraseIdx_cons_succ,ih]
   all_goals rfl
section
variable {X:Cx} {pins:List (Addr×Obj)} {σ:St} {H:Hp} {s:Shared} {l b:Addr} {xs ys zs:List V}
theorem Inv.lset {its its':List Value} {n:Nat} {f:Array Value→Array Value} {t':Nat} (I:Inv X pins σ H s) (hH:H l=some (.lst xs))
  (e:s.heap.get? l=some { cls:=.type "list",data:=.seq its.toArray n }) (hf:f its.toArray=its'.toArray) (hv:aN ys its') (hz:ys.length≤sizeLine):
  Inv X pins σ (upd H l (.lst ys)) { s with heap:=s.heap.update l (Obj.mapSeq f),toks:=t' }:=by
 have q:=PySem.IsL.update e f
 rw [hf] at q
 refine I.write (x:=l) (e:=l) (by rw [hH]; exact trivial) (.inl rfl) (fun b' u hb hu=> (Heap.get?_update_other s.heap (Obj.mapSeq f) (Ne.symm hb)).trans hu) ⟨_,q⟩ ?_
 exact ⟨hz,its',_,hv,q⟩
theorem Inv.lnew {its:List Value} {t':Nat} (I:Inv X pins σ H s) (hv:aN ys its) (hz:ys.length≤sizeLine):
  Inv X pins σ (upd H s.heap.objs.size (.lst ys)) { s with heap:=s.heap.push { cls:=.type "list",data:=.seq its.toArray },toks:=t' }:=
 I.laid (fun _ _ q=> Heap.get?_push_of_some _ q) (Nat.le_refl _) ⟨hz,its,0,hv,Heap.get?_push_size _ rfl⟩
theorem Inv.fresh (I:Inv X pins σ H s):H s.heap.objs.size=none:=I.hok.fresh (Nat.le_refl _)
theorem Inv.lstM (I:Inv X pins σ H s) (hH:H l=some (.lst xs)):xs.length≤sizeLine∧∃ (its:List Value) (n:Nat),aN xs its∧xs.length=its.length∧s.heap.get? l=some { cls:=.type "list",data:=.seq its.toArray n }:=by
 obtain ⟨z,its,n,r,e⟩:=I.hok l _ hH
 exact ⟨z,its,n,r,r.length,e⟩
theorem Ah {n:Nat} (h:n≤sizeLine):Builtin.List.listTooLong n=false:=by
 unfold Builtin.List.listTooLong
 exact decide_eq_false (by omega)
end
section
variable {X:Cx}
def vH:V→List V→Hp→VK→Prop:=fun x vs H Q=> ∃ l xs y,x=.ref l∧vs=[y]∧H l=some (.lst xs)∧xs.length < sizeLine∧Q .non (upd H l (.lst (xs++[y])))
theorem h7:MtM X "list.append" vH:=by
 intro pins s σ H x vs v us Q I rx rv h
 obtain ⟨l,xs,y,rfl,rfl,hH,hz,q⟩:=h
 cases rx
 obtain ⟨u,rfl,ru⟩:=rv.one
 obtain ⟨z,its,n,r,hl,e⟩:=I.lstM hH
 refine call_meets F.slot_list_append ⟨_,e,rfl⟩ F.entry_list_append (F.args_list_append_2 _ _) (PySem.list_append l its.toArray n u (by rw [List.size_toArray]; omega)) ⟨e,?_⟩
 refine ⟨.non,_,I.lset (its':=its++[u]) hH e (by simp) (r.append (.cons ru .nil)) ?_,rfl,q⟩
 rw [List.length_append,List.length_singleton]
 omega
def Az:V→List V→Hp→VK→Prop:=fun x vs H Q=> ∃ l xs y,x=.ref l∧vs=[]∧H l=some (.lst xs)∧xs[xs.length - 1]?=some y∧Q y (upd H l (.lst xs.dropLast))
theorem zf:MtM X "list.pop" Az:=by
 intro pins s σ H x vs v us Q I rx rv h
 obtain ⟨l,xs,y,rfl,rfl,hH,hy,q⟩:=h
 cases rx
 have hus:=rv.zero
 subst hus
 obtain ⟨z,its,n,r,hl,e⟩:=I.lstM hH
 obtain ⟨u,hu,ru⟩:=r.get hy
 have hy':its.toArray[its.toArray.size - 1]?=some u:=by
  show its.toArray[its.length - 1]?=some u
  rw [← Array.getElem?_toList,← hl]
  exact hu
 refine call_meets F.slot_list_pop ⟨_,e,rfl⟩ F.entry_list_pop (F.args_list_pop_1 _) (MeetsSeq.list_pop_last l its.toArray n u hy' (by rw [List.size_toArray]; omega)) ⟨e,?_⟩
 refine ⟨y,_,I.lset (its':=its.dropLast) hH e ?_ r.dropLast ?_,ru,q⟩
 ·show its.toArray.eraseIdxIfInBounds (its.toArray.size - 1)=its.dropLast.toArray
  rw [List.size_toArray,List.eraseIdxIfInBounds_toArray,oD]
 ·rw [List.length_dropLast]
  omega
def AB:R2:=fun x y H Q=> ∃ l b xs zs,x=.ref l∧y=.ref b∧H l=some (.lst xs)∧H b=some (.lst zs)∧xs.length+zs.length≤sizeLine∧∀ p,H p=none→Q (.ref p) (upd H p (.lst (xs++zs)))
theorem yU:OpR X (binaryOp .Add) AB:=by
 intro pins s σ H x y v u Q I rx ry h
 obtain ⟨l,b,xs,zs,rfl,rfl,hH,hB,hz,q⟩:=h
 cases rx
 cases ry
 obtain ⟨z,its,n,r,hl,e⟩:=I.lstM hH
 obtain ⟨z2,its2,n2,r2,hl2,e2⟩:=I.lstM hB
 refine PySem.P.add_list e e2 ?_ (by rw [List.size_toArray,List.size_toArray]; omega)
 have ea:its.toArray++its2.toArray=(its++its2).toArray:=by simp
 rw [ea]
 exact ⟨.ref _,_,I.lnew (t':=s.toks) (r.append r2) (by rw [List.length_append]; omega),rfl,q _ I.fresh⟩
end
section
variable {prog:Program} {w:World} {A:Around} {E:Value→Shared→Prop} {s:Shared}
end
section
variable {X:Cx}
end
end L2
namespace Att
open PySem PySem.W PySem.Calls PyProof.Rows
theorem iE {P:Params} {h:Heap}:∀ (ns:List Int) (vs:List Value),WellAll P h vs (ns.map WData.int)→IntsAre vs ns:=by
 intro ns
 induction ns with
 | nil=>
  intro vs w
  rw [List.map_nil] at w
  cases w
  exact .nil
 | cons n ns ih=>
  intro vs w
  rw [List.map_cons] at w
  cases w with
  | cons a b=>
   cases a
   exact .cons _ _ (ih _ b)
theorem script_of {l:OpenLaw} {n:Nat} (hn:l.most=some n) {P:Params} {h:Heap} {args:List WData} {vals:List Value}
  (hpre:l.row.toRowW.claim.pre args=true) (hwl:WellAll P h vals args):
  ∃ a vs ns,vals=[Value.ref a]∧args=[WData.list (ns.map WData.int)]∧h.get? a=some { cls:=.type "list",data:=.seq vs.toArray }∧IntsAre vs ns∧ns.length≤n:=by
 have hsh:WShape.hasAll [] args [.list .int]=true:=(pre_splitW hpre).1
 have hc:l.pre.holds [] { args:=args }=true:=(pre_splitW hpre).2
 obtain ⟨d,r,rfl,h1,h2⟩:=hasAllW_cons hsh
 obtain rfl:=hasAllW_nil h2
 obtain ⟨xs,rfl,h3⟩:=hasW_list h1
 obtain ⟨ns,rfl⟩:=items_int h3
 have hlen:ns.length≤n:=by
  unfold OpenLaw.pre at hc
  have h4:(WTm.not (.lt (.lit (.int (n:Int))) (.len (.arg 0)))).holds [] { args:=[.list (ns.map .int)] }=true:=by
   have h4:=(holds_andW hc).1
   rw [hn] at h4
   exact h4
  have h5:=condW_of h4 (w_not (w_lt w_lit (w_len_list (w_arg rfl))))
  rw [List.length_map] at h5
  refine Nat.le_of_not_lt fun q=> ?_
  have q':(n:Int) < ((ns.length:Nat):Int):=by omega
  first
   | (rw [decide_eq_true q'] at h5; exact absurd h5 (by decide))
   | (simp at h5; omega)
 cases hwl with
 | cons w1 w2=>
  cases w2
  cases w1 with
  | list ho hall=> exact ⟨_,_,ns,rfl,rfl,ho,iE ns _ hall,hlen⟩
theorem post_true (l:OpenLaw) (args:List WData):l.row.toRowW.claim.post args (.bool true) args=true:=
 postW_of (r:=l.row.toRowW) (X:=(true==true))
  (show WShape.has [] (.bool true) .bool=true by first | rfl | decide | simp [WShape.has,WShape.arms,WShape.armsAll])
  (show (WTm.eq .res (.lit (.bool true))).value [] { args:=args,res:=some (.bool true),after:=args }=some (.bool (true==true)) from w_eq_bool (w_res rfl) w_lit) rfl
section
variable {prog:Program} {w:World} {A:Around} {E:Value→Shared→Prop} {s:Shared} {K:Frag}
end
end Att
namespace L2
open PySem PySem.Spec PyProof.Rows
theorem j8:∀ {vs:List Value} {ns:List Int},IntsAre vs ns→aN (ns.map V.int) vs
 | _,_,.nil=> .nil
 | _,_,.cons n t h=> .cons ⟨t,rfl⟩ (j8 h)
def xk (H:Hp):Prop:=∀ b,H b=none∨∃ o xs,H b=some (.frz o (.lst xs))
theorem tF {P:Program} {w:World} {K:PySem.W.Frag} {mg mb:Str→Option Value} {CX:CXT} {k:Nat} {fa a:Addr} {fd:FuncData} {x:Str} {sp:Sp} {s₁:Shared} {vs:List Value} {ns:List Int}
  (KX:K.In s₁.heap) (hns:s₁.heap.Ns mainGlobals mg) (hb:s₁.heap.Ns builtinsNs mb) (hbb:∀ x:Str,x≠"__name__"→mb x=bootBuiltins x) (hlim:s₁.heap.NoLimit) (hg:s₁.gens=#[])
  (ha:s₁.heap.get? a=some { cls:=.type "list",data:=.seq vs.toArray }) (hi:IntsAre vs ns) (hl:ns.length≤sizeLine) (hr:dJ k callerA)
  (F:∀ base:Heap,K.In base→base.Ns mainGlobals mg→bh P w K mg base CX k fa fd [x] sp) (hbind:∀ (s:Shared) (u:Value),BindsTo s fd ⟨[u],[]⟩ [(x,u)])
  (hsp:∀ H:Hp,xk H→SqL K H a (ns.map V.int)→sp [.ref a] H (fun v _=> v=.bl true) fun _ _ _=> False)
  (hCX:∀ H e s',CX [] H s₁ (fun _ _ _=> False) e s'→False):
  codeAny (model P w) callerA (.call (.ref fa) ⟨[.ref a],[]⟩) (fun r s'=> r=.ok (.ret (.bool true))∧OldK s₁.heap s'.heap∧s'.os=s₁.os∧AllBare s'.gens) s₁:=by
 have rv:=j8 hi
 have lenV:=hi.length
 have core:∀ H:Hp,xk H→SqL K H a (ns.map V.int)→HOk P w H s₁.heap→(∀ b,H b≠none→b=a)→(H a≠none→K.lookup a=none)→
   codeAny (model P w) callerA (.call (.ref fa) ⟨[.ref a],[]⟩) (fun r s'=> r=.ok (.ret (.bool true))∧OldK s₁.heap s'.heap∧s'.os=s₁.os∧AllBare s'.gens) s₁:=by
  intro H hO hS hok hA hK
  have base_of:∀ {b:Addr} {o:Obj},s₁.heap.get? b=some o→H b=none→(kZ s₁.heap H).get? b=some o:=fun e n=> sH e n
  have noA:∀ {b:Addr} {o:Obj} {es:Array DictEntry} {ep:Nat},s₁.heap.get? b=some o→o.data=.dict es ep→H b=none:=fun {b o es ep} e d=> by
   cases q:H b with
   | none=> rfl
   | some u=>
    have e':b=a:=hA b (by rw [q]; simp)
    subst e'
    rw [ha] at e; cases e
    have d':Data.seq vs.toArray _=Data.dict es ep:=d
    cases d'
  have nsK:∀ {b:Addr} {m:Str→Option Value},s₁.heap.Ns b m→(kZ s₁.heap H).Ns b m:=fun {b m} ⟨o,es,ep,e,d,r⟩=> ⟨o,es,ep,base_of e (noA e d),d,r⟩
  have hKb:K.In (kZ s₁.heap H):=fun b o e=> base_of (KX b o e) (by
   cases q:H b with
   | none=> rfl
   | some u=>
    have e':b=a:=hA b (by rw [q]; simp)
    subst e'
    rw [hK (by rw [q]; simp)] at e; cases e)
  have hM:Mod K mg (kZ s₁.heap H):=⟨hKb,nsK hns,⟨mb,nsK hb,hbb⟩,let ⟨mc,h1,h2⟩:=hlim; ⟨mc,nsK h1,h2⟩⟩
  have e0:wC P w K mg (kZ s₁.heap H) callerA [] s₁ H:=⟨rfl,hM,fun b o e=> wI e,Nat.le_of_eq (qI _ _),trivial,fun b hb=> absurd (show b∈([]:List Addr) from hb) (by simp),hok,.of_eq hg⟩
  refine codeAny_mono ((F _ hKb (nsK hns)).run callerA [] s₁ H ⟨[.ref a],[]⟩ [.ref a] [.ref a] _ _ hr e0 (hbind s₁ (.ref a)) (.cons rfl .nil) (hsp H hO hS)) fun r s' h=> ?_
  cases r with
  | error e=> exact (hCX H e s' h).elim
  | ok fl=>
   cases fl with
   | next=> exact False.elim h
   | brk=> exact False.elim h
   | cont=> exact False.elim h
   | ret u=>
    obtain ⟨v,H',os,bare,un,hok',r',q⟩:=h
    have q':v=.bl true:=q
    subst q'
    obtain rfl:u=Value.bool true:=r'
    refine ⟨rfl,OldK.of_keep fun b o e=> ?_,os,bare⟩
    cases q:H b with
    | none=> exact un.keep b o e q (by intro z; exact absurd (show b∈([]:List Addr) from z) (by simp)) (by simp)
    | some u=>
     rcases hO b with z | ⟨ob,xs,z⟩
     ·rw [q] at z; cases z
     ·have z2:=un.frzs b ob _ z
      obtain ⟨e1,_⟩:=hok b _ z
      obtain ⟨e2,_⟩:=hok' b _ z2
      rw [e] at e1; cases e1
      exact e2
 cases hk:K.lookup a with
 | some o=>
  have e:=KX a o hk
  rw [ha] at e
  cases e
  refine core (fun _=> none) (fun _=> .inl rfl) (.inr ⟨_,vs.toArray,_,hk,rfl,rfl,rfl,by rw [List.size_toArray,lenV]; exact hl,by simpa using rv⟩) (fun b u z=> by have z':(none:Option HO)=some u:=z; cases z') (fun b z=> absurd rfl z) fun z=> absurd rfl z
 | none=>
  refine core (fun b=> if b=a then some (.frz { cls:=.type "list",data:=.seq vs.toArray } (.lst (ns.map V.int))) else none) (fun b=> ?_) (.inl (.inr ⟨{ cls:=.type "list",data:=.seq vs.toArray },if_pos rfl⟩)) (fun b u z=> ?_) (fun b z=> ?_) fun _=> hk
  ·by_cases hb:b=a
   ·exact .inr ⟨_,_,if_pos hb⟩
   ·exact .inl (if_neg hb)
  ·by_cases hb:b=a
   ·have z':=(if_pos hb).symm.trans z
    cases z'
    subst hb
    exact ⟨ha,by rw [List.length_map]; exact hl,vs,_,rv,ha⟩
   ·have z':=(if_neg hb).symm.trans z
    cases z'
  ·by_cases hb:b=a
   ·exact hb
   ·exact absurd (if_neg hb) z
end L2
namespace L2
open PySem PySem.Spec PyProof.Rows
abbrev KOf {K:PySem.W.Frag} {h:Heap} (_:K.In h):PySem.W.Frag:=K
end L2
/- THE LAST THEOREM (shape; LID,My.* are yours):
   My.Adr:a structure of the addresses that your layer names (classes,functions); My.Txt K t:a structure (Prop) of the equations over K;
   My.txt_mk:{K} {implicit addresses ..} (e1:nsIn K mainGlobals "law"=some (some (.ref f))) (e2:K.lookup f=some ⟨oc,od,.func (fnOf "law" "law" params body scope dV kV doc pm an cdv ct),sl⟩) (e3:codeIn K cdv "law"=true) ..:∃ t,My.Txt K t
set_option maxRecDepth 100000 in
set_option maxHeartbeats 0 in
theorem PySem.Challenge.cw_LID_holds : PySem.Challenge.rw_LID.Holds := by
 w_on; o_law; k_head; (case hw=> w_witness2)
 k_fill
 refine L2.walk_of (l:=PySem.Challenge.rw_LID) (n:=63) (k:=40) (x:="script") (CX:=fun w=> ..) (sp:=fun _=> My.sp_law) rfl (by decide) rfl ⟨rfl,by decide,by decide⟩ (fun w h Y=> PySem.W.kIn_of Y) ?F ?S ?C
 case F=>
  intro w mg fa h KX G hmg
  have T:∃ t,My.Txt (L2.KOf KX) t:=by
   dsimp only [L2.KOf]                          -- K must stand as «<heap const> w.params» for k_is
   refine' My.txt_mk ?e1 ?e2 ?e3 ..
   (case e1=> PySem.W.k_is)                    -- in the order:a name -> its address -> its object -> its parts
   (case e2=> PySem.W.k_is)
   ..
  obtain ⟨t,T⟩:=T
  have e0:=hmg.symm.trans (PySem.W.mg_of KX G T.law)
  cases e0                                       -- fa is the law's own address
  exact ⟨_,fun s u=> .of_eq rfl,fun base kb nb=> My.law_fn T kb nb⟩     -- if «.of_eq rfl» comes too early:refine' ⟨_,?b,fun base kb nb=> My.law_fn T kb nb⟩; exact fun s u=> .of_eq rfl
 case S=> exact fun w H a ns hl hO hS=> ..
 case C=> exact ..
(the tactic k_is has no namespace:write k_is) -/
namespace L2
open PySem PySem.Spec PyProof.Rows
def au (s:Stmt):Arguments:=match s with
 | .FunctionDef _ a _ _ _ _ _ _ _ _=> a
 | _=> { posonlyargs:=[],args:=[],vararg:=none,kwonlyargs:=[],kw_defaults:=[],kwarg:=none,defaults:=[] }
def aq (s:Stmt):List Stmt:=match s with
 | .FunctionDef _ _ b _ _ _ _ _ _ _=> b
 | _=> []
def ai (s:Stmt):Scope:=match s with
 | .FunctionDef _ _ _ _ _ _ sc _ _ _=> sc
 | _=> { kind:=.function,names:=[],isGenerator:=false,isCoroutine:=false }
abbrev CX0:CXT:=fun _ _ _ _ _ _=> False
abbrev E0:XK:=fun _ _ _=> False
structure Fun (K:PySem.W.Frag) (x qual:Str) (st:Stmt) (f:Addr) (fd:FuncData):Prop where
 ex:∃ (oc:Value) (od:Option Addr) (kV doc pm:Value) (an:Option Addr) (cdv ct:Value) (osl:Array (Option Value)),
  fd=PySem.W.fnOf x qual (au st) (aq st) (ai st) .none kV doc pm an cdv ct∧K.lookup f=some ⟨oc,od,.func fd,osl⟩∧PySem.W.codeIn K cdv qual=true
 kp:PySem.W.keepIn K (.ref f)=true
section
variable {P:Program} {w:World} {K:PySem.W.Frag} {mg:Str→Option Value} {base:Heap}
theorem Fun.binds {x qual:Str} {st:Stmt} {f:Addr} {fd:FuncData} {ps:List Str} (F:Fun K x qual st f fd)
  (h:∀ (kV doc pm:Value) (an:Option Addr) (cdv ct:Value) (us:List Value),us.length=ps.length→bindArgs (PySem.W.fnOf x qual (au st) (aq st) (ai st) .none kV doc pm an cdv ct) ⟨us,[]⟩=pure (ps.zip us)):aQ K fd ps []:=by
 obtain ⟨oc,od,kV,doc,pm,an,cdv,ct,osl,rfl,lk,hcd⟩:=F.ex
 exact .all (h kV doc pm an cdv ct)
theorem aT {x qual:Str} {st:Stmt} {f:Addr} {oc:Value} {od an:Option Addr} {osl:Array (Option Value)} {kV doc pm cdv ct:Value} (l:K.lookup f=some ⟨oc,od,.func (PySem.W.fnOf x qual (au st) (aq st) (ai st) .none kV doc pm an cdv ct),osl⟩)
  (c:PySem.W.codeIn K cdv qual=true) (k:PySem.W.keepIn K (.ref f)=true):Fun K x qual st f (PySem.W.fnOf x qual (au st) (aq st) (ai st) .none kV doc pm an cdv ct):=⟨⟨oc,od,kV,doc,pm,an,cdv,ct,osl,rfl,l,c⟩,k⟩
end
theorem bw {n:Nat} (h:n≤1000):n < sizeLine:=Nat.lt_of_le_of_lt h (by decide)
section
variable {X:Cx}
end
theorem n8 {A B:Prop} (h:B):if false=true then A else B:=by
 rw [if_neg Bool.false_ne_true]
 exact h
theorem n5 {A B:Prop} (h:A):if true=true then A else B:=by
 rw [if_pos rfl]
 exact h
def aI (H H':Hp):Prop:=∀ b o,H b=some o→H' b=some o
theorem aI.refl (H:Hp):aI H H:=fun _ _ h=> h
theorem aI.trans {H H1 H2:Hp} (a:aI H H1) (b:aI H1 H2):aI H H2:=fun c o h=> b c o (a c o h)
theorem aI.free {H H':Hp} (e:aI H H') {l:Addr} (h:H' l=Option.none):H l=Option.none:=by
 cases q:H l with
 | none=> rfl
 | some o=>
  rw [e l o q] at h
  cases h
theorem aI.seq {K:PySem.W.Frag} {H H':Hp} {a:Addr} {xs:List V} (e:aI H H') (h:SqL K H a xs):SqL K H' a xs:=by
 rcases h with (h | ⟨o,h⟩) | h
 ·exact .inl (.inl (e _ _ h))
 ·exact .inl (.inr ⟨o,e _ _ h⟩)
 ·exact .inr h
end L2
namespace L2
open PySem PySem.Spec PyProof.Rows
def Sz (m:Nat) (x:Int):Prop:=x.natAbs < 2 ^ m
theorem Sz.mono {m n:Nat} {x:Int} (h:Sz m x) (hmn:m≤n):Sz n x:=Nat.lt_of_lt_of_le h (Nat.pow_le_pow_right (by decide) hmn)
theorem Sz.neg {m:Nat} {x:Int} (h:Sz m x):Sz m (-x):=by unfold Sz at *; rw [Int.natAbs_neg]; exact h
theorem Sz.add {m:Nat} {x y:Int} (hx:Sz m x) (hy:Sz m y):Sz (m+1) (x+y):=by
 unfold Sz at *
 have:=Int.natAbs_add_le x y
 rw [Nat.pow_succ]; omega
theorem Sz.sub {m:Nat} {x y:Int} (hx:Sz m x) (hy:Sz m y):Sz (m+1) (x - y):=by
 rw [Int.sub_eq_add_neg]; exact hx.add hy.neg
theorem Sz.mul {m n:Nat} {x y:Int} (hx:Sz m x) (hy:Sz n y):Sz (m+n) (x * y):=by
 unfold Sz at *
 rw [Int.natAbs_mul,Nat.pow_add]
 exact Nat.mul_lt_mul'' hx hy
theorem Sz.le {m:Nat} {x y:Int} (h:x.natAbs≤y.natAbs) (hy:Sz m y):Sz m x:=Nat.lt_of_le_of_lt h hy
theorem Sz.ediv {m:Nat} {x y:Int} (hx:Sz m x):Sz m (x / y):=Sz.le (Int.natAbs_ediv_le_natAbs x y) hx
theorem Sz.emod {m:Nat} {x y:Int} (h0:0 < y) (hy:Sz m y):Sz m (x % y):=by
 have h1:=Int.emod_nonneg x (show y≠0 by omega)
 have h2:=Int.emod_lt_of_pos x h0
 exact Sz.le (by omega) hy
theorem Sz.abs {m:Nat} {x:Int} (hx:Sz m x):Sz m (if x < 0 then -x else x):=by split; exact hx.neg; exact hx
instance (m:Nat) (x:Int):Decidable (Sz m x):=inferInstanceAs (Decidable (x.natAbs < 2 ^ m))
theorem Sz.add' {m n:Nat} {x y:Int} (hx:Sz m x) (hy:Sz n y):Sz (max m n+1) (x+y):=(hx.mono (Nat.le_max_left m n)).add (hy.mono (Nat.le_max_right m n))
theorem Sz.sub' {m n:Nat} {x y:Int} (hx:Sz m x) (hy:Sz n y):Sz (max m n+1) (x - y):=(hx.mono (Nat.le_max_left m n)).sub (hy.mono (Nat.le_max_right m n))
theorem Sz.lit {m:Nat} {x:Int} (h:Sz m x):Sz m x:=h
theorem Sz.ok {m n:Nat} {x y:Int} (hx:Sz m x) (hy:Sz n y) (h:m+n≤134217728):IntMulOk x y:=
 PyProof.Rows.mulOk_of_bits (intBits_le_iff.mpr hx) (intBits_le_iff.mpr hy) h
theorem Sz.log {m:Nat} {x:Int} (h:Sz m x) (hm:m≤9000) (h0:x≠0):x.natAbs.log2 < 9000:=by
 have q:=(Nat.log2_lt (by omega)).mpr (show x.natAbs < 2 ^ m from h)
 omega
def xH (_ j:Int):Prop:=0 < j∧Sz 9000 j
def xl (_ j:Int):Prop:=j≠0∧Sz 9000 j
section
variable {X:Cx} {a b c:Expr} {ta tb tc:TE} {pos:Pos}
theorem v5:OpR X (binaryOp .Mult) (rI IntMulOk fun i j=> .int (i * j)):=opI fun _ _ _ _ _ _ _ hc q=> mul_int q hc
theorem tw:OpR X (binaryOp .FloorDiv) (rI xH fun i j=> .int (i / j)):=opI fun i j _ _ _ _ _ hc q=> by
 have h1:(0:Int) < j:=hc.1
 exact floordiv_int (by omega) (by rw [Int.fdiv_eq_ediv_of_nonneg i (by omega)]; exact q) (.inl (PyProof.noPylong_of_log2 (hc.2.log (by decide) (by omega))))
theorem t4:OpR X (binaryOp .FloorDiv) (rI xl fun i j=> .int (i.fdiv j)):=opI fun i j _ _ _ _ _ hc q=>
 floordiv_int hc.1 q (.inl (PyProof.noPylong_of_log2 (hc.2.log (by decide) hc.1)))
theorem zF {x:Str} {n:String} {pos:Pos} (hg:Gl X x) (hm:X.mg x=none) (hv:bootBuiltins x=some (.type n)) (hn:x≠"__name__":=by decide) (hd:(x==("__debug__":Str))=false:=by decide):PE X (.Name x pos) (tC (.ty n)):=
 v3 hg hm hv rfl hn hd
end
section
variable {X:Cx}
end
theorem kit_int_int (K:PySem.W.Frag):PySem.W.kitOne K (.type "int") (.type "int")=some true:=rfl
theorem kit_int_bool (K:PySem.W.Frag):PySem.W.kitOne K (.type "int") (.type "bool")=some false:=rfl
theorem kit_bool_int (K:PySem.W.Frag):PySem.W.kitOne K (.type "bool") (.type "int")=some true:=rfl
theorem kit_tuple_tuple (K:PySem.W.Frag):PySem.W.kitOne K (.type "tuple") (.type "tuple")=some true:=rfl
theorem kit_list_tuple (K:PySem.W.Frag):PySem.W.kitOne K (.type "list") (.type "tuple")=some false:=rfl
section
variable {X:Cx} {tg:Expr}
end
theorem bn {H:Hp} {p:Addr} (h:H p=none) (o:HO):aI H (upd H p o):=fun b u q=> by rw [be (cC q h)]; exact q
theorem aI.put {H H':Hp} {l:Addr} (e:aI H H') (h:H l=none) (o:HO):aI H (upd H' l o):=fun b u q=> by rw [be (cC q h)]; exact e b u q
theorem aI.tup {K:PySem.W.Frag} {H H':Hp} {a:Addr} {xs:List V} (e:aI H H') (h:SqT K H a xs):SqT K H' a xs:=by
 rcases h with (h | ⟨o,h⟩) | h
 ·exact .inl (.inl (e _ _ h))
 ·exact .inl (.inr ⟨o,e _ _ h⟩)
 ·exact .inr h
end L2
namespace L2
open PySem PySem.W PySem.Calls PySem.Spec PyProof.Rows
theorem nD {ns:List Int} (h:WData.layableAll [WData.list (ns.map WData.int)]=true):∀ n∈ns,Sz 1048576 n:=by
 intro n hn
 have h1:=(PySem.W.layableW_arg h) _ (List.mem_singleton.mpr rfl)
 have h2:=PySem.W.layableW_item h1 (WData.int n) (List.mem_map.mpr ⟨n,hn,rfl⟩)
 have h3:=(PySem.W.layableW_iff.mp h2).2.2
 have h4:Builtin.Int.intBits n≤1048576:=by simpa only [WData.weight,Builtin.Int.intBits] using h3
 exact intBits_le_iff.mp h4
theorem lv {l:PySem.W.OpenLaw} {n:Nat} {q:Program} {loose:List Str} {XP:(Str→Option Value)→Heap→Prop} {YP:World→Heap→Prop} {d:DefRec}
  (hn:l.most=some n) (hdf:d.params.defaults=[])
  (call:∀ (w:World) (s₀ s₁:Shared) (mg mb:Str→Option Value) (fa:Addr) (o:Obj) (pm cd doc:Value) (a:Addr) (vs:List Value) (ns:List Int),
   PySem.W.Ground q loose [] XP w s₀ mg mb s₁.heap→YP w s₁.heap→
   s₁.heap.get? fa=some o→o.data=.func (docDef d.name d.params d.body d.scope pm cd doc)→s₁.heap.CodeRec cd d.name→mg d.name=some (.ref fa)→
   s₁.heap.get? a=some { cls:=.type "list",data:=.seq vs.toArray }→IntsAre vs ns→ns.length≤n→(∀ m∈ns,Sz 1048576 m)→s₁.gens=#[]→
   codeAny (model l.prog w) callerA (.call (.ref fa) ⟨[.ref a],[]⟩) (fun r s'=> r=.ok (.ret (.bool true))∧OldK s₁.heap s'.heap∧s'.os=s₁.os∧AllBare s'.gens) s₁):
  PySem.W.WalkO q loose XP YP l.row.toRowW d [] (fun f vs=> PySem.call f vs):=by
 intro w s₀ s₁ mg mb G Y fa o pm cd doc dV kV ho hd hcd hD hmg hg args vals as hpre hlay hrd hwl hlo
 obtain rfl:dV=.none:=PySem.W.Dflts.none hD hdf
 obtain rfl:kV=.none:=PySem.W.Dflts.noKw hD
 obtain ⟨a,vs,ns,rfl,rfl,hobj,hints,hlen⟩:=Att.script_of hn hpre hwl
 refine PySem.W.enter_call (codeAny_mono (call w s₀ s₁ mg mb fa o pm cd doc a vs ns G Y ho (PySem.W.fd_plain hd) hcd hmg hobj hints hlen (nD hlay) hg) fun r s' hq=> ?_)
 obtain ⟨rfl,h2,h3,h4⟩:=hq
 exact ⟨.inl ⟨.bool true,.bool true,[],rfl,fun _=> rfl,.bool true,Att.post_true l _,fun _=> ⟨List.Pairwise.nil,fun _ hm=> (nomatch hm)⟩⟩,h2,h3,h4⟩
theorem walk_ofB {l:PySem.W.OpenLaw} {n k:Nat} {q:Program} {loose:List Str} {XP:(Str→Option Value)→Heap→Prop} {YP:World→Heap→Prop} {d:DefRec} {K:Params→PySem.W.Frag} {CX:CXT} {sp:PySem.W.Frag→Sp} {x:Str}
  (hn:l.most=some n) (hn2:n≤sizeLine) (hdf:d.params.defaults=[]) (hr:dJ k callerA)
  (hY:∀ (w:World) (h:Heap),YP w h→(K w.params).In h)
  (F:∀ (w:World) (mg:Str→Option Value) (fa:Addr) (h:Heap),(K w.params).In h→h.Ns mainGlobals mg→mg d.name=some (.ref fa)→
   ∃ fd:FuncData,(∀ (s:Shared) (u:Value),BindsTo s fd ⟨[u],[]⟩ [(x,u)])∧
    ∀ base:Heap,(K w.params).In base→base.Ns mainGlobals mg→bh l.prog w (K w.params) mg base CX k fa fd [x] (sp (K w.params)))
  (hsp:∀ (K:PySem.W.Frag) (H:Hp) (a:Addr) (ns:List Int),ns.length≤n→(∀ m∈ns,Sz 1048576 m)→xk H→SqL K H a (ns.map V.int)→sp K [.ref a] H (fun v _=> v=.bl true) fun _ _ _=> False)
  (hCX:∀ (H:Hp) (s:Shared) (e:Value) (s':Shared),CX [] H s (fun _ _ _=> False) e s'→False):
  PySem.W.WalkO q loose XP YP l.row.toRowW d [] (fun f vs=> PySem.call f vs):=by
 refine lv hn hdf fun w s₀ s₁ mg mb fa o pm cd doc a vs ns G Y ho hd hcd hmg hobj hints hlen hbits hg=> ?_
 have KX:=hY w _ Y
 obtain ⟨fd,hb,hF⟩:=F w mg fa _ KX G.T.g hmg
 exact tF KX G.T.g G.T.b G.T.builtins G.T.nolimit hg hobj hints (Nat.le_trans hlen hn2) hr hF hb (fun H hO hS=> hsp _ H a ns hlen hbits hO hS) fun H e s'=> hCX H s₁ e s'
end L2
namespace L2
theorem t5 {α:Type} {xs:List α} {k:Int} {i:Nat} {v:α} (e:k=(i:Int)) (h:xs[i]?=some v):atI xs k=some v:=by subst e; exact p7 h
end L2
namespace L2
theorem Sz.natle {m:Nat} {x y:Int} (hy:Sz m y) (h:x.natAbs≤y.natAbs):Sz m x:=Sz.le h hy
end L2
namespace L2
open PySem PySem.Spec PyProof.Rows
abbrev ax (X:Cx) (scope:Scope) (cl:List (Str×Addr)) (C:Addr) (s:Shared) (H:Hp) (fp:List Addr):Cx:=
 { X with s₀:=s,H₀:=H,env:=compEnvC scope cl C X.env,outer:=X.stack,ex:=fp,fn:=fun _=> false,pn:=[],xe:=fun _ _=> False }
def mask:List Nat→St→St
 | [],σ=> σ
 | i::is,σ=> mask is (σ.set i none)
theorem eo:∀ (is:List Nat) (σ:St),(mask is σ).length=σ.length
 | [],_=> rfl
 | i::is,σ=> by rw [mask,eo is]; simp
theorem gN:∀ (is:List Nat) (σ:St) (j:Nat) (v:V),(mask is σ)[j]?=some (some v)→σ[j]?=some (some v)∧j ∉ is
 | [],σ,j,v,h=> ⟨h,by simp⟩
 | i::is,σ,j,v,h=> by
  obtain ⟨h1,h2⟩:=gN is _ j v h
  by_cases e:i=j
  ·subst e
   rw [List.getElem?_set] at h1
   simp at h1
  ·rw [List.getElem?_set_ne e] at h1
   exact ⟨h1,by simp [Ne.symm e,h2]⟩
structure cY (X:Cx) (scope:Scope) (cl:List (Str×Addr)) (is:List Nat):Prop where
 clos:closureFor scope X.env=pure cl
 cell:∀ y∈scope.names,y.2≠.cell
 kind:scope.kind=.function
 names:∀ y∈scope.names,y.2=.local→scope.names.lookup y.1=some .local
 cls:∀ x c,cl.lookup x=some c→X.env.cells.lookup x=some c
 free:∀ x,((relabel scope X.env).names.lookup x=some .cell∨(relabel scope X.env).names.lookup x=some .free)→Vis X.env.scope x∧X.env.scope.names.lookup x≠some .local∧∃ c,cl.lookup x=some c
 own:∀ i x,X.N[i]?=some x→(relabel scope X.env).names.lookup x=some .local→i∈is
def uR (J:It) (is:List Nat) (g:TG) (te:TE) (σ:St) (H1:Hp) (l:Addr) (Q:VK):Prop:=
 ∃ W:Nat→Nat→Hp→Prop,(∃ m,W 0 m (upd H1 l (.lst [])))∧∀ i m H2,W i m H2→
  (J.stop i H2∧Q (.ref l) H2)∨(J.go i H2∧∀ x H3,J.yld i H2 x H3→g x (mask is σ) H3 fun σ4 H4=> te σ4 H4 fun y H5=>
   (∀ (j:Nat) (v:V),(mask is σ)[j]?=some (some v)→σ4[j]?=some (some v))∧∃ vs,H5 l=some (.lst vs)∧vs.length < sizeLine∧∃ m',m' < m∧W (i+1) m' (upd H5 l (.lst (vs++[y]))))
def xT (is:List Nat) (g:TG) (te:TE) (σ:St) (Q:VK) (J:It) (H1:Hp):Prop:=∀ l,H1 l=none→uR J is g te σ H1 l Q
def tm (is:List Nat) (wi:TI) (g:TG) (te:TE):TE:=fun σ H Q=> wi σ H (xT is g te σ Q)
section
variable {X:Cx} {pins:List (Addr×Obj)} {σ:St} {H:Hp} {s:Shared}
theorem iw {scope:Scope} {cl:List (Str×Addr)} {is:List Nat} {fp:List Addr} {h₁:Heap} {m:Str→Option Value} {t':Nat} (I:Inv X pins σ H s) (B:cY X scope cl is) (hf:∀ b∈fp,jh X pins H b) (hfl:∀ b∈fp,b < s.heap.objs.size)
  (hn:h₁.Ns s.heap.objs.size m) (hk:∀ b o,s.heap.get? b=some o→h₁.get? b=some o):
  Inv (ax X scope cl s.heap.objs.size s H fp) [] (mask is σ) H { s with heap:=h₁,toks:=t' }:=by
 refine ⟨⟨I.ok.mod,B.kind,I.ok.glob,I.ok.blt,Nat.le_refl _,fun x y c h1 h2=> I.ok.inj x y c (B.cls x c h1) (B.cls y c h2),fun x hx=> (B.free x hx).2.2,fun x c h=> (by cases h),I.ok.hd,I.ok.frames,.inl rfl,fun b hb=> ⟨Nat.ne_of_lt (hfl b hb),fun x c e=> (hf b hb).2.2.2.2.1 x c (B.cls x c e)⟩,
  I.bs,Nat.le_trans I.ok.bsz I.sz,fun b o e hb=> ?_,fun b hb z=> ?_,I.stack,I.stkFree⟩,rfl,I.bare,Un.kept hk,⟨m,hn,fun i x v h1 h2 h3=> ?_⟩,fun x c e=> ?_,I.hok.fresh (Nat.le_refl _),fun x c e=> I.freeC x c (B.cls x c e),fun p hp=> absurd (show p∈([]:List (Addr×Obj)) from hp) (by simp),I.hok.kept hk,?_⟩
 ·rcases (hf b hb).2.2.2.1 with z | z
  ·exact I.ok.noex b o e z
  ·exact absurd (Nat.lt_of_lt_of_le (Heap.lt_size e) (Nat.le_trans I.ok.bsz z)) (Nat.lt_irrefl _)
 ·rcases List.mem_cons.mp (I.stkSub b z) with e | e
  ·exact (hf b hb).2.1 e
  ·exact (hf b hb).2.2.1 e
 ·obtain ⟨e2,ni⟩:=gN is σ i v h2
  have h3':(relabel scope X.env).names.lookup x=some .local∨(relabel scope X.env).names.lookup x=some .cell∨(relabel scope X.env).names.lookup x=some .free:=h3
  rcases h3' with z | z
  ·exact absurd (B.own i x h1 z) ni
  ·obtain ⟨hv,hnl,c,hc⟩:=B.free x z
   obtain ⟨m0,_,hl⟩:=I.loc
   obtain ⟨u,r,l⟩:=hl i x v h1 e2 hv
   refine ⟨u,r,.inr ⟨z,c,hc,?_⟩⟩
   rcases l with ⟨k,_⟩ | ⟨_,c',hc',o,ho,hd⟩
   ·exact absurd k hnl
   ·have ec:=B.cls x c hc
    rw [hc'] at ec
    cases ec
    exact ⟨o,hk _ _ ho,hd⟩
 ·obtain ⟨v,o,ho,hd⟩:=I.cell x c (B.cls x c e)
  exact ⟨v,o,hk _ _ ho,hd⟩
 ·show (mask is σ).length=X.N.length
  rw [eo]; exact I.len
theorem mQ {elt iter tg:Expr} {scope:Scope} {cl:List (Str×Addr)} {pos pos0:Pos} {is:List Nat} {wi:TI} {g:TG} {te:TE} {use:Option (Value→Sem Unit)} {Q0:VK} {Q:Value→Shared→Prop} (hc:X.calm=true) (B:cY X scope cl is)
  (hi:PI X tg iter wi) (hg:∀ C s H fp,PG (ax X scope cl C s H fp) tg g) (he:∀ C s H fp,PE (ax X scope cl C s H fp) elt te) (hs:∀ x,foldedSetIterable iter X.env x=pure x)
  (I:Inv X pins σ H s) (h:tm is wi g te σ H Q0)
  (fin:∀ (l C:Addr) (H':Hp) (s':Shared) (m:Str→Option Value),Inv X pins σ H' s'→s'.heap.Ns C m→H' C=none→C≠X.env.locals→C ∉ X.fs→X.s₀.heap.objs.size≤C→(∀ x c,X.env.cells.lookup x=some c→c≠C)→(∀ p∈X.pn++pins,p.1≠C)→Q0 (.ref l) H'→
   compPost (model X.prog X.w) X.A X.xe use Q (.ref l) C (.ok .next) s'):
  wpAny (model X.prog X.w) X.A (comprehension (.ListComp elt [⟨tg,iter,[],0⟩] scope pos) scope X.env pos0 (newList []) false (eval iter X.env) use) Q X.xe s:=by
 refine wpAny_comprehension_free rfl hs B.clos B.kind B.names (thn (hi pins s σ H _ I h) fun xv s1 h1=> thn h1 fun itv s2 h2=> ?_)
 obtain ⟨it,fp,tn,J,H2,e,I2,T,st2,f2,R⟩:=h2
 subst e
 refine wpAny_newObj_type (wpAny_newFunctionEnv B.cell (by intro y hy; simp at hy) (fun h₁ hns hsb=> ?_) B.kind)
 have hl:H2 s2.heap.objs.size=none:=I2.hok.fresh (Nat.le_refl _)
 obtain ⟨W,⟨m0,w0⟩,turn⟩:=R s2.heap.objs.size hl
 have I3:Inv X pins σ (upd H2 s2.heap.objs.size (.lst [])) { s2 with heap:=s2.heap.push { cls:=.type "list",dict:=none,data:=.seq ([]:List Value).toArray } }:=
  I2.laid (t':=s2.toks) (o:=.lst []) (fun b u e=> Heap.get?_push_of_some _ e) (Nat.le_refl _) ⟨Nat.zero_le _,[],0,.nil,Heap.get?_push_size _ rfl⟩
 have hfl:∀ b∈fp,b < s2.heap.objs.size:=fun b hb=> let ⟨o,e,_⟩:=T.obj 0 _ st2 b hb; Heap.lt_size e
 have f3:∀ b∈fp,jh X pins (upd H2 s2.heap.objs.size (.lst [])) b:=fun b hb=> ⟨by rw [be (Nat.ne_of_lt (hfl b hb))]; exact (f2 b hb).1,(f2 b hb).2⟩
 have kp:∀ b o,(s2.heap.push { cls:=.type "list",dict:=none,data:=.seq ([]:List Value).toArray }).get? b=some o→h₁.get? b=some o:=fun b o e=>
  hsb.extBut b o (Nat.ne_of_lt (Heap.lt_size e)) (Heap.get?_push_of_some _ e)
 have st4:tn 0 h₁:=T.keep 0 _ _ st2 fun b _ o e=> kp b o (Heap.get?_push_of_some _ e)
 have hfl3:∀ b∈fp,b < (s2.heap.push { cls:=.type "list",dict:=none,data:=.seq ([]:List Value).toArray }).objs.size:=fun b hb=> by
  rw [Heap.size_push]; exact Nat.lt_succ_of_lt (hfl b hb)
 have I4:=iw (t':=s2.toks+([]:List (Str×Value)).length) I3 B f3 hfl3 hns kp
 have loop:codeAny (model X.prog X.w) X.A (.compLoop (.ListComp elt [⟨tg,iter,[],0⟩] scope pos) 0 (.ref it) (.ref s2.heap.objs.size) (compEnvC scope cl (s2.heap.push { cls:=.type "list",dict:=none,data:=.seq ([]:List Value).toArray }).objs.size X.env))
   (compPost (model X.prog X.w) X.A X.xe use Q (.ref s2.heap.objs.size) (s2.heap.push { cls:=.type "list",dict:=none,data:=.seq ([]:List Value).toArray }).objs.size)
   { s2 with heap:=h₁,toks:=s2.toks+([]:List (Str×Value)).length }:=by
  generalize hs3:({ s2 with heap:=s2.heap.push { cls:=.type "list",dict:=none,data:=.seq ([]:List Value).toArray } }:Shared)=s3 at *
  have hC:(s2.heap.push { cls:=.type "list",dict:=none,data:=.seq ([]:List Value).toArray }).objs.size=s3.heap.objs.size:=by rw [← hs3]
  rw [hC]
  have hstat:∀ {H':Hp},(∀ b∈fp,H' b=none)→∀ b∈fp,jh (ax X scope cl s3.heap.objs.size s3 (upd H2 s2.heap.objs.size (.lst [])) fp) [] H' b:=fun hn b hb=>
   ⟨hn b hb,(I4.ok.exf b hb).1,I4.ok.exfs b hb,.inl hb,fun x c e=> (I4.ok.exf b hb).2 x c e,fun p hp=> absurd (show p∈([]:List (Addr×Obj)) from hp) (by simp)⟩
  have back:∀ {σ':St} {H':Hp} {pp:List (Addr×Obj)} {s':Shared},Inv (ax X scope cl s3.heap.objs.size s3 (upd H2 s2.heap.objs.size (.lst [])) fp) pp σ' H' s'→Inv X pins σ H' s':=fun I'=>
   I3.call' (ch:=fp) I'.os I'.base I'.hok I'.bare fun b hb=> ⟨(f3 b hb).2.2.2.1,(f3 b hb).2.1,(f3 b hb).2.2.2.2.1,(f3 b hb).2.2.2.2.2⟩
  refine codeAny_loop rfl (fun n s'=> ∃ i H',Inv (ax X scope cl s3.heap.objs.size s3 (upd H2 s2.heap.objs.size (.lst [])) fp) [] (mask is σ) H' s'∧tn i s'.heap∧(∀ b∈fp,H' b=none)∧W i n H') ?_ m0 ⟨0,_,(by subst hs3; exact I4),st4,fun b hb=> (f3 b hb).1,w0⟩
  rintro n s5 ⟨i,H5,I5,st5,fr5,w5⟩
  show wpAny _ _ ((compTurn (.ListComp elt [⟨tg,iter,[],0⟩] scope pos) 0 (.ref it) (.ref s2.heap.objs.size) (compEnvC scope cl s3.heap.objs.size X.env)).onRaise (fun x=> do noteFrame x (compEnvC scope cl s3.heap.objs.size X.env); theTreesLotGoes x)) _ _ s5
  refine wpAny_noted ?_
  rw [compTurn_list1]
  refine wpAny_bind (wpAny_standAt (wpAny_bind ?_))
  rcases turn i n H5 w5 with ⟨stop,q⟩ | ⟨go,step⟩
  ·refine thn (T.done (ax X scope cl s3.heap.objs.size s3 (upd H2 s2.heap.objs.size (.lst [])) fp) rfl rfl rfl hc i [] s5 _ H5 _ I5 (hstat fr5) st5 stop) fun r s6 ⟨hr,I6⟩=> ?_
   subst hr
   refine wpAny_pure ?_
   obtain ⟨m6,hn6,_⟩:=I6.loc
   have hCn:∀ b,b < s3.heap.objs.size→b≠s3.heap.objs.size:=fun b hb=> Nat.ne_of_lt hb
   refine fin _ s3.heap.objs.size H5 s6 m6 (back I6) hn6 I6.free (Nat.ne_of_gt I3.lt) (I3.nofs (Nat.le_refl _)) I3.sz (fun x c e=> ?_) (fun p hp=> ?_) q
   ·obtain ⟨v,z⟩:=I3.cell x c e
    exact Nat.ne_of_lt z.lt
   ·exact Nat.ne_of_lt (Heap.lt_size (I3.pin p hp).1)
  ·refine thn (T.item (ax X scope cl s3.heap.objs.size s3 (upd H2 s2.heap.objs.size (.lst [])) fp) rfl rfl rfl hc i [] s5 _ H5 _ I5 (hstat fr5) st5 go) fun r s6 ⟨u,hr,h6⟩=> ?_
   subst hr
   refine wpAny_bind (thn h6 fun _ s7 ⟨x,H7,I7,r7,y7,st7,fr7⟩=> ?_)
   have I7':=I7.pinned (hstat fr7) (T.obj _ _ st7)
   refine wpAny_bind (wpAny_mono (hg _ _ _ _ _ s7 (mask is σ) H7 x u _ I7' r7 (step x H7 y7)) (fun _ s8 ⟨σ8,H8,I8,q8⟩=> ?_) fun _ _ z=> z.elim)
   refine wpAny_bind (wpAny_bind (wpAny_mono (he _ _ _ _ _ s8 σ8 H8 _ I8 q8) (fun v s9 ⟨y,H9,I9,r9,sub,vs,hl9,hz,m',hm,w'⟩=> ?_) fun _ _ z=> z.elim))
   refine wpAny_bind (wpAny_mono (h7 (X:=ax X scope cl s3.heap.objs.size s3 (upd H2 s2.heap.objs.size (.lst [])) fp) _ s9 σ8 H9 (.ref s2.heap.objs.size) [y] (.ref s2.heap.objs.size) [v] (fun _ H'=> H'=upd H9 s2.heap.objs.size (.lst (vs++[y]))) I9 rfl (.cons r9 .nil) ⟨_,vs,y,rfl,rfl,hl9,hz,rfl⟩) (fun z s10 ⟨zv,H10,I10,_,e10⟩=> ?_) fun _ _ z=> z.elim)
   subst e10
   refine wpAny_pure (wpAny_pure ⟨rfl,m',hm,i+1,_,(I10.unpinned (pins:=[])).weak (by rw [I10.len,eo,I.len]) sub,T.keep _ _ _ st7 fun b hb o e=> (I10.pin (b,o) (List.mem_append_right _ (List.mem_append_right _ (cU hb e)))).1,fun b hb=> ?_,w'⟩)
   obtain ⟨o,e,d⟩:=T.obj _ _ st7 b hb
   exact (I10.pin (b,o) (List.mem_append_right _ (List.mem_append_right _ (cU hb e)))).2.1
 exact codeAny_compStart_list loop (T.self X.A 0 _ _ _ st4 loop)
theorem w6 {elt iter tg:Expr} {scope:Scope} {cl:List (Str×Addr)} {pos:Pos} {is:List Nat} {wi:TI} {g:TG} {te:TE} (hc:X.calm=true) (B:cY X scope cl is)
  (hi:PI X tg iter wi) (hg:∀ C s H fp,PG (ax X scope cl C s H fp) tg g) (he:∀ C s H fp,PE (ax X scope cl C s H fp) elt te) (hs:∀ x,foldedSetIterable iter X.env x=pure x:=by intro _; rfl):
  PE X (.ListComp elt [⟨tg,iter,[],0⟩] scope pos) (tm is wi g te):=by
 intro pins s σ H Q I h
 rw [eval_ListComp]
 refine mQ (use:=none) hc B hi hg he hs I h fun l C H' s' m I' hn h1 h2 h3 h4 h5 h6 q=> ⟨m,hn,fun h' hsb=> ?_⟩
 exact ⟨.ref l,H',I'.turned (t':=s'.toks) (fun b o hb e=> hsb.extBut b o hb e) h1 (Ne.symm h2.symm) (.inr h4) h5 h6,rfl,q⟩
end
end L2
namespace L2
open PySem PySem.Spec PyProof.Rows
section
variable {X:Cx}
theorem ot {elt iter tg:Expr} {scope:Scope} {cl:List (Str×Addr)} {pos spos py:Pos} {y:Str} {j:Nat} {is:List Nat} {wi:TI} {g:TG} {te:TE} (hc:X.calm=true) (hN:X.N.Nodup) (hj:X.N[j]?=some y) (hy:Loc X.env.scope y) (B:cY X scope cl is)
  (hi:PI X tg iter wi) (hg:∀ C s H fp,PG (ax X scope cl C s H fp) tg g) (he:∀ C s H fp,PE (ax X scope cl C s H fp) elt te) (hs:∀ x,foldedSetIterable iter X.env x=pure x:=by intro _; rfl)
  (hsw:swapsWith (.ListComp elt [⟨tg,iter,[],0⟩] scope pos) (some (.Name y py)) spos.line X.env=pure true:=by rfl) (hf:X.fn y=true∨X.env.scope.names.lookup y=some .local:=by first | exact .inl rfl | exact .inr rfl | assumption):
  PS X (.Assign [.Name y py] (.ListComp elt [⟨tg,iter,[],0⟩] scope pos) spos) (w4 (tm is wi g te) (kB j)):=by
 intro pins s σ H D I h
 rw [exec_Assign_Name_used _ _ _ _ hsw]
 refine wpAny_bind (wpAny_standAt (wpAny_bind ?_))
 show wpAny _ X.A (do let _ ← comprehension (.ListComp elt [⟨tg,iter,[],0⟩] scope pos) scope X.env _ (newList []) false (eval iter X.env) (some (assign (.Name y py) X.env))) _ _ s
 refine wpAny_bind (wpAny_mono (mQ (Q0:=fun v H'=> D.nx (σ.set j (some v)) H') (use:=some (assign (.Name y py) X.env)) (Q:=fun _ s'=> SP X pins D .next s') hc B hi hg he hs I h fun l C H' s' m I' hn h1 h2 h3 h4 h5 h6 q=> ?_) (fun _ s' hq=> wpAny_pure (wpAny_pure hq)) fun _ _ e=> e)
 show wpAny _ X.A (assign (.Name y py) X.env (.ref l)) _ _ _
 refine wpAny_assign_Name (ie I' hN hj hy (v:=.ref l) rfl (fun s2 I2 ⟨a,hsb,ha⟩=> ?_) hf)
 have hCa:C≠a:=by
  rcases ha with e | e
  ·rw [e]; exact h2
  ·exact Ne.symm (h5 _ _ e)
 refine ⟨m,hn.sameBut hsb hCa,fun h' hsb'=> ⟨_,H',I2.turned (t':=s2.toks) (fun b o hb e=> hsb'.extBut b o hb e) h1 h2 (.inr h4) h5 h6,q⟩⟩
end
section
variable {prog:Program} {w:World} {A:Around} {E:Value→Shared→Prop}
theorem kH {it t:Addr} {items:Array Value} (hne:t≠it):∀ (n i:Nat) (s:Shared) (Q:List Value→Shared→Prop),s.heap.IsListIter it t i→s.heap.IsList t items→i+n≤items.size→
  (∀ h',h'.IsListIter it t (i+n)→Heap.SameBut it s.heap h'→Q ((items.toList.drop i).take n) { s with heap:=h' })→wpAny (model prog w) A (draw (.ref it) n) Q E s
 | 0,i,s,Q,hit,_,_,hQ=> by
  show wpAny _ _ (pure []) Q E s
  exact wpAny_pure (by simpa using hQ s.heap hit (Heap.SameBut.refl ..))
 | n+1,i,s,Q,hit,ht,hle,hQ=> by
  have hlt:i < items.size:=by omega
  show wpAny _ _ (pyNext (.ref it) >>=_) Q E s
  refine wpAny_bind (wpAny_pyNext_list_item hit ht (x:=items[i]) (by simp [hlt]) fun h₁ hit₁ hs₁=> ?_)
  refine wpAny_bind (wpAny_holding (kH hne n (i+1) _ _ hit₁ (ht.extBut hs₁.extBut hne) (by omega) fun h₂ hit₂ hs₂=> wpAny_pure ?_))
  have hd:items.toList.drop i=items[i]::items.toList.drop (i+1):=by simp [List.drop_eq_getElem_cons,hlt]
  have:=hQ h₂ (by rw [show i+(n+1)=i+1+n by omega]; exact hit₂) (hs₁.trans hs₂)
  rw [hd,List.take_succ_cons] at this
  exact this
theorem ig {s:Shared} {t:Addr} {items:Array Value} {Q:List Value→Shared→Prop} (hh:A.handled=none) (ht:s.heap.IsList t items)
  (hQ:∀ h',Heap.ExtBut s.heap.objs.size s.heap h'→Q items.toList { s with heap:=h' }):wpAny (model prog w) A (unpackItems (.ref t) items.size none) Q E s:=by
 have hlt:t≠s.heap.objs.size:=by obtain ⟨o,ho,_⟩:=ht; exact Nat.ne_of_lt (Heap.lt_size ho)
 unfold unpackItems
 refine wpAny_bind ?_
 ·unfold notIterableAtAll
  refine wpAny_bind (wpAny_specialOf ht.typeIs PySem.slot_list_iter.lookup ?_)
  refine wpAny_pure ?_
  simp only [Bool.false_eq_true,if_false]
  refine wpAny_bind (wpAny_holding (wpAny_pyIter_list ht ?_))
  refine wpAny_bind (wpAny_holding (kH hlt items.size 0 _ _ ⟨_,Heap.get?_push_size _ rfl,rfl,rfl⟩ (ht.push _) (by omega) fun h₁ hit₁ hs₁=> ?_))
  have hall:List.take items.size (List.drop 0 items.toList)=items.toList:=by
   rw [List.drop_zero]; exact List.take_of_length_le (by simp)
  rw [hall]
  rw [if_neg (by simp)]
  have ht₁:h₁.IsList t items:=(ht.push _).extBut hs₁.extBut hlt
  refine wpAny_bind (wpAny_holding (wpAny_pyNext_list_end hh hit₁ ht₁ (by simp) fun h₂ he₂=> ?_))
  simp only [Option.isSome_none,Bool.false_eq_true,if_false]
  refine wpAny_pure (hQ h₂ fun b o hb e=> he₂ b o hb (hs₁.extBut b o hb (Heap.get?_push_of_some _ e)))
end
section
variable {X:Cx} {pos:Pos}
def AR (K:PySem.W.Frag) (n:Nat) (t:TGs):TG:=fun v σ H Q=> ∃ a xs,v=.ref a∧SqL K H a xs∧xs.length=n∧t xs σ H Q
theorem yR {es:List Expr} {k:Nat} {t:TGs} {n:Nat} (hc:X.calm=true) (h:PGs X es t)
  (hn:(assignEach es X.env).length=n:=by rfl) (hst:(assignEach es X.env).findIdx? (·.1)=none:=by rfl):PG X (.Tuple es k pos) (AR X.K n t):=by
 intro pins s σ H v u Q I r hw
 obtain ⟨a,xs,e1,hq,hl,hw⟩:=hw
 subst e1
 cases r
 obtain ⟨its,rv,ht,hz⟩:=I.list hq
 rw [assign_Tuple]
 refine wpAny_bind (wpAny_standAt ?_)
 unfold unpack
 rw [hst,hn,← hl,rv.length,← List.size_toArray]
 refine wpAny_bind (wpAny_holding (ig (I.ok.hd hc) ht.isList fun h' hx=> ?_))
 have I1:Inv X pins σ H { s with heap:=h' }:=I.kept (t':=s.toks) fun b o e=> hx b o (Nat.ne_of_lt (Heap.lt_size e)) e
 exact h pins _ σ H xs _ Q I1 (by simpa using rv) hw
end
end L2
namespace L2
open PySem PySem.Spec PyProof.Rows
def goC (cells:List (Str×Addr)):List (Str×NameKind)→List (Str×Addr)→List (Str×Addr)
 | [],acc=> acc
 | (n,k)::r,acc=> goC cells r (if (k==.free)=true then (n,(cells.lookup n).getD 0)::acc else acc)
theorem om {env:Env} {scope:Scope} (h:∀ y∈scope.names,y.2=.free→(env.cells.lookup y.1).isSome=true):closureFor scope env=pure (goC env.cells scope.names []):=by
 have all:∀ (names:List (Str×NameKind)) (acc:List (Str×Addr)),(∀ y∈names,y.2=.free→(env.cells.lookup y.1).isSome=true)→
   (forIn names acc (fun x cs=> match x with | (name,kind)=> if (kind==.free)=true then (do let c ← cellOf env name; pure (ForInStep.yield ((name,c)::cs))) else pure (ForInStep.yield cs)):Sem (List (Str×Addr)))=pure (goC env.cells names acc):=by
  intro names
  induction names with
  | nil=> intro acc _; rfl
  | cons y r ih=>
   intro acc hy
   obtain ⟨n,k⟩:=y
   rw [List.forIn_cons]
   by_cases hk:k=.free
   ·subst hk
    have:=hy (n,.free) List.mem_cons_self rfl
    obtain ⟨c,hc⟩:=Option.isSome_iff_exists.mp this
    have e:cellOf env n=pure c:=by unfold cellOf; rw [hc]
    simp only [beq_self_eq_true,if_true,e,pure_bind]
    rw [ih _ fun y hy'=> hy y (List.mem_cons_of_mem _ hy')]
    simp only [goC,beq_self_eq_true,if_true,hc,Option.getD_some]
   ·have hb:(k==NameKind.free)=false:=by simpa using hk
    simp only [hb,Bool.false_eq_true,if_false,pure_bind]
    rw [ih _ fun y hy'=> hy y (List.mem_cons_of_mem _ hy')]
    simp only [goC,hb,Bool.false_eq_true,if_false]
 simp only [closureFor]
 have:=all scope.names [] h
 simpa using this
theorem pK {cells:List (Str×Addr)}:∀ (names:List (Str×NameKind)) (acc:List (Str×Addr)),(∀ y∈names,y.2=.free→(cells.lookup y.1).isSome=true)→(∀ x c,acc.lookup x=some c→cells.lookup x=some c)→
  ∀ x c,(goC cells names acc).lookup x=some c→cells.lookup x=some c
 | [],_,_,ha,x,c,h=> ha x c h
 | (n,k)::r,acc,hy,ha,x,c,h=> by
  rw [goC] at h
  refine pK r _ (fun y hy'=> hy y (List.mem_cons_of_mem _ hy')) (fun x' c' e=> ?_) x c h
  by_cases hk:k=.free
  ·subst hk
   simp only [beq_self_eq_true,if_true] at e
   rw [List.lookup_cons] at e
   by_cases hx:(x'==n)=true
   ·rw [hx] at e
    have hx':x'=n:=by simpa using hx
    obtain ⟨c2,hc2⟩:=Option.isSome_iff_exists.mp (hy (n,.free) List.mem_cons_self rfl)
    simp only [hc2,Option.getD_some] at e
    rw [hx',hc2]; exact e
   ·have:(x'==n)=false:=by simpa using hx
    rw [this] at e
    exact ha x' c' e
  ·have hb:(k==NameKind.free)=false:=by simpa using hk
   rw [hb] at e
   exact ha x' c' e
theorem qa {cells:List (Str×Addr)} {x:Str}:∀ (names:List (Str×NameKind)) (acc:List (Str×Addr)),((x,NameKind.free)∈names∨∃ c,acc.lookup x=some c)→∃ c,(goC cells names acc).lookup x=some c
 | [],_,h=> by
  rcases h with h | h
  ·cases h
  ·exact h
 | (n,k)::r,acc,h=> by
  rw [goC]
  refine qa r _ ?_
  rcases h with h | ⟨c,h⟩
  ·rcases List.mem_cons.mp h with e | h
   ·cases e
    right
    simp
   ·exact .inl h
  ·right
   by_cases hk:k=.free
   ·subst hk
    simp only [beq_self_eq_true,if_true]
    rw [List.lookup_cons]
    cases hx:x==n with
    | true=> exact ⟨_,rfl⟩
    | false=> exact ⟨c,h⟩
   ·have hb:(k==NameKind.free)=false:=by simpa using hk
    rw [hb]; exact ⟨c,h⟩
theorem cO {env:Env} {x:Str} {kd:NameKind}:∀ {names:List (Str×NameKind)},
  (names.map fun (n,k)=> if (k==NameKind.free && env.scope.kind==.function && env.kindOf n==some .cell) then (n,NameKind.cell) else (n,k)).lookup x=some kd→names.lookup x=some kd∨(kd=.cell∧names.lookup x=some .free)
 | [],h=> by simp at h
 | (n,k)::r,h=> by
  have ih:=@cO env x kd r
  change List.lookup x ((if (k==NameKind.free && env.scope.kind==.function && env.kindOf n==some .cell)=true then (n,NameKind.cell) else (n,k))::_)=_ at h
  by_cases hc:(k==NameKind.free && env.scope.kind==.function && env.kindOf n==some .cell)=true
  ·rw [if_pos hc] at h
   rw [List.lookup_cons] at h ⊢
   cases hx:x==n with
   | true=>
    rw [hx] at h
    have hk:k=.free:=by
     have:=(Bool.and_eq_true_iff.mp (Bool.and_eq_true_iff.mp hc).1).1
     simpa using this
    subst hk
    have h':some NameKind.cell=some kd:=h
    cases h'
    exact .inr ⟨rfl,rfl⟩
   | false=> rw [hx] at h; exact ih h
  ·rw [if_neg hc] at h
   rw [List.lookup_cons] at h ⊢
   cases hx:x==n with
   | true=> rw [hx] at h; exact .inl h
   | false=> rw [hx] at h; exact ih h
def u_ (scope fscope:Scope) (N:List Str) (is:List Nat):Bool:=
 scope.names.all (fun y=> y.2 !=.cell) && scope.names.all (fun y=> y.2 !=.local || scope.names.lookup y.1==some .local) && scope.names.all (fun y=> y.2 !=.free || fscope.names.lookup y.1==some .cell) &&
  (List.range N.length).all fun i=> match N[i]? with | some x=> scope.names.lookup x !=some .local || is.contains i | none=> true
theorem blk {X:Cx} {scope:Scope} (fscope:Scope) (N:List Str) (is:List Nat) (hNN:X.N=N) (hs:X.env.scope=fscope) (hcs:X.env.cells=cellsFrom (X.env.locals+1) fscope.names []) (hk:scope.kind=.function) (h:u_ scope fscope N is=true):cY X scope (goC X.env.cells scope.names []) is:=by
 subst hNN
 unfold u_ at h
 simp only [Bool.and_eq_true,List.all_eq_true] at h
 obtain ⟨⟨⟨h1,h2⟩,h3⟩,h4⟩:=h
 have f1:∀ y∈scope.names,y.2=.free→fscope.names.lookup y.1=some .cell:=fun y hy e=> by
  have:=h3 y hy
  simp only [Bool.or_eq_true,bne_iff_ne,ne_eq,beq_iff_eq] at this
  exact this.resolve_left fun z=> z e
 have f2:∀ y∈scope.names,y.2=.free→(X.env.cells.lookup y.1).isSome=true:=fun y hy e=> by
  rw [hcs]; exact PySem.W.cellsFrom_some _ _ _ (.inl (f1 y hy e))
 have nc:∀ y∈scope.names,y.2≠.cell:=fun y hy=> by have:=h1 y hy; simpa using this
 refine ⟨om f2,nc,hk,fun y hy e=> ?_,pK _ _ f2 (fun x c e=> by simp at e),fun x hx=> ?_,fun i x hi hl=> ?_⟩
 ·have:=h2 y hy
  simp only [Bool.or_eq_true,bne_iff_ne,ne_eq,beq_iff_eq] at this
  exact this.resolve_left fun z=> z e
 ·have hf:(x,NameKind.free)∈scope.names:=by
   rcases hx with hx | hx
   ·rcases cO hx with z | ⟨_,z⟩
    ·exact absurd rfl (nc _ (PySem.mem_of_lookup z))
    ·exact PySem.mem_of_lookup z
   ·rcases cO hx with z | ⟨z,_⟩
    ·exact PySem.mem_of_lookup z
    ·cases z
  have hc:=f1 _ hf rfl
  refine ⟨.inr (.inl (by rw [hs]; exact hc)),(by rw [hs,show fscope.names.lookup x=some .cell from hc]; intro z; cases z),qa _ _ (.inl hf)⟩
 ·have hi':i < X.N.length:=(List.getElem?_eq_some_iff.mp hi).1
  have:=h4 i (List.mem_range.mpr hi')
  rw [hi] at this
  have hl':scope.names.lookup x=some .local:=by
   rcases cO hl with z | ⟨z,_⟩
   ·exact z
   ·cases z
  simp only [hl',bne_self_eq_false,Bool.false_or,List.contains_iff_mem] at this
  exact this
end L2
namespace L2
end L2
namespace L2
open PySem PySem.Spec PySem.W PyProof.Rows
theorem vX {K:Frag} {h:Heap} {mg:Str→Option Value} {x:Str} {C:Addr} {bmB:List Value} {newId:String} (X:K.In h) (hb:mg x=some (.ref C)) (q:excIn K C bmB newId=true):OwnCls x C bmB newId mg h:=by
 refine ⟨hb,?_⟩
 unfold excIn at q
 split at q
 ·rename_i dd cd sl ho
  split at q
  ·rename_i C' bm k0 k1 k2 k3 n k5 hm hs
   simp only [Bool.and_eq_true,beq_iff_eq,Bool.not_eq_true'] at q
   obtain ⟨⟨⟨⟨⟨e1,e2⟩,hdel⟩,ht⟩,hok⟩,hni⟩:=q
   subst e1 e2
   obtain ⟨nm,bs,mro,ns,qn,hd,sn,sub,ab,col,del⟩:=cd
   dsimp only at hm hdel hok hni
   subst hm hdel
   have hsl:sl=#[k0,k1,k2,k3,some (.builtin n),k5]:=by cases sl; simp only at hs; rw [hs]
   subst hsl
   exact ⟨bm,ns,nm,qn,bs,hd,sn,sub,ab,col,dd,k0,k1,k2,k3,k5,_,X _ _ ho,.of_isNs (isNs_of_in X hok),nsMap_none_of_in X hok hni,tail_of_in X ht⟩
  ·cases q
 ·cases q
def CXF (P:Program) (w:World):CXT:=fun outer H s E e s'=> ∃ (ea:Addr) (cls a0:Value) (B:Heap) (H':Hp),e=.ref ea∧s'.os=s.os∧AllBare s'.gens∧Un (frs outer) [] H H' s.heap s'.heap∧HOk P w H' s'.heap∧H' ea=none∧
 (∀ b o,s.heap.get? b=some o→b ∉ frs outer→H b=none→B.get? b=some o)∧(∀ b u,H' b=some u→∃ o,B.get? b=some o)∧(∀ b o,s.heap.get? b=some o→b ∉ frs outer→∃ o',B.get? b=some o')∧
 Heap.FlyingW B outer ea cls a0 s'.heap∧E cls none H'
theorem aA {P:Program} {w:World} {X:Cx}:fA (CXF P w) X E0:=fun _ _ _ _ _ _ _ h=> by
 obtain ⟨_,_,_,_,_,_,_,_,_,_,_,_,_,_,_,hE⟩:=h
 exact hE.elim
theorem j5 {P:Program} {w:World} {H:Hp} {h:Heap} {a:Addr} {o:HO} (x:cq P w H h a o):∃ ob,h.get? a=some ob:=by
 cases o with
 | lst xs=> obtain ⟨_,_,_,_,e⟩:=x; exact ⟨_,e⟩
 | tup xs=> obtain ⟨_,_,_,ob,e,_⟩:=x; exact ⟨_,e⟩
 | dK kvs=> obtain ⟨_,_,_,_,o,_,_,e,_⟩:=x; exact ⟨_,e⟩
 | dT kvs=> obtain ⟨_,_,_,_,o,_,_,e,_⟩:=x; exact ⟨_,e⟩
 | set S n=> obtain ⟨o,_,_,_,e,_⟩:=x; exact ⟨_,e⟩
 | ins C dx fs=> obtain ⟨_,_,_,e,_⟩:=x; exact ⟨_,e⟩
 | own y=> obtain ⟨_,e⟩:=x; exact ⟨_,e⟩
 | xd fs=> obtain ⟨_,⟨_,_,_,e,_⟩,_⟩:=x; exact ⟨_,e⟩
 | rng lo hi=> obtain ⟨_,_,_,e⟩:=x; exact ⟨_,e⟩
 | frz ob u=> obtain ⟨e,_⟩:=x; exact ⟨_,e⟩
 | tbl ps=> exact ⟨_,(show h.get? a=some _ from x)⟩
 | met f y=> exact ⟨_,(show h.get? a=some _ from x)⟩
 | ext φ=> obtain ⟨_,⟨_,e⟩,_⟩:=x; exact ⟨_,e⟩
theorem pz {P:Program} {w:World} {H':Hp} {h h' B:Heap} (ok:HOk P w H' h) (hB:∀ b u,H' b=some u→∃ o,B.get? b=some o) (s1:B.StaysIn h) (s2:B.StaysIn h'):HOk P w H' h':=fun a o e=> by
 refine (ok a o e).stay (fun b u hb q=> ?_) (fun _ q=> q) fun _ _ q=> q
 have:∃ v,H' b=some v:=by
  rcases hb with z | z
  ·subst z; exact ⟨_,e⟩
  ·exact ⟨_,z⟩
 obtain ⟨v,hv⟩:=this
 obtain ⟨ob,hob⟩:=hB b v hv
 have:=s1 b ob hob
 rw [q] at this
 cases this
 exact s2 b _ hob
theorem qc {h base:Heap}:∀ {l:List Env},h.FunFrames base l→∀ b∈frs l,∀ o,h.get? b=some o→∀ vs,o.data≠.fields vs
 | [],_,b,hb,_,_=> absurd (show b∈([]:List Addr) from hb) (by simp)
 | env::r,⟨_,⟨L,o',hf,_,ho,hd⟩,hr⟩,b,hb,o,e=> by
  unfold frs at hb
  rw [List.filterMap_cons,hf] at hb
  rcases List.mem_cons.mp hb with z | z
  ·subst z; rw [ho] at e; cases e; exact hd
  ·exact qc hr b z o e
section
variable {P:Program} {w:World} {K:Frag} {mg:Str→Option Value} {base:Heap} {N:List Str} {qual:Str} {scope:Scope} {f:Addr} {cd:Value} {A:Around} {outer:List Env} {s:Shared} {H:Hp} {E:XK}
theorem ui {env:Env} {L:Addr} {l:List Env} (h:env.frame=some L):frs (env::l)=L::frs l:=by unfold frs; rw [List.filterMap_cons,h]
theorem mW {pins:List (Addr×Obj)} {σ:St} {H1 H':Hp} {s1:Shared} {B h1 h2:Heap} (I:Inv (dN (CXF P w) P w K mg base N qual scope f cd A outer s H E) pins σ H1 s1)
  (un:Un (frs (envOfC qual scope s.heap.objs.size f cd::outer)) [] H1 H' s1.heap h1)
  (k1:∀ b o,s1.heap.get? b=some o→b ∉ frs (envOfC qual scope s.heap.objs.size f cd::outer)→H1 b=none→B.get? b=some o) (k3:∀ b o,s1.heap.get? b=some o→b ∉ frs (envOfC qual scope s.heap.objs.size f cd::outer)→∃ o',B.get? b=some o')
  (st:B.StaysIn h2) (up:h1.UpToSlots h2):
  Un (frs outer) [] H H' s.heap h2∧(∀ b o,s.heap.get? b=some o→b ∉ frs outer→H b=none→B.get? b=some o)∧(∀ b o,s.heap.get? b=some o→b ∉ frs outer→∃ o',B.get? b=some o'):=by
 have ef:frs (envOfC qual scope s.heap.objs.size f cd::outer)=s.heap.objs.size::frs outer:=ui rfl
 rw [ef] at un k1 k3
 have ne:∀ b o,s.heap.get? b=some o→b ∉ frs outer→b ∉ s.heap.objs.size::frs outer:=fun b o e hb z=> by
  rcases List.mem_cons.mp z with y | y
  ·exact absurd (Heap.lt_size e) (by rw [y]; exact Nat.lt_irrefl _)
  ·exact hb y
 have ib:Un (frs outer) [] H H1 s.heap s1.heap:=I.base
 have K1:∀ b o,s.heap.get? b=some o→b ∉ frs outer→H b=none→B.get? b=some o:=fun b o e hb n=>
  k1 b o (ib.keep b o e n hb (by simp)) (ne b o e hb) (ib.free b o e n (by simp))
 have K3:∀ b o,s.heap.get? b=some o→b ∉ frs outer→∃ o',B.get? b=some o':=fun b o e hb=> by
  obtain ⟨o',e'⟩:=ib.there b o e (by simp)
  exact k3 b o' e' (ne b o e hb)
 have ffr:∀ b∈frs outer,∀ o,s.heap.get? b=some o→∀ vs,o.data≠.fields vs:=qc I.ok.funs
 have frf:∀ b∈frs outer,H b=none:=I.ok.frf
 refine ⟨⟨fun b o e n hb _=> st b o (K1 b o e hb n),fun b o e n hb hx=> ?_,fun b o e n hx=> ?_,fun b o e hx=> ?_,fun b xs e=> un.tups b xs (ib.tups b xs e),fun b o u e=> un.frzs b o u (ib.frzs b o u e),fun b ps e=> ?_⟩,K1,K3⟩
 ·obtain ⟨sl,e1⟩:=ib.slot b o e n hb hx
  obtain ⟨sl2,e2⟩:=un.slot b _ e1 (ib.free b o e n hx) (List.mem_cons_of_mem _ hb) hx
  obtain ⟨sl3,e3⟩:=up b _ e2 (ffr b hb o e)
  exact ⟨sl3,e3⟩
 ·obtain ⟨o',e1⟩:=ib.there b o e hx
  exact un.free b o' e1 (ib.free b o e n hx) hx
 ·by_cases hb:b∈frs outer
  ·obtain ⟨sl,e1⟩:=ib.slot b o e (frf b hb) hb hx
   obtain ⟨sl2,e2⟩:=un.slot b _ e1 (ib.free b o e (frf b hb) hx) (List.mem_cons_of_mem _ hb) hx
   obtain ⟨sl3,e3⟩:=up b _ e2 (ffr b hb o e)
   exact ⟨_,e3⟩
  ·obtain ⟨o',e'⟩:=K3 b o e hb
   exact ⟨o',st b o' e'⟩
 ·obtain ⟨m1,e1⟩:=ib.tbls b ps e
  obtain ⟨m2,e2⟩:=un.tbls b _ e1
  exact ⟨m1++m2,by rw [e2,Array.append_assoc]⟩
theorem vF:fA (CXF P w) (dN (CXF P w) P w K mg base N qual scope f cd A outer s H E) E:=by
 intro pins σ H1 s1 e s' I hcx
 obtain ⟨ea,cls,a0,B,H',rfl,os,bare,un,hok,hea,k1,k2,k3,fl,hE⟩:=hcx
 show wpAny _ _ (leaving (envOfC qual scope s.heap.objs.size f cd) (.ref ea)) _ _ s'
 refine wpAny_leaves_onW (L:=s.heap.objs.size) I.ok.frames rfl fl fun h2 fl2 up=> ?_
 obtain ⟨u,K1,K3⟩:=mW I un k1 k3 fl2.1 up
 exact ⟨ea,cls,a0,B,H',rfl,os.trans I.os,bare,u,pz hok k2 fl.1 fl2.1,hea,K1,k2,K3,fl2,hE⟩
def ze (E:XK) (C:Addr) (te:TE):TS:=fun _ σ H=> te σ H fun _ H1=> E (.ref C) none H1
theorem u8 {x:Str} {C:Addr} {e0:Expr} {te:TE} {np cpos pos:Pos} (hex:excIn K C [.type "ValueError",.type "Exception",.type "BaseException",.type "object"] "ValueError.__new__"=true)
  (hg:Gl (dN (CXF P w) P w K mg base N qual scope f cd A outer s H E) x) (hm:mg x=some (.ref C)) (he:PE (dN (CXF P w) P w K mg base N qual scope f cd A outer s H E) e0 te)
  (hst:starEach [e0] (dN (CXF P w) P w K mg base N qual scope f cd A outer s H E).env=[(false,eval e0 (dN (CXF P w) P w K mg base N qual scope f cd A outer s H E).env)]:=by rfl) (hd:(x==("__debug__":Str))=false:=by decide):
  PS (dN (CXF P w) P w K mg base N qual scope f cd A outer s H E) (.Raise (some (.Call (.Name x np) [e0] [] cpos)) none pos) (ze E C te):=by
 intro pins s1 σ H1 D I h
 have O:=vX I.ok.mod.kin hm hex
 obtain ⟨tl,NN,nm,q,bs,hdct,sn,sub,ab,col,dd,k0,k1,k2,k3,k5,mN,hC,hN,hni,T⟩:=O.obj
 have hpl:(backTo cpos (starEach [e0] (dN (CXF P w) P w K mg base N qual scope f cd A outer s H E).env)).any (·.1)=false:=by rw [hst]; rfl
 refine wpAny_Raise_call_subT (C:=C) (nm:=nm) (q:=q) (N:=NN) (bs:=bs) (bm:=tl) (hdct:=hdct) (sn:=sn) (sub:=sub) (ab:=ab) (col:=col) (dd:=dd) (k0:=k0) (k1:=k1) (k2:=k2) (k3:=k3) (k5:=k5)
  PySem.F.excBase_ValueError (mN:=mN) (T.hasType PySem.F.excBase_ValueError.hasBase) (I.ok.hd rfl) hpl hni (qw I hg hm ⟨rfl,?_⟩ hd)
 rw [hst]
 refine Calls.evalArgs_plain ?_
 show wpAny _ _ (spliced ((false,eval e0 _)::backTo cpos [])) _ _ s1
 refine Calls.spliced_cons (thn (he pins s1 σ H1 _ I h) fun v s2 ⟨y,H2,I2,r2,hE⟩=> Calls.spliced_nil ⟨rfl,by show 1≤sizeLine; decide,I2.bk _ _ hC,hN.keeps I2.bk,T.keeps I2.bk,fun h' e hx=> ?_⟩)
 show wpAny _ _ (leaving (envOfC qual scope s.heap.objs.size f cd) (.ref e)) _ _ { s2 with heap:=h' }
 have stk:s2.heap.FunFrames base (envOfC qual scope s.heap.objs.size f cd::outer):=I2.stack
 refine wpAny_leaves_madeW (base:=hideAll s2.heap (frs (envOfC qual scope s.heap.objs.size f cd::outer))) (h:=s2.heap) (L:=s.heap.objs.size) I2.ok.frames rfl (fun b o q=> of_hideAll _ q)
  (funFrames_hide stk fun env he b hb=> List.mem_filterMap.mpr ⟨env,he,hb⟩) hx fun h2 t fl _ _ up=> ?_
 have k2':∀ b u,H2 b=some u→∃ o,(hideAll s2.heap (frs (envOfC qual scope s.heap.objs.size f cd::outer))).get? b=some o:=fun b u e=> by
  obtain ⟨ob,hob⟩:=j5 (I2.hok b u e)
  exact ⟨ob,hideAll_get _ hob fun z=> by have:=I2.stkFree b z; rw [e] at this; cases this⟩
 obtain ⟨u,K1,K3⟩:=mW (h1:=h') I2 (Un.kept hx.keeps) (fun b o e hb _=> hideAll_get _ e hb) (fun b o e hb=> ⟨o,hideAll_get _ e hb⟩) fl.1 up
 refine ⟨e,.ref C,.ref t,_,H2,rfl,I2.os,I2.bare,u,pz (h:=s2.heap) I2.hok k2' (fun b o q=> of_hideAll _ q) fl.1,?_,K1,k2',K3,fl,hE⟩
 cases z:H2 e with
 | none=> rfl
 | some u=>
  obtain ⟨ob,hob⟩:=j5 (I2.hok e u z)
  rw [hx.new] at hob; cases hob
end
theorem Fun.okF {P:Program} {w:World} {K:Frag} {mg:Str→Option Value} {base:Heap} {x qual:Str} {st:Stmt} {f:Addr} {fd:FuncData} {N ps:List Str} {k:Nat} {sp:Sp} (F:Fun K x qual st f fd) (S:av N ps (ai st)) (len:∀ vs H Q E,sp vs H Q E→vs.length=ps.length)
  (hbody:∀ (cdv:Value) (A:Around) (outer:List Env) (s:Shared) (H:Hp) (vs:List V) (Q:VK) (E:XK),dJ k (A.deeper (envOfC qual (ai st) s.heap.objs.size f cdv))→sp vs H Q E→
   ∃ t,PSs (dN (CXF P w) P w K mg base N qual (ai st) f cdv A outer s H E) (aq st) t∧t { nx:=fun _ H'=> Q .non H',rt:=Q } (start N vs) H):bh P w K mg base (CXF P w) (k+1) f fd ps sp:=by
 obtain ⟨oc,od,kV,doc,pm,an,cdv,ct,osl,rfl,lk,hcd⟩:=F.ex
 exact xx lk hcd S len fun A outer s H vs Q E hr hsp=> hbody cdv A outer s H vs Q E hr hsp
end L2
namespace L2
open PySem PySem.Spec PySem.W PyProof.Rows
section
variable {X:Cx} {pins:List (Addr×Obj)} {σ:St} {H:Hp} {s:Shared}
end
section
variable {X:Cx}
end
end L2
namespace L2
open PySem PySem.Spec PyProof.Rows
theorem kC {n:Nat} {e:Nat→Bool}:(List.range n).all e=true↔∀ j,j < n→e j=true:=by
 rw [List.all_eq_true]
 exact ⟨fun h j hj=> h j (List.mem_range.mpr hj),fun h j hj=> h j (List.mem_range.mp hj)⟩
section
variable {X:Cx}
end
end L2
namespace PySem.W
open PySem PySem.Spec PySem.Calls PyProof.Rows PySem.Builtin PySem.Builtin.ObjectAttr PySem.Builtin.Getset_descriptor
section
variable {prog:Program} {w:World} {A:Around} {E:Value→Shared→Prop} {s:Shared} {K:Frag} {x C:Addr}
def OfCls (x C:Addr) (h:Heap):Prop:=∃ o,h.get? x=some o∧o.cls=.ref C
variable (hga:findIn K (.ref C) "__getattribute__"=some (some (.builtin "BaseException.__getattribute__"))) (hgn:findIn K (.ref C) "__getattr__"=some none) (ha:findIn K (.ref C) "__class__"=some (some (.builtin "object.__class__")))
 (hn:specialIn K (.builtin "object.__class__") "__get__"=some (some (.builtin "getset_descriptor.__get__"))) (htk:takesIn K (.builtin "object.__class__")=some true) (hm:mroIn K C (.type "object")=some true) (hmB:mroIn K C (.type "BaseException")=some true)
include ha hn htk hm in
end
structure XcOk (K:Frag) (C:Addr):Prop where
 ga:findIn K (.ref C) "__getattribute__"=some (some (.builtin "BaseException.__getattribute__"))
 gn:findIn K (.ref C) "__getattr__"=some none
 at_:findIn K (.ref C) "__class__"=some (some (.builtin "object.__class__"))
 sp:specialIn K (.builtin "object.__class__") "__get__"=some (some (.builtin "getset_descriptor.__get__"))
 tk:takesIn K (.builtin "object.__class__")=some true
 mo:mroIn K C (.type "object")=some true
 mb:mroIn K C (.type "BaseException")=some true
theorem XcOk.off {x C:Addr} {h:Heap} {o:Obj} {T:String} (I:OfCls x C h) (e:h.get? x=some o) (c:o.cls=.type T):False:=by
 obtain ⟨o',e',c'⟩:=I
 rw [e] at e'; cases e'
 rw [c] at c'; cases c'
end PySem.W
namespace L2
open PySem PySem.Spec PyProof.Rows
inductive TyX where
 | nm (n:String) | xc (C:Addr)
inductive U where
 | non | bl (b:Bool) | int (i:Int) | str (x:Str) | ty (n:TyX) | dic | scr (xs:List U) | tup (xs:List U) | lst (xs:List U)
def U.items:U→Option (List U)
 | .scr xs=> some xs
 | .tup xs=> some xs
 | .lst xs=> some xs
 | _=> none
def hid (H:Hp) (O:List Addr):Hp:=fun b=> if b∈O then none else H b
theorem gf {H:Hp} {O:List Addr} {b:Addr} {o:HO} (h:hid H O b=some o):H b=some o∧b ∉ O:=by
 unfold hid at h
 split at h
 ·cases h
 ·exact ⟨h,by assumption⟩
theorem dH {H:Hp} {O:List Addr} {b:Addr} {o:HO} (h:H b=some o) (n:b ∉ O):hid H O b=some o:=by
 unfold hid; rw [if_neg n]; exact h
theorem ay {H:Hp} {O:List Addr}:aI (hid H O) H:=fun _ _ h=> (gf h).1
theorem bD {H H':Hp} {O:List Addr} (e:aI H H'):aI (hid H O) (hid H' O):=fun _ _ h=> dH (e _ _ (gf h).1) (gf h).2
theorem d8 {H:Hp} {O O':List Addr} (e:∀ a∈O',a∈O):aI (hid H O) (hid H O'):=fun _ _ h=> dH (gf h).1 fun z=> (gf h).2 (e _ z)
theorem bX {H H':Hp} {O:List Addr} {a:Addr} (e:aI H H') (n:H a=none):aI (hid H O) (hid H' (a::O)):=fun b o h=> by
 obtain ⟨h1,h2⟩:=gf h
 refine dH (e _ _ h1) fun z=> ?_
 rcases List.mem_cons.mp z with y | y
 ·subst y; rw [n] at h1; cases h1
 ·exact h2 y
theorem kW {H:Hp} {O:List Addr} {a:Addr} {o:HO} (h:a∈O):hid (upd H a o) O=hid H O:=by
 funext b
 unfold hid
 split
 ·rfl
 ·rename_i n
  rw [be fun e=> n (by rw [e]; exact h)]
inductive Rp (K:PySem.W.Frag) (H:Hp):V→U→Prop where
 | non:Rp K H .non .non
 | bl (b:Bool):Rp K H (.bl b) (.bl b)
 | int (i:Int):Rp K H (.int i) (.int i)
 | str (x:Str):Rp K H (.str x) (.str x)
 | ty (n:String):Rp K H (.ty n) (.ty (.nm n))
 | dic {a:Addr} {kvs:List (Key×V)} (h:H a=some (.dK kvs)):Rp K H (.ref a) .dic
 | xc {a C:Addr} (h:H a=some (.ext (PySem.W.OfCls a C))) (k:PySem.W.XcOk K C):Rp K H (.ref a) (.ty (.xc C))
 | scr {a:Addr} {vs:List V} {xs:List U} (h:SqL K H a vs) (hl:vs.length=xs.length) (hi:∀ (i:Nat) (v:V) (x:U),vs[i]?=some v→xs[i]?=some x→Rp K H v x):Rp K H (.ref a) (.scr xs)
 | tup {a:Addr} {vs:List V} {xs:List U} (h:SqT K H a vs) (hl:vs.length=xs.length) (hi:∀ (i:Nat) (v:V) (x:U),vs[i]?=some v→xs[i]?=some x→Rp K H v x):Rp K H (.ref a) (.tup xs)
 | lst {a:Addr} {vs:List V} {xs:List U} (h:H a=some (.lst vs)) (hl:vs.length=xs.length) (hi:∀ (i:Nat) (v:V) (x:U),vs[i]?=some v→xs[i]?=some x→Rp K H v x):Rp K H (.ref a) (.lst xs)
theorem Rp.same {K:PySem.W.Frag} {H H':Hp} {v:V} {u:U} (e:aI H H') (h:Rp K H v u):Rp K H' v u:=by
 induction h with
 | non=> exact .non
 | bl b=> exact .bl b
 | int i=> exact .int i
 | str x=> exact .str x
 | ty n=> exact .ty n
 | dic h=> exact .dic (e _ _ h)
 | xc h k=> exact .xc (e _ _ h) k
 | scr h hl hi ih=> exact .scr (e.seq h) hl ih
 | tup h hl hi ih=> exact .tup (e.tup h) hl ih
 | lst h hl hi ih=> exact .lst (e _ _ h) hl ih
structure Rps (K:PySem.W.Frag) (H:Hp) (vs:List V) (xs:List U):Prop where
 len:vs.length=xs.length
 at_:∀ (i:Nat) (v:V) (x:U),vs[i]?=some v→xs[i]?=some x→Rp K H v x
theorem Rps.same {K:PySem.W.Frag} {H H':Hp} {vs:List V} {xs:List U} (e:aI H H') (h:Rps K H vs xs):Rps K H' vs xs:=⟨h.len,fun i v x a b=> (h.at_ i v x a b).same e⟩
theorem Rps.nil {K:PySem.W.Frag} {H:Hp}:Rps K H [] []:=⟨rfl,fun i v x h=> by simp at h⟩
theorem Rps.cons {K:PySem.W.Frag} {H:Hp} {v:V} {x:U} {vs:List V} {xs:List U} (h:Rp K H v x) (t:Rps K H vs xs):Rps K H (v::vs) (x::xs):=by
 refine ⟨by simp [t.len],fun i a b h1 h2=> ?_⟩
 cases i with
 | zero=> simp at h1 h2; subst h1; subst h2; exact h
 | succ i=> exact t.at_ i a b (by simpa using h1) (by simpa using h2)
theorem Rps.snoc {K:PySem.W.Frag} {H:Hp} {vs ws:List V} {xs ys:List U} (h:Rps K H vs xs) (t:Rps K H ws ys):Rps K H (vs++ws) (xs++ys):=by
 refine ⟨by simp [h.len,t.len],fun i a b h1 h2=> ?_⟩
 by_cases hi:i < vs.length
 ·rw [List.getElem?_append_left hi] at h1
  rw [List.getElem?_append_left (by rw [← h.len]; exact hi)] at h2
  exact h.at_ i a b h1 h2
 ·have hle:vs.length≤i:=Nat.le_of_not_lt hi
  rw [List.getElem?_append_right hle] at h1
  rw [List.getElem?_append_right (by rw [← h.len]; exact hle),← h.len] at h2
  exact t.at_ _ a b h1 h2
theorem Rps.get {K:PySem.W.Frag} {H:Hp} {vs:List V} {xs:List U} {i:Nat} {x:U} (h:Rps K H vs xs) (e:xs[i]?=some x):∃ v,vs[i]?=some v∧Rp K H v x:=by
 have hi:i < vs.length:=by rw [h.len]; exact (List.getElem?_eq_some_iff.mp e).1
 exact ⟨vs[i],List.getElem?_eq_getElem hi,h.at_ i _ x (List.getElem?_eq_getElem hi) e⟩
theorem Rps.atI {K:PySem.W.Frag} {H:Hp} {vs:List V} {xs:List U} {i:Int} {x:U} (h:Rps K H vs xs) (e:L2.atI xs i=some x):∃ v,L2.atI vs i=some v∧Rp K H v x:=by
 unfold L2.atI at e ⊢
 rw [h.len]
 cases q:ixN xs.length i with
 | none=> rw [q] at e; cases e
 | some j=>
  rw [q] at e
  obtain ⟨v,h1,h2⟩:=h.get (show xs[j]?=some x from e)
  exact ⟨v,h1,h2⟩
theorem Rps.cons_inv {K:PySem.W.Frag} {H:Hp} {vs:List V} {x:U} {xs:List U} (h:Rps K H vs (x::xs)):∃ v ws,vs=v::ws∧Rp K H v x∧Rps K H ws xs:=by
 cases vs with
 | nil=> have:=h.len; simp at this
 | cons v ws=>
  refine ⟨v,ws,rfl,h.at_ 0 v x rfl rfl,by have:=h.len; simpa using this,fun i a b h1 h2=> h.at_ (i+1) a b (by simpa using h1) (by simpa using h2)⟩
theorem Rps.nil_inv {K:PySem.W.Frag} {H:Hp} {vs:List V} (h:Rps K H vs []):vs=[]:=List.length_eq_zero_iff.mp (by rw [h.len]; rfl)
inductive Sl where
 | val (u:U) | own (xs:List U)
abbrev PSt:=List (Option Sl)
def vW (K:PySem.W.Frag) (H:Hp) (O O0:List Addr) (v:V):Sl→Prop
 | .val u=> Rp K (hid H O) v u
 | .own xs=> ∃ a vs,v=.ref a∧a∈O∧a ∉ O0∧H a=some (.lst vs)∧Rps K (hid H O) vs xs
structure Rs (K:PySem.W.Frag) (H0:Hp) (O0:List Addr) (ps:PSt) (σ:St) (H:Hp) (O:List Addr):Prop where
 same:aI H0 H
 old:∀ a∈O0,a∈O
 new:∀ a∈O,a∈O0∨H0 a=none
 dom:∀ a∈O,H a≠none
 len:σ.length=ps.length
 at_:∀ (i:Nat) (s:Sl),ps[i]?=some (some s)→∃ v,σ[i]?=some (some v)∧vW K H O O0 v s
 inj:∀ (i j:Nat) (xs ys:List U) (a:Addr),ps[i]?=some (some (.own xs))→ps[j]?=some (some (.own ys))→σ[i]?=some (some (.ref a))→σ[j]?=some (some (.ref a))→i=j
section
variable {K:PySem.W.Frag} {H0 H H':Hp} {O0 O:List Addr} {ps:PSt} {σ:St}
theorem vW.same {v:V} {s:Sl} (e:aI H H') (h:vW K H O O0 v s):vW K H' O O0 v s:=by
 cases s with
 | val u=> exact Rp.same (bD e) h
 | own xs=> obtain ⟨a,vs,h1,h2,h3,h4,h5⟩:=h; exact ⟨a,vs,h1,h2,h3,e _ _ h4,h5.same (bD e)⟩
theorem Rs.go (R:Rs K H0 O0 ps σ H O) (e:aI H H'):Rs K H0 O0 ps σ H' O:=
 ⟨R.same.trans e,R.old,R.new,fun a ha z=> R.dom a ha (e.free z),R.len,fun i s h=> let ⟨v,h1,h2⟩:=R.at_ i s h; ⟨v,h1,h2.same e⟩,R.inj⟩
theorem eL {α:Type} {xs:List α} {i j:Nat} {y x:α} (h:(xs.set i y)[j]?=some x):(i=j∧x=y)∨(i≠j∧xs[j]?=some x):=by
 by_cases e:i=j
 ·subst e
  rw [List.getElem?_set] at h
  simp at h
  exact .inl ⟨rfl,h.2.symm⟩
 ·rw [List.getElem?_set_ne e] at h
  exact .inr ⟨e,h⟩
theorem gG {α:Type} {xs:List α} {i:Nat} {y:α} (h:i < xs.length):(xs.set i y)[i]?=some y:=by rw [List.getElem?_set]; simp [h]
theorem aP {α:Type} {xs:List α} {i:Nat} {y:α} (h:xs[i]?=some y):i < xs.length:=(List.getElem?_eq_some_iff.mp h).1
theorem jP {i:Nat} {u:U} {j:Nat} {xs:List U} (h:(ps.set i (some (.val u)))[j]?=some (some (.own xs))):i≠j∧ps[j]?=some (some (.own xs)):=by
 rcases eL h with ⟨_,e⟩ | h
 ·cases e
 ·exact h
theorem Rs.set {i:Nat} {v:V} {u:U} (R:Rs K H0 O0 ps σ H O) (r:Rp K (hid H O) v u):Rs K H0 O0 (ps.set i (some (.val u))) (σ.set i (some v)) H O:=by
 refine ⟨R.same,R.old,R.new,R.dom,by simp [R.len],fun j s h=> ?_,fun j k xs ys a h1 h2 h3 h4=> ?_⟩
 ·rcases eL h with ⟨e,q⟩ | ⟨n,q⟩
  ·subst e
   cases q
   have hi:=aP h
   rw [List.length_set] at hi
   exact ⟨v,gG (by rw [R.len]; exact hi),r⟩
  ·obtain ⟨w,h1,h2⟩:=R.at_ j s q
   exact ⟨w,by rw [List.getElem?_set_ne n]; exact h1,h2⟩
 ·obtain ⟨n1,q1⟩:=jP h1
  obtain ⟨n2,q2⟩:=jP h2
  rw [List.getElem?_set_ne n1] at h3
  rw [List.getElem?_set_ne n2] at h4
  exact R.inj j k xs ys a q1 q2 h3 h4
theorem Rs.drop {i:Nat} {o:Option V} (R:Rs K H0 O0 ps σ H O):Rs K H0 O0 (ps.set i none) (σ.set i o) H O:=by
 have key:∀ {j:Nat} {s:Sl},(ps.set i none)[j]?=some (some s)→i≠j∧ps[j]?=some (some s):=fun {j s} h=> by
  rcases eL h with ⟨_,e⟩ | h
  ·cases e
  ·exact h
 refine ⟨R.same,R.old,R.new,R.dom,by simp [R.len],fun j s h=> ?_,fun j k xs ys a h1 h2 h3 h4=> ?_⟩
 ·obtain ⟨n,q⟩:=key h
  obtain ⟨w,h1,h2⟩:=R.at_ j s q
  exact ⟨w,by rw [List.getElem?_set_ne n]; exact h1,h2⟩
 ·obtain ⟨n1,q1⟩:=key h1
  obtain ⟨n2,q2⟩:=key h2
  rw [List.getElem?_set_ne n1] at h3
  rw [List.getElem?_set_ne n2] at h4
  exact R.inj j k xs ys a q1 q2 h3 h4
theorem Rs.own {i:Nat} {a:Addr} {vs:List V} {xs:List U} (R:Rs K H0 O0 ps σ H O) (e:aI H H') (n:H a=none) (h:H' a=some (.lst vs)) (r:Rps K (hid H' (a::O)) vs xs):
  Rs K H0 O0 (ps.set i (some (.own xs))) (σ.set i (some (.ref a))) H' (a::O):=by
 have na:a ∉ O:=fun z=> R.dom a z n
 have na0:a ∉ O0:=fun z=> na (R.old a z)
 have n0:H0 a=none:=R.same.free n
 have noref:∀ (j:Nat) (ys:List U),ps[j]?=some (some (.own ys))→σ[j]?≠some (some (.ref a)):=fun j ys h1 h2=> by
  obtain ⟨v,h3,b,ws,h4,h5,_⟩:=R.at_ j _ h1
  rw [h2] at h3
  cases h3
  cases h4
  exact na h5
 refine ⟨R.same.trans e,fun b hb=> List.mem_cons_of_mem _ (R.old b hb),fun b hb=> ?_,fun b hb z=> ?_,by simp [R.len],fun j s q=> ?_,fun j k ys zs b h1 h2 h3 h4=> ?_⟩
 ·rcases List.mem_cons.mp hb with y | y
  ·subst y; exact .inr n0
  ·exact R.new b y
 ·rcases List.mem_cons.mp hb with y | y
  ·subst y; rw [h] at z; cases z
  ·exact R.dom b y (e.free z)
 ·rcases eL q with ⟨e',q'⟩ | ⟨ne,q'⟩
  ·subst e'
   cases q'
   have hi:=aP q
   rw [List.length_set] at hi
   exact ⟨.ref a,gG (by rw [R.len]; exact hi),a,vs,rfl,List.mem_cons_self,na0,h,r⟩
  ·obtain ⟨w,h1,h2⟩:=R.at_ j s q'
   refine ⟨w,by rw [List.getElem?_set_ne ne]; exact h1,?_⟩
   cases s with
   | val u=> exact Rp.same (bX e n) h2
   | own ys=>
    obtain ⟨b,ws,k1,k2,k3,k4,k5⟩:=h2
    exact ⟨b,ws,k1,List.mem_cons_of_mem _ k2,k3,e _ _ k4,k5.same (bX e n)⟩
 ·rcases eL h1 with ⟨e1,q1⟩ | ⟨n1,q1⟩ <;> rcases eL h2 with ⟨e2,q2⟩ | ⟨n2,q2⟩
  ·rw [← e1,← e2]
  ·subst e1
   have hi:=aP h3
   rw [List.length_set] at hi
   rw [gG hi] at h3
   cases h3
   rw [List.getElem?_set_ne n2] at h4
   exact absurd h4 (noref k zs q2)
  ·subst e2
   have hi:=aP h4
   rw [List.length_set] at hi
   rw [gG hi] at h4
   cases h4
   rw [List.getElem?_set_ne n1] at h3
   exact absurd h3 (noref j ys q1)
  ·rw [List.getElem?_set_ne n1] at h3
   rw [List.getElem?_set_ne n2] at h4
   exact R.inj j k ys zs b q1 q2 h3 h4
theorem Rs.write {i:Nat} {a:Addr} {vs:List V} {xs ys:List U} (R:Rs K H0 O0 ps σ H O) (hp:ps[i]?=some (some (.own xs))) (hs:σ[i]?=some (some (.ref a))) (r:Rps K (hid H O) vs ys):
  Rs K H0 O0 (ps.set i (some (.own ys))) σ (upd H a (.lst vs)) O:=by
 obtain ⟨v,h1,b,ws,h2,h3,h4,h5,h6⟩:=R.at_ i _ hp
 rw [hs] at h1
 cases h1
 cases h2
 have h0:H0 a=none:=(R.new a h3).resolve_left h4
 have eh:hid (upd H a (.lst vs)) O=hid H O:=kW h3
 refine ⟨R.same.put h0 _,R.old,R.new,fun b hb z=> ?_,by simp [R.len],fun j s q=> ?_,fun j k zs us b q1 q2 q3 q4=> ?_⟩
 ·by_cases e:b=a
  ·subst e; rw [aX] at z; cases z
  ·rw [be e] at z; exact R.dom b hb z
 ·rcases eL q with ⟨e',q'⟩ | ⟨ne,q'⟩
  ·subst e'
   cases q'
   exact ⟨.ref a,hs,a,vs,rfl,h3,h4,aX,by rw [eh]; exact r⟩
  ·obtain ⟨w,k1,k2⟩:=R.at_ j s q'
   refine ⟨w,k1,?_⟩
   cases s with
   | val u=> exact (show Rp K (hid (upd H a (.lst vs)) O) w u by rw [eh]; exact k2)
   | own zs=>
    obtain ⟨b,us,e1,e2,e3,e4,e5⟩:=k2
    subst e1
    have:b≠a:=fun z=> by subst z; exact ne (R.inj i j xs zs b hp q' hs k1)
    exact ⟨b,us,rfl,e2,e3,by rw [be this]; exact e4,by rw [eh]; exact e5⟩
 ·have c1:∃ zs',ps[j]?=some (some (.own zs')):=by
   rcases eL q1 with ⟨e,_⟩ | ⟨_,z⟩
   ·subst e; exact ⟨_,hp⟩
   ·exact ⟨_,z⟩
  have c2:∃ zs',ps[k]?=some (some (.own zs')):=by
   rcases eL q2 with ⟨e,_⟩ | ⟨_,z⟩
   ·subst e; exact ⟨_,hp⟩
   ·exact ⟨_,z⟩
  obtain ⟨_,c1⟩:=c1
  obtain ⟨_,c2⟩:=c2
  exact R.inj j k _ _ b c1 c2 q3 q4
def SubP:PSt→PSt→Prop
 | [],[]=> True
 | none::p,_::q=> SubP p q
 | some s::p,t::q=> t=some s∧SubP p q
 | _,_=> False
theorem SubP.at_:∀ {p q:PSt},SubP p q→p.length=q.length∧∀ (i:Nat) (s:Sl),p[i]?=some (some s)→q[i]?=some (some s)
 | [],[],_=> ⟨rfl,fun i s h=> by simp at h⟩
 | none::p,t::q,h=> by
  obtain ⟨h1,h2⟩:=SubP.at_ (p:=p) (q:=q) h
  refine ⟨by simp [h1],fun i s e=> ?_⟩
  cases i with
  | zero=> simp at e
  | succ i=> exact h2 i s (by simpa using e)
 | some s0::p,t::q,h=> by
  obtain ⟨h0,h⟩:=h
  obtain ⟨h1,h2⟩:=SubP.at_ (p:=p) (q:=q) h
  refine ⟨by simp [h1],fun i s e=> ?_⟩
  cases i with
  | zero=> simp at e; subst e; rw [h0]; rfl
  | succ i=> exact h2 i s (by simpa using e)
 | [],_::_,h=> h.elim
 | none::_,[],h=> h.elim
 | some _::_,[],h=> h.elim
theorem Rs.sub {ps':PSt} (R:Rs K H0 O0 ps σ H O) (h:SubP ps' ps):Rs K H0 O0 ps' σ H O:=by
 obtain ⟨h1,h2⟩:=h.at_
 exact ⟨R.same,R.old,R.new,R.dom,R.len.trans h1.symm,fun i s e=> R.at_ i s (h2 i s e),fun i j xs ys a e1 e2=> R.inj i j xs ys a (h2 _ _ e1) (h2 _ _ e2)⟩
end
def Ev (X:Cx) (H0:Hp) (O0:List Addr) (ps:PSt) (e:Expr) (u:U):Prop:=
 PE X e fun σ H Q=> ∃ O,Rs X.K H0 O0 ps σ H O∧∀ v H',aI H H'→Rp X.K (hid H' O) v u→Q v H'
def EvN (X:Cx) (H0:Hp) (O0:List Addr) (ps:PSt) (e:Expr) (xs:List U):Prop:=
 PE X e fun σ H Q=> ∃ O,Rs X.K H0 O0 ps σ H O∧∀ a vs H',aI H H'→H a=none→H' a=some (.lst vs)→Rps X.K (hid H' (a::O)) vs xs→Q (.ref a) H'
def Tt (X:Cx) (H0:Hp) (O0:List Addr) (ps:PSt) (e:Expr) (b:Bool):Prop:=
 PT X e fun σ H Q=> ∃ O,Rs X.K H0 O0 ps σ H O∧∀ H',aI H H'→Q b H'
def Tw (X:Cx) (H0:Hp) (O0:List Addr) (ps:PSt) (e:Expr) (b:Bool):Prop:=
 PW X e fun σ H Q=> ∃ O,Rs X.K H0 O0 ps σ H O∧∀ H',aI H H'→Q b H'
def EvA (X:Cx) (H0:Hp) (O0:List Addr) (ps:PSt) (es:List Expr) (us:List U):Prop:=
 PA X es fun σ H Q=> ∃ O,Rs X.K H0 O0 ps σ H O∧∀ vs H',aI H H'→Rps X.K (hid H' O) vs us→Q vs H'
theorem PE.mono {X:Cx} {e:Expr} {t t':TE} (h:PE X e t) (m:∀ σ H Q,t' σ H Q→t σ H Q):PE X e t':=fun pins s σ H Q I q=> h pins s σ H Q I (m σ H Q q)
theorem PT.mono {X:Cx} {e:Expr} {t t':TT} (h:PT X e t) (m:∀ σ H Q,t' σ H Q→t σ H Q):PT X e t':=fun pins s σ H Q I q=> h pins s σ H Q I (m σ H Q q)
theorem PW.mono {X:Cx} {e:Expr} {t t':TT} (h:PW X e t) (m:∀ σ H Q,t' σ H Q→t σ H Q):PW X e t':=fun wh pins s σ H Q I q=> h wh pins s σ H Q I (m σ H Q q)
theorem PA.mono {X:Cx} {e:List Expr} {t t':TA} (h:PA X e t) (m:∀ σ H Q,t' σ H Q→t σ H Q):PA X e t':=fun pos pins s σ H Q I q=> h pos pins s σ H Q I (m σ H Q q)
theorem PS.mono {X:Cx} {e:Stmt} {t t':TS} (h:PS X e t) (m:∀ D σ H,t' D σ H→t D σ H):PS X e t':=fun pins s σ H D I q=> h pins s σ H D I (m D σ H q)
theorem PSs.mono {X:Cx} {e:List Stmt} {t t':TS} (h:PSs X e t) (m:∀ D σ H,t' D σ H→t D σ H):PSs X e t':=fun pins s σ H D I q=> h pins s σ H D I (m D σ H q)
section
variable {X:Cx} {H0:Hp} {O0:List Addr} {ps:PSt} {a b c e:Expr} {es:List Expr} {pos p:Pos} {u x y:U} {xs ys us:List U} {i j:Int}
theorem EvN.ev (h:EvN X H0 O0 ps e xs):Ev X H0 O0 ps e (.lst xs):=PE.mono h fun σ H Q ⟨O,R,k⟩=> ⟨O,R,fun a vs H' s n h r=> by
 have na:a ∉ O:=fun z=> R.dom a z n
 have less:aI (hid H' (a::O)) (hid H' O):=d8 fun b hb=> List.mem_cons_of_mem _ hb
 exact k _ H' s (.lst (dH h na) (r.same less).len (r.same less).at_)⟩
theorem aa (i:Nat) {x:Str} {u:U} (h:ps[i]?=some (some (.val u))) (hN:X.N[i]?=some x:=by rfl) (hv:Vis X.env.scope x:=by first | exact Or.inl rfl | exact Or.inr (Or.inl rfl) | exact Or.inr (Or.inr rfl)) (hd:(x==("__debug__":Str))=false:=by decide)
  (hcd:(x==("__classdict__":Str))=false:=by decide):Ev X H0 O0 ps (.Name x pos) u:=PE.mono (g7 hN hv hd hcd) fun σ H Q ⟨O,R,k⟩=> by
 obtain ⟨v,h1,h2⟩:=R.at_ i _ h
 exact ⟨v,h1,k v H (.refl H) h2⟩
theorem ah {i j pos}:Ev X H0 O0 ps (.Constant (.int i) j pos) (.int i):=PE.mono x_ fun _ H _ ⟨_,_,k⟩=> k _ H (.refl H) (.int i)
theorem iz {i j pos}:Ev X H0 O0 ps (.Constant (.bool i) j pos) (.bl i):=PE.mono z8 fun _ H _ ⟨_,_,k⟩=> k _ H (.refl H) (.bl i)
theorem xF {i j pos}:Ev X H0 O0 ps (.Constant (.str i) j pos) (.str i):=PE.mono yd fun _ H _ ⟨_,_,k⟩=> k _ H (.refl H) (.str i)
theorem dk {x:Str} {n:String} {pos:Pos} (hg:Gl X x) (hm:X.mg x=none) (hv:bootBuiltins x=some (.type n)) (hn:x≠"__name__":=by decide) (hd:(x==("__debug__":Str))=false:=by decide):Ev X H0 O0 ps (.Name x pos) (.ty (.nm n)):=
 PE.mono (zF hg hm hv hn hd) fun _ H _ ⟨_,_,k⟩=> k _ H (.refl H) (.ty n)
theorem two {ta tb:TE} {σ:St} {H:Hp} {Q:VK} {O:List Addr} {r:R2} (R:Rs X.K H0 O0 ps σ H O)
  (ha:∀ σ H Q,(∃ O,Rs X.K H0 O0 ps σ H O∧∀ v H',aI H H'→Rp X.K (hid H' O) v x→Q v H')→ta σ H Q) (hb:∀ σ H Q,(∃ O,Rs X.K H0 O0 ps σ H O∧∀ v H',aI H H'→Rp X.K (hid H' O) v y→Q v H')→tb σ H Q)
  (h:∀ v w H',aI H H'→Rs X.K H0 O0 ps σ H' O→Rp X.K (hid H' O) v x→Rp X.K (hid H' O) w y→r v w H' Q):tOp r ta tb σ H Q:=
 ha σ H _ ⟨O,R,fun v H1 s1 r1=> hb σ H1 _ ⟨O,R.go s1,fun w H2 s2 r2=> h v w H2 (s1.trans s2) (R.go (s1.trans s2)) (r1.same (bD s2)) r2⟩⟩
theorem xM {op:Operator} {g:Int→Int→Int} (ho:OpR X (binaryOp op) (rI0 fun i j=> .int (g i j))) (ha:Ev X H0 O0 ps a (.int i)) (hb:Ev X H0 O0 ps b (.int j)):Ev X H0 O0 ps (.BinOp a op b pos) (.int (g i j)):=
 PE.mono (uL ho ha hb) fun σ H Q ⟨O,R,k⟩=> two (x:=.int i) (y:=.int j) R (fun _ _ _ z=> z) (fun _ _ _ z=> z) fun v w H' s _ r1 r2=> by
  cases r1; cases r2; exact ⟨i,j,rfl,rfl,k _ H' s (.int _)⟩
theorem mf {op:Operator} {C:Int→Int→Prop} {g:Int→Int→Int} (ho:OpR X (binaryOp op) (rI C fun i j=> .int (g i j))) (ha:Ev X H0 O0 ps a (.int i)) (hb:Ev X H0 O0 ps b (.int j)) (hc:C i j):Ev X H0 O0 ps (.BinOp a op b pos) (.int (g i j)):=
 PE.mono (uL ho ha hb) fun σ H Q ⟨O,R,k⟩=> two (x:=.int i) (y:=.int j) R (fun _ _ _ z=> z) (fun _ _ _ z=> z) fun v w H' s _ r1 r2=> by
  cases r1; cases r2; exact ⟨i,j,rfl,rfl,hc,k _ H' s (.int _)⟩
theorem bO (ha:Ev X H0 O0 ps a (.int i)) (hb:Ev X H0 O0 ps b (.int j)):Ev X H0 O0 ps (.BinOp a .Add b pos) (.int (i+j)):=xM yT ha hb
theorem aZ (ha:Ev X H0 O0 ps a (.int i)) (hb:Ev X H0 O0 ps b (.int j)):Ev X H0 O0 ps (.BinOp a .Sub b pos) (.int (i - j)):=xM yt ha hb
theorem aG (ha:Ev X H0 O0 ps a (.int i)) (hb:Ev X H0 O0 ps b (.int j)) (hc:IntMulOk i j):Ev X H0 O0 ps (.BinOp a .Mult b pos) (.int (i * j)):=mf v5 ha hb hc
theorem eU (ha:Ev X H0 O0 ps a (.int i)) (hb:Ev X H0 O0 ps b (.int j)) (hc:xH i j):Ev X H0 O0 ps (.BinOp a .FloorDiv b pos) (.int (i / j)):=mf tw ha hb hc
theorem yI (ha:Ev X H0 O0 ps a (.int i)) (hb:Ev X H0 O0 ps b (.int j)) (hc:xl i j):Ev X H0 O0 ps (.BinOp a .FloorDiv b pos) (.int (i.fdiv j)):=mf t4 ha hb hc
theorem cP (ha:Ev X H0 O0 ps a (.int i)) (hb:Ev X H0 O0 ps b (.int j)) (hc:0 < j):Ev X H0 O0 ps (.BinOp a .Mod b pos) (.int (i % j)):=mf yN ha hb hc
theorem j4 (ha:Ev X H0 O0 ps a (.int i)) (hb:Ev X H0 O0 ps b (.int j)) (hc:zZ i j):Ev X H0 O0 ps (.BinOp a .Pow b pos) (.int (i ^ j.toNat)):=mf yE ha hb hc
theorem dh (ha:Ev X H0 O0 ps a (.int i)):Ev X H0 O0 ps (.UnaryOp .USub a pos) (.int (-i)):=
 PE.mono (Aa yZ ha) fun σ H Q ⟨O,R,k⟩=> ⟨O,R,fun v H' s r=> by cases r; exact ⟨i,rfl,k _ H' s (.int _)⟩⟩
end
end L2
namespace L2
open PySem PySem.Spec PyProof.Rows
mutual
def eqW:U→U→Bool
 | .non,.non=> true
 | .bl a,.bl b=> a==b
 | .bl a,.int j=> (if a then 1 else 0)==j
 | .int i,.bl b=> i==(if b then 1 else 0)
 | .int i,.int j=> i==j
 | .str a,.str b=> a==b
 | .tup xs,.tup ys=> eqWs xs ys
 | .lst xs,.lst ys=> eqWs xs ys
 | .lst xs,.scr ys=> eqWs xs ys
 | .scr xs,.lst ys=> eqWs xs ys
 | .scr xs,.scr ys=> eqWs xs ys
 | _,_=> false
def eqWs:List U→List U→Bool
 | [],[]=> true
 | x::xs,y::ys=> eqW x y && eqWs xs ys
 | _,_=> false
end
mutual
def okU:Nat→U→Bool
 | _,.ty _=> false
 | _,.dic=> false
 | 0,.tup _=> false
 | 0,.lst _=> false
 | 0,.scr _=> false
 | n+1,.tup xs=> okUs n xs
 | n+1,.lst xs=> okUs n xs
 | n+1,.scr xs=> okUs n xs
 | _,_=> true
def okUs:Nat→List U→Bool
 | _,[]=> true
 | n,x::xs=> okU n x && okUs n xs
end
theorem iW:∀ {n:Nat} {xs:List U} {i:Nat} {x:U},okUs n xs=true→xs[i]?=some x→okU n x=true
 | n,[],i,x,_,h=> by simp at h
 | n,y::xs,0,x,h,e=> by simp at e; subst e; simp [okUs] at h; exact h.1
 | n,y::xs,i+1,x,h,e=> by simp [okUs] at h; exact iW (i:=i) h.2 (by simpa using e)
theorem cZ:∀ (xs ys:List U),((List.range (min xs.length ys.length)).all (fun j=> eqW (xs.getD j .non) (ys.getD j .non)) && xs.length==ys.length)=eqWs xs ys
 | [],[]=> rfl
 | [],y::ys=> by simp [eqWs]
 | x::xs,[]=> by simp [eqWs]
 | x::xs,y::ys=> by
  have ih:=cZ xs ys
  rw [eqWs,← ih]
  simp only [List.length_cons,Nat.succ_min_succ]
  rw [List.range_succ_eq_map,List.all_cons,List.all_map]
  have e:((xs.length+1==ys.length+1))=(xs.length==ys.length):=by simp
  rw [e,Bool.and_assoc]
  rfl
theorem Rp.one {X:Cx} {pins:List (Addr×Obj)} {σ:St} {H:Hp} {s:Shared} (I:Inv X pins σ H s) {v:V} {x:U} (h:Rp X.K H v x):∀ {n:Nat} {y:U},Rp X.K H v y→okU n x=true→eqW x y=true:=by
 have key:∀ {vs ws:List V} {xs ys:List U},vs=ws→vs.length=xs.length→ws.length=ys.length→(∀ (i:Nat) (x y:U),xs[i]?=some x→ys[i]?=some y→eqW x y=true)→eqWs xs ys=true:=fun {vs ws xs ys} e h1 h2 hh=> by
  subst e
  rw [← cZ,Bool.and_eq_true,kC]
  refine ⟨fun j hj=> ?_,by simp [← h1,← h2]⟩
  have j1:j < xs.length:=by omega
  have j2:j < ys.length:=by omega
  rw [List.getD_eq_getElem?_getD,List.getElem?_eq_getElem j1,List.getD_eq_getElem?_getD,List.getElem?_eq_getElem j2]
  exact hh j _ _ (List.getElem?_eq_getElem j1) (List.getElem?_eq_getElem j2)
 have key2:∀ {vs:List V} {xs ys:List U} {n:Nat},vs.length=xs.length→(∀ (i:Nat) (v:V) (x:U),vs[i]?=some v→xs[i]?=some x→∀ {n:Nat} {y:U},Rp X.K H v y→okU n x=true→eqW x y=true)→(∀ (i:Nat) (v:V) (y:U),vs[i]?=some v→ys[i]?=some y→Rp X.K H v y)→okUs n xs=true→
   ∀ (i:Nat) (x y:U),xs[i]?=some x→ys[i]?=some y→eqW x y=true:=fun {vs xs ys n} h1 ih hi ok i x y e1 e2=> by
  have hlt:i < vs.length:=by rw [h1]; exact aP e1
  exact ih i _ x (List.getElem?_eq_getElem hlt) e1 (hi i _ y (List.getElem?_eq_getElem hlt) e2) (iW ok e1)
 induction h with
 | non=> intro n y q _; cases q; rfl
 | bl b=> intro n y q _; cases q; simp [eqW]
 | int i=> intro n y q _; cases q; simp [eqW]
 | str i=> intro n y q _; cases q; simp [eqW]
 | ty=> intro n y q ok; simp [okU] at ok
 | dic=> intro n y q ok; simp [okU] at ok
 | xc=> intro n y q ok; simp [okU] at ok
 | @scr a vs xs hq hl hi ih=>
  intro n y q ok
  cases n with
  | zero=> simp [okU] at ok
  | succ n=>
   rw [okU] at ok
   cases q with
   | scr hq' hl' hi'=> rw [eqW]; have e:=I.list_inj hq hq'; subst e; exact key rfl hl hl' (key2 hl (fun i v x a b=> ih i v x a b) hi' ok)
   | lst hq' hl' hi'=> rw [eqW]; have e:=I.list_inj hq (SqL.of hq'); subst e; exact key rfl hl hl' (key2 hl (fun i v x a b=> ih i v x a b) hi' ok)
   | xc hq' kk=>
    exfalso
    obtain ⟨_,_,pl,_⟩:=I.list hq
    obtain ⟨o,n,e,c,_⟩:=pl
    exact PySem.W.XcOk.off (I.hok _ _ hq').1 e c
   | dic hq'=>
    exfalso
    obtain ⟨_,_,pl,_⟩:=I.list hq
    obtain ⟨o,n,e,c,_⟩:=pl
    obtain ⟨_,_,_,_,o',_,_,e',ex,_⟩:=I.hok _ _ hq'
    rw [e] at e'; cases e'
    rw [ex.1] at c; exact absurd (Value.type.inj c) (by decide)
   | tup hq' hl' hi'=>
    exfalso
    obtain ⟨_,_,pl,_⟩:=I.list hq
    obtain ⟨_,_,pt,_⟩:=I.tuple hq'
    exact SeqAt.ne_of_list_tuple pl.isList pt rfl
 | @tup a vs xs hq hl hi ih=>
  intro n y q ok
  cases n with
  | zero=> simp [okU] at ok
  | succ n=>
   rw [okU] at ok
   cases q with
   | tup hq' hl' hi'=> rw [eqW]; have e:=I.tuple_inj hq hq'; subst e; exact key rfl hl hl' (key2 hl (fun i v x a b=> ih i v x a b) hi' ok)
   | scr hq' hl' hi'=>
    exfalso
    obtain ⟨_,_,pl,_⟩:=I.list hq'
    obtain ⟨_,_,pt,_⟩:=I.tuple hq
    exact SeqAt.ne_of_list_tuple pl.isList pt rfl
   | lst hq' hl' hi'=>
    exfalso
    obtain ⟨_,_,pl,_⟩:=I.list (SqL.of hq')
    obtain ⟨_,_,pt,_⟩:=I.tuple hq
    exact SeqAt.ne_of_list_tuple pl.isList pt rfl
   | xc hq' kk=>
    exfalso
    obtain ⟨_,_,pt,_⟩:=I.tuple hq
    obtain ⟨o,e,c,_⟩:=pt
    exact PySem.W.XcOk.off (I.hok _ _ hq').1 e c
   | dic hq'=>
    exfalso
    obtain ⟨_,_,pt,_⟩:=I.tuple hq
    obtain ⟨o,e,c,_⟩:=pt
    obtain ⟨_,_,_,_,o',_,_,e',ex,_⟩:=I.hok _ _ hq'
    rw [e] at e'; cases e'
    rw [ex.1] at c; exact absurd (Value.type.inj c) (by decide)
 | @lst a vs xs hq hl hi ih=>
  intro n y q ok
  cases n with
  | zero=> simp [okU] at ok
  | succ n=>
   rw [okU] at ok
   cases q with
   | lst hq' hl' hi'=> rw [eqW]; have e:=I.list_inj (SqL.of hq) (SqL.of hq'); subst e; exact key rfl hl hl' (key2 hl (fun i v x a b=> ih i v x a b) hi' ok)
   | scr hq' hl' hi'=> rw [eqW]; have e:=I.list_inj (SqL.of hq) hq'; subst e; exact key rfl hl hl' (key2 hl (fun i v x a b=> ih i v x a b) hi' ok)
   | tup hq' hl' hi'=>
    exfalso
    obtain ⟨_,_,pl,_⟩:=I.list (SqL.of hq)
    obtain ⟨_,_,pt,_⟩:=I.tuple hq'
    exact SeqAt.ne_of_list_tuple pl.isList pt rfl
   | xc hq' kk=>
    exfalso
    rw [hq] at hq'; cases hq'
   | dic hq'=>
    exfalso
    rw [hq] at hq'; cases hq'
theorem IsU.list {X:Cx} {pins:List (Addr×Obj)} {σ:St} {H:Hp} {s:Shared} (I:Inv X pins σ H s) {a:Addr} {xs:List U} {vs:List V} (h:SqL X.K H a vs) (hl:vs.length=xs.length):∃ its:List Value,aN vs its∧s.heap.IsList a its.toArray∧its.length=xs.length:=by
 obtain ⟨its,r,pl,_⟩:=I.list h
 exact ⟨its,r,pl.isList,by rw [← r.length,hl]⟩
theorem IsU.tup {X:Cx} {pins:List (Addr×Obj)} {σ:St} {H:Hp} {s:Shared} (I:Inv X pins σ H s) {a:Addr} {xs:List U} {vs:List V} (h:SqT X.K H a vs) (hl:vs.length=xs.length):∃ its:List Value,aN vs its∧IsTup s.heap a its.toArray∧its.length=xs.length:=by
 obtain ⟨its,r,pl,_⟩:=I.tuple h
 exact ⟨its,r,pl,by rw [← r.length,hl]⟩
section
variable {X:Cx} {pins:List (Addr×Obj)} {σ:St} {H:Hp} {s:Shared}
theorem cA (I:Inv X pins σ H s) {n:Nat} {vs ws:List V} {xs ys:List U} {its its2:List Value} (r1:aN vs its) (r2:aN ws its2) (hl1:vs.length=xs.length) (hl2:ws.length=ys.length)
  (h1:∀ (i:Nat) (v:V) (x:U),vs[i]?=some v→xs[i]?=some x→Rp X.K H v x) (h2:∀ (i:Nat) (v:V) (x:U),ws[i]?=some v→ys[i]?=some x→Rp X.K H v x) (ok1:okUs n xs=true) (ok2:okUs n ys=true) {A:Around}
  (rc0:∀ (x y:U) (v w:V) (p q:Value),Rp X.K H v x→Rp X.K H w y→a_ v p→a_ w q→okU n x=true→okU n y=true→SeqAt.RcAt A.in1 s p q (eqW x y)) (hu:A.units+n+1 < cLine)
  (j:Nat) (j1:j < its.length) (j2:j < its2.length):SeqAt.EqAt A.in1 s its[j] its2[j] (eqW (xs.getD j .non) (ys.getD j .non)):=by
 have a1:j < vs.length:=by rw [r1.length]; exact j1
 have a2:j < ws.length:=by rw [r2.length]; exact j2
 have b1:j < xs.length:=by omega
 have b2:j < ys.length:=by omega
 rw [List.getD_eq_getElem?_getD,List.getElem?_eq_getElem b1,List.getD_eq_getElem?_getD,List.getElem?_eq_getElem b2,Option.getD_some,Option.getD_some]
 have R1:=h1 j vs[j] xs[j] (List.getElem?_eq_getElem a1) (List.getElem?_eq_getElem b1)
 have R2:=h2 j ws[j] ys[j] (List.getElem?_eq_getElem a2) (List.getElem?_eq_getElem b2)
 obtain ⟨u1,e1,q1⟩:=r1.get (List.getElem?_eq_getElem a1)
 obtain ⟨u2,e2,q2⟩:=r2.get (List.getElem?_eq_getElem a2)
 rw [List.getElem?_eq_getElem j1] at e1
 rw [List.getElem?_eq_getElem j2] at e2
 cases e1; cases e2
 have o1:=iW ok1 (List.getElem?_eq_getElem b1)
 have o2:=iW ok2 (List.getElem?_eq_getElem b2)
 generalize vs[j]=v at *
 generalize ws[j]=w at *
 generalize its[j]=p at *
 generalize its2[j]=q at *
 generalize xs[j]=x at *
 generalize ys[j]=y at *
 have main:=rc0 x y v w p q R1 R2 q1 q2 o1 o2
 have ref_ref:∀ (a b:Addr),p=.ref a→q=.ref b→SeqAt.EqAt A.in1 s p q (eqW x y):=fun a b ea eb=> by
  subst ea eb
  by_cases e:a=b
  ·subst e
   have e2:v=w:=q1.inj q2
   subst e2
   rw [R1.one I R2 o1]
   exact SeqAt.EqAt.same _
  ·exact SeqAt.EqAt.of_refs e main
 have hu1:A.in1.units < cLine:=by show A.units+1 < _; omega
 cases R1 with
 | non=>
  cases (show p=Value.none from q1)
  cases R2 with
  | non=> cases (show q=Value.none from q2); exact SeqAt.EqAt.same _
  | bl b=> cases (show q=Value.bool b from q2); exact SeqAt.EqAt.none_bool b
  | int i=> obtain ⟨t,rfl⟩:=(show ∃ t,q=Value.int i t from q2); exact SeqAt.EqAt.none_int i t
  | str i=> obtain ⟨t,rfl⟩:=(show ∃ t,q=Value.str i t from q2); exact SeqAt.EqAt.none_str i t
  | ty=> simp [okU] at o2
  | dic=> simp [okU] at o2
  | xc=> simp [okU] at o2
  | scr hq hl hi=> cases q2; obtain ⟨_,_,pl,_⟩:=IsU.list I hq hl; exact SeqAt.EqAt.none_list pl hu1
  | tup hq hl hi=> cases q2; obtain ⟨_,_,pl,_⟩:=IsU.tup I hq hl; exact SeqAt.EqAt.none_tuple pl hu1
  | lst hq hl hi=> cases q2; obtain ⟨_,_,pl,_⟩:=IsU.list I (SqL.of hq) hl; exact SeqAt.EqAt.none_list pl hu1
 | bl c=>
  cases (show p=Value.bool c from q1)
  cases R2 with
  | non=> cases (show q=Value.none from q2); exact SeqAt.EqAt.bool_none c
  | bl b=> cases (show q=Value.bool b from q2); exact SeqAt.EqAt.bool_bool c b
  | int i=> obtain ⟨t,rfl⟩:=(show ∃ t,q=Value.int i t from q2); exact SeqAt.EqAt.bool_int c i t
  | str i=> obtain ⟨t,rfl⟩:=(show ∃ t,q=Value.str i t from q2); exact SeqAt.EqAt.bool_str c i t
  | ty=> simp [okU] at o2
  | dic=> simp [okU] at o2
  | xc=> simp [okU] at o2
  | scr hq hl hi=> cases q2; obtain ⟨_,_,pl,_⟩:=IsU.list I hq hl; exact SeqAt.EqAt.bool_list c pl hu1
  | tup hq hl hi=> cases q2; obtain ⟨_,_,pl,_⟩:=IsU.tup I hq hl; exact SeqAt.EqAt.bool_tuple c pl hu1
  | lst hq hl hi=> cases q2; obtain ⟨_,_,pl,_⟩:=IsU.list I (SqL.of hq) hl; exact SeqAt.EqAt.bool_list c pl hu1
 | int c=>
  obtain ⟨t0,rfl⟩:=(show ∃ t,p=Value.int c t from q1)
  cases R2 with
  | non=> cases (show q=Value.none from q2); exact SeqAt.EqAt.int_none c t0
  | bl b=> cases (show q=Value.bool b from q2); exact SeqAt.EqAt.int_bool c t0 b
  | int i=> obtain ⟨t,rfl⟩:=(show ∃ t,q=Value.int i t from q2); exact SeqAt.EqAt.int_int c t0 i t
  | str i=> obtain ⟨t,rfl⟩:=(show ∃ t,q=Value.str i t from q2); exact SeqAt.EqAt.int_str c t0 i t
  | ty=> simp [okU] at o2
  | dic=> simp [okU] at o2
  | xc=> simp [okU] at o2
  | scr hq hl hi=> cases q2; obtain ⟨_,_,pl,_⟩:=IsU.list I hq hl; exact SeqAt.EqAt.int_list c t0 pl hu1
  | tup hq hl hi=> cases q2; obtain ⟨_,_,pl,_⟩:=IsU.tup I hq hl; exact SeqAt.EqAt.int_tuple c t0 pl hu1
  | lst hq hl hi=> cases q2; obtain ⟨_,_,pl,_⟩:=IsU.list I (SqL.of hq) hl; exact SeqAt.EqAt.int_list c t0 pl hu1
 | str c=>
  obtain ⟨t0,rfl⟩:=(show ∃ t,p=Value.str c t from q1)
  cases R2 with
  | non=> cases (show q=Value.none from q2); exact SeqAt.EqAt.str_none c t0
  | bl b=> cases (show q=Value.bool b from q2); exact SeqAt.EqAt.str_bool c t0 b
  | int i=> obtain ⟨t,rfl⟩:=(show ∃ t,q=Value.int i t from q2); exact SeqAt.EqAt.str_int c t0 i t
  | str i=> obtain ⟨t,rfl⟩:=(show ∃ t,q=Value.str i t from q2); exact SeqAt.EqAt.str_str c t0 i t
  | ty=> simp [okU] at o2
  | dic=> simp [okU] at o2
  | xc=> simp [okU] at o2
  | scr hq hl hi=> cases q2; obtain ⟨_,_,pl,_⟩:=IsU.list I hq hl; exact SeqAt.EqAt.str_list c t0 pl hu1
  | tup hq hl hi=> cases q2; obtain ⟨_,_,pl,_⟩:=IsU.tup I hq hl; exact SeqAt.EqAt.str_tuple c t0 pl hu1
  | lst hq hl hi=> cases q2; obtain ⟨_,_,pl,_⟩:=IsU.list I (SqL.of hq) hl; exact SeqAt.EqAt.str_list c t0 pl hu1
 | ty=> simp [okU] at o1
 | dic=> simp [okU] at o1
 | xc=> simp [okU] at o1
 | @scr a vs xs hq hl hi=>
  cases q1
  obtain ⟨_,_,pl,_⟩:=IsU.list I hq hl
  cases R2 with
  | non=> cases (show q=Value.none from q2); exact SeqAt.EqAt.list_none pl hu1
  | bl b=> cases (show q=Value.bool b from q2); exact SeqAt.EqAt.list_bool b pl hu1
  | int i=> obtain ⟨t,rfl⟩:=(show ∃ t,q=Value.int i t from q2); exact SeqAt.EqAt.list_int i t pl hu1
  | str i=> obtain ⟨t,rfl⟩:=(show ∃ t,q=Value.str i t from q2); exact SeqAt.EqAt.list_str i t pl hu1
  | ty=> simp [okU] at o2
  | dic=> simp [okU] at o2
  | xc=> simp [okU] at o2
  | scr=> exact ref_ref _ _ rfl q2
  | tup=> exact ref_ref _ _ rfl q2
  | lst=> exact ref_ref _ _ rfl q2
 | @lst a vs xs hq hl hi=>
  cases q1
  obtain ⟨_,_,pl,_⟩:=IsU.list I (SqL.of hq) hl
  cases R2 with
  | non=> cases (show q=Value.none from q2); exact SeqAt.EqAt.list_none pl hu1
  | bl b=> cases (show q=Value.bool b from q2); exact SeqAt.EqAt.list_bool b pl hu1
  | int i=> obtain ⟨t,rfl⟩:=(show ∃ t,q=Value.int i t from q2); exact SeqAt.EqAt.list_int i t pl hu1
  | str i=> obtain ⟨t,rfl⟩:=(show ∃ t,q=Value.str i t from q2); exact SeqAt.EqAt.list_str i t pl hu1
  | ty=> simp [okU] at o2
  | dic=> simp [okU] at o2
  | xc=> simp [okU] at o2
  | scr=> exact ref_ref _ _ rfl q2
  | tup=> exact ref_ref _ _ rfl q2
  | lst=> exact ref_ref _ _ rfl q2
 | @tup a vs xs hq hl hi=>
  cases q1
  obtain ⟨_,_,pl,_⟩:=IsU.tup I hq hl
  cases R2 with
  | non=> cases (show q=Value.none from q2); exact SeqAt.EqAt.tuple_none pl hu1
  | bl b=> cases (show q=Value.bool b from q2); exact SeqAt.EqAt.tuple_bool b pl hu1
  | int i=> obtain ⟨t,rfl⟩:=(show ∃ t,q=Value.int i t from q2); exact SeqAt.EqAt.tuple_int i t pl hu1
  | str i=> obtain ⟨t,rfl⟩:=(show ∃ t,q=Value.str i t from q2); exact SeqAt.EqAt.tuple_str i t pl hu1
  | ty=> simp [okU] at o2
  | dic=> simp [okU] at o2
  | xc=> simp [okU] at o2
  | scr=> exact ref_ref _ _ rfl q2
  | tup=> exact ref_ref _ _ rfl q2
  | lst=> exact ref_ref _ _ rfl q2
theorem gJ {A:Around} {n:Nat} {a b:Addr} {xs ys:List U} {its its2:List Value} (p1:s.heap.IsList a its.toArray) (p2:s.heap.IsList b its2.toArray) (l1:its.length=xs.length) (l2:its2.length=ys.length) (hu:A.units+n < cLine)
  (he:∀ (j:Nat) (j1:j < its.length) (j2:j < its2.length),SeqAt.EqAt A.in1 s its[j] its2[j] (eqW (xs.getD j .non) (ys.getD j .non))):SeqAt.RcAt A s (.ref a) (.ref b) (eqWs xs ys):=by
 by_cases hl:its.length=its2.length
 ·have:=SeqAt.RcAt.lists (A:=A) (s:=s) (e:=fun j=> eqW (xs.getD j .non) (ys.getD j .non)) p1 p2 (by simpa using hl) (by omega) (fun j h1 h2=> by simpa using he j (by simpa using h1) (by simpa using h2))
  rw [← cZ,← l1,← l2,hl,Nat.min_self,beq_self_eq_true,Bool.and_true]
  rwa [List.size_toArray,hl] at this
 ·have:=SeqAt.RcAt.lists_lengths (A:=A) (s:=s) p1 p2 (by simpa using hl) (by omega)
  rw [← cZ,← l1,← l2,show (its.length==its2.length)=false by simpa using hl,Bool.and_false]
  exact this
theorem wO {A:Around} {n:Nat} {a b:Addr} {xs ys:List U} {its its2:List Value} (p1:IsTup s.heap a its.toArray) (p2:IsTup s.heap b its2.toArray) (l1:its.length=xs.length) (l2:its2.length=ys.length) (hu:A.units+n < cLine)
  (he:∀ (j:Nat) (j1:j < its.length) (j2:j < its2.length),SeqAt.EqAt A.in1 s its[j] its2[j] (eqW (xs.getD j .non) (ys.getD j .non))):SeqAt.RcAt A s (.ref a) (.ref b) (eqWs xs ys):=by
 have:=SeqAt.RcAt.tuples (A:=A) (s:=s) (e:=fun j=> eqW (xs.getD j .non) (ys.getD j .non)) p1 p2 (by omega) (fun j h1 h2=> by simpa using he j (by simpa using h1) (by simpa using h2))
 rw [List.size_toArray,List.size_toArray,l1,l2,cZ] at this
 exact this
theorem Ai (I:Inv X pins σ H s):∀ (n:Nat) (A:Around) (x y:U) (v w:V) (p q:Value),Rp X.K H v x→Rp X.K H w y→a_ v p→a_ w q→okU n x=true→okU n y=true→A.units+n < cLine→SeqAt.RcAt A s p q (eqW x y):=by
 intro n
 induction n with
 | zero=>
  intro A x y v w p q R1 R2 q1 q2 o1 o2 hu
  cases R1 with
  | non=>
   cases (show p=Value.none from q1)
   cases R2 with
   | non=> cases (show q=Value.none from q2); exact SeqAt.RcAt.none_none
   | bl b=> cases (show q=Value.bool b from q2); exact SeqAt.RcAt.none_bool b
   | int i=> obtain ⟨t,rfl⟩:=(show ∃ t,q=Value.int i t from q2); exact SeqAt.RcAt.none_int i t
   | str i=> obtain ⟨t,rfl⟩:=(show ∃ t,q=Value.str i t from q2); exact SeqAt.RcAt.none_str i t
   | _=> simp [okU] at o2
  | bl c=>
   cases (show p=Value.bool c from q1)
   cases R2 with
   | non=> cases (show q=Value.none from q2); exact SeqAt.RcAt.bool_none c
   | bl b=> cases (show q=Value.bool b from q2); exact SeqAt.RcAt.bool_bool c b
   | int i=> obtain ⟨t,rfl⟩:=(show ∃ t,q=Value.int i t from q2); exact SeqAt.RcAt.bool_int c i t
   | str i=> obtain ⟨t,rfl⟩:=(show ∃ t,q=Value.str i t from q2); exact SeqAt.RcAt.bool_str c i t
   | _=> simp [okU] at o2
  | int c=>
   obtain ⟨t0,rfl⟩:=(show ∃ t,p=Value.int c t from q1)
   cases R2 with
   | non=> cases (show q=Value.none from q2); exact SeqAt.RcAt.int_none c t0
   | bl b=> cases (show q=Value.bool b from q2); exact SeqAt.RcAt.int_bool c t0 b
   | int i=> obtain ⟨t,rfl⟩:=(show ∃ t,q=Value.int i t from q2); exact SeqAt.RcAt.int_int c t0 i t
   | str i=> obtain ⟨t,rfl⟩:=(show ∃ t,q=Value.str i t from q2); exact SeqAt.RcAt.int_str c t0 i t
   | _=> simp [okU] at o2
  | str c=>
   obtain ⟨t0,rfl⟩:=(show ∃ t,p=Value.str c t from q1)
   cases R2 with
   | non=> cases (show q=Value.none from q2); exact SeqAt.RcAt.str_none c t0
   | bl b=> cases (show q=Value.bool b from q2); exact SeqAt.RcAt.str_bool c t0 b
   | int i=> obtain ⟨t,rfl⟩:=(show ∃ t,q=Value.int i t from q2); exact SeqAt.RcAt.str_int c t0 i t
   | str i=> obtain ⟨t,rfl⟩:=(show ∃ t,q=Value.str i t from q2); exact SeqAt.RcAt.str_str c t0 i t
   | _=> simp [okU] at o2
  | _=> simp [okU] at o1
 | succ n ih=>
  intro A x y v w p q R1 R2 q1 q2 o1 o2 hu
  have hu1:A.units < cLine:=by omega
  have rc0:∀ (x y:U) (v w:V) (p q:Value),Rp X.K H v x→Rp X.K H w y→a_ v p→a_ w q→okU n x=true→okU n y=true→SeqAt.RcAt A.in1 s p q (eqW x y):=fun x y v w p q r1 r2 k1 k2 z1 z2=> ih A.in1 x y v w p q r1 r2 k1 k2 z1 z2 (by show A.units+1+n < _; omega)
  cases R1 with
  | non=>
   cases (show p=Value.none from q1)
   cases R2 with
   | non=> cases (show q=Value.none from q2); exact SeqAt.RcAt.none_none
   | bl b=> cases (show q=Value.bool b from q2); exact SeqAt.RcAt.none_bool b
   | int i=> obtain ⟨t,rfl⟩:=(show ∃ t,q=Value.int i t from q2); exact SeqAt.RcAt.none_int i t
   | str i=> obtain ⟨t,rfl⟩:=(show ∃ t,q=Value.str i t from q2); exact SeqAt.RcAt.none_str i t
   | ty=> simp [okU] at o2
   | dic=> simp [okU] at o2
   | xc=> simp [okU] at o2
   | scr hq hl hi=> cases q2; obtain ⟨_,_,pl,_⟩:=IsU.list I hq hl; exact SeqAt.RcAt.none_list pl hu1
   | tup hq hl hi=> cases q2; obtain ⟨_,_,pl,_⟩:=IsU.tup I hq hl; exact SeqAt.RcAt.none_tuple pl hu1
   | lst hq hl hi=> cases q2; obtain ⟨_,_,pl,_⟩:=IsU.list I (SqL.of hq) hl; exact SeqAt.RcAt.none_list pl hu1
  | bl c=>
   cases (show p=Value.bool c from q1)
   cases R2 with
   | non=> cases (show q=Value.none from q2); exact SeqAt.RcAt.bool_none c
   | bl b=> cases (show q=Value.bool b from q2); exact SeqAt.RcAt.bool_bool c b
   | int i=> obtain ⟨t,rfl⟩:=(show ∃ t,q=Value.int i t from q2); exact SeqAt.RcAt.bool_int c i t
   | str i=> obtain ⟨t,rfl⟩:=(show ∃ t,q=Value.str i t from q2); exact SeqAt.RcAt.bool_str c i t
   | ty=> simp [okU] at o2
   | dic=> simp [okU] at o2
   | xc=> simp [okU] at o2
   | scr hq hl hi=> cases q2; obtain ⟨_,_,pl,_⟩:=IsU.list I hq hl; exact SeqAt.RcAt.bool_list c pl hu1
   | tup hq hl hi=> cases q2; obtain ⟨_,_,pl,_⟩:=IsU.tup I hq hl; exact SeqAt.RcAt.bool_tuple c pl hu1
   | lst hq hl hi=> cases q2; obtain ⟨_,_,pl,_⟩:=IsU.list I (SqL.of hq) hl; exact SeqAt.RcAt.bool_list c pl hu1
  | int c=>
   obtain ⟨t0,rfl⟩:=(show ∃ t,p=Value.int c t from q1)
   cases R2 with
   | non=> cases (show q=Value.none from q2); exact SeqAt.RcAt.int_none c t0
   | bl b=> cases (show q=Value.bool b from q2); exact SeqAt.RcAt.int_bool c t0 b
   | int i=> obtain ⟨t,rfl⟩:=(show ∃ t,q=Value.int i t from q2); exact SeqAt.RcAt.int_int c t0 i t
   | str i=> obtain ⟨t,rfl⟩:=(show ∃ t,q=Value.str i t from q2); exact SeqAt.RcAt.int_str c t0 i t
   | ty=> simp [okU] at o2
   | dic=> simp [okU] at o2
   | xc=> simp [okU] at o2
   | scr hq hl hi=> cases q2; obtain ⟨_,_,pl,_⟩:=IsU.list I hq hl; exact SeqAt.RcAt.int_list c t0 pl hu1
   | tup hq hl hi=> cases q2; obtain ⟨_,_,pl,_⟩:=IsU.tup I hq hl; exact SeqAt.RcAt.int_tuple c t0 pl hu1
   | lst hq hl hi=> cases q2; obtain ⟨_,_,pl,_⟩:=IsU.list I (SqL.of hq) hl; exact SeqAt.RcAt.int_list c t0 pl hu1
  | str c=>
   obtain ⟨t0,rfl⟩:=(show ∃ t,p=Value.str c t from q1)
   cases R2 with
   | non=> cases (show q=Value.none from q2); exact SeqAt.RcAt.str_none c t0
   | bl b=> cases (show q=Value.bool b from q2); exact SeqAt.RcAt.str_bool c t0 b
   | int i=> obtain ⟨t,rfl⟩:=(show ∃ t,q=Value.int i t from q2); exact SeqAt.RcAt.str_int c t0 i t
   | str i=> obtain ⟨t,rfl⟩:=(show ∃ t,q=Value.str i t from q2); exact SeqAt.RcAt.str_str c t0 i t
   | ty=> simp [okU] at o2
   | dic=> simp [okU] at o2
   | xc=> simp [okU] at o2
   | scr hq hl hi=> cases q2; obtain ⟨_,_,pl,_⟩:=IsU.list I hq hl; exact SeqAt.RcAt.str_list c t0 pl hu1
   | tup hq hl hi=> cases q2; obtain ⟨_,_,pl,_⟩:=IsU.tup I hq hl; exact SeqAt.RcAt.str_tuple c t0 pl hu1
   | lst hq hl hi=> cases q2; obtain ⟨_,_,pl,_⟩:=IsU.list I (SqL.of hq) hl; exact SeqAt.RcAt.str_list c t0 pl hu1
  | ty=> simp [okU] at o1
  | dic=> simp [okU] at o1
  | xc=> simp [okU] at o1
  | @scr a vs xs hq hl hi=>
   cases q1
   obtain ⟨its,r1,pl,l1⟩:=IsU.list I hq hl
   rw [okU] at o1
   cases R2 with
   | non=> cases (show q=Value.none from q2); exact SeqAt.RcAt.list_none pl hu1
   | bl b=> cases (show q=Value.bool b from q2); exact SeqAt.RcAt.list_bool b pl hu1
   | int i=> obtain ⟨t,rfl⟩:=(show ∃ t,q=Value.int i t from q2); exact SeqAt.RcAt.list_int i t pl hu1
   | str i=> obtain ⟨t,rfl⟩:=(show ∃ t,q=Value.str i t from q2); exact SeqAt.RcAt.list_str i t pl hu1
   | ty=> simp [okU] at o2
   | dic=> simp [okU] at o2
   | xc=> simp [okU] at o2
   | scr hq' hl' hi'=> cases q2; rw [okU] at o2; obtain ⟨its2,r2,pl2,l2⟩:=IsU.list I hq' hl'; rw [eqW]; exact gJ pl pl2 l1 l2 hu (cA I r1 r2 hl hl' hi hi' o1 o2 rc0 (by omega))
   | lst hq' hl' hi'=> cases q2; rw [okU] at o2; obtain ⟨its2,r2,pl2,l2⟩:=IsU.list I (SqL.of hq') hl'; rw [eqW]; exact gJ pl pl2 l1 l2 hu (cA I r1 r2 hl hl' hi hi' o1 o2 rc0 (by omega))
   | tup hq' hl' hi'=> cases q2; obtain ⟨its2,r2,pl2,l2⟩:=IsU.tup I hq' hl'; exact SeqAt.RcAt.list_tuple pl pl2 hu1
  | @lst a vs xs hq hl hi=>
   cases q1
   obtain ⟨its,r1,pl,l1⟩:=IsU.list I (SqL.of hq) hl
   rw [okU] at o1
   cases R2 with
   | non=> cases (show q=Value.none from q2); exact SeqAt.RcAt.list_none pl hu1
   | bl b=> cases (show q=Value.bool b from q2); exact SeqAt.RcAt.list_bool b pl hu1
   | int i=> obtain ⟨t,rfl⟩:=(show ∃ t,q=Value.int i t from q2); exact SeqAt.RcAt.list_int i t pl hu1
   | str i=> obtain ⟨t,rfl⟩:=(show ∃ t,q=Value.str i t from q2); exact SeqAt.RcAt.list_str i t pl hu1
   | ty=> simp [okU] at o2
   | dic=> simp [okU] at o2
   | xc=> simp [okU] at o2
   | scr hq' hl' hi'=> cases q2; rw [okU] at o2; obtain ⟨its2,r2,pl2,l2⟩:=IsU.list I hq' hl'; rw [eqW]; exact gJ pl pl2 l1 l2 hu (cA I r1 r2 hl hl' hi hi' o1 o2 rc0 (by omega))
   | lst hq' hl' hi'=> cases q2; rw [okU] at o2; obtain ⟨its2,r2,pl2,l2⟩:=IsU.list I (SqL.of hq') hl'; rw [eqW]; exact gJ pl pl2 l1 l2 hu (cA I r1 r2 hl hl' hi hi' o1 o2 rc0 (by omega))
   | tup hq' hl' hi'=> cases q2; obtain ⟨its2,r2,pl2,l2⟩:=IsU.tup I hq' hl'; exact SeqAt.RcAt.list_tuple pl pl2 hu1
  | @tup a vs xs hq hl hi=>
   cases q1
   obtain ⟨its,r1,pl,l1⟩:=IsU.tup I hq hl
   rw [okU] at o1
   cases R2 with
   | non=> cases (show q=Value.none from q2); exact SeqAt.RcAt.tuple_none pl hu1
   | bl b=> cases (show q=Value.bool b from q2); exact SeqAt.RcAt.tuple_bool b pl hu1
   | int i=> obtain ⟨t,rfl⟩:=(show ∃ t,q=Value.int i t from q2); exact SeqAt.RcAt.tuple_int i t pl hu1
   | str i=> obtain ⟨t,rfl⟩:=(show ∃ t,q=Value.str i t from q2); exact SeqAt.RcAt.tuple_str i t pl hu1
   | ty=> simp [okU] at o2
   | dic=> simp [okU] at o2
   | xc=> simp [okU] at o2
   | scr hq' hl' hi'=> cases q2; obtain ⟨its2,r2,pl2,l2⟩:=IsU.list I hq' hl'; exact SeqAt.RcAt.tuple_list pl pl2 hu1
   | lst hq' hl' hi'=> cases q2; obtain ⟨its2,r2,pl2,l2⟩:=IsU.list I (SqL.of hq') hl'; exact SeqAt.RcAt.tuple_list pl pl2 hu1
   | tup hq' hl' hi'=> cases q2; rw [okU] at o2; obtain ⟨its2,r2,pl2,l2⟩:=IsU.tup I hq' hl'; rw [eqW]; exact wO pl pl2 l1 l2 hu (cA I r1 r2 hl hl' hi hi' o1 o2 rc0 (by omega))
end
end L2
namespace L2
open PySem PySem.Spec PyProof.Rows
section
variable {X:Cx} {pins:List (Addr×Obj)} {σ:St} {H:Hp} {s:Shared}
theorem eF {A:Around} {n:Nat} {a b:Addr} {xs ys:List U} {its its2:List Value} (p1:s.heap.IsList a its.toArray) (p2:s.heap.IsList b its2.toArray) (l1:its.length=xs.length) (l2:its2.length=ys.length) (hu:A.units+n < cLine)
  (he:∀ (j:Nat) (j1:j < its.length) (j2:j < its2.length),SeqAt.EqAt A.in1 s its[j] its2[j] (eqW (xs.getD j .non) (ys.getD j .non))):SeqAt.RcNeAt A s (.ref a) (.ref b) (!eqWs xs ys):=by
 by_cases hl:its.length=its2.length
 ·have:=SeqAt.RcNeAt.lists (A:=A) (s:=s) (e:=fun j=> eqW (xs.getD j .non) (ys.getD j .non)) p1 p2 (by simpa using hl) (by omega) (fun j h1 h2=> by simpa using he j (by simpa using h1) (by simpa using h2))
  rw [← cZ,← l1,← l2,hl,Nat.min_self,beq_self_eq_true,Bool.and_true]
  rwa [List.size_toArray,hl] at this
 ·have:=SeqAt.RcNeAt.lists_lengths (A:=A) (s:=s) p1 p2 (by simpa using hl) (by omega)
  rw [← cZ,← l1,← l2,show (its.length==its2.length)=false by simpa using hl,Bool.and_false]
  exact this
theorem qH {A:Around} {n:Nat} {a b:Addr} {xs ys:List U} {its its2:List Value} (p1:IsTup s.heap a its.toArray) (p2:IsTup s.heap b its2.toArray) (l1:its.length=xs.length) (l2:its2.length=ys.length) (hu:A.units+n < cLine)
  (he:∀ (j:Nat) (j1:j < its.length) (j2:j < its2.length),SeqAt.EqAt A.in1 s its[j] its2[j] (eqW (xs.getD j .non) (ys.getD j .non))):SeqAt.RcNeAt A s (.ref a) (.ref b) (!eqWs xs ys):=by
 have:=SeqAt.RcNeAt.tuples (A:=A) (s:=s) (e:=fun j=> eqW (xs.getD j .non) (ys.getD j .non)) p1 p2 (by omega) (fun j h1 h2=> by simpa using he j (by simpa using h1) (by simpa using h2))
 rw [List.size_toArray,List.size_toArray,l1,l2,cZ] at this
 exact this
theorem yb (I:Inv X pins σ H s) (n:Nat) (A:Around) (x y:U) (v w:V) (p q:Value) (R1:Rp X.K H v x) (R2:Rp X.K H w y) (q1:a_ v p) (q2:a_ w q) (o1:okU (n+1) x=true) (o2:okU (n+1) y=true) (hu:A.units+(n+1) < cLine):SeqAt.RcNeAt A s p q (!eqW x y):=by
 have hu1:A.units < cLine:=by omega
 have rc0:∀ (x y:U) (v w:V) (p q:Value),Rp X.K H v x→Rp X.K H w y→a_ v p→a_ w q→okU n x=true→okU n y=true→SeqAt.RcAt A.in1 s p q (eqW x y):=fun x y v w p q r1 r2 k1 k2 z1 z2=> Ai I n A.in1 x y v w p q r1 r2 k1 k2 z1 z2 (by show A.units+1+n < _; omega)
 cases R1 with
 | ty=> simp [okU] at o1
 | dic=> simp [okU] at o1
 | xc=> simp [okU] at o1
 | non=>
  cases (show p=Value.none from q1)
  cases R2 with
  | ty=> simp [okU] at o2
  | dic=> simp [okU] at o2
  | xc=> simp [okU] at o2
  | non=> cases (show q=Value.none from q2); exact SeqAt.RcNeAt.none_none
  | bl c2=> cases (show q=Value.bool c2 from q2); exact SeqAt.RcNeAt.none_bool c2
  | int c2=> obtain ⟨t2,rfl⟩:=(show ∃ t,q=Value.int c2 t from q2); exact SeqAt.RcNeAt.none_int c2 t2
  | str c2=> obtain ⟨t2,rfl⟩:=(show ∃ t,q=Value.str c2 t from q2); exact SeqAt.RcNeAt.none_str c2 t2
  | scr hq2 hl2 hi2=> cases q2; obtain ⟨its2,r2,pl2,l2⟩:=IsU.list I hq2 hl2; exact SeqAt.RcNeAt.none_list pl2 hu1
  | tup hq2 hl2 hi2=> cases q2; obtain ⟨its2,r2,pl2,l2⟩:=IsU.tup I hq2 hl2; exact SeqAt.RcNeAt.none_tuple pl2 hu1
  | lst hq2 hl2 hi2=> cases q2; obtain ⟨its2,r2,pl2,l2⟩:=IsU.list I (SqL.of hq2) hl2; exact SeqAt.RcNeAt.none_list pl2 hu1
 | bl c1=>
  cases (show p=Value.bool c1 from q1)
  cases R2 with
  | ty=> simp [okU] at o2
  | dic=> simp [okU] at o2
  | xc=> simp [okU] at o2
  | non=> cases (show q=Value.none from q2); exact SeqAt.RcNeAt.bool_none c1
  | bl c2=> cases (show q=Value.bool c2 from q2); exact SeqAt.RcNeAt.bool_bool c1 c2
  | int c2=> obtain ⟨t2,rfl⟩:=(show ∃ t,q=Value.int c2 t from q2); exact SeqAt.RcNeAt.bool_int c1 c2 t2
  | str c2=> obtain ⟨t2,rfl⟩:=(show ∃ t,q=Value.str c2 t from q2); exact SeqAt.RcNeAt.bool_str c1 c2 t2
  | scr hq2 hl2 hi2=> cases q2; obtain ⟨its2,r2,pl2,l2⟩:=IsU.list I hq2 hl2; exact SeqAt.RcNeAt.bool_list c1 pl2 hu1
  | tup hq2 hl2 hi2=> cases q2; obtain ⟨its2,r2,pl2,l2⟩:=IsU.tup I hq2 hl2; exact SeqAt.RcNeAt.bool_tuple c1 pl2 hu1
  | lst hq2 hl2 hi2=> cases q2; obtain ⟨its2,r2,pl2,l2⟩:=IsU.list I (SqL.of hq2) hl2; exact SeqAt.RcNeAt.bool_list c1 pl2 hu1
 | int c1=>
  obtain ⟨t1,rfl⟩:=(show ∃ t,p=Value.int c1 t from q1)
  cases R2 with
  | ty=> simp [okU] at o2
  | dic=> simp [okU] at o2
  | xc=> simp [okU] at o2
  | non=> cases (show q=Value.none from q2); exact SeqAt.RcNeAt.int_none c1 t1
  | bl c2=> cases (show q=Value.bool c2 from q2); exact SeqAt.RcNeAt.int_bool c1 t1 c2
  | int c2=> obtain ⟨t2,rfl⟩:=(show ∃ t,q=Value.int c2 t from q2); exact SeqAt.RcNeAt.int_int c1 t1 c2 t2
  | str c2=> obtain ⟨t2,rfl⟩:=(show ∃ t,q=Value.str c2 t from q2); exact SeqAt.RcNeAt.int_str c1 t1 c2 t2
  | scr hq2 hl2 hi2=> cases q2; obtain ⟨its2,r2,pl2,l2⟩:=IsU.list I hq2 hl2; exact SeqAt.RcNeAt.int_list c1 t1 pl2 hu1
  | tup hq2 hl2 hi2=> cases q2; obtain ⟨its2,r2,pl2,l2⟩:=IsU.tup I hq2 hl2; exact SeqAt.RcNeAt.int_tuple c1 t1 pl2 hu1
  | lst hq2 hl2 hi2=> cases q2; obtain ⟨its2,r2,pl2,l2⟩:=IsU.list I (SqL.of hq2) hl2; exact SeqAt.RcNeAt.int_list c1 t1 pl2 hu1
 | str c1=>
  obtain ⟨t1,rfl⟩:=(show ∃ t,p=Value.str c1 t from q1)
  cases R2 with
  | ty=> simp [okU] at o2
  | dic=> simp [okU] at o2
  | xc=> simp [okU] at o2
  | non=> cases (show q=Value.none from q2); exact SeqAt.RcNeAt.str_none c1 t1
  | bl c2=> cases (show q=Value.bool c2 from q2); exact SeqAt.RcNeAt.str_bool c1 t1 c2
  | int c2=> obtain ⟨t2,rfl⟩:=(show ∃ t,q=Value.int c2 t from q2); exact SeqAt.RcNeAt.str_int c1 t1 c2 t2
  | str c2=> obtain ⟨t2,rfl⟩:=(show ∃ t,q=Value.str c2 t from q2); exact SeqAt.RcNeAt.str_str c1 t1 c2 t2
  | scr hq2 hl2 hi2=> cases q2; obtain ⟨its2,r2,pl2,l2⟩:=IsU.list I hq2 hl2; exact SeqAt.RcNeAt.str_list c1 t1 pl2 hu1
  | tup hq2 hl2 hi2=> cases q2; obtain ⟨its2,r2,pl2,l2⟩:=IsU.tup I hq2 hl2; exact SeqAt.RcNeAt.str_tuple c1 t1 pl2 hu1
  | lst hq2 hl2 hi2=> cases q2; obtain ⟨its2,r2,pl2,l2⟩:=IsU.list I (SqL.of hq2) hl2; exact SeqAt.RcNeAt.str_list c1 t1 pl2 hu1
 | scr hq1 hl1 hi1=>
  cases q1; obtain ⟨its1,r1,pl1,l1⟩:=IsU.list I hq1 hl1
  cases R2 with
  | ty=> simp [okU] at o2
  | dic=> simp [okU] at o2
  | xc=> simp [okU] at o2
  | non=> cases (show q=Value.none from q2); exact SeqAt.RcNeAt.list_none pl1 hu1
  | bl c2=> cases (show q=Value.bool c2 from q2); exact SeqAt.RcNeAt.list_bool c2 pl1 hu1
  | int c2=> obtain ⟨t2,rfl⟩:=(show ∃ t,q=Value.int c2 t from q2); exact SeqAt.RcNeAt.list_int c2 t2 pl1 hu1
  | str c2=> obtain ⟨t2,rfl⟩:=(show ∃ t,q=Value.str c2 t from q2); exact SeqAt.RcNeAt.list_str c2 t2 pl1 hu1
  | scr hq2 hl2 hi2=> cases q2; obtain ⟨its2,r2,pl2,l2⟩:=IsU.list I hq2 hl2; rw [okU] at o1; rw [okU] at o2; rw [eqW]; exact eF pl1 pl2 l1 l2 hu (cA I r1 r2 hl1 hl2 hi1 hi2 o1 o2 rc0 (by omega))
  | tup hq2 hl2 hi2=> cases q2; obtain ⟨its2,r2,pl2,l2⟩:=IsU.tup I hq2 hl2; exact SeqAt.RcNeAt.list_tuple pl1 pl2 hu1
  | lst hq2 hl2 hi2=> cases q2; obtain ⟨its2,r2,pl2,l2⟩:=IsU.list I (SqL.of hq2) hl2; rw [okU] at o1; rw [okU] at o2; rw [eqW]; exact eF pl1 pl2 l1 l2 hu (cA I r1 r2 hl1 hl2 hi1 hi2 o1 o2 rc0 (by omega))
 | tup hq1 hl1 hi1=>
  cases q1; obtain ⟨its1,r1,pl1,l1⟩:=IsU.tup I hq1 hl1
  cases R2 with
  | ty=> simp [okU] at o2
  | dic=> simp [okU] at o2
  | xc=> simp [okU] at o2
  | non=> cases (show q=Value.none from q2); exact SeqAt.RcNeAt.tuple_none pl1 hu1
  | bl c2=> cases (show q=Value.bool c2 from q2); exact SeqAt.RcNeAt.tuple_bool c2 pl1 hu1
  | int c2=> obtain ⟨t2,rfl⟩:=(show ∃ t,q=Value.int c2 t from q2); exact SeqAt.RcNeAt.tuple_int c2 t2 pl1 hu1
  | str c2=> obtain ⟨t2,rfl⟩:=(show ∃ t,q=Value.str c2 t from q2); exact SeqAt.RcNeAt.tuple_str c2 t2 pl1 hu1
  | scr hq2 hl2 hi2=> cases q2; obtain ⟨its2,r2,pl2,l2⟩:=IsU.list I hq2 hl2; exact SeqAt.RcNeAt.tuple_list pl1 pl2 hu1
  | tup hq2 hl2 hi2=> cases q2; obtain ⟨its2,r2,pl2,l2⟩:=IsU.tup I hq2 hl2; rw [okU] at o1; rw [okU] at o2; rw [eqW]; exact qH pl1 pl2 l1 l2 hu (cA I r1 r2 hl1 hl2 hi1 hi2 o1 o2 rc0 (by omega))
  | lst hq2 hl2 hi2=> cases q2; obtain ⟨its2,r2,pl2,l2⟩:=IsU.list I (SqL.of hq2) hl2; exact SeqAt.RcNeAt.tuple_list pl1 pl2 hu1
 | lst hq1 hl1 hi1=>
  cases q1; obtain ⟨its1,r1,pl1,l1⟩:=IsU.list I (SqL.of hq1) hl1
  cases R2 with
  | ty=> simp [okU] at o2
  | dic=> simp [okU] at o2
  | xc=> simp [okU] at o2
  | non=> cases (show q=Value.none from q2); exact SeqAt.RcNeAt.list_none pl1 hu1
  | bl c2=> cases (show q=Value.bool c2 from q2); exact SeqAt.RcNeAt.list_bool c2 pl1 hu1
  | int c2=> obtain ⟨t2,rfl⟩:=(show ∃ t,q=Value.int c2 t from q2); exact SeqAt.RcNeAt.list_int c2 t2 pl1 hu1
  | str c2=> obtain ⟨t2,rfl⟩:=(show ∃ t,q=Value.str c2 t from q2); exact SeqAt.RcNeAt.list_str c2 t2 pl1 hu1
  | scr hq2 hl2 hi2=> cases q2; obtain ⟨its2,r2,pl2,l2⟩:=IsU.list I hq2 hl2; rw [okU] at o1; rw [okU] at o2; rw [eqW]; exact eF pl1 pl2 l1 l2 hu (cA I r1 r2 hl1 hl2 hi1 hi2 o1 o2 rc0 (by omega))
  | tup hq2 hl2 hi2=> cases q2; obtain ⟨its2,r2,pl2,l2⟩:=IsU.tup I hq2 hl2; exact SeqAt.RcNeAt.list_tuple pl1 pl2 hu1
  | lst hq2 hl2 hi2=> cases q2; obtain ⟨its2,r2,pl2,l2⟩:=IsU.list I (SqL.of hq2) hl2; rw [okU] at o1; rw [okU] at o2; rw [eqW]; exact eF pl1 pl2 l1 l2 hu (cA I r1 r2 hl1 hl2 hi1 hi2 o1 o2 rc0 (by omega))
end
end L2
namespace L2
open PySem PySem.Spec PyProof.Rows
def OpS (X:Cx) (f:Value→Value→Sem Value) (x y:U) (z:V):Prop:=OpR X f fun v w H Q=> Rp X.K H v x∧Rp X.K H w y∧Q z H
section
variable {X:Cx} {H0:Hp} {O0:List Addr} {ps:PSt} {a b c e:Expr} {es rest:List Expr} {pos p:Pos} {u x y:U} {xs ys us:List U} {i j:Int} {k m:Bool}
theorem Rp.out {K:PySem.W.Frag} {H:Hp} {O:List Addr} {v:V} {u:U} (h:Rp K (hid H O) v u):Rp K H v u:=h.same ay
theorem j6 {op:CmpOp} (ho:OpS X (compareOp op) x y (.bl k)) (ha:Ev X H0 O0 ps a x) (hb:Ev X H0 O0 ps b y) (hm:behindInMarks op b=false:=by first | exact sS _ | with_unfolding_all rfl):Ev X H0 O0 ps (.Compare a [op] [b] pos) (.bl k):=
 PE.mono (wt ho ha hb hm) fun σ H Q ⟨O,R,q⟩=> two R (fun _ _ _ z=> z) (fun _ _ _ z=> z) fun v w H' s _ r1 r2=> ⟨r1.out,r2.out,q _ H' s (.bl _)⟩
theorem aO {op:CmpOp} (ho:OpS X (compareOp op) x y (.bl k)) (ha:Ev X H0 O0 ps a x) (hb:Ev X H0 O0 ps b y) (hm:behindInMarks op b=false:=by first | exact sS _ | with_unfolding_all rfl):Tt X H0 O0 ps (.Compare a [op] [b] pos) k:=
 PT.mono (v6 ho ha hb hm) fun σ H Q ⟨O,R,q⟩=> two R (fun _ _ _ z=> z) (fun _ _ _ z=> z) fun v w H' s _ r1 r2=> ⟨r1.out,r2.out,_,rfl,q H' s⟩
theorem pG {op:CmpOp} {g:Int→Int→Bool} (ho:OpR X (compareOp op) (rI0 fun i j=> .bl (g i j))):OpS X (compareOp op) (.int i) (.int j) (.bl (g i j)):=by
 intro pins s σ H v w p q Q I r1 r2 h
 obtain ⟨h1,h2,h3⟩:=h
 cases h1; cases h2
 exact ho pins s σ H _ _ _ _ Q I r1 r2 ⟨i,j,rfl,rfl,h3⟩
theorem fg:OpS X (compareOp .Lt) (.int i) (.int j) (.bl (decide (i < j))):=pG An
theorem zV:OpS X (compareOp .LtE) (.int i) (.int j) (.bl (decide (i≤j))):=pG zE
theorem mq:OpS X (compareOp .Gt) (.int i) (.int j) (.bl (decide (j < i))):=pG zY
theorem AT:OpS X (compareOp .GtE) (.int i) (.int j) (.bl (decide (j≤i))):=pG zQ
theorem AF (hu:X.A.units+10 < cLine) (h1:okU 9 x=true) (h2:okU 9 y=true):OpS X (compareOp .Eq) x y (.bl (eqW x y)):=by
 intro pins s σ H v w p q Q I r1 r2 h
 obtain ⟨k1,k2,k3⟩:=h
 exact Ai I 9 X.A x y v w p q k1 k2 r1 r2 h1 h2 (by omega) X.prog X.w _ _ (aU I k3 rfl)
theorem Ax (hu:X.A.units+10 < cLine) (h1:okU 9 x=true) (h2:okU 9 y=true):OpS X (compareOp .NotEq) x y (.bl (!eqW x y)):=by
 intro pins s σ H v w p q Q I r1 r2 h
 obtain ⟨k1,k2,k3⟩:=h
 exact yb I 8 X.A x y v w p q k1 k2 r1 r2 h1 h2 (by omega) X.prog X.w _ _ (aU I k3 rfl)
theorem cQ:OpS X (compareOp .Eq) (.int i) (.int j) (.bl (decide (i=j))):=by
 intro pins s σ H v w p q Q I r1 r2 h
 obtain ⟨h1,h2,h3⟩:=h
 cases h1; cases h2
 exact Ab pins s σ H _ _ _ _ Q I r1 r2 ⟨rfl,by rw [iK,← Bool.beq_eq_decide_eq] at *; simpa [Bool.beq_eq_decide_eq] using h3⟩
theorem xu:OpS X (compareOp .NotEq) (.int i) (.int j) (.bl (!decide (i=j))):=by
 intro pins s σ H v w p q Q I r1 r2 h
 obtain ⟨h1,h2,h3⟩:=h
 cases h1; cases h2
 exact zP pins s σ H _ _ _ _ Q I r1 r2 ⟨rfl,by rw [iK]; simpa [Bool.beq_eq_decide_eq] using h3⟩
theorem eC (h:Ev X H0 O0 ps e (.bl k)) (he:∀ whole,isTrue e X.env whole=(do let v ← whole; standAt e.pos; holding [v] (truthy v)):=by intro _; rfl):Tt X H0 O0 ps e k:=
 PT.mono (yn h he) fun σ H Q ⟨O,R,q⟩=> ⟨O,R,fun v H' s r=> by cases r; exact ⟨_,rfl,q H' s⟩⟩
theorem fe (h:Tt X H0 O0 ps a k):Tt X H0 O0 ps (.UnaryOp .Not a pos) (!k):=PT.mono (y9 h) fun σ H Q ⟨O,R,q⟩=> ⟨O,R,q⟩
theorem Tw.t (h:Tw X H0 O0 ps e k):Tt X H0 O0 ps e k:=h.pt
theorem jO (h:Tt X H0 O0 ps a k):Tw X H0 O0 ps (.BoolOp .And [a] pos) k:=w9 h
theorem pI (h:Tt X H0 O0 ps a k):Tw X H0 O0 ps (.BoolOp .Or [a] pos) k:=y4 h
theorem kE (ha:Tt X H0 O0 ps a k) (hb:k=true→Tw X H0 O0 ps (.BoolOp .And (b::rest) pos) m):Tw X H0 O0 ps (.BoolOp .And (a::b::rest) pos) (k && m):=by
 cases k with
 | true=> exact PW.mono (t9 ha (hb rfl)) fun σ H Q ⟨O,R,q⟩=> ⟨O,R,fun H' s=> by exact n5 (⟨O,R.go s,fun H2 s2=> q H2 (s.trans s2)⟩)⟩
 | false=> exact PW.mono (t9 ha (fun _ _ _ _ _ _ _ h=> h.elim) (tB':=fun _ _ _=> False)) fun σ H Q ⟨O,R,q⟩=> ⟨O,R,fun H' s=> by exact n8 (q H' s)⟩
theorem vv (ha:Tt X H0 O0 ps a k) (hb:k=false→Tw X H0 O0 ps (.BoolOp .Or (b::rest) pos) m):Tw X H0 O0 ps (.BoolOp .Or (a::b::rest) pos) (k || m):=by
 cases k with
 | false=> exact PW.mono (xN ha (hb rfl)) fun σ H Q ⟨O,R,q⟩=> ⟨O,R,fun H' s=> by exact n8 (⟨O,R.go s,fun H2 s2=> q H2 (s.trans s2)⟩)⟩
 | true=> exact PW.mono (xN ha (fun _ _ _ _ _ _ _ h=> h.elim) (tB':=fun _ _ _=> False)) fun σ H Q ⟨O,R,q⟩=> ⟨O,R,fun H' s=> by exact n5 (q H' s)⟩
theorem f_ {op} (h:Ev X H0 O0 ps a u):Ev X H0 O0 ps (.BoolOp op [a] pos) u:=yw h
theorem eV (ha:Ev X H0 O0 ps a (.bl k)) (hb:k=true→Ev X H0 O0 ps (.BoolOp .And (b::rest) pos) (.bl m)):Ev X H0 O0 ps (.BoolOp .And (a::b::rest) pos) (.bl (k && m)):=by
 cases k with
 | true=> exact PE.mono (ud ha (hb rfl)) fun σ H Q ⟨O,R,q⟩=> ⟨O,R,fun v H' s r=> by cases r; exact ⟨_,rfl,by exact n5 (⟨O,R.go s,fun v H2 s2 r2=> q v H2 (s.trans s2) r2⟩)⟩⟩
 | false=> exact PE.mono (ud ha (fun _ _ _ _ _ _ h=> h.elim) (tb:=fun _ _ _=> False)) fun σ H Q ⟨O,R,q⟩=> ⟨O,R,fun v H' s r=> by cases r; exact ⟨_,rfl,by exact n8 (q _ H' s (.bl _))⟩⟩
theorem gx (ha:Ev X H0 O0 ps a (.bl k)):Ev X H0 O0 ps (.UnaryOp .Not a pos) (.bl (!k)):=PE.mono (yA ha) fun σ H Q ⟨O,R,q⟩=> ⟨O,R,fun v H' s r=> by cases r; exact ⟨_,rfl,q _ H' s (.bl _)⟩⟩
theorem xO {c:Expr} (hc:Tt X H0 O0 ps c k) (ha:k=true→Ev X H0 O0 ps a u) (hb:k=false→Ev X H0 O0 ps b u):Ev X H0 O0 ps (.IfExp c a b pos) u:=by
 cases k with
 | true=> exact PE.mono (nA hc (ha rfl) (fun _ _ _ _ _ _ h=> h.elim) (tb:=fun _ _ _=> False)) fun σ H Q ⟨O,R,q⟩=> ⟨O,R,fun H' s=> by exact n5 (⟨O,R.go s,fun v H2 s2 r2=> q v H2 (s.trans s2) r2⟩)⟩
 | false=> exact PE.mono (nA hc (fun _ _ _ _ _ _ h=> h.elim) (hb rfl) (ta:=fun _ _ _=> False)) fun σ H Q ⟨O,R,q⟩=> ⟨O,R,fun H' s=> by exact n8 (⟨O,R.go s,fun v H2 s2 r2=> q v H2 (s.trans s2) r2⟩)⟩
theorem am:EvA X H0 O0 ps [] []:=PA.mono ii fun σ H Q ⟨O,R,q⟩=> q [] H (.refl H) .nil
theorem ac (ha:Ev X H0 O0 ps e u) (hr:EvA X H0 O0 ps es us) (hs:starEach (e::es) X.env=(false,eval e X.env)::starEach es X.env:=by rfl):EvA X H0 O0 ps (e::es) (u::us):=
 PA.mono (eN ha hr hs) fun σ H Q ⟨O,R,q⟩=> ⟨O,R,fun v H1 s1 r1=> ⟨O,R.go s1,fun vs H2 s2 r2=> q _ H2 (s1.trans s2) (.cons (r1.same (bD s2)) r2)⟩⟩
theorem Rs.hidnew {K:PySem.W.Frag} {σ:St} {H:Hp} {O:List Addr} (R:Rs K H0 O0 ps σ H O) {p:Addr} {o:HO} (n:H p=none):hid (upd H p o) O p=some o:=dH aX fun z=> R.dom p z n
theorem As {x1} (h:EvA X H0 O0 ps es us) (hz:us.length≤sizeLine:=by first | decide | (simp only [List.length_cons,List.length_nil]; decide)):Ev X H0 O0 ps (.Tuple es x1 pos) (.tup us):=
 PE.mono (yu h) fun σ H Q ⟨O,R,q⟩=> ⟨O,R,fun vs H1 s1 r1=> ⟨by rw [r1.len]; exact hz,fun p hp=> by
  have s2:=bn hp (.tup vs)
  have r2:=r1.same (bD (O:=O) s2)
  exact q _ _ (s1.trans s2) (.tup (SqT.of ((R.go s1).hidnew hp)) r2.len r2.at_)⟩⟩
theorem zN (h:EvA X H0 O0 ps es us) (hz:us.length≤sizeLine:=by first | decide | (simp only [List.length_cons,List.length_nil]; decide)):EvN X H0 O0 ps (.List es pos) us:=
 PE.mono (yl h) fun σ H Q ⟨O,R,q⟩=> ⟨O,R,fun vs H1 s1 r1=> ⟨by rw [r1.len]; exact hz,fun p hp=> by
  exact q p vs _ (s1.trans (bn hp _)) (s1.free hp) aX (r1.same (bX (bn hp _) hp))⟩⟩
theorem aH (ha:Ev X H0 O0 ps a x) (hb:Ev X H0 O0 ps b (.int i)) (hx:x.items=some xs) (hi:atI xs i=some u) (hs:kU b:=by intro _ _; rfl):Ev X H0 O0 ps (.Subscript a b pos) u:=
 PE.mono (xL (qe.or yV) ha hb hs) fun σ H Q ⟨O,R,q⟩=> two (y:=.int i) R (fun _ _ _ z=> z) (fun _ _ _ z=> z) fun v w H' s _ r1 r2=> by
  cases r2
  cases r1 with
  | scr h hl hh=> cases hx; obtain ⟨z,h1,h2⟩:=Rps.atI ⟨hl,hh⟩ hi; exact .inl ⟨_,_,i,z,rfl,rfl,ay.seq h,h1,q z H' s h2⟩
  | lst h hl hh=> cases hx; obtain ⟨z,h1,h2⟩:=Rps.atI ⟨hl,hh⟩ hi; exact .inl ⟨_,_,i,z,rfl,rfl,ay.seq (SqL.of h),h1,q z H' s h2⟩
  | tup h hl hh=> cases hx; obtain ⟨z,h1,h2⟩:=Rps.atI ⟨hl,hh⟩ hi; exact .inr ⟨_,_,i,z,rfl,rfl,ay.tup h,h1,q z H' s h2⟩
  | _=> cases hx
theorem qh (n:Nat) {x:Str} (h:ps[n]?=some (some (.own xs))) (hb:Ev X H0 O0 ps b (.int i)) (hi:atI xs i=some u) (hN:X.N[n]?=some x:=by rfl) (hv:Vis X.env.scope x:=by first | exact Or.inl rfl | exact Or.inr (Or.inl rfl) | exact Or.inr (Or.inr rfl)) (hd:(x==("__debug__":Str))=false:=by decide)
  (hcd:(x==("__classdict__":Str))=false:=by decide) (hs:kU b:=by intro _ _; rfl):Ev X H0 O0 ps (.Subscript (.Name x p) b pos) u:=
 PE.mono (xL qe (g7 hN hv hd hcd) hb hs) fun σ H Q ⟨O,R,q⟩=> by
  obtain ⟨v,h1,a,vs,rfl,h3,h4,h5,h6⟩:=R.at_ n _ h
  refine ⟨_,h1,O,R,fun w H' s r=> ?_⟩
  cases r
  obtain ⟨z,k1,k2⟩:=h6.atI hi
  exact ⟨a,vs,i,z,rfl,rfl,SqL.of (s _ _ h5),k1,q z H' s (k2.same (bD s))⟩
def e7 (X:Cx) (f:Value) (us:List U) (u:U):Prop:=dj X f fun vs H Q=> ∃ O,(∀ a∈O,H a≠none)∧Rps X.K (hid H O) vs us∧∀ v H',aI H H'→Rp X.K (hid H' O) v u→Q v H'
def xD (X:Cx) (f:Value) (us:List U) (xs:List U):Prop:=dj X f fun vs H Q=> ∃ O,(∀ a∈O,H a≠none)∧Rps X.K (hid H O) vs us∧∀ a vs H',aI H H'→H a=none→H' a=some (.lst vs)→Rps X.K (hid H' (a::O)) vs xs→Q (.ref a) H'
theorem ao {id:String} {f:Str} (hc:e7 X (.builtin id) us u) (hg:Gl X f) (hm:X.mg f=none) (hv:bootBuiltins f=some (.builtin id)) (ha:EvA X H0 O0 ps (e::es) us) (hn:f≠"__name__":=by decide) (hdb:(f==("__debug__":Str))=false:=by decide)
  (he:starEach (e::es) X.env=(false,eval e X.env)::starEach es X.env:=by rfl) (hpl:(backTo pos (starEach es X.env)).any (·.1)=false:=by rfl):Ev X H0 O0 ps (.Call (.Name f p) (e::es) [] pos) u:=
 PE.mono (mX hc hg hm hv ha hn hdb he hpl) fun σ H Q ⟨O,R,q⟩=> ⟨O,R,fun vs H1 s1 r1=> ⟨O,(R.go s1).dom,r1,fun v H2 s2 r2=> q v H2 (s1.trans s2) r2⟩⟩
theorem vK {id:String} {f:Str} (hc:xD X (.type id) us xs) (hg:Gl X f) (hm:X.mg f=none) (hv:bootBuiltins f=some (.type id)) (ha:EvA X H0 O0 ps (e::es) us) (hn:f≠"__name__":=by decide) (hdb:(f==("__debug__":Str))=false:=by decide)
  (he:starEach (e::es) X.env=(false,eval e X.env)::starEach es X.env:=by rfl) (hpl:(backTo pos (starEach es X.env)).any (·.1)=false:=by rfl):EvN X H0 O0 ps (.Call (.Name f p) (e::es) [] pos) xs:=
 PE.mono (qF hc hg hm hv ha hn hdb he hpl) fun σ H Q ⟨O,R,q⟩=> ⟨O,R,fun vs H1 s1 r1=> ⟨O,(R.go s1).dom,r1,fun a vs H2 s2 n h r2=> q a vs H2 (s1.trans s2) (s1.free n) h r2⟩⟩
theorem cX {K:PySem.W.Frag} {H:Hp} {vs:List V} (h:Rps K H vs [x]):∃ v,vs=[v]∧Rp K H v x:=by
 obtain ⟨v,ws,rfl,h1,h2⟩:=h.cons_inv
 rw [h2.nil_inv]
 exact ⟨v,rfl,h1⟩
theorem iS {K:PySem.W.Frag} {H:Hp} {vs:List V} (h:Rps K H vs [x,y]):∃ v w,vs=[v,w]∧Rp K H v x∧Rp K H w y:=by
 obtain ⟨v,ws,rfl,h1,h2⟩:=h.cons_inv
 obtain ⟨w,rfl,h3⟩:=cX h2
 exact ⟨v,w,rfl,h1,h3⟩
theorem dj.mono {f:Value} {r r':List V→Hp→VK→Prop} (h:dj X f r) (m:∀ vs H Q,r' vs H Q→r vs H Q):dj X f r':=fun pins s σ H vs us Q I v q=> h pins s σ H vs us Q I v (m vs H Q q)
theorem lI {K:PySem.W.Frag} {H:Hp} {v:V} (h:Rp K H v x) (hx:x.items=some xs):∃ a vs,v=.ref a∧(SqL K H a vs∨SqT K H a vs)∧Rps K H vs xs:=by
 cases h with
 | scr h hl hh=> cases hx; exact ⟨_,_,rfl,.inl h,hl,hh⟩
 | lst h hl hh=> cases hx; exact ⟨_,_,rfl,.inl (SqL.of h),hl,hh⟩
 | tup h hl hh=> cases hx; exact ⟨_,_,rfl,.inr h,hl,hh⟩
 | _=> cases hx
theorem p_ {K:PySem.W.Frag} {H:Hp} {O:List Addr} {a:Addr} {vs:List V} (h:SqL K (hid H O) a vs∨SqT K (hid H O) a vs):SqL K H a vs∨SqT K H a vs:=h.imp (fun z=> ay.seq z) fun z=> ay.tup z
theorem df (hx:x.items=some xs):e7 X (.builtin "len") [x] (.int xs.length):=dj.mono gL fun vs H Q ⟨O,d,r,q⟩=> by
 obtain ⟨v,rfl,h⟩:=cX r
 obtain ⟨a,ws,rfl,h1,h2⟩:=lI h hx
 exact ⟨a,ws,rfl,p_ h1,by rw [h2.len]; exact q _ H (.refl H) (.int _)⟩
theorem y8 (n:Nat) {x:Str} (h:ps[n]?=some (some (.own xs))) (hg:Gl X "len") (hm:X.mg "len"=none) (hN:X.N[n]?=some x:=by rfl) (hv:Vis X.env.scope x:=by first | exact Or.inl rfl | exact Or.inr (Or.inl rfl) | exact Or.inr (Or.inr rfl)) (hd:(x==("__debug__":Str))=false:=by decide)
  (hcd:(x==("__classdict__":Str))=false:=by decide) {pc p':Pos} (hs:starEach [.Name x p'] X.env=(false,eval (.Name x p') X.env)::starEach [] X.env:=by rfl) (hpl:(backTo pos (starEach [] X.env)).any (·.1)=false:=by rfl):Ev X H0 O0 ps (.Call (.Name "len" pc) [.Name x p'] [] pos) (.int xs.length):=
 PE.mono (mX gL hg hm PySem.boot_len (eN (g7 hN hv hd hcd) ii hs) (by decide) (by decide) hs hpl) fun σ H Q ⟨O,R,q⟩=> by
  obtain ⟨v,h1,a,vs,rfl,h3,h4,h5,h6⟩:=R.at_ n _ h
  exact ⟨_,h1,a,vs,rfl,.inl (SqL.of h5),by rw [h6.len]; exact q _ H (.refl H) (.int _)⟩
theorem p9:e7 X (.builtin "abs") [.int i] (.int (if i < 0 then -i else i)):=dj.mono vx fun vs H Q ⟨O,d,r,q⟩=> by
 obtain ⟨v,rfl,h⟩:=cX r
 cases h
 exact ⟨i,rfl,q _ H (.refl H) (.int _)⟩
theorem tX (hc:X.calm=true):e7 X (.builtin "max") [.int i,.int j] (.int (if j > i then j else i)):=dj.mono (rH hc) fun vs H Q ⟨O,d,r,q⟩=> by
 obtain ⟨v,w,rfl,h,h2⟩:=iS r
 cases h; cases h2
 exact ⟨i,j,rfl,q _ H (.refl H) (.int _)⟩
theorem uG (hc:X.calm=true):e7 X (.builtin "min") [.int i,.int j] (.int (if j < i then j else i)):=dj.mono (rN hc) fun vs H Q ⟨O,d,r,q⟩=> by
 obtain ⟨v,w,rfl,h,h2⟩:=iS r
 cases h; cases h2
 exact ⟨i,j,rfl,q _ H (.refl H) (.int _)⟩
theorem zn (hx:x.items=some xs):xD X (.type "list") [x] xs:=dj.mono ly fun vs H Q ⟨O,d,r,q⟩=> by
 obtain ⟨v,rfl,h⟩:=cX r
 obtain ⟨a,ws,rfl,h1,h2⟩:=lI h hx
 exact ⟨a,ws,rfl,p_ h1,fun l hl=> q l ws _ (bn hl _) hl aX (h2.same (bX (bn hl _) hl))⟩
def tyU:U→Value
 | .non=> .type "NoneType" | .bl _=> .type "bool" | .int _=> .type "int" | .str _=> .type "str" | .ty _=> .type "type" | .dic=> .type "dict" | .scr _=> .type "list" | .tup _=> .type "tuple" | .lst _=> .type "list"
theorem aD {n:String} (hn:∀ m,x≠.ty m) (h:PySem.W.kitOne X.K (tyU x) (.type n)=some k):e7 X (.builtin "isinstance") [x,.ty (.nm n)] (.bl k):=by
 intro pins s σ H vs us Q I r hq
 obtain ⟨O,d,rs,q⟩:=hq
 obtain ⟨v,w,rfl,h1,h2⟩:=iS rs
 cases h2
 obtain ⟨p1,p2,rfl,r1,r2⟩:=jb r
 cases (show p2=Value.type n from r2)
 have fin:∀ tk,EP X pins σ Q (.bool k) { s with toks:=tk }:=fun tk=> ⟨.bl k,H,I.tok _,rfl,q _ H (.refl H) (.bl _)⟩
 cases h1 with
 | non=> exact dw I r1 .non h fin
 | bl b=> exact dw I r1 (.bl b) h fin
 | int b=> exact dw I r1 (.int b) h fin
 | str b=> exact dw I r1 (.str b) h fin
 | ty m=> exact absurd rfl (hn _)
 | dic e=> exact dw I r1 (.dK (ay _ _ e)) h fin
 | xc e kk=> exact absurd rfl (hn _)
 | scr e hl hh=>
  cases r1
  obtain ⟨its,_,pl,_⟩:=I.list (ay.seq e)
  obtain ⟨o,nn,e1,e2,_⟩:=pl
  exact PySem.W.kia_one PySem.W.kitx_list I.kIn ⟨o,e1,e2⟩ h (fun z=> nomatch z) fin
 | lst e hl hh=> exact dw I r1 (.lst (ay _ _ e)) h fin
 | tup e hl hh=>
  cases r1
  obtain ⟨its,_,pl,_⟩:=I.tuple (ay.tup e)
  obtain ⟨o,e1,e2,_⟩:=pl
  exact PySem.W.kia_one PySem.W.kitx_tuple I.kIn ⟨o,e1,e2⟩ h (fun z=> nomatch z) fin
end
end L2
namespace L2
open PySem PySem.Spec PyProof.Rows
inductive Out where
 | val (u:U) | new (xs:List U) | exc (C:Addr)
def lV (K:PySem.W.Frag) (H0:Hp) (O0:List Addr) (Q:VK) (E:XK):Out→Prop
 | .val u=> ∀ v H',aI H0 H'→Rp K (hid H' O0) v u→Q v H'
 | .new xs=> ∀ a vs H',aI H0 H'→H0 a=none→H' a=some (.lst vs)→Rps K (hid H' (a::O0)) vs xs→Q (.ref a) H'
 | .exc C=> ∀ H',aI H0 H'→E (.ref C) none H'
theorem lV.later {K:PySem.W.Frag} {H0 H1:Hp} {O0:List Addr} {Q:VK} {E:XK} {o:Out} (e:aI H0 H1) (h:lV K H0 O0 Q E o):lV K H1 O0 Q E o:=by
 cases o with
 | val u=> exact fun v H' s r=> h v H' (e.trans s) r
 | new xs=> exact fun a vs H' s n q r=> h a vs H' (e.trans s) (e.free n) q r
 | exc C=> exact fun H' s=> h H' (e.trans s)
structure PD where
 nx:PSt→Prop
 rt:Out→Prop
 bk:PSt→Prop:=fun _=> False
 ct:PSt→Prop:=fun _=> False
structure Lf (K:PySem.W.Frag) (H0:Hp) (O0:List Addr) (E:XK) (D:PD) (D':lQ):Prop where
 nx:∀ ps σ H O,Rs K H0 O0 ps σ H O→D.nx ps→D'.nx σ H
 bk:∀ ps σ H O,Rs K H0 O0 ps σ H O→D.bk ps→D'.bk σ H
 ct:∀ ps σ H O,Rs K H0 O0 ps σ H O→D.ct ps→D'.ct σ H
 rt:∀ o,D.rt o→lV K H0 O0 D'.rt E o
def Ws (X:Cx) (H0:Hp) (O0:List Addr) (E:XK) (ss:List Stmt) (D:PD) (ps:PSt):Prop:=PSs X ss fun D' σ H=> Lf X.K H0 O0 E D D'∧∃ O,Rs X.K H0 O0 ps σ H O
def W1 (X:Cx) (H0:Hp) (O0:List Addr) (E:XK) (s:Stmt) (D:PD) (ps:PSt):Prop:=PS X s fun D' σ H=> Lf X.K H0 O0 E D D'∧∃ O,Rs X.K H0 O0 ps σ H O
section
variable {X:Cx} {H0:Hp} {O0:List Addr} {E:XK} {ps ps':PSt} {D:PD} {s:Stmt} {ss body:List Stmt} {a b c e:Expr} {es:List Expr} {pos p:Pos} {u x y:U} {xs ys us:List U} {k:Bool}
theorem aY (h:D.nx ps):Ws X H0 O0 E [] D ps:=PSs.mono wy fun D' σ H ⟨L,O,R⟩=> L.nx ps σ H O R h
theorem af (h:W1 X H0 O0 E s { D with nx:=fun p=> Ws X H0 O0 E ss D p } ps):Ws X H0 O0 E (s::ss) D ps:=by
 have h2:PSs X ss fun D' σ H=> ∃ p,Ws X H0 O0 E ss D p∧Lf X.K H0 O0 E D D'∧∃ O,Rs X.K H0 O0 p σ H O:=fun pins s σ H D' I ⟨p,w,l,r⟩=> w pins s σ H D' I ⟨l,r⟩
 exact PSs.mono (uF h h2) fun D' σ H ⟨L,O,R⟩=> ⟨⟨fun p σ H O R q=> ⟨p,q,L,O,R⟩,L.bk,L.ct,L.rt⟩,O,R⟩
theorem gd (h:Ws X H0 O0 E ss D ps') (hs:SubP ps' ps):Ws X H0 O0 E ss D ps:=PSs.mono h fun D' σ H ⟨L,O,R⟩=> ⟨L,O,R.sub hs⟩
theorem aC {i:Nat} {x:Str} {pos':Pos} (hN:X.N.Nodup) (hi:X.N[i]?=some x) (hx:Loc X.env.scope x) (he:Ev X H0 O0 ps e u) (h:D.nx (ps.set i (some (.val u)))) (hs:swapsWith e (some (.Name x pos')) pos.line X.env=pure false:=by rfl) (hf:X.fn x=true∨X.env.scope.names.lookup x=some .local:=by first | exact .inl rfl | exact .inr rfl | assumption):
  W1 X H0 O0 E (.Assign [.Name x pos'] e pos) D ps:=PS.mono (vh hN hi hx he hs hf) fun D' σ H ⟨L,O,R⟩=> ⟨O,R,fun v H' s r=> L.nx _ _ _ O ((R.go s).set r) h⟩
theorem nU {i:Nat} {x:Str} {pos':Pos} (hN:X.N.Nodup) (hi:X.N[i]?=some x) (hx:Loc X.env.scope x) (he:EvN X H0 O0 ps e xs) (h:D.nx (ps.set i (some (.own xs)))) (hs:swapsWith e (some (.Name x pos')) pos.line X.env=pure false:=by rfl) (hf:X.fn x=true∨X.env.scope.names.lookup x=some .local:=by first | exact .inl rfl | exact .inr rfl | assumption):
  W1 X H0 O0 E (.Assign [.Name x pos'] e pos) D ps:=PS.mono (vh hN hi hx he hs hf) fun D' σ H ⟨L,O,R⟩=> ⟨O,R,fun a vs H' s n q r=> L.nx _ _ _ _ (R.own s n q r) h⟩
theorem fQ {tb fb:List Stmt} (hc:Tt X H0 O0 ps c k) (h1:k=true→Ws X H0 O0 E tb D ps) (h2:k=false→Ws X H0 O0 E fb D ps):W1 X H0 O0 E (.If c tb fb pos) D ps:=by
 cases k with
 | true=> exact PS.mono (xE hc (h1 rfl) (fun _ _ _ _ _ _ h=> h.elim) (u:=fun _ _ _=> False)) fun D' σ H ⟨L,O,R⟩=> ⟨O,R,fun H' s=> n5 ⟨L,O,R.go s⟩⟩
 | false=> exact PS.mono (xE hc (fun _ _ _ _ _ _ h=> h.elim) (h2 rfl) (t:=fun _ _ _=> False)) fun D' σ H ⟨L,O,R⟩=> ⟨O,R,fun H' s=> n8 ⟨L,O,R.go s⟩⟩
theorem Rs.ret {K:PySem.W.Frag} {σ:St} {H:Hp} {O:List Addr} {v:V} (R:Rs K H0 O0 ps σ H O) (r:Rp K (hid H O) v u):Rp K (hid H O0) v u:=r.same (d8 R.old)
theorem aF (he:Ev X H0 O0 ps e u) (h:D.rt (.val u)):W1 X H0 O0 E (.Return (some e) pos) D ps:=
 PS.mono (oj he) fun D' σ H ⟨L,O,R⟩=> ⟨O,R,fun v H' s r=> L.rt _ h v H' (R.same.trans s) ((R.go s).ret r)⟩
theorem fu (he:EvN X H0 O0 ps e xs) (h:D.rt (.new xs)):W1 X H0 O0 E (.Return (some e) pos) D ps:=
 PS.mono (oj he) fun D' σ H ⟨L,O,R⟩=> ⟨O,R,fun a vs H' s n q r=> L.rt _ h a vs H' (R.same.trans s) (R.same.free n) q (r.same (d8 fun b hb=> by
  rcases List.mem_cons.mp hb with y | y
  ·subst y; exact List.mem_cons_self
  ·exact List.mem_cons_of_mem _ (R.old b y)))⟩
theorem jL (i:Nat) {x:Str} (hp:ps[i]?=some (some (.own xs))) (h:D.rt (.new xs)) (hN:X.N[i]?=some x:=by rfl) (hv:Vis X.env.scope x:=by first | exact Or.inl rfl | exact Or.inr (Or.inl rfl) | exact Or.inr (Or.inr rfl)) (hd:(x==("__debug__":Str))=false:=by decide)
  (hcd:(x==("__classdict__":Str))=false:=by decide):W1 X H0 O0 E (.Return (some (.Name x p)) pos) D ps:=
 PS.mono (oj (g7 hN hv hd hcd)) fun D' σ H ⟨L,O,R⟩=> by
  obtain ⟨v,h1,a,vs,rfl,h3,h4,h5,h6⟩:=R.at_ i _ hp
  refine ⟨_,h1,L.rt _ h a vs H R.same ((R.new a h3).resolve_left h4) h5 (h6.same (d8 fun b hb=> ?_))⟩
  rcases List.mem_cons.mp hb with y | y
  ·subst y; exact h3
  ·exact R.old b y
theorem yf (he:Ev X H0 O0 ps e u) (h:D.nx ps) (hs:swapsWith e none pos.line X.env=pure false:=by rfl):W1 X H0 O0 E (.Expr e pos) D ps:=
 PS.mono (iG he hs) fun D' σ H ⟨L,O,R⟩=> ⟨O,R,fun v H' s r=> L.nx _ _ _ O (R.go s) h⟩
theorem Au {i:Nat} {x:Str} {op:Operator} {pos':Pos} {n m:Int} {g:Int→Int→Int} (ho:PIp X op (ipI g)) (hN:X.N.Nodup) (hi:X.N[i]?=some x) (hx:Loc X.env.scope x) (hp:ps[i]?=some (some (.val (.int n)))) (he:Ev X H0 O0 ps e (.int m)) (h:D.nx (ps.set i (some (.val (.int (g n m))))))
  (hf:X.fn x=true∨X.env.scope.names.lookup x=some .local:=by first | exact .inl rfl | exact .inr rfl | assumption):W1 X H0 O0 E (.AugAssign (.Name x pos') op e pos) D ps:=
 PS.mono (xX hN hi hx he ho hf) fun D' σ H ⟨L,O,R⟩=> by
  obtain ⟨v,h1,h2⟩:=R.at_ i _ hp
  cases h2
  refine ⟨_,h1,O,R,fun v H' s r=> ?_⟩
  cases r
  exact ⟨n,m,rfl,rfl,L.nx _ _ _ O ((R.go s).set (.int _)) h⟩
theorem jl (i:Nat) {x:Str} {apos cpos xp:Pos} (hp:ps[i]?=some (some (.own xs))) (ha:Ev X H0 O0 ps e u) (hz:xs.length < sizeLine) (h:D.nx (ps.set i (some (.own (xs++[u])))))
  (hN:X.N[i]?=some x:=by rfl) (hv:Vis X.env.scope x:=by first | exact Or.inl rfl | exact Or.inr (Or.inl rfl) | exact Or.inr (Or.inr rfl)) (hd:(x==("__debug__":Str))=false:=by decide) (hcd:(x==("__classdict__":Str))=false:=by decide)
  (hbase:attributeBase (.Name x xp) "append" X.env (eval (.Name x xp) X.env)=eval (.Name x xp) X.env:=by rfl)
  (hfew:((backTo cpos (starEach [e] X.env)).all (fun x=> !x.1) && (backToKw cpos (keywordEach [] X.env)).all (fun x=> x.1.isSome) && decide ([e].length+([]:List Keyword).length+(if ([]:List Keyword).isEmpty then 0 else 1) < 30))=true:=by rfl)
  (hline:(apos.endLine==cpos.line)=true:=by rfl) (hse:starEach [e] X.env=(false,eval e X.env)::starEach [] X.env:=by rfl) (hplain:(backTo cpos (starEach [] X.env)).any (·.1)=false:=by rfl)
  (hs:swapsWith (.Call (.Attribute (.Name x xp) "append" apos) [e] [] cpos) none pos.line X.env=pure false:=by rfl):W1 X H0 O0 E (.Expr (.Call (.Attribute (.Name x xp) "append" apos) [e] [] cpos) pos) D ps:=
 PS.mono (iG (zB PySem.F.plainAttrs_list PySem.F.slot_list_append PySem.F.type_list_append h7 (g7 hN hv hd hcd) (eN ha ii hse) hbase hfew hline hse hplain) hs) fun D' σ H ⟨L,O,R⟩=> by
  obtain ⟨v,h1,a,vs,rfl,h3,h4,h5,h6⟩:=R.at_ i _ hp
  refine ⟨_,h1,.inl ⟨rfl,_,SqL.of h5⟩,O,R,fun w H' s r=> ⟨a,vs,w,rfl,rfl,s _ _ h5,by rw [h6.len]; exact hz,?_⟩⟩
  exact L.nx _ _ _ O ((R.go s).write hp h1 ((h6.same (bD s)).snoc (.cons r .nil))) h
theorem xz (i:Nat) {x:Str} {apos cpos xp:Pos} (hp:ps[i]?=some (some (.own xs))) (hne:xs≠[]) (h:D.nx (ps.set i (some (.own xs.dropLast))))
  (hN:X.N[i]?=some x:=by rfl) (hv:Vis X.env.scope x:=by first | exact Or.inl rfl | exact Or.inr (Or.inl rfl) | exact Or.inr (Or.inr rfl)) (hd:(x==("__debug__":Str))=false:=by decide) (hcd:(x==("__classdict__":Str))=false:=by decide)
  (hbase:attributeBase (.Name x xp) "pop" X.env (eval (.Name x xp) X.env)=eval (.Name x xp) X.env:=by rfl)
  (hline:(apos.endLine==cpos.line)=true:=by rfl)
  (hs:swapsWith (.Call (.Attribute (.Name x xp) "pop" apos) [] [] cpos) none pos.line X.env=pure false:=by rfl):W1 X H0 O0 E (.Expr (.Call (.Attribute (.Name x xp) "pop" apos) [] [] cpos) pos) D ps:=
 PS.mono (iG (yJ PySem.F.plainAttrs_list PySem.F.slot_list_pop PySem.F.type_list_pop zf (g7 hN hv hd hcd) hbase hline) hs) fun D' σ H ⟨L,O,R⟩=> by
  obtain ⟨v,h1,a,vs,rfl,h3,h4,h5,h6⟩:=R.at_ i _ hp
  have hpos:0 < vs.length:=by rw [h6.len]; exact List.length_pos_iff.mpr hne
  have hlt:vs.length - 1 < vs.length:=by omega
  refine ⟨_,h1,.inl ⟨rfl,_,SqL.of h5⟩,a,vs,vs[vs.length - 1],rfl,rfl,h5,List.getElem?_eq_getElem hlt,?_⟩
  refine L.nx _ _ _ O (R.write hp h1 ⟨by simp [h6.len],fun j v x e1 e2=> ?_⟩) h
  rw [List.getElem?_dropLast] at e1 e2
  split at e1
  ·split at e2
   ·exact h6.at_ j v x e1 e2
   ·cases e2
  ·cases e1
end
end L2
namespace L2
open PySem PySem.Spec PyProof.Rows
def lj:List Nat→TGs
 | []=> zG
 | j::js=> xU (kB j) (lj js)
def setAll:PSt→List Nat→List U→PSt
 | ps,j::js,u::us=> setAll (ps.set j (some (.val u))) js us
 | ps,_,_=> ps
def iQ:St→List Nat→List V→St
 | σ,j::js,u::us=> iQ (σ.set j (some u)) js us
 | σ,_,_=> σ
theorem Rs.setAll {K:PySem.W.Frag} {H0:Hp} {O0:List Addr} {H:Hp} {O:List Addr}:∀ {js:List Nat} {ps:PSt} {σ:St} {vs:List V} {us:List U},Rs K H0 O0 ps σ H O→Rps K (hid H O) vs us→Rs K H0 O0 (L2.setAll ps js us) (iQ σ js vs) H O
 | [],ps,σ,vs,us,R,r=> by cases us <;> cases vs <;> exact R
 | j::js,ps,σ,vs,[],R,r=> by rw [r.nil_inv]; exact R
 | j::js,ps,σ,vs,u::us,R,r=> by
  obtain ⟨v,ws,rfl,h1,h2⟩:=r.cons_inv
  exact Rs.setAll (js:=js) (R.set h1) h2
theorem fL {Q:St→Hp→Prop} {H:Hp}:∀ {js:List Nat} {σ:St} {vs:List V},vs.length=js.length→Q (iQ σ js vs) H→lj js vs σ H Q
 | [],σ,[],_,q=> ⟨rfl,q⟩
 | j::js,σ,v::vs,e,q=> ⟨v,vs,rfl,fL (js:=js) (by simpa using e) q⟩
 | [],_,_::_,e,_=> by simp at e
 | _::_,_,[],e,_=> by simp at e
def TgS (X:Cx) (H0:Hp) (O0:List Addr) (tg:Expr) (ps:PSt) (u:U) (ps':PSt):Prop:=
 PG X tg fun v σ H Q=> ∃ O,Rs X.K H0 O0 ps σ H O∧Rp X.K (hid H O) v u∧∀ σ' H',aI H H'→Rs X.K H0 O0 ps' σ' H' O→Q σ' H'
theorem PG.mono {X:Cx} {e:Expr} {t t':TG} (h:PG X e t) (m:∀ v σ H Q,t' v σ H Q→t v σ H Q):PG X e t':=fun pins s σ H v u Q I r q=> h pins s σ H v u Q I r (m v σ H Q q)
theorem PI.mono {X:Cx} {tg e:Expr} {t t':TI} (h:PI X tg e t) (m:∀ σ H Q,t' σ H Q→t σ H Q):PI X tg e t':=fun pins s σ H Q I q=> h pins s σ H Q I (m σ H Q q)
def Yl (K:PySem.W.Frag) (J:It) (G:Hp) (xs:List U):Prop:=
 ∀ H2,aI G H2→(∀ i,i < xs.length→J.go i H2∧∀ x H3,J.yld i H2 x H3→H3=H2∧∃ u,xs[i]?=some u∧Rp K G x u)∧J.stop xs.length H2
def EvI (X:Cx) (H0:Hp) (O0:List Addr) (ps:PSt) (tg iter:Expr) (xs:List U):Prop:=
 PI X tg iter fun σ H R=> ∃ O,Rs X.K H0 O0 ps σ H O∧∀ J H',aI H H'→Yl X.K J (hid H' O) xs→R J H'
section
variable {X:Cx} {H0:Hp} {O0:List Addr} {E:XK} {ps ps':PSt} {D:PD} {s:Stmt} {ss body:List Stmt} {a b c e tg iter:Expr} {es:List Expr} {pos p:Pos} {u x y:U} {xs ys us:List U} {k:Bool}
theorem g8 {i:Nat} {x:Str} (hN:X.N.Nodup) (hi:X.N[i]?=some x) (hx:Loc X.env.scope x) (hf:X.fn x=true∨X.env.scope.names.lookup x=some .local:=by first | exact .inl rfl | exact .inr rfl | assumption):TgS X H0 O0 (.Name x pos) ps u (ps.set i (some (.val u))):=
 PG.mono (bF hN hi hx hf) fun v σ H Q ⟨O,R,r,q⟩=> q _ H (.refl H) (R.set r)
theorem zK {k:Nat} (js:List Nat) (hc:X.calm=true) (h:PGs X es (lj js)) (hx:x=.lst us∨x=.scr us) (hl:us.length=js.length) (hn:(assignEach es X.env).length=js.length:=by rfl) (hst:(assignEach es X.env).findIdx? (·.1)=none:=by rfl):TgS X H0 O0 (.Tuple es k pos) ps x (setAll ps js us):=
 PG.mono (yR hc h hn hst) fun v σ H Q ⟨O,R,r,q⟩=> by
  rcases hx with rfl | rfl
  ·cases r with
   | lst hq hl' hh=> exact ⟨_,_,rfl,ay.seq (SqL.of hq),hl'.trans hl,fL (hl'.trans hl) (q _ H (.refl H) (R.setAll ⟨hl',hh⟩))⟩
  ·cases r with
   | scr hq hl' hh=> exact ⟨_,_,rfl,ay.seq hq,hl'.trans hl,fL (hl'.trans hl) (q _ H (.refl H) (R.setAll ⟨hl',hh⟩))⟩
theorem zq (he:Ev X H0 O0 ps e u) (hg:TgS X H0 O0 tg ps u ps') (h:D.nx ps') (hs:swapsWithSole [tg] e pos.line X.env=pure false:=by rfl) (hw:swappedStores [tg] e X.env=pure none:=by rfl)
  (h1:(assignEach [tg] X.env).map (·.2)=[assign tg X.env]:=by rfl):W1 X H0 O0 E (.Assign [tg] e pos) D ps:=
 PS.mono (yc he hg hs hw h1) fun D' σ H ⟨L,O,R⟩=> ⟨O,R,fun v H1 s1 r1=> ⟨O,R.go s1,r1,fun σ' H2 s2 R2=> L.nx _ _ _ O R2 h⟩⟩
theorem eQ (he:Ev X H0 O0 ps iter x) (hx:x=.lst xs∨x=.scr xs):EvI X H0 O0 ps tg iter xs:=
 PI.mono (vQ he) fun σ H Q ⟨O,R,q⟩=> ⟨O,R,fun v H' s r=> by
  have key:∃ a vs,v=.ref a∧SqL X.K (hid H' O) a vs∧Rps X.K (hid H' O) vs xs:=by
   rcases hx with rfl | rfl
   ·cases r with
    | lst hq hl hh=> exact ⟨_,_,rfl,SqL.of hq,hl,hh⟩
   ·cases r with
    | scr hq hl hh=> exact ⟨_,_,rfl,hq,hl,hh⟩
  obtain ⟨a,vs,rfl,hq,rs⟩:=key
  refine ⟨a,rfl,⟨vs,ay.seq hq⟩,q _ H' s fun H2 s2=> ⟨fun i hi=> ?_,⟨vs,s2.seq hq,by rw [rs.len]; exact Nat.le_refl _⟩⟩⟩
  have hi':i < vs.length:=by rw [rs.len]; exact hi
  refine ⟨⟨vs,vs[i],s2.seq hq,List.getElem?_eq_getElem hi'⟩,fun z H3 y=> ⟨y.1,xs[i],List.getElem?_eq_getElem hi,rs.at_ i z _ (y.2 vs (s2.seq hq)) (List.getElem?_eq_getElem hi)⟩⟩⟩
theorem zu (he:Ev X H0 O0 ps iter (.tup xs)):EvI X H0 O0 ps tg iter xs:=
 PI.mono (y_ he) fun σ H Q ⟨O,R,q⟩=> ⟨O,R,fun v H' s r=> by
  cases r with
  | @tup a vs _ hq hl hh=>
   have rs:Rps X.K (hid H' O) vs xs:=⟨hl,hh⟩
   refine ⟨a,rfl,⟨vs,ay.tup hq⟩,q _ H' s fun H2 s2=> ⟨fun i hi=> ?_,⟨vs,s2.tup hq,by rw [rs.len]; exact Nat.le_refl _⟩⟩⟩
   have hi':i < vs.length:=by rw [rs.len]; exact hi
   refine ⟨⟨vs,vs[i],s2.tup hq,List.getElem?_eq_getElem hi'⟩,fun z H3 y=> ⟨y.1,xs[i],List.getElem?_eq_getElem hi,rs.at_ i z _ (y.2 vs (s2.tup hq)) (List.getElem?_eq_getElem hi)⟩⟩⟩
def e6 (lo:Int) (n:Nat):List U:=(List.range n).map fun (i:Nat)=> U.int (lo+(i:Int))
theorem cT {lo:Int} {n:Nat}:(e6 lo n).length=n:=by simp [e6]
theorem kF {lo:Int} {n i:Nat} (h:i < n):(e6 lo n)[i]?=some (.int (lo+(i:Int))):=by
 unfold e6
 rw [List.getElem?_map,List.getElem?_range h]; rfl
theorem eR {lo:Int} {n i:Nat} {x:U} (h:(e6 lo n)[i]?=some x):i < n∧x=.int (lo+(i:Int)):=by
 have hi:=aP h
 rw [cT] at hi
 rw [kF hi] at h
 exact ⟨hi,(Option.some.inj h).symm⟩
theorem mG {K:PySem.W.Frag} {G:Hp} {lo:Int} {n:Nat}:Yl K (Itr lo n) G (e6 lo n):=fun H2 s2=> by
 rw [cT]
 refine ⟨fun i hi=> ⟨hi,fun z H3 y=> ⟨y.1,_,kF hi,?_⟩⟩,Nat.le_refl _⟩
 rw [y.2]; exact .int _
theorem t8 {j:Int} (hg:Gl X "range") (hm:X.mg "range"=none) (ha:EvA X H0 O0 ps [a] [.int j]) (h1:-(2 ^ 62)≤j) (h2:j < 2 ^ 62) (hs:starEach [a] X.env=[(false,eval a X.env)]:=by rfl):EvI X H0 O0 ps tg (.Call (.Name "range" p) [a] [] pos) (e6 0 j.toNat):=
 PI.mono (rA hg hm ha hs) fun σ H Q ⟨O,R,q⟩=> ⟨O,R,fun vs H' s r=> by
  obtain ⟨v,rfl,h⟩:=cX r
  cases h
  exact ⟨j,rfl,h1,h2,q _ H' s mG⟩⟩
theorem i9 {i j:Int} (hg:Gl X "range") (hm:X.mg "range"=none) (ha:EvA X H0 O0 ps [a,b] [.int i,.int j]) (h:-(2 ^ 62)≤i∧i < 2 ^ 62∧-(2 ^ 62)≤j∧j < 2 ^ 62) (hs:starEach [a,b] X.env=[(false,eval a X.env),(false,eval b X.env)]:=by rfl) (hs2:starEach [b] X.env=[(false,eval b X.env)]:=by rfl):
  EvI X H0 O0 ps tg (.Call (.Name "range" p) [a,b] [] pos) (e6 i (j - i).toNat):=
 PI.mono (sq hg hm ha hs hs2) fun σ H Q ⟨O,R,q⟩=> ⟨O,R,fun vs H' s r=> by
  obtain ⟨v,w,rfl,k1,k2⟩:=iS r
  cases k1; cases k2
  exact ⟨i,j,rfl,h,q _ H' s mG⟩⟩
theorem Rs.rebase {K:PySem.W.Frag} {σ:St} {H:Hp} {O:List Addr} (R:Rs K H0 O0 ps σ H O):Rs K (hid H (O.filter fun a=> decide (a ∉ O0))) O0 ps σ H O:=
 ⟨ay,R.old,fun a ha=> by
  by_cases h:a∈O0
  ·exact .inl h
  ·right; unfold hid; rw [if_pos (List.mem_filter.mpr ⟨ha,by simpa using h⟩)],R.dom,R.len,R.at_,R.inj⟩
theorem Rs.base {K:PySem.W.Frag} {σ:St} {H:Hp} {O:List Addr} (R:Rs K H0 O0 ps σ H O):aI H0 (hid H (O.filter fun a=> decide (a ∉ O0))):=fun b o h=> by
 refine dH (R.same b o h) fun z=> ?_
 obtain ⟨z1,z2⟩:=List.mem_filter.mp z
 rcases R.new b z1 with y | y
 ·simp [y] at z2
 ·rw [h] at y; cases y
theorem Rs.unbase {K:PySem.W.Frag} {H1:Hp} {σ:St} {H:Hp} {O:List Addr} (e:aI H0 H1) (R:Rs K H1 O0 ps σ H O):Rs K H0 O0 ps σ H O:=
 ⟨e.trans R.same,R.old,fun a ha=> (R.new a ha).imp id fun z=> e.free z,R.dom,R.len,R.at_,R.inj⟩
theorem Rs.seen {K:PySem.W.Frag} {ps2:PSt} {σ σ2:St} {H H2:Hp} {O O2:List Addr} (R:Rs K H0 O0 ps σ H O) (R2:Rs K (hid H (O.filter fun a=> decide (a ∉ O0))) O0 ps2 σ2 H2 O2):aI (hid H O) (hid H2 O2):=fun b o h=> by
 obtain ⟨h1,h2⟩:=gf h
 have h3:hid H (O.filter fun a=> decide (a ∉ O0)) b=some o:=dH h1 fun z=> h2 (List.mem_filter.mp z).1
 refine dH (R2.same b o h3) fun z=> ?_
 rcases R2.new b z with y | y
 ·exact h2 (R.old b y)
 ·rw [h3] at y; cases y
theorem zp (hc:X.calm=true) (hp:PassesOwn (model X.prog X.w) X.A X.env X.xe) (hi:EvI X H0 O0 ps tg iter xs) (Iv:Nat→PSt→Prop) (h0:Iv 0 ps)
  (hs:∀ (H0:Hp) (i:Nat) (x:U) (ps:PSt),xs[i]?=some x→Iv i ps→∃ ps',TgS X H0 O0 tg ps x ps'∧Ws X H0 O0 E body { D with nx:=Iv (i+1),ct:=Iv (i+1),bk:=D.nx } ps') (hd:∀ ps,Iv xs.length ps→D.nx ps)
  (hf:∀ x,foldedSetIterable iter X.env x=pure x:=by intro _; rfl):W1 X H0 O0 E (.For tg iter body [] pos) D ps:=by
 have hg:PG X tg fun v σ H Q=> ∃ H1 ps u ps',TgS X H1 O0 tg ps u ps'∧∃ O,Rs X.K H1 O0 ps σ H O∧Rp X.K (hid H O) v u∧∀ σ' H',aI H H'→Rs X.K H1 O0 ps' σ' H' O→Q σ' H':=
  fun pins s σ H v u Q I r ⟨H1,ps,w,ps',t,z⟩=> t pins s σ H v u Q I r z
 have hb:PSs X body fun D' σ H=> ∃ H1 D1 ps',Ws X H1 O0 E body D1 ps'∧Lf X.K H1 O0 E D1 D'∧∃ O,Rs X.K H1 O0 ps' σ H O:=fun pins s σ H D' I ⟨H1,D1,ps',w,z⟩=> w pins s σ H D' I z
 refine PS.mono (zd hp hc hi hg hb hf) fun D' σ H ⟨L,O,R⟩=> ⟨O,R,fun J H1 s1 Y=> ?_⟩
 have R1:=R.go s1
 have base:=R1.base
 refine ⟨fun i m σ H=> m=xs.length - i∧i≤xs.length∧∃ ps O',Iv i ps∧Rs X.K (hid H1 (O.filter fun a=> decide (a ∉ O0))) O0 ps σ H O',⟨_,rfl,Nat.zero_le _,ps,O,h0,R1.rebase⟩,?_⟩
 rintro i m σ2 H2 ⟨rfl,hi2,ps2,O2,iv,R2⟩
 have seen:=R1.seen R2
 obtain ⟨y1,y2⟩:=Y H2 (seen.trans ay)
 by_cases hlt:i < xs.length
 ·obtain ⟨g1,g2⟩:=y1 i hlt
  refine .inr ⟨g1,fun σ' H'=> ∃ ps O',Iv (i+1) ps∧Rs X.K (hid H1 (O.filter fun a=> decide (a ∉ O0))) O0 ps σ' H' O',fun σ' H' z=> ⟨xs.length - (i+1),by omega,rfl,hlt,z⟩,fun x H3 y=> ?_⟩
  obtain ⟨rfl,u,hu,r⟩:=g2 x H3 y
  obtain ⟨ps',t,w⟩:=hs (hid H1 (O.filter fun a=> decide (a ∉ O0))) i u ps2 hu iv
  refine ⟨_,ps2,u,ps',t,O2,R2,r.same seen,fun σ' H' s' R'=> ⟨_,_,ps',w,?_,O2,R'⟩⟩
  exact ⟨fun p σ H O R q=> ⟨p,O,q,R⟩,fun p σ H O R q=> L.nx _ _ _ _ (R.unbase base) q,fun p σ H O R q=> ⟨p,O,q,R⟩,fun o q=> (L.rt o q).later base⟩
 ·have e:i=xs.length:=by omega
  subst e
  exact .inl ⟨y2,L.nx _ _ _ _ (R2.unbase base) (hd ps2 iv)⟩
theorem wE (hp:PassesOwn (model X.prog X.w) X.A X.env X.xe) (Iv:Nat→PSt→Prop) (m:Nat) (h0:Iv m ps)
  (hs:∀ m ps,Iv m ps→∃ b,Tt X H0 O0 ps c b∧(b=true→Ws X H0 O0 E body { D with nx:=fun p=> ∃ m',m' < m∧Iv m' p,ct:=fun p=> ∃ m',m' < m∧Iv m' p,bk:=D.nx } ps)∧(b=false→D.nx ps)):W1 X H0 O0 E (.While c body [] pos) D ps:=by
 have ht:PT X c fun σ H Q=> ∃ ps b,Tt X H0 O0 ps c b∧∃ O,Rs X.K H0 O0 ps σ H O∧∀ H',aI H H'→Q b H':=fun pins s σ H Q I ⟨ps,b,t,z⟩=> t pins s σ H Q I z
 have hb:PSs X body fun D' σ H=> ∃ D1 ps',Ws X H0 O0 E body D1 ps'∧Lf X.K H0 O0 E D1 D'∧∃ O,Rs X.K H0 O0 ps' σ H O:=fun pins s σ H D' I ⟨D1,ps',w,z⟩=> w pins s σ H D' I z
 refine PS.mono (uQ hp ht hb) fun D' σ H ⟨L,O,R⟩=> ⟨fun m σ H=> ∃ ps O,Iv m ps∧Rs X.K H0 O0 ps σ H O,⟨m,ps,O,h0,R⟩,?_⟩
 rintro m σ2 H2 ⟨ps2,O2,iv,R2⟩
 obtain ⟨b,t,h1,h2⟩:=hs m ps2 iv
 refine ⟨ps2,b,t,O2,R2,fun H3 s3=> ?_⟩
 cases b with
 | true=>
  refine n5 ⟨fun σ H=> ∃ m',m' < m∧∃ ps O,Iv m' ps∧Rs X.K H0 O0 ps σ H O,fun σ' H' z=> z,_,ps2,h1 rfl,?_,O2,R2.go s3⟩
  exact ⟨fun p σ H O R ⟨m',l,q⟩=> ⟨m',l,p,O,q,R⟩,fun p σ H O R q=> L.nx _ _ _ _ R q,fun p σ H O R ⟨m',l,q⟩=> ⟨m',l,p,O,q,R⟩,L.rt⟩
 | false=> exact n8 (L.nx _ _ _ _ (R2.go s3) (h2 rfl))
def d_:List Nat→PSt→PSt
 | [],ps=> ps
 | i::is,ps=> d_ is (ps.set i none)
theorem Rs.mask {K:PySem.W.Frag} {H:Hp} {O:List Addr}:∀ {is:List Nat} {ps:PSt} {σ:St},Rs K H0 O0 ps σ H O→Rs K H0 O0 (d_ is ps) (L2.mask is σ) H O
 | [],ps,σ,R=> R
 | i::is,ps,σ,R=> Rs.mask (is:=is) (R.drop (i:=i) (o:=none))
theorem Rs.hide {K:PySem.W.Frag} {σ:St} {H H':Hp} {O:List Addr} {l:Addr} (R:Rs K H0 O0 ps σ H O) (e:aI H H') (n:H l=none) (d:H' l≠none):Rs K H0 O0 ps σ H' (l::O):=by
 refine ⟨R.same.trans e,fun a ha=> List.mem_cons_of_mem _ (R.old a ha),fun a ha=> ?_,fun a ha z=> ?_,R.len,fun i s h=> ?_,R.inj⟩
 ·rcases List.mem_cons.mp ha with y | y
  ·subst y; exact .inr (R.same.free n)
  ·exact R.new a y
 ·rcases List.mem_cons.mp ha with y | y
  ·subst y; exact d z
  ·exact R.dom a y (e.free z)
 ·obtain ⟨w,h1,h2⟩:=R.at_ i s h
  refine ⟨w,h1,?_⟩
  cases s with
  | val u=> exact Rp.same (bX e n) h2
  | own ys=>
   obtain ⟨b,ws,k1,k2,k3,k4,k5⟩:=h2
   exact ⟨b,ws,k1,List.mem_cons_of_mem _ k2,k3,e _ _ k4,k5.same (bX e n)⟩
theorem nL {js is:List Nat}:∀ {σ:St} {vs:List V},(∀ j∈js,j∈is)→∀ (n:Nat) (v:V),n ∉ is→σ[n]?=some (some v)→(iQ σ js vs)[n]?=some (some v):=by
 induction js with
 | nil=> intro σ vs _ n v _ h; cases vs <;> exact h
 | cons j js ih=>
  intro σ vs hj n v hn h
  cases vs with
  | nil=> exact h
  | cons w ws=> exact ih (fun z hz=> hj z (List.mem_cons_of_mem _ hz)) n v hn (by rw [List.getElem?_set_ne (fun z=> hn (by rw [← z]; exact hj j List.mem_cons_self))]; exact h)
def GOk (g:TG) (K:PySem.W.Frag) (is:List Nat) (f:PSt→U→PSt) (dom:U→Prop):Prop:=
 ∀ (H0:Hp) (O0:List Addr) (ps:PSt) (σ:St) (H:Hp) (O:List Addr) (v:V) (u:U) (Q:St→Hp→Prop),dom u→Rs K H0 O0 ps σ H O→Rp K (hid H O) v u→
  (∀ σ',Rs K H0 O0 (f ps u) σ' H O→(∀ (n:Nat) (w:V),n ∉ is→σ[n]?=some (some w)→σ'[n]?=some (some w))→Q σ' H)→g v σ H Q
theorem gA {K:PySem.W.Frag} {is:List Nat} {i:Nat} (h:i∈is):GOk (kB i) K is (fun ps u=> ps.set i (some (.val u))) fun _=> True:=fun H0 O0 ps σ H O v u Q _ R r q=>
 q _ (R.set r) fun n w hn e=> by rw [List.getElem?_set_ne (fun z=> hn (by rw [← z]; exact h))]; exact e
theorem iF {K:PySem.W.Frag} {is js:List Nat} (h:∀ j∈js,j∈is):GOk (At K js.length (lj js)) K is (fun ps u=> match u with | .tup us=> setAll ps js us | _=> ps) fun u=> ∃ us,u=.tup us∧us.length=js.length:=fun H0 O0 ps σ H O v u Q d R r q=> by
 obtain ⟨us,rfl,hl⟩:=d
 cases r with
 | tup hq hl' hh=> exact ⟨_,_,rfl,ay.tup hq,hl'.trans hl,fL (hl'.trans hl) (q _ (R.setAll ⟨hl',hh⟩) fun n w hn e=> nL h n w hn e)⟩
theorem kt {is:List Nat} {g:TG} {f:PSt→U→PSt} {dom:U→Prop} {σ:St} {H1:Hp} {O:List Addr} {Q:VK} {J:It} {te:TE} (hg:GOk g X.K is f dom) (R1:Rs X.K H0 O0 ps σ H1 O) (Y:Yl X.K J (hid H1 O) xs) (hlen:ys.length=xs.length) (hz:xs.length≤sizeLine) (hdom:∀ x∈xs,dom x)
  (hte:∀ (i:Nat) (x y:U) (σ:St) (H:Hp) (O':List Addr) (Q:VK),xs[i]?=some x→ys[i]?=some y→Rs X.K H0 O0 (f (d_ is ps) x) σ H O'→(∀ v H',aI H H'→Rp X.K (hid H' O') v y→Q v H')→te σ H Q)
  (fin:∀ a vs H',aI H1 H'→H1 a=none→H' a=some (.lst vs)→Rps X.K (hid H' (a::O)) vs ys→Q (.ref a) H'):xT is g te σ Q J H1:=by
 intro l hl
 refine ⟨fun i m H2=> m=xs.length - i∧i≤xs.length∧aI H1 H2∧∃ vs,H2 l=some (.lst vs)∧vs.length=i∧Rps X.K (hid H2 (l::O)) vs (ys.take i),⟨_,rfl,Nat.zero_le _,bn hl _,[],aX,rfl,by rw [List.take_zero]; exact .nil⟩,?_⟩
 rintro i m H2 ⟨rfl,hi,s2,vs,h2,hv,rs⟩
 have seen:aI (hid H1 O) (hid H2 (l::O)):=bX s2 hl
 obtain ⟨y1,y2⟩:=Y H2 (seen.trans ay)
 by_cases hlt:i < xs.length
 ·obtain ⟨g1,g2⟩:=y1 i hlt
  refine .inr ⟨g1,fun x H3 y=> ?_⟩
  obtain ⟨rfl,u,hu,r⟩:=g2 x H3 y
  have R2:=(R1.mask (is:=is)).hide s2 hl (by rw [h2]; intro z; cases z)
  refine hg H0 O0 _ _ H3 (l::O) x u _ (hdom u (List.mem_of_getElem? hu)) R2 (r.same seen) fun σ4 R4 keep=> ?_
  have hy:ys[i]?=some (ys[i]'(by omega)):=List.getElem?_eq_getElem _
  refine hte i u _ σ4 H3 (l::O) _ hu hy R4 fun v H5 s5 r5=> ⟨fun j w e=> keep j w (gN is σ j w e).2 e,vs,s5 _ _ h2,?_,xs.length - (i+1),by omega,rfl,hlt,(s2.trans s5).put hl _,vs++[v],aX,by simp [hv],?_⟩
  ·rw [hv]; omega
  ·rw [kW List.mem_cons_self,List.take_succ,hy]
   exact (rs.same (bD s5)).snoc (.cons r5 .nil)
 ·have e:i=xs.length:=by omega
  subst e
  rw [← hlen,List.take_length] at rs
  exact .inl ⟨y2,fin l vs H2 s2 hl h2 rs⟩
theorem jD {elt:Expr} {scope:Scope} {cl:List (Str×Addr)} {is:List Nat} {g:TG} {f:PSt→U→PSt} {dom:U→Prop} (hc:X.calm=true) (B:cY X scope cl is) (hi:EvI X H0 O0 ps tg iter xs) (hg:∀ C s H fp,PG (ax X scope cl C s H fp) tg g) (gk:GOk g X.K is f dom)
  (hlen:ys.length=xs.length) (hz:xs.length≤sizeLine) (hdom:∀ x∈xs,dom x) (he:∀ C s H fp (i:Nat) (x y:U),xs[i]?=some x→ys[i]?=some y→Ev (ax X scope cl C s H fp) H0 O0 (f (d_ is ps) x) elt y)
  (hs:∀ x,foldedSetIterable iter X.env x=pure x:=by intro _; rfl):EvN X H0 O0 ps (.ListComp elt [⟨tg,iter,[],0⟩] scope pos) ys:=by
 have hte:∀ C s H fp,PE (ax X scope cl C s H fp) elt fun σ H Q=> ∃ i x y,xs[i]?=some x∧ys[i]?=some y∧∃ O',Rs X.K H0 O0 (f (d_ is ps) x) σ H O'∧∀ v H',aI H H'→Rp X.K (hid H' O') v y→Q v H':=
  fun C s H fp pins s' σ H' Q I ⟨i,x,y,h1,h2,z⟩=> he C s H fp i x y h1 h2 pins s' σ H' Q I z
 refine PE.mono (w6 hc B hi hg hte hs) fun σ H Q ⟨O,R,q⟩=> ⟨O,R,fun J H1 s1 Y=> ?_⟩
 exact kt gk (R.go s1) Y hlen hz hdom (fun i x y σ H O' Q h1 h2 R' z=> ⟨i,x,y,h1,h2,O',R',z⟩) fun a vs H' s n h r=> q a vs H' (s1.trans s) (s1.free n) h r
theorem kI {elt:Expr} {scope:Scope} {cl:List (Str×Addr)} {spos py:Pos} {y:Str} {j:Nat} {is:List Nat} {g:TG} {f:PSt→U→PSt} {dom:U→Prop} (own:Bool) (hc:X.calm=true) (hN:X.N.Nodup) (hj:X.N[j]?=some y) (hy:Loc X.env.scope y) (B:cY X scope cl is)
  (hi:EvI X H0 O0 ps tg iter xs) (hg:∀ C s H fp,PG (ax X scope cl C s H fp) tg g) (gk:GOk g X.K is f dom) (hlen:ys.length=xs.length) (hz:xs.length≤sizeLine) (hdom:∀ x∈xs,dom x)
  (he:∀ C s H fp (i:Nat) (x y:U),xs[i]?=some x→ys[i]?=some y→Ev (ax X scope cl C s H fp) H0 O0 (f (d_ is ps) x) elt y) (h:D.nx (ps.set j (some (if own then .own ys else .val (.lst ys)))))
  (hs:∀ x,foldedSetIterable iter X.env x=pure x:=by intro _; rfl)
  (hsw:swapsWith (.ListComp elt [⟨tg,iter,[],0⟩] scope pos) (some (.Name y py)) spos.line X.env=pure true:=by rfl) (hf:X.fn y=true∨X.env.scope.names.lookup y=some .local:=by first | exact .inl rfl | exact .inr rfl | assumption):
  W1 X H0 O0 E (.Assign [.Name y py] (.ListComp elt [⟨tg,iter,[],0⟩] scope pos) spos) D ps:=by
 have hte:∀ C s H fp,PE (ax X scope cl C s H fp) elt fun σ H Q=> ∃ i x y,xs[i]?=some x∧ys[i]?=some y∧∃ O',Rs X.K H0 O0 (f (d_ is ps) x) σ H O'∧∀ v H',aI H H'→Rp X.K (hid H' O') v y→Q v H':=
  fun C s H fp pins s' σ H' Q I ⟨i,x,y,h1,h2,z⟩=> he C s H fp i x y h1 h2 pins s' σ H' Q I z
 refine PS.mono (ot hc hN hj hy B hi hg hte hs hsw hf) fun D' σ H ⟨L,O,R⟩=> ⟨O,R,fun J H1 s1 Y=> ?_⟩
 refine kt gk (R.go s1) Y hlen hz hdom (fun i x y σ H O' Q h1 h2 R' z=> ⟨i,x,y,h1,h2,O',R',z⟩) fun a vs H' s n h' r=> ?_
 cases own with
 | true=> exact L.nx _ _ _ _ ((R.go s1).own s n h' r) h
 | false=>
  have na:a ∉ O:=fun z=> (R.go s1).dom a z n
  have r':=r.same (d8 fun b hb=> List.mem_cons_of_mem a hb)
  exact L.nx _ _ _ _ (((R.go s1).go s).set (.lst (dH h' na) r'.len r'.at_)) h
end
end L2
namespace L2
open PySem PySem.Spec PyProof.Rows
def spU (K:PySem.W.Frag) (spec:List U→Out→Prop):Sp:=fun vs H Q E=> ∃ us O o,(∀ a∈O,H a≠none)∧Rps K (hid H O) vs us∧spec us o∧lV K H O Q E o
section
variable {X:Cx} {H0:Hp} {O0:List Addr} {E:XK} {ps ps':PSt} {D:PD} {s:Stmt} {ss body:List Stmt} {a b c e:Expr} {es:List Expr} {pos p:Pos} {u x y:U} {xs ys us:List U} {k:Bool}
 {CX:CXT} {n:Nat} {f C:Addr} {fd:FuncData} {pn:List Str} {spec:List U→Out→Prop} {nm:Str}
theorem aE (F:bh X.prog X.w X.K X.mg X.base CX n f fd pn (spU X.K spec)) (hr:dJ n X.A) (hg:Gl X nm) (hm:X.mg nm=some (.ref f)) (hk:PySem.W.keepIn X.K (.ref f)=true) (hb:aQ X.K fd pn []) (hx:fA CX X E0)
  (ha:EvA X H0 O0 ps (e::es) us) (h:spec us (.val u)) (hdb:(nm==("__debug__":Str))=false:=by decide) (he:starEach (e::es) X.env=(false,eval e X.env)::starEach es X.env:=by rfl) (hpl:(backTo pos (starEach es X.env)).any (·.1)=false:=by rfl):
  Ev X H0 O0 ps (.Call (.Name nm p) (e::es) [] pos) u:=
 PE.mono (iL F hr hg hm hk hb .nil hx ha hdb he hpl) fun σ H Q ⟨O,R,q⟩=> ⟨O,R,fun vs H1 s1 r1=> by
  show spU X.K spec (vs++[]) H1 Q _
  rw [List.append_nil]
  exact ⟨us,O,.val u,(R.go s1).dom,r1,h,fun v H2 s2 r2=> q v H2 (s1.trans s2) r2⟩⟩
theorem cw (F:bh X.prog X.w X.K X.mg X.base CX n f fd pn (spU X.K spec)) (hr:dJ n X.A) (hg:Gl X nm) (hm:X.mg nm=some (.ref f)) (hk:PySem.W.keepIn X.K (.ref f)=true) (hb:aQ X.K fd pn []) (hx:fA CX X E0)
  (ha:EvA X H0 O0 ps (e::es) us) (h:spec us (.new xs)) (hdb:(nm==("__debug__":Str))=false:=by decide) (he:starEach (e::es) X.env=(false,eval e X.env)::starEach es X.env:=by rfl) (hpl:(backTo pos (starEach es X.env)).any (·.1)=false:=by rfl):
  EvN X H0 O0 ps (.Call (.Name nm p) (e::es) [] pos) xs:=
 PE.mono (iL F hr hg hm hk hb .nil hx ha hdb he hpl) fun σ H Q ⟨O,R,q⟩=> ⟨O,R,fun vs H1 s1 r1=> by
  show spU X.K spec (vs++[]) H1 Q _
  rw [List.append_nil]
  exact ⟨us,O,.new xs,(R.go s1).dom,r1,h,fun a vs H2 s2 n2 h2 r2=> q a vs H2 (s1.trans s2) (s1.free n2) h2 r2⟩⟩
def Xv (X:Cx) (H0:Hp) (O0:List Addr) (E:XK) (ps:PSt) (e:Expr) (C:Addr):Prop:=PE X e fun σ H _=> ∃ O,Rs X.K H0 O0 ps σ H O∧∀ H',aI H H'→E (.ref C) none H'
theorem zj (F:bh X.prog X.w X.K X.mg X.base CX n f fd pn (spU X.K spec)) (hr:dJ n X.A) (hg:Gl X nm) (hm:X.mg nm=some (.ref f)) (hk:PySem.W.keepIn X.K (.ref f)=true) (hb:aQ X.K fd pn []) (hx:fA CX X E)
  (ha:EvA X H0 O0 ps (e::es) us) (h:spec us (.exc C)) (hdb:(nm==("__debug__":Str))=false:=by decide) (he:starEach (e::es) X.env=(false,eval e X.env)::starEach es X.env:=by rfl) (hpl:(backTo pos (starEach es X.env)).any (·.1)=false:=by rfl):
  Xv X H0 O0 E ps (.Call (.Name nm p) (e::es) [] pos) C:=
 PE.mono (iL F hr hg hm hk hb .nil hx ha hdb he hpl) fun σ H Q ⟨O,R,q⟩=> ⟨O,R,fun vs H1 s1 r1=> by
  show spU X.K spec (vs++[]) H1 Q _
  rw [List.append_nil]
  exact ⟨us,O,.exc C,(R.go s1).dom,r1,h,fun H2 s2=> q H2 (s1.trans s2)⟩⟩
theorem w_ (he:Xv X H0 O0 E ps e C) (h:D.rt (.exc C)) (hs:swapsWith e none pos.line X.env=pure false:=by rfl):W1 X H0 O0 E (.Expr e pos) D ps:=
 PS.mono (iG he hs) fun D' σ H ⟨L,O,R⟩=> ⟨O,R,fun H' s=> L.rt _ h H' (R.same.trans s)⟩
end
section
variable {P:Program} {w:World} {K:PySem.W.Frag} {mg:Str→Option Value} {base:Heap} {N pn:List Str} {qual nm:Str} {scope:Scope} {f:Addr} {cd:Value} {A:Around} {outer:List Env} {s:Shared} {H H0:Hp} {O0:List Addr} {E:XK} {D:PD} {ps:PSt} {u:U}
theorem pL {x:Str} {C:Addr} {e0:Expr} {np cpos pos:Pos} (hex:PySem.W.excIn K C [.type "ValueError",.type "Exception",.type "BaseException",.type "object"] "ValueError.__new__"=true)
  (hg:Gl (dN (CXF P w) P w K mg base N qual scope f cd A outer s H E) x) (hm:mg x=some (.ref C)) (he:Ev (dN (CXF P w) P w K mg base N qual scope f cd A outer s H E) H0 O0 ps e0 u) (h:D.rt (.exc C))
  (hst:starEach [e0] (dN (CXF P w) P w K mg base N qual scope f cd A outer s H E).env=[(false,eval e0 (dN (CXF P w) P w K mg base N qual scope f cd A outer s H E).env)]:=by rfl) (hd:(x==("__debug__":Str))=false:=by decide):
  W1 (dN (CXF P w) P w K mg base N qual scope f cd A outer s H E) H0 O0 E (.Raise (some (.Call (.Name x np) [e0] [] cpos)) none pos) D ps:=
 PS.mono (u8 hex hg hm he hst hd) fun D' σ H ⟨L,O,R⟩=> ⟨O,R,fun v H' s r=> L.rt _ h H' (R.same.trans s)⟩
def e8 (N:List Str) (us:List U):PSt:=us.map (fun u=> some (.val u))++List.replicate (N.length - us.length) none
theorem bq {st:Stmt} {fd:FuncData} {k:Nat} {spec:List U→Out→Prop} (F:Fun K nm qual st f fd) (S:av N pn (ai st)) (len:∀ us o,spec us o→us.length=pn.length)
  (hbody:∀ (cdv:Value) (A:Around) (outer:List Env) (s:Shared) (H:Hp) (E:XK) (O:List Addr) (us:List U) (o:Out),dJ k (A.deeper (envOfC qual (ai st) s.heap.objs.size f cdv))→spec us o→
   Ws (dN (CXF P w) P w K mg base N qual (ai st) f cdv A outer s H E) H O E (aq st) ⟨fun _=> o=.val .non,fun o'=> o'=o,fun _=> False,fun _=> False⟩ (e8 N us)):bh P w K mg base (CXF P w) (k+1) f fd pn (spU K spec):=by
 refine F.okF S (fun vs H Q E h=> ?_) fun cdv A outer s H vs Q E hr h=> ?_
 ·obtain ⟨us,O,o,_,r,hsp,_⟩:=h
  rw [r.len]; exact len us o hsp
 ·obtain ⟨us,O,o,d,r,hsp,q⟩:=h
  refine ⟨_,hbody cdv A outer s H E O us o hr hsp,⟨fun ps σ H' O' R e=> ?_,fun _ _ _ _ _ e=> e.elim,fun _ _ _ _ _ e=> e.elim,fun o' e=> by subst e; exact q⟩,O,?_⟩
  ·subst e; exact q .non H' R.same .non
  ·refine ⟨.refl H,fun a h=> h,fun a h=> .inl h,d,?_,fun i sl e=> ?_,fun i j xs ys a e1 e2 _ _=> ?_⟩
   ·unfold start e8
    rw [List.length_append,List.length_append,List.length_map,List.length_map,List.length_replicate,List.length_replicate,r.len]
   ·unfold e8 at e
    by_cases hi:i < us.length
    ·rw [List.getElem?_append_left (by simpa using hi),List.getElem?_map,List.getElem?_eq_getElem hi] at e
     cases e
     obtain ⟨v,h1,h2⟩:=r.get (List.getElem?_eq_getElem hi)
     refine ⟨v,?_,h2⟩
     unfold start
     rw [List.getElem?_append_left (by simpa [r.len] using hi),List.getElem?_map,h1]; rfl
    ·rw [List.getElem?_append_right (by simpa using hi),List.getElem?_replicate] at e
     split at e <;> cases e
   ·exfalso
    unfold e8 at e1
    by_cases hi:i < us.length
    ·rw [List.getElem?_append_left (by simpa using hi),List.getElem?_map,List.getElem?_eq_getElem hi] at e1
     cases e1
    ·rw [List.getElem?_append_right (by simpa using hi),List.getElem?_replicate] at e1
     split at e1 <;> cases e1
end
section
variable {X:Cx} {H0:Hp} {O0:List Addr} {ps:PSt} {a b c e:Expr} {es rest:List Expr} {pos p p2:Pos} {u x y:U} {xs ys us:List U} {i j:Int} {k m:Bool} {lo hi:Option Expr} {l h:Option Int}
def EvO (X:Cx) (H0:Hp) (O0:List Addr) (ps:PSt) (e:Option Expr) (n:Option Int):Prop:=PO X e fun σ H Q=> ∃ O,Rs X.K H0 O0 ps σ H O∧∀ H',aI H H'→Q n H'
theorem gY:EvO X H0 O0 ps none none:=fun pins s σ H Q I ⟨O,R,q⟩=> wd pins s σ H Q I (q H (.refl H))
theorem hX (he:Ev X H0 O0 ps e (.int i)):EvO X H0 O0 ps (some e) (some i):=fun pins s σ H Q I ⟨O,R,q⟩=> xf he pins s σ H Q I ⟨O,R,fun v H' s r=> by cases r; exact ⟨i,rfl,q H' s⟩⟩
def ic (xs:List U) (lo hi:Option Int):List U:=(xs.drop (HT.sIx xs.length 0 lo)).take (HT.sIx xs.length xs.length hi - HT.sIx xs.length 0 lo)
theorem Rps.drop {K:PySem.W.Frag} {H:Hp} {vs:List V} {xs:List U} (r:Rps K H vs xs) (n:Nat):Rps K H (vs.drop n) (xs.drop n):=⟨by simp [r.len],fun i v x h1 h2=> r.at_ _ v x (by rwa [List.getElem?_drop] at h1) (by rwa [List.getElem?_drop] at h2)⟩
theorem Rps.take {K:PySem.W.Frag} {H:Hp} {vs:List V} {xs:List U} (r:Rps K H vs xs) (n:Nat):Rps K H (vs.take n) (xs.take n):=⟨by simp [r.len],fun i v x h1 h2=> by
 by_cases hn:i < n
 ·rw [List.getElem?_take_of_lt hn] at h1 h2
  exact r.at_ i v x h1 h2
 ·rw [List.getElem?_take_eq_none (by omega)] at h1
  cases h1⟩
theorem Rps.cut {K:PySem.W.Frag} {H:Hp} {vs:List V} {xs:List U} (r:Rps K H vs xs):Rps K H (qW vs l h) (ic xs l h):=by
 unfold qW ic
 rw [r.len]
 exact (r.drop _).take _
theorem fF (he:Ev X H0 O0 ps e x) (hl:EvO X H0 O0 ps lo l) (hh:EvO X H0 O0 ps hi h) (hx:x=.lst xs∨x=.scr xs):EvN X H0 O0 ps (.Subscript e (.Slice lo hi none p2) pos) (ic xs l h):=
 PE.mono (sR wl he hl hh) fun σ H Q ⟨O,R,q⟩=> ⟨O,R,fun v H1 s1 r1=> ⟨O,R.go s1,fun H2 s2=> ⟨O,R.go (s1.trans s2),fun H3 s3=> by
  have key:∃ a vs,v=.ref a∧SqL X.K (hid H1 O) a vs∧Rps X.K (hid H1 O) vs xs:=by
   rcases hx with rfl | rfl
   ·cases r1 with
    | lst hq hl hh=> exact ⟨_,_,rfl,SqL.of hq,hl,hh⟩
   ·cases r1 with
    | scr hq hl hh=> exact ⟨_,_,rfl,hq,hl,hh⟩
  obtain ⟨a,vs,rfl,hq,rs⟩:=key
  have s13:=s2.trans s3
  refine ⟨a,vs,rfl,s13.seq (ay.seq hq),fun p hp=> q p _ _ ((s1.trans s13).trans (bn hp _)) ((s1.trans s13).free hp) aX ?_⟩
  exact (rs.cut.same (bD s13)).same (bX (bn hp _) hp)⟩⟩⟩
theorem vm (ha:Ev X H0 O0 ps a (.lst xs)) (hb:Ev X H0 O0 ps b (.lst ys)) (hz:xs.length+ys.length≤sizeLine):EvN X H0 O0 ps (.BinOp a .Add b pos) (xs++ys):=
 PE.mono (uL yU ha hb) fun σ H Q ⟨O,R,q⟩=> two R (fun _ _ _ z=> z) (fun _ _ _ z=> z) fun v w H' s _ r1 r2=> by
  cases r1 with
  | lst hq hl hh=>
   cases r2 with
   | lst hq' hl' hh'=>
    refine ⟨_,_,_,_,rfl,rfl,ay _ _ hq,ay _ _ hq',by rw [hl,hl']; exact hz,fun p hp=> q p _ _ (s.trans (bn hp _)) (s.free hp) aX ?_⟩
    exact (Rps.snoc ⟨hl,hh⟩ ⟨hl',hh'⟩).same (bX (bn hp _) hp)
def fl:U→V
 | .bl b=> .bl b | .int i=> .int i | .str x=> .str x | _=> .non
def sF:U→Bool
 | .bl _=> true | .int _=> true | .str _=> true | .non=> true | _=> false
theorem xQ {K:PySem.W.Frag} {H:Hp} {v:V} {u:U} (h:Rp K H v u) (f:sF u=true):v=fl u∧fZ v=true:=by
 cases h <;> first | exact ⟨rfl,rfl⟩ | simp [sF] at f
theorem tN {K:PySem.W.Frag} {H:Hp}:∀ {vs:List V} {xs:List U},Rps K H vs xs→xs.all sF=true→vs=xs.map fl∧vs.all fZ=true
 | vs,[],r,_=> by rw [r.nil_inv]; exact ⟨rfl,rfl⟩
 | vs,x::xs,r,f=> by
  obtain ⟨v,ws,rfl,h1,h2⟩:=r.cons_inv
  simp only [List.all_cons,Bool.and_eq_true] at f
  obtain ⟨e1,e2⟩:=xQ h1 f.1
  obtain ⟨e3,e4⟩:=tN h2 f.2
  refine ⟨by rw [List.map_cons,← e1,← e3],?_⟩
  simp only [List.all_cons,Bool.and_eq_true]
  exact ⟨e2,e4⟩
theorem AH (hx:sF x=true) (hy:y.items=some ys) (hf:ys.all sF=true):OpS X (compareOp .In) x y (.bl (inV (fl x) (ys.map fl))):=by
 intro pins s σ H v w p q Q I r1 r2 h
 obtain ⟨k1,k2,k3⟩:=h
 obtain ⟨a,vs,rfl,h1,h2⟩:=lI k2 hy
 obtain ⟨e1,e2⟩:=xQ k1 hx
 obtain ⟨e3,e4⟩:=tN h2 hf
 exact rD pins s σ H v _ p q Q I r1 r2 ⟨a,vs,rfl,h1,e2,e4,by rw [e1,e3]; exact k3⟩
theorem Ac {bs:List Bool} (hc:X.calm=true):e7 X (.builtin "all") [.lst (bs.map U.bl)] (.bl (bs.all id)):=by
 intro pins s σ H vs us Q I r hq
 obtain ⟨O,d,rs,q⟩:=hq
 obtain ⟨v,rfl,h1⟩:=cX rs
 obtain ⟨p1,rfl,r1⟩:=fX r
 cases h1 with
 | @lst a ws _ hq hl hh=>
  cases r1
  obtain ⟨its,rv,pl,_⟩:=I.list (SqL.of (ay _ _ hq))
  have hlen:its.length=bs.length:=by rw [← rv.length,hl,List.length_map]
  have hat:∀ (i:Nat) (z:Value),its.toArray[i]?=some z→z=.bool (bs.getD i false):=fun i z e=> by
   have hi:i < its.length:=by have:=aP (show its[i]?=some z by simpa using e); exact this
   have hb:i < bs.length:=by omega
   have hw:i < ws.length:=by rw [rv.length]; exact hi
   obtain ⟨u,e1,e2⟩:=rv.get (List.getElem?_eq_getElem hw)
   have e3:=hh i ws[i] (.bl bs[i]) (List.getElem?_eq_getElem hw) (by rw [List.getElem?_map,List.getElem?_eq_getElem hb]; rfl)
   have e4:its[i]?=some z:=by simpa using e
   rw [e4] at e1
   cases e1
   generalize ws[i]=wi at *
   cases e3
   rw [List.getD_eq_getElem?_getD,List.getElem?_eq_getElem hb]
   exact e2
  refine call_all_walk (wpAny_pyIter_list pl.isList ?_)
  have hne:a≠s.heap.objs.size:=by obtain ⟨o,e,_⟩:=pl.isList; exact Nat.ne_of_lt (Heap.lt_size e)
  refine ⟨s.heap.objs.size,_,_,_,_,_,fun i=> bs.getD i false,rfl,Walks.list (A:=X.A.in1) (I.ok.hd hc) s.heap.objs.size a hne its.toArray,⟨⟨_,Heap.get?_push_size _ rfl,rfl,rfl⟩,pl.isList.push _⟩,fun i z s' Q' E' hP hQ=> ?_,fun h' tk hk=> ?_⟩
  ·rw [hat i z hP]; exact wpAny_truthy_bool hQ
  ·have e:(List.range its.toArray.size).all (fun i=> bs.getD i false)=bs.all id:=by
    rw [List.size_toArray,hlen,Bool.eq_iff_iff,kC,List.all_eq_true]
    constructor
    ·intro h x hx
     obtain ⟨i,hi,rfl⟩:=List.getElem_of_mem hx
     have:=h i hi
     rwa [List.getD_eq_getElem?_getD,List.getElem?_eq_getElem hi] at this
    ·intro h j hj
     rw [List.getD_eq_getElem?_getD,List.getElem?_eq_getElem hj]
     exact h _ (List.getElem_mem hj)
   rw [e]
   refine ⟨.bl _,H,I.kept (t':=tk) fun b o e=> hk b o ?_ (Heap.get?_push_of_some _ e),rfl,q _ H (.refl H) (.bl _)⟩
   intro z
   have:b=s.heap.objs.size:=by simpa using z
   exact absurd (Heap.lt_size e) (by rw [this]; exact Nat.lt_irrefl _)
end
end L2
namespace L2
open PySem PySem.Spec PyProof.Rows
def rq (J:It) (is:List Nat) (g:TG) (tt:TT) (te:TE) (σ:St) (H1:Hp) (l:Addr) (Q:VK):Prop:=
 ∃ W:Nat→Nat→Hp→Prop,(∃ m,W 0 m (upd H1 l (.lst [])))∧∀ i m H2,W i m H2→
  (J.stop i H2∧Q (.ref l) H2)∨(J.go i H2∧∀ x H3,J.yld i H2 x H3→g x (mask is σ) H3 fun σ4 H4=> tt σ4 H4 fun b H5=>
   (∀ (j:Nat) (v:V),(mask is σ)[j]?=some (some v)→σ4[j]?=some (some v))∧
   if b=true then te σ4 H5 fun y H6=> ∃ vs,H6 l=some (.lst vs)∧vs.length < sizeLine∧∃ m',m' < m∧W (i+1) m' (upd H6 l (.lst (vs++[y]))) else ∃ m',m' < m∧W (i+1) m' H5)
def uW (is:List Nat) (g:TG) (tt:TT) (te:TE) (σ:St) (Q:VK) (J:It) (H1:Hp):Prop:=∀ l,H1 l=none→rq J is g tt te σ H1 l Q
def ur (is:List Nat) (wi:TI) (g:TG) (tt:TT) (te:TE):TE:=fun σ H Q=> wi σ H (uW is g tt te σ Q)
section
variable {X:Cx} {pins:List (Addr×Obj)} {σ:St} {H:Hp} {s:Shared}
theorem rm {elt iter tg:Expr} {scope:Scope} {cl:List (Str×Addr)} {pos pos0:Pos} {is:List Nat} {wi:TI} {g:TG} {tt:TT} {te:TE} {cond:Expr} {use:Option (Value→Sem Unit)} {Q0:VK} {Q:Value→Shared→Prop} (hc:X.calm=true) (B:cY X scope cl is)
  (hi:PI X tg iter wi) (hg:∀ C s H fp,PG (ax X scope cl C s H fp) tg g) (ht:∀ C s H fp,PT (ax X scope cl C s H fp) cond tt) (he:∀ C s H fp,PE (ax X scope cl C s H fp) elt te) (hs:∀ x,foldedSetIterable iter X.env x=pure x)
  (I:Inv X pins σ H s) (h:ur is wi g tt te σ H Q0)
  (fin:∀ (l C:Addr) (H':Hp) (s':Shared) (m:Str→Option Value),Inv X pins σ H' s'→s'.heap.Ns C m→H' C=none→C≠X.env.locals→C ∉ X.fs→X.s₀.heap.objs.size≤C→(∀ x c,X.env.cells.lookup x=some c→c≠C)→(∀ p∈X.pn++pins,p.1≠C)→Q0 (.ref l) H'→
   compPost (model X.prog X.w) X.A X.xe use Q (.ref l) C (.ok .next) s'):
  wpAny (model X.prog X.w) X.A (comprehension (.ListComp elt [⟨tg,iter,[cond],0⟩] scope pos) scope X.env pos0 (newList []) false (eval iter X.env) use) Q X.xe s:=by
 refine wpAny_comprehension_free rfl hs B.clos B.kind B.names (thn (hi pins s σ H _ I h) fun xv s1 h1=> thn h1 fun itv s2 h2=> ?_)
 obtain ⟨it,fp,tn,J,H2,e,I2,T,st2,f2,R⟩:=h2
 subst e
 refine wpAny_newObj_type (wpAny_newFunctionEnv B.cell (by intro y hy; simp at hy) (fun h₁ hns hsb=> ?_) B.kind)
 have hl:H2 s2.heap.objs.size=none:=I2.hok.fresh (Nat.le_refl _)
 obtain ⟨W,⟨m0,w0⟩,turn⟩:=R s2.heap.objs.size hl
 have I3:Inv X pins σ (upd H2 s2.heap.objs.size (.lst [])) { s2 with heap:=s2.heap.push { cls:=.type "list",dict:=none,data:=.seq ([]:List Value).toArray } }:=
  I2.laid (t':=s2.toks) (o:=.lst []) (fun b u e=> Heap.get?_push_of_some _ e) (Nat.le_refl _) ⟨Nat.zero_le _,[],0,.nil,Heap.get?_push_size _ rfl⟩
 have hfl:∀ b∈fp,b < s2.heap.objs.size:=fun b hb=> let ⟨o,e,_⟩:=T.obj 0 _ st2 b hb; Heap.lt_size e
 have f3:∀ b∈fp,jh X pins (upd H2 s2.heap.objs.size (.lst [])) b:=fun b hb=> ⟨by rw [be (Nat.ne_of_lt (hfl b hb))]; exact (f2 b hb).1,(f2 b hb).2⟩
 have kp:∀ b o,(s2.heap.push { cls:=.type "list",dict:=none,data:=.seq ([]:List Value).toArray }).get? b=some o→h₁.get? b=some o:=fun b o e=>
  hsb.extBut b o (Nat.ne_of_lt (Heap.lt_size e)) (Heap.get?_push_of_some _ e)
 have st4:tn 0 h₁:=T.keep 0 _ _ st2 fun b _ o e=> kp b o (Heap.get?_push_of_some _ e)
 have hfl3:∀ b∈fp,b < (s2.heap.push { cls:=.type "list",dict:=none,data:=.seq ([]:List Value).toArray }).objs.size:=fun b hb=> by
  rw [Heap.size_push]; exact Nat.lt_succ_of_lt (hfl b hb)
 have I4:=iw (t':=s2.toks+([]:List (Str×Value)).length) I3 B f3 hfl3 hns kp
 have loop:codeAny (model X.prog X.w) X.A (.compLoop (.ListComp elt [⟨tg,iter,[cond],0⟩] scope pos) 0 (.ref it) (.ref s2.heap.objs.size) (compEnvC scope cl (s2.heap.push { cls:=.type "list",dict:=none,data:=.seq ([]:List Value).toArray }).objs.size X.env))
   (compPost (model X.prog X.w) X.A X.xe use Q (.ref s2.heap.objs.size) (s2.heap.push { cls:=.type "list",dict:=none,data:=.seq ([]:List Value).toArray }).objs.size)
   { s2 with heap:=h₁,toks:=s2.toks+([]:List (Str×Value)).length }:=by
  generalize hs3:({ s2 with heap:=s2.heap.push { cls:=.type "list",dict:=none,data:=.seq ([]:List Value).toArray } }:Shared)=s3 at *
  have hC:(s2.heap.push { cls:=.type "list",dict:=none,data:=.seq ([]:List Value).toArray }).objs.size=s3.heap.objs.size:=by rw [← hs3]
  rw [hC]
  have hstat:∀ {H':Hp},(∀ b∈fp,H' b=none)→∀ b∈fp,jh (ax X scope cl s3.heap.objs.size s3 (upd H2 s2.heap.objs.size (.lst [])) fp) [] H' b:=fun hn b hb=>
   ⟨hn b hb,(I4.ok.exf b hb).1,I4.ok.exfs b hb,.inl hb,fun x c e=> (I4.ok.exf b hb).2 x c e,fun p hp=> absurd (show p∈([]:List (Addr×Obj)) from hp) (by simp)⟩
  have back:∀ {σ':St} {H':Hp} {pp:List (Addr×Obj)} {s':Shared},Inv (ax X scope cl s3.heap.objs.size s3 (upd H2 s2.heap.objs.size (.lst [])) fp) pp σ' H' s'→Inv X pins σ H' s':=fun I'=>
   I3.call' (ch:=fp) I'.os I'.base I'.hok I'.bare fun b hb=> ⟨(f3 b hb).2.2.2.1,(f3 b hb).2.1,(f3 b hb).2.2.2.2.1,(f3 b hb).2.2.2.2.2⟩
  refine codeAny_loop rfl (fun n s'=> ∃ i H',Inv (ax X scope cl s3.heap.objs.size s3 (upd H2 s2.heap.objs.size (.lst [])) fp) [] (mask is σ) H' s'∧tn i s'.heap∧(∀ b∈fp,H' b=none)∧W i n H') ?_ m0 ⟨0,_,(by subst hs3; exact I4),st4,fun b hb=> (f3 b hb).1,w0⟩
  rintro n s5 ⟨i,H5,I5,st5,fr5,w5⟩
  show wpAny _ _ ((compTurn (.ListComp elt [⟨tg,iter,[cond],0⟩] scope pos) 0 (.ref it) (.ref s2.heap.objs.size) (compEnvC scope cl s3.heap.objs.size X.env)).onRaise (fun x=> do noteFrame x (compEnvC scope cl s3.heap.objs.size X.env); theTreesLotGoes x)) _ _ s5
  refine wpAny_noted ?_
  rw [compTurn_list]
  refine wpAny_bind (wpAny_standAt (wpAny_bind ?_))
  rcases turn i n H5 w5 with ⟨stop,q⟩ | ⟨go,step⟩
  ·refine thn (T.done (ax X scope cl s3.heap.objs.size s3 (upd H2 s2.heap.objs.size (.lst [])) fp) rfl rfl rfl hc i [] s5 _ H5 _ I5 (hstat fr5) st5 stop) fun r s6 ⟨hr,I6⟩=> ?_
   subst hr
   refine wpAny_pure ?_
   obtain ⟨m6,hn6,_⟩:=I6.loc
   have hCn:∀ b,b < s3.heap.objs.size→b≠s3.heap.objs.size:=fun b hb=> Nat.ne_of_lt hb
   refine fin _ s3.heap.objs.size H5 s6 m6 (back I6) hn6 I6.free (Nat.ne_of_gt I3.lt) (I3.nofs (Nat.le_refl _)) I3.sz (fun x c e=> ?_) (fun p hp=> ?_) q
   ·obtain ⟨v,z⟩:=I3.cell x c e
    exact Nat.ne_of_lt z.lt
   ·exact Nat.ne_of_lt (Heap.lt_size (I3.pin p hp).1)
  ·refine thn (T.item (ax X scope cl s3.heap.objs.size s3 (upd H2 s2.heap.objs.size (.lst [])) fp) rfl rfl rfl hc i [] s5 _ H5 _ I5 (hstat fr5) st5 go) fun r s6 ⟨u,hr,h6⟩=> ?_
   subst hr
   refine wpAny_bind (thn h6 fun _ s7 ⟨x,H7,I7,r7,y7,st7,fr7⟩=> ?_)
   have I7':=I7.pinned (hstat fr7) (T.obj _ _ st7)
   refine wpAny_bind (wpAny_mono (hg _ _ _ _ _ s7 (mask is σ) H7 x u _ I7' r7 (step x H7 y7)) (fun _ s8 ⟨σ8,H8,I8,q8⟩=> ?_) fun _ _ z=> z.elim)
   refine wpAny_bind (wpAny_tests_one (wpAny_mono (ht _ _ _ _ _ s8 σ8 H8 _ I8 q8) (fun bb s9 ⟨H9,I9,sub,q9⟩=> ?_) fun _ _ z=> z.elim))
   have fpn:∀ {H':Hp} {s':Shared} {σ':St},Inv (ax X scope cl s3.heap.objs.size s3 (upd H2 s2.heap.objs.size (.lst [])) fp) ([]++jJ fp s7.heap) σ' H' s'→tn (i+1) s'.heap∧∀ b∈fp,H' b=none:=fun {H' s' σ'} J=> ⟨T.keep _ _ _ st7 fun b hb o e=> (J.pin (b,o) (List.mem_append_right _ (List.mem_append_right _ (cU hb e)))).1,fun b hb=> by
    obtain ⟨o,e,d⟩:=T.obj _ _ st7 b hb
    exact (J.pin (b,o) (List.mem_append_right _ (List.mem_append_right _ (cU hb e)))).2.1⟩
   cases bb with
   | true=>
    rw [if_pos rfl] at q9
    simp only [if_true]
    refine wpAny_bind (wpAny_bind (wpAny_mono (he _ _ _ _ _ s9 σ8 H9 _ I9 q9) (fun v s10 ⟨y,H10,I10,r10,vs,hl10,hz,m',hm,w'⟩=> ?_) fun _ _ z=> z.elim))
    refine wpAny_bind (wpAny_mono (h7 (X:=ax X scope cl s3.heap.objs.size s3 (upd H2 s2.heap.objs.size (.lst [])) fp) _ s10 σ8 H10 (.ref s2.heap.objs.size) [y] (.ref s2.heap.objs.size) [v] (fun _ H'=> H'=upd H10 s2.heap.objs.size (.lst (vs++[y]))) I10 rfl (.cons r10 .nil) ⟨_,vs,y,rfl,rfl,hl10,hz,rfl⟩) (fun z s11 ⟨zv,H11,I11,_,e11⟩=> ?_) fun _ _ z=> z.elim)
    subst e11
    obtain ⟨k1,k2⟩:=fpn I11
    exact wpAny_pure (wpAny_pure ⟨rfl,m',hm,i+1,_,(I11.unpinned (pins:=[])).weak (by rw [I11.len,eo,I.len]) sub,k1,k2,w'⟩)
   | false=>
    rw [if_neg (by decide)] at q9
    simp only [Bool.false_eq_true,if_false]
    obtain ⟨m',hm,w'⟩:=q9
    obtain ⟨k1,k2⟩:=fpn I9
    first
     | exact wpAny_pure ⟨rfl,m',hm,i+1,_,(I9.unpinned (pins:=[])).weak (by rw [I9.len,eo,I.len]) sub,k1,k2,w'⟩
     | exact wpAny_bind (wpAny_pure (wpAny_pure ⟨rfl,m',hm,i+1,_,(I9.unpinned (pins:=[])).weak (by rw [I9.len,eo,I.len]) sub,k1,k2,w'⟩))
 exact codeAny_compStart_list loop (T.self X.A 0 _ _ _ st4 loop)
theorem mJ {elt iter tg:Expr} {scope:Scope} {cl:List (Str×Addr)} {pos spos py:Pos} {y:Str} {j:Nat} {is:List Nat} {wi:TI} {g:TG} {tt:TT} {te:TE} {cond:Expr} (hc:X.calm=true) (hN:X.N.Nodup) (hj:X.N[j]?=some y) (hy:Loc X.env.scope y) (B:cY X scope cl is)
  (hi:PI X tg iter wi) (hg:∀ C s H fp,PG (ax X scope cl C s H fp) tg g) (ht:∀ C s H fp,PT (ax X scope cl C s H fp) cond tt) (he:∀ C s H fp,PE (ax X scope cl C s H fp) elt te) (hs:∀ x,foldedSetIterable iter X.env x=pure x:=by intro _; rfl)
  (hsw:swapsWith (.ListComp elt [⟨tg,iter,[cond],0⟩] scope pos) (some (.Name y py)) spos.line X.env=pure true:=by rfl) (hf:X.fn y=true∨X.env.scope.names.lookup y=some .local:=by first | exact .inl rfl | exact .inr rfl | assumption):
  PS X (.Assign [.Name y py] (.ListComp elt [⟨tg,iter,[cond],0⟩] scope pos) spos) (w4 (ur is wi g tt te) (kB j)):=by
 intro pins s σ H D I h
 rw [exec_Assign_Name_used _ _ _ _ hsw]
 refine wpAny_bind (wpAny_standAt (wpAny_bind ?_))
 show wpAny _ X.A (do let _ ← comprehension (.ListComp elt [⟨tg,iter,[cond],0⟩] scope pos) scope X.env _ (newList []) false (eval iter X.env) (some (assign (.Name y py) X.env))) _ _ s
 refine wpAny_bind (wpAny_mono (rm (Q0:=fun v H'=> D.nx (σ.set j (some v)) H') (use:=some (assign (.Name y py) X.env)) (Q:=fun _ s'=> SP X pins D .next s') hc B hi hg ht he hs I h fun l C H' s' m I' hn h1 h2 h3 h4 h5 h6 q=> ?_) (fun _ s' hq=> wpAny_pure (wpAny_pure hq)) fun _ _ e=> e)
 show wpAny _ X.A (assign (.Name y py) X.env (.ref l)) _ _ _
 refine wpAny_assign_Name (ie I' hN hj hy (v:=.ref l) rfl (fun s2 I2 ⟨a,hsb,ha⟩=> ?_) hf)
 have hCa:C≠a:=by
  rcases ha with e | e
  ·rw [e]; exact h2
  ·exact Ne.symm (h5 _ _ e)
 refine ⟨m,hn.sameBut hsb hCa,fun h' hsb'=> ⟨_,H',I2.turned (t':=s2.toks) (fun b o hb e=> hsb'.extBut b o hb e) h1 h2 (.inr h4) h5 h6,q⟩⟩
end
section
variable {X:Cx} {H0:Hp} {O0:List Addr} {E:XK} {ps ps':PSt} {D:PD} {tg iter cond:Expr} {pos p:Pos} {xs:List U} {fs:List (Option U)}
theorem oK {is:List Nat} {g:TG} {f:PSt→U→PSt} {dom:U→Prop} {σ:St} {H1:Hp} {O:List Addr} {Q:VK} {J:It} {tt:TT} {te:TE} (hg:GOk g X.K is f dom) (R1:Rs X.K H0 O0 ps σ H1 O) (Y:Yl X.K J (hid H1 O) xs) (hlen:fs.length=xs.length) (hz:xs.length≤sizeLine) (hdom:∀ x∈xs,dom x)
  (htt:∀ (i:Nat) (x:U) (o:Option U) (σ:St) (H:Hp) (O':List Addr) (Q:Bool→Hp→Prop),xs[i]?=some x→fs[i]?=some o→Rs X.K H0 O0 (f (d_ is ps) x) σ H O'→(∀ H',aI H H'→Q o.isSome H')→tt σ H Q)
  (hte:∀ (i:Nat) (x y:U) (σ:St) (H:Hp) (O':List Addr) (Q:VK),xs[i]?=some x→fs[i]?=some (some y)→Rs X.K H0 O0 (f (d_ is ps) x) σ H O'→(∀ v H',aI H H'→Rp X.K (hid H' O') v y→Q v H')→te σ H Q)
  (fin:∀ a vs H',aI H1 H'→H1 a=none→H' a=some (.lst vs)→Rps X.K (hid H' (a::O)) vs (fs.filterMap id)→Q (.ref a) H'):uW is g tt te σ Q J H1:=by
 intro l hl
 refine ⟨fun i m H2=> m=xs.length - i∧i≤xs.length∧aI H1 H2∧∃ vs,H2 l=some (.lst vs)∧vs.length≤i∧Rps X.K (hid H2 (l::O)) vs ((fs.take i).filterMap id),⟨_,rfl,Nat.zero_le _,bn hl _,[],aX,Nat.le_refl _,by rw [List.take_zero]; exact .nil⟩,?_⟩
 rintro i m H2 ⟨rfl,hi,s2,vs,h2,hv,rs⟩
 have seen:aI (hid H1 O) (hid H2 (l::O)):=bX s2 hl
 obtain ⟨y1,y2⟩:=Y H2 (seen.trans ay)
 by_cases hlt:i < xs.length
 ·obtain ⟨g1,g2⟩:=y1 i hlt
  refine .inr ⟨g1,fun x H3 y=> ?_⟩
  obtain ⟨rfl,u,hu,r⟩:=g2 x H3 y
  have R2:=(R1.mask (is:=is)).hide s2 hl (by rw [h2]; intro z; cases z)
  refine hg H0 O0 _ _ H3 (l::O) x u _ (hdom u (List.mem_of_getElem? hu)) R2 (r.same seen) fun σ4 R4 keep=> ?_
  obtain ⟨o,ho⟩:∃ o,fs[i]?=some o:=⟨_,List.getElem?_eq_getElem (by omega)⟩
  refine htt i u o σ4 H3 (l::O) _ hu ho R4 fun H5 s5=> ⟨fun j w e=> keep j w (gN is σ j w e).2 e,?_⟩
  cases o with
  | none=>
   refine n8 ⟨xs.length - (i+1),by omega,rfl,hlt,s2.trans s5,vs,s5 _ _ h2,by omega,?_⟩
   rw [List.take_succ,ho,Option.toList_some,List.filterMap_append]
   simpa using rs.same (bD s5)
  | some yv=>
   refine n5 (hte i u yv σ4 H5 (l::O) _ hu ho (R4.go s5) fun v H6 s6 r6=> ⟨vs,s6 _ _ (s5 _ _ h2),?_,xs.length - (i+1),by omega,rfl,hlt,((s2.trans s5).trans s6).put hl _,vs++[v],aX,by simp; omega,?_⟩)
   ·omega
   ·rw [kW List.mem_cons_self,List.take_succ,ho,Option.toList_some,List.filterMap_append]
    exact ((rs.same (bD s5)).same (bD s6)).snoc (.cons r6 .nil)
 ·have e:i=xs.length:=by omega
  subst e
  rw [← hlen,List.take_length] at rs
  exact .inl ⟨y2,fin l vs H2 s2 hl h2 rs⟩
end
end L2
namespace L2
open PySem PySem.Spec PyProof.Rows
inductive yP:List (Option Expr)→List Expr→Prop where
 | nil:yP [] []
 | cons {k v:Int} {a b:Nat} {p q:Pos} {ks:List (Option Expr)} {vs:List Expr} (h:yP ks vs):yP (some (.Constant (.int k) a p)::ks) (.Constant (.int v) b q::vs)
section
variable {X:Cx} {H0:Hp} {O0:List Addr} {ps:PSt} {pos:Pos} {keys:List (Option Expr)} {values:List Expr} {k m:Bool}
end
end L2
namespace L2
open PySem PySem.Spec PyProof.Rows
theorem Ws.nox {X:Cx} {H0:Hp} {O0:List Addr} {E:XK} {ss:List Stmt} {D:PD} {ps:PSt} (h:Ws X.nox H0 O0 E ss D ps):Ws X H0 O0 E ss D ps:=PSs.nox h
theorem bh.calm {P:Program} {w:World} {K:PySem.W.Frag} {mg:Str→Option Value} {base:Heap} {k:Nat} {f:Addr} {fd:FuncData} {ps:List Str} {sp:Sp} (F:bh P w K mg base (CXF P w) k f fd ps sp) (h:∀ vs H Q E,sp vs H Q E→sp vs H Q E0):bh P w K mg base CX0 k f fd ps sp:=by
 refine ⟨F.len,fun A outer s H args us vs Q E hr he hb hv hs=> codeAny_mono (F.run A outer s H args us vs Q E0 hr he hb hv (h _ _ _ _ hs)) fun r s' q=> ?_⟩
 cases r with
 | ok fl=>
  cases fl with
  | ret u=> exact q
  | next=> exact q
  | brk=> exact q
  | cont=> exact q
 | error e=>
  obtain ⟨_,_,_,_,_,_,_,_,_,_,_,_,_,_,_,hE⟩:=q
  exact hE.elim
def gO:List U→Out→Prop:=fun us o=> ∃ ns:List Int,us=[.scr (ns.map U.int)]∧ns.length≤63∧(∀ m∈ns,Sz 1048576 m)∧o=.val (.bl true)
theorem u9 {K:PySem.W.Frag} (vs:List V) (H:Hp) (Q:VK) (E:XK) (h:spU K gO vs H Q E):spU K gO vs H Q E0:=by
 obtain ⟨us,O,o,d,r,⟨ns,h1,h2,h3,rfl⟩,q⟩:=h
 exact ⟨us,O,_,d,r,⟨ns,h1,h2,h3,rfl⟩,q⟩
theorem rz {K:PySem.W.Frag} {H:Hp} {a:Addr} {ns:List Int} {E:XK} (h1:ns.length≤63) (h2:∀ m∈ns,Sz 1048576 m) (h3:SqL K H a (ns.map V.int)):spU K gO [.ref a] H (fun v _=> v=.bl true) E:=by
 refine ⟨[.scr (ns.map U.int)],[],.val (.bl true),fun a ha=> (nomatch ha),.cons ?_ .nil,⟨ns,rfl,h1,h2,rfl⟩,fun v H' s r=> by cases r; rfl⟩
 have e:hid H []=H:=by funext b; unfold hid; rw [if_neg (by simp)]
 rw [e]
 refine .scr h3 (by simp) fun i v x e1 e2=> ?_
 rw [List.getElem?_map] at e1 e2
 cases q:ns[i]? with
 | none=> rw [q] at e1; cases e1
 | some n=> rw [q] at e1 e2; cases e1; cases e2; exact .int n
theorem kX {k:Nat} {A:Around} (hr:dJ k A):A.units+10 < cLine:=by have:=hr.un; omega
theorem vz {ns:List Int} {k:Int} (h0:0≤k) (h:k < (ns.length:Int)):atI (ns.map U.int) k=some (.int (ns.getD k.toNat 0)):=by
 have hk:k.toNat < ns.length:=by omega
 have q:atI (ns.map U.int) ((k.toNat:Nat):Int)=some (.int (ns.getD k.toNat 0)):=p7 (by rw [List.getElem?_map,List.getD_eq_getElem?_getD,List.getElem?_eq_getElem hk] <;> rfl)
 rwa [show ((k.toNat:Nat):Int)=k by omega] at q
theorem vM {ns:List Int} (h:∀ m∈ns,Sz 1048576 m) (i:Nat):Sz 1048576 (ns.getD i 0):=by
 by_cases hk:i < ns.length
 ·rw [List.getD_eq_getElem?_getD,List.getElem?_eq_getElem hk,Option.getD_some]; exact h _ (List.getElem_mem hk)
 ·rw [List.getD_eq_getElem?_getD,List.getElem?_eq_none (by omega),Option.getD_none]; exact Sz.mono (m:=8) (by decide) (by decide)
abbrev pt (x y:Int):U:=.tup [.int x,.int y]
theorem dTb {p:Prop} [Decidable p] (h:decide p=true):p:=of_decide_eq_true h
theorem dFb {p:Prop} [Decidable p] (h:decide p=false):¬ p:=of_decide_eq_false h
theorem nTb {p:Prop} [Decidable p] (h:(!decide p)=true):¬ p:=by simpa using h
theorem nFb {p:Prop} [Decidable p] (h:(!decide p)=false):p:=by simpa using h
theorem vB {a b:Bool} (h:a=b):Out.val (.bl a)=Out.val (.bl b):=by rw [h]
theorem vIO {a b:Int} (h:a=b):Out.val (.int a)=Out.val (.int b):=by rw [h]
mutual
theorem tE:∀ (n:Nat) (u:U),okU n u=true→eqW u u=true
 | _,.non,_=> rfl
 | _,.bl b,_=> by simp [eqW]
 | _,.int b,_=> by simp [eqW]
 | _,.str b,_=> by simp [eqW]
 | _,.ty _,h=> by simp [okU] at h
 | _,.dic,h=> by simp [okU] at h
 | 0,.tup _,h=> by simp [okU] at h
 | 0,.lst _,h=> by simp [okU] at h
 | 0,.scr _,h=> by simp [okU] at h
 | n+1,.tup xs,h=> by rw [eqW]; rw [okU] at h; exact eqWs_refl n xs h
 | n+1,.lst xs,h=> by rw [eqW]; rw [okU] at h; exact eqWs_refl n xs h
 | n+1,.scr xs,h=> by rw [eqW]; rw [okU] at h; exact eqWs_refl n xs h
theorem eqWs_refl:∀ (n:Nat) (xs:List U),okUs n xs=true→eqWs xs xs=true
 | _,[],_=> rfl
 | n,x::xs,h=> by
  simp only [okUs,Bool.and_eq_true] at h
  simp only [eqWs,Bool.and_eq_true]
  exact ⟨tE n x h.1,eqWs_refl n xs h.2⟩
end
theorem uC {α:Type} {n:Nat} {f:α→U} {l:List α} (h:∀ a∈l,okU n (f a)=true):okUs n (l.map f)=true:=by
 induction l with
 | nil=> rfl
 | cons a l ih=>
  rw [List.map_cons,okUs,Bool.and_eq_true]
  exact ⟨h a List.mem_cons_self,ih fun b hb=> h b (List.mem_cons_of_mem _ hb)⟩
theorem uM {α:Type} {n:Nat} {f:α→U} {l:List α} (h:∀ a,okU n (f a)=true):okU (n+1) (.lst (l.map f))=true:=by rw [okU]; exact uC fun a _=> h a
theorem mr {α:Type} {f:α→U} {p:α→α→Prop} [DecidableEq α] (hf:∀ a b,eqW (f a) (f b)=decide (a=b)):∀ (l m:List α),eqWs (l.map f) (m.map f)=decide (l=m)
 | [],[]=> rfl
 | [],_::_=> rfl
 | _::_,[]=> rfl
 | a::l,b::m=> by
  rw [List.map_cons,List.map_cons,eqWs,hf,mr (p:=p) hf l m,Bool.eq_iff_iff]
  simp
end L2
namespace L2
open PySem PySem.Spec PyProof.Rows
section
variable {X:Cx} {H0:Hp} {O0:List Addr} {E:XK} {ps:PSt} {D:PD} {a b c e:Expr} {rest:List Expr} {pos:Pos} {k:Bool}
theorem dI {tb fb:List Stmt} (hc:Tt X H0 O0 ps c k) (hk:k=true) (h:Ws X H0 O0 E tb D ps):W1 X H0 O0 E (.If c tb fb pos) D ps:=fQ hc (fun _=> h) (fun e=> by rw [hk] at e; cases e)
theorem ff {tb fb:List Stmt} (hc:Tt X H0 O0 ps c k) (hk:k=false) (h:Ws X H0 O0 E fb D ps):W1 X H0 O0 E (.If c tb fb pos) D ps:=fQ hc (fun e=> by rw [hk] at e; cases e) (fun _=> h)
theorem li (ha:Tt X H0 O0 ps a k) (hk:k=false):Tw X H0 O0 ps (.BoolOp .And (a::b::rest) pos) false:=by
 subst hk
 exact kE (m:=true) ha fun h=> by cases h
theorem jk (ha:Tt X H0 O0 ps a k) (hk:k=true):Tw X H0 O0 ps (.BoolOp .Or (a::b::rest) pos) true:=by
 subst hk
 exact vv (m:=true) ha fun h=> by cases h
end
end L2
namespace L2
open PySem PySem.Spec PyProof.Rows
section
variable {X:Cx} {H0:Hp} {O0:List Addr} {E:XK} {ps:PSt} {D:PD} {body:List Stmt} {tg iter c:Expr} {pos:Pos} {xs:List U} {α:Type}
theorem TgS.sub {p p':PSt} {u:U} {ps':PSt} (h:TgS X H0 O0 tg p u ps') (hs:SubP p p'):TgS X H0 O0 tg p' u ps':=PG.mono h fun v σ H Q ⟨O,R,r,q⟩=> ⟨O,R.sub hs,r,q⟩
theorem Tt.sub {p p':PSt} {e:Expr} {k:Bool} (h:Tt X H0 O0 p e k) (hs:SubP p p'):Tt X H0 O0 p' e k:=PT.mono h fun σ H Q ⟨O,R,q⟩=> ⟨O,R.sub hs,q⟩
theorem ij (st:α→PSt) (Q:Nat→α→Prop) (hc:X.calm=true) (hp:PassesOwn (model X.prog X.w) X.A X.env X.xe) (hi:EvI X H0 O0 ps tg iter xs) (h0:∃ a,Q 0 a∧SubP (st a) ps)
  (hs:∀ (H0:Hp) (i:Nat) (x:U) (a:α),xs[i]?=some x→Q i a→∃ ps',TgS X H0 O0 tg (st a) x ps'∧Ws X H0 O0 E body { D with nx:=fun p=> ∃ b,Q (i+1) b∧SubP (st b) p,ct:=fun p=> ∃ b,Q (i+1) b∧SubP (st b) p,bk:=D.nx } ps')
  (hd:∀ a ps,Q xs.length a→SubP (st a) ps→D.nx ps) (hf:∀ x,foldedSetIterable iter X.env x=pure x:=by intro _; rfl):W1 X H0 O0 E (.For tg iter body [] pos) D ps:=
 zp hc hp hi (fun i ps=> ∃ a,Q i a∧SubP (st a) ps) h0 (fun H0 i x ps hx ⟨a,q,sb⟩=> by
  obtain ⟨ps',t,w⟩:=hs H0 i x a hx q
  exact ⟨ps',t.sub sb,w⟩) (fun ps ⟨a,q,sb⟩=> hd a ps q sb) hf
theorem gX (st:α→PSt) (Q:Nat→α→Prop) (hp:PassesOwn (model X.prog X.w) X.A X.env X.xe) (h0:∃ m a,Q m a∧SubP (st a) ps)
  (hs:∀ m a,Q m a→∃ b,Tt X H0 O0 (st a) c b∧(b=true→Ws X H0 O0 E body { D with nx:=fun p=> ∃ m' a',m' < m∧Q m' a'∧SubP (st a') p,ct:=fun p=> ∃ m' a',m' < m∧Q m' a'∧SubP (st a') p,bk:=D.nx } (st a))∧(b=false→∀ ps,SubP (st a) ps→D.nx ps)):W1 X H0 O0 E (.While c body [] pos) D ps:=by
 obtain ⟨m,a,q,sb⟩:=h0
 refine wE hp (fun m ps=> ∃ a,Q m a∧SubP (st a) ps) m ⟨a,q,sb⟩ fun m ps ⟨a,q,sb⟩=> ?_
 obtain ⟨b,t,h1,h2⟩:=hs m a q
 refine ⟨b,t.sub sb,fun e=> ?_,fun e=> h2 e ps sb⟩
 refine gd (PSs.mono (h1 e) fun D' σ H ⟨L,O,R⟩=> ⟨⟨fun p σ H O R ⟨m',a',l,q',sb'⟩=> L.nx p σ H O R ⟨m',l,a',q',sb'⟩,L.bk,fun p σ H O R ⟨m',a',l,q',sb'⟩=> L.ct p σ H O R ⟨m',l,a',q',sb'⟩,L.rt⟩,O,R⟩) sb
end
abbrev P2:=Int×Int
abbrev pu (p:P2):U:=.tup [.int p.1,.int p.2]
abbrev lp (l:List P2):U:=.lst (l.map pu)
theorem tP (p q:P2):eqW (pu p) (pu q)=decide (p=q):=by
 obtain ⟨a,b⟩:=p
 obtain ⟨c,d⟩:=q
 simp only [pu,eqW,eqWs,Bool.and_true]
 rw [Bool.eq_iff_iff]; simp
theorem yS (l m:List P2):eqW (lp l) (lp m)=decide (l=m):=by rw [lp,lp,eqW]; exact mr (p:=fun _ _=> True) tP l m
theorem xy (l:List P2):okU 9 (lp l)=true:=uM fun _=> rfl
theorem sU {l:List P2} {i:Nat} {x:U} (h:(l.map pu)[i]?=some x):∃ p,l[i]?=some p∧p∈l∧x=pu p:=by
 rw [List.getElem?_map] at h
 cases q:l[i]? with
 | none=> rw [q] at h; cases h
 | some p=> rw [q] at h; cases h; exact ⟨p,rfl,List.mem_of_getElem? q,rfl⟩
theorem fH {α:Type} {l:List α} {f:α→U} {g:α→U} {i:Nat} {x y:U} (hx:(l.map f)[i]?=some x) (hy:(l.map g)[i]?=some y):∃ a,l[i]?=some a∧a∈l∧x=f a∧y=g a:=by
 rw [List.getElem?_map] at hx hy
 cases q:l[i]? with
 | none=> rw [q] at hx; cases hx
 | some p=> rw [q] at hx hy; cases hx; cases hy; exact ⟨p,rfl,List.mem_of_getElem? q,rfl,rfl⟩
end L2
namespace L2
open PySem PySem.Spec PyProof.Rows
theorem W1.mono {X:Cx} {H0:Hp} {O0:List Addr} {E:XK} {s:Stmt} {D:PD} {J:PSt→Prop} {ps:PSt} (h:W1 X H0 O0 E s { D with nx:=J } ps) (m:∀ ps,J ps→D.nx ps):W1 X H0 O0 E s D ps:=
 PS.mono h fun D' σ H ⟨L,O,R⟩=> ⟨⟨fun p σ H O R q=> L.nx p σ H O R (m p q),L.bk,L.ct,L.rt⟩,O,R⟩
theorem oo {X:Cx} {H0:Hp} {O0:List Addr} {E:XK} {s:Stmt} {ss:List Stmt} {D:PD} {ps:PSt} (J:PSt→Prop) (h1:W1 X H0 O0 E s { D with nx:=J } ps) (h2:∀ ps,J ps→Ws X H0 O0 E ss D ps):Ws X H0 O0 E (s::ss) D ps:=
 af (W1.mono (J:=J) (D:={ D with nx:=fun p=> Ws X H0 O0 E ss D p }) h1 h2)
end L2
namespace PySem.W
open PySem PySem.Spec PySem.Calls PyProof.Rows
end PySem.W
namespace L2
open PySem PySem.Spec PySem.W PyProof.Rows
section
variable {X:Cx} {pins:List (Addr×Obj)} {σ:St} {H:Hp} {s:Shared}
end
section
variable {X:Cx}
def lQ.drop (D:lQ) (i:Nat):lQ:=⟨fun σ H=> D.nx (σ.set i none) H,D.rt,fun σ H=> D.bk (σ.set i none) H,fun σ H=> D.ct (σ.set i none) H⟩
end
section
variable {X:Cx} {H0:Hp} {O0:List Addr} {E:XK} {ps:PSt} {D:PD} {a e:Expr} {es:List Expr} {us:List U} {k:Bool} {n:Nat} {fd:FuncData} {pn:List Str} {spec:List U→Out→Prop}
def PD.drop (D:PD) (i:Nat):PD:=⟨fun p=> D.nx (p.set i none),D.rt,fun p=> D.bk (p.set i none),fun p=> D.ct (p.set i none)⟩
end
section
variable {X:Cx} {H0:Hp} {O0:List Addr} {ps:PSt} {pos:Pos}
end
end L2
namespace L2
open PySem
theorem bN {c:Const} {j:Nat} {pos:Pos} {es:List Expr} {env:Env}:starEach (.Constant c j pos::es) env=(false,eval (.Constant c j pos) env)::starEach es env:=by rw [starEach]; intro e p h; cases h
theorem tU {l:List Expr} {j:Nat} {pos:Pos} {es:List Expr} {env:Env}:starEach (.Tuple l j pos::es) env=(false,eval (.Tuple l j pos) env)::starEach es env:=by rw [starEach]; intro e p h; cases h
theorem g6 {o:UnaryOp} {a:Expr} {pos:Pos} {es:List Expr} {env:Env}:starEach (.UnaryOp o a pos::es) env=(false,eval (.UnaryOp o a pos) env)::starEach es env:=by rw [starEach]; intro e p h; cases h
theorem bC {a b:Expr} {o:Operator} {pos:Pos} {es:List Expr} {env:Env}:starEach (.BinOp a o b pos::es) env=(false,eval (.BinOp a o b pos) env)::starEach es env:=by rw [starEach]; intro e p h; cases h
theorem ag {x:Str} {pos:Pos} {es:List Expr} {env:Env}:starEach (.Name x pos::es) env=(false,eval (.Name x pos) env)::starEach es env:=by rw [starEach]; intro e p h; cases h
theorem b_ {a b:Expr} {pos:Pos} {es:List Expr} {env:Env}:starEach (.Subscript a b pos::es) env=(false,eval (.Subscript a b pos) env)::starEach es env:=by rw [starEach]; intro e p h; cases h
theorem bV {f:Expr} {a:List Expr} {k:List Keyword} {pos:Pos} {es:List Expr} {env:Env}:starEach (.Call f a k pos::es) env=(false,eval (.Call f a k pos) env)::starEach es env:=by rw [starEach]; intro e p h; cases h
theorem gv {e:Expr} {g:List Comprehension} {sc:Scope} {pos:Pos} {es:List Expr} {env:Env}:starEach (.ListComp e g sc pos::es) env=(false,eval (.ListComp e g sc pos) env)::starEach es env:=by rw [starEach]; intro e p h; cases h
structure EvS (X:Cx) (H0:Hp) (O0:List Addr) (ps:PSt) (es:List Expr) (us:List U):Prop where
 a:EvA X H0 O0 ps es us
section
variable {X:Cx} {H0:Hp} {O0:List Addr} {ps:PSt} {e:Expr} {es:List Expr} {u:U} {us:List U} {pos:Pos}
theorem dr:EvS X H0 O0 ps [] []:=⟨am⟩
theorem aJ (ha:Ev X H0 O0 ps e u) (hr:EvS X H0 O0 ps es us) (hs:starEach (e::es) X.env=(false,eval e X.env)::starEach es X.env):EvS X H0 O0 ps (e::es) (u::us):=⟨ac ha hr.a hs⟩
theorem dU {x1} (h:EvS X H0 O0 ps es us) (hz:us.length≤sizeLine:=by first | decide | (simp only [List.length_cons,List.length_nil]; decide)):Ev X H0 O0 ps (.Tuple es x1 pos) (.tup us):=As h.a hz
theorem hV (h:EvS X H0 O0 ps es us) (hz:us.length≤sizeLine:=by first | decide | (simp only [List.length_cons,List.length_nil]; decide)):EvN X H0 O0 ps (.List es pos) us:=zN h.a hz
end
end L2
namespace ST
open PySem PySem.SetTable
def Ris (xs:Array Nat):Prop:=∀ (i j x y:Nat),i < j→xs[i]?=some x→xs[j]?=some y→x < y
theorem Ris.inj {xs:Array Nat} (h:Ris xs) {i j x:Nat} (h1:xs[i]?=some x) (h2:xs[j]?=some x):i=j:=by
 rcases Nat.lt_trichotomy i j with z | z | z
 ·exact absurd (h i j x x z h1 h2) (Nat.lt_irrefl _)
 ·exact z
 ·exact absurd (h j i x x z h2 h1) (Nat.lt_irrefl _)
theorem dP {xs:Array Nat} {i:Nat} (h:i < xs.size):xs[i]?=some xs[i]:=by simp [h]
theorem qr {xs:Array Nat} {i x:Nat} (h:xs[i]?=some x):i < xs.size:=(Array.getElem?_eq_some_iff.mp h).1
theorem k_ {xs:Array Nat} (R:Ris xs) (j:Nat):∀ (fuel lo hi:Nat),lo≤hi→hi≤xs.size→hi - lo≤fuel→(∀ (i x:Nat),i < lo→xs[i]?=some x→x < j)→(∀ (i x:Nat),hi≤i→xs[i]?=some x→j≤x)→
  (∀ (i x:Nat),i < below.go xs j fuel lo hi→xs[i]?=some x→x < j)∧(∀ (i x:Nat),below.go xs j fuel lo hi≤i→xs[i]?=some x→j≤x)∧below.go xs j fuel lo hi≤xs.size
 | 0,lo,hi,h1,h2,h3,h4,h5=> by
  have e:lo=hi:=by omega
  subst e
  rw [below.go]
  exact ⟨h4,h5,h2⟩
 | fuel+1,lo,hi,h1,h2,h3,h4,h5=> by
  rw [below.go]
  by_cases hlt:lo < hi
  ·rw [if_pos hlt]
   have hm:(lo+hi) / 2 < xs.size:=by omega
   have e:xs.getD ((lo+hi) / 2) j=xs[(lo+hi) / 2]:=by simp [Array.getD,hm]
   simp only [e]
   split
   ·rename_i hl
    refine k_ R j fuel _ hi (by omega) h2 (by omega) (fun i x hi' hx=> ?_) h5
    rcases Nat.lt_or_eq_of_le (show i≤(lo+hi) / 2 by omega) with z | z
    ·exact Nat.lt_trans (R i _ x _ z hx (dP hm)) hl
    ·subst z; rw [dP hm] at hx; cases hx; exact hl
   ·rename_i hl
    refine k_ R j fuel lo _ (by omega) (by omega) (by omega) h4 (fun i x hi' hx=> ?_)
    rcases Nat.lt_or_eq_of_le hi' with z | z
    ·exact Nat.le_trans (Nat.le_of_not_lt hl) (Nat.le_of_lt (R _ i _ x z (dP hm) hx))
    ·subst z; rw [dP hm] at hx; cases hx; exact Nat.le_of_not_lt hl
  ·rw [if_neg hlt]
   have e:lo=hi:=by omega
   subst e
   exact ⟨h4,h5,h2⟩
theorem eS {xs:Array Nat} (R:Ris xs) (j:Nat):(∀ (i x:Nat),i < below xs j→xs[i]?=some x→x < j)∧(∀ (i x:Nat),below xs j≤i→xs[i]?=some x→j≤x)∧below xs j≤xs.size:=
 k_ R j xs.size 0 xs.size (Nat.zero_le _) (Nat.le_refl _) (by omega) (fun i x h=> absurd h (Nat.not_lt_zero _)) (fun i x h e=> absurd (qr e) (by omega))
theorem vd {xs:Array Nat} (R:Ris xs) {i j:Nat} (h:xs[i]?=some j):below xs j=i:=by
 obtain ⟨h1,h2,h3⟩:=eS R j
 rcases Nat.lt_trichotomy (below xs j) i with z | z | z
 ·have hk:below xs j < xs.size:=Nat.lt_trans z (qr h)
  have:=h2 _ _ (Nat.le_refl _) (dP hk)
  have:=R _ _ _ _ z (dP hk) h
  omega
 ·exact z
 ·have:=h1 i j z h
  omega
theorem kw {t:SetTable} (R:Ris t.place) {i j:Nat} (h:t.place[i]?=some j):t.slot j=.live i:=by
 unfold SetTable.slot
 simp only [vd R h,h,beq_self_eq_true,if_true]
theorem qO {t:SetTable} (hd:t.dummies=#[]) {j:Nat} (h:∀ i:Nat,t.place[i]?≠some j):t.slot j=.empty:=by
 unfold SetTable.slot
 have e:(t.place[below t.place j]?==some j)=false:=by simpa using h _
 simp only [e,hd]
 simp [SetTable.has]
theorem oa {t:SetTable} (R:Ris t.place) (hd:t.dummies=#[]) (j:Nat):(t.slot j=.empty∧∀ i:Nat,t.place[i]?≠some j)∨∃ i:Nat,t.slot j=.live i∧t.place[i]?=some j:=by
 by_cases h:∃ i:Nat,t.place[i]?=some j
 ·obtain ⟨i,hi⟩:=h
  exact .inr ⟨i,kw R hi,hi⟩
 ·exact .inl ⟨qO hd fun i e=> h ⟨i,e⟩,fun i e=> h ⟨i,e⟩⟩
theorem rc {xs:Array Nat} (R:Ris xs) {mask:Nat} (hn:xs.size≤mask):∃ s,s≤mask∧∀ i:Nat,xs[i]?≠some s:=by
 apply Classical.byContradiction
 intro hno
 have all:∀ s,s≤mask→∃ i:Nat,xs[i]?=some s:=fun s hs=> by
  apply Classical.byContradiction
  intro h
  exact hno ⟨s,hs,fun i e=> h ⟨i,e⟩⟩
 have key:∀ s,s≤mask→∃ i:Nat,xs[i]?=some s∧s≤i:=by
  intro s
  induction s with
  | zero=> intro h; obtain ⟨i,hi⟩:=all 0 h; exact ⟨i,hi,Nat.zero_le _⟩
  | succ s ih=>
   intro h
   obtain ⟨i,hi,hle⟩:=ih (by omega)
   obtain ⟨k,hk⟩:=all (s+1) h
   refine ⟨k,hk,?_⟩
   rcases Nat.lt_trichotomy i k with z | z | z
   ·omega
   ·subst z; rw [hi] at hk; cases hk
   ·have:=R k i _ _ z hk hi; omega
 obtain ⟨i,hi,hle⟩:=key mask (Nat.le_refl _)
 have:=qr hi
 omega
def adv (mask:Nat) (p:Probe):Probe:=
 if p.more > 0 then { p with j:=p.j+1,more:=p.more - 1 } else
 { p with j:=(leap mask p.i p.perturb).1,more:=runEnd mask (leap mask p.i p.perturb).1 - (leap mask p.i p.perturb).1,i:=(leap mask p.i p.perturb).1,perturb:=(leap mask p.i p.perturb).2 }
theorem i8 (t:SetTable) (p:Probe):t.advance p=adv t.mask p:=by
 unfold SetTable.advance adv
 split
 ·rfl
 ·rfl
def start (mask:Nat) (h:Int):Probe:={ j:=bits h % (mask+1),more:=runEnd mask (bits h % (mask+1)) - bits h % (mask+1),i:=bits h % (mask+1),perturb:=bits h,dummy:=none }
def pth (mask:Nat) (h:Int):Nat→Probe
 | 0=> start mask h
 | n+1=> adv mask (pth mask h n)
def aM (mask:Nat) (h:Int):Nat→Nat×Nat
 | 0=> (bits h % (mask+1),bits h)
 | r+1=> leap mask (aM mask h r).1 (aM mask h r).2
theorem iP {mask:Nat}:∀ (m:Nat) (p:Probe) (f:Nat→Probe),f 0=p→(∀ n,f (n+1)=adv mask (f n))→m≤p.more→f m={ p with j:=p.j+m,more:=p.more - m }
 | 0,p,f,h0,_,_=> by rw [h0]; rfl
 | m+1,p,f,h0,hs,hm=> by
  rw [hs m,iP m p f h0 hs (by omega)]
  unfold adv
  rw [if_pos (by show p.more - m > 0; omega)]
  simp only [Probe.mk.injEq]
  exact ⟨by omega,by omega,trivial,trivial,trivial⟩
theorem i3 (mask:Nat) (h:Int):∀ n,(pth mask h n).dummy=none
 | 0=> rfl
 | n+1=> by
  rw [pth]; unfold adv
  split
  ·exact i3 mask h n
  ·exact i3 mask h n
theorem qS (mask i:Nat):runEnd mask i - i≤9:=by unfold runEnd; split <;> omega
theorem pJ (mask:Nat) (h:Int):∀ r,∃ n,n≤10 * r∧pth mask h n={ j:=(aM mask h r).1,more:=runEnd mask (aM mask h r).1 - (aM mask h r).1,i:=(aM mask h r).1,perturb:=(aM mask h r).2,dummy:=none }
 | 0=> ⟨0,Nat.le_refl _,rfl⟩
 | r+1=> by
  obtain ⟨n,hn,e⟩:=pJ mask h r
  have hL:=qS mask (aM mask h r).1
  have step:=iP (mask:=mask) (runEnd mask (aM mask h r).1 - (aM mask h r).1) (pth mask h n) (fun m=> pth mask h (n+m)) rfl (fun m=> rfl) (by rw [e]; exact Nat.le_refl _)
  refine ⟨n+(runEnd mask (aM mask h r).1 - (aM mask h r).1)+1,by omega,?_⟩
  rw [pth]
  have step':pth mask h (n+(runEnd mask (aM mask h r).1 - (aM mask h r).1))=_:=step
  rw [step',e]
  unfold adv
  rw [if_neg (by simp)]
  rfl
theorem wF (h:Int):bits h < 2 ^ 64:=by
 unfold bits
 have h1:=Int.emod_nonneg h (show (2 ^ 64:Int)≠0 by decide)
 have h2:=Int.emod_lt_of_pos h (show (0:Int) < 2 ^ 64 by decide)
 omega
theorem j7 (mask:Nat) (h:Int):∀ r,(aM mask h r).2=bits h / 32 ^ r
 | 0=> by simp [aM]
 | r+1=> by
  rw [aM]
  show (aM mask h r).2 / 32=_
  rw [j7 mask h r,Nat.div_div_eq_div_mul,Nat.pow_succ]
theorem qY (mask:Nat) (h:Int) (r:Nat) (hr:12≤r):(aM mask h r).2 / 32=0:=by
 rw [j7]
 have h1:=wF h
 rw [Nat.div_div_eq_div_mul]
 apply Nat.div_eq_of_lt
 have:32 ^ 12 * 32≤32 ^ r * 32:=Nat.mul_le_mul_right _ (Nat.pow_le_pow_right (by decide) hr)
 exact Nat.lt_of_lt_of_le (Nat.lt_of_lt_of_le h1 (by decide)) this
def cK:Nat→Nat
 | 0=> 1
 | k+1=> cK k * (4 * cK k+2)
theorem vg:∀ k,∃ m,cK k=2 ^ k * (2 * m+1)
 | 0=> ⟨0,by simp [cK]⟩
 | k+1=> by
  obtain ⟨m,e⟩:=vg k
  refine ⟨2 * (cK k) * m+m+cK k,?_⟩
  rw [cK,Nat.pow_succ]
  have:cK k * (4 * cK k+2)=2 ^ k * (2 * m+1) * (4 * cK k+2):=by rw [← e]
  rw [this]
  generalize cK k=c
  generalize 2 ^ k=p
  grind
def fR:Nat→Nat→Nat
 | 0,x=> x
 | n+1,x=> 5 * fR n x+1
theorem i5 (m x:Nat):∀ n,fR (m+n) x=fR n (fR m x)
 | 0=> rfl
 | n+1=> by rw [← Nat.add_assoc,fR,i5 m x n,fR]
theorem jq:∀ (k x:Nat),fR (2 ^ k) x=(1+4 * cK k) * x+cK k
 | 0,x=> by simp [fR,cK]
 | k+1,x=> by
  rw [Nat.pow_succ,Nat.mul_two,i5,jq k,jq k,cK]
  generalize cK k=c
  grind
theorem o5 (k x:Nat):fR (2 ^ k) x % 2 ^ (k+1)=(x+2 ^ k) % 2 ^ (k+1):=by
 rw [jq]
 obtain ⟨m,e⟩:=vg k
 rw [e]
 have:(1+4 * (2 ^ k * (2 * m+1))) * x+2 ^ k * (2 * m+1)=(x+2 ^ k)+2 ^ (k+1) * (2 * (2 * m+1) * x+m):=by
  rw [Nat.pow_succ]
  generalize 2 ^ k=p
  grind
 rw [this,Nat.add_mul_mod_self_left]
theorem gl (x:Nat):∀ (k y:Nat),∃ n,n < 2 ^ k∧fR n x % 2 ^ k=y % 2 ^ k
 | 0,y=> ⟨0,by simp,by simp [Nat.mod_one]⟩
 | k+1,y=> by
  obtain ⟨n,hn,e⟩:=gl x k y
  have hp:2 ^ (k+1)=2 ^ k+2 ^ k:=by rw [Nat.pow_succ]; omega
  have h2:0 < 2 ^ k:=Nat.pow_pos (by decide)
  by_cases h:fR n x % 2 ^ (k+1)=y % 2 ^ (k+1)
  ·exact ⟨n,by omega,h⟩
  ·refine ⟨n+2 ^ k,by omega,?_⟩
   rw [i5,o5]
   generalize fR n x=z at *
   have d1:z % 2 ^ (k+1) % 2 ^ k=z % 2 ^ k:=Nat.mod_mod_of_dvd _ ⟨2,by rw [Nat.pow_succ]⟩
   have d2:y % 2 ^ (k+1) % 2 ^ k=y % 2 ^ k:=Nat.mod_mod_of_dvd _ ⟨2,by rw [Nat.pow_succ]⟩
   have l1:=Nat.mod_lt z (show 0 < 2 ^ (k+1) by omega)
   have l2:=Nat.mod_lt y (show 0 < 2 ^ (k+1) by omega)
   rw [← Nat.mod_add_mod]
   rw [← d1,← d2] at e
   generalize z % 2 ^ (k+1)=a at *
   generalize y % 2 ^ (k+1)=b at *
   rw [hp] at *
   generalize 2 ^ k=p at *
   have ea:a % p=if a < p then a else a - p:=by
    split
    ·exact Nat.mod_eq_of_lt (by assumption)
    ·rw [Nat.mod_eq_sub_mod (by omega),Nat.mod_eq_of_lt (by omega)]
   have eb:b % p=if b < p then b else b - p:=by
    split
    ·exact Nat.mod_eq_of_lt (by assumption)
    ·rw [Nat.mod_eq_sub_mod (by omega),Nat.mod_eq_of_lt (by omega)]
   rw [ea,eb] at e
   by_cases ha:a < p
   ·rw [if_pos ha] at e
    rw [Nat.mod_eq_of_lt (by omega)]
    split at e <;> omega
   ·rw [if_neg ha] at e
    rw [Nat.mod_eq_sub_mod (by omega),Nat.mod_eq_of_lt (by omega)]
    split at e <;> omega
theorem i_ {mask k:Nat} (hk:mask+1=2 ^ k) (h:Int):∀ q,(aM mask h (12+q)).1=fR q (aM mask h 12).1 % 2 ^ k
 | 0=> by
  rw [fR]
  have:(aM mask h 12).1 < 2 ^ k:=by
   rw [← hk]
   show (leap mask (aM mask h 11).1 (aM mask h 11).2).1 < _
   exact Nat.mod_lt _ (by omega)
  exact (Nat.mod_eq_of_lt this).symm
 | q+1=> by
  show (leap mask (aM mask h (12+q)).1 (aM mask h (12+q)).2).1=_
  unfold leap
  simp only [qY mask h (12+q) (by omega)]
  rw [i_ hk h q,hk,fR,Nat.add_zero,Nat.mul_comm 5 _]
  generalize fR q (aM mask h 12).1=z
  generalize 2 ^ k=m
  rw [Nat.add_mod,Nat.mod_mul_mod,← Nat.add_mod]
theorem cover {mask k:Nat} (hk:mask+1=2 ^ k) (h:Int) (s:Nat) (hs:s≤mask):∃ n,n < 10 * turns mask∧(pth mask h n).j=s:=by
 obtain ⟨q,hq,e⟩:=gl (aM mask h 12).1 k s
 obtain ⟨n,hn,en⟩:=pJ mask h (12+q)
 refine ⟨n,?_,?_⟩
 ·unfold turns; omega
 ·rw [en]
  show (aM mask h (12+q)).1=s
  rw [i_ hk h q,e]
  exact Nat.mod_eq_of_lt (by omega)
end ST
namespace ST
open PySem PySem.SetTable
def Liv (t:SetTable) (j:Nat):Prop:=∃ i:Nat,t.place[i]?=some j
structure TOk (t:SetTable) (hs:List Int):Prop where
 R:Ris t.place
 d:t.dummies=#[]
 k:∃ k,3≤k∧t.mask+1=2 ^ k
 n:t.place.size=hs.length
 f:t.place.size≤t.mask
 le:∀ (i x:Nat),t.place[i]?=some x→x≤t.mask
 reach:∀ (i j:Nat) (h:Int),t.place[i]?=some j→hs[i]?=some h→∃ m,(pth t.mask h m).j=j∧∀ m',m' < m→Liv t (pth t.mask h m').j
theorem least {P:Nat→Prop}:∀ n,P n→∃ m,m≤n∧P m∧∀ k,k < m→¬ P k:=by
 intro n
 induction n using Nat.strongRecOn with
 | _ n ih=>
  intro h
  by_cases hk:∃ k,k < n∧P k
  ·obtain ⟨k,hk,hp⟩:=hk
   obtain ⟨m,h1,h2,h3⟩:=ih k hk hp
   exact ⟨m,by omega,h2,h3⟩
  ·exact ⟨n,Nat.le_refl _,h,fun k hk' hp=> hk ⟨k,hk',hp⟩⟩
theorem oW {t:SetTable} {hs:List Int} (T:TOk t hs) (h:Int):∃ N,N < 10 * turns t.mask∧¬ Liv t (pth t.mask h N).j∧∀ m,m < N→Liv t (pth t.mask h m).j:=by
 obtain ⟨s,hs1,hs2⟩:=rc T.R T.f
 obtain ⟨k,_,hk⟩:=T.k
 obtain ⟨n,hn,e⟩:=cover hk h s hs1
 obtain ⟨m,h1,h2,h3⟩:=least (P:=fun n=> ¬ Liv t (pth t.mask h n).j) n (by show ¬ Liv t (pth t.mask h n).j; rw [e]; rintro ⟨i,hi⟩; exact hs2 i hi)
 exact ⟨m,by omega,h2,fun k hk'=> Classical.byContradiction fun z=> h3 k hk' z⟩
theorem mO {t:SetTable} {hs:List Int} (T:TOk t hs) (hashAt:Nat→Int) (h:Int) {N:Nat} (h0:¬ Liv t (pth t.mask h N).j) (h1:∀ m,m < N→Liv t (pth t.mask h m).j):∀ (fuel n:Nat),n≤N→N - n < fuel→
  (probe.go t hashAt h fuel (pth t.mask h n)=some (.empty (pth t.mask h N).j none)∧∀ (m i:Nat),n≤m→m < N→t.place[i]?=some (pth t.mask h m).j→hashAt i≠h)∨
  ∃ m i:Nat,n≤m∧m < N∧t.place[i]?=some (pth t.mask h m).j∧hashAt i=h∧probe.go t hashAt h fuel (pth t.mask h n)=some (.candidate (pth t.mask h m).j i (pth t.mask h (m+1)))∧
   ∀ (m' i':Nat),n≤m'→m' < m→t.place[i']?=some (pth t.mask h m').j→hashAt i'≠h
 | 0,n,_,hf=> by omega
 | fuel+1,n,hn,hf=> by
  rw [probe.go]
  rcases oa T.R T.d (pth t.mask h n).j with ⟨e,hno⟩ | ⟨i,e,hi⟩
  ·have hN:n=N:=by
    rcases Nat.lt_or_eq_of_le hn with z | z
    ·obtain ⟨i,hi⟩:=h1 n z; exact absurd hi (hno i)
    ·exact z
   subst hN
   refine .inl ⟨by simp only [e,i3],fun m i z1 z2=> by omega⟩
  ·have hN:n < N:=by
    rcases Nat.lt_or_eq_of_le hn with z | z
    ·exact z
    ·subst z; exact absurd ⟨i,hi⟩ h0
   simp only [e]
   by_cases hh:hashAt i=h
   ·refine .inr ⟨n,i,Nat.le_refl _,hN,hi,hh,?_,fun m' i' z1 z2=> by omega⟩
    simp only [hh,beq_self_eq_true,if_true,i8]
    rfl
   ·have hb:(hashAt i==h)=false:=by simpa using hh
    simp only [hb,Bool.false_eq_true,if_false,i8]
    have ih:=mO T hashAt h h0 h1 fuel (n+1) (by omega) (by omega)
    rcases ih with ⟨q1,q2⟩ | ⟨m,i2,q1,q2,q3,q4,q5,q6⟩
    ·refine .inl ⟨q1,fun m i' z1 z2 z3=> ?_⟩
     rcases Nat.lt_or_eq_of_le z1 with z | z
     ·exact q2 m i' z z2 z3
     ·subst z
      rw [T.R.inj z3 hi]; exact hh
    ·refine .inr ⟨m,i2,by omega,q2,q3,q4,q5,fun m' i' z1 z2 z3=> ?_⟩
     rcases Nat.lt_or_eq_of_le z1 with z | z
     ·exact q6 m' i' z z2 z3
     ·subst z
      rw [T.R.inj z3 hi]; exact hh
theorem uj {t:SetTable} {hs:List Int} (T:TOk t hs) {h:Int} {N i:Nat} (h0:¬ Liv t (pth t.mask h N).j) (hi:hs[i]?=some h):∃ (m j:Nat),m < N∧t.place[i]?=some j∧(pth t.mask h m).j=j:=by
 have hlt:i < t.place.size:=by rw [T.n]; exact (List.getElem?_eq_some_iff.mp hi).1
 obtain ⟨m,e,hm⟩:=T.reach i _ h (dP hlt) hi
 refine ⟨m,_,?_,dP hlt,e⟩
 rcases Nat.lt_trichotomy m N with z | z | z
 ·exact z
 ·subst z; exact absurd ⟨i,by rw [e]; exact dP hlt⟩ h0
 ·exact absurd (hm N z) h0
theorem d0 {α:Type} (xs:Array α) (p:Nat) (x:α):(insertAt xs p x).toList=xs.toList.take p++x::xs.toList.drop p:=by
 unfold insertAt
 simp [Array.toList_extract]
 exact List.take_of_length_le (by simp)
theorem cj {α:Type} {xs:Array α} {p:Nat} {x:α} (hp:p≤xs.size) (i:Nat):(insertAt xs p x)[i]?=if i < p then xs[i]? else if i=p then some x else xs[i - 1]?:=by
 rw [← Array.getElem?_toList,d0]
 have hl:(xs.toList.take p).length=p:=by simp; omega
 by_cases h1:i < p
 ·rw [if_pos h1,List.getElem?_append_left (by omega),List.getElem?_take_of_lt h1,Array.getElem?_toList]
 ·rw [if_neg h1,List.getElem?_append_right (by omega),hl]
  by_cases h2:i=p
  ·subst h2; simp
  ·rw [if_neg h2]
   obtain ⟨q,hq⟩:∃ q,i - p=q+1:=⟨i - p - 1,by omega⟩
   rw [hq,List.getElem?_cons_succ,List.getElem?_drop,Array.getElem?_toList]
   congr 1; omega
theorem fU {α:Type} (xs:Array α) (p:Nat) (x:α) (hp:p≤xs.size):(insertAt xs p x).size=xs.size+1:=by
 rw [← Array.length_toList,d0]; simp; omega
def fS {α:Type} (xs:List α) (p:Nat) (x:α):List α:=xs.take p++x::xs.drop p
theorem tf {α:Type} {xs:List α} {p:Nat} {x:α} (hp:p≤xs.length) (i:Nat):(fS xs p x)[i]?=if i < p then xs[i]? else if i=p then some x else xs[i - 1]?:=by
 unfold fS
 have hl:(xs.take p).length=p:=by simp; omega
 by_cases h1:i < p
 ·rw [if_pos h1,List.getElem?_append_left (by omega),List.getElem?_take_of_lt h1]
 ·rw [if_neg h1,List.getElem?_append_right (by omega),hl]
  by_cases h2:i=p
  ·subst h2; simp
  ·rw [if_neg h2]
   obtain ⟨q,hq⟩:∃ q,i - p=q+1:=⟨i - p - 1,by omega⟩
   rw [hq,List.getElem?_cons_succ,List.getElem?_drop]
   congr 1; omega
theorem wj {xs:Array Nat} (R:Ris xs) {j:Nat} (hno:∀ i:Nat,xs[i]?≠some j):Ris (insertAt xs (below xs j) j):=by
 obtain ⟨h1,h2,h3⟩:=eS R j
 have gt:∀ (i x:Nat),below xs j≤i→xs[i]?=some x→j < x:=fun i x hi hx=> by
  rcases Nat.lt_or_eq_of_le (h2 i x hi hx) with z | z
  ·exact z
  ·subst z; exact absurd hx (hno i)
 intro a b x y hab hx hy
 rw [cj h3] at hx hy
 by_cases a1:a < below xs j
 ·rw [if_pos a1] at hx
  by_cases b1:b < below xs j
  ·rw [if_pos b1] at hy; exact R a b x y hab hx hy
  ·rw [if_neg b1] at hy
   by_cases b2:b=below xs j
   ·rw [if_pos b2] at hy; cases hy; exact h1 a x a1 hx
   ·rw [if_neg b2] at hy; exact R a (b - 1) x y (by omega) hx hy
 ·rw [if_neg a1] at hx
  have b1:¬ b < below xs j:=by omega
  rw [if_neg b1] at hy
  have b2:¬ b=below xs j:=by omega
  rw [if_neg b2] at hy
  by_cases a2:a=below xs j
  ·rw [if_pos a2] at hx; cases hx; exact gt (b - 1) y (by omega) hy
  ·rw [if_neg a2] at hx; exact R (a - 1) (b - 1) x y (by omega) hx hy
theorem qm {xs:Array Nat} {p j:Nat} (hp:p≤xs.size) (s:Nat):(∃ i:Nat,(insertAt xs p j)[i]?=some s)↔s=j∨∃ i:Nat,xs[i]?=some s:=by
 constructor
 ·rintro ⟨i,hi⟩
  rw [cj hp] at hi
  split at hi
  ·exact .inr ⟨i,hi⟩
  ·split at hi
   ·cases hi; exact .inl rfl
   ·exact .inr ⟨i - 1,hi⟩
 ·rintro (rfl | ⟨i,hi⟩)
  ·exact ⟨p,by rw [cj hp,if_neg (Nat.lt_irrefl _),if_pos rfl]⟩
  ·by_cases h:i < p
   ·exact ⟨i,by rw [cj hp,if_pos h]; exact hi⟩
   ·exact ⟨i+1,by rw [cj hp,if_neg (by omega),if_neg (by omega)]; simpa using hi⟩
theorem TOk.put {t:SetTable} {hs:List Int} (T:TOk t hs) {h:Int} {N:Nat} (h0:¬ Liv t (pth t.mask h N).j) (h1:∀ m,m < N→Liv t (pth t.mask h m).j) (hle:(pth t.mask h N).j≤t.mask) (hf:t.place.size+1≤t.mask):
  TOk (t.put (pth t.mask h N).j).1 (fS hs (t.put (pth t.mask h N).j).2 h):=by
 have hno:∀ i:Nat,t.place[i]?≠some (pth t.mask h N).j:=fun i e=> h0 ⟨i,e⟩
 obtain ⟨_,_,hb⟩:=eS T.R (pth t.mask h N).j
 have hbl:below t.place (pth t.mask h N).j≤hs.length:=by rw [← T.n]; exact hb
 have ed:(if SetTable.has t.dummies (pth t.mask h N).j then eraseAt t.dummies (below t.dummies (pth t.mask h N).j) else t.dummies)=#[]:=by
  rw [T.d]; simp [SetTable.has]
 unfold SetTable.put
 simp only [ed]
 refine ⟨wj T.R hno,rfl,T.k,?_,?_,fun i x e=> ?_,fun i j hh e1 e2=> ?_⟩
 ·show (insertAt _ _ _).size=(fS hs _ h).length
  rw [fU _ _ _ hb,T.n]; unfold fS; simp; omega
 ·show (insertAt _ _ _).size≤t.mask
  rw [fU _ _ _ hb]; exact hf
 ·rcases (qm hb x).mp ⟨i,e⟩ with z | ⟨q,hq⟩
  ·rw [z]; exact hle
  ·exact T.le q x hq
 ·have liv:∀ s,Liv t s→Liv { t with place:=insertAt t.place (below t.place (pth t.mask h N).j) (pth t.mask h N).j,dummies:=#[] } s:=fun s z=> (qm hb s).mpr (.inr z)
  change (insertAt t.place _ _)[i]?=some j at e1
  rw [cj hb] at e1
  rw [tf hbl] at e2
  split at e1
  ·rename_i z
   rw [if_pos z] at e2
   obtain ⟨m,q1,q2⟩:=T.reach i j hh e1 e2
   exact ⟨m,q1,fun m' hm=> liv _ (q2 m' hm)⟩
  ·rename_i z
   rw [if_neg z] at e2
   split at e1
   ·rename_i z2
    rw [if_pos z2] at e2
    cases e1; cases e2
    exact ⟨N,rfl,fun m' hm=> liv _ (h1 m' hm)⟩
   ·rename_i z2
    rw [if_neg z2] at e2
    obtain ⟨m,q1,q2⟩:=T.reach (i - 1) j hh e1 e2
    exact ⟨m,q1,fun m' hm=> liv _ (q2 m' hm)⟩
theorem vw {mask:Nat} (h:Int):∀ n,(pth mask h n).j+(pth mask h n).more≤mask
 | 0=> by
  show bits h % (mask+1)+(runEnd mask (bits h % (mask+1)) - bits h % (mask+1))≤mask
  have:=Nat.mod_lt (bits h) (show 0 < mask+1 by omega)
  unfold runEnd; split <;> omega
 | n+1=> by
  have ih:=vw (mask:=mask) h n
  rw [pth]; unfold adv
  split
  ·simp only; omega
  ·show (leap mask _ _).1+(runEnd mask (leap mask _ _).1 - (leap mask _ _).1)≤mask
   have:(leap mask (pth mask h n).i (pth mask h n).perturb).1 < mask+1:=Nat.mod_lt _ (by omega)
   unfold runEnd; split <;> omega
end ST
namespace ST
open PySem PySem.SetTable
def OL (owner:Array (Option Nat)) (j:Nat):Prop:=∃ k:Nat,owner[j]?=some (some k)
def nr (mask:Nat) (h:Int):Nat→Nat
 | 0=> 0
 | r+1=> nr mask h r+(runEnd mask (aM mask h r).1 - (aM mask h r).1)+1
theorem xn (mask:Nat) (h:Int):∀ r,pth mask h (nr mask h r)={ j:=(aM mask h r).1,more:=runEnd mask (aM mask h r).1 - (aM mask h r).1,i:=(aM mask h r).1,perturb:=(aM mask h r).2,dummy:=none }
 | 0=> rfl
 | r+1=> by
  have e:=xn mask h r
  have step:=iP (mask:=mask) (runEnd mask (aM mask h r).1 - (aM mask h r).1) (pth mask h (nr mask h r)) (fun m=> pth mask h (nr mask h r+m)) rfl (fun m=> rfl) (by rw [e]; exact Nat.le_refl _)
  have step':pth mask h (nr mask h r+(runEnd mask (aM mask h r).1 - (aM mask h r).1))=_:=step
  rw [nr,pth,step',e]
  unfold adv
  rw [if_neg (by simp)]
  rfl
theorem n6 (mask:Nat) (h:Int) (r k:Nat) (hk:k≤runEnd mask (aM mask h r).1 - (aM mask h r).1):(pth mask h (nr mask h r+k)).j=(aM mask h r).1+k:=by
 have e:=xn mask h r
 have step:=iP (mask:=mask) k (pth mask h (nr mask h r)) (fun m=> pth mask h (nr mask h r+m)) rfl (fun m=> rfl) (by rw [e]; exact hk)
 have step':pth mask h (nr mask h r+k)=_:=step
 rw [step',e]
theorem rW (mask i:Nat):i≤runEnd mask i:=by unfold runEnd; split <;> omega
theorem wc (mask:Nat) (h:Int):∀ r,(aM mask h r).1≤mask
 | 0=> Nat.le_of_lt_succ (Nat.mod_lt _ (by omega))
 | r+1=> Nat.le_of_lt_succ (Nat.mod_lt _ (by omega))
theorem mM {mask i:Nat} (h:i≤mask):runEnd mask i≤mask:=by unfold runEnd; split <;> omega
theorem pw {mask:Nat} {owner:Array (Option Nat)} (hsz:owner.size=mask+1) (h:Int):∀ (fuel r:Nat),(∃ r',r≤r'∧r' < r+fuel∧owner[(aM mask h r').1]?=some none)→(∀ m,m < nr mask h r→OL owner (pth mask h m).j)→
  ∃ N,layClean.free mask owner fuel (aM mask h r).1 (aM mask h r).2=some (pth mask h N).j∧owner[(pth mask h N).j]?=some none∧∀ m,m < N→OL owner (pth mask h m).j
 | 0,r,⟨r',h1,h2,_⟩,_=> by omega
 | fuel+1,r,hex,hl=> by
  rw [layClean.free]
  have hge:=rW mask (aM mask h r).1
  have hmk:=mM (wc mask h r)
  have hin:∀ k,k < runEnd mask (aM mask h r).1+1 - (aM mask h r).1→(aM mask h r).1+k < owner.size:=fun k hk=> by omega
  cases hf:(List.range (runEnd mask (aM mask h r).1+1 - (aM mask h r).1)).find? fun k=> (owner.getD ((aM mask h r).1+k) (some 0)).isNone with
  | some k=>
   obtain ⟨p1,p2,p3⟩:=List.find?_range_eq_some.mp hf
   have hk:=List.mem_range.mp p2
   have hlt:=hin k hk
   have e1:owner[(aM mask h r).1+k]?=some none:=by
    have:owner.getD ((aM mask h r).1+k) (some 0)=owner[(aM mask h r).1+k]:=by simp [Array.getD,hlt]
    rw [this] at p1
    have:owner[(aM mask h r).1+k]=none:=by simpa using p1
    simp [hlt,this]
   have ej:=n6 mask h r k (by omega)
   refine ⟨nr mask h r+k,by simp only [ej],by rw [ej]; exact e1,fun m hm=> ?_⟩
   by_cases hm1:m < nr mask h r
   ·exact hl m hm1
   ·obtain ⟨q,rfl⟩:∃ q,m=nr mask h r+q:=⟨m - nr mask h r,by omega⟩
    have hq:=p3 q (by omega)
    have hlt2:=hin q (by omega)
    rw [n6 mask h r q (by omega)]
    have:owner.getD ((aM mask h r).1+q) (some 0)=owner[(aM mask h r).1+q]:=by simp [Array.getD,hlt2]
    rw [this] at hq
    cases hv:owner[(aM mask h r).1+q] with
    | none=> rw [hv] at hq; simp at hq
    | some v=> exact ⟨v,by simp [hlt2,hv]⟩
  | none=>
   have hall:∀ q,q < runEnd mask (aM mask h r).1+1 - (aM mask h r).1→OL owner ((aM mask h r).1+q):=fun q hq=> by
    have:=List.find?_eq_none.mp hf q (List.mem_range.mpr hq)
    have hlt2:=hin q hq
    have e:owner.getD ((aM mask h r).1+q) (some 0)=owner[(aM mask h r).1+q]:=by simp [Array.getD,hlt2]
    rw [e] at this
    cases hv:owner[(aM mask h r).1+q] with
    | none=> rw [hv] at this; simp at this
    | some v=> exact ⟨v,by simp [hlt2,hv]⟩
   have next:=pw hsz h fuel (r+1) (by
    obtain ⟨r',h1,h2,h3⟩:=hex
    refine ⟨r',?_,by omega,h3⟩
    rcases Nat.lt_or_eq_of_le h1 with z | z
    ·exact z
    ·subst z
     obtain ⟨v,hv⟩:=hall 0 (by omega)
     rw [Nat.add_zero,h3] at hv
     cases hv) (fun m hm=> by
    by_cases hm1:m < nr mask h r
    ·exact hl m hm1
    ·obtain ⟨q,rfl⟩:∃ q,m=nr mask h r+q:=⟨m - nr mask h r,by omega⟩
     have hm2:nr mask h r+q < nr mask h r+(runEnd mask (aM mask h r).1 - (aM mask h r).1)+1:=hm
     rw [n6 mask h r q (by omega)]
     exact hall q (by omega))
   exact next
structure OI (mask:Nat) (owner:Array (Option Nat)) (hs:List Int):Prop where
 sz:owner.size=mask+1
 lt:∀ (j k:Nat),owner[j]?=some (some k)→k < hs.length
 inj:∀ (i j k:Nat),owner[i]?=some (some k)→owner[j]?=some (some k)→i=j
 all:∀ k:Nat,k < hs.length→∃ j:Nat,owner[j]?=some (some k)
 reach:∀ (j k:Nat) (h:Int),owner[j]?=some (some k)→hs[k]?=some h→∃ m,(pth mask h m).j=j∧∀ m',m' < m→OL owner (pth mask h m').j
theorem OI.free {mask:Nat} {owner:Array (Option Nat)} {hs:List Int} (O:OI mask owner hs) (hn:hs.length≤mask):∃ s,s≤mask∧owner[s]?=some none:=by
 apply Classical.byContradiction
 intro hno
 have hlive:∀ s,s≤mask→OL owner s:=fun s hs'=> by
  have hlt:s < owner.size:=by rw [O.sz]; omega
  cases e:owner[s] with
  | none=> exact absurd ⟨s,hs',by simp [hlt,e]⟩ hno
  | some k=> exact ⟨k,by simp [hlt,e]⟩
 have nd:((List.range (mask+1)).map fun s=> (owner.getD s none).getD 0).Nodup:=by
  rw [List.nodup_iff_pairwise_ne,List.pairwise_map]
  refine List.Pairwise.imp_of_mem ?_ (List.pairwise_lt_range (n:=mask+1))
  intro a b ha hb hab e
  obtain ⟨k1,h1⟩:=hlive a (by have:=List.mem_range.mp ha; omega)
  obtain ⟨k2,h2⟩:=hlive b (by have:=List.mem_range.mp hb; omega)
  have e1:(owner.getD a none).getD 0=k1:=by simp [Array.getD_eq_getD_getElem?,h1]
  have e2:(owner.getD b none).getD 0=k2:=by simp [Array.getD_eq_getD_getElem?,h2]
  rw [e1,e2] at e
  subst e
  have:=O.inj a b k1 h1 h2
  omega
 have sub:((List.range (mask+1)).map fun s=> (owner.getD s none).getD 0) ⊆ List.range hs.length:=by
  intro x hx
  obtain ⟨s,hs1,rfl⟩:=List.mem_map.mp hx
  obtain ⟨k1,h1⟩:=hlive s (by have:=List.mem_range.mp hs1; omega)
  have e1:(owner.getD s none).getD 0=k1:=by simp [Array.getD_eq_getD_getElem?,h1]
  rw [e1]
  exact List.mem_range.mpr (O.lt s k1 h1)
 have:=List.Nodup.length_le_of_subset nd sub
 simp at this
 omega
theorem OI.step {mask k:Nat} (hk:mask+1=2 ^ k) {owner:Array (Option Nat)} {hs:List Int} (O:OI mask owner hs) (hn:hs.length≤mask) (h:Int):
  ∃ j,layClean.free mask owner (turns mask) (bits h % (mask+1)) (bits h)=some j∧OI mask (owner.setIfInBounds j (some hs.length)) (hs++[h]):=by
 obtain ⟨s,hs1,hs2⟩:=O.free hn
 obtain ⟨q,hq,e⟩:=gl (aM mask h 12).1 k s
 have er:(aM mask h (12+q)).1=s:=by rw [i_ hk h q,e]; exact Nat.mod_eq_of_lt (by omega)
 obtain ⟨N,f1,f2,f3⟩:=pw O.sz h (turns mask) 0 ⟨12+q,Nat.zero_le _,by unfold turns; omega,by rw [er]; exact hs2⟩ (fun m hm=> absurd hm (Nat.not_lt_zero _))
 refine ⟨_,f1,?_⟩
 generalize hj:(pth mask h N).j=j at *
 have hjs:j < owner.size:=(Array.getElem?_eq_some_iff.mp f2).1
 have get:∀ i:Nat,(owner.setIfInBounds j (some hs.length))[i]?=if j=i then some (some hs.length) else owner[i]?:=fun i=> by
  rw [Array.getElem?_setIfInBounds]
  split
  ·rename_i z; subst z; simp [hjs]
  ·rfl
 have liv:∀ i,OL owner i→OL (owner.setIfInBounds j (some hs.length)) i:=fun i ⟨v,hv⟩=> by
  refine ⟨v,?_⟩
  rw [get,if_neg (fun z=> by subst z; rw [f2] at hv; cases hv)]
  exact hv
 refine ⟨by simp [O.sz],fun i v e=> ?_,fun a b v e1 e2=> ?_,fun v hv=> ?_,fun i v hh e1 e2=> ?_⟩
 ·rw [get] at e
  split at e
  ·cases e; simp
  ·have:=O.lt i v e; simp; omega
 ·rw [get] at e1 e2
  split at e1 <;> split at e2
  ·omega
  ·cases e1; exact absurd (O.lt b _ e2) (Nat.lt_irrefl _)
  ·cases e2; exact absurd (O.lt a _ e1) (Nat.lt_irrefl _)
  ·exact O.inj a b v e1 e2
 ·simp at hv
  rcases Nat.lt_or_eq_of_le (Nat.le_of_lt_succ hv) with z | z
  ·obtain ⟨i,hi⟩:=O.all v z
   refine ⟨i,?_⟩
   rw [get,if_neg (fun y=> by subst y; rw [f2] at hi; cases hi)]
   exact hi
  ·subst z; exact ⟨j,by rw [get,if_pos rfl]⟩
 ·rw [get] at e1
  split at e1
  ·rename_i z
   cases e1
   rw [List.getElem?_append_right (Nat.le_refl _)] at e2
   simp at e2
   subst e2
   exact ⟨N,by rw [hj]; exact z,fun m hm=> liv _ (f3 m hm)⟩
  ·have hv:=O.lt i v e1
   rw [List.getElem?_append_left hv] at e2
   obtain ⟨m,q1,q2⟩:=O.reach i v hh e1 e2
   exact ⟨m,q1,fun m' hm=> liv _ (q2 m' hm)⟩
theorem qd {mask k:Nat} (hk:mask+1=2 ^ k):∀ (more done:List Int) (owner:Array (Option Nat)),OI mask owner done→done.length+more.length≤mask+1→∃ owner',more.foldl (fun acc h=> do
  let (owner,k) ← acc
  let j ← layClean.free mask owner (turns mask) (bits h % (mask+1)) (bits h)
  pure (owner.setIfInBounds j (some k),k+1)) (some (owner,done.length))=some (owner',done.length+more.length)∧OI mask owner' (done++more)
 | [],done,owner,O,_=> ⟨owner,by simp,by simpa using O⟩
 | h::more,done,owner,O,hl=> by
  obtain ⟨j,e,O2⟩:=O.step hk (by simp at hl; omega) h
  obtain ⟨ow,e2,O3⟩:=qd hk more (done++[h]) _ O2 (by simp at hl ⊢; omega)
  refine ⟨ow,?_,by simpa using O3⟩
  rw [List.foldl_cons]
  have:(do
   let (owner,k) ← some (owner,done.length)
   let j ← layClean.free mask owner (turns mask) (bits h % (mask+1)) (bits h)
   pure (owner.setIfInBounds j (some k),k+1):Option (Array (Option Nat)×Nat))=some (owner.setIfInBounds j (some done.length),done.length+1):=by
   simp [e]
  rw [this]
  simp only [List.length_append,List.length_singleton] at e2
  rw [e2]
  simp; omega
theorem mT {mask k:Nat} (hk:mask+1=2 ^ k) {hs:Array Int} (hl:hs.size≤mask+1):∃ owner,layClean mask hs=some owner∧OI mask owner hs.toList:=by
 have O0:OI mask (Array.replicate (mask+1) none) []:=⟨by simp,fun j k e=> by simp [Array.getElem?_replicate] at e,fun i j k e=> by simp [Array.getElem?_replicate] at e,fun k h=> by simp at h,fun j k h e=> by simp [Array.getElem?_replicate] at e⟩
 obtain ⟨ow,e,O⟩:=qd hk hs.toList [] _ O0 (by simpa using hl)
 refine ⟨ow,?_,by simpa using O⟩
 unfold layClean
 rw [← Array.foldl_toList]
 simp only [List.length_nil] at e
 rw [e]
 rfl
end ST
namespace ST
open PySem PySem.SetTable
theorem nB (n:Nat):∀ (fuel k:Nat),n < 2 ^ (k+fuel)→∃ k',k≤k'∧sizeAbove.go n fuel (2 ^ k)=2 ^ k'∧n < 2 ^ k'∧(2 ^ k'≤2 * n∨k'=k)
 | 0,k,h=> ⟨k,Nat.le_refl _,rfl,by simpa using h,.inr rfl⟩
 | fuel+1,k,h=> by
  rw [sizeAbove.go]
  by_cases hle:2 ^ k≤n
  ·rw [if_pos hle,← Nat.pow_succ]
   obtain ⟨k',h1,h2,h3,h4⟩:=nB n fuel (k+1) (by rw [show k+1+fuel=k+(fuel+1) by omega]; exact h)
   refine ⟨k',by omega,h2,h3,.inl ?_⟩
   rcases h4 with z | z
   ·exact z
   ·subst z; rw [Nat.pow_succ]; omega
  ·rw [if_neg hle]
   exact ⟨k,Nat.le_refl _,rfl,by omega,.inr rfl⟩
theorem above (n:Nat) (h:n < 2 ^ 60):∃ k,3≤k∧sizeAbove n=2 ^ k∧n < 2 ^ k∧2 ^ k≤2 * n+8:=by
 obtain ⟨k,h1,h2,h3,h4⟩:=nB n 64 3 (Nat.lt_of_lt_of_le h (Nat.pow_le_pow_right (by decide) (by decide)))
 refine ⟨k,h1,h2,h3,?_⟩
 rcases h4 with z | z
 ·omega
 ·subst z; omega
def di (mask:Nat) (owner:Array (Option Nat)):List (Nat×Nat):=(List.range (mask+1)).filterMap fun j=> (owner.getD j none).map (j,·)
theorem mt (owner:Array (Option Nat)):∀ l:List Nat,(l.filterMap fun j=> (owner.getD j none).map (j,·)).map (·.1)=l.filter fun j=> (owner.getD j none).isSome
 | []=> rfl
 | a::l=> by
  have ih:=mt owner l
  rw [List.filterMap_cons,List.filter_cons]
  cases owner.getD a none with
  | none=> simpa using ih
  | some v=> simpa using ih
theorem dE {mask:Nat} {owner:Array (Option Nat)} (hsz:owner.size=mask+1) (j k:Nat):(j,k)∈di mask owner↔owner[j]?=some (some k):=by
 unfold di
 rw [List.mem_filterMap]
 constructor
 ·rintro ⟨a,ha,e⟩
  have hlt:a < owner.size:=by rw [hsz]; exact List.mem_range.mp ha
  cases hv:owner.getD a none with
  | none=> rw [hv] at e; cases e
  | some v=>
   rw [hv] at e
   cases e
   have:owner.getD j none=owner[j]:=by simp [Array.getD,hlt]
   rw [this] at hv
   simp [hlt,hv]
 ·intro e
  have hlt:=(Array.getElem?_eq_some_iff.mp e).1
  refine ⟨j,List.mem_range.mpr (by omega),?_⟩
  rw [Array.getD_eq_getD_getElem?,e]; rfl
theorem rQ (mask:Nat) (owner:Array (Option Nat)):(di mask owner).Pairwise fun a b=> a.1 < b.1:=by
 have:=(List.pairwise_lt_range (n:=mask+1)).filter fun j=> (owner.getD j none).isSome
 rw [← mt owner (List.range (mask+1)),List.pairwise_map] at this
 exact this
theorem yo {l:List Nat} (h:l.Pairwise (· < ·)):Ris l.toArray:=by
 intro i j x y hij hx hy
 rw [List.getElem?_toArray] at hx hy
 obtain ⟨h1,e1⟩:=List.getElem?_eq_some_iff.mp hx
 obtain ⟨h2,e2⟩:=List.getElem?_eq_some_iff.mp hy
 have:=List.pairwise_iff_getElem.mp h i j h1 h2 hij
 rw [e1,e2] at this
 exact this
theorem vP {mask k:Nat} (h3:3≤k) (hk:mask+1=2 ^ k) {hs:Array Int} (hl:hs.size≤mask) (finger moves:Nat) (led plain:Bool):
  ∃ t order,laid mask finger moves led plain hs=some (t,order)∧TOk t (order.toList.map fun i=> hs.getD i 0)∧order.toList.Perm (List.range hs.size)∧t.mask=mask∧t.led=led∧t.plain=plain∧t.moves=moves:=by
 obtain ⟨owner,e,O⟩:=mT hk (hs:=hs) (by omega)
 have pr:=rQ mask owner
 have nd:((di mask owner).map (·.2)).Nodup:=by
  rw [List.nodup_iff_pairwise_ne,List.pairwise_map]
  refine List.Pairwise.imp_of_mem ?_ pr
  intro a b ha hb hab ee
  have h1:=(dE O.sz a.1 a.2).mp ha
  have h2:=(dE O.sz b.1 b.2).mp hb
  rw [ee] at h1
  have:=O.inj a.1 b.1 b.2 h1 h2
  omega
 have perm:((di mask owner).map (·.2)).Perm (List.range hs.size):=by
  refine (List.perm_ext_iff_of_nodup nd List.nodup_range).mpr fun x=> ?_
  rw [List.mem_map,List.mem_range]
  constructor
  ·rintro ⟨⟨j,v⟩,hm,rfl⟩
   have:=O.lt j v ((dE O.sz j v).mp hm)
   simpa using this
  ·intro hx
   obtain ⟨j,hj⟩:=O.all x (by simpa using hx)
   exact ⟨(j,x),(dE O.sz j x).mpr hj,rfl⟩
 have len:(di mask owner).length=hs.size:=by have:=perm.length_eq; simpa using this
 refine ⟨_,_,by unfold laid; rw [e]; rfl,⟨?_,rfl,⟨k,h3,hk⟩,?_,?_,fun i x ee=> ?_,fun i j h e1 e2=> ?_⟩,?_,rfl,rfl,rfl,rfl⟩
 ·show Ris ((di mask owner).map (·.1)).toArray
  exact yo (by rw [List.pairwise_map]; exact pr)
 ·show ((di mask owner).map (·.1)).toArray.size=_
  simp [di]
 ·show ((di mask owner).map (·.1)).toArray.size≤mask
  simp [len,hl]
 ·change ((di mask owner).map (·.1)).toArray[i]?=some x at ee
  rw [List.getElem?_toArray,List.getElem?_map] at ee
  cases q:(di mask owner)[i]? with
  | none=> rw [q] at ee; cases ee
  | some p=>
   rw [q] at ee
   cases ee
   have:=(dE O.sz p.1 p.2).mp (List.mem_of_getElem? q)
   have:=(Array.getElem?_eq_some_iff.mp this).1
   show p.1≤mask
   have hz:=O.sz
   omega
 ·change ((di mask owner).map (·.1)).toArray[i]?=some j at e1
  change (((di mask owner).map (·.2)).toArray.toList.map fun i=> hs.getD i 0)[i]?=some h at e2
  rw [List.getElem?_toArray,List.getElem?_map] at e1
  rw [List.getElem?_map,List.getElem?_map] at e2
  cases q:(di mask owner)[i]? with
  | none=> rw [q] at e1; cases e1
  | some p=>
   rw [q] at e1 e2
   cases e1
   have hp:=(dE O.sz p.1 p.2).mp (List.mem_of_getElem? q)
   have hlt:=O.lt _ _ hp
   have e3:hs.toList[p.2]?=some h:=by
    have e4:hs.getD p.2 0=h:=by simpa using e2
    have:p.2 < hs.size:=by simpa using hlt
    rw [← e4]
    simp [Array.getD,this]
   obtain ⟨m,q1,q2⟩:=O.reach _ _ h hp e3
   refine ⟨m,q1,fun m' hm=> ?_⟩
   obtain ⟨v,hv⟩:=q2 m' hm
   obtain ⟨n,hn⟩:=List.mem_iff_getElem?.mp ((dE O.sz _ v).mpr hv)
   refine ⟨n,?_⟩
   show ((di mask owner).map (·.1)).toArray[n]?=_
   rw [List.getElem?_toArray,List.getElem?_map,hn]; rfl
 ·show ((di mask owner).map (·.2)).toArray.toList.Perm _
  simpa using perm
end ST
namespace ST
open PySem PySem.SetTable
section
variable {prog:Program} {w:World} {A:Around} {E:Value→Shared→Prop} {s:Shared}
abbrev TK (prog:Program) (w:World) (h:Heap) (k:List Int) (b:Addr):Prop:=IsTupleKey (intKind prog w) h k b
abbrev hsh (prog:Program) (w:World) (k:List Int):Int:=tupleKeyHash (intKind prog w) k
theorem TK.ints {h:Heap} {k:List Int} {vs:List Value} (x:ItemsAre (intKind prog w) k vs):∀ v∈vs,∃ n t,v=.int n t:=by
 induction x with
 | nil=> intro v hv; simp at hv
 | cons h1 _ ih=>
  intro v hv
  rcases List.mem_cons.mp hv with rfl | hv
  ·obtain ⟨t,rfl⟩:=Value.isInt_shape h1; exact ⟨_,t,rfl⟩
  ·exact ih v hv
theorem kK {k:List Int} {a:Addr} {Q:Bool→Shared→Prop} (hk:TK prog w s.heap k a) (h:Q false s):wpAny (model prog w) A (ofAClassStatement 8 (.ref a)) Q E s:=by
 have hT:=hk.typeIs
 obtain ⟨o,items,n,ho,_,hd,hi⟩:=hk
 unfold ofAClassStatement
 refine wpAny_bind (wpAny_typeOf hT ?_)
 dsimp only
 rw [if_pos (by decide)]
 refine wpAny_bind (wpAny_pure ?_)
 simp only [Bool.not_true,Bool.false_eq_true,if_false]
 refine wpAny_bind (wpAny_seqItems ho hd ?_)
 dsimp only
 refine wpAny_bind ?_
 rw [← Array.forIn_toList]
 refine wpAny_forIn_list _ (fun rest r s'=> r.1=none∧s'=s∧∀ v∈rest,∃ n t,v=Value.int n t) _ ?_ ?_ _ _ ⟨rfl,rfl,TK.ints (h:=s.heap) hi⟩
 ·rintro v rest r s' ⟨hr,rfl,hall⟩
  obtain ⟨n,t,rfl⟩:=hall v List.mem_cons_self
  have e:ofAClassStatement 7 (Value.int n t)=pure false:=by unfold ofAClassStatement; rfl
  rw [e]
  refine wpAny_bind (wpAny_pure ?_)
  simp only [Bool.false_eq_true,if_false]
  exact wpAny_pure ⟨rfl,rfl,fun u hu'=> hall u (List.mem_cons_of_mem _ hu')⟩
 ·rintro ⟨r1,r2⟩ s' ⟨hr,rfl,_⟩
  simp only at hr
  subst hr
  exact wpAny_pure h
theorem Al {k:List Int} {a:Addr} {Q:Bool→Shared→Prop} (hk:TK prog w s.heap k a) (h:Q true s):wpAny (model prog w) A (hashByValue 8 (.ref a)) Q E s:=by
 have hT:=hk.typeIs
 obtain ⟨o,items,n,ho,_,hd,hi⟩:=hk
 unfold hashByValue
 refine wpAny_bind (wpAny_specialOf hT F.slot_tuple_hash.lookup ?_)
 show wpAny _ _ (seqItems? (.ref a) >>=_) _ _ s
 refine wpAny_bind (wpAny_seqItems ho hd ?_)
 refine wpAny_bind ?_
 show wpAny _ _ (forIn items _ _) _ _ s
 rw [← Array.forIn_toList]
 refine wpAny_forIn_list _ (fun rest r s'=> r.1=none∧s'=s∧∀ v∈rest,∃ n t,v=Value.int n t) _ ?_ ?_ _ _ ⟨rfl,rfl,TK.ints (h:=s.heap) hi⟩
 ·rintro v rest r s' ⟨hr,rfl,hall⟩
  obtain ⟨n,t,rfl⟩:=hall v List.mem_cons_self
  have e:hashByValue 7 (Value.int n t)=pure true:=by unfold hashByValue; rfl
  rw [e]
  refine wpAny_bind (wpAny_pure ?_)
  simp only [Bool.not_true,Bool.false_eq_true,if_false]
  exact wpAny_pure ⟨rfl,rfl,fun u hu'=> hall u (List.mem_cons_of_mem _ hu')⟩
 ·rintro ⟨r1,r2⟩ s' ⟨hr,rfl,_⟩
  simp only at hr
  subst hr
  exact wpAny_pure h
theorem nY {k:List Int} {a:Addr} {l:List Value} {Q:Bool→Shared→Prop} (hk:TK prog w s.heap k a) (hl:∀ v∈l,∃ k' b,v=.ref b∧TK prog w s.heap k' b) (h:Q false s):
  wpAny (model prog w) A (searchCouldBeSeen (.ref a) l) Q E s:=by
 unfold searchCouldBeSeen
 refine wpAny_bind ?_
 refine wpAny_forIn_list _ (fun rest r s'=> r.1=none∧s'=s∧∀ v∈rest,∃ k' b,v=.ref b∧TK prog w s.heap k' b) _ ?_ ?_ _ _ ⟨rfl,rfl,hl⟩
 ·rintro v rest r s' ⟨hr,rfl,hall⟩
  obtain ⟨k',b,rfl,hb⟩:=hall v List.mem_cons_self
  dsimp only
  split
  ·exact wpAny_pure ⟨rfl,rfl,fun u hu'=> hall u (List.mem_cons_of_mem _ hu')⟩
  ·refine wpAny_bind (wpAny_eqIsQuiet_tuple hk ?_)
   simp only [Bool.not_true,Bool.false_eq_true,if_false]
   refine wpAny_bind (wpAny_eqIsQuiet_tuple hb ?_)
   simp only [Bool.not_true,Bool.false_eq_true,if_false]
   refine wpAny_bind (kK hk ?_)
   simp only [Bool.false_eq_true,if_false]
   refine wpAny_bind (kK hb ?_)
   simp only [Bool.false_eq_true,if_false]
   exact wpAny_pure ⟨rfl,rfl,fun u hu'=> hall u (List.mem_cons_of_mem _ hu')⟩
 ·rintro ⟨r1,r2⟩ s' ⟨hr,rfl,_⟩
  simp only at hr
  subst hr
  exact wpAny_pure h
def eW (prog:Program) (w:World) (kb:List (List Int×Addr)):List (Int×Value):=kb.map fun p=> (hsh prog w p.1,.ref p.2)
theorem qb {kb:List (List Int×Addr)} {i:Nat}:(eW prog w kb)[i]?=(kb[i]?).map fun p=> (hsh prog w p.1,.ref p.2):=by unfold eW; rw [List.getElem?_map]
theorem v7 (kb:List (List Int×Addr)):(eW prog w kb).map (·.1)=kb.map fun p=> hsh prog w p.1:=by unfold eW; rw [List.map_map]; rfl
theorem TOk.fits {t:SetTable} {hs:List Int} (T:TOk t hs) {n:Nat} (hn:hs.length=n):t.fits n=true:=by
 have h1:=T.n
 have h2:=T.f
 have h3:t.fill=t.place.size:=by unfold fill; rw [T.d]; rfl
 unfold SetTable.fits
 rw [h3]
 simp [h1,hn]
 omega
theorem TOk.gave {t:SetTable} {hs:List Int} (T:TOk t hs):t.gaveWay=false:=by
 obtain ⟨k,h3,hk⟩:=T.k
 unfold SetTable.gaveWay
 obtain ⟨j,rfl⟩:∃ j,k=j+1:=⟨k - 1,by omega⟩
 rw [Nat.pow_succ] at hk
 have:t.mask % 2=1:=by omega
 simp [this]
theorem m7 {S:Addr} {o:Obj} {es:Array (Int×Value)} {ep:Nat} {t:SetTable} {kb:List (List Int×Addr)} {k:List Int} {x:Addr} (hu:A.units < cLine)
  (ho:s.heap.get? S=some o) (hd:o.data=.set es ep t) (he:es.toList=eW prog w kb) (T:TOk t (kb.map fun p=> hsh prog w p.1)) (hkb:∀ p∈kb,TK prog w s.heap p.1 p.2) (hx:TK prog w s.heap k x)
  {N:Nat} (hN:N < 10 * turns t.mask) (h0:¬ Liv t (pth t.mask (hsh prog w k) N).j) (h1:∀ m,m < N→Liv t (pth t.mask (hsh prog w k) m).j) {Q:SetFound→Shared→Prop}
  (qf:(∀ p∈kb,p.1≠k)→Q (.free (pth t.mask (hsh prog w k) N).j false) s) (qt:(∃ p∈kb,p.1=k)→Q (.there none) s):
  ∀ (fuel n:Nat) (stand:Option Probe),n≤N→N - n < fuel→stand.getD (t.probeStart (hsh prog w k))=pth t.mask (hsh prog w k) n→
   (∀ (m i:Nat) (p:List Int×Addr),m < n→t.place[i]?=some (pth t.mask (hsh prog w k) m).j→kb[i]?=some p→p.1≠k)→
   wpAny (model prog w) A (setSearchFrom S (.ref x) (hsh prog w k) true fuel stand) Q E s:=by
 have hsz:es.size=kb.length:=by rw [← Array.length_toList,he]; simp [eW]
 have hfit:t.fits es.size=true:=T.fits (by rw [List.length_map,hsz])
 have eat:∀ i:Nat,es[i]?=(kb[i]?).map fun (p:List Int×Addr)=> (hsh prog w p.1,Value.ref p.2):=fun i=> by rw [← Array.getElem?_toList,he,qb]
 intro fuel
 induction fuel with
 | zero=> intro n stand _ h; omega
 | succ fuel ih=>
  intro n stand hn hf hst hpre
  unfold setSearchFrom
  refine wpAny_bind (wpAny_setState_of ho hd hfit ?_)
  dsimp only
  rw [T.gave]
  simp only [Bool.false_eq_true,if_false]
  rw [hst]
  have hash:∀ (i:Nat) (p:List Int×Addr),kb[i]?=some p→((es[i]?.map (fun (e:Int×Value)=> e.1)).getD 0:Int)=hsh prog w p.1:=fun i p hp=> by rw [eat,hp]; rfl
  have pg:=mO T (fun (i:Nat)=> (es[i]?.map (fun (e:Int×Value)=> e.1)).getD 0) (hsh prog w k) h0 h1 (10 * turns t.mask) n hn (by omega)
  split
  ·rename_i met hmet
   rcases pg with ⟨e,hne⟩ | ⟨m,i,hnm,hmN,hpl,hhi,e,hbef⟩
   ·have q:some met=some (.empty (pth t.mask (hsh prog w k) N).j none):=hmet.symm.trans e
    cases q
    dsimp only
    refine wpAny_pure (qf fun p hp hpk=> ?_)
    obtain ⟨i,hi⟩:=List.mem_iff_getElem?.mp hp
    obtain ⟨m,j,hm,hpl,hj⟩:=uj T (h:=hsh prog w k) h0 (i:=i) (by rw [List.getElem?_map,hi,← hpk]; rfl)
    rcases Nat.lt_or_ge m n with hmn | hmn
    ·exact hpre m i p hmn (by rw [hj]; exact hpl) hi hpk
    ·exact hne m i hmn hm (by rw [hj]; exact hpl) (by rw [hash i p hi,hpk])
   ·have q:some met=some (.candidate (pth t.mask (hsh prog w k) m).j i (pth t.mask (hsh prog w k) (m+1))):=hmet.symm.trans e
    cases q
    dsimp only
    have hik:i < kb.length:=by rw [← hsz,← show t.place.size=es.size by rw [T.n,List.length_map,hsz]]; exact qr hpl
    obtain ⟨p,hp⟩:∃ p,kb[i]?=some p:=⟨_,List.getElem?_eq_getElem hik⟩
    have hpm:p∈kb:=List.mem_of_getElem? hp
    have hei:es[i]?=some (hsh prog w p.1,Value.ref p.2):=by rw [eat,hp]; rfl
    have rest:wpAny (model prog w) A (do
      let equal ← holding [Value.ref p.2] (eqBool (Value.ref p.2) (.ref x))
      let (es',_,t') ← setState S
      if true && equal then return .there none
      let some same:=t'.sameMemory t.moves t.mask | unsupported "set.changed-during-lookup:is-the-new-block-at-the-old-address"
      let still ← match (if same then t'.slot (pth t.mask (hsh prog w k) m).j else .empty) with
       | .live i'=> match es'[i']? with
        | some (_,y')=> do pure (if ← isSame y' (Value.ref p.2) then some i' else none)
        | none=> pure none
       | _=> pure none
      match still with
      | none=> rule "set.search.anew"; setSearchFrom S (.ref x) (hsh prog w k) true fuel none
      | some i'=> if equal then return .there (some i') else setSearchFrom S (.ref x) (hsh prog w k) true fuel (some (pth t.mask (hsh prog w k) (m+1)))) Q E s:=by
     refine wpAny_bind (wpAny_holding (wpAny_eqBool_tuple hu (hkb p hpm) hx ?_))
     refine wpAny_bind (wpAny_setState_of ho hd hfit ?_)
     dsimp only
     by_cases hpk:p.1=k
     ·rw [decide_eq_true hpk]
      simp only [Bool.and_self,if_true]
      exact wpAny_pure (qt ⟨p,hpm,hpk⟩)
     ·rw [decide_eq_false hpk]
      simp only [Bool.and_false,Bool.false_eq_true,if_false]
      have hsm:t.sameMemory t.moves t.mask=some true:=by unfold SetTable.sameMemory; simp
      rw [hsm]
      dsimp only
      rw [if_pos rfl,kw T.R hpl]
      dsimp only
      rw [hei]
      dsimp only
      refine wpAny_bind (wpAny_isSame_ref_self ?_)
      refine wpAny_bind (wpAny_pure ?_)
      simp only [if_true]
      refine ih (m+1) (some (pth t.mask (hsh prog w k) (m+1))) (by omega) (by omega) rfl fun m' i' p' hm' hpl' hp'=> ?_
      rcases Nat.lt_or_ge m' n with z | z
      ·exact hpre m' i' p' z hpl' hp'
      ·rcases Nat.lt_or_eq_of_le (Nat.le_of_lt_succ hm') with y | y
       ·have:=hbef m' i' z y hpl'
        intro e'
        exact this (by rw [hash i' p' hp',e'])
       ·subst y
        have ei:=T.R.inj hpl hpl'
        subst ei
        rw [hp] at hp'
        cases hp'
        exact hpk
    by_cases hled:t.led=true
    ·rw [hled]
     simp only [Bool.not_true,Bool.false_eq_true,if_false]
     rw [hei]
     exact rest
    ·rw [show t.led=false by simpa using hled]
     simp only [Bool.not_false,if_true]
     refine wpAny_bind (nY hx (fun v hv=> ?_) ?_)
     ·obtain ⟨e',he',rfl⟩:=List.mem_map.mp hv
      have hm':e'∈es.toList:=by
       have:=Array.mem_toList_iff.mp he'
       exact Array.mem_toList_iff.mpr (Array.mem_filter.mp this).1
      rw [he] at hm'
      obtain ⟨p',hp',rfl⟩:=List.mem_map.mp hm'
      exact ⟨p'.1,p'.2,rfl,hkb p' hp'⟩
     ·simp only [Bool.false_eq_true,if_false]
      rw [hei]
      exact rest
  ·rename_i hno
   rcases pg with ⟨e,hne⟩ | ⟨m,i,hnm,hmN,hpl,hhi,e,hbef⟩
   ·exact absurd e (hno _)
   ·exact absurd e (hno _)
end
end ST
namespace ST
open PySem PySem.SetTable
section
variable {prog:Program} {w:World} {A:Around} {E:Value→Shared→Prop} {s:Shared}
structure SP (prog:Program) (w:World) (h:Heap) (S:Addr) (kb:List (List Int×Addr)):Prop where
 ex:∃ o es ep t,h.get? S=some o∧o.ExactSet∧o.data=.set es ep t∧es.toList=eW prog w kb∧TOk t (kb.map fun p=> hsh prog w p.1)∧t.led=(!w.params.followText "set-order")∧t.plain=true∧t.tooFull=false∧t.mask < 8 * kb.length+8
 keys:∀ p∈kb,TK prog w h p.1 p.2
 nd:(kb.map (·.1)).Nodup
theorem TK.keep {h h':Heap} {k:List Int} {b S:Addr} {o:Obj} {es ep t} (x:TK prog w h k b) (ho:h.get? S=some o) (hd:o.data=.set es ep t) (hs:Heap.SameBut S h h'):TK prog w h' k b:=by
 obtain ⟨o',items,n,ho',hc,hd',hi⟩:=x
 have hne:b≠S:=by
  rintro rfl
  obtain rfl:o'=o:=Option.some.inj (ho'.symm.trans ho)
  rw [hd] at hd'; exact nomatch hd'
 exact ⟨o',items,n,(hs.2 b hne).trans ho',hc,hd',hi⟩
theorem oG (x:Addr) (es:Array (Int×Value)):byScan (.ref x) es=false:=by simp [byScan,Value.scannable]
theorem m9 {α β:Type} (f:α→β) (xs:List α) (p:Nat) (x:α):(fS xs p x).map f=fS (xs.map f) p (f x):=by
 unfold fS; rw [List.map_append,List.map_cons,List.map_take,List.map_drop]
theorem d7 {α:Type} (xs:List α) (p:Nat) (x:α):(fS xs p x).Perm (xs++[x]):=by
 unfold fS
 refine List.perm_middle.trans ?_
 rw [List.take_append_drop]
 exact (List.perm_append_singleton x xs).symm
theorem nT {α β:Type} {kb:List α} (f:α→β) (d:β):∀ (o:List Nat),(∀ i∈o,i < kb.length)→o.map (fun i=> ((kb.map f).toArray).getD i d)=(o.filterMap fun i=> kb[i]?).map f
 | [],_=> rfl
 | i::o,h=> by
  have hi:=h i List.mem_cons_self
  rw [List.map_cons,List.filterMap_cons,List.getElem?_eq_getElem hi,nT f d o fun j hj=> h j (List.mem_cons_of_mem _ hj)]
  simp [Array.getD,hi]
theorem rT {α:Type} {kb:List α} {o:List Nat} (h:o.Perm (List.range kb.length)):(o.filterMap fun i=> kb[i]?).Perm kb:=by
 refine (h.filterMap _).trans ?_
 suffices (List.range kb.length).filterMap (fun i=> kb[i]?)=kb by rw [this]
 have:∀ (l pre:List α),(List.range' pre.length l.length).filterMap (fun i=> (pre++l)[i]?)=l:=by
  intro l
  induction l with
  | nil=> intro pre; rfl
  | cons x l ih=>
   intro pre
   rw [List.length_cons,List.range'_succ,List.filterMap_cons]
   have e:(pre++x::l)[pre.length]?=some x:=by rw [List.getElem?_append_right (Nat.le_refl _)]; simp
   rw [e]
   have:=ih (pre++[x])
   rw [List.append_assoc,List.length_append] at this
   simpa using this
 have q:=this kb []
 simpa [List.range_eq_range'] using q
theorem wH {t:SetTable} {hs:List Int} (T:TOk t hs) (h:t.tooFull=false):t.place.size+1≤t.mask:=by
 obtain ⟨k,h3,hk⟩:=T.k
 have hf:t.fill=t.place.size:=by unfold fill; rw [T.d]; rfl
 have h8:2 ^ 3≤2 ^ k:=Nat.pow_le_pow_right (by decide) h3
 unfold tooFull at h
 rw [hf] at h
 simp at h
 omega
set_option maxHeartbeats 1000000 in
theorem zS {S:Addr} {o:Obj} {es:Array (Int×Value)} {ep:Nat} {t:SetTable} {kb:List (List Int×Addr)} {Q:Unit→Shared→Prop} (ho:s.heap.get? S=some o) (hex:o.ExactSet) (hd:o.data=.set es ep t) (he:es.toList=eW prog w kb)
  (T:TOk t (kb.map fun p=> hsh prog w p.1)) (hl:t.led=(!w.params.followText "set-order")) (hp:t.plain=true) (hkb:∀ p∈kb,TK prog w s.heap p.1 p.2) (hnd:(kb.map (·.1)).Nodup) (h1:0 < kb.length) (hn:kb.length≤1000)
  (h:∀ h' kb',Heap.SameBut S s.heap h'→SP prog w h' S kb'→kb'.Perm kb→Q () { s with heap:=h' }):wpAny (model prog w) A (setRelay S (grown kb.length)) Q E s:=by
 have hsz:es.size=kb.length:=by rw [← Array.length_toList,he]; simp [eW]
 have hfit:t.fits es.size=true:=T.fits (by rw [List.length_map,hsz])
 have eat:∀ i:Nat,es[i]?=(kb[i]?).map fun (p:List Int×Addr)=> (hsh prog w p.1,Value.ref p.2):=fun i=> by rw [← Array.getElem?_toList,he,qb]
 have hg:grown kb.length=kb.length * 4:=by unfold grown; rw [if_neg (by omega)]
 rw [hg]
 obtain ⟨k,k3,ek,lk,uk⟩:=above (kb.length * 4) (by omega)
 have hmask:(sizeAbove (kb.length * 4) - 1)+1=2 ^ k:=by omega
 obtain ⟨t',order,e,T',hord,em,el,ep',_⟩:=vP k3 hmask (hs:=es.map (·.1)) (by rw [Array.size_map,hsz]; omega) t.finger (t.movedTo (sizeAbove (kb.length * 4) - 1)) t.led t.plain
 have hrel:t.relaid (es.map (·.1)) (kb.length * 4)=some (t',order):=e
 have hord':order.toList.Perm (List.range kb.length):=by rw [Array.size_map,hsz] at hord; exact hord
 have hlt:∀ i∈order.toList,i < kb.length:=fun i hi=> List.mem_range.mp (hord'.mem_iff.mp hi)
 have hpk:=rT hord'
 have hes:(order.filterMap (fun i=> es[i]?)).toList=eW prog w (order.toList.filterMap fun i=> kb[i]?):=by
  rw [Array.toList_filterMap]
  unfold eW
  rw [List.map_filterMap]
  congr 1
  funext i
  rw [eat]
 have hes2:(order.filterMap (fun i=> es[i]?)).size=es.size:=by
  rw [← Array.length_toList,hes,hsz]
  unfold eW
  rw [List.length_map,hpk.length_eq]
 unfold setRelay
 refine wpAny_bind (wpAny_setState_of ho hd hfit ?_)
 dsimp only
 rw [if_neg (by rw [ek,sizeLine_eq]; omega),hrel]
 have goal:wpAny (model prog w) A (do
   if (order.filterMap (fun i=> es[i]?)).size !=es.size then unsupported "internal:set-table-lost-an-element"
   pure (order.filterMap (fun i=> es[i]?),t'):Sem (Array (Int×Value)×SetTable)) (fun r s'=> wpAny (model prog w) A (storeSet S r.1 r.2) Q E s') E s:=by
  rw [hes2]
  simp only [bne_self_eq_false,Bool.false_eq_true,if_false]
  refine wpAny_pure ?_
  refine wpAny_storeSet_of ho hd ?_ (by rw [hes2,hsz,sizeLine_eq]; omega)
  have hg':(s.heap.update S (Obj.putSet (order.filterMap (fun i=> es[i]?)) t')).get? S=some { o with data:=.set (order.filterMap (fun i=> es[i]?)) (ep+1) t' }:=by
   have:=Heap.get?_update_self (Obj.putSet (order.filterMap (fun i=> es[i]?)) t') ho (by rw [putSet_of _ t' hd]; rfl)
   rw [putSet_of _ t' hd] at this; exact this
  have hsb:=Heap.SameBut.update s.heap S (Obj.putSet (order.filterMap (fun i=> es[i]?)) t')
  refine h _ (order.toList.filterMap fun i=> kb[i]?) hsb ⟨⟨_,_,_,t',hg',hex,rfl,hes,?_,by rw [el]; exact hl,by rw [ep']; exact hp,?_,?_⟩,fun p hp'=> ?_,?_⟩ hpk
  ·have:=nT (kb:=kb) (fun p=> hsh prog w p.1) 0 order.toList hlt
   rw [← this]
   have e2:(es.map (·.1))=((kb.map fun p=> hsh prog w p.1)).toArray:=by
    apply Array.toList_inj.mp
    rw [Array.toList_map,he,v7]
   rw [e2] at T'
   exact T'
  ·have hf:t'.fill=t'.place.size:=by unfold fill; rw [T'.d]; rfl
   have hn':=T'.n
   rw [List.length_map,hord'.length_eq,List.length_range] at hn'
   unfold tooFull
   rw [hf,hn',em]
   simp
   omega
  ·rw [em,hpk.length_eq]; omega
  ·exact (hkb p (hpk.mem_iff.mp hp')).keep ho hd hsb
  ·exact ((hpk.map (·.1)).nodup_iff).mpr hnd
 exact wpAny_bind goal
end
end ST
namespace ST
open PySem PySem.SetTable
section
variable {prog:Program} {w:World} {A:Around} {E:Value→Shared→Prop} {s:Shared}
set_option maxHeartbeats 1000000 in
theorem nV {S x:Addr} {kb:List (List Int×Addr)} {k:List Int} {Q:Bool→Shared→Prop} (hu:A.units < cLine) (P:SP prog w s.heap S kb) (hx:TK prog w s.heap k x) (hn:kb.length < 1000)
  (h:∀ b h' kb',Heap.SameBut S s.heap h'→SP prog w h' S kb'→(if k∈kb.map (·.1) then kb'=kb else kb'.Perm (kb++[(k,x)]))→Q b { s with heap:=h' }):
  wpAny (model prog w) A (setAddHashed S (.ref x) (hsh prog w k)) Q E s:=by
 obtain ⟨⟨o,es,ep,t,ho,hex,hd,he,T,hl,hp,hfull,hmask⟩,hkb,hnd⟩:=P
 have P0:SP prog w s.heap S kb:=⟨⟨o,es,ep,t,ho,hex,hd,he,T,hl,hp,hfull,hmask⟩,hkb,hnd⟩
 have hsz:es.size=kb.length:=by rw [← Array.length_toList,he]; simp [eW]
 have hfit:t.fits es.size=true:=T.fits (by rw [List.length_map,hsz])
 obtain ⟨N,hN,h0,h1⟩:=oW T (hsh prog w k)
 have hN':N < 100000:=by unfold turns at hN; omega
 unfold setAddHashed setAddHashedIn
 refine wpAny_holding (wpAny_bind (wpAny_setState_of ho hd hfit ?_))
 dsimp only
 rw [oG]
 simp only [Bool.false_eq_true,if_false]
 unfold setSearch
 refine wpAny_bind (m7 hu ho hd he T hkb hx hN h0 h1 (fun hno=> ?_) (fun hyes=> ?_) 100000 0 none (Nat.zero_le _) (by omega) rfl fun m i p hm=> by omega)
 ·dsimp only
  have hk:k ∉ kb.map (·.1):=fun z=> by obtain ⟨p,hp',e⟩:=List.mem_map.mp z; exact hno p hp' e
  refine wpAny_bind (wpAny_setState_of ho hd hfit ?_)
  dsimp only
  generalize hj:(pth t.mask (hsh prog w k) N).j=j at *
  have T1:=T.put (h:=hsh prog w k) (N:=N) (by rw [hj]; exact h0) h1 (by have:=vw (mask:=t.mask) (hsh prog w k) N; omega) (wH T hfull)
  rw [hj] at T1
  have epl:(t.put j).1.plain=true:=hp
  have eled:(t.put j).1.led=(!w.params.followText "set-order"):=hl
  have emask:(t.put j).1.mask=t.mask:=rfl
  generalize (t.put j).1=t1 at *
  generalize (t.put j).2=q at *
  have hlen1:(fS kb q (k,x)).length=kb.length+1:=by rw [(d7 kb q (k,x)).length_eq]; simp
  have he1:(insertAt es q (hsh prog w k,Value.ref x)).toList=eW prog w (fS kb q (k,x)):=by
   rw [d0,he]
   unfold eW
   rw [m9]
   rfl
  have hsz1:(insertAt es q (hsh prog w k,Value.ref x)).size=kb.length+1:=by
   rw [← Array.length_toList,he1]; unfold eW; rw [List.length_map,hlen1]
  have T2:TOk t1 ((fS kb q (k,x)).map fun p=> hsh prog w p.1):=by rw [m9]; exact T1
  rw [if_pos epl]
  refine wpAny_bind (Al hx ?_)
  rw [if_pos rfl]
  have hg1:(s.heap.update S (Obj.putSet (insertAt es q (hsh prog w k,Value.ref x)) t1)).get? S=some { o with data:=.set (insertAt es q (hsh prog w k,Value.ref x)) (ep+1) t1 }:=by
   have:=Heap.get?_update_self (Obj.putSet (insertAt es q (hsh prog w k,Value.ref x)) t1) ho (by rw [putSet_of _ t1 hd]; rfl)
   rw [putSet_of _ t1 hd] at this; exact this
  have hsb:=Heap.SameBut.update s.heap S (Obj.putSet (insertAt es q (hsh prog w k,Value.ref x)) t1)
  have hkb1:∀ p∈fS kb q (k,x),TK prog w (s.heap.update S (Obj.putSet (insertAt es q (hsh prog w k,Value.ref x)) t1)) p.1 p.2:=fun p hp'=> by
   have:=(d7 kb q (k,x)).mem_iff.mp hp'
   rcases List.mem_append.mp this with z | z
   ·exact (hkb p z).keep ho hd hsb
   ·rw [List.mem_singleton.mp z]; exact hx.keep ho hd hsb
  have hnd1:((fS kb q (k,x)).map (·.1)).Nodup:=by
   rw [((d7 kb q (k,x)).map (·.1)).nodup_iff,List.map_append,List.nodup_append]
   refine ⟨hnd,by simp,fun a ha b hb=> ?_⟩
   simp at hb
   subst hb
   rintro rfl
   exact hk ha
  refine wpAny_bind (wpAny_storeSet_of ho hd ?_ (by rw [hsz1,sizeLine_eq]; omega))
  rw [Bool.not_false,Bool.true_and]
  by_cases hft:t1.tooFull=true
  ·rw [if_pos hft,hsz,← hlen1]
   refine wpAny_bind (zS (s:={ s with heap:=s.heap.update S (Obj.putSet (insertAt es q (hsh prog w k,Value.ref x)) t1) }) hg1 hex rfl he1 T2 eled epl hkb1 hnd1 (by omega) (by omega) fun h' kb' hsb' P' pm=> wpAny_pure ?_)
   exact h true h' kb' (hsb.trans hsb') P' (by rw [if_neg hk]; exact pm.trans (d7 kb q (k,x)))
  ·rw [if_neg hft]
   refine wpAny_pure (h true _ (fS kb q (k,x)) hsb ⟨⟨_,_,_,t1,hg1,hex,rfl,he1,T2,eled,epl,by simpa using hft,by rw [emask,hlen1]; omega⟩,hkb1,hnd1⟩ (by rw [if_neg hk]; exact d7 kb q (k,x)))
 ·dsimp only
  refine wpAny_pure ?_
  have hk:k∈kb.map (·.1):=by obtain ⟨p,hp',e⟩:=hyes; exact List.mem_map.mpr ⟨p,hp',e⟩
  exact h false s.heap kb (Heap.SameBut.refl S s.heap) P0 (by rw [if_pos hk])
end
end ST
namespace ST
open PySem PySem.SetTable
section
variable {prog:Program} {w:World} {A:Around}
theorem TK.moved {s s':Shared} {wr:List Addr} {G:Array GenState→Array GenState→Prop} {k:List Int} {b:Addr} (x:TK prog w s.heap k b) (hb:b ∉ wr) (m:Moved wr G s s'):TK prog w s'.heap k b:=by
 obtain ⟨o,its,n,ho,hc,hd,hi⟩:=x
 exact ⟨o,its,n,m.heap b o hb ho,hc,hd,hi⟩
theorem SP.moved {s s':Shared} {wr:List Addr} {G:Array GenState→Array GenState→Prop} {S:Addr} {kb:List (List Int×Addr)} (x:SP prog w s.heap S kb) (hS:S ∉ wr) (hb:∀ p∈kb,p.2 ∉ wr) (m:Moved wr G s s'):SP prog w s'.heap S kb:=by
 obtain ⟨⟨o,es,ep,t,ho,r⟩,hk,hn⟩:=x
 exact ⟨⟨o,es,ep,t,m.heap S o hS ho,r⟩,fun p hp=> (hk p hp).moved (hb p hp) m,hn⟩
structure Got (kx:Nat→List Int×Addr) (i:Nat) (kb:List (List Int×Addr)):Prop where
 src:∀ p∈kb,∃ j,j < i∧p=kx j
 all:∀ j,j < i→(kx j).1∈kb.map (·.1)
 len:kb.length≤i
variable {R:Result→Shared→Prop} {I:Addr} {fp wr:List Addr} {G:Array GenState→Array GenState→Prop} {n:Nat} {P:Nat→Value→Prop} {St:Nat→Shared→Prop}
set_option maxHeartbeats 1000000 in
theorem vq (W:WalksS prog w A.in1 I fp wr G n P St) (hu:A.in1.units < cLine) {S:Addr} (hSf:S ∉ fp) (kx:Nat→List Int×Addr) (hP:∀ i v,P i v→v=.ref (kx i).2) (hwr:∀ i,i < n→(kx i).2 ∉ wr) (hn:n≤1000):
  ∀ (k i:Nat) (s:Shared) (kb:List (List Int×Addr)),n - i=k→i≤n→St i s→SP prog w s.heap S kb→Got kx i kb→(∀ j,j < n→TK prog w s.heap (kx j).1 (kx j).2)→
   (∀ s' kb',Moved (S::wr) G s s'→SP prog w s'.heap S kb'→Got kx n kb'→R (.ok (.ret .none)) s')→
   codeAny (model prog w) A (.builtin "set.update.loop" ⟨[.ref S,.ref I],[]⟩) R s:=by
 have hSw:S ∉ wr:=fun h=> hSf (W.sub _ h)
 have more:∀ b∈wr,b∈S::wr:=fun b hb=> List.mem_cons_of_mem _ hb
 intro k
 induction k with
 | zero=>
  intro i s kb hk hi st hS g tk hR
  obtain rfl:i=n:=by omega
  refine codeAny_builtin PyProof.Rows.F.entry_set_update_loop ?_
  rw [Around.under_plainId PyProof.Rows.F.plain_set_update_loop _]
  show wpAny _ A.in1 (pyNext (.ref I) >>=_) _ _ s
  refine wpAny_bind (W.done s _ _ st fun s' m=> ?_)
  exact wpAny_pure (hR s' kb (m.mono more) (hS.moved hSw (fun p hp=> by obtain ⟨j,hj,rfl⟩:=g.src p hp; exact hwr j hj) m) g)
 | succ k ih=>
  intro i s kb hk hi st hS g tk hR
  have hlt:i < n:=by omega
  have hkb:∀ p∈kb,p.2 ∉ wr:=fun p hp=> by obtain ⟨j,hj,rfl⟩:=g.src p hp; exact hwr j (by omega)
  refine codeAny_builtin PyProof.Rows.F.entry_set_update_loop ?_
  rw [Around.under_plainId PyProof.Rows.F.plain_set_update_loop _]
  show wpAny _ A.in1 (pyNext (.ref I) >>=_) _ _ s
  refine wpAny_bind (W.item i s _ _ hlt st fun v s1 pv st1 m=> ?_)
  obtain rfl:=hP i v pv
  have hS1:=hS.moved hSw hkb m
  have tk1:∀ j,j < n→TK prog w s1.heap (kx j).1 (kx j).2:=fun j hj=> (tk j hj).moved (hwr j hj) m
  show wpAny _ A.in1 (holding [Value.ref (kx i).2] (setAdd S (.ref (kx i).2)) >>=_) _ _ s1
  refine wpAny_bind (wpAny_holding ?_)
  unfold setAdd
  refine wpAny_holding (wpAny_bind (wpAny_pyHash_tuple hu (tk1 i hlt) ?_))
  refine nV (s:={ s1 with toks:=s1.toks+((kx i).1.length+1) }) hu hS1 (tk1 i hlt) (by have:=g.len; omega) fun b h' kb' sb hS2 hkk=> ?_
  obtain ⟨⟨o,es,ep,t,ho,hex,hd,hrest⟩,hks,hnd⟩:=hS1
  have same:∀ b o,b ∉ S::wr→s1.heap.get? b=some o→h'.get? b=some o:=fun b o hb e=> by rw [sb.2 b (fun z=> hb (by rw [z]; exact List.mem_cons_self))]; exact e
  refine wpAny_pure ⟨plainId_quiet PyProof.Rows.F.plain_set_update_loop _,ih (i+1) _ kb' (by omega) hlt (W.frame _ s1 _ _ st1 (by show s1.toks≤s1.toks+_; omega) fun b hb o e=> ?_) hS2 ?_ (fun j hj=> (tk1 j hj).keep ho hd sb) fun s2 kb2 m2 hS3 g2=> ?_⟩
  ·rw [sb.2 b (fun z=> hSf (by rw [← z]; exact hb))]; exact e
  ·by_cases hin:(kx i).1∈kb.map (·.1)
   ·rw [if_pos hin] at hkk
    subst hkk
    refine ⟨fun p hp=> ?_,fun j hj=> ?_,by have:=g.len; omega⟩
    ·obtain ⟨j,hj,e⟩:=g.src p hp; exact ⟨j,by omega,e⟩
    ·rcases Nat.lt_or_eq_of_le (Nat.le_of_lt_succ hj) with z | z
     ·exact g.all j z
     ·rw [z]; exact hin
   ·rw [if_neg hin] at hkk
    refine ⟨fun p hp=> ?_,fun j hj=> ?_,by rw [hkk.length_eq]; have:=g.len; simp; omega⟩
    ·rcases List.mem_append.mp (hkk.mem_iff.mp hp) with z | z
     ·obtain ⟨j,hj,e⟩:=g.src p z; exact ⟨j,by omega,e⟩
     ·exact ⟨i,Nat.lt_succ_self i,by rw [List.mem_singleton.mp z]⟩
    ·rw [(hkk.map (·.1)).mem_iff,List.map_append]
     rcases Nat.lt_or_eq_of_le (Nat.le_of_lt_succ hj) with z | z
     ·exact List.mem_append_left _ (g.all j z)
     ·rw [z]; exact List.mem_append_right _ (by simp)
  ·exact hR s2 kb2 (Moved.trans W.gtrans ((m.mono more).then_heap (by show s1.toks≤s1.toks+_; omega) same) m2) hS3 g2
end
section
variable {prog:Program} {w:World} {A:Around} {E:Value→Shared→Prop} {s:Shared}
abbrev bZ (w:World):Obj:={ cls:=.type "set",dict:=none,data:=.set #[] 0 (.fresh 0 0 (!w.params.followText "set-order")) }
theorem sJ:TOk (.fresh 0 0 (!w.params.followText "set-order")) [] where
 R:=by intro i j x y _ h; simp [SetTable.fresh] at h
 d:=rfl
 k:=⟨3,by decide,rfl⟩
 n:=rfl
 f:=by show 0≤7; decide
 le:=by intro i x h; simp [SetTable.fresh] at h
 reach:=by intro i x h hi; simp [SetTable.fresh] at hi
theorem ux {h:Heap} {S:Addr} (e:h.get? S=some (bZ w)):SP prog w h S []:=by
 refine ⟨⟨_,_,_,_,e,⟨rfl,rfl,rfl⟩,rfl,rfl,sJ,rfl,rfl,by simp [SetTable.tooFull,SetTable.fresh,SetTable.fill],by show 7 < 8; decide⟩,fun p hp=> by simp at hp,by simp⟩
theorem wQ (a:Value) {Q:Value→Shared→Prop} (h:Q (.ref s.heap.objs.size) { s with heap:=s.heap.push (bZ w) }):
  codeAny (model prog w) A (.call (.builtin "set.__new__") ⟨[.type "set",a],[]⟩) (wants Q E) s:=by
 refine codeAny_of_tree ?_
 show wpAny _ A.in1 (do checkBuiltinCall "set.__new__" ⟨[.type "set",a],[]⟩; again (.builtin "set.__new__" ⟨[.type "set",a],[]⟩)) _ _ s
 refine wpAny_bind (wpAny_of_eq (PySem.F.newCall_set_1 a) (wpAny_pure ⟨plainId_quiet PySem.F.plain_set_new _,codeAny_builtin PySem.F.entry_set_new ?_⟩))
 rw [Around.under_plainId PySem.F.plain_set_new _]
 unfold Builtin.«set.__new__» Builtin.Frozenset.newClass
 have hsub:=sub_set_self
 obtain ⟨hp,g,d,tk,os⟩:=s
 dsimp only
 wp_walk
 refine wpAny_askSetting (wpAny_pure ?_)
 dsimp only
 simp only [newObj]
 exact wpAny_bind (wpAny_alloc (wpAny_pure (wpAny_pure h)))
end
end ST
namespace ST
open PySem PySem.SetTable
section
variable {prog:Program} {w:World} {A:Around} {E:Value→Shared→Prop} {s:Shared}
set_option maxRecDepth 100000 in
set_option maxHeartbeats 3200000 in
theorem call_set_pts {l:Addr} {items:Array Value} {Q:Value→Shared→Prop} (kx:Nat→List Int×Addr) (hh:A.handled=none) (hu:A.in1.in1.in1.units < cLine) (hl:s.heap.IsList l items)
  (hit:∀ (i:Nat) (v:Value),items[i]?=some v→v=.ref (kx i).2) (htk:∀ i,i < items.size→TK prog w s.heap (kx i).1 (kx i).2) (hn:items.size≤1000)
  (h:∀ (h':Heap) (tk:Nat) (kb:List (List Int×Addr)),SP prog w h' s.heap.objs.size kb→Got kx items.size kb→(∀ b o,s.heap.get? b=some o→h'.get? b=some o)→Q (.ref s.heap.objs.size) { s with heap:=h',toks:=tk }):
  wpAny (model prog w) A (call (.type "set") [.ref l]) Q E s:=by
 obtain ⟨cc,tl,hmro⟩:=PySem.F.called_set.mro
 have hmade:=PySem.F.called_set.made
 have hsub:=PySem.F.called_set.sub
 refine wpAny_call (codeAny_of_tree ?_)
 show wpAny _ _ (callAny (.type "set") _) _ _ _
 refine wpAny_pure ⟨Code.quiet_builtin _ (by decide+kernel),codeAny_builtin PySem.F.entry_type_call ?_⟩
 rw [Around.under_plain (weight_type_call_type "set" [.ref l] []) rfl]
 have g1:=PySem.F.called_set.notType
 have g2:=PySem.F.called_set.canCreate
 have g3:=PySem.F.typeCall_set_1 (.ref l)
 repeat (any_goals (first | assumption | wp_step))
 refine codeAny_mono (wQ (w:=w) (.ref l) (E:=E) (Q:=fun obj s₁=> obj=.ref s.heap.objs.size∧s₁={ s with heap:=s.heap.push (bZ w) }) ⟨rfl,rfl⟩) fun r s₁ hr=> ?_
 cases r with
 | error e=> exact hr
 | ok fl=>
  cases fl with
  | ret obj=>
   obtain ⟨rfl,rfl⟩:=hr
   have hS:(s.heap.push (bZ w)).get? s.heap.objs.size=some (bZ w):=Heap.get?_push_size _ rfl
   have hT:Shared.TypeIs { s with heap:=s.heap.push (bZ w) } (.ref s.heap.objs.size) "set":=⟨_,hS,rfl⟩
   have hli:=PySem.F.called_set.init.lookup
   have hbi:=PySem.F.called_set.init.bind (.ref s.heap.objs.size)
   repeat (any_goals (first | assumption | wp_step))
   refine codeAny_mono (codeAny_call_builtin (R:=wants (fun r s₂=> r=.none∧∃ h' tk kb,s₂={ s with heap:=h',toks:=tk }∧
     SP prog w h' s.heap.objs.size kb∧Got kx items.size kb∧(∀ b o,s.heap.get? b=some o→h'.get? b=some o)) E) PySem.F.called_set.init.plain PySem.F.entry_set_init (check_set_init_1 hT ?_)) fun r₂ s₂ hr₂=> ?_
   ·obtain ⟨ol,hol,hcl,nl,hdl⟩:=hl
    obtain ⟨ocls,odict,odata,oslots⟩:=ol
    simp only at hcl hdl
    subst hcl; subst hdl
    have hol':(s.heap.push (bZ w)).get? l=some { cls:=.type "list",dict:=odict,data:=.seq items nl,slots:=oslots }:=Heap.get?_push_of_some _ hol
    have k1:=PySem.F.sub_list_set
    have k2:=PySem.F.sub_list_frozenset
    have k3:(Value.type "list"==Value.type "dict")=false:=by decide
    have hl1:(s.heap.push (bZ w)).IsList l items:=⟨_,hol',rfl,nl,rfl⟩
    unfold Builtin.«set.__init__» noKeywords Builtin.Frozenset.updateFrom
    generalize hPI:pyIter=PI
    wp_walk
    subst hPI
    refine wpAny_pyIter_list hl1 (wpAny_bind (wpAny_runValue ?_))
    have hlS:l < s.heap.objs.size:=Heap.lt_size hol
    have h3:A.in1.in1.in1.handled=none:=by simp [hh]
    have szI:(s.heap.push (bZ w)).objs.size=s.heap.objs.size+1:=Heap.size_push ..
    have hneI:l≠(s.heap.push (bZ w)).objs.size:=by rw [szI]; exact Nat.ne_of_lt (Nat.lt_succ_of_lt hlS)
    have hSf:s.heap.objs.size ∉ [(s.heap.push (bZ w)).objs.size,l]:=by
     rw [szI]
     intro z
     rcases List.mem_cons.mp z with z | z
     ·exact absurd z (Nat.ne_of_lt (Nat.lt_succ_self _))
     ·exact absurd (List.mem_singleton.mp z) (Nat.ne_of_gt hlS)
    refine vq ((Walks.list h3 _ l hneI items).toS) hu hSf kx hit (fun i hi=> ?_) hn (items.size - 0) 0 _ [] (by omega) (Nat.zero_le _)
     ⟨⟨_,Heap.get?_push_size _ rfl,rfl,rfl⟩,(hl1.push _)⟩ ?_ ⟨fun p hp=> by simp at hp,fun j hj=> by omega,by simp⟩ (fun j hj=> ?_) fun s' kb m hS' g=> ?_
    ·intro z
     have z':=List.mem_singleton.mp z
     obtain ⟨o,_,_,ho,_⟩:=htk i hi
     have:=Heap.lt_size ho
     rw [z',szI] at this
     exact Nat.lt_irrefl _ (Nat.lt_trans (Nat.lt_succ_self _) this)
    ·exact ux (Heap.get?_push_of_some _ hS)
    ·obtain ⟨o,its,k,ho,r⟩:=htk j hj
     exact ⟨o,its,k,Heap.get?_push_of_some _ (Heap.get?_push_of_some _ ho),r⟩
    ·obtain ⟨h',g',d',tk',os'⟩:=s'
     obtain rfl:g'=s.gens:=m.gens
     obtain rfl:d'=s.drawn:=m.drawn
     obtain rfl:os'=s.os:=m.os
     refine wpAny_pure ?_
     show wpAny _ _ (ret Value.none) _ _ _
     refine wpAny_pure ⟨rfl,h',tk',kb,rfl,hS',g,fun b o e=> ?_⟩
     have hb:=Heap.lt_size e
     refine m.heap b o (fun z=> ?_) (Heap.get?_push_of_some _ (Heap.get?_push_of_some _ e))
     rcases List.mem_cons.mp z with z | z
     ·exact absurd z (Nat.ne_of_lt hb)
     ·have z':=List.mem_singleton.mp z
      rw [z',szI] at hb
      exact Nat.lt_irrefl _ (Nat.lt_trans (Nat.lt_succ_self _) hb)
   ·cases r₂ with
    | error e=> exact hr₂
    | ok fl₂=>
     cases fl₂ with
     | ret r=>
      obtain ⟨rfl,h',tk,kb,rfl,hS',g,hk'⟩:=hr₂
      repeat (any_goals (first | assumption | wp_step))
      exact h _ _ kb hS' g hk'
     | _=> exact hr₂.elim
  | _=> exact hr.elim
end
end ST
namespace ST
open PySem PySem.SetTable
theorem dz:Slot "set_iterator" "__next__" "set_iterator.__next__":=
 .of (owner:="set_iterator") (n:="__next__") (by rw [typeLookup_type,builtinLookup_eq_fast]; kernel_rfl) (by decide+kernel) (by decide+kernel) (by decide+kernel) (by first | exact .inl (by decide+kernel) | exact .inr (by decide+kernel)) (by rw [isSubtype_type]; kernel_rfl)
theorem jf:entryFor table "set_iterator.__next__"=some Builtin.«set_iterator.__next__»:=entryFor_of_tree (by kernel_rfl)
theorem kA (a:Value):argsOk "set_iterator.__next__" ⟨[a],[]⟩:=by unfold argsOk; kernel_rfl
theorem ov:entryFor table "set.__iter__"=some Builtin.«frozenset.__iter__»:=entryFor_alias (id':="frozenset.__iter__") (by kernel_rfl) rfl (by decide+kernel) (by kernel_rfl)
theorem oQ {α:Type} {l:List α} {i:Nat} (h:i < l.length):(l[i]::l.eraseIdx i).Perm l:=by
 rw [List.eraseIdx_eq_take_drop_succ]
 refine List.perm_middle.symm.trans ?_
 rw [← List.drop_eq_getElem_cons h,List.take_append_drop]
theorem ph {α:Type} (next:Nat→Nat):∀ (fuel k:Nat) (left:List α) (out:Array α),left.length=fuel→(pickOrder.go next fuel k left out).toList.Perm (out.toList++left)
 | 0,k,left,out,h=> by
  obtain rfl:left=[]:=List.length_eq_zero_iff.mp h
  rw [pickOrder.go,List.append_nil]
 | fuel+1,k,left,out,h=> by
  have hi:next k % left.length < left.length:=Nat.mod_lt _ (by omega)
  rw [pickOrder.go,List.getElem?_eq_getElem hi]
  refine (ph next fuel (k+1) _ _ (by rw [List.length_eraseIdx_of_lt hi]; omega)).trans ?_
  rw [Array.toList_push,List.append_assoc]
  refine List.Perm.append_left _ ?_
  rw [List.singleton_append]
  exact oQ hi
theorem sC {α:Type} (next:Nat→Nat) (xs:Array α):(pickOrder next xs).toList.Perm xs.toList:=by
 unfold pickOrder
 have:=ph next xs.size 0 xs.toList #[] (by simp)
 simpa using this
section
variable {prog:Program} {w:World} {A:Around} {E:Value→Shared→Prop} {s:Shared}
def ca (w:World) (S:Addr) (es:Array (Int×Value)) (ep:Nat):List Value:=(if w.params.followText "set-order"=true then pickOrder (w.params.setOrder S ep) es else es).toList.map (·.2)
theorem d6 (w:World) (S:Addr) (es:Array (Int×Value)) (ep:Nat):(ca w S es ep).Perm (es.toList.map (·.2)):=by
 unfold ca
 refine List.Perm.map _ ?_
 split
 ·exact sC _ es
 ·exact List.Perm.refl _
def fi (t:SetTable):Nat→Nat
 | 0=> 0
 | j+1=> t.place.getD j 0+1
def aR (w:World) (t:SetTable) (i:Nat):Nat:=if w.params.followText "set-order"=true then 0 else fi t i
def oA (w:World) (h:Heap) (it S:Addr) (t:SetTable) (i n ep:Nat):Prop:=∃ o,h.get? it=some o∧o.cls=.type "set_iterator"∧o.data=.fields #[rawInt (aR w t i),rawInt i,.ref S,rawInt n,rawInt ep]
theorem oA.ty {it S:Addr} {t:SetTable} {i n ep:Nat} (x:oA w s.heap it S t i n ep):s.TypeIs (.ref it) "set_iterator":=let ⟨o,ho,hc,_⟩:=x; ⟨o,ho,hc⟩
structure SO (prog:Program) (w:World) (o:Obj) (es:Array (Int×Value)) (ep:Nat) (t:SetTable) (hs:List Int):Prop where
 ex:o.ExactSet
 d:o.data=.set es ep t
 T:TOk t hs
 n:hs.length=es.size
 led:t.led=(!w.params.followText "set-order")
 plain:t.plain=true
theorem tH {S:Addr} {o:Obj} {es ep t hs} {Q:Bool→Shared→Prop} (O:SO prog w o es ep t hs) (ho:s.heap.get? S=some o) (h:Q false s):wpAny (model prog w) A (setDrawn S) Q E s:=by
 unfold setDrawn setsByText
 refine wpAny_bind (wpAny_setState_of ho O.d (O.T.fits O.n) (wpAny_bind (wpAny_bind (wpAny_askSetting (wpAny_pure (wpAny_pure ?_))))))
 have q:Q (!w.params.followText "set-order" && (!t.plain && decide (es.size > 1))) s:=by rw [O.plain]; simpa using h
 exact q
theorem sN {S:Addr} {o:Obj} {es ep t hs} {Q:Value→Shared→Prop} (O:SO prog w o es ep t hs) (ho:s.heap.get? S=some o)
  (hQ:Q (.ref s.heap.objs.size) { s with heap:=s.heap.push { cls:=.type "set_iterator",data:=.fields #[rawInt 0,rawInt 0,.ref S,rawInt es.size,rawInt ep] } }):wpAny (model prog w) A (pyIter (.ref S)) Q E s:=by
 have hT:s.TypeIs (.ref S) "set":=⟨o,ho,O.ex.1⟩
 refine wpAny_pyIter_slot hT PySem.F.slot_set_iter (wpAny_call_entry PySem.F.slot_set_iter hT ov ?_ (PySem.F.args_set_iter_1 _))
 unfold Builtin.«frozenset.__iter__»
 show wpAny _ _ (Builtin.Frozenset.sizeOf S >>=_) _ _ s
 unfold Builtin.Frozenset.sizeOf
 refine wpAny_bind (wpAny_bind (wpAny_setEntries_of ho O.d (O.T.fits O.n) (wpAny_pure ?_)))
 refine wpAny_bind (tH O ho ?_)
 simp only [Bool.false_eq_true,if_false]
 refine wpAny_bind (wpAny_pure ?_)
 refine wpAny_bind (wpAny_setEpoch_of ho O.d (O.T.fits O.n) ?_)
 refine wpAny_bind (wpAny_newObj_type (wpAny_pure ⟨_,rfl,"set_iterator",_,⟨_,Heap.get?_push_size _ rfl,rfl⟩,dz.lookup,?_⟩))
 exact hQ
theorem o3 {t:SetTable} {hs:List Int} (T:TOk t hs) {i:Nat} (hi:i≤t.place.size):below t.place (fi t i)=i:=by
 obtain ⟨h1,h2,h3⟩:=eS T.R (fi t i)
 cases i with
 | zero=>
  dsimp only [fi] at *
  rcases Nat.eq_zero_or_pos (below t.place 0) with z | z
  ·exact z
  ·have:=h1 0 _ z (dP (by omega)); omega
 | succ j=>
  dsimp only [fi] at *
  have hj:j < t.place.size:=by omega
  have ej:t.place.getD j 0=t.place[j]:=by simp [Array.getD,hj]
  rw [ej] at h1 h2 h3 ⊢
  generalize hb:below t.place (t.place[j]+1)=b at *
  rcases Nat.lt_trichotomy b (j+1) with z | z | z
  ·have:=h2 j t.place[j] (by omega) (dP hj); omega
  ·exact z
  ·have q:=h1 (j+1) _ z (dP (by omega))
   have:=T.R j (j+1) _ _ (by omega) (dP hj) (dP (show j+1 < t.place.size by omega))
   omega
theorem jd {S:Addr} {o:Obj} {es ep t hs} {i:Nat} {Q:Option (Value×Nat)→Shared→Prop} (O:SO prog w o es ep t hs) (ho:s.heap.get? S=some o) (hi:i≤es.size)
  (h:Q (((ca w S es ep)[i]?).map fun v=> (v,aR w t (i+1))) s):wpAny (model prog w) A (setNext S (aR w t i) i ep) Q E s:=by
 have hfit:=O.T.fits O.n
 have hpl:t.place.size=es.size:=by rw [O.T.n,O.n]
 unfold setNext setsByText
 refine wpAny_bind (wpAny_setState_of ho O.d hfit (wpAny_bind (wpAny_bind (wpAny_askSetting (wpAny_pure ?_)))))
 by_cases bt:w.params.followText "set-order"=true
 ·dsimp only
  rw [show (model prog w).w.params.followText "set-order"=true from bt,if_pos rfl,if_neg (by simp)]
  unfold setWalk setsByText
  refine wpAny_bind (wpAny_bind (wpAny_setState_of ho O.d hfit (wpAny_bind (wpAny_bind (wpAny_askSetting (wpAny_pure ?_))))))
  dsimp only
  rw [show (model prog w).w.params.followText "set-order"=true from bt,if_pos rfl]
  refine wpAny_bind (wpAny_askSetting (wpAny_pure (wpAny_pure ?_)))
  have e:Option.map (fun (e:Int×Value)=> (e.2,aR w t i)) (pickOrder (w.params.setOrder S ep) es)[i]?=((ca w S es ep)[i]?).map fun v=> (v,aR w t (i+1)):=by
   unfold ca aR
   rw [if_pos bt,if_pos bt,if_pos bt,List.getElem?_map,Array.getElem?_toList,Option.map_map]
   rfl
  have q:Q (Option.map (fun (e:Int×Value)=> (e.2,aR w t i)) (pickOrder (w.params.setOrder S ep) es)[i]?) s:=by rw [e]; exact h
  exact q
 ·have bf:w.params.followText "set-order"=false:=by simpa using bt
  dsimp only
  rw [show (model prog w).w.params.followText "set-order"=false from bf,if_neg (by simp)]
  have e1:aR w t i=fi t i:=by unfold aR; rw [if_neg bt]
  have e2:below t.place (aR w t i)=i:=by rw [e1]; exact o3 O.T (by omega)
  have e3:(match es[below t.place (aR w t i)]?,t.place[below t.place (aR w t i)]? with
    | some (_,x),some j=> some (x,j+1)
    | _,_=> none)=((ca w S es ep)[i]?).map fun v=> (v,aR w t (i+1)):=by
   rw [e2]
   unfold ca aR
   rw [if_neg bt,if_neg bt,List.getElem?_map,Array.getElem?_toList]
   rcases Nat.lt_or_ge i es.size with z | z
   ·have z':i < t.place.size:=by omega
    simp [z,z',Array.getD,fi]
   ·have z':t.place.size≤i:=by omega
    simp [z,z']
  split
  ·rename_i hc
   exact absurd (show (!t.plain && decide (es.size > 1))=true from hc) (by rw [O.plain]; simp)
  ·refine wpAny_bind ?_
   show wpAny _ _ (if (!t.led && !es.isEmpty)=true then unsupported "set:maker-not-led" else pure ()) _ _ _
   rw [O.led,bf,if_neg (by simp)]
   refine wpAny_pure (wpAny_pure ?_)
   have q:Q (match es[below t.place (aR w t i)]?,t.place[below t.place (aR w t i)]? with
    | some (_,x),some j=> some (x,j+1)
    | _,_=> none) s:=by rw [e3]; exact h
   exact q
set_option maxHeartbeats 1000000 in
theorem qT {S it:Addr} {o:Obj} {es ep t hs} {i:Nat} {v:Value} {Q:Option Value→Shared→Prop} (O:SO prog w o es ep t hs) (ho:s.heap.get? S=some o) (hit:oA w s.heap it S t i es.size ep) (hv:(ca w S es ep)[i]?=some v)
  (hQ:∀ h',oA w h' it S t (i+1) es.size ep→Heap.SameBut it s.heap h'→Q (some v) { s with heap:=h' }):wpAny (model prog w) A (pyNext (.ref it)) Q E s:=by
 obtain ⟨oi,hoi,hc,hd⟩:=id hit
 have hfit:=O.T.fits O.n
 unfold pyNext
 refine wpAny_bind (wpAny_attempt (wpAny_callSpecial?_slot (name:=Str.ofString "__next__") hit.ty dz (wpAny_call_entry dz hit.ty jf ?_ (kA _))))
 unfold Builtin.«set_iterator.__next__»
 refine wpAny_bind (m:=slotArgs "__next__" 0 _) (wpAny_pure ?_)
 dsimp only
 refine wpAny_bind (wpAny_fieldsOf hoi hd ?_)
 dsimp only [rawInt]
 refine wpAny_bind (wpAny_setEntries_of ho O.d hfit ?_)
 rw [if_neg (by simp)]
 have hlt:i < es.size:=by
  have q:=(List.getElem?_eq_some_iff.mp hv).1
  rw [(d6 w S es ep).length_eq,List.length_map,Array.length_toList] at q
  exact q
 rw [show ((aR w t i:Nat):Int).toNat=aR w t i from Int.toNat_natCast _,show ((i:Nat):Int).toNat=i from Int.toNat_natCast _,show ((ep:Nat):Int).toNat=ep from Int.toNat_natCast _]
 refine wpAny_bind (jd O ho (Nat.le_of_lt hlt) ?_)
 rw [hv]
 dsimp only [Option.map]
 refine wpAny_bind (wpAny_setField hoi hd (by simp) ?_)
 have g1:=Heap.get?_update_self (Obj.mapFields (·.setIfInBounds 0 (Value.int ((aR w t (i+1):Nat):Int) 0))) hoi (Obj.isFreed_of_fields (Obj.data_mapFields hd _))
 refine wpAny_bind (wpAny_setField g1 (Obj.data_mapFields hd _) (by simp) ?_)
 refine wpAny_pure ⟨_,rfl,wpAny_pure (hQ _ ?_ ((Heap.SameBut.update ..).trans (Heap.SameBut.update ..)))⟩
 refine ⟨_,Heap.get?_update_self _ g1 (Obj.isFreed_of_fields (Obj.data_mapFields (Obj.data_mapFields hd _) _)),(Obj.cls_mapFields ..).trans ((Obj.cls_mapFields ..).trans hc),?_⟩
 rw [Obj.data_mapFields (Obj.data_mapFields hd _)]
 simp [rawInt]
set_option maxHeartbeats 1000000 in
theorem sD {S it:Addr} {o:Obj} {es ep t hs} {Q:Option Value→Shared→Prop} (hh:A.handled=none) (O:SO prog w o es ep t hs) (ho:s.heap.get? S=some o) (hit:oA w s.heap it S t es.size es.size ep)
  (hQ:∀ h',Heap.ExtBut it s.heap h'→Q none { s with heap:=h' }):wpAny (model prog w) A (pyNext (.ref it)) Q E s:=by
 obtain ⟨oi,hoi,hc,hd⟩:=id hit
 have hfit:=O.T.fits O.n
 unfold pyNext
 refine wpAny_bind (wpAny_attempt (wpAny_callSpecial?_slot (name:=Str.ofString "__next__") hit.ty dz (wpAny_call_entry dz hit.ty jf ?_ (kA _))))
 unfold Builtin.«set_iterator.__next__»
 refine wpAny_bind (m:=slotArgs "__next__" 0 _) (wpAny_pure ?_)
 dsimp only
 refine wpAny_bind (wpAny_fieldsOf hoi hd ?_)
 dsimp only [rawInt]
 refine wpAny_bind (wpAny_setEntries_of ho O.d hfit ?_)
 rw [if_neg (by simp)]
 rw [show ((aR w t es.size:Nat):Int).toNat=aR w t es.size from Int.toNat_natCast _,show ((es.size:Nat):Int).toNat=es.size from Int.toNat_natCast _,show ((ep:Nat):Int).toNat=ep from Int.toNat_natCast _]
 refine wpAny_bind (jd O ho (Nat.le_refl _) ?_)
 rw [show (ca w S es ep)[es.size]?=none from List.getElem?_eq_none (by rw [(d6 w S es ep).length_eq,List.length_map,Array.length_toList]; exact Nat.le_refl _)]
 dsimp only [Option.map]
 refine wpAny_bind (wpAny_setField hoi hd (by simp) ?_)
 refine wpAny_bind ?_
 simp only [newExc,newTuple]
 refine wpAny_bind (wpAny_newObj_type ?_ (by size_fits))
 refine wpAny_bind (m:=firstArgMember _ _) (wpAny_of_eq (a:=Value.none) (by first | rfl | (simp only [firstArgMember]; rfl)) ?_)
 refine wpAny_newObj_type ?_ (by size_fits)
 simp only [raiseNew]
 refine wpAny_bind (wpAny_handled ?_)
 rw [show A.in1.handled=none from hh]
 refine wpAny_bind (wpAny_pure (wpAny_throw ?_))
 refine wpAny_bind (wpAny_isInstance (T:="StopIteration") (b:=true) ⟨_,Heap.get?_push_size _ rfl,rfl⟩ isSubtype_stop ?_)
 exact wpAny_pure (hQ _ (((Heap.SameBut.update ..).extBut.push _).push _))
end
end ST
namespace ST
open PySem PySem.SetTable PySem.W
theorem kl:Slot "set_iterator" "__iter__" "set_iterator.__iter__":=
 .of (owner:="set_iterator") (n:="__iter__") (by rw [typeLookup_type,builtinLookup_eq_fast]; kernel_rfl) (by decide+kernel) (by decide+kernel) (by decide+kernel) (by first | exact .inl (by decide+kernel) | exact .inr (by decide+kernel)) (by rw [isSubtype_type]; kernel_rfl)
theorem oH:entryFor table "set_iterator.__iter__"=some Builtin.«dict_keyiterator.__iter__»:=entryFor_alias (id':="dict_keyiterator.__iter__") (by kernel_rfl) rfl (by decide+kernel) (by kernel_rfl)
theorem si (a:Value):argsOk "set_iterator.__iter__" ⟨[a],[]⟩:=by unfold argsOk; kernel_rfl
section
variable {prog:Program} {w:World} {A:Around} {E:Value→Shared→Prop} {s:Shared}
theorem vV {it S:Addr} {t:SetTable} {i n ep:Nat} {Q:Value→Shared→Prop} (hit:oA w s.heap it S t i n ep) (h:Q (.ref it) s):wpAny (model prog w) A (pyIter (.ref it)) Q E s:=by
 refine wpAny_pyIter_slot hit.ty kl (wpAny_call_entry kl hit.ty oH ?_ (si _))
 exact wpAny_pure ⟨_,rfl,"set_iterator",_,hit.ty,dz.lookup,h⟩
theorem rC (hh:A.handled=none) {it S:Addr} (hne:S≠it) {o:Obj} {es ep t hs} (O:SO prog w o es ep t hs):
  Walks prog w A it [it,S] [it] es.size (fun i v=> (ca w S es ep)[i]?=some v) (fun i h=> oA w h it S t i es.size ep∧h.get? S=some o) where
 sub:=fun b hb=> by simp at hb; simp [hb]
 frame:=fun _ _ _ st hk=> ⟨let ⟨x,hx,r⟩:=st.1; ⟨x,hk it (by simp) x hx,r⟩,hk S (by simp) o st.2⟩
 item:=fun i s Q E hi st hQ=> by
  obtain ⟨v,hv⟩:∃ v,(ca w S es ep)[i]?=some v:=⟨_,List.getElem?_eq_getElem (by rw [(d6 w S es ep).length_eq,List.length_map,Array.length_toList]; exact hi)⟩
  refine qT O st.2 st.1 hv fun h' hit' sb=> ?_
  exact hQ v h' s.toks hv ⟨hit',(sb.2 S hne).trans st.2⟩ fun b x hb e=> sb.extBut b x (fun z=> hb (by simp [z])) e
 done:=fun s Q E st hQ=> sD hh O st.2 st.1 fun h' xb=> hQ h' s.toks fun b x hb e=> xb b x (fun z=> hb (by simp [z])) e
 self:=fun _ _ _ _ st hQ=> vV st.1 hQ
theorem t7 {r:Addr} {Q:Bool→Shared→Prop} (hT:s.TypeIs (.ref r) "set") (h:Q false s):wpAny (model prog w) A (Builtin.List.listLengthHint (.ref r)) Q E s:=by
 unfold Builtin.List.listLengthHint
 refine wpAny_bind (wpAny_specialOf hT PySem.F.slot_set_len.lookup ?_)
 generalize hid:("set.__len__":String)=id0
 wp_delta
 rw [show splitId id0=some ("set","__len__") from by subst hid; decide+kernel]
 subst hid
 refine wpAny_bind (wpAny_isInstance (T:="set") (b:=true) hT (by rw [isSubtype_type]; kernel_rfl) ?_)
 refine wpAny_ite_split (fun z=> absurd z (by decide)) (fun _=> ?_)
 refine wpAny_ite_split (fun _=> ?_) (fun z=> absurd (by decide+kernel) z)
 exact wpAny_bind (wpAny_typeOf hT (wpAny_pure h))
theorem ww {S:Addr} {o:Obj} {es ep t hs} (O:SO prog w o es ep t hs):KdlSrc prog w "set" S S es.size (fun i v=> (ca w S es ep)[i]?=some v) (fun h=> h.get? S=some o) where
 type:=fun _ hm=> ⟨o,hm,O.ex.1⟩
 there:=fun _ hm=> ⟨Heap.lt_size hm,Heap.lt_size hm⟩
 keep:=fun _ _ hm hk=> hk S (.inl rfl) o hm
 notList:=by decide
 notTuple:=by decide
 hint:=fun _ _ _ _ hm hq=> t7 ⟨o,hm,O.ex.1⟩ hq
 iter:=fun _ s hh hm=> ⟨_,_,(fun _ _ hq=> sN O hm hq),rC hh (Nat.ne_of_lt (Heap.lt_size hm)) O,⟨⟨_,Heap.get?_push_size _ rfl,rfl,by simp [aR,fi]⟩,Heap.get?_push_of_some _ hm⟩⟩
end
end ST
namespace ST
open PySem PySem.W PyProof.Rows
inductive fC (lt:Nat→Nat→Bool) (n:Nat) {α:Type}:KasT α→α→Prop
 | ret (a:α):fC lt n (.ret a) a
 | ask {i j:Nat} {k:Bool→KasT α} {a:α}:i < n→j < n→fC lt n (k (lt i j)) a→fC lt n (.ask i j k) a
variable {lt:Nat→Nat→Bool} {n:Nat}
theorem fC.bind {α β:Type} {t:KasT α} {a:α} {f:α→KasT β} {b:β} (h:fC lt n t a) (h':fC lt n (f a) b):fC lt n (t.bind f) b:=by
 induction h with
 | ret a=> exact h'
 | ask hi hj _ ih=> exact fC.ask hi hj (ih h')
theorem fC.wp {α:Type} {t:KasT α} {a:α} (h:fC lt n t a) {cmp:Nat→Nat→(Bool→Shared→Prop)→Shared→Prop} {s:Shared} (hc:∀ i j C,i < n→j < n→C (lt i j) s→cmp i j C s) {Q:α→Shared→Prop} (q:Q a s):t.kasWp cmp Q s:=by
 induction h with
 | ret a=> exact q
 | ask hi hj _ ih=> exact hc _ _ _ hi hj (ih q)
structure LtO (n:Nat) (lt:Nat→Nat→Bool):Prop where
 tr:∀ i j k,lt i j=true→lt j k=true→lt i k=true
 tot:∀ i j,i < n→j < n→i≠j→lt i j=false→lt j i=true
 asy:∀ i j,lt i j=true→lt j i=false
abbrev g (p:Array Nat) (k:Nat):Nat:=p.getD k 0
theorem wG {p q:Array Nat} {k l:Nat} (h:p[k]?=q[l]?):g p k=g q l:=by
 unfold g
 rw [Array.getD_eq_getD_getElem?,Array.getD_eq_getD_getElem?,h]
structure PP (n:Nat) (p:Array Nat):Prop where
 perm:p.toList.Perm (List.range n)
theorem PP.size {p:Array Nat} (h:PP n p):p.size=n:=by rw [← Array.length_toList,h.perm.length_eq,List.length_range]
theorem PP.mem {p:Array Nat} (h:PP n p) {k:Nat} (hk:k < n):g p k < n:=by
 have hk':k < p.size:=by rw [h.size]; exact hk
 have e:g p k=p[k]:=by simp [g,Array.getD,hk']
 rw [e]
 exact List.mem_range.mp (h.perm.mem_iff.mp (by simp))
theorem PP.inj {p:Array Nat} (h:PP n p) {k l:Nat} (hk:k < n) (hl:l < n) (e:g p k=g p l):k=l:=by
 have hk':k < p.toList.length:=by rw [Array.length_toList,h.size]; exact hk
 have hl':l < p.toList.length:=by rw [Array.length_toList,h.size]; exact hl
 have nd:p.toList.Nodup:=h.perm.nodup_iff.mpr List.nodup_range
 have e1:g p k=p.toList[k]:=by simp [g,Array.getD,h.size,hk]
 have e2:g p l=p.toList[l]:=by simp [g,Array.getD,h.size,hl]
 exact (List.getElem_inj nd).mp (by rw [← e1,← e2,e])
theorem PP.of {p q:Array Nat} (h:PP n p) (hq:q.Perm p):PP n q:=⟨(Array.perm_iff_toList_perm.mp hq).trans h.perm⟩
def Srt (lt:Nat→Nat→Bool) (p:Array Nat) (m:Nat):Prop:=∀ i j,i < j→j < m→lt (g p i) (g p j)=true
def Dsc (lt:Nat→Nat→Bool) (p:Array Nat) (m:Nat):Prop:=∀ i j,i < j→j < m→lt (g p j) (g p i)=true
theorem Srt.one (p:Array Nat):Srt lt p 1:=fun i j h1 h2=> by omega
theorem Srt.more (O:LtO n lt) {p:Array Nat} {m:Nat} (S:Srt lt p m) (h1:1≤m) (h:lt (g p (m - 1)) (g p m)=true):Srt lt p (m+1):=fun i j hij hj=> by
 rcases Nat.lt_or_eq_of_le (Nat.le_of_lt_succ hj) with z | z
 ·exact S i j hij z
 ·subst z
  rcases Nat.lt_or_eq_of_le (show i≤j - 1 by omega) with y | y
  ·exact O.tr _ _ _ (S i (j - 1) y (by omega)) h
  ·subst y; exact h
theorem Dsc.more (O:LtO n lt) {p:Array Nat} {m:Nat} (S:Dsc lt p m) (h1:1≤m) (h:lt (g p m) (g p (m - 1))=true):Dsc lt p (m+1):=fun i j hij hj=> by
 rcases Nat.lt_or_eq_of_le (Nat.le_of_lt_succ hj) with z | z
 ·exact S i j hij z
 ·subst z
  rcases Nat.lt_or_eq_of_le (show i≤j - 1 by omega) with y | y
  ·exact O.tr _ _ _ h (S i (j - 1) y (by omega))
  ·subst y; exact h
theorem lH (O:LtO n lt) {p:Array Nat} (P:PP n p):∀ (f m:Nat),1≤m→m+f=n→Srt lt p m→∃ m',fC lt n (kas_asc p f m) m'∧m≤m'∧m'≤n∧Srt lt p m'∧(m' < n→lt (g p m') (g p (m' - 1))=true)
 | 0,m,h1,hf,S=> ⟨m,.ret m,Nat.le_refl _,by omega,S,fun h=> by omega⟩
 | f+1,m,h1,hf,S=> by
  by_cases hc:lt (g p m) (g p (m - 1))=true
  ·refine ⟨m,.ask (P.mem (by omega)) (P.mem (by omega)) ?_,Nat.le_refl _,by omega,S,fun _=> hc⟩
   rw [if_pos hc]; exact .ret m
  ·have hc':lt (g p m) (g p (m - 1))=false:=by simpa using hc
   have ht:=O.tot _ _ (P.mem (show m < n by omega)) (P.mem (show m - 1 < n by omega)) (fun e=> by have:=P.inj (by omega) (by omega) e; omega) hc'
   obtain ⟨m',r,a1,a2,a3,a4⟩:=lH O P f (m+1) (by omega) (by omega) (S.more O h1 ht)
   refine ⟨m',.ask (P.mem (by omega)) (P.mem (by omega)) ?_,by omega,a2,a3,a4⟩
   rw [if_neg hc]; exact r
theorem lZ (O:LtO n lt) {p:Array Nat} (P:PP n p):∀ (f m:Nat),1≤m→m+f=n→Dsc lt p m→∃ m',fC lt n (kas_desc f p m 0) (p,m',0)∧m≤m'∧m'≤n∧Dsc lt p m'
 | 0,m,h1,hf,S=> ⟨m,.ret _,Nat.le_refl _,by omega,S⟩
 | f+1,m,h1,hf,S=> by
  by_cases hc:lt (g p m) (g p (m - 1))=true
  ·obtain ⟨m',r,a1,a2,a3⟩:=lZ O P f (m+1) (by omega) (by omega) (S.more O h1 hc)
   refine ⟨m',.ask (P.mem (by omega)) (P.mem (by omega)) ?_,by omega,a2,a3⟩
   rw [if_pos hc,if_neg (by omega)]; exact r
  ·have hc':lt (g p m) (g p (m - 1))=false:=by simpa using hc
   have ht:=O.tot _ _ (P.mem (show m < n by omega)) (P.mem (show m - 1 < n by omega)) (fun e=> by have:=P.inj (by omega) (by omega) e; omega) hc'
   refine ⟨m,.ask (P.mem (by omega)) (P.mem (by omega)) ?_,Nat.le_refl _,by omega,S⟩
   rw [if_neg hc]
   refine .ask (P.mem (by omega)) (P.mem (by omega)) ?_
   rw [if_pos ht]; exact .ret _
theorem tM {p:Array Nat} (P:PP n p) {m k:Nat} (hm:m≤n) (hk:k < m):g (kas_rev p 0 m) k=g p (m - 1 - k):=by
 refine wG ?_
 unfold kas_rev
 rw [getElem?_mirror (by rw [P.size]; exact hm) _ (by omega)]
 split
 ·congr 1; omega
 ·congr 1; omega
theorem uA {p:Array Nat} (P:PP n p) (i j:Nat):PP n (kas_rev p i j):=P.of (mirror_perm _ _ _ _)
theorem vU {p:Array Nat} (P:PP n p) {m:Nat} (hm:m≤n) (D:Dsc lt p m):Srt lt (kas_rev p 0 m) m:=fun i j hij hj=> by
 rw [tM P hm (by omega),tM P hm hj]
 exact D _ _ (by omega) (by omega)
theorem qK (O:LtO n lt) {p:Array Nat} (P:PP n p) (h2:2≤n):∃ m p',fC lt n (kas_count n p) (m,p')∧PP n p'∧1≤m∧m≤n∧Srt lt p' m:=by
 obtain ⟨m,r,a1,a2,a3,a4⟩:=lH O P (n - 1) 1 (Nat.le_refl _) (by omega) (Srt.one p)
 by_cases hm:m=n
 ·exact ⟨m,p,r.bind (by rw [if_pos (by simp [hm])]; exact .ret _),P,a1,a2,a3⟩
 ·have hne:¬ ((m==n)=true):=by simpa using hm
  by_cases h1:m > 1
  ·refine ⟨m,p,r.bind ?_,P,a1,a2,a3⟩
   rw [if_neg hne,if_pos h1]
   refine .ask (P.mem (by omega)) (P.mem (by omega)) ?_
   rw [if_pos (a3 0 (m - 1) (by omega) (by omega))]
   exact .ret _
  ·obtain rfl:m=1:=by omega
   have D2:Dsc lt p 2:=Dsc.more O (fun i j x y=> by omega) (Nat.le_refl _) (a4 (by omega))
   obtain ⟨d,rd,b1,b2,b3⟩:=lZ O P (n - 2) 2 (by omega) (by omega) D2
   obtain ⟨e,re,c1,c2,c3,c4⟩:=lH O (uA P 0 d) (n - d) d (by omega) (by omega) (vU P b2 b3)
   refine ⟨e,kas_rev p 0 d,r.bind ?_,uA P 0 d,by omega,c2,c3⟩
   rw [if_neg hne,if_neg h1]
   unfold kas_descPart
   refine fC.bind (a:=(p,d,0)) rd ?_
   rw [if_neg (by simp)]
   unfold kas_tail3
   exact re.bind (.ret _)
theorem hG (O:LtO n lt) {p:Array Nat} (P:PP n p) {k:Nat} (hk:k < n) (S:Srt lt p k):∀ (f l r:Nat),l≤r→r≤k→r - l≤f→(∀ i,i < l→lt (g p i) (g p k)=true)→(∀ i,r≤i→i < k→lt (g p k) (g p i)=true)→
  ∃ l',fC lt n (kas_place p k f l r) l'∧l'≤k∧(∀ i,i < l'→lt (g p i) (g p k)=true)∧(∀ i,l'≤i→i < k→lt (g p k) (g p i)=true)
 | 0,l,r,h1,h2,h3,a,b=> ⟨l,.ret l,by omega,a,fun i x y=> b i (by omega) y⟩
 | f+1,l,r,h1,h2,h3,a,b=> by
  unfold kas_place
  by_cases hlr:l ≥ r
  ·rw [if_pos hlr]
   exact ⟨l,.ret l,by omega,a,fun i x y=> b i (by omega) y⟩
  ·rw [if_neg hlr]
   have hm:(l+r) / 2 < k:=by omega
   by_cases hc:lt (g p k) (g p ((l+r) / 2))=true
   ·obtain ⟨l',r',x1,x2,x3⟩:=hG O P hk S f l ((l+r) / 2) (by omega) (by omega) (by omega) a fun i hi hik=> by
     rcases Nat.lt_or_eq_of_le hi with z | z
     ·exact O.tr _ _ _ hc (S _ _ z hik)
     ·rw [← z]; exact hc
    refine ⟨l',.ask (P.mem hk) (P.mem (by omega)) ?_,x1,x2,x3⟩
    rw [if_pos hc]; exact r'
   ·have hc':lt (g p k) (g p ((l+r) / 2))=false:=by simpa using hc
    have ht:=O.tot _ _ (P.mem hk) (P.mem (show (l+r) / 2 < n by omega)) (fun e=> by have:=P.inj hk (by omega) e; omega) hc'
    obtain ⟨l',r',x1,x2,x3⟩:=hG O P hk S f ((l+r) / 2+1) r (by omega) h2 (by omega) (fun i hi=> by
     rcases Nat.lt_or_eq_of_le (Nat.le_of_lt_succ hi) with z | z
     ·exact O.tr _ _ _ (S _ _ z hm) ht
     ·rw [z]; exact ht) b
    refine ⟨l',.ask (P.mem hk) (P.mem (by omega)) ?_,x1,x2,x3⟩
    rw [if_neg hc]; exact r'
theorem qg (O:LtO n lt):∀ (f k:Nat) (p:Array Nat),k+f=n→PP n p→Srt lt p k→∃ p',fC lt n (kas_bin f p k) p'∧PP n p'∧Srt lt p' n
 | 0,k,p,hf,P,S=> ⟨p,.ret p,P,by rw [← hf]; exact S⟩
 | f+1,k,p,hf,P,S=> by
  obtain ⟨l,rl,x1,x2,x3⟩:=hG O P (show k < n by omega) S k 0 k (Nat.zero_le _) (Nat.le_refl _) (by omega) (fun i h=> by omega) (fun i h h'=> by omega)
  have at_:∀ j,g (bubble p k (k - l)) j=if j=l then g p k else if l < j∧j≤k then g p (j - 1) else g p j:=fun j=> by
   have e:=getElem?_bubble (xs:=p) (src:=k) (by rw [P.size]; omega) (k - l) (by omega) j
   rw [show k - (k - l)=l by omega] at e
   split
   ·rename_i z; rw [if_pos z] at e; exact wG e
   ·rename_i z
    rw [if_neg z] at e
    split
    ·rename_i y; rw [if_pos y] at e; exact wG e
    ·rename_i y; rw [if_neg y] at e; exact wG e
  have e1:g (bubble p k (k - l)) l=g p k:=by rw [at_,if_pos rfl]
  have e2:∀ j,l < j→j≤k→g (bubble p k (k - l)) j=g p (j - 1):=fun j y z=> by rw [at_,if_neg (by omega),if_pos ⟨y,z⟩]
  have e3:∀ j,j < l→g (bubble p k (k - l)) j=g p j:=fun j y=> by rw [at_,if_neg (by omega),if_neg (by omega)]
  have S':Srt lt (bubble p k (k - l)) (k+1):=fun i j hij hj=> by
   rcases Nat.lt_trichotomy j l with y | y | y
   ·rw [e3 i (by omega),e3 j y]; exact S _ _ hij (by omega)
   ·rw [y,e1,e3 i (by omega)]; exact x2 i (by omega)
   ·rw [e2 j y (by omega)]
    rcases Nat.lt_trichotomy i l with z | z | z
    ·rw [e3 i z]; exact S _ _ (by omega) (by omega)
    ·rw [z,e1]; exact x3 (j - 1) (by omega) (by omega)
    ·rw [e2 i z (by omega)]; exact S _ _ (by omega) (by omega)
  obtain ⟨p',r',P',S''⟩:=qg O f (k+1) (bubble p k (k - l)) (by omega) (P.of (bubble_perm _ _ _)) S'
  exact ⟨p',rl.bind r',P',S''⟩
theorem uw (O:LtO n lt) (h2:2≤n):∃ p,fC lt n (kas_sort n) p∧PP n p∧Srt lt p n:=by
 obtain ⟨m,p,r,P,a1,a2,S⟩:=qK O (p:=List.toArray (List.range n)) ⟨by simp⟩ h2
 by_cases hm:m < n
 ·obtain ⟨p',r',P',S'⟩:=qg O (n - max m 1) (max m 1) p (by omega) P (by rw [show max m 1=m by omega]; exact S)
  exact ⟨p',r.bind (by rw [if_pos hm]; exact r'),P',S'⟩
 ·obtain rfl:m=n:=by omega
  exact ⟨p,r.bind (by rw [if_neg hm]; exact .ret _),P,S⟩
end ST
namespace ST
open PySem PySem.W PyProof.Rows
def ltP (a b:Int×Int):Bool:=decide (a.1 < b.1∨(a.1=b.1∧a.2 < b.2))
theorem ltP_tr {a b c:Int×Int} (h1:ltP a b=true) (h2:ltP b c=true):ltP a c=true:=by
 unfold ltP at *; simp at *; omega
theorem qi {a b:Int×Int} (h1:ltP a b=true):ltP b a=false:=by
 unfold ltP at *; simp at *; omega
theorem ltP_tot {a b:Int×Int} (h:a≠b) (h1:ltP a b=false):ltP b a=true:=by
 unfold ltP at *
 have:¬ (a.1=b.1∧a.2=b.2):=fun z=> h (Prod.ext z.1 z.2)
 simp at *; omega
section
variable {prog:Program} {w:World} {A:Around} {E:Value→Shared→Prop} {s:Shared}
theorem TK.two {h:Heap} {x y:Int} {b:Addr} (k:TK prog w h [x,y] b):∃ o its n t u,h.get? b=some o∧o.cls=.type "tuple"∧o.data=.seq its n∧its.toList=[.int x t,.int y u]:=by
 obtain ⟨o,its,n,ho,hc,hd,hi⟩:=k
 cases hi':its.toList with
 | nil=> rw [hi'] at hi; cases hi
 | cons v1 r=>
  rw [hi'] at hi
  cases hi with
  | cons h1 hr=>
   cases hr with
   | cons h2 hr2=>
    cases hr2
    obtain ⟨t,rfl⟩:=Value.isInt_shape h1
    obtain ⟨u,rfl⟩:=Value.isInt_shape h2
    exact ⟨o,its,n,t,u,ho,hc,hd,hi'⟩
theorem zo {x y:Addr} {a b:Int×Int} {Q:Bool→Shared→Prop} (hx:TK prog w s.heap [a.1,a.2] x) (hy:TK prog w s.heap [b.1,b.2] y) (h:Q (ltP a b) s):wpAny (model prog w) A (keyLt' (tuples' true) (.ref x) (.ref y)) Q E s:=by
 obtain ⟨o,its,n,t,u,ho,_,hd,hi⟩:=hx.two
 obtain ⟨o',its',n',t',u',ho',_,hd',hi'⟩:=hy.two
 refine kat_lt ho hd ho' hd' ?_
 rw [hi,hi']
 refine kat_cons ((intKind prog w).eqBool (a:=a.1) (b:=b.1) (intKind_is _ _ _ _) (intKind_is _ _ _ _) ?_)
 by_cases e1:a.1=b.1
 ·rw [decide_eq_true e1]
  refine kat_yes (kat_cons ((intKind prog w).eqBool (a:=a.2) (b:=b.2) (intKind_is _ _ _ _) (intKind_is _ _ _ _) ?_))
  by_cases e2:a.2=b.2
  ·rw [decide_eq_true e2]
   refine kat_yes (kat_nil ?_)
   have z:ltP a b=false:=by unfold ltP; simp; omega
   rw [z] at h
   have z2:decide (its.size < its'.size)=false:=by
    rw [← Array.length_toList,← Array.length_toList,hi,hi']; simp
   rw [z2]; exact h
  ·rw [decide_eq_false e2]
   refine kat_no (kat_one _ _ (lt_int ?_))
   have z:ltP a b=decide (a.2 < b.2):=by unfold ltP; rw [e1]; simp
   rw [z] at h
   exact h
 ·rw [decide_eq_false e1]
  refine kat_no (oneLt_int ?_)
  have z:ltP a b=decide (a.1 < b.1):=by unfold ltP; simp [e1]
  rw [z] at h
  exact h
abbrev PB:=List ((Int×Int)×Addr)
abbrev refs (pb:PB):List Value:=pb.map fun p=> Value.ref p.2
def dfl:(Int×Int)×Addr:=((0,0),0)
theorem oU (pb:PB):(List.range pb.length).map (fun i=> pb.getD i dfl)=pb:=by
 apply List.ext_getElem
 ·simp
 ·intro i h1 h2
  simp at h1
  simp [h1]
theorem tS {pb:PB} {Q:SortKind→Shared→Prop} (htk:∀ p∈pb,TK prog w s.heap [p.1.1,p.1.2] p.2) (h0:0 < pb.length) (h:Q (tuples' true) s):wpAny (model prog w) A (keyKind' (refs pb).toArray) Q E s:=by
 obtain ⟨fs,hf,hl,hi⟩:∃ fs,KatTups s.heap (refs pb) fs∧fs.length=pb.length∧∀ v∈fs,∃ n t,v=Value.int n t:=by
  clear h h0
  induction pb with
  | nil=> exact ⟨[],.nil,rfl,fun v hv=> by simp at hv⟩
  | cons p r ih=>
   obtain ⟨fs,hf,hl,hi⟩:=ih fun q hq=> htk q (List.mem_cons_of_mem _ hq)
   obtain ⟨o,its,n,t,u,ho,hc,hd,hit⟩:=(htk p List.mem_cons_self).two
   refine ⟨.int p.1.1 t::fs,.cons ho hc hd (by rw [← Array.getElem?_toList,hit]; rfl) hf,by simp [hl],fun v hv=> ?_⟩
   rcases List.mem_cons.mp hv with z | z
   ·exact ⟨_,_,z⟩
   ·exact hi v z
 refine kat_kind (T:=.type "int") hf (by omega) (fun v hv=> ?_) (by decide) h
 obtain ⟨n,t,rfl⟩:=hi v hv
 exact Looks.of_pure rfl
set_option maxHeartbeats 1000000 in
theorem vo {a:Addr} {pb:PB} {n:Nat} {P:PySem.Fin→Shared→Prop} (ho:s.heap.get? a=some (seqObj "list" (refs pb).toArray n)) (htk:∀ p∈pb,TK prog w s.heap [p.1.1,p.1.2] p.2) (hnd:(pb.map (·.1)).Nodup) (h64:pb.length < 64)
  (h:∀ pb':PB,pb'.Perm pb→(pb'.map (·.1)).Pairwise (fun x y=> ltP x y=true)→P (.done (.ret .none)) { s with heap:=sortedHeap s.heap a (refs pb) (refs pb').toArray }):
  wpAny (model prog w) A (Builtin.«list.sort» ⟨[.ref a],[]⟩) P E s:=by
 have hvl:(refs pb).length=pb.length:=by simp
 have hva:(refs pb).toArray.size=pb.length:=by simp
 rw [list_sort_plain]
 have ha:a < s.heap.objs.size:=Heap.lt_size ho
 refine wpAny_bind (listItems_at ho rfl (wpAny_bind (listUpdate_at ho rfl ?_ (by rw [hva,sizeLine_eq]; omega) (Nat.zero_le _))))
 obtain ⟨e1,ho1⟩:∃ e1,(s.heap.update a (Obj.mapSeq fun _=> (#[]:Array Value))).get? a=some (seqObj "list" #[] e1):=⟨_,get?_update_seq ho (fun _=> #[])⟩
 refine wpAny_bind (seqEpoch_at ho1 rfl (wpAny_bind (wpAny_newTuple ?_ (by show (refs pb).length≤_; rw [hvl,sizeLine_eq]; omega))))
 refine wpAny_bind (wpAny_newList ?_ (Nat.zero_le _))
 refine wpAny_holding ?_
 generalize hh6:((s.heap.update a (Obj.mapSeq fun _=> (#[]:Array Value))).push (seqObj "tuple" (refs pb).toArray 0)).push (seqObj "list" #[] 0)=h6
 have old6:∀ b o,b≠a→s.heap.get? b=some o→h6.get? b=some o:=fun b o hb e=> by
  rw [← hh6]
  exact Heap.get?_push_of_some _ (Heap.get?_push_of_some _ ((Heap.get?_update_other _ _ (Ne.symm hb)).trans e))
 have ho6:h6.get? a=some (seqObj "list" #[] e1):=by rw [← hh6]; exact Heap.get?_push_of_some _ (Heap.get?_push_of_some _ ho1)
 have tk6:∀ p∈pb,TK prog w h6 [p.1.1,p.1.2] p.2:=fun p hp=> by
  obtain ⟨o,its,k,hop,hc,r⟩:=htk p hp
  refine ⟨o,its,k,old6 p.2 o (fun z=> ?_) hop,hc,r⟩
  rw [z,ho] at hop
  cases hop
  exact absurd hc (by show ¬ (Value.type "list"=Value.type "tuple"); decide)
 have fin:∀ pb':PB,pb'.Perm pb→(pb'.map (·.1)).Pairwise (fun x y=> ltP x y=true)→P (.done (.ret .none)) { s with heap:=h6.update a (Obj.mapSeq fun _=> (refs pb').toArray) }:=fun pb' p1 p2=> by
  rw [← hh6]; exact h pb' p1 p2
 show wpAny (model prog w) A _ P E { s with heap:=h6 }
 dsimp only
 by_cases h2:(refs pb).toArray.size < 2
 ·rw [if_pos h2,if_pos h2]
  refine wpAny_bind (wpAny_pure ?_)
  rw [StateT.run_pure]
  refine wpAny_bind (wpAny_pure ?_)
  dsimp only
  have eout:(arrOf (SortSt.mk' general' ((refs pb).toArray.zip (refs pb).toArray) #[] 7 none)).map (·.2)=(refs pb).toArray:=by
   show (((refs pb).toArray.zip (refs pb).toArray)).map (·.2)=_
   apply Array.toList_inj.mp
   have zip2:∀ l:List Value,(l.zip l).map (·.2)=l:=fun l=> by
    induction l with
    | nil=> rfl
    | cons x r ih=> rw [List.zip_cons_cons,List.map_cons,ih]
   rw [Array.toList_map,Array.toList_zip]
   exact zip2 _
  rw [eout]
  refine wpAny_bind (seqEpoch_at ho6 rfl (wpAny_bind (listUpdate_at ho6 rfl ?_ (Nat.zero_le _) (by rw [hva,sizeLine_eq]; omega))))
  show wpAny _ _ (if (e1 !=e1)=true then _ else _) _ _ _
  rw [if_neg (by simp)]
  refine wpAny_pure (fin pb (List.Perm.refl _) ?_)
  match pb,hva,h2 with
  | [],_,_=> simp
  | [_],_,_=> simp
  | _::_::r,hva,h2=> rw [hva] at h2; exact absurd h2 (by simp)
 ·rw [if_neg h2,if_neg h2]
  rw [hva] at h2
  have h2':2≤(refs pb).length:=by rw [hvl]; omega
  refine wpAny_bind (tS (s:={ s with heap:=h6 }) tk6 (by omega) ?_)
  have inj:∀ i j,i < pb.length→j < pb.length→i≠j→(pb.getD i dfl).1≠(pb.getD j dfl).1:=fun i j hi hj hij e=> by
   refine hij ((List.getElem_inj (xs:=pb.map (·.1)) (h₀:=by simpa using hi) (h₁:=by simpa using hj) hnd).mp ?_)
   simpa [hi,hj] using e
  have O:LtO pb.length (fun i j=> ltP (pb.getD i dfl).1 (pb.getD j dfl).1):=⟨fun i j k=> ltP_tr,fun i j hi hj hij=> ltP_tot (inj i j hi hj hij),fun i j=> qi⟩
  obtain ⟨p,R,PP',S⟩:=uw O (by omega)
  have hcmp:∀ i j C,i < pb.length→j < pb.length→C (ltP (pb.getD i dfl).1 (pb.getD j dfl).1) { s with heap:=h6 }→kas_ask prog w A (tuples' true) (refs pb) i j C { s with heap:=h6 }:=fun i j C hi hj c=> by
   unfold kas_ask
   have ei:(refs pb).getD i Value.none=.ref (pb.getD i dfl).2:=by simp [hi]
   have ej:(refs pb).getD j Value.none=.ref (pb.getD j dfl).2:=by simp [hj]
   rw [ei,ej]
   have mi:pb.getD i dfl∈pb:=by simp [hi]
   have mj:pb.getD j dfl∈pb:=by simp [hj]
   exact zo (s:={ s with heap:=h6 }) (tk6 _ mi) (tk6 _ mj) c
  have tree:(kas_sort (refs pb).length).kasWp (kas_ask prog w A (tuples' true) (refs pb)) (fun p' s'=> p'=p∧s'={ s with heap:=h6 }) { s with heap:=h6 }:=by
   rw [hvl]
   exact R.wp hcmp ⟨rfl,rfl⟩
  refine wpAny_bind (wpAny_mono (kat_run (Q:=fun st' s'=> s'={ s with heap:=h6 }∧failedOf st'=none∧(arrOf st').map (·.2)=List.toArray (p.toList.map fun i=> (refs pb).getD i Value.none)) rfl h2' (by rw [hvl]; exact h64) (fun p' st' s' _ a2 a3 a4=> ?_) tree) ?_ fun _ _ e=> e)
  ·obtain ⟨rfl,rfl⟩:=a4
   exact ⟨rfl,a3,kat_snds rfl a2⟩
  ·rintro ⟨⟨⟩,st'⟩ s' ⟨rfl,hf,hout⟩
   dsimp only
   rw [hout]
   have hlt:∀ i∈p.toList,i < pb.length:=fun i hi=> List.mem_range.mp (PP'.perm.mem_iff.mp hi)
   have er:(p.toList.map fun i=> (refs pb).getD i Value.none)=refs (p.toList.map fun i=> pb.getD i dfl):=by
    unfold refs
    rw [List.map_map]
    refine List.map_congr_left fun i hi=> ?_
    have:=hlt i hi
    simp [this]
   rw [er]
   have hperm:(p.toList.map fun i=> pb.getD i dfl).Perm pb:=by
    refine (PP'.perm.map _).trans ?_
    rw [oU]
   have hs2:(refs (p.toList.map fun i=> pb.getD i dfl)).toArray.size=pb.length:=by simp [PP'.size]
   refine wpAny_bind (seqEpoch_at ho6 rfl (wpAny_bind (listUpdate_at ho6 rfl ?_ (Nat.zero_le _) (by rw [hs2,sizeLine_eq]; omega))))
   rw [hf]
   show wpAny _ _ (if (e1 !=e1)=true then _ else _) _ _ _
   rw [if_neg (by simp)]
   refine wpAny_pure (fin _ hperm ?_)
   rw [List.map_map,List.pairwise_map,List.pairwise_iff_getElem]
   intro i j hi hj hij
   have hj':j < pb.length:=by rw [Array.length_toList,PP'.size] at hj; exact hj
   have q:=S i j hij hj'
   have ei:g p i=p.toList[i]:=by simp [g,Array.getD,PP'.size,show i < pb.length by omega]
   have ej:g p j=p.toList[j]:=by simp [g,Array.getD,PP'.size,hj']
   rw [ei,ej] at q
   exact q
end
end ST
namespace ST
open PySem PySem.W PyProof.Rows PySem.Calls
theorem uo {α β:Type} (f:α→β) {l m:List β} (h:l.Perm m):∀ kb:List α,m=kb.map f→∃ kb':List α,List.Perm kb' kb∧l=List.map f kb':=by
 induction h with
 | nil=> intro kb e; exact ⟨kb,.refl _,e⟩
 | @cons x l m _ ih=>
  intro kb e
  match kb,e with
  | [],e=> simp at e
  | k::kb,e=>
   rw [List.map_cons,List.cons.injEq] at e
   obtain ⟨kb',p,e'⟩:=ih kb e.2
   exact ⟨k::kb',p.cons k,by rw [List.map_cons,← e',e.1]⟩
 | swap x y l=>
  intro kb e
  match kb,e with
  | [],e=> simp at e
  | [_],e=> simp at e
  | k::k'::kb,e=>
   simp only [List.map_cons,List.cons.injEq] at e
   exact ⟨k'::k::kb,.swap k k' kb,by rw [List.map_cons,List.map_cons,← e.2.2,e.1,e.2.1]⟩
 | trans _ _ ih1 ih2=>
  intro kb e
  obtain ⟨kb2,p2,e2⟩:=ih2 kb e
  obtain ⟨kb1,p1,e1⟩:=ih1 kb2 e2
  exact ⟨kb1,p1.trans p2,e1⟩
def ptsOf (kb:List (List Int×Addr)):PB:=kb.map fun p=> ((p.1.getD 0 0,p.1.getD 1 0),p.2)
section
variable {prog:Program} {w:World} {A:Around} {E:Value→Shared→Prop} {s:Shared}
set_option maxHeartbeats 1000000 in
theorem call_sorted_set {S:Addr} {kb:List (List Int×Addr)} {Q:Value→Shared→Prop} (hh:A.handled=none) (P:SP prog w s.heap S kb) (h64:kb.length < 64) (h2:∀ p∈kb,p.1.length=2)
  (h:∀ (h1 h':Heap) (tk:Nat) (pb:PB) (e:Nat),List.Perm pb (ptsOf kb)→(pb.map (·.1)).Pairwise (fun x y=> ltP x y=true)→(∀ b o,s.heap.get? b=some o→h1.get? b=some o)→(∀ b o,h1.get? b=some o→h'.get? b=some o)→h'.get? h1.objs.size=some (seqObj "list" (refs pb).toArray e)→Q (.ref h1.objs.size) { s with heap:=h',toks:=tk }):
  wpAny (model prog w) A (call (.builtin "sorted") [.ref S]) Q E s:=by
 obtain ⟨⟨o,es,ep,t,ho,hex,hd,he,T,hl,hp,_,_⟩,hk,hnd⟩:=P
 have hsz:es.size=kb.length:=by rw [← Array.length_toList,he]; simp [eW]
 have O:SO prog w o es ep t (kb.map fun p=> hsh prog w p.1):=⟨hex,hd,T,by rw [List.length_map,hsz],hl,hp⟩
 have two:∀ p∈kb,p.1=[p.1.getD 0 0,p.1.getD 1 0]:=fun p hp'=> by
  have:=h2 p hp'
  match hq:p.1,this with
  | [x,y],_=> rfl
 refine call_function_entry kind_sorted plain_sorted entry_sorted (args_sorted1 _) ?_
 unfold Builtin.«sorted»
 refine wpAny_bind (m:=checkCount "sorted" 1 1 _) (wpAny_pure ?_)
 refine wpAny_bind (kdu_collect (A:=A.in1) (ww O) hh ho (by rw [hsz,sizeLine_eq]; omega) fun h' tk acc keep hacc=> ?_)
 have hal:acc.toList=ca w S es ep:=by
  apply List.ext_getElem?
  intro i
  rcases Nat.lt_or_ge i acc.size with z | z
  ·rw [Array.getElem?_toList,Array.getElem?_eq_getElem z]
   exact (hacc.2 i _ (Array.getElem?_eq_getElem z)).symm
  ·rw [List.getElem?_eq_none (by simpa using z),List.getElem?_eq_none]
   rw [(d6 w S es ep).length_eq,List.length_map,Array.length_toList,← hacc.1]; exact z
 obtain ⟨kb1,pk,ek⟩:=uo (fun (p:List Int×Addr)=> Value.ref p.2) (d6 w S es ep) kb (by rw [he]; unfold eW; rw [List.map_map]; rfl)
 have hl1:acc.toList=refs (ptsOf kb1):=by
  rw [hal,ek]; unfold refs ptsOf; rw [List.map_map]; rfl
 have hlen1:(ptsOf kb1).length=kb.length:=by unfold ptsOf; rw [List.length_map,pk.length_eq]
 have hlenA:acc.toList.length=kb.length:=by rw [hl1]; simp [hlen1]
 refine wpAny_bind (wpAny_newList ?_ (by rw [hlenA,sizeLine_eq]; omega))
 have hD:(h'.push { cls:=.type "list",data:=.seq acc.toList.toArray }).get? h'.objs.size=some (seqObj "list" (refs (ptsOf kb1)).toArray 0):=by
  rw [← hl1]; exact Heap.get?_push_size _ rfl
 have tk1:∀ p∈ptsOf kb1,TK prog w (h'.push { cls:=.type "list",data:=.seq acc.toList.toArray }) [p.1.1,p.1.2] p.2:=fun p hp'=> by
  obtain ⟨q,hq,rfl⟩:=List.mem_map.mp hp'
  have hq':=pk.mem_iff.mp hq
  obtain ⟨oq,its,k,hoq,r⟩:=hk q hq'
  have e2:=two q hq'
  refine ⟨oq,its,k,Heap.get?_push_of_some _ (keep _ _ hoq),?_⟩
  rw [← e2]; exact r
 have nd1:((ptsOf kb1).map (·.1)).Nodup:=by
  have n1:(kb1.map (·.1)).Nodup:=((pk.map (·.1)).nodup_iff).mpr hnd
  unfold ptsOf
  rw [List.map_map]
  refine List.pairwise_map.mpr ((List.pairwise_map.mp n1).imp_of_mem fun {a b} ha hb hab=> ?_)
  intro z
  have ea:=two a (pk.mem_iff.mp ha)
  have eb:=two b (pk.mem_iff.mp hb)
  have z':(a.1.getD 0 0,a.1.getD 1 0)=(b.1.getD 0 0,b.1.getD 1 0):=z
  rw [Prod.mk.injEq] at z'
  rw [z'.1,z'.2] at ea
  exact hab (ea.trans eb.symm)
 refine wpAny_bind (wpAny_holding (wpAny_call_entry slot_list_sort ⟨_,hD,rfl⟩ entry_list_sort ?_ (args_list_sort _)))
 refine vo (s:={ s with heap:=h'.push { cls:=.type "list",data:=.seq acc.toList.toArray },toks:=tk }) hD tk1 nd1 (by omega) fun pb' pp so=> ⟨_,rfl,wpAny_pure ⟨_,rfl,?_⟩⟩
 obtain ⟨e,eD⟩:=sortedHeap_at (out:=(refs pb').toArray) hD
 refine h h' _ tk pb' e (pp.trans ?_) so keep (fun b x hb'=> ?_) eD
 ·unfold ptsOf; exact pk.map _
 ·have hlt:=Heap.lt_size hb'
  rw [sortedHeap_old (Nat.ne_of_lt hlt) (by rw [Heap.size_push]; exact Nat.lt_succ_of_lt hlt)]
  exact Heap.get?_push_of_some _ hb'
end
end ST
namespace ST
open PySem
def ins (x:Int×Int):List (Int×Int)→List (Int×Int)
 | []=> [x]
 | y::r=> if x=y then y::r else if ltP x y=true then x::y::r else y::ins x r
def srt (pts:List (Int×Int)):List (Int×Int):=pts.foldr ins []
theorem kQ (x z:Int×Int):∀ l,z∈ins x l↔z=x∨z∈l
 | []=> by simp [ins]
 | y::r=> by
  unfold ins
  split
  ·rename_i h; subst h; simp
  ·split
   ·simp
   ·rw [List.mem_cons,kQ x z r,List.mem_cons]
    constructor
    ·rintro (h | h | h)
     ·exact .inr (.inl h)
     ·exact .inl h
     ·exact .inr (.inr h)
    ·rintro (h | h | h)
     ·exact .inr (.inl h)
     ·exact .inl h
     ·exact .inr (.inr h)
abbrev Asc (l:List (Int×Int)):Prop:=l.Pairwise (fun x y=> ltP x y=true)
theorem pY (x:Int×Int):∀ l,Asc l→Asc (ins x l)
 | [],_=> by simp [ins]
 | y::r,h=> by
  unfold ins
  split
  ·exact h
  ·rename_i hne
   obtain ⟨h1,h2⟩:=List.pairwise_cons.mp h
   split
   ·rename_i hlt
    refine List.pairwise_cons.mpr ⟨fun z hz=> ?_,h⟩
    rcases List.mem_cons.mp hz with e | e
    ·rw [e]; exact hlt
    ·exact ltP_tr hlt (h1 z e)
   ·rename_i hlt
    refine List.pairwise_cons.mpr ⟨fun z hz=> ?_,pY x r h2⟩
    rcases (kQ x z r).mp hz with e | e
    ·rw [e]; exact ltP_tot hne (by simpa using hlt)
    ·exact h1 z e
theorem srt_mem (z:Int×Int):∀ l,z∈srt l↔z∈l
 | []=> by simp [srt]
 | y::r=> by
  show z∈ins y (srt r)↔_
  rw [kQ,srt_mem z r,List.mem_cons]
theorem srt_asc:∀ l,Asc (srt l)
 | []=> List.Pairwise.nil
 | y::r=> pY y (srt r) (srt_asc r)
theorem asc_irr {x:Int×Int}:ltP x x=false:=by unfold ltP; simp
theorem asc_one:∀ {l m:List (Int×Int)},Asc l→Asc m→(∀ z,z∈l↔z∈m)→l=m
 | [],[],_,_,_=> rfl
 | [],y::r,_,_,h=> by have:=(h y).mpr List.mem_cons_self; simp at this
 | x::l,[],_,_,h=> by have:=(h x).mp List.mem_cons_self; simp at this
 | x::l,y::m,hl,hm,h=> by
  obtain ⟨a1,a2⟩:=List.pairwise_cons.mp hl
  obtain ⟨b1,b2⟩:=List.pairwise_cons.mp hm
  have e:x=y:=by
   rcases List.mem_cons.mp ((h x).mp List.mem_cons_self) with z | z
   ·exact z
   ·rcases List.mem_cons.mp ((h y).mpr List.mem_cons_self) with z' | z'
    ·exact z'.symm
    ·have:=qi (b1 x z)
     rw [a1 y z'] at this; cases this
  subst e
  congr 1
  refine asc_one a2 b2 fun z=> ⟨fun hz=> ?_,fun hz=> ?_⟩
  ·rcases List.mem_cons.mp ((h z).mp (List.mem_cons_of_mem _ hz)) with e | e
   ·have:=a1 z hz; rw [e,asc_irr] at this; cases this
   ·exact e
  ·rcases List.mem_cons.mp ((h z).mpr (List.mem_cons_of_mem _ hz)) with e | e
   ·have:=b1 z hz; rw [e,asc_irr] at this; cases this
   ·exact e
theorem asc_srt {l:List (Int×Int)} (h:Asc l):srt l=l:=asc_one (srt_asc l) h fun z=> srt_mem z l
theorem qo (x:Int×Int):∀ l,(ins x l).length≤l.length+1
 | []=> by simp [ins]
 | y::r=> by
  have:=qo x r
  unfold ins
  split
  ·simp
  ·split
   ·simp
   ·simp only [List.length_cons]; omega
theorem srt_len:∀ l,(srt l).length≤l.length
 | []=> Nat.le_refl _
 | y::r=> by
  have h1:=qo y (srt r)
  have h2:=srt_len r
  show (ins y (srt r)).length≤_
  simp only [List.length_cons]; omega
end ST
namespace L2
open PySem PySem.Spec PyProof.Rows
theorem AN {p:Nat→Addr→Prop} {n:Nat} (h:∀ i,i < n→∃ b,p i b):∃ f:Nat→Addr,∀ i,i < n→p i (f i):=by
 refine ⟨fun i=> if k:i < n then Classical.choose (h i k) else 0,fun i hi=> ?_⟩
 dsimp only
 rw [dif_pos hi]
 exact Classical.choose_spec (h i hi)
theorem tL:bootBuiltins "set"=some (.type "set"):=by decide+kernel
section
variable {X:Cx} {H0:Hp} {O0:List Addr} {ps:PSt} {e:Expr} {pts:List P2} {pos pos' p p':Pos}
set_option maxHeartbeats 2000000 in
theorem fD (hc:X.calm=true) (hu:X.A.units+10 < cLine) (hg:Gl X "sorted") (hm:X.mg "sorted"=none) (hgs:Gl X "set") (hms:X.mg "set"=none) (ha:Ev X H0 O0 ps e (lp pts)) (hl:pts.length < 64)
  (he:starEach [e] X.env=(false,eval e X.env)::starEach [] X.env:=by rfl):EvN X H0 O0 ps (.Call (.Name "sorted" p) [.Call (.Name "set" p') [e] [] pos'] [] pos) ((ST.srt pts).map pu):=by
 rintro pins s σ H Q I ⟨O,R,q⟩
 have hh:X.A.handled=none:=I.ok.hd hc
 refine wpAny_Call_Name_kw (dD I hg hm boot_sorted ?_)
 refine callWith_builtin1 (e:=.Call (.Name "set" p') [e] [] pos') (rest:=[]) ?_ rfl rfl
 show wpAny _ _ (spliced ((false,eval (.Call (.Name "set" p') [e] [] pos') X.env)::backTo pos (starEach [] X.env))) _ _ s
 refine Calls.spliced_cons ?_
 refine wpAny_Call_Name_kw (dD I hgs hms tL ?_)
 refine callWith_type1 (thn (eN ha ii he pos' pins s σ H (fun vs H1=> ∃ v,vs=[v]∧aI H H1∧Rp X.K (hid H1 O) v (lp pts)) I ⟨O,R,fun v H1 s1 r1=> ⟨v,rfl,s1,r1⟩⟩) fun us s1 hx=> ?_) he rfl
 obtain ⟨vs,H1,I1,rv,v,rfl,sm,rp⟩:=hx
 obtain ⟨u,rfl,ru⟩:=fX rv
 cases rp with
 | @lst a ws _ hq hwl hwi=>
  cases ru
  obtain ⟨its,rw',pl,hz⟩:=I1.list (SqL.of (ay _ _ hq))
  have hlp:ws.length=pts.length:=by rw [hwl,List.length_map]
  have hil:its.length=pts.length:=by rw [← rw'.length,hlp]
  have item:∀ i,i < pts.length→∃ b,its[i]?=some (.ref b)∧Rp X.K (hid H1 O) (.ref b) (pu (pts.getD i (0,0)))∧ST.TK X.prog X.w s1.heap [(pts.getD i (0,0)).1,(pts.getD i (0,0)).2] b:=fun i hi=> by
   have hw:ws[i]?=some ws[i]:=List.getElem?_eq_getElem (by omega)
   have hp:(pts.map pu)[i]?=some (pu (pts.getD i (0,0))):=by rw [List.getElem?_map,List.getElem?_eq_getElem hi]; simp [hi]
   have r:=hwi i _ _ hw hp
   obtain ⟨u',e1,e2⟩:=rw'.get hw
   generalize ws[i]=z at *
   cases r with
   | @tup b zs _ hs hsl hsi=>
    cases e2
    refine ⟨b,e1,Rp.tup hs hsl hsi,?_⟩
    obtain ⟨jts,rj,ht,_⟩:=I1.tuple (by exact ay.tup hs)
    have z0:zs.length=2:=hsl
    match zs,z0,hsi,rj with
    | [z1,z2],_,hsi,rj=>
     have q1:=hsi 0 z1 _ rfl rfl
     have q2:=hsi 1 z2 _ rfl rfl
     cases q1
     cases q2
     obtain ⟨u1,u2,rfl,r1,r2⟩:=jb rj
     obtain ⟨t1,rfl⟩:=r1
     obtain ⟨t2,rfl⟩:=r2
     obtain ⟨o,ho,hoc,n,hod⟩:=ht
     exact ⟨o,_,n,ho,hoc,hod,.cons (intKind_is _ _ _ _) (.cons (intKind_is _ _ _ _) .nil)⟩
  obtain ⟨ad',adE⟩:=AN item
  have hsz:its.toArray.size=pts.length:=by simp [hil]
  refine ST.call_set_pts (fun i=> ([(pts.getD i (0,0)).1,(pts.getD i (0,0)).2],ad' i)) hh (by show X.A.units+1+1+1 < cLine; omega) pl.isList (fun i z ez=> ?_) (fun i hi=> ?_) (by rw [hsz]; omega) fun h2 tk kb sp got keep=> ?_
  ·have hi:i < pts.length:=by have:=aP (show its[i]?=some z by simpa using ez); omega
   have:=(adE i hi).1
   rw [show its.toArray[i]?=its[i]? by simp,this] at ez
   cases ez; rfl
  ·exact (adE i (by rw [hsz] at hi; exact hi)).2.2
  ·rw [hsz] at got
   have I2:Inv X pins σ H1 { s1 with heap:=h2,toks:=tk }:=I1.kept (t':=tk) keep
   refine Calls.spliced_nil ?_
   have hkl:kb.length < 64:=by have:=got.len; omega
   refine ST.call_sorted_set (s:={ s1 with heap:=h2,toks:=tk }) hh sp hkl (fun z hz=> by obtain ⟨j,_,rfl⟩:=got.src z hz; rfl) fun h3 h4 tk2 pb ep pm so k1 k2 hD=> ?_
   have I3:Inv X pins σ H1 { s1 with heap:=h3,toks:=tk2 }:=I2.kept (t':=tk2) k1
   have src:∀ z∈pb,∃ j,j < pts.length∧z=(pts.getD j (0,0),ad' j):=fun z hz=> by
    obtain ⟨y,hy,rfl⟩:=List.mem_map.mp (pm.mem_iff.mp hz)
    obtain ⟨j,hj,rfl⟩:=got.src y hy
    exact ⟨j,hj,rfl⟩
   have epts:pb.map (·.1)=ST.srt pts:=by
    refine ST.asc_one so (ST.srt_asc pts) fun z=> ?_
    rw [ST.srt_mem]
    constructor
    ·intro hz
     obtain ⟨y,hy,rfl⟩:=List.mem_map.mp hz
     obtain ⟨j,hj,rfl⟩:=src y hy
     simp [hj]
    ·intro hz
     obtain ⟨j,hj⟩:=List.mem_iff_getElem?.mp hz
     have hjl:=aP hj
     have hk:=got.all j hjl
     obtain ⟨y,hy,ey⟩:=List.mem_map.mp hk
     have hin:((y.1.getD 0 0,y.1.getD 1 0),y.2)∈ST.ptsOf kb:=List.mem_map.mpr ⟨y,hy,rfl⟩
     have hin':=pm.mem_iff.mpr hin
     refine List.mem_map.mpr ⟨_,hin',?_⟩
     rw [ey]
     have:pts.getD j (0,0)=z:=by rw [List.getD_eq_getElem?_getD,hj]; rfl
     show ((pts.getD j (0,0)).1,(pts.getD j (0,0)).2)=z
     rw [this]
   have fr:H1 h3.objs.size=none:=I3.hok.fresh (Nat.le_refl _)
   refine ⟨.ref h3.objs.size,upd H1 h3.objs.size (.lst (pb.map fun z=> V.ref z.2)),?_,rfl,?_⟩
   ·refine I3.laid (t':=tk2) k2 (Nat.le_refl _) ⟨?_,(ST.refs pb),ep,?_,hD⟩
    ·rw [List.length_map,← List.length_map (f:=(·.1)),epts,sizeLine_eq]
     have:=ST.srt_len pts
     omega
    ·have all:∀ l:ST.PB,aN (l.map fun z=> V.ref z.2) (ST.refs l):=fun l=> by
      induction l with
      | nil=> exact .nil
      | cons z r ih=> exact .cons rfl ih
     exact all pb
   ·refine q _ _ _ (sm.trans (bn fr _)) (sm.free fr) aX ⟨?_,fun i z x e1 e2=> ?_⟩
    ·rw [List.length_map,← epts,List.length_map,List.length_map]
    ·rw [← epts,List.map_map,List.getElem?_map] at e2
     rw [List.getElem?_map] at e1
     cases hpi:pb[i]? with
     | none=> rw [hpi] at e1; cases e1
     | some y=>
      rw [hpi] at e1 e2
      cases e1
      cases e2
      obtain ⟨j,hj,rfl⟩:=src y (List.mem_of_getElem? hpi)
      exact (adE j hj).2.1.same (bX (bn fr _) fr)
end
end L2
namespace ST
open PySem
section
variable {prog:Program} {w:World} {A:Around} {s:Shared} {R:Result→Shared→Prop} {I:Addr} {fp wr:List Addr} {G:Array GenState→Array GenState→Prop} {n:Nat} {P:Nat→Value→Prop} {St:Nat→Shared→Prop} {T:String}
def uI (prog:Program) (w:World) (T:String):Prop:=∀ (A:Around) (E:Value→Shared→Prop) (s:Shared) (r:Addr) (Q:Bool→Shared→Prop),s.TypeIs (.ref r) T→(∀ b,Q b s)→wpAny (model prog w) A (Builtin.List.listLengthHint (.ref r)) Q E s
theorem rK (W:WalksS prog w A.in1 I fp wr G n P St) (hT:∀ i s,St i s→s.TypeIs (.ref I) T) (hl:(Value.type T==Value.type "list")=false) (ht:(Value.type T==Value.type "tuple")=false) (hint:uI prog w T) (S:Addr) (res:Value) (c₀:Nat) (hst:St 0 s) (hSf:S ∉ fp) (hI:I∈fp)
  (hS:s.heap.get? S=some { cls:=.type "list",data:=.seq #[] c₀ })
  (hR:∀ s' acc' c',Moved (S::wr) G s s'→s'.heap.get? S=some { cls:=.type "list",dict:=none,data:=.seq acc' c',slots:=#[] }→ItemsOf P acc' n→R (.ok (.ret res)) s') (hn:n≤sizeLine):
  wpAny (model prog w) A.in1 (Builtin.List.listExtendWith (.ref S) (.ref I) res)
   (fun fin s'=> match fin with | .done f=> R (.ok f) s' | .again c'=> c'.quiet=true∧codeAny (model prog w) A c' R s') (fun e s'=> R (.error e) s') s:=by
 have hSI:S≠I:=fun e=> hSf (e ▸ hI)
 unfold Builtin.List.listExtendWith
 refine wpAny_bind (wpAny_typeOf (hT 0 _ hst) ?_)
 have k1:Builtin.List.listSameRef (.ref S) (.ref I)=false:=by simp [Builtin.List.listSameRef,hSI]
 simp only [k1,hl,ht,Bool.or_false,Bool.false_eq_true,if_false]
 refine wpAny_bind (W.self 0 _ _ _ hst (wpAny_bind (wpAny_holding (hint _ _ _ _ _ (hT 0 _ hst) fun b=> ?_))))
 refine wpAny_ite_split (fun _=> ?_) (fun _=> ?_)
 ·refine wpAny_bind (wpAny_rule (wpAny_bind ?_))
  show wpAny _ A.in1 (updateSeq S (·.push .none) >>=fun _=> updateSeq S (·.pop)) _ _ _
  refine wpAny_bind (wpAny_updateSeq hS rfl ?_)
  have g2:=Heap.get?_update_self (Obj.mapSeq (·.push Value.none)) hS rfl
  refine wpAny_updateSeq (hz:=by seq_fits) g2 rfl ?_
  have g3:=Heap.get?_update_self (Obj.mapSeq (·.pop)) g2 rfl
  have oth:∀ b o,b≠S→s.heap.get? b=some o→((s.heap.update S (Obj.mapSeq (·.push Value.none))).update S (Obj.mapSeq (·.pop))).get? b=some o:=fun b o hb e=> (Heap.get?_update_other _ _ (Ne.symm hb)).trans ((Heap.get?_update_other _ _ (Ne.symm hb)).trans e)
  refine wpAny_pure ⟨plainId_quiet PySem.F.plain_extend_loop _,codeAny_extend_loopS W hn _ hSf _ n 0 _ _ _ rfl (Nat.zero_le _) (W.frame 0 s _ s.toks hst (Nat.le_refl _) fun b hb o e=> oth b o (fun z=> hSf (z ▸ hb)) e) g3 (ItemsOf.nil P) fun s' acc' c' m g' it=> ?_⟩
  exact hR s' acc' c' (Moved.trans W.gtrans ((Moved.refl W.grefl).then_heap (Nat.le_refl _) fun b o hb e=> oth b o (fun z=> hb (z ▸ List.mem_cons_self)) e) m) g' it
 ·exact wpAny_pure ⟨plainId_quiet PySem.F.plain_extend_loop _,codeAny_extend_loopS W hn _ hSf _ n 0 _ _ _ rfl (Nat.zero_le _) hst hS (ItemsOf.nil P) fun s' acc' c' m g' it=> hR s' acc' c' m g' it⟩
theorem wu (W:WalksS prog w A.in1 I fp wr G n P St) (hT:∀ i s,St i s→s.TypeIs (.ref I) T) (hl:(Value.type T==Value.type "list")=false) (ht:(Value.type T==Value.type "tuple")=false) (hint:uI prog w T) (S:Addr) (hst:St 0 s) (hSf:S ∉ fp) (hI:I∈fp)
  (hS:s.heap.get? S=some { cls:=.type "list",data:=.seq #[] })
  (hR:∀ s' acc' c',Moved (S::wr) G s s'→s'.heap.get? S=some { cls:=.type "list",dict:=none,data:=.seq acc' c',slots:=#[] }→ItemsOf P acc' n→R (.ok (.ret .none)) s') (hn:n≤sizeLine):
  wpAny (model prog w) A.in1 (Builtin.«list.__init__» ⟨[.ref S,.ref I],[]⟩)
   (fun fin s'=> match fin with | .done f=> R (.ok f) s' | .again c'=> c'.quiet=true∧codeAny (model prog w) A c' R s') (fun e s'=> R (.error e) s') s:=by
 show wpAny _ A.in1 (Builtin.List.listItems (.ref S) >>=fun old=> Builtin.List.listUpdate (.ref S) (fun _=> #[]) >>=fun _=> letGo old.toList.reverse >>=fun _=> Builtin.List.listExtendWith (.ref S) (.ref I) .none) _ _ s
 refine wpAny_bind ?_
 unfold Builtin.List.listItems
 refine wpAny_bind (wpAny_seqItems hS rfl (wpAny_pure ?_))
 show wpAny _ A.in1 (updateSeq S (fun _=> #[]) >>=fun _=> letGo (#[]:Array Value).toList.reverse >>=fun _=> Builtin.List.listExtendWith (.ref S) (.ref I) .none) _ _ s
 refine wpAny_bind (wpAny_updateSeq hS rfl ?_)
 have g2:=Heap.get?_update_self (Obj.mapSeq (fun _=> (#[]:Array Value))) hS rfl
 have oth:∀ b o,b≠S→s.heap.get? b=some o→(s.heap.update S (Obj.mapSeq (fun _=> (#[]:Array Value)))).get? b=some o:=fun b o hb e=> (Heap.get?_update_other _ _ (Ne.symm hb)).trans e
 refine wpAny_bind (wpAny_letGo ?_)
 refine rK W hT hl ht hint S .none _ (W.frame 0 s _ s.toks hst (Nat.le_refl _) fun b hb o e=> oth b o (fun z=> hSf (z ▸ hb)) e) hSf hI g2 (fun s' acc' c' m g' it=> ?_) hn
 exact hR s' acc' c' (Moved.trans W.gtrans ((Moved.refl W.grefl).then_heap (Nat.le_refl _) fun b o hb e=> oth b o (fun z=> hb (z ▸ List.mem_cons_self)) e) m) g' it
end
section
variable {prog:Program} {w:World} {A:Around} {E:Value→Shared→Prop} {s:Shared} {I:Addr} {fp wr:List Addr} {G:Array GenState→Array GenState→Prop} {n:Nat} {P:Nat→Value→Prop} {St:Nat→Shared→Prop} {T:String}
theorem call_list_it {Q:Value→Shared→Prop} (W:WalksS prog w A.in1.in1 I fp wr G n P St) (hT:∀ i s,St i s→s.TypeIs (.ref I) T) (hl:(Value.type T==Value.type "list")=false) (ht:(Value.type T==Value.type "tuple")=false) (hint:uI prog w T) (hst:St 0 s) (hfp:∀ b∈fp,b < s.heap.objs.size) (hI:I∈fp)
  (hQ:∀ s' acc' c',Moved (s.heap.objs.size::wr) G { s with heap:=s.heap.push { cls:=.type "list",data:=.seq #[] } } s'→
   s'.heap.get? s.heap.objs.size=some { cls:=.type "list",dict:=none,data:=.seq acc' c',slots:=#[] }→ItemsOf P acc' n→Q (.ref s.heap.objs.size) s') (hn:n≤sizeLine):
  wpAny (model prog w) A (call (.type "list") [.ref I]) Q E s:=by
 have hSf:s.heap.objs.size ∉ fp:=fun hm=> Nat.lt_irrefl _ (hfp _ hm)
 refine callType_codes (Q₁:=fun obj s₁=> obj=.ref s.heap.objs.size∧s₁={ s with heap:=s.heap.push { cls:=.type "list",data:=.seq #[] } }) PySem.F.called_list (PySem.F.typeCall_list_1 _) PySem.F.entry_list_init (code_list_new _ ⟨rfl,rfl⟩) fun obj s₁ h₁=> ?_
 obtain ⟨rfl,rfl⟩:=h₁
 have hS:(s.heap.push { cls:=.type "list",data:=.seq #[] }).get? s.heap.objs.size=some { cls:=.type "list",data:=.seq #[] }:=Heap.get?_push_size _ rfl
 refine ⟨⟨_,hS,rfl⟩,PySem.F.args_list_init_2 _ _,wu W hT hl ht hint _ (W.frame 0 s _ s.toks hst (Nat.le_refl _) fun b _ o e=> Heap.get?_push_of_some _ e) hSf hI hS (fun s' acc' c' m g' it=> ?_) hn⟩
 exact ⟨rfl,hQ s' acc' c' m g' it⟩
end
theorem wK:typeLookup (.type "list_reverseiterator") "__len__"=pure none:=by rw [typeLookup_type,builtinLookup_eq_fast]; kernel_rfl
theorem jU:Slot "list_reverseiterator" "__length_hint__" "list_reverseiterator.__length_hint__":=
 .of (owner:="list_reverseiterator") (n:="__length_hint__") (by rw [typeLookup_type,builtinLookup_eq_fast]; kernel_rfl) (by decide+kernel) (by decide+kernel) (by decide+kernel) (by first | exact .inl (by decide+kernel) | exact .inr (by decide+kernel)) (by rw [isSubtype_type]; kernel_rfl)
theorem hint_rev (prog:Program) (w:World):uI prog w "list_reverseiterator":=fun A E s r Q hT h=> by
 unfold Builtin.List.listLengthHint
 refine wpAny_bind (wpAny_specialOf hT wK ?_)
 show wpAny _ A (specialOf (Value.ref r) (Str.ofString "__length_hint__") >>=_) _ _ _
 refine wpAny_bind (wpAny_specialOf hT jU.lookup ?_)
 generalize hid:("list_reverseiterator.__length_hint__":String)=id0
 wp_delta
 rw [show splitId id0=some ("list_reverseiterator","__length_hint__") from by subst hid; decide+kernel]
 subst hid
 refine wpAny_bind (wpAny_isInstance (T:="list_reverseiterator") (b:=true) hT (by rw [isSubtype_type]; kernel_rfl) ?_)
 refine wpAny_ite_split (fun z=> absurd z (by decide)) (fun _=> ?_)
 refine wpAny_ite_split (fun _=> ?_) (fun z=> absurd (by decide+kernel) z)
 refine wpAny_ite_split (fun z=> absurd z (by decide+kernel)) (fun _=> wpAny_pure (h _))
end ST
namespace L2
open PySem PySem.Spec PyProof.Rows
theorem jW:bootBuiltins "reversed"=some (.type "reversed"):=by decide+kernel
theorem aN.rev:∀ {xs:List V} {us:List Value},aN xs us→aN xs.reverse us.reverse:=fun {xs us} r=> by
 induction r with
 | nil=> exact .nil
 | @cons x u xs us r1 r2 ih=>
  rw [List.reverse_cons,List.reverse_cons]
  have app:∀ {a:List V} {b:List Value},aN a b→aN (a++[x]) (b++[u]):=fun {a b} q=> by
   induction q with
   | nil=> exact .cons r1 .nil
   | cons q1 _ ih'=> exact .cons q1 ih'
  exact app ih
theorem Rps.rev {K:PySem.W.Frag} {H:Hp} {vs:List V} {xs:List U} (r:Rps K H vs xs):Rps K H vs.reverse xs.reverse:=⟨by simp [r.len],fun i v x h1 h2=> by
 have hi:i < vs.length:=by have:=aP h1; simpa using this
 have hx:i < xs.length:=by rw [← r.len]; exact hi
 rw [List.getElem?_reverse hi] at h1
 rw [List.getElem?_reverse hx,← r.len] at h2
 exact r.at_ _ v x h1 h2⟩
section
variable {X:Cx} {H0:Hp} {O0:List Addr} {ps:PSt} {e k:Expr} {x:U} {xs:List U} {pos pos' p p' p2:Pos}
theorem wf {K:PySem.W.Frag} {H:Hp} {v:V} (rp:Rp K H v x) (hx:x=.lst xs∨x=.scr xs):∃ a vs,v=.ref a∧SqL K H a vs∧Rps K H vs xs:=by
 rcases hx with rfl | rfl
 ·cases rp with
  | lst hq hl hh=> exact ⟨_,_,rfl,SqL.of hq,hl,hh⟩
 ·cases rp with
  | scr hq hl hh=> exact ⟨_,_,rfl,hq,hl,hh⟩
theorem zy (he:Ev X H0 O0 ps e x) (hk:Ev X H0 O0 ps k (.int (-1))) (hx:x=.lst xs∨x=.scr xs):EvN X H0 O0 ps (.Subscript e (.Slice none none (some k) p2) pos) xs.reverse:=by
 rintro pins s σ H Q I ⟨O,R,q⟩
 refine Subscript_ (thn (he pins s σ H (fun v H1=> aI H H1∧Rp X.K (hid H1 O) v x) I ⟨O,R,fun v H1 s1 r1=> ⟨s1,r1⟩⟩) fun u s1 ⟨v,H1,I1,r1,sm,rp⟩=> ?_)
 obtain ⟨a,vs,rfl,hq,rs⟩:=wf rp hx
 cases r1
 refine wpAny_Slice ?_
 rw [evalPart_none]
 refine wpAny_pure (wpAny_pure ?_)
 rw [evalPart_some]
 refine thn (hk pins s1 σ H1 (fun v H2=> aI H1 H2∧v=.int (-1)) I1 ⟨O,R.go sm,fun v H2 s2 r2=> ⟨s2,by cases r2; rfl⟩⟩) fun uk s2 hy=> ?_
 obtain ⟨vk,H2,I2,rk,s12,rfl⟩:=hy
 obtain ⟨t,rfl⟩:=rk
 have I3:Inv X pins σ H2 { s2 with heap:=s2.heap.push { cls:=.type "slice",data:=.fields #[.none,.none,.int (-1) t] } }:=I2.kept (t':=s2.toks) fun b ob z=> Heap.get?_push_of_some _ z
 obtain ⟨its,rv,pl,hz⟩:=I3.list (s12.seq (ay.seq hq))
 have hlen:=rv.length
 show wpAny (model X.prog X.w) X.A (subscriptTail e (.Slice none none (some k) p2) (.ref a) (.ref s2.heap.objs.size)) (EP X pins σ Q) X.xe { s2 with heap:=s2.heap.push { cls:=.type "slice",data:=.fields #[.none,.none,.int (-1) t] } }
 refine tail_any (ops:=[.ref a,.ref s2.heap.objs.size]) pl.isList.typeIs slot_list_getitem.lookup ?_ (by with_unfolding_all rfl)
 refine wpAny_getItem_list_slice pl.isList (Heap.IsSliceOf.new ..) .none .none (IsPart.int _ _) (by simp) ?_ (by rw [List.size_toArray]; omega)
 rw [PySem.W.krv_pick]
 generalize hn:(s2.heap.push { cls:=.type "slice",data:=.fields #[.none,.none,.int (-1) t] }).objs.size=D
 have fr:H2 D=none:=I3.hok.fresh (by rw [← hn]; exact Nat.le_refl _)
 refine ⟨.ref D,upd H2 D (.lst vs.reverse),I3.laid (t':=s2.toks) (o:=.lst vs.reverse) (fun b ob z=> Heap.get?_push_of_some _ z) (by rw [← hn]; exact Nat.le_refl _) ⟨by rw [List.length_reverse]; exact hz,its.reverse,0,rv.rev,?_⟩,rfl,?_⟩
 ·rw [← hn]; exact Heap.get?_push_size _ rfl
 ·refine q D _ _ ((sm.trans s12).trans (bn fr _)) ((sm.trans s12).free fr) aX ?_
  exact (rs.rev.same (bD s12)).same (bX (bn fr _) fr)
theorem su (hc:X.calm=true) (hg:Gl X "list") (hm:X.mg "list"=none) (hgr:Gl X "reversed") (hmr:X.mg "reversed"=none) (ha:Ev X H0 O0 ps e (.lst xs))
  (he:starEach [e] X.env=(false,eval e X.env)::starEach [] X.env:=by rfl):EvN X H0 O0 ps (.Call (.Name "list" p) [.Call (.Name "reversed" p') [e] [] pos'] [] pos) xs.reverse:=by
 rintro pins s σ H Q I ⟨O,R,q⟩
 have hh:X.A.handled=none:=I.ok.hd hc
 refine wpAny_Call_Name_kw (dD I hg hm boot_list ?_)
 refine callWith_type1 (e:=.Call (.Name "reversed" p') [e] [] pos') (rest:=[]) ?_ bV rfl
 rw [bV]
 show wpAny _ _ (spliced ((false,eval (.Call (.Name "reversed" p') [e] [] pos') X.env)::backTo pos (starEach [] X.env))) _ _ s
 refine Calls.spliced_cons ?_
 refine wpAny_Call_Name_kw (dD I hgr hmr jW ?_)
 refine callWith_type1 (thn (eN ha ii he pos' pins s σ H (fun vs H1=> ∃ v,vs=[v]∧aI H H1∧Rp X.K (hid H1 O) v (.lst xs)) I ⟨O,R,fun v H1 s1 r1=> ⟨v,rfl,s1,r1⟩⟩) fun us s1 hx=> ?_) he rfl
 obtain ⟨vs,H1,I1,rv,v,rfl,sm,rp⟩:=hx
 obtain ⟨u,rfl,ru⟩:=fX rv
 obtain ⟨a,ws,rfl,hq,rs⟩:=wf rp (.inl rfl)
 cases ru
 obtain ⟨its,rw',pl,hz⟩:=I1.list (ay.seq hq)
 have hlen:=rw'.length
 have hsz:its.toArray.size=its.length:=by simp
 refine call_reversed_list pl.isList ?_
 have I2:Inv X pins σ H1 { s1 with heap:=s1.heap.push (revObj a ((its.toArray.size:Int) - 1)) }:=I1.kept (t':=s1.toks) fun b ob z=> Heap.get?_push_of_some _ z
 refine Calls.spliced_nil ?_
 have hal:a < s1.heap.objs.size:=by obtain ⟨o,ho,_⟩:=pl.isList; exact Heap.lt_size ho
 have W:=(Walks.listRev (prog:=X.prog) (w:=X.w) (A:=X.A.in1.in1) hh s1.heap.objs.size a (Nat.ne_of_lt hal) its.toArray).toS
 refine ST.call_list_it (T:="list_reverseiterator") (s:={ s1 with heap:=s1.heap.push (revObj a ((its.toArray.size:Int) - 1)) }) W (fun i s' st=> st.2.1.typeIs) (by decide) (by decide) (ST.hint_rev _ _) ⟨Nat.zero_le _,⟨_,Heap.get?_push_size _ rfl,rfl,by simp [revObj]⟩,pl.isList.push _⟩ (fun b hb=> ?_) (by simp) (fun s3 acc c m hD hit=> ?_) (by rw [hsz]; omega)
 ·show b < (s1.heap.push _).objs.size
  rw [Heap.size_push]
  simp at hb
  rcases hb with z | z
  ·rw [z]; exact Nat.lt_succ_self _
  ·rw [z]; exact Nat.lt_succ_of_lt hal
 ·obtain ⟨h3,g3,d3,tk3,os3⟩:=s3
  obtain rfl:g3=s1.gens:=m.gens
  obtain rfl:d3=s1.drawn:=m.drawn
  obtain rfl:os3=s1.os:=m.os
  have szI:(s1.heap.push (revObj a ((its.toArray.size:Int) - 1))).objs.size=s1.heap.objs.size+1:=Heap.size_push ..
  have keep:∀ b ob,s1.heap.get? b=some ob→h3.get? b=some ob:=fun b ob z=> by
   have hb:=Heap.lt_size z
   refine m.heap b ob (fun y=> ?_) (Heap.get?_push_of_some _ (Heap.get?_push_of_some _ z))
   rcases List.mem_cons.mp y with y | y
   ·rw [y] at hb
    have hb':s1.heap.objs.size+1 < s1.heap.objs.size:=by rw [← szI]; exact hb
    exact absurd hb' (by omega)
   ·rw [List.mem_singleton.mp y] at hb; exact Nat.lt_irrefl _ hb
  have hacc:acc.toList=its.reverse:=by
   apply List.ext_getElem?
   intro i
   rcases Nat.lt_or_ge i acc.size with z | z
   ·have y:=hit.2 i _ (Array.getElem?_eq_getElem z)
    have hi:i < its.length:=by rw [hit.1,hsz] at z; exact z
    rw [Array.getElem?_toList,Array.getElem?_eq_getElem z,List.getElem?_reverse hi,← y,hsz]
    simp
   ·have hi:its.length≤i:=by rw [hit.1,hsz] at z; exact z
    rw [List.getElem?_eq_none (by simpa using z),List.getElem?_eq_none (by simpa using hi)]
  generalize hn:(s1.heap.push (revObj a ((its.toArray.size:Int) - 1))).objs.size=D at *
  have fr:H1 D=none:=I2.hok.fresh (by rw [← hn]; exact Nat.le_refl _)
  have I3:Inv X pins σ (upd H1 D (.lst ws.reverse)) { s1 with heap:=h3,toks:=tk3 }:=I1.laid (t':=tk3) (o:=.lst ws.reverse) keep (by rw [szI]; exact Nat.le_succ _) ⟨by rw [List.length_reverse]; exact hz,its.reverse,c,rw'.rev,by rw [← hacc,Array.toArray_toList]; exact hD⟩
  refine ⟨.ref D,_,I3,rfl,q D _ _ (sm.trans (bn fr _)) (sm.free fr) aX ?_⟩
  exact rs.rev.same (bX (bn fr _) fr)
end
end L2
namespace L2
open PySem PySem.Spec PyProof.Rows
theorem SubP.trans:∀ {p q r:PSt},SubP p q→SubP q r→SubP p r
 | [],[],[],_,_=> trivial
 | none::p,none::q,_::r,h1,h2=> SubP.trans (p:=p) (q:=q) h1 h2
 | none::p,some _::q,_::r,h1,h2=> SubP.trans (p:=p) (q:=q) h1 h2.2
 | some _::p,some _::q,_::r,h1,h2=> ⟨h2.1.trans h1.1,SubP.trans (p:=p) (q:=q) h1.2 h2.2⟩
 | some _::p,none::q,_::r,h1,h2=> by cases h1.1
 | [],_::_,_,h1,_=> h1.elim
 | none::_,[],_,h1,_=> h1.elim
 | some _::_,[],_,h1,_=> h1.elim
 | [],[],_::_,_,h2=> h2.elim
 | _::_,none::_,[],_,h2=> h2.elim
 | _::_,some _::_,[],_,h2=> h2.elim
section
variable {X:Cx} {H0:Hp} {O0:List Addr} {ps:PSt} {xs:List U} {us:List U} {es:List Expr} {x:Str} {pc p' pos:Pos}
theorem fj (n:Nat) (h:ps[n]?=some (some (.own xs))) (hg:Gl X "len") (hm:X.mg "len"=none) (hN:X.N[n]?=some x:=by rfl) (hv:Vis X.env.scope x:=by first | exact Or.inl rfl | exact Or.inr (Or.inl rfl) | exact Or.inr (Or.inr rfl)) (hd:(x==("__debug__":Str))=false:=by decide)
  (hcd:(x==("__classdict__":Str))=false:=by decide) (hpl:(backTo pos (starEach [] X.env)).any (·.1)=false:=by rfl):Ev X H0 O0 ps (.Call (.Name "len" pc) [.Name x p'] [] pos) (.int xs.length):=y8 n h hg hm hN hv hd hcd ag hpl
end
end L2
namespace ST
open PySem
abbrev iC (h:Heap) (z TI TO T:Addr) (b:Bool):Prop:=h.get? z=some { cls:=.type "zip",dict:=none,data:=.fields #[rawInt T,.bool b,.bool false,.ref TI,.ref TO],slots:=#[] }
section
variable {prog:Program} {w:World} {A:Around} {E:Value→Shared→Prop} {s:Shared}
theorem zX {T:Addr} {o:Obj} {Q:Option Obj→Shared→Prop} (h:s.heap.get? T=some o) (q:Q (some o) s):wpAny (model prog w) A (loadIfAlive T) Q E s:=fun Γ p hΓ=> by
 unfold loadIfAlive
 rw [Sem.wp_loadIfAlive,h]
 simpa using q
theorem ip {z TI TO T:Addr} {b:Bool} {oT:Obj} {Q:Bool→Shared→Prop} (hz:iC s.heap z TI TO T b) (hT:s.heap.get? T=some oT) (h:∀ h',iC h' z TI TO T true→Heap.SameBut z s.heap h'→Q false { s with heap:=h' }):
  wpAny (model prog w) A (Builtin.SmallTypes.ownedTupleIsFree (.ref z)) Q E s:=by
 unfold Builtin.SmallTypes.ownedTupleIsFree
 refine wpAny_bind (wpAny_field hz rfl (x:=rawInt T) rfl ?_)
 dsimp only [rawInt]
 refine wpAny_bind (zX (T:=(T:Int).toNat) (o:=oT) (by rw [Int.toNat_natCast]; exact hT) ?_)
 rw [if_neg (by simp)]
 refine wpAny_bind (wpAny_field hz rfl (x:=.bool b) rfl ?_)
 cases b with
 | true=>
  rw [if_neg (by decide)]
  exact wpAny_pure (h s.heap hz (Heap.SameBut.refl _ _))
 | false=>
  rw [if_pos (by decide)]
  refine wpAny_bind (wpAny_setField_rec hz (by simp) fun h₁ hz₁ hs₁=> wpAny_pure (h h₁ hz₁ hs₁))
theorem ve {z TI TO i1 i2 l1 l2 T:Addr} {b:Bool} {oT:Obj} {k1 k2:Nat} {xs ys:Array Value} {x y:Value} {Q:Value→Shared→Prop} (D:ZipApart z TI TO i1 i2 l1 l2)
  (hz:iC s.heap z TI TO T b) (hT:s.heap.get? T=some oT) (hTI:IsPair s.heap TI (.ref i1) (.ref i2))
  (h1:s.heap.IsListIter i1 l1 k1) (h2:s.heap.IsListIter i2 l2 k2) (hl1:s.heap.IsList l1 xs) (hl2:s.heap.IsList l2 ys) (hx:xs[k1]?=some x) (hy:ys[k2]?=some y)
  (hQ:∀ h',iC h' z TI TO T true→h'.IsListIter i1 l1 (k1+1)→h'.IsListIter i2 l2 (k2+1)→IsPair h' s.heap.objs.size x y→(∀ c o,c≠z→c≠i1→c≠i2→s.heap.get? c=some o→h'.get? c=some o)→Q (.ref s.heap.objs.size) { s with heap:=h' }):
  wpAny (model prog w) A (Builtin.«zip.__next__» ⟨[.ref z],[]⟩) (fun fin s'=> ∃ v,fin=.done (.ret v)∧Q v s') E s:=by
 show wpAny _ _ (field (.ref z) 2 >>=_) _ _ _
 refine wpAny_bind (wpAny_field hz rfl (x:=.bool false) rfl ?_)
 show wpAny _ _ (field (.ref z) 3 >>=_) _ _ _
 refine wpAny_bind (wpAny_field hz rfl (x:=.ref TI) rfl (wpAny_bind (wpAny_seqItems hTI rfl ?_)))
 show wpAny _ _ (Builtin.SmallTypes.ownedTupleIsFree (.ref z) >>=_) _ _ _
 refine wpAny_bind (ip hz hT fun ha za sa=> ?_)
 simp only [Bool.false_eq_true,if_false]
 refine wpAny_bind ?_
 rw [← Array.forIn_toList]
 show wpAny _ _ (forIn [Value.ref i1,Value.ref i2] _ _) _ _ _
 simp only [List.forIn_cons,List.forIn_nil]
 refine wpAny_bind (wpAny_bind (wpAny_holding ?_))
 show wpAny _ _ (Builtin.SmallTypes.nextOf (.ref i1) >>=_) _ _ _
 refine wpAny_bind (wpAny_nextOf_list_item (h1.extBut sa.extBut D.i1z) (hl1.extBut sa.extBut D.l1z) hx fun hb b1 sb=> wpAny_pure ?_)
 dsimp only
 refine wpAny_pure ?_
 dsimp only
 refine wpAny_bind (wpAny_bind (wpAny_holding ?_))
 show wpAny _ _ (Builtin.SmallTypes.nextOf (.ref i2) >>=_) _ _ _
 refine wpAny_bind (wpAny_nextOf_list_item ((h2.extBut sa.extBut D.i2z).extBut sb.extBut D.i12.symm) ((hl2.extBut sa.extBut D.l2z).extBut sb.extBut D.l2i1) hy fun hc c2 sc=> wpAny_pure ?_)
 dsimp only
 refine wpAny_pure (wpAny_pure ?_)
 dsimp only
 refine wpAny_bind (wpAny_newTuple ?_ (by show 2≤sizeLine; rw [sizeLine_eq]; omega))
 have hsz:hc.objs.size=s.heap.objs.size:=by rw [sc.1,sb.1,sa.1]
 have zc:iC hc z TI TO T true:=sc.extBut _ _ D.i2z.symm (sb.extBut _ _ D.i1z.symm za)
 refine wpAny_pure ⟨_,rfl,?_⟩
 show Q (.ref hc.objs.size) _
 rw [hsz]
 refine hQ _ (Heap.get?_push_of_some _ zc) (((b1.extBut sc.extBut D.i12)).at fun o e=> Heap.get?_push_of_some _ e) (c2.at fun o e=> Heap.get?_push_of_some _ e) ?_ fun c o n1 n2 n3 e=> Heap.get?_push_of_some _ (sc.extBut _ _ n3 (sb.extBut _ _ n2 (sa.extBut _ _ n1 e)))
 rw [← hsz]
 exact Heap.get?_push_size _ rfl
theorem lM {z TI TO i1 i2 l1 l2 T:Addr} {b:Bool} {oT:Obj} {k1:Nat} {xs:Array Value} {Q:PySem.Fin→Shared→Prop} (hh:A.handled=none) (D:ZipApart z TI TO i1 i2 l1 l2)
  (hz:iC s.heap z TI TO T b) (hT:s.heap.get? T=some oT) (hTI:IsPair s.heap TI (.ref i1) (.ref i2))
  (h1:s.heap.IsListIter i1 l1 k1) (hl1:s.heap.IsList l1 xs) (hx:xs[k1]?=none)
  (hE:∀ h' e,(∀ c o,c≠z→c≠i1→c≠i2→s.heap.get? c=some o→h'.get? c=some o)→(∃ o,h'.get? e=some o∧o.cls=.type "StopIteration")→E (.ref e) { s with heap:=h' }):
  wpAny (model prog w) A (Builtin.«zip.__next__» ⟨[.ref z],[]⟩) Q E s:=by
 show wpAny _ _ (field (.ref z) 2 >>=_) _ _ _
 refine wpAny_bind (wpAny_field hz rfl (x:=.bool false) rfl ?_)
 show wpAny _ _ (field (.ref z) 3 >>=_) _ _ _
 refine wpAny_bind (wpAny_field hz rfl (x:=.ref TI) rfl (wpAny_bind (wpAny_seqItems hTI rfl ?_)))
 show wpAny _ _ (Builtin.SmallTypes.ownedTupleIsFree (.ref z) >>=_) _ _ _
 refine wpAny_bind (ip hz hT fun ha za sa=> ?_)
 simp only [Bool.false_eq_true,if_false]
 refine wpAny_bind ?_
 rw [← Array.forIn_toList]
 show wpAny _ _ (forIn [Value.ref i1,Value.ref i2] _ _) _ _ _
 simp only [List.forIn_cons,List.forIn_nil]
 refine wpAny_bind (wpAny_bind (wpAny_holding ?_))
 show wpAny _ _ (Builtin.SmallTypes.nextOf (.ref i1) >>=_) _ _ _
 refine wpAny_bind (wpAny_nextOf_list_end hh (h1.extBut sa.extBut D.i1z) (hl1.extBut sa.extBut D.l1z) hx fun hb e sb he=> ?_)
 exact hE hb e (fun c o n1 n2 n3 q=> sb _ _ n2 (sa.extBut _ _ n1 q)) he
theorem qA {z TI TO i1 i2 l1 l2 T:Addr} {b:Bool} {oT:Obj} {k1 k2:Nat} {xs ys:Array Value} {x y:Value} {Q:Option Value→Shared→Prop} (D:ZipApart z TI TO i1 i2 l1 l2)
  (hz:iC s.heap z TI TO T b) (hT:s.heap.get? T=some oT) (hTI:IsPair s.heap TI (.ref i1) (.ref i2))
  (h1:s.heap.IsListIter i1 l1 k1) (h2:s.heap.IsListIter i2 l2 k2) (hl1:s.heap.IsList l1 xs) (hl2:s.heap.IsList l2 ys) (hx:xs[k1]?=some x) (hy:ys[k2]?=some y)
  (hQ:∀ h',iC h' z TI TO T true→h'.IsListIter i1 l1 (k1+1)→h'.IsListIter i2 l2 (k2+1)→IsPair h' s.heap.objs.size x y→(∀ c o,c≠z→c≠i1→c≠i2→s.heap.get? c=some o→h'.get? c=some o)→Q (some (.ref s.heap.objs.size)) { s with heap:=h' }):
  wpAny (model prog w) A (pyNext (.ref z)) Q E s:=by
 have hty:s.TypeIs (.ref z) "zip":=⟨_,hz,rfl⟩
 unfold pyNext
 exact wpAny_bind (wpAny_attempt (wpAny_callSpecial?_slot (name:=Str.ofString "__next__") hty PySem.F.slot_zip_next
  (wpAny_call_entry PySem.F.slot_zip_next hty PySem.F.entry_zip_next (ve D hz hT hTI h1 h2 hl1 hl2 hx hy fun h' a1 a2 a3 a4 a5=> wpAny_pure (hQ h' a1 a2 a3 a4 a5)) (PySem.F.args_zip_next_1 _))))
theorem jY {z TI TO i1 i2 l1 l2 T:Addr} {b:Bool} {oT:Obj} {k1:Nat} {xs:Array Value} {Q:Option Value→Shared→Prop} (hh:A.handled=none) (D:ZipApart z TI TO i1 i2 l1 l2)
  (hz:iC s.heap z TI TO T b) (hT:s.heap.get? T=some oT) (hTI:IsPair s.heap TI (.ref i1) (.ref i2)) (h1:s.heap.IsListIter i1 l1 k1) (hl1:s.heap.IsList l1 xs) (hx:xs[k1]?=none)
  (hQ:∀ h',(∀ c o,c≠z→c≠i1→c≠i2→s.heap.get? c=some o→h'.get? c=some o)→Q none { s with heap:=h' }):wpAny (model prog w) A (pyNext (.ref z)) Q E s:=by
 have hty:s.TypeIs (.ref z) "zip":=⟨_,hz,rfl⟩
 unfold pyNext
 refine wpAny_bind (wpAny_attempt (wpAny_callSpecial?_slot (name:=Str.ofString "__next__") hty PySem.F.slot_zip_next
  (wpAny_call_entry PySem.F.slot_zip_next hty PySem.F.entry_zip_next (lM hh D hz hT hTI h1 hl1 hx fun h' e hk he=> ?_) (PySem.F.args_zip_next_1 _))))
 obtain ⟨o,ho,hc⟩:=he
 refine wpAny_bind (wpAny_isInstance (T:="StopIteration") (b:=true) ⟨o,ho,hc⟩ isSubtype_stop ?_)
 exact wpAny_pure (hQ h' hk)
end
structure ZL (xs ys:Array Value) (z TI TO i1 i2 l1 l2 S:Addr) (h:Heap) (i:Nat) (ad:List Addr) (c:Nat):Prop where
 ti:IsPair h TI (.ref i1) (.ref i2)
 a1:h.IsListIter i1 l1 i
 a2:h.IsListIter i2 l2 i
 b1:h.IsList l1 xs
 b2:h.IsList l2 ys
 acc:h.get? S=some { cls:=.type "list",dict:=none,data:=.seq (ad.map Value.ref).toArray c,slots:=#[] }
 len:ad.length=i
 tup:∀ (j:Nat) (a:Addr),ad[j]?=some a→∃ x y,xs[j]?=some x∧ys[j]?=some y∧IsPair h a x y
 far:∀ a∈ad,a≠z∧a≠TO∧a≠i1∧a≠i2∧a≠S
 to:∃ o,h.get? TO=some o
 nd:ad.Nodup
 zz:(i=0∧IsZip h z TI TO .none∧∃ a b,IsPair h TO a b)∨(∃ b T,ad[0]?=some T∧iC h z TI TO T b)
section
variable {prog:Program} {w:World} {A:Around} {R:Result→Shared→Prop}
theorem ZL.put {xs ys:Array Value} {z TI TO i1 i2 l1 l2 S:Addr} {h h':Heap} {i:Nat} {ad:List Addr} {c:Nat} {a:Addr} {x y:Value} (Z:ZL xs ys z TI TO i1 i2 l1 l2 S h i ad c) (D:ZipApart z TI TO i1 i2 l1 l2)
  (hS:S≠z∧S≠TI∧S≠TO∧S≠i1∧S≠i2∧S≠l1∧S≠l2) (ha:a=h.objs.size) (hzlt:z < h.objs.size) (nto:∃ o,h'.get? TO=some o) (hx:xs[i]?=some x) (hy:ys[i]?=some y)
  (n1:h'.IsListIter i1 l1 (i+1)) (n2:h'.IsListIter i2 l2 (i+1)) (np:IsPair h' a x y) (nk:∀ c o,c≠z→c≠TO→c≠i1→c≠i2→h.get? c=some o→h'.get? c=some o)
  (nz:∃ b T,(ad++[a])[0]?=some T∧iC h' z TI TO T b):
  ∃ c',ZL xs ys z TI TO i1 i2 l1 l2 S (h'.update S (Obj.mapSeq (·.push (.ref a)))) (i+1) (ad++[a]) c':=by
 obtain ⟨s1,s2,s3,s4,s5,s6,s7⟩:=hS
 have gS:h'.get? S=some { cls:=.type "list",dict:=none,data:=.seq (ad.map Value.ref).toArray c,slots:=#[] }:=nk S _ s1 s3 s4 s5 Z.acc
 have oth:∀ b o,b≠S→h'.get? b=some o→(h'.update S (Obj.mapSeq (·.push (.ref a)))).get? b=some o:=fun b o hb e=> (Heap.get?_update_other _ _ (Ne.symm hb)).trans e
 have hlt:∀ b o,h.get? b=some o→b≠a:=fun b o e z=> by rw [z,ha] at e; exact Nat.lt_irrefl _ (Heap.lt_size e)
 have aS:a≠S:=fun e=> hlt S _ Z.acc e.symm
 have ai1:a≠i1:=by obtain ⟨o,e,_⟩:=Z.a1; exact fun q=> hlt i1 o e q.symm
 have ai2:a≠i2:=by obtain ⟨o,e,_⟩:=Z.a2; exact fun q=> hlt i2 o e q.symm
 have az:a≠z:=by rw [ha]; exact Nat.ne_of_gt hzlt
 have aTO:a≠TO:=by obtain ⟨o,e⟩:=Z.to; exact fun q=> hlt TO o e q.symm
 obtain ⟨c',gS'⟩:∃ c',(h'.update S (Obj.mapSeq (·.push (.ref a)))).get? S=some { cls:=.type "list",dict:=none,data:=.seq ((ad.map Value.ref).toArray.push (.ref a)) c',slots:=#[] }:=⟨_,PyProof.Rows.get?_update_seq gS (·.push (.ref a))⟩
 refine ⟨c',⟨oth _ _ s2.symm (nk TI _ D.TIz D.TITO D.TIi1 D.TIi2 Z.ti),n1.at fun o e=> oth _ o s4.symm e,n2.at fun o e=> oth _ o s5.symm e,?_,?_,?_,by rw [List.length_append,Z.len]; rfl,?_,?_,?_,?_,?_⟩⟩
 ·exact (Z.b1.at fun o e=> nk l1 o D.l1z D.l1TO D.l1i1 D.l1i2 e).at fun o e=> oth _ o s6.symm e
 ·exact (Z.b2.at fun o e=> nk l2 o D.l2z D.l2TO D.l2i1 D.l2i2 e).at fun o e=> oth _ o s7.symm e
 ·rw [gS']; simp
 ·intro j b hj
  rcases Nat.lt_or_ge j ad.length with q | q
  ·rw [List.getElem?_append_left q] at hj
   obtain ⟨x',y',e1,e2,e3⟩:=Z.tup j b hj
   obtain ⟨f1,f2,f3,f4,f5⟩:=Z.far b (List.mem_of_getElem? hj)
   exact ⟨x',y',e1,e2,oth _ _ f5 (nk b _ f1 f2 f3 f4 e3)⟩
  ·rw [List.getElem?_append_right q] at hj
   have hj0:j=i:=by
    have:=(List.getElem?_eq_some_iff.mp hj).1
    simp at this; rw [Z.len] at *; omega
   subst hj0
   rw [Z.len,Nat.sub_self] at hj
   cases hj
   exact ⟨x,y,hx,hy,oth _ _ aS np⟩
 ·intro b hb
  rcases List.mem_append.mp hb with q | q
  ·exact Z.far b q
  ·rw [List.mem_singleton.mp q]; exact ⟨az,aTO,ai1,ai2,aS⟩
 ·obtain ⟨o,e⟩:=nto; exact ⟨o,oth _ _ s3.symm e⟩
 ·rw [List.nodup_append]
  refine ⟨Z.nd,by simp,fun p hp q hq=> ?_⟩
  rw [List.mem_singleton.mp hq]
  obtain ⟨j,hj⟩:=List.mem_iff_getElem?.mp hp
  obtain ⟨_,_,_,_,e⟩:=Z.tup j p hj
  exact hlt p _ e
 ·obtain ⟨b,T,e1,e2⟩:=nz
  exact .inr ⟨b,T,e1,oth _ _ s1.symm e2⟩
end
end ST
namespace ST
open PySem
section
variable {prog:Program} {w:World} {A:Around} {R:Result→Shared→Prop}
structure ZF (xs ys:Array Value) (S:Addr) (h:Heap) (ad:List Addr) (c:Nat):Prop where
 acc:h.get? S=some { cls:=.type "list",dict:=none,data:=.seq (ad.map Value.ref).toArray c,slots:=#[] }
 len:ad.length=xs.size
 tup:∀ (j:Nat) (a:Addr),ad[j]?=some a→∃ x y,xs[j]?=some x∧ys[j]?=some y∧IsPair h a x y
 ne:∀ a∈ad,a≠S
 nd:ad.Nodup
set_option maxHeartbeats 1000000 in
theorem lW (hh:A.in1.handled=none) {xs ys:Array Value} {z TI TO i1 i2 l1 l2 S:Addr} (D:ZipApart z TI TO i1 i2 l1 l2) (hS:S≠z∧S≠TI∧S≠TO∧S≠i1∧S≠i2∧S≠l1∧S≠l2) (hxy:ys.size=xs.size) (hn:xs.size≤1000) (res:Value):
  ∀ (k i:Nat) (s:Shared) (ad:List Addr) (c:Nat),xs.size - i=k→i≤xs.size→ZL xs ys z TI TO i1 i2 l1 l2 S s.heap i ad c→
   (∀ h' ad' c',ZF xs ys S h' ad' c'→(∀ b o,b≠z→b≠TO→b≠i1→b≠i2→b≠S→s.heap.get? b=some o→h'.get? b=some o)→(∀ a∈ad',a∈ad∨s.heap.get? a=none)→R (.ok (.ret res)) { s with heap:=h' })→
   codeAny (model prog w) A (.builtin "list.extend.loop" ⟨[.ref S,.ref z,res],[]⟩) R s:=by
 intro k
 induction k with
 | zero=>
  intro i s ad c hk hi Z hR
  obtain rfl:i=xs.size:=by omega
  refine codeAny_builtin PySem.F.entry_extend_loop ?_
  rw [Around.under_plainId PySem.F.plain_extend_loop _]
  show wpAny _ A.in1 (pyNext (.ref z) >>=_) _ _ s
  have fin:∀ h',(∀ b o,b≠z→b≠TO→b≠i1→b≠i2→s.heap.get? b=some o→h'.get? b=some o)→R (.ok (.ret res)) { s with heap:=h' }:=fun h' kp=>
   hR h' ad c ⟨kp S _ hS.1 hS.2.2.1 hS.2.2.2.1 hS.2.2.2.2.1 Z.acc,Z.len,fun j a e=> by
    obtain ⟨x,y,e1,e2,e3⟩:=Z.tup j a e
    obtain ⟨f1,f2,f3,f4,f5⟩:=Z.far a (List.mem_of_getElem? e)
    exact ⟨x,y,e1,e2,kp a _ f1 f2 f3 f4 e3⟩,fun a ha=> (Z.far a ha).2.2.2.2,Z.nd⟩ (fun b o n1 n2 n3 n4 _ e=> kp b o n1 n2 n3 n4 e) fun a ha=> .inl ha
  rcases Z.zz with ⟨h0,hz,a,b,hTO⟩ | ⟨b,T,hT,hz⟩
  ·refine wpAny_bind (wpAny_pyNext_zip_end hh D hz Z.ti hTO Z.a1 Z.a2 Z.b1 Z.b2 (.inl (by simp)) fun h' kp=> ?_)
   exact wpAny_pure (fin h' kp)
  ·obtain ⟨x,y,_,_,hp⟩:=Z.tup 0 T hT
   refine wpAny_bind (jY hh D hz hp Z.ti Z.a1 Z.b1 (by simp) fun h' kp=> ?_)
   exact wpAny_pure (fin h' fun b o n1 _ n3 n4 e=> kp b o n1 n3 n4 e)
 | succ k ih=>
  intro i s ad c hk hi Z hR
  have hlt:i < xs.size:=by omega
  have hx:xs[i]?=some xs[i]:=Array.getElem?_eq_getElem hlt
  have hy:ys[i]?=some (ys[i]'(by omega)):=Array.getElem?_eq_getElem (by omega)
  refine codeAny_builtin PySem.F.entry_extend_loop ?_
  rw [Around.under_plainId PySem.F.plain_extend_loop _]
  show wpAny _ A.in1 (pyNext (.ref z) >>=_) _ _ s
  have go:∀ h',(∃ b T,(ad++[s.heap.objs.size])[0]?=some T∧iC h' z TI TO T b)→(∃ o,h'.get? TO=some o)→h'.IsListIter i1 l1 (i+1)→h'.IsListIter i2 l2 (i+1)→IsPair h' s.heap.objs.size xs[i] (ys[i]'(by omega))→
    (∀ b o,b≠z→b≠TO→b≠i1→b≠i2→s.heap.get? b=some o→h'.get? b=some o)→
    wpAny (model prog w) A.in1 (updateSeq S (·.push (.ref s.heap.objs.size)) >>=fun _=> again (.builtin "list.extend.loop" ⟨[.ref S,.ref z,res],[]⟩))
     (fun fin s'=> match fin with | .done f=> R (.ok f) s' | .again c'=> c'.quiet=true∧codeAny (model prog w) A c' R s') (fun e s'=> R (.error e) s') { s with heap:=h' }:=fun h' nz nto n1 n2 np nk=> by
   have gS:h'.get? S=some { cls:=.type "list",dict:=none,data:=.seq (ad.map Value.ref).toArray c,slots:=#[] }:=nk S _ hS.1 hS.2.2.1 hS.2.2.2.1 hS.2.2.2.2.1 Z.acc
   have hzlt:z < s.heap.objs.size:=by
    rcases Z.zz with ⟨_,hz,_⟩ | ⟨_,_,_,hz⟩ <;> exact Heap.lt_size hz
   obtain ⟨c',Z'⟩:=Z.put D hS rfl hzlt nto hx hy n1 n2 np nk nz
   have hal:((ad.map Value.ref).toArray).size=i:=by simp [Z.len]
   refine wpAny_bind (wpAny_updateSeq (s:={ s with heap:=h' }) gS rfl (wpAny_pure ⟨plainId_quiet PySem.F.plain_extend_loop _,ih (i+1) _ (ad++[s.heap.objs.size]) c' (by omega) hlt Z' fun h2 ad2 c2 F kp fr=> ?_⟩) (by rw [hal,sizeLine_eq]; omega) (by rw [Array.size_push,hal,sizeLine_eq]; omega))
   refine hR h2 ad2 c2 F (fun b o m1 m2 m3 m4 m5 e=> kp b o m1 m2 m3 m4 m5 ((Heap.get?_update_other _ _ (Ne.symm m5)).trans (nk b o m1 m2 m3 m4 e))) fun a ha=> ?_
   rcases fr a ha with q | q
   ·rcases List.mem_append.mp q with q | q
    ·exact .inl q
    ·right; rw [List.mem_singleton.mp q]; exact Heap.get?_none_of_le (Nat.le_refl _)
   ·right
    cases hq:s.heap.get? a with
    | none=> rfl
    | some o=>
     exfalso
     by_cases e1:a=S
     ·subst e1; exact F.ne a ha rfl
     ·have q':h'.get? a=none:=by
       have:=q
       rw [Heap.get?_update_other _ _ (Ne.symm e1)] at this
       exact this
      by_cases f1:a=z
      ·obtain ⟨_,_,_,e⟩:=nz; rw [f1,e] at q'; cases q'
      ·by_cases f2:a=TO
       ·obtain ⟨o',e⟩:=nto; rw [f2,e] at q'; cases q'
       ·by_cases f3:a=i1
        ·obtain ⟨o',e,_⟩:=n1; rw [f3,e] at q'; cases q'
        ·by_cases f4:a=i2
         ·obtain ⟨o',e,_⟩:=n2; rw [f4,e] at q'; cases q'
         ·rw [nk a o f1 f2 f3 f4 hq] at q'; cases q'
  rcases Z.zz with ⟨h0,hz,a,b,hTO⟩ | ⟨b,T,hT,hz⟩
  ·subst h0
   have had:ad=[]:=List.length_eq_zero_iff.mp Z.len
   refine wpAny_bind (wpAny_pyNext_zip_item D hz Z.ti hTO Z.a1 Z.a2 Z.b1 Z.b2 hx hy fun h' m1 m2 m3 m4 m5 _ kp=> ?_)
   exact go h' ⟨false,_,by rw [had]; rfl,m1⟩ ⟨_,m2⟩ m3 m4 m5 kp
  ·obtain ⟨x,y,_,_,hp⟩:=Z.tup 0 T hT
   refine wpAny_bind (qA D hz hp Z.ti Z.a1 Z.a2 Z.b1 Z.b2 hx hy fun h' m1 m3 m4 m5 kp=> ?_)
   refine go h' ⟨true,T,?_,m1⟩ ?_ m3 m4 m5 fun b o n1 _ n3 n4 e=> kp b o n1 n3 n4 e
   ·rw [List.getElem?_append_left (List.getElem?_eq_some_iff.mp hT).1]; exact hT
   ·obtain ⟨o,e⟩:=Z.to; exact ⟨o,kp TO o D.TOz D.TOi1 D.TOi2 e⟩
end
end ST
namespace ST
open PySem
theorem wU:typeLookup (.type "zip") "__len__"=pure none:=by rw [typeLookup_type,builtinLookup_eq_fast]; kernel_rfl
theorem uS:typeLookup (.type "zip") "__length_hint__"=pure none:=by rw [typeLookup_type,builtinLookup_eq_fast]; kernel_rfl
theorem uh (prog:Program) (w:World):uI prog w "zip":=fun A E s r Q hT h=> by
 unfold Builtin.List.listLengthHint
 refine wpAny_bind (wpAny_specialOf hT wU ?_)
 show wpAny _ A (specialOf (Value.ref r) (Str.ofString "__length_hint__") >>=_) _ _ _
 refine wpAny_bind (wpAny_specialOf hT uS ?_)
 exact wpAny_pure (h _)
section
variable {prog:Program} {w:World} {A:Around} {E:Value→Shared→Prop} {s:Shared}
theorem sX {z TI TO:Addr} {f:Value} {Q:Value→Shared→Prop} (hz:IsZip s.heap z TI TO f) (h:Q (.ref z) s):wpAny (model prog w) A (pyIter (.ref z)) Q E s:=by
 have hT:s.TypeIs (.ref z) "zip":=⟨_,hz,rfl⟩
 refine wpAny_pyIter_slot hT PySem.F.slot_zip_iter (wpAny_call_entry PySem.F.slot_zip_iter hT PySem.F.entry_zip_iter ?_ (PySem.F.args_zip_iter_1 _))
 exact wpAny_pure ⟨_,rfl,"zip",_,hT,PySem.F.slot_zip_next.lookup,h⟩
end
section
variable {prog:Program} {w:World} {A:Around} {R:Result→Shared→Prop} {s:Shared}
theorem oY (hh:A.in1.handled=none) {xs ys:Array Value} {z TI TO i1 i2 l1 l2 S:Addr} (D:ZipApart z TI TO i1 i2 l1 l2) (hS:S≠z∧S≠TI∧S≠TO∧S≠i1∧S≠i2∧S≠l1∧S≠l2) (hxy:ys.size=xs.size) (hn:xs.size≤1000) (res:Value) {c₀:Nat}
  (hz:IsZip s.heap z TI TO .none) (Z:∀ h',(∀ b o,b≠S→s.heap.get? b=some o→h'.get? b=some o)→∀ c,h'.get? S=some { cls:=.type "list",dict:=none,data:=.seq #[] c,slots:=#[] }→ZL xs ys z TI TO i1 i2 l1 l2 S h' 0 [] c)
  (gS:s.heap.get? S=some { cls:=.type "list",data:=.seq #[] c₀ })
  (hR:∀ h' ad' c',ZF xs ys S h' ad' c'→(∀ b o,b≠z→b≠TO→b≠i1→b≠i2→b≠S→s.heap.get? b=some o→h'.get? b=some o)→(∀ a∈ad',s.heap.get? a=none)→R (.ok (.ret res)) { s with heap:=h' }):
  wpAny (model prog w) A.in1 (Builtin.List.listExtendWith (.ref S) (.ref z) res)
   (fun fin s'=> match fin with | .done f=> R (.ok f) s' | .again c'=> c'.quiet=true∧codeAny (model prog w) A c' R s') (fun e s'=> R (.error e) s') s:=by
 have hT:s.TypeIs (.ref z) "zip":=⟨_,hz,rfl⟩
 unfold Builtin.List.listExtendWith
 refine wpAny_bind (wpAny_typeOf hT ?_)
 have k1:Builtin.List.listSameRef (.ref S) (.ref z)=false:=by simp [Builtin.List.listSameRef,hS.1]
 have k2:(Value.type "zip"==Value.type "list")=false:=by decide
 have k3:(Value.type "zip"==Value.type "tuple")=false:=by decide
 simp only [k1,k2,k3,Bool.or_false,Bool.false_eq_true,if_false]
 refine wpAny_bind (sX hz (wpAny_bind (wpAny_holding (uh prog w _ _ _ _ _ hT fun b=> ?_))))
 refine wpAny_ite_split (fun _=> ?_) (fun _=> ?_)
 ·refine wpAny_bind (wpAny_rule (wpAny_bind ?_))
  show wpAny _ A.in1 (updateSeq S (·.push .none) >>=fun _=> updateSeq S (·.pop)) _ _ _
  refine wpAny_bind (wpAny_updateSeq gS rfl ?_)
  have g2:=Heap.get?_update_self (Obj.mapSeq (·.push Value.none)) gS rfl
  refine wpAny_updateSeq (hz:=by seq_fits) g2 rfl ?_
  have g3:=Heap.get?_update_self (Obj.mapSeq (·.pop)) g2 rfl
  have oth:∀ b o,b≠S→s.heap.get? b=some o→((s.heap.update S (Obj.mapSeq (·.push Value.none))).update S (Obj.mapSeq (·.pop))).get? b=some o:=fun b o hb e=> (Heap.get?_update_other _ _ (Ne.symm hb)).trans ((Heap.get?_update_other _ _ (Ne.symm hb)).trans e)
  refine wpAny_pure ⟨plainId_quiet PySem.F.plain_extend_loop _,lW (s:={ s with heap:=(s.heap.update S (Obj.mapSeq (·.push Value.none))).update S (Obj.mapSeq (·.pop)) }) hh D hS hxy hn res _ 0 [] _ rfl (Nat.zero_le _) (Z _ oth _ g3) fun h' ad' c' F kp fr=> ?_⟩
  refine hR h' ad' c' F (fun b o m1 m2 m3 m4 m5 e=> kp b o m1 m2 m3 m4 m5 (oth b o m5 e)) fun a ha=> ?_
  rcases fr a ha with q | q
  ·simp at q
  ·cases hq:s.heap.get? a with
   | none=> rfl
   | some o=>
    have e:=oth a o (F.ne a ha) hq
    rw [e] at q; cases q
 ·refine wpAny_pure ⟨plainId_quiet PySem.F.plain_extend_loop _,lW hh D hS hxy hn res _ 0 _ [] _ rfl (Nat.zero_le _) (Z _ (fun _ _ _ e=> e) _ gS) fun h' ad' c' F kp fr=> ?_⟩
  exact hR h' ad' c' F kp fun a ha=> (fr a ha).resolve_left (by simp)
end
section
variable {prog:Program} {w:World} {A:Around} {E:Value→Shared→Prop} {s:Shared}
set_option maxHeartbeats 1000000 in
theorem call_list_zip {Q:Value→Shared→Prop} (hh:A.handled=none) {xs ys:Array Value} {z TI TO i1 i2 l1 l2:Addr} (D:ZipApart z TI TO i1 i2 l1 l2) (hxy:ys.size=xs.size) (hn:xs.size≤1000)
  (hz:IsZip s.heap z TI TO .none) (hTI:IsPair s.heap TI (.ref i1) (.ref i2)) {a b:Value} (hTO:IsPair s.heap TO a b) (h1:s.heap.IsListIter i1 l1 0) (h2:s.heap.IsListIter i2 l2 0) (hl1:s.heap.IsList l1 xs) (hl2:s.heap.IsList l2 ys)
  (hQ:∀ h' ad' c',ZF xs ys s.heap.objs.size h' ad' c'→(∀ b o,b≠z→b≠TO→b≠i1→b≠i2→s.heap.get? b=some o→h'.get? b=some o)→(∀ a∈ad',s.heap.get? a=none)→Q (.ref s.heap.objs.size) { s with heap:=h' }):
  wpAny (model prog w) A (call (.type "list") [.ref z]) Q E s:=by
 refine callType_codes (Q₁:=fun obj s₁=> obj=.ref s.heap.objs.size∧s₁={ s with heap:=s.heap.push { cls:=.type "list",data:=.seq #[] } }) PySem.F.called_list (PySem.F.typeCall_list_1 _) PySem.F.entry_list_init (code_list_new _ ⟨rfl,rfl⟩) fun obj s₁ h₁=> ?_
 obtain ⟨rfl,rfl⟩:=h₁
 generalize hSd:s.heap.objs.size=S at *
 have lt:∀ c o,s.heap.get? c=some o→S≠c:=fun c o e q=> by rw [← q,← hSd] at e; exact Nat.lt_irrefl _ (Heap.lt_size e)
 have gS:(s.heap.push { cls:=.type "list",data:=.seq #[] }).get? S=some { cls:=.type "list",data:=.seq #[] }:=by rw [← hSd]; exact Heap.get?_push_size _ rfl
 have up:∀ b o,s.heap.get? b=some o→(s.heap.push { cls:=.type "list",data:=.seq #[] }).get? b=some o:=fun b o e=> Heap.get?_push_of_some _ e
 have hS:S≠z∧S≠TI∧S≠TO∧S≠i1∧S≠i2∧S≠l1∧S≠l2:=⟨lt _ _ hz,lt _ _ hTI,lt _ _ hTO,by obtain ⟨o,e,_⟩:=h1; exact lt _ _ e,by obtain ⟨o,e,_⟩:=h2; exact lt _ _ e,by obtain ⟨o,e,_⟩:=hl1; exact lt _ _ e,by obtain ⟨o,e,_⟩:=hl2; exact lt _ _ e⟩
 refine ⟨⟨_,gS,rfl⟩,PySem.F.args_list_init_2 _ _,?_⟩
 show wpAny _ A.in1.in1 (Builtin.List.listItems (.ref S) >>=fun old=> Builtin.List.listUpdate (.ref S) (fun _=> #[]) >>=fun _=> letGo old.toList.reverse >>=fun _=> Builtin.List.listExtendWith (.ref S) (.ref z) .none) _ _ _
 refine wpAny_bind ?_
 unfold Builtin.List.listItems
 refine wpAny_bind (wpAny_seqItems gS rfl (wpAny_pure ?_))
 show wpAny _ A.in1.in1 (updateSeq S (fun _=> #[]) >>=fun _=> letGo (#[]:Array Value).toList.reverse >>=fun _=> Builtin.List.listExtendWith (.ref S) (.ref z) .none) _ _ _
 refine wpAny_bind (wpAny_updateSeq gS rfl ?_)
 have g2:=Heap.get?_update_self (Obj.mapSeq (fun _=> (#[]:Array Value))) gS rfl
 have oth:∀ b o,b≠S→s.heap.get? b=some o→((s.heap.push { cls:=.type "list",data:=.seq #[] }).update S (Obj.mapSeq (fun _=> (#[]:Array Value)))).get? b=some o:=fun b o hb e=> (Heap.get?_update_other _ _ (Ne.symm hb)).trans (up b o e)
 refine wpAny_bind (wpAny_letGo ?_)
 refine oY (A:=A.in1) (s:={ s with heap:=(s.heap.push { cls:=.type "list",data:=.seq #[] }).update S (Obj.mapSeq (fun _=> (#[]:Array Value))) }) hh D hS hxy hn .none (oth _ _ hS.1.symm hz) (fun h' kp c e=> ?_) g2 fun h' ad' c' F kp fr=> ?_
 ·have k:∀ b o,b≠S→s.heap.get? b=some o→h'.get? b=some o:=fun b o hb e=> kp b o hb (oth b o hb e)
  exact ⟨k _ _ hS.2.1.symm hTI,h1.at fun o e=> k _ o hS.2.2.2.1.symm e,h2.at fun o e=> k _ o hS.2.2.2.2.1.symm e,hl1.at fun o e=> k _ o hS.2.2.2.2.2.1.symm e,hl2.at fun o e=> k _ o hS.2.2.2.2.2.2.symm e,e,rfl,fun j a e=> by simp at e,fun a ha=> by simp at ha,⟨_,k _ _ hS.2.2.1.symm hTO⟩,List.nodup_nil,.inl ⟨rfl,k _ _ hS.1.symm hz,a,b,k _ _ hS.2.2.1.symm hTO⟩⟩
 ·refine ⟨rfl,hQ h' ad' c' F (fun b o m1 m2 m3 m4 e=> kp b o m1 m2 m3 m4 (fun q=> lt b o e q.symm) (oth b o (fun q=> lt b o e q.symm) e)) fun a ha=> ?_⟩
  cases hq:s.heap.get? a with
  | none=> rfl
  | some o=>
   have e:=oth a o (F.ne a ha) hq
   have q:=fr a ha
   rw [show ({ s with heap:=(s.heap.push { cls:=.type "list",data:=.seq #[] }).update S (Obj.mapSeq (fun _=> (#[]:Array Value))) }:Shared).heap.get? a=some o from e] at q
   cases q
end
end ST
namespace L2
open PySem PySem.Spec PyProof.Rows
theorem uY {a b:Nat} (h:a < b∨b < a):@Ne Addr a b:=fun e=> by
 have e':a=b:=e
 omega
theorem uU:bootBuiltins "zip"=some (.type "zip"):=by decide+kernel
section
variable {P:Program} {w:World} {H:Hp} {h:Heap} {a:Addr} {o:HO}
theorem gg (x:cq P w H h a o):∃ ob,h.get? a=some ob:=by
 cases o with
 | lst xs=> obtain ⟨_,_,_,_,e⟩:=x; exact ⟨_,e⟩
 | tup xs=> obtain ⟨_,_,_,ob,e,_⟩:=x; exact ⟨_,e⟩
 | dK kvs=> obtain ⟨_,_,_,_,o,_,_,e,_⟩:=x; exact ⟨_,e⟩
 | dT kvs=> obtain ⟨_,_,_,_,o,_,_,e,_⟩:=x; exact ⟨_,e⟩
 | set S n=> obtain ⟨o,_,_,_,e,_⟩:=x; exact ⟨_,e⟩
 | ins C dx fs=> obtain ⟨_,_,_,e,_⟩:=x; exact ⟨_,e⟩
 | own y=> exact x
 | xd fs=> obtain ⟨_,⟨_,_,_,e,_⟩,_⟩:=x; exact ⟨_,e⟩
 | rng lo hi=> obtain ⟨_,_,_,e⟩:=x; exact ⟨_,e⟩
 | frz ob u=> obtain ⟨e,_⟩:=x; exact ⟨_,e⟩
 | tbl ps=> exact ⟨_,(show h.get? a=some _ from x)⟩
 | met f y=> exact ⟨_,(show h.get? a=some _ from x)⟩
 | ext φ=> exact x.2.1
end
theorem vG {X:Cx} {pins:List (Addr×Obj)} {σ:List (Option V)} {H H':Hp} {s:Shared} {h':Heap} {t':Nat} (I:Inv X pins σ H s) (k:∀ b u,s.heap.get? b=some u→h'.get? b=some u)
  (old:∀ b u,s.heap.get? b=some u→H' b=H b) (new:∀ b o,s.heap.get? b=none→H' b=some o→cq X.prog X.w H' h' b o):Inv X pins σ H' { s with heap:=h',toks:=t' }:=by
 have at':∀ b o,H b=some o→H' b=some o:=fun b o e=> let ⟨ob,q⟩:=gg (I.hok b o e); (old b ob q).trans e
 refine I.un ⟨fun b u q _ _ _=> k b u q,fun b u q _ _ _=> ⟨u.slots,k b u q⟩,fun b u q n _=> (old b u q).trans n,fun b u q _=> ⟨u,k b u q⟩,fun b xs q=> at' b _ q,fun b u xs q=> at' b _ q,fun b ps q=> ⟨#[],by rw [at' b _ q]; simp⟩⟩ fun b u e=> ?_
 cases hb:s.heap.get? b with
 | some ob=>
  rw [old b ob hb] at e
  exact (I.hok b u e).stay (fun c v _ q=> k c v q) (fun c q=> at' c _ q) fun c xs q=> at' c _ q
 | none=> exact new b u hb e
def jp (H:Hp):List Addr→List (List V)→Hp
 | [],_=> H
 | a::as,ps=> match ps with
  | []=> H
  | p::ps=> upd (jp H as ps) a (.tup p)
theorem md {H:Hp}:∀ {as:List Addr} {ps:List (List V)} {b:Addr},b ∉ as→jp H as ps b=H b
 | [],_,_,_=> rfl
 | a::as,[],_,_=> rfl
 | a::as,p::ps,b,h=> by
  show upd (jp H as ps) a (.tup p) b=H b
  rw [be fun z=> h (by rw [z]; exact List.mem_cons_self)]
  exact md fun z=> h (List.mem_cons_of_mem _ z)
theorem qx {H:Hp}:∀ {as:List Addr} {ps:List (List V)} {j:Nat} {a:Addr} {p:List V},as.Nodup→as[j]?=some a→ps[j]?=some p→jp H as ps a=some (.tup p)
 | [],_,j,_,_,_,e,_=> by simp at e
 | _::_,[],j,_,_,_,_,e=> by simp at e
 | b::as,q::ps,0,a,p,_,e1,e2=> by
  simp at e1 e2
  subst e1; subst e2
  exact aX
 | b::as,q::ps,j+1,a,p,nd,e1,e2=> by
  show upd (jp H as ps) b (.tup q) a=_
  rw [List.getElem?_cons_succ] at e1 e2
  have nd':=List.nodup_cons.mp nd
  rw [be fun z=> nd'.1 (by rw [← z]; exact List.mem_of_getElem? e1)]
  exact qx nd'.2 e1 e2
theorem mY {H:Hp}:∀ {as:List Addr} {ps:List (List V)} {b:Addr} {o:HO},jp H as ps b=some o→H b=some o∨∃ (j:Nat) (p:List V),as[j]?=some b∧ps[j]?=some p∧o=.tup p
 | [],_,_,_,e=> .inl e
 | _::_,[],_,_,e=> .inl e
 | a::as,p::ps,b,o,e=> by
  have e':upd (jp H as ps) a (.tup p) b=some o:=e
  by_cases hb:b=a
  ·subst hb
   rw [aX] at e'
   cases e'
   exact .inr ⟨0,p,rfl,rfl,rfl⟩
  ·rw [be hb] at e'
   rcases mY e' with z | ⟨j,q,e1,e2,e3⟩
   ·exact .inl z
   ·exact .inr ⟨j+1,q,by simpa using e1,by simpa using e2,e3⟩
theorem ky:∀ (ad:List Addr),aN (ad.map V.ref) (ad.map Value.ref)
 | []=> .nil
 | _::ad=> .cons rfl (ky ad)
section
variable {X:Cx} {H0:Hp} {O0:List Addr} {ps:PSt} {e f:Expr} {x y:U} {xs ys:List U} {pos pos' p p':Pos}
set_option maxHeartbeats 1000000 in
theorem rM (hc:X.calm=true) (hg:Gl X "list") (hm:X.mg "list"=none) (hgz:Gl X "zip") (hmz:X.mg "zip"=none) (ha:Ev X H0 O0 ps e x) (hx:x=.lst xs∨x=.scr xs) (hb:Ev X H0 O0 ps f y) (hy:y=.lst ys∨y=.scr ys) (hl:ys.length=xs.length) (hn:xs.length≤1000)
  (he:starEach [e,f] X.env=(false,eval e X.env)::starEach [f] X.env:=by rfl) (hf:starEach [f] X.env=(false,eval f X.env)::starEach [] X.env:=by rfl):
  EvN X H0 O0 ps (.Call (.Name "list" p) [.Call (.Name "zip" p') [e,f] [] pos'] [] pos) (List.zipWith (fun a b=> U.tup [a,b]) xs ys):=by
 rintro pins s σ H Q I ⟨O,R,q⟩
 have hh:X.A.handled=none:=I.ok.hd hc
 refine wpAny_Call_Name_kw (dD I hg hm boot_list ?_)
 refine callWith_type1 (e:=.Call (.Name "zip" p') [e,f] [] pos') (rest:=[]) ?_ bV rfl
 rw [bV]
 show wpAny _ _ (spliced ((false,eval (.Call (.Name "zip" p') [e,f] [] pos') X.env)::backTo pos (starEach [] X.env))) _ _ s
 refine Calls.spliced_cons ?_
 refine wpAny_Call_Name_kw (dD I hgz hmz uU ?_)
 refine callWith_type1 (thn (eN ha (eN hb ii hf) he pos' pins s σ H (fun vs H1=> ∃ v u,vs=[v,u]∧aI H H1∧Rp X.K (hid H1 O) v x∧Rp X.K (hid H1 O) u y) I ⟨O,R,fun v H1 s1 r1=> ⟨O,R.go s1,fun u H2 s2 r2=> ⟨v,u,rfl,s1.trans s2,r1.same (bD s2),r2⟩⟩⟩) fun us s1 hx'=> ?_) he (by rw [hf]; rfl)
 obtain ⟨vs,H1,I1,rv,v,u,rfl,sm,rp1,rp2⟩:=hx'
 obtain ⟨w1,w2,rfl,ru1,ru2⟩:=jb rv
 obtain ⟨a,va,rfl,hq1,rs1⟩:=wf rp1 hx
 obtain ⟨b,vb,rfl,hq2,rs2⟩:=wf rp2 hy
 cases ru1
 cases ru2
 obtain ⟨ia,ra,pl1,hz1⟩:=I1.list (ay.seq hq1)
 obtain ⟨ib,rb,pl2,hz2⟩:=I1.list (ay.seq hq2)
 have la:=ra.length
 have lb:=rb.length
 have l1:=rs1.len
 have l2:=rs2.len
 have al:@LT.lt Nat instLTNat a s1.heap.objs.size:=by obtain ⟨o,ho,_⟩:=pl1.isList; exact Heap.lt_size ho
 have bl:@LT.lt Nat instLTNat b s1.heap.objs.size:=by obtain ⟨o,ho,_⟩:=pl2.isList; exact Heap.lt_size ho
 refine PySem.call_zip_2 pl1.isList pl2.isList fun h' z1 z2 z3 z4 z5 z6 z7=> ?_
 refine Calls.spliced_nil ?_
 have D:ZipApart (s1.heap.objs.size+4) (s1.heap.objs.size+2) (s1.heap.objs.size+3) s1.heap.objs.size (s1.heap.objs.size+1) a b:=by constructor <;> exact uY (by omega)
 have sxy:ib.toArray.size=ia.toArray.size:=by simp; omega
 have sx:ia.toArray.size≤1000:=by simp; omega
 refine ST.call_list_zip (s:={ s1 with heap:=h' }) hh D sxy sx z1 z2 z3 z4 z5 (pl1.isList.at fun o e=> z7 _ o e) (pl2.isList.at fun o e=> z7 _ o e) fun h3 ad c F kp fr=> ?_
 have lD:s1.heap.objs.size≤({ s1 with heap:=h' }:Shared).heap.objs.size:=by show _≤h'.objs.size; omega
 generalize ({ s1 with heap:=h' }:Shared).heap.objs.size=D0 at *
 have keep:∀ b o,s1.heap.get? b=some o→h3.get? b=some o:=fun b o e=> by
  have this:@LT.lt Nat instLTNat b s1.heap.objs.size:=Heap.lt_size e
  exact kp b o (uY (by omega)) (uY (by omega)) (uY (by omega)) (uY (by omega)) (z7 b o e)
 have fr':∀ a∈ad,s1.heap.get? a=none:=fun a ha=> by
  cases hq:s1.heap.get? a with
  | none=> rfl
  | some o=>
   have q1:=fr a ha
   rw [show ({ s1 with heap:=h' }:Shared).heap.get? a=some o from z7 a o hq] at q1
   cases q1
 have frD:s1.heap.get? D0=none:=Heap.get?_none_of_le lD
 have nH:∀ a,s1.heap.get? a=none→H1 a=none:=fun a e=> by
  cases hq:H1 a with
  | none=> rfl
  | some o=>
   obtain ⟨ob,z⟩:=gg (I1.hok a o hq)
   rw [e] at z; cases z
 generalize hP:List.zipWith (fun x y:V=> [x,y]) va vb=PS
 have old:∀ b u,s1.heap.get? b=some u→upd (jp H1 ad PS) D0 (.lst (ad.map V.ref)) b=H1 b:=fun b u e=> by
  rw [be fun z=> by rw [z,frD] at e; cases e]
  exact md fun z=> by rw [fr' b z] at e; cases e
 have sm1:aI H1 (upd (jp H1 ad PS) D0 (.lst (ad.map V.ref))):=fun b o e=> let ⟨ob,z⟩:=gg (I1.hok b o e); (old b ob z).trans e
 have lad:ad.length=ia.length:=by rw [F.len]; simp
 have atT:∀ (j:Nat) (c:Addr) (v u:V),ad[j]?=some c→va[j]?=some v→vb[j]?=some u→upd (jp H1 ad PS) D0 (.lst (ad.map V.ref)) c=some (.tup [v,u]):=fun j c v u e1 e2 e3=> by
  rw [be (F.ne c (List.mem_of_getElem? e1))]
  refine qx F.nd e1 ?_
  rw [← hP]
  exact List.getElem?_zipWith_eq_some.mpr ⟨v,u,e2,e3,rfl⟩
 have I3:Inv X pins σ (upd (jp H1 ad PS) D0 (.lst (ad.map V.ref))) { s1 with heap:=h3 }:=by
  refine vG (t':=s1.toks) I1 keep old fun b o nb e=> ?_
  by_cases hbD:b=D0
  ·subst hbD
   rw [aX] at e
   cases e
   exact ⟨by rw [List.length_map,lad,← la]; exact hz1,ad.map Value.ref,c,ky ad,F.acc⟩
  ·rw [be hbD] at e
   rcases mY e with z | ⟨j,pr,e1,e2,rfl⟩
   ·rw [nH b nb] at z; cases z
   ·rw [← hP] at e2
    obtain ⟨v,u,f1,f2,rfl⟩:=List.getElem?_zipWith_eq_some.mp e2
    obtain ⟨xv,g1,r1⟩:=ra.get f1
    obtain ⟨yv,g2,r2⟩:=rb.get f2
    obtain ⟨xv',yv',k1,k2,k3⟩:=F.tup j b e1
    have m1:xv'=xv:=by
     have:ia.toArray[j]?=some xv:=by simpa using g1
     rw [this] at k1; cases k1; rfl
    have m2:yv'=yv:=by
     have:ib.toArray[j]?=some yv:=by simpa using g2
     rw [this] at k2; cases k2; rfl
    subst m1; subst m2
    exact ⟨(show 2≤sizeLine by decide),[xv',yv'],.cons r1 (.cons r2 .nil),_,k3,rfl,_,rfl⟩
 refine ⟨.ref D0,_,I3,rfl,q D0 _ _ (sm.trans sm1) (sm.free (nH _ frD)) aX ⟨?_,fun i v u h1 h2=> ?_⟩⟩
 ·rw [List.length_map,List.length_zipWith]; omega
 ·rw [List.getElem?_map] at h1
  cases hi:ad[i]? with
  | none=> rw [hi] at h1; cases h1
  | some c'=>
   rw [hi] at h1
   obtain rfl:V.ref c'=v:=by simpa using h1
   obtain ⟨xi,yi,f1,f2,rfl⟩:=List.getElem?_zipWith_eq_some.mp h2
   obtain ⟨vi,g1,r1⟩:=rs1.get f1
   obtain ⟨wi,g2,r2⟩:=rs2.get f2
   have S:=bX (O:=O) sm1 (nH _ frD)
   have rr:=Rps.cons (r1.same S) (Rps.cons (r2.same S) Rps.nil)
   have hc':=List.mem_of_getElem? hi
   refine .tup (SqT.of (dH (atT i c' vi wi hi g1 g2) fun z=> ?_)) rr.len rr.at_
   rcases List.mem_cons.mp z with z | z
   ·exact F.ne c' hc' z
   ·exact (R.go sm).dom c' z (nH _ (fr' c' hc'))
end
end L2
namespace L2
open PySem PySem.Spec PyProof.Rows
theorem iq (ns:List Int):∀ j,preSum (fun i=> ns.getD i 0) j=(ns.take j).sum
 | 0=> by simp [preSum]
 | j+1=> by rw [preSum,iq ns j,PySem.sum_take_succ]
section
variable {X:Cx} {ns:List Int} {M:Int}
theorem jK {K:PySem.W.Frag} {H:Hp} {ws:List V} {its:List Value} (rv:aN ws its) (rs:Rps K H ws (ns.map U.int)) (i:Nat) (z:Value) (e:its.toArray[i]?=some z):∃ t,z=.int (ns.getD i 0) t:=by
 have hl:=rs.len
 rw [List.length_map] at hl
 have e4:its[i]?=some z:=by simpa using e
 have hi:i < its.length:=aP e4
 have hw:i < ws.length:=by rw [rv.length]; exact hi
 have hb:i < ns.length:=by omega
 obtain ⟨u,e1,e2⟩:=rv.get (List.getElem?_eq_getElem hw)
 have e3:=rs.at_ i ws[i] (.int ns[i]) (List.getElem?_eq_getElem hw) (by rw [List.getElem?_map,List.getElem?_eq_getElem hb]; rfl)
 rw [e4] at e1
 cases e1
 generalize ws[i]=wi at *
 cases e3
 rw [List.getD_eq_getElem?_getD,List.getElem?_eq_getElem hb]
 obtain ⟨t,rfl⟩:=e2
 exact ⟨t,rfl⟩
theorem y6 (hc:X.calm=true) (hM:M∈ns∧∀ a∈ns,M≤a):e7 X (.builtin "min") [.lst (ns.map U.int)] (.int M):=by
 intro pins s σ H vs us Q I r hq
 obtain ⟨O,d,rs,q⟩:=hq
 obtain ⟨v,rfl,h1⟩:=cX rs
 obtain ⟨p1,rfl,r1⟩:=fX r
 cases h1 with
 | @lst a ws _ hq hl hh=>
  cases r1
  obtain ⟨its,rv,pl,_⟩:=I.list (SqL.of (ay _ _ hq))
  have hlen:its.length=ns.length:=by rw [← rv.length,hl,List.length_map]
  have hat:=jK (ns:=ns) rv ⟨hl,hh⟩
  have hn:0 < ns.length:=List.length_pos_of_mem hM.1
  refine call_min_walk (wpAny_pyIter_list pl.isList ?_)
  have hal:a < s.heap.objs.size:=by obtain ⟨o,e,_⟩:=pl.isList; exact Heap.lt_size e
  refine ⟨s.heap.objs.size,_,_,_,_,_,_,rfl,Walks.list (A:=X.A.in1) (I.ok.hd hc) s.heap.objs.size a (Nat.ne_of_lt hal) its.toArray,⟨⟨_,Heap.get?_push_size _ rfl,rfl,rfl⟩,pl.isList.push _⟩,fun b hb=> ?_,by rw [List.size_toArray,hlen]; exact hn,CmpOf.ints_lt (fun i=> ns.getD i 0) hat,fun v h' tk hP hk=> ?_⟩
  ·show b < (s.heap.push _).objs.size
   rw [Heap.size_push]
   rcases List.mem_cons.mp hb with z | z
   ·rw [z]; exact Nat.lt_succ_self _
   ·rw [List.mem_singleton.mp z]; exact Nat.lt_succ_of_lt hal
  ·obtain ⟨t,rfl⟩:=hat _ _ hP
   obtain ⟨b1,b2⟩:=argBest_lt (fun i=> ns.getD i 0) (its.toArray.size - 1)
   have e:ns.getD (argBest (fun i j=> decide (ns.getD i 0 < ns.getD j 0)) (its.toArray.size - 1)) 0=M:=by
    rw [List.size_toArray,hlen] at b1 b2 ⊢
    generalize argBest (fun i j=> decide (ns.getD i 0 < ns.getD j 0)) (ns.length - 1)=g at *
    have hg:g < ns.length:=by omega
    obtain ⟨j,hj,ej⟩:=List.getElem_of_mem hM.1
    have k1:=b2 j (by omega)
    have k2:=hM.2 ns[g] (List.getElem_mem hg)
    simp only [List.getD_eq_getElem?_getD,List.getElem?_eq_getElem hg,List.getElem?_eq_getElem hj,Option.getD_some] at k1 ⊢
    omega
   rw [e]
   refine ⟨.int M,H,I.kept (t':=tk) fun b o e=> hk b o ?_ (Heap.get?_push_of_some _ e),⟨t,rfl⟩,q _ H (.refl H) (.int _)⟩
   intro z
   have:b=s.heap.objs.size:=by simpa using z
   exact absurd (Heap.lt_size e) (by rw [this]; exact Nat.lt_irrefl _)
theorem oN (hc:X.calm=true):e7 X (.builtin "sum") [.lst (ns.map U.int)] (.int ns.sum):=by
 intro pins s σ H vs us Q I r hq
 obtain ⟨O,d,rs,q⟩:=hq
 obtain ⟨v,rfl,h1⟩:=cX rs
 obtain ⟨p1,rfl,r1⟩:=fX r
 cases h1 with
 | @lst a ws _ hq hl hh=>
  cases r1
  obtain ⟨its,rv,pl,_⟩:=I.list (SqL.of (ay _ _ hq))
  have hlen:its.length=ns.length:=by rw [← rv.length,hl,List.length_map]
  have hat:=jK (ns:=ns) rv ⟨hl,hh⟩
  refine call_sum_walkG (wpAny_pyIter_list pl.isList ?_)
  have hal:a < s.heap.objs.size:=by obtain ⟨o,e,_⟩:=pl.isList; exact Heap.lt_size e
  refine ⟨s.heap.objs.size,_,_,_,_,_,fun i=> ns.getD i 0,rfl,Walks.list (A:=X.A.in1) (I.ok.hd hc) s.heap.objs.size a (Nat.ne_of_lt hal) its.toArray,⟨⟨_,Heap.get?_push_size _ rfl,rfl,rfl⟩,pl.isList.push _⟩,fun b hb=> ?_,hat,fun h' tk t' hk=> ?_⟩
  ·show b < (s.heap.push _).objs.size
   rw [Heap.size_push]
   rcases List.mem_cons.mp hb with z | z
   ·rw [z]; exact Nat.lt_succ_self _
   ·rw [List.mem_singleton.mp z]; exact Nat.lt_succ_of_lt hal
  ·rw [iq,List.size_toArray,hlen,List.take_length]
   refine ⟨.int ns.sum,H,I.kept (t':=tk) fun b o e=> hk b o ?_ (Heap.get?_push_of_some _ e),⟨t',rfl⟩,q _ H (.refl H) (.int _)⟩
   intro z
   have:b=s.heap.objs.size:=by simpa using z
   exact absurd (Heap.lt_size e) (by rw [this]; exact Nat.lt_irrefl _)
end
end L2
namespace ST
open PySem PyProof.Rows
def leP (a b:Int×Int):Bool:=decide (a.1 < b.1∨(a.1=b.1∧a.2≤b.2))
section
variable {prog:Program} {w:World} {A:Around} {E:Value→Shared→Prop} {s:Shared}
theorem p5 {x y:Int} {t u:Tok} {Q:Value→Shared→Prop} (h:Q (.bool (decide (x≤y))) s):wpAny (model prog w) A (richCompare .LtE (.int x t) (.int y u)) Q E s:=
 richCompare_gives (op:=.LtE) (typeIs_int s _ t) (typeIs_int s _ u) PySem.F.slot_int_le PySem.F.entry_int_le (PySem.F.args_int_le_2 _ _) (gives_int_le _ _ t u) (fun x=> nomatch x) h
theorem uN {x y:Addr} {a b:Int×Int} {P:Fin→Shared→Prop} (hx:TK prog w s.heap [a.1,a.2] x) (hy:TK prog w s.heap [b.1,b.2] y) (h:P (.done (.ret (.bool (leP a b)))) s):
  wpAny (model prog w) A (Builtin.«tuple.__le__» ⟨[.ref x,.ref y],[]⟩) P E s:=by
 have hTb:=hy.typeIs
 obtain ⟨o,its,n,t,u,ho,_,hd,hi⟩:=hx.two
 obtain ⟨o',its',n',t',u',ho',_,hd',hi'⟩:=hy.two
 show wpAny _ _ (isInstance (.ref y) (.type "tuple") >>=_) _ _ s
 refine wpAny_bind (wpAny_isInstance hTb isSubtype_tuple_tuple ?_)
 simp only [Bool.not_true,Bool.false_eq_true,if_false]
 refine wpAny_bind (wpAny_tupleItemsOf ho hd ?_)
 refine wpAny_bind (wpAny_tupleItemsOf ho' hd' ?_)
 have sz:its.size=its'.size:=by rw [← Array.length_toList,← Array.length_toList,hi,hi']; rfl
 rw [hi,hi']
 refine wpAny_bind ?_
 simp only [List.zip_cons_cons,List.zip_nil_left,List.forIn_cons,List.forIn_nil]
 refine wpAny_bind (wpAny_bind ((intKind prog w).eqBool (a:=a.1) (b:=b.1) (intKind_is _ _ _ _) (intKind_is _ _ _ _) ?_))
 by_cases e1:a.1=b.1
 ·rw [decide_eq_true e1]
  simp only [Bool.not_true,Bool.false_eq_true,if_false]
  refine wpAny_pure ?_
  refine wpAny_bind (wpAny_bind ((intKind prog w).eqBool (a:=a.2) (b:=b.2) (intKind_is _ _ _ _) (intKind_is _ _ _ _) ?_))
  by_cases e2:a.2=b.2
  ·rw [decide_eq_true e2]
   simp only [Bool.not_true,Bool.false_eq_true,if_false]
   refine wpAny_pure (wpAny_pure ?_)
   have z:leP a b=true:=by unfold leP; simp; omega
   rw [z] at h
   refine wpAny_pure ?_
   show P (.done (.ret (.bool (decide (its.size≤its'.size))))) s
   rw [sz,decide_eq_true (Nat.le_refl _)]
   exact h
  ·rw [decide_eq_false e2]
   simp only [Bool.not_false,if_true]
   have z:leP a b=decide (a.2≤b.2):=by unfold leP; rw [e1]; simp
   rw [z] at h
   exact wpAny_bind (wpAny_rule (wpAny_bind (p5 (wpAny_bind (wpAny_pure (wpAny_pure (wpAny_pure (wpAny_pure h))))))))
 ·rw [decide_eq_false e1]
  simp only [Bool.not_false,if_true]
  have z:leP a b=decide (a.1≤b.1):=by unfold leP; simp [e1]; rw [Int.lt_iff_le_and_ne]; simp [e1]
  rw [z] at h
  exact wpAny_bind (wpAny_rule (wpAny_bind (p5 (wpAny_bind (wpAny_pure (wpAny_pure (wpAny_pure (wpAny_pure h))))))))
theorem le_pts {x y:Addr} {a b:Int×Int} {Q:Value→Shared→Prop} (hu:A.units < cLine) (hx:TK prog w s.heap [a.1,a.2] x) (hy:TK prog w s.heap [b.1,b.2] y) (h:Q (.bool (leP a b)) s):
  wpAny (model prog w) A (compareOp .LtE (.ref x) (.ref y)) Q E s:=
 wpAny_richCompare_same_room (op:=.LtE) hx.typeIs hy.typeIs PySem.F.slot_tuple_le
  (wpAny_call_entry PySem.F.slot_tuple_le hx.typeIs PySem.F.entry_tuple_le (uN hx hy ⟨_,rfl,(fun e=> nomatch e),h⟩) (PySem.F.args_tuple_le_2 _ _)) hu
end
end ST
namespace L2
open PySem PySem.Spec PyProof.Rows
section
variable {X:Cx} {H0:Hp} {O0:List Addr} {ps:PSt} {a b c:Expr} {pos:Pos} {x y z:U} {p q:P2} {k m:Bool}
theorem xJ {pins:List (Addr×Obj)} {σ:List (Option V)} {H:Hp} {s:Shared} (I:Inv X pins σ H s) {v:V} {u:Value} (r:Rp X.K H v (pu p)) (e:a_ v u):∃ b,u=.ref b∧ST.TK X.prog X.w s.heap [p.1,p.2] b:=by
 cases r with
 | @tup b zs _ hs hsl hsi=>
  cases e
  refine ⟨b,rfl,?_⟩
  obtain ⟨jts,rj,ht,_⟩:=I.tuple hs
  have z0:zs.length=2:=hsl
  match zs,z0,hsi,rj with
  | [z1,z2],_,hsi,rj=>
   have q1:=hsi 0 z1 _ rfl rfl
   have q2:=hsi 1 z2 _ rfl rfl
   cases q1
   cases q2
   obtain ⟨u1,u2,rfl,r1,r2⟩:=jb rj
   obtain ⟨t1,rfl⟩:=r1
   obtain ⟨t2,rfl⟩:=r2
   obtain ⟨o,ho,hoc,n,hod⟩:=ht
   exact ⟨o,_,n,ho,hoc,hod,.cons (intKind_is _ _ _ _) (.cons (intKind_is _ _ _ _) .nil)⟩
theorem xI (hu:X.A.units+10 < cLine):OpS X (compareOp .LtE) (pu p) (pu q) (.bl (ST.leP p q)):=by
 intro pins s σ H v w e f Q I r1 r2 h
 obtain ⟨k1,k2,k3⟩:=h
 obtain ⟨b1,rfl,t1⟩:=xJ I k1 r1
 obtain ⟨b2,rfl,t2⟩:=xJ I k2 r2
 exact ST.le_pts (by omega) t1 t2 (aU I k3 rfl)
theorem xt {cd:Expr} (hc:Tt X H0 O0 ps cd k) (ha:Ev X H0 O0 ps a x) (hb:Ev X H0 O0 ps b y):Ev X H0 O0 ps (.IfExp cd a b pos) (if k=true then x else y):=by
 cases k with
 | true=> exact xO hc (fun _=> ha) (fun h=> nomatch h)
 | false=> exact xO hc (fun h=> nomatch h) (fun _=> hb)
end
end L2
namespace L2
open PySem PySem.Spec PyProof.Rows
section
variable {X:Cx} {p q:P2} {l:List P2}
theorem zh {pins:List (Addr×Obj)} {σ:List (Option V)} {H:Hp} {s:Shared} (I:Inv X pins σ H s) {v:V} {u:Value} (r:Rp X.K H v (pu p)) (e:a_ v u):∃ b,u=.ref b∧∀ prog w,ST.TK prog w s.heap [p.1,p.2] b:=by
 cases r with
 | @tup b zs _ hs hsl hsi=>
  cases e
  refine ⟨b,rfl,fun prog w=> ?_⟩
  obtain ⟨jts,rj,ht,_⟩:=I.tuple hs
  have z0:zs.length=2:=hsl
  match zs,z0,hsi,rj with
  | [z1,z2],_,hsi,rj=>
   have q1:=hsi 0 z1 _ rfl rfl
   have q2:=hsi 1 z2 _ rfl rfl
   cases q1
   cases q2
   obtain ⟨u1,u2,rfl,r1,r2⟩:=jb rj
   obtain ⟨t1,rfl⟩:=r1
   obtain ⟨t2,rfl⟩:=r2
   obtain ⟨o,ho,hoc,n,hod⟩:=ht
   exact ⟨o,_,n,ho,hoc,hod,.cons (intKind_is _ _ _ _) (.cons (intKind_is _ _ _ _) .nil)⟩
end
end L2
namespace L2
open PySem PySem.Spec PyProof.Rows
section
variable {X:Cx} {H0:Hp} {O0:List Addr} {ps:PSt} {e:Expr} {pts:List P2} {pos pos' p p':Pos}
end
end L2
namespace ST
open PySem
def yL (prog:Program) (w:World) (A:Around) (op:CmpOp) (G:Heap→Prop) (P:Nat→Value→Prop) (bt:Nat→Nat→Bool):Prop:=
 ∀ i j vi vj (s:Shared) (Q:Value→Shared→Prop) (E:Value→Shared→Prop),G s.heap→P i vi→P j vj→Q (.bool (bt i j)) s→wpAny (model prog w) A (richCompare op vi vj) Q E s
section
variable {prog:Program} {w:World} {A:Around} {R:Result→Shared→Prop} {I S:Addr} {fp wr:List Addr} {n:Nat} {P:Nat→Value→Prop} {St:Nat→Heap→Prop} {G:Heap→Prop} {bt:Nat→Nat→Bool}
end
section
variable {prog:Program} {w:World} {A:Around} {E:Value→Shared→Prop} {s:Shared}
end
section
variable {prog:Program} {w:World} {A:Around} {R:Result→Shared→Prop} {I S:Addr} {fp wr:List Addr} {n:Nat} {P:Nat→Value→Prop} {St:Nat→Heap→Prop} {G:Heap→Prop} {bt:Nat→Nat→Bool}
theorem qD (W:Walks prog w A.in1 I fp wr n P St) (hc:yL prog w A.in1 .Gt G P bt) (stay:∀ h h':Heap,G h→(∀ b o,b ∉ wr→b≠S→h.get? b=some o→h'.get? b=some o)→G h') (hSf:S ∉ fp):
  ∀ (k j:Nat) (s:Shared) (vb:Value) (c:Nat),n - (j+1)=k→j+1≤n→G s.heap→St (j+1) s.heap→P (argBest bt j) vb→s.heap.get? S=some { cls:=.type "list",dict:=none,data:=.seq #[vb,vb] c,slots:=#[] }→
  (∀ v h' tk,P (argBest bt (n - 1)) v→(∀ b o,b ∉ wr→b≠S→s.heap.get? b=some o→h'.get? b=some o)→R (.ok (.ret v)) { s with heap:=h',toks:=tk })→
  codeAny (model prog w) A (.builtin "max.loop" ⟨[.ref I,.none,.ref S],[]⟩) R s:=by
 have nw:S ∉ wr:=fun h=> hSf (W.sub _ h)
 have nm:(toString "max"++toString ".loop":String)="max.loop":=by decide
 intro k
 induction k with
 | zero=>
  intro j s vb c hk hj g st pb hS hR
  obtain rfl:j+1=n:=by omega
  refine codeAny_builtin PySem.F.entry_max_loop ?_
  rw [Around.under_plainId PySem.F.plain_max_loop _]
  show wpAny _ A.in1 (seqItems? (.ref S) >>=_) _ _ s
  refine wpAny_bind (wpAny_seqItems hS rfl ?_)
  show wpAny _ A.in1 (tryCatch (pyNext (.ref I)) _ >>=_) _ _ s
  refine wpAny_bind (wpAny_tryCatch (W.done s _ _ st fun h' tk kp=> ?_))
  show wpAny _ A.in1 (updateSeq S (fun _=> #[]) >>=_) _ _ _
  refine wpAny_bind (wpAny_updateSeq (kp S _ nw hS) rfl (wpAny_bind (wpAny_letGo (wpAny_pure ?_))))
  exact hR vb _ tk pb fun b o hw hb e=> (Heap.get?_update_other _ _ (Ne.symm hb)).trans (kp b o hw e)
 | succ k ih=>
  intro j s vb c hk hj g st pb hS hR
  refine codeAny_builtin PySem.F.entry_max_loop ?_
  rw [Around.under_plainId PySem.F.plain_max_loop _]
  show wpAny _ A.in1 (seqItems? (.ref S) >>=_) _ _ s
  refine wpAny_bind (wpAny_seqItems hS rfl ?_)
  show wpAny _ A.in1 (tryCatch (pyNext (.ref I)) _ >>=_) _ _ s
  refine wpAny_bind (wpAny_tryCatch (W.item (j+1) s _ _ (by omega) st fun v h' tk pv st' kp=> ?_))
  have g':G h':=stay _ _ g fun b o hw _ e=> kp b o hw e
  have hS':=kp S _ nw hS
  show wpAny _ A.in1 (tryCatch (holding [v,v] (richCompare .Gt v vb >>=_)) _ >>=_) _ _ _
  refine wpAny_bind (wpAny_tryCatch (wpAny_holding (wpAny_bind (hc (j+1) (argBest bt j) v vb _ _ _ g' pv pb ?_))))
  refine wpAny_bind (wpAny_holding (wpAny_truthy_bool (wpAny_bind (wpAny_letGo (wpAny_pure ?_)))))
  by_cases hb:bt (j+1) (argBest bt j)=true
  ·rw [if_pos hb]
   refine wpAny_bind (wpAny_updateSeq hS' rfl (wpAny_bind (wpAny_letGo ?_)))
   rw [nm]
   have oth:∀ b o,b≠S→h'.get? b=some o→(h'.update S (Obj.mapSeq fun _=> #[v,v])).get? b=some o:=fun b o h e=> (Heap.get?_update_other _ _ (Ne.symm h)).trans e
   refine wpAny_pure ⟨plainId_quiet PySem.F.plain_max_loop _,ih (j+1) _ v _ (by omega) (by omega) (stay _ _ g' fun b o _ h e=> oth b o h e) (W.frame _ _ _ st' fun b hf o e=> oth b o (fun h=> hSf (h ▸ hf)) e) (by rw [argBest,if_pos hb]; exact pv) (Heap.get?_update_self _ hS' rfl) fun v2 h2 t2 p2 k2=> ?_⟩
   exact hR v2 h2 t2 p2 fun b o hw h e=> k2 b o hw h (oth b o h (kp b o hw e))
  ·rw [if_neg hb]
   refine wpAny_bind (wpAny_letGo ?_)
   rw [nm]
   refine wpAny_pure ⟨plainId_quiet PySem.F.plain_max_loop _,ih (j+1) _ vb c (by omega) (by omega) g' st' (by rw [argBest,if_neg hb]; exact pb) hS' fun v2 h2 t2 p2 k2=> ?_⟩
   exact hR v2 h2 t2 p2 fun b o hw h e=> k2 b o hw h (kp b o hw e)
theorem ou (W:Walks prog w A.in1 I fp wr n P St) (hc:yL prog w A.in1 .Gt G P bt) (stay:∀ h h':Heap,G h→(∀ b o,b ∉ wr→b≠S→h.get? b=some o→h'.get? b=some o)→G h') (hSf:S ∉ fp) (hn:0 < n) {s:Shared} {c:Nat} (g:G s.heap) (st:St 0 s.heap)
  (hS:s.heap.get? S=some { cls:=.type "list",dict:=none,data:=.seq #[] c,slots:=#[] })
  (hR:∀ v h' tk,P (argBest bt (n - 1)) v→(∀ b o,b ∉ wr→b≠S→s.heap.get? b=some o→h'.get? b=some o)→R (.ok (.ret v)) { s with heap:=h',toks:=tk }):
  codeAny (model prog w) A (.builtin "max.loop" ⟨[.ref I,.none,.ref S],[]⟩) R s:=by
 have nw:S ∉ wr:=fun h=> hSf (W.sub _ h)
 have nm:(toString "max"++toString ".loop":String)="max.loop":=by decide
 refine codeAny_builtin PySem.F.entry_max_loop ?_
 rw [Around.under_plainId PySem.F.plain_max_loop _]
 show wpAny _ A.in1 (seqItems? (.ref S) >>=_) _ _ s
 refine wpAny_bind (wpAny_seqItems hS rfl ?_)
 show wpAny _ A.in1 (tryCatch (pyNext (.ref I)) _ >>=_) _ _ s
 refine wpAny_bind (wpAny_tryCatch (W.item 0 s _ _ hn st fun v h' tk pv st' kp=> ?_))
 have hS':=kp S _ nw hS
 show wpAny _ A.in1 (updateSeq S (fun _=> #[v,v]) >>=_) _ _ _
 refine wpAny_bind (wpAny_updateSeq hS' rfl ?_)
 rw [nm]
 have oth:∀ b o,b≠S→h'.get? b=some o→(h'.update S (Obj.mapSeq fun _=> #[v,v])).get? b=some o:=fun b o h e=> (Heap.get?_update_other _ _ (Ne.symm h)).trans e
 refine wpAny_pure ⟨plainId_quiet PySem.F.plain_max_loop _,qD W hc stay hSf _ 0 _ v _ rfl hn (stay _ _ g fun b o hw h e=> oth b o h (kp b o hw e)) (W.frame _ _ _ st' fun b hf o e=> oth b o (fun h=> hSf (h ▸ hf)) e) pv (Heap.get?_update_self _ hS' rfl) fun v2 h2 t2 p2 k2=> ?_⟩
 exact hR v2 h2 t2 p2 fun b o hw h e=> k2 b o hw h (oth b o h (kp b o hw e))
end
section
variable {prog:Program} {w:World} {A:Around} {E:Value→Shared→Prop} {s:Shared}
theorem call_maxG {l:Addr} {items:Array Value} {G:Heap→Prop} {bt:Nat→Nat→Bool} {Q:Value→Shared→Prop} (hh:A.handled=none) (hl:s.heap.IsList l items) (hn:0 < items.size) (hc:yL prog w A.in1 .Gt G (fun i v=> items[i]?=some v) bt)
  (g:G s.heap) (stay:∀ h h':Heap,G h→(∀ b o,s.heap.get? b=some o→h.get? b=some o)→(∀ b o,s.heap.get? b=some o→h'.get? b=some o)→G h')
  (hQ:∀ v h' tk,items[argBest bt (items.size - 1)]?=some v→(∀ b o,s.heap.get? b=some o→h'.get? b=some o)→Q v { s with heap:=h',toks:=tk }):
  wpAny (model prog w) A (call (.builtin "max") [.ref l]) Q E s:=by
 have nm:(toString "max"++toString ".loop":String)="max.loop":=by decide
 refine call_function_tree PySem.F.kind_max PySem.F.plain_max PySem.F.entry_max (PySem.F.args_max1 _) ?_
 show wpAny _ A.in1 (Builtin.Builtins.bindParams "max" ["key","default"] 0 ⟨[],[]⟩ >>=_) _ _ s
 refine wpAny_bind (wpAny_of_eq (show Builtin.Builtins.bindParams "max" ["key","default"] 0 ⟨[],[]⟩=pure [none,none] from rfl) ?_)
 refine wpAny_bind (wpAny_pure ?_)
 refine wpAny_bind (wpAny_pyIter_list hl ?_)
 have hal:l < s.heap.objs.size:=by obtain ⟨o,e,_⟩:=hl; exact Heap.lt_size e
 refine wpAny_bind (wpAny_newObj_type ?_)
 rw [nm]
 have W:=Walks.list (prog:=prog) (w:=w) (A:=A.in1) hh s.heap.objs.size l (Nat.ne_of_lt hal) items
 have up:∀ b o,s.heap.get? b=some o→((s.heap.push { cls:=.type "list_iterator",data:=.fields #[.ref l,.int 0 0] }).push { cls:=.type "list",data:=.seq #[] }).get? b=some o:=fun b o e=> Heap.get?_push_of_some _ (Heap.get?_push_of_some _ e)
 have sI:(s.heap.push { cls:=.type "list_iterator",data:=.fields #[.ref l,.int 0 0] }).objs.size=s.heap.objs.size+1:=Heap.size_push ..
 have lt:∀ b o,s.heap.get? b=some o→b ∉ [s.heap.objs.size]∧b≠(s.heap.push { cls:=.type "list_iterator",data:=.fields #[.ref l,.int 0 0] }).objs.size:=fun b o e=> by
  have h:=Heap.lt_size e
  refine ⟨fun z=> ?_,fun z=> ?_⟩
  ·rw [List.mem_singleton.mp z] at h; exact Nat.lt_irrefl _ h
  ·rw [z,sI] at h; exact Nat.lt_irrefl _ (Nat.lt_of_succ_lt h)
 refine wpAny_pure ⟨plainId_quiet PySem.F.plain_max_loop _,ou (G:=fun h=> G h∧∀ b o,s.heap.get? b=some o→h.get? b=some o) W (fun i j vi vj s' Q' E' g'=> hc i j vi vj s' Q' E' g'.1) (fun h h' g' kp=> ?_) ?_ hn ⟨stay _ _ g (fun _ _ e=> e) up,up⟩ ⟨⟨_,Heap.get?_push_of_some _ (Heap.get?_push_size _ rfl),rfl,rfl⟩,(hl.push _).push _⟩ (Heap.get?_push_size _ rfl) fun v h' tk pv kp=> ?_⟩
 ·have k2:∀ b o,s.heap.get? b=some o→h'.get? b=some o:=fun b o e=> kp b o (lt b o e).1 (lt b o e).2 (g'.2 b o e)
  exact ⟨stay _ _ g'.1 g'.2 k2,k2⟩
 ·intro z
  have z':(s.heap.push { cls:=.type "list_iterator",data:=.fields #[.ref l,.int 0 0] }).objs.size∈[s.heap.objs.size,l]:=z
  rw [sI] at z'
  rcases List.mem_cons.mp z' with z | z
  ·exact absurd z (Nat.succ_ne_self _)
  ·have e:=List.mem_singleton.mp z
   rw [← e] at hal; exact absurd hal (Nat.not_lt_of_gt (Nat.lt_succ_self _))
 ·exact hQ v h' tk pv fun b o e=> kp b o (lt b o e).1 (lt b o e).2 (up b o e)
end
end ST
namespace ST
open PySem PyProof.Rows
section
variable {prog:Program} {w:World} {A:Around} {E:Value→Shared→Prop} {s:Shared}
theorem pU {x y:Int} {t u:Tok} {Q:Value→Shared→Prop} (h:Q (.bool (decide (y < x))) s):wpAny (model prog w) A (richCompare .Gt (.int x t) (.int y u)) Q E s:=
 richCompare_gives (op:=.Gt) (typeIs_int s _ t) (typeIs_int s _ u) PySem.F.slot_int_gt PySem.F.entry_int_gt (PySem.F.args_int_gt_2 _ _) (gives_int_gt _ _ t u) (fun x=> nomatch x) h
theorem uJ {x y:Addr} {a b:Int×Int} {P:Fin→Shared→Prop} (hx:TK prog w s.heap [a.1,a.2] x) (hy:TK prog w s.heap [b.1,b.2] y) (h:P (.done (.ret (.bool (ltP b a)))) s):
  wpAny (model prog w) A (Builtin.«tuple.__gt__» ⟨[.ref x,.ref y],[]⟩) P E s:=by
 have hTb:=hy.typeIs
 obtain ⟨o,its,n,t,u,ho,_,hd,hi⟩:=hx.two
 obtain ⟨o',its',n',t',u',ho',_,hd',hi'⟩:=hy.two
 show wpAny _ _ (isInstance (.ref y) (.type "tuple") >>=_) _ _ s
 refine wpAny_bind (wpAny_isInstance hTb isSubtype_tuple_tuple ?_)
 simp only [Bool.not_true,Bool.false_eq_true,if_false]
 refine wpAny_bind (wpAny_tupleItemsOf ho hd ?_)
 refine wpAny_bind (wpAny_tupleItemsOf ho' hd' ?_)
 have sz:its.size=its'.size:=by rw [← Array.length_toList,← Array.length_toList,hi,hi']; rfl
 rw [hi,hi']
 refine wpAny_bind ?_
 simp only [List.zip_cons_cons,List.zip_nil_left,List.forIn_cons,List.forIn_nil]
 refine wpAny_bind (wpAny_bind ((intKind prog w).eqBool (a:=a.1) (b:=b.1) (intKind_is _ _ _ _) (intKind_is _ _ _ _) ?_))
 by_cases e1:a.1=b.1
 ·rw [decide_eq_true e1]
  simp only [Bool.not_true,Bool.false_eq_true,if_false]
  refine wpAny_pure ?_
  refine wpAny_bind (wpAny_bind ((intKind prog w).eqBool (a:=a.2) (b:=b.2) (intKind_is _ _ _ _) (intKind_is _ _ _ _) ?_))
  by_cases e2:a.2=b.2
  ·rw [decide_eq_true e2]
   simp only [Bool.not_true,Bool.false_eq_true,if_false]
   refine wpAny_pure (wpAny_pure ?_)
   have z:ltP b a=false:=by unfold ltP; simp; omega
   rw [z] at h
   refine wpAny_pure ?_
   show P (.done (.ret (.bool (decide (its.size > its'.size))))) s
   rw [sz,decide_eq_false (Nat.lt_irrefl _)]
   exact h
  ·rw [decide_eq_false e2]
   simp only [Bool.not_false,if_true]
   have z:ltP b a=decide (b.2 < a.2):=by unfold ltP; rw [e1]; simp
   rw [z] at h
   exact wpAny_bind (wpAny_rule (wpAny_bind (pU (wpAny_bind (wpAny_pure (wpAny_pure (wpAny_pure (wpAny_pure h))))))))
 ·rw [decide_eq_false e1]
  simp only [Bool.not_false,if_true]
  have z:ltP b a=decide (b.1 < a.1):=by unfold ltP; simp [Ne.symm e1]
  rw [z] at h
  exact wpAny_bind (wpAny_rule (wpAny_bind (pU (wpAny_bind (wpAny_pure (wpAny_pure (wpAny_pure (wpAny_pure h))))))))
theorem gt_ptsR {x y:Addr} {a b:Int×Int} {Q:Value→Shared→Prop} (hu:A.units < cLine) (hx:TK prog w s.heap [a.1,a.2] x) (hy:TK prog w s.heap [b.1,b.2] y) (h:Q (.bool (ltP b a)) s):
  wpAny (model prog w) A (compareOp .Gt (.ref x) (.ref y)) Q E s:=
 wpAny_richCompare_same_room (op:=.Gt) hx.typeIs hy.typeIs PySem.F.slot_tuple_gt
  (wpAny_call_entry PySem.F.slot_tuple_gt hx.typeIs PySem.F.entry_tuple_gt (uJ hx hy ⟨_,rfl,(fun e=> nomatch e),h⟩) (PySem.F.args_tuple_gt_2 _ _)) hu
end
theorem vL {a b:Int×Int}:ltP a b=true↔(a.1 < b.1∨(a.1=b.1∧a.2 < b.2)):=by unfold ltP; exact decide_eq_true_iff
theorem ltP_no {a b:Int×Int}:ltP a b=false↔¬ (a.1 < b.1∨(a.1=b.1∧a.2 < b.2)):=by unfold ltP; exact decide_eq_false_iff_not
theorem ltP_one {a b:Int×Int} (h1:ltP a b=false) (h2:ltP b a=false):a=b:=by
 rw [ltP_no] at h1 h2
 obtain ⟨a1,a2⟩:=a
 obtain ⟨b1,b2⟩:=b
 simp only [Prod.mk.injEq] at *
 omega
theorem best_max (f:Nat→Int×Int):∀ k,argBest (fun i j=> ltP (f j) (f i)) k≤k∧∀ j,j≤k→ltP (f (argBest (fun i j=> ltP (f j) (f i)) k)) (f j)=false
 | 0=> ⟨Nat.le_refl _,fun j hj=> by
  obtain rfl:j=0:=by omega
  rw [ltP_no]; simp [argBest]⟩
 | k+1=> by
  obtain ⟨h1,h2⟩:=best_max f k
  by_cases hb:ltP (f (argBest (fun i j=> ltP (f j) (f i)) k)) (f (k+1))=true
  ·rw [argBest,if_pos hb]
   refine ⟨Nat.le_refl _,fun j hj=> ?_⟩
   rw [vL] at hb
   rcases Nat.lt_or_ge j (k+1) with z | z
   ·have:=ltP_no.mp (h2 j (by omega))
    rw [ltP_no]; omega
   ·obtain rfl:j=k+1:=by omega
    rw [ltP_no]; omega
  ·rw [argBest,if_neg hb]
   refine ⟨by omega,fun j hj=> ?_⟩
   rcases Nat.lt_or_ge j (k+1) with z | z
   ·exact h2 j (by omega)
   ·obtain rfl:j=k+1:=by omega
    simpa using hb
end ST
namespace L2
open PySem PySem.Spec PyProof.Rows
section
variable {X:Cx} {pts:List P2} {M:P2}
theorem yW {pins:List (Addr×Obj)} {σ:List (Option V)} {H:Hp} {s:Shared} (I:Inv X pins σ H s) {ws:List V} {its:List Value} (rv:aN ws its) (rs:Rps X.K H ws (pts.map pu)) (i:Nat) (y:Value) (hy:its.toArray[i]?=some y):
  i < pts.length∧∃ c,y=.ref c∧ws[i]?=some (.ref c)∧∀ prog w,ST.TK prog w s.heap [(pts.getD i (0,0)).1,(pts.getD i (0,0)).2] c:=by
 have hy':its[i]?=some y:=by simpa using hy
 have hll:ws.length=pts.length:=by rw [rs.len,List.length_map]
 have hi:i < its.length:=aP hy'
 have hw:i < ws.length:=by rw [rv.length]; exact hi
 have hq:i < pts.length:=by omega
 obtain ⟨u,e1,e2⟩:=rv.get (List.getElem?_eq_getElem hw)
 rw [hy'] at e1
 cases e1
 have r:=rs.at_ i _ (pu (pts.getD i (0,0))) (List.getElem?_eq_getElem hw) (by rw [List.getElem?_map,List.getElem?_eq_getElem hq]; simp [hq])
 obtain ⟨c,rfl,t⟩:=zh I r e2
 refine ⟨hq,c,rfl,?_,t⟩
 rw [List.getElem?_eq_getElem hw]
 generalize ws[i]=z at *
 cases r
 cases e2
 rfl
theorem Ak {g:Nat} (hg:g < pts.length):(pts.map pu)[g]?=some (pu (pts.getD g (0,0))):=by
 rw [List.getElem?_map,List.getElem?_eq_getElem hg]; simp [hg]
theorem yO (hc:X.calm=true) (hu:X.A.units+10 < cLine) (hM:M∈pts) (hL:∀ q∈pts,ST.ltP M q=false):e7 X (.builtin "max") [lp pts] (pu M):=by
 intro pins s σ H vs us Q I r hq
 obtain ⟨O,d,rs,q⟩:=hq
 obtain ⟨v,rfl,h1⟩:=cX rs
 obtain ⟨p1,rfl,r1⟩:=fX r
 cases h1 with
 | @lst a ws _ hq hl hh=>
  cases r1
  obtain ⟨its,rv,pl,_⟩:=I.list (SqL.of (ay _ _ hq))
  have rs':Rps X.K (hid H O) ws (pts.map pu):=⟨hl,hh⟩
  have hlen:its.toArray.size=pts.length:=by rw [List.size_toArray,← rv.length,hl,List.length_map]
  have hat:=yW (pts:=pts) I rv (rs'.same ay)
  have hn:0 < pts.length:=List.length_pos_of_mem hM
  refine ST.call_maxG (G:=fun h=> ∀ (i:Nat) (y:Value),its.toArray[i]?=some y→∃ c,y=.ref c∧ST.TK X.prog X.w h [(pts.getD i (0,0)).1,(pts.getD i (0,0)).2] c) (bt:=fun i j=> ST.ltP (pts.getD j (0,0)) (pts.getD i (0,0))) (I.ok.hd hc) pl.isList (by rw [hlen]; exact hn) (fun i j vi vj s' Q' E' g hi hj k=> ?_) (fun i y hy=> ?_) (fun h h' _ _ k2 i y hy=> ?_) fun y h' tk hy kp=> ?_
  ·obtain ⟨c,rfl,t⟩:=g i vi hi
   obtain ⟨c',rfl,t'⟩:=g j vj hj
   exact ST.gt_ptsR (show X.A.units+1 < cLine by omega) t t' k
  ·obtain ⟨_,c,rfl,_,t⟩:=hat i y hy
   exact ⟨c,rfl,t _ _⟩
  ·obtain ⟨_,c,rfl,_,t⟩:=hat i y hy
   obtain ⟨o,items,n,ho,z⟩:=t X.prog X.w
   exact ⟨c,rfl,o,items,n,k2 c o ho,z⟩
  ·obtain ⟨hg,c,rfl,hw,t⟩:=hat _ y hy
   obtain ⟨b1,b2⟩:=ST.best_max (fun i=> pts.getD i (0,0)) (its.toArray.size - 1)
   have e:pts.getD (argBest (fun i j=> ST.ltP (pts.getD j (0,0)) (pts.getD i (0,0))) (its.toArray.size - 1)) (0,0)=M:=by
    rw [hlen] at b1 b2 hg ⊢
    generalize argBest (fun i j=> ST.ltP (pts.getD j (0,0)) (pts.getD i (0,0))) (pts.length - 1)=g at *
    obtain ⟨j,hj⟩:=List.mem_iff_getElem?.mp hM
    have k1:=b2 j (by have:=aP hj; omega)
    rw [show pts.getD j (0,0)=M by rw [List.getD_eq_getElem?_getD,hj]; rfl] at k1
    exact ST.ltP_one k1 (hL _ (by simp [hg]))
   refine ⟨.ref c,H,I.kept (t':=tk) kp,rfl,q _ H (.refl H) ?_⟩
   have z:=rs'.at_ _ _ _ hw (Ak hg)
   rw [e] at z
   exact z
end
end L2
namespace L2
open PySem PySem.Spec PyProof.Rows
section
variable {X:Cx} {H0:Hp} {O0:List Addr} {ps:PSt} {xs:List U} {x:Str} {pos pc p':Pos}
end
end L2
namespace L2
open PySem PySem.Spec PyProof.Rows
section
variable {X:Cx} {H0:Hp} {O0:List Addr} {ps:PSt} {x:Str} {pos:Pos} {a b:Expr} {i j:Int}
end
end L2
namespace L2
open PySem PySem.Spec PyProof.Rows
section
variable {X:Cx} {H0:Hp} {O0:List Addr} {ps:PSt} {e tg:Expr} {p pos:Pos} {xs:List U} {x:U}
end
end L2
namespace L2
open PySem PySem.Spec PyProof.Rows
section
variable {X:Cx} {H0:Hp} {O0:List Addr} {ps:PSt} {a b:Expr} {pos:Pos} {xs:List U} {u:U} {k:Int}
end
end L2
namespace L2
open PySem PySem.Spec PySem.W PyProof.Rows
section
variable {X:Cx}
end
end L2
namespace L2
open PySem PySem.Spec PyProof.Rows
section
variable {X:Cx} {H0:Hp} {O0:List Addr} {E:XK} {ps ps':PSt} {D:PD} {s:Stmt} {ss body:List Stmt} {a b c e:Expr} {es:List Expr} {pos p:Pos} {u x y:U} {xs ys us:List U} {k:Bool}
 {CX:CXT} {n:Nat} {f C:Addr} {fd:FuncData} {pn:List Str} {spec:List U→Out→Prop} {nm:Str}
end
end L2
namespace L2
open PySem PySem.Spec PyProof.Rows
section
variable {X:Cx} {H0:Hp} {O0:List Addr} {E:XK} {ps:PSt} {D:PD} {ss:List Stmt} {e:Expr} {xs:List U} {b:Bool}
end
end L2
namespace L2
open PySem PySem.Spec PyProof.Rows
section
variable {X:Cx} {ns:List Int} {M:Int}
theorem zi (hc:X.calm=true) (hM:M∈ns∧∀ a∈ns,a≤M):e7 X (.builtin "max") [.lst (ns.map U.int)] (.int M):=by
 intro pins s σ H vs us Q I r hq
 obtain ⟨O,d,rs,q⟩:=hq
 obtain ⟨v,rfl,h1⟩:=cX rs
 obtain ⟨p1,rfl,r1⟩:=fX r
 cases h1 with
 | @lst a ws _ hq hl hh=>
  cases r1
  obtain ⟨its,rv,pl,_⟩:=I.list (SqL.of (ay _ _ hq))
  have hlen:its.length=ns.length:=by rw [← rv.length,hl,List.length_map]
  have hat:=jK (ns:=ns) rv ⟨hl,hh⟩
  have hn:0 < ns.length:=List.length_pos_of_mem hM.1
  refine call_max_walk (wpAny_pyIter_list pl.isList ?_)
  have hal:a < s.heap.objs.size:=by obtain ⟨o,e,_⟩:=pl.isList; exact Heap.lt_size e
  refine ⟨s.heap.objs.size,_,_,_,_,_,_,rfl,Walks.list (A:=X.A.in1) (I.ok.hd hc) s.heap.objs.size a (Nat.ne_of_lt hal) its.toArray,⟨⟨_,Heap.get?_push_size _ rfl,rfl,rfl⟩,pl.isList.push _⟩,fun b hb=> ?_,by rw [List.size_toArray,hlen]; exact hn,CmpOf.ints_gt (fun i=> ns.getD i 0) hat,fun v h' tk hP hk=> ?_⟩
  ·show b < (s.heap.push _).objs.size
   rw [Heap.size_push]
   rcases List.mem_cons.mp hb with z | z
   ·rw [z]; exact Nat.lt_succ_self _
   ·rw [List.mem_singleton.mp z]; exact Nat.lt_succ_of_lt hal
  ·obtain ⟨t,rfl⟩:=hat _ _ hP
   obtain ⟨b1,b2⟩:=argBest_gt (fun i=> ns.getD i 0) (its.toArray.size - 1)
   have e:ns.getD (argBest (fun i j=> decide (ns.getD i 0 > ns.getD j 0)) (its.toArray.size - 1)) 0=M:=by
    rw [List.size_toArray,hlen] at b1 b2 ⊢
    generalize argBest (fun i j=> decide (ns.getD i 0 > ns.getD j 0)) (ns.length - 1)=g at *
    have hg:g < ns.length:=by omega
    obtain ⟨j,hj,ej⟩:=List.getElem_of_mem hM.1
    have k1:=b2 j (by omega)
    have k2:=hM.2 ns[g] (List.getElem_mem hg)
    simp only [List.getD_eq_getElem?_getD,List.getElem?_eq_getElem hg,List.getElem?_eq_getElem hj,Option.getD_some] at k1 ⊢
    omega
   rw [e]
   refine ⟨.int M,H,I.kept (t':=tk) fun b o e=> hk b o ?_ (Heap.get?_push_of_some _ e),⟨t,rfl⟩,q _ H (.refl H) (.int _)⟩
   intro z
   have:b=s.heap.objs.size:=by simpa using z
   exact absurd (Heap.lt_size e) (by rw [this]; exact Nat.lt_irrefl _)
end
end L2
namespace L2
open PySem PySem.Spec PyProof.Rows
section
variable {X:Cx} {H0:Hp} {O0:List Addr} {E:XK} {ps:PSt} {D:PD} {e:Expr} {pos:Pos} {xs ys:List U}
end
end L2
namespace L2
open PySem PySem.Spec PySem.W PyProof.Rows
section
variable {X:Cx}
end
section
variable {X:Cx} {H0:Hp} {O0:List Addr} {E:XK} {ps:PSt} {D:PD} {a e:Expr} {es:List Expr} {us:List U} {k:Bool} {n:Nat} {fd:FuncData} {pn:List Str} {spec:List U→Out→Prop}
end
end L2
namespace L2
open PySem PySem.Spec PyProof.Rows
section
variable {X:Cx} {H0:Hp} {O0:List Addr} {ps:PSt} {a b:Expr} {p:P2} {l:List P2}
end
end L2
namespace ST
open PySem PySem.W PySem.Calls PyProof.Rows
section
variable {prog:Program} {w:World} {A:Around} {E:Value→Shared→Prop} {s:Shared}
end
end ST
namespace L2
open PySem PySem.Spec PyProof.Rows
section
variable {X:Cx} {H0:Hp} {O0:List Addr} {ps:PSt} {e:Expr} {p pos:Pos} {a b:P2}
end
end L2
namespace ST
open PySem PySem.W PySem.Calls PyProof.Rows
section
variable {prog:Program} {w:World} {A:Around} {E:Value→Shared→Prop} {s:Shared}
end
end ST
namespace L2
open PySem PySem.Spec PyProof.Rows
section
variable {X:Cx} {H0:Hp} {O0:List Addr} {ps:PSt} {e:Expr} {pts:List P2} {pos p:Pos}
end
end L2
namespace L2
open PySem PySem.Spec PySem.W PyProof.Rows
section
variable {X:Cx}
end
section
variable {X:Cx} {H0:Hp} {O0:List Addr} {E:XK} {ps:PSt} {D:PD} {a e:Expr} {es:List Expr} {us:List U} {k:Bool} {n:Nat} {fd:FuncData} {pn:List Str} {spec:List U→Out→Prop}
end
end L2
namespace L2
open PySem PySem.Spec PySem.W PyProof.Rows
structure t6 (K:PySem.W.Frag) (x qual:Str) (st:Stmt) (f:Addr) (fd:FuncData) (D:Addr):Prop where
 ex:∃ (oc:Value) (od:Option Addr) (kV doc pm:Value) (an:Option Addr) (cdv ct:Value) (osl:Array (Option Value)),
  fd=PySem.W.fnOf x qual (au st) (aq st) (ai st) (.ref D) kV doc pm an cdv ct∧K.lookup f=some ⟨oc,od,.func fd,osl⟩∧PySem.W.codeIn K cdv qual=true
 kp:PySem.W.keepIn K (.ref f)=true
theorem vJ {K:PySem.W.Frag} {x qual:Str} {st:Stmt} {f D:Addr} {oc:Value} {od an:Option Addr} {osl:Array (Option Value)} {kV doc pm cdv ct:Value} (l:K.lookup f=some ⟨oc,od,.func (PySem.W.fnOf x qual (au st) (aq st) (ai st) (.ref D) kV doc pm an cdv ct),osl⟩)
  (c:PySem.W.codeIn K cdv qual=true) (k:PySem.W.keepIn K (.ref f)=true):t6 K x qual st f (PySem.W.fnOf x qual (au st) (aq st) (ai st) (.ref D) kV doc pm an cdv ct) D:=⟨⟨oc,od,kV,doc,pm,an,cdv,ct,osl,rfl,l,c⟩,k⟩
section
variable {P:Program} {w:World} {K:PySem.W.Frag} {mg:Str→Option Value} {base:Heap} {N pn:List Str} {qual nm:Str} {f D:Addr}
theorem t6.okF {x:Str} {st:Stmt} {fd:FuncData} {k:Nat} {sp:Sp} (F:t6 K x qual st f fd D) (S:av N pn (ai st)) (len:∀ vs H Q E,sp vs H Q E→vs.length=pn.length)
  (hbody:∀ (cdv:Value) (A:Around) (outer:List Env) (s:Shared) (H:Hp) (vs:List V) (Q:VK) (E:XK),dJ k (A.deeper (envOfC qual (ai st) s.heap.objs.size f cdv))→sp vs H Q E→
   ∃ t,PSs (dN (CXF P w) P w K mg base N qual (ai st) f cdv A outer s H E) (aq st) t∧t { nx:=fun _ H'=> Q .non H',rt:=Q } (start N vs) H):bh P w K mg base (CXF P w) (k+1) f fd pn sp:=by
 obtain ⟨oc,od,kV,doc,pm,an,cdv,ct,osl,rfl,lk,hcd⟩:=F.ex
 exact xx lk hcd S len fun A outer s H vs Q E hr hsp=> hbody cdv A outer s H vs Q E hr hsp
theorem yp {st:Stmt} {fd:FuncData} {k:Nat} {spec:List U→Out→Prop} (F:t6 K nm qual st f fd D) (S:av N pn (ai st)) (len:∀ us o,spec us o→us.length=pn.length)
  (hbody:∀ (cdv:Value) (A:Around) (outer:List Env) (s:Shared) (H:Hp) (E:XK) (O:List Addr) (us:List U) (o:Out),dJ k (A.deeper (envOfC qual (ai st) s.heap.objs.size f cdv))→spec us o→
   Ws (dN (CXF P w) P w K mg base N qual (ai st) f cdv A outer s H E) H O E (aq st) ⟨fun _=> o=.val .non,fun o'=> o'=o,fun _=> False,fun _=> False⟩ (e8 N us)):bh P w K mg base (CXF P w) (k+1) f fd pn (spU K spec):=by
 refine F.okF S (fun vs H Q E h=> ?_) fun cdv A outer s H vs Q E hr h=> ?_
 ·obtain ⟨us,O,o,_,r,hsp,_⟩:=h
  rw [r.len]; exact len us o hsp
 ·obtain ⟨us,O,o,d,r,hsp,q⟩:=h
  refine ⟨_,hbody cdv A outer s H E O us o hr hsp,⟨fun ps σ H' O' R e=> ?_,fun _ _ _ _ _ e=> e.elim,fun _ _ _ _ _ e=> e.elim,fun o' e=> by subst e; exact q⟩,O,?_⟩
  ·subst e; exact q .non H' R.same .non
  ·refine ⟨.refl H,fun a h=> h,fun a h=> .inl h,d,?_,fun i sl e=> ?_,fun i j xs ys a e1 e2 _ _=> ?_⟩
   ·unfold start e8
    rw [List.length_append,List.length_append,List.length_map,List.length_map,List.length_replicate,List.length_replicate,r.len]
   ·unfold e8 at e
    by_cases hi:i < us.length
    ·rw [List.getElem?_append_left (by simpa using hi),List.getElem?_map,List.getElem?_eq_getElem hi] at e
     cases e
     obtain ⟨v,h1,h2⟩:=r.get (List.getElem?_eq_getElem hi)
     refine ⟨v,?_,h2⟩
     unfold start
     rw [List.getElem?_append_left (by simpa [r.len] using hi),List.getElem?_map,h1]; rfl
    ·rw [List.getElem?_append_right (by simpa using hi),List.getElem?_replicate] at e
     split at e <;> cases e
   ·exfalso
    unfold e8 at e1
    by_cases hi:i < us.length
    ·rw [List.getElem?_append_left (by simpa using hi),List.getElem?_map,List.getElem?_eq_getElem hi] at e1
     cases e1
    ·rw [List.getElem?_append_right (by simpa using hi),List.getElem?_replicate] at e1
     split at e1 <;> cases e1
end
section
variable {X:Cx} {H0:Hp} {O0:List Addr} {ps:PSt} {e:Expr} {es:List Expr} {pos p:Pos} {u:U} {us:List U} {xs:List U} {CX:CXT} {n:Nat} {f:Addr} {fd:FuncData} {pn:List Str} {spec:List U→Out→Prop} {nm:Str} {j:Int}
theorem xj (F:bh X.prog X.w X.K X.mg X.base CX n f fd pn (spU X.K spec)) (hr:dJ n X.A) (hg:Gl X nm) (hm:X.mg nm=some (.ref f)) (hk:PySem.W.keepIn X.K (.ref f)=true) (hb:∃ t,aQ X.K fd pn [.int j t]) (hx:fA CX X E0)
  (ha:EvA X H0 O0 ps (e::es) us) (h:spec (us++[.int j]) (.val u)) (hdb:(nm==("__debug__":Str))=false:=by decide) (he:starEach (e::es) X.env=(false,eval e X.env)::starEach es X.env:=by rfl) (hpl:(backTo pos (starEach es X.env)).any (·.1)=false:=by rfl):
  Ev X H0 O0 ps (.Call (.Name nm p) (e::es) [] pos) u:=by
 obtain ⟨t,hb⟩:=hb
 refine PE.mono (iL F hr hg hm hk hb (.cons (show a_ (.int j) (.int j t) from ⟨t,rfl⟩) .nil) hx ha hdb he hpl) fun σ H Q ⟨O,R,q⟩=> ⟨O,R,fun vs H1 s1 r1=> ?_⟩
 show spU X.K spec (vs++[.int j]) H1 Q _
 exact ⟨us++[.int j],O,.val u,(R.go s1).dom,r1.snoc (.cons (.int _) .nil),h,fun v H2 s2 r2=> q v H2 (s1.trans s2) r2⟩
end
end L2
namespace L2
open PySem PySem.Spec PyProof.Rows
section
variable {X:Cx} {H0:Hp} {O0:List Addr} {ps:PSt} {a b:Expr} {k:Int} {ns:List Int}
end
end L2
namespace L2
open PySem PySem.Spec PyProof.Rows
section
variable {X:Cx} {tg:Expr}
variable {H0:Hp} {O0:List Addr} {ps:PSt} {a b:Expr} {p pos:Pos}
end
section
variable {X:Cx} {H0:Hp} {O0:List Addr} {E:XK} {ps ps':PSt} {D:PD} {tg iter cond:Expr} {pos p:Pos} {xs:List U}
theorem og {elt:Expr} {scope:Scope} {cl:List (Str×Addr)} {spos py:Pos} {y:Str} {j:Nat} {is:List Nat} {g:TG} {f:PSt→U→PSt} {dom:U→Prop} (fs:List (Option U)) (own:Bool) (hc:X.calm=true) (hN:X.N.Nodup) (hj:X.N[j]?=some y) (hy:Loc X.env.scope y) (B:cY X scope cl is)
  (hi:EvI X H0 O0 ps tg iter xs) (hg:∀ C s H fp,PG (ax X scope cl C s H fp) tg g) (gk:GOk g X.K is f dom) (hlen:fs.length=xs.length) (hz:xs.length≤sizeLine) (hdom:∀ x∈xs,dom x)
  (ht:∀ C s H fp (i:Nat) (x:U) (o:Option U),xs[i]?=some x→fs[i]?=some o→Tt (ax X scope cl C s H fp) H0 O0 (f (d_ is ps) x) cond o.isSome)
  (he:∀ C s H fp (i:Nat) (x y:U),xs[i]?=some x→fs[i]?=some (some y)→Ev (ax X scope cl C s H fp) H0 O0 (f (d_ is ps) x) elt y) (h:D.nx (ps.set j (some (if own then .own (fs.filterMap id) else .val (.lst (fs.filterMap id))))))
  (hs:∀ x,foldedSetIterable iter X.env x=pure x:=by intro _; rfl)
  (hsw:swapsWith (.ListComp elt [⟨tg,iter,[cond],0⟩] scope pos) (some (.Name y py)) spos.line X.env=pure true:=by rfl) (hf:X.fn y=true∨X.env.scope.names.lookup y=some .local:=by first | exact .inl rfl | exact .inr rfl | assumption):
  W1 X H0 O0 E (.Assign [.Name y py] (.ListComp elt [⟨tg,iter,[cond],0⟩] scope pos) spos) D ps:=by
 have hte:∀ C s H fp,PE (ax X scope cl C s H fp) elt fun σ H Q=> ∃ i x y,xs[i]?=some x∧fs[i]?=some (some y)∧∃ O',Rs X.K H0 O0 (f (d_ is ps) x) σ H O'∧∀ v H',aI H H'→Rp X.K (hid H' O') v y→Q v H':=
  fun C s H fp pins s' σ H' Q I ⟨i,x,y,h1,h2,z⟩=> he C s H fp i x y h1 h2 pins s' σ H' Q I z
 have htt:∀ C s H fp,PT (ax X scope cl C s H fp) cond fun σ H Q=> ∃ (i:Nat) (x:U) (o:Option U),xs[i]?=some x∧fs[i]?=some o∧∃ O',Rs X.K H0 O0 (f (d_ is ps) x) σ H O'∧∀ H',aI H H'→Q o.isSome H':=
  fun C s H fp pins s' σ H' Q I ⟨i,x,o,h1,h2,z⟩=> ht C s H fp i x o h1 h2 pins s' σ H' Q I z
 refine PS.mono (mJ hc hN hj hy B hi hg htt hte hs hsw hf) fun D' σ H ⟨L,O,R⟩=> ⟨O,R,fun J H1 s1 Y=> ?_⟩
 refine oK gk (R.go s1) Y hlen hz hdom (fun i x o σ H O' Q h1 h2 R' z=> ⟨i,x,o,h1,h2,O',R',z⟩) (fun i x y σ H O' Q h1 h2 R' z=> ⟨i,x,y,h1,h2,O',R',z⟩) fun a vs H' s n h' r=> ?_
 cases own with
 | true=> exact L.nx _ _ _ _ ((R.go s1).own s n h' r) h
 | false=>
  have na:a ∉ O:=fun z=> (R.go s1).dom a z n
  have r':=r.same (d8 fun b hb=> List.mem_cons_of_mem a hb)
  exact L.nx _ _ _ _ (((R.go s1).go s).set (.lst (dH h' na) r'.len r'.at_)) h
end
end L2
local macro_rules | `(tactic| walk_at "sz")=> `(tactic| first | with_reducible assumption | ((with_reducible apply L2.Sz.sub') <;> walk_at "sz") | ((with_reducible apply L2.Sz.add') <;> walk_at "sz") | ((with_reducible apply L2.Sz.mul) <;> walk_at "sz") | ((with_reducible apply L2.Sz.neg) <;> walk_at "sz") | ((with_reducible apply L2.Sz.ediv) <;> walk_at "sz") | ((with_reducible apply L2.Sz.abs) <;> walk_at "sz") | exact L2.Sz.lit (m:=8) (by decide) | exact L2.Sz.emod (m:=250) (by decide) (by decide) | exact L2.Sz.lit (m:=250) (by decide))
local macro_rules | `(tactic| walk_at "mul")=> `(tactic| exact L2.Sz.ok (by walk_at "sz") (by walk_at "sz") (by decide))
local macro_rules | `(tactic| walk_at "div")=> `(tactic| first | exact ⟨by decide,L2.Sz.mono (m:=250) (by decide) (by decide)⟩ | exact ⟨by omega,L2.Sz.mono (by walk_at "sz") (by decide)⟩)
local macro_rules | `(tactic| walk_at "mod")=> `(tactic| first | decide | omega)
local macro_rules | `(tactic| walk_at "szb")=> `(tactic| exact L2.Sz.mono (by walk_at "sz") (by decide))
local macro_rules | `(tactic| walk_at "kit")=> `(tactic| first | exact L2.kit_int_int _ | exact L2.kit_int_bool _ | exact L2.kit_tuple_tuple _ | exact L2.kit_list_list _ | exact L2.kit_bool_int _ | exact L2.kit_list_tuple _ | rfl)
local macro_rules | `(tactic| walk_at "ok")=> `(tactic| first | rfl | decide)
local macro_rules | `(tactic| walk_at "sub")=> `(tactic| first | exact trivial | (refine ⟨rfl,?_⟩; walk_at "sub") | (with_reducible apply L2.SubP.skip; walk_at "sub"))
local macro_rules | `(tactic| walk_at "len")=> `(tactic| first | decide | (simp only [List.length_append,List.length_cons,List.length_nil,List.length_map]; decide))
namespace My
open PySem PySem.Spec PyProof.Rows L2
def top (i:Nat):Stmt:=PySem.Challenge.pw_stakefield_k33_share.main.body.getD i (.Pass ⟨0,0,0,0⟩)
abbrev cS:Stmt:=top 6
abbrev h9:Stmt:=top 7
abbrev d4:Stmt:=top 8
abbrev dy:Stmt:=top 9
abbrev g9:Stmt:=top 11
abbrev cW:Stmt:=top 12
abbrev cJ:Stmt:=top 13
abbrev d5:Stmt:=top 14
abbrev fJ:Stmt:=top 15
abbrev fI:Stmt:=top 16
abbrev ik:Stmt:=top 18
abbrev cg:Stmt:=top 19
abbrev fN:Stmt:=top 20
abbrev fP:Stmt:=top 21
abbrev bI:Stmt:=top 22
abbrev jQ:Stmt:=top 23
abbrev bL:Stmt:=top 24
abbrev gh:Stmt:=top 26
abbrev cV:Stmt:=top 28
abbrev cF:Stmt:=top 29
abbrev cB:Stmt:=top 30
abbrev cL:Stmt:=top 32
abbrev bG:Stmt:=top 33
abbrev cR:Stmt:=top 34
abbrev fO:Stmt:=top 35
abbrev cE:Stmt:=top 37
abbrev cG:Stmt:=top 38
abbrev cH:Stmt:=top 39
abbrev bP:Stmt:=top 40
abbrev dA:Stmt:=top 41
abbrev bU:Stmt:=top 42
abbrev ci:Stmt:=top 43
abbrev cI:Stmt:=top 44
abbrev ja:Stmt:=top 45
theorem ma:av ["thing"] ["thing"] (ai cS):=⟨rfl,rfl,rfl,by decide+kernel,rfl,by decide+kernel,by decide+kernel⟩
theorem wM:av ["number"] ["number"] (ai h9):=⟨rfl,rfl,rfl,by decide+kernel,rfl,by decide+kernel,by decide+kernel⟩
theorem br:av ["a","b","high","high_times","low","low_times","fits","rest","rest_times","s"] ["a","b"] (ai d4):=⟨rfl,rfl,rfl,by decide+kernel,rfl,by decide+kernel,by decide+kernel⟩
theorem bB:av ["many","step","start","part","total","top","old_step"] ["many","step","start","part"] (ai dy):=⟨rfl,rfl,rfl,by decide+kernel,rfl,by decide+kernel,by decide+kernel⟩
theorem vN:av ["move"] ["move"] (ai g9):=⟨rfl,rfl,rfl,by decide+kernel,rfl,by decide+kernel,by decide+kernel⟩
theorem jm:av ["thing","number"] ["thing"] (ai cW):=⟨rfl,rfl,rfl,by decide+kernel,rfl,by decide+kernel,by decide+kernel⟩
theorem ln:av ["thing"] ["thing"] (ai cJ):=⟨rfl,rfl,rfl,by decide+kernel,rfl,by decide+kernel,by decide+kernel⟩
theorem rJ:av ["P","move"] ["P","move"] (ai d5):=⟨rfl,rfl,rfl,by decide+kernel,rfl,by decide+kernel,by decide+kernel⟩
theorem nE:av ["P","move","place"] ["P","move"] (ai fJ):=⟨rfl,rfl,rfl,by decide+kernel,rfl,by decide+kernel,by decide+kernel⟩
theorem u5:av ["P","Q"] ["P","Q"] (ai fI):=⟨rfl,rfl,rfl,by decide+kernel,rfl,by decide+kernel,by decide+kernel⟩
theorem we:av ["P","Q","R"] ["P","Q","R"] (ai ik):=⟨rfl,rfl,rfl,by decide+kernel,rfl,by decide+kernel,by decide+kernel⟩
theorem dW:av ["row","kept","P"] ["row"] (ai cg):=⟨rfl,rfl,rfl,by decide+kernel,rfl,by decide+kernel,by decide+kernel⟩
theorem fq:av ["points","row","there","back"] ["points"] (ai fN):=⟨rfl,rfl,rfl,by decide+kernel,rfl,by decide+kernel,by decide+kernel⟩
theorem u7:av ["land"] ["land"] (ai fP):=⟨rfl,rfl,rfl,by decide+kernel,rfl,by decide+kernel,by decide+kernel⟩
theorem dF:av ["land","A","B"] ["land"] (ai bI):=⟨rfl,rfl,rfl,by decide+kernel,rfl,by decide+kernel,by decide+kernel⟩
theorem n_:av ["land","A","B"] ["land"] (ai jQ):=⟨rfl,rfl,rfl,by decide+kernel,rfl,by decide+kernel,by decide+kernel⟩
theorem fB:av ["land","move","P"] ["land","move"] (ai bL):=⟨rfl,rfl,rfl,by decide+kernel,rfl,by decide+kernel,by decide+kernel⟩
theorem qs:av ["land","k","P"] ["land","k"] (ai gh):=⟨rfl,rfl,rfl,by decide+kernel,rfl,by decide+kernel,by decide+kernel⟩
theorem nS:av ["land","k"] ["land","k"] (ai cV):=⟨rfl,rfl,rfl,by decide+kernel,rfl,by decide+kernel,by decide+kernel⟩
theorem lc:av ["land"] ["land"] (ai cF):=⟨rfl,rfl,rfl,by decide+kernel,rfl,by decide+kernel,by decide+kernel⟩
theorem mU:av ["land","k","many"] ["land","k"] (ai cB):=⟨rfl,rfl,rfl,by decide+kernel,rfl,by decide+kernel,by decide+kernel⟩
theorem ce:av ["A","B","left","right","run","rise","first","many","rounded"] ["A","B","left","right"] (ai cL):=⟨rfl,rfl,rfl,by decide+kernel,rfl,by decide+kernel,by decide+kernel⟩
theorem cM:av ["land","left","right","x","heights","P"] ["land","left","right"] (ai bG):=⟨rfl,rfl,rfl,by decide+kernel,rfl,by decide+kernel,by decide+kernel⟩
theorem eI:av ["land","left","right","parts","A","B"] ["land","left","right"] (ai cR):=⟨rfl,rfl,rfl,by decide+kernel,rfl,by decide+kernel,by decide+kernel⟩
theorem gT:av ["land","a","b","c","parts","g","upright"] ["land","a","b","c"] (ai fO):=⟨rfl,rfl,rfl,by decide+kernel,rfl,by decide+kernel,by decide+kernel⟩
theorem lO:av ["script","k"] ["script","k"] (ai cE):=⟨rfl,rfl,rfl,by decide+kernel,rfl,by decide+kernel,by decide+kernel⟩
theorem lJ:av ["a","b","p"] ["a","b","p"] (ai cG):=⟨rfl,rfl,rfl,by decide+kernel,rfl,by decide+kernel,by decide+kernel⟩
theorem eH:av ["points","way","p"] ["points"] (ai cH):=⟨rfl,rfl,rfl,by decide+kernel,rfl,by decide+kernel,by decide+kernel⟩
theorem dq:av ["points","some"] ["points"] (ai bP):=⟨rfl,rfl,rfl,by decide+kernel,rfl,by decide+kernel,by decide+kernel⟩
theorem jF:av ["land","p","k"] ["land","p"] (ai dA):=⟨rfl,rfl,rfl,by decide+kernel,rfl,by decide+kernel,by decide+kernel⟩
theorem bo:av ["script","points","flat","k","cell","x","y"] ["script"] (ai bU):=⟨rfl,rfl,rfl,by decide+kernel,rfl,by decide+kernel,by decide+kernel⟩
theorem dY:av ["script","m","n"] ["script"] (ai ci):=⟨rfl,rfl,rfl,by decide+kernel,rfl,by decide+kernel,by decide+kernel⟩
theorem lK:av ["found","due"] ["found","due"] (ai cI):=⟨rfl,rfl,rfl,by decide+kernel,rfl,by decide+kernel,by decide+kernel⟩
theorem bK:av ["script","land","a","b","c","due","x","y","handed","p","q","r","s","hand_v","over","far","e","f"] ["script"] (ai ja):=⟨rfl,rfl,rfl,by decide+kernel,rfl,by decide+kernel,by decide+kernel⟩
set_option genInjectivity false in
set_option genSizeOf false in
set_option genSizeOfSpec false in
structure Txt (K:PySem.W.Frag) (mg:Str→Option Value) where
 a_is_whole:Addr
 d_is_whole:FuncData
 F_is_whole:Fun K "is_whole" "is_whole" cS a_is_whole d_is_whole
 b_is_whole:aQ K d_is_whole ["thing"] []
 m_is_whole:mg "is_whole"=some (.ref a_is_whole)
 a_sign:Addr
 d_sign:FuncData
 F_sign:Fun K "sign" "sign" h9 a_sign d_sign
 b_sign:aQ K d_sign ["number"] []
 m_sign:mg "sign"=some (.ref a_sign)
 a_shares:Addr
 d_shares:FuncData
 F_shares:Fun K "shares" "shares" d4 a_shares d_shares
 b_shares:aQ K d_shares ["a","b"] []
 m_shares:mg "shares"=some (.ref a_shares)
 a_row_sum:Addr
 d_row_sum:FuncData
 F_row_sum:Fun K "row_sum" "row_sum" dy a_row_sum d_row_sum
 b_row_sum:aQ K d_row_sum ["many","step","start","part"] []
 m_row_sum:mg "row_sum"=some (.ref a_row_sum)
 a_hand:Addr
 d_hand:FuncData
 F_hand:Fun K "hand" "hand" g9 a_hand d_hand
 b_hand:aQ K d_hand ["move"] []
 m_hand:mg "hand"=some (.ref a_hand)
 a_is_move:Addr
 d_is_move:FuncData
 F_is_move:Fun K "is_move" "is_move" cW a_is_move d_is_move
 b_is_move:aQ K d_is_move ["thing"] []
 m_is_move:mg "is_move"=some (.ref a_is_move)
 a_need_move:Addr
 d_need_move:FuncData
 F_need_move:Fun K "need_move" "need_move" cJ a_need_move d_need_move
 b_need_move:aQ K d_need_move ["thing"] []
 m_need_move:mg "need_move"=some (.ref a_need_move)
 a_turned:Addr
 d_turned:FuncData
 F_turned:Fun K "turned" "turned" d5 a_turned d_turned
 b_turned:aQ K d_turned ["P","move"] []
 m_turned:mg "turned"=some (.ref a_turned)
 a_moved:Addr
 d_moved:FuncData
 F_moved:Fun K "moved" "moved" fJ a_moved d_moved
 b_moved:aQ K d_moved ["P","move"] []
 m_moved:mg "moved"=some (.ref a_moved)
 a_steps:Addr
 d_steps:FuncData
 F_steps:Fun K "steps" "steps" fI a_steps d_steps
 b_steps:aQ K d_steps ["P","Q"] []
 m_steps:mg "steps"=some (.ref a_steps)
 a_turn:Addr
 d_turn:FuncData
 F_turn:Fun K "turn" "turn" ik a_turn d_turn
 b_turn:aQ K d_turn ["P","Q","R"] []
 m_turn:mg "turn"=some (.ref a_turn)
 a_left_bends:Addr
 d_left_bends:FuncData
 F_left_bends:Fun K "left_bends" "left_bends" cg a_left_bends d_left_bends
 b_left_bends:aQ K d_left_bends ["row"] []
 m_left_bends:mg "left_bends"=some (.ref a_left_bends)
 a_field:Addr
 d_field:FuncData
 F_field:Fun K "field" "field" fN a_field d_field
 b_field:aQ K d_field ["points"] []
 m_field:mg "field"=some (.ref a_field)
 a_sides:Addr
 d_sides:FuncData
 F_sides:Fun K "sides" "sides" fP a_sides d_sides
 b_sides:aQ K d_sides ["land"] []
 m_sides:mg "sides"=some (.ref a_sides)
 a_double_area:Addr
 d_double_area:FuncData
 F_double_area:Fun K "double_area" "double_area" bI a_double_area d_double_area
 b_double_area:aQ K d_double_area ["land"] []
 m_double_area:mg "double_area"=some (.ref a_double_area)
 a_rim:Addr
 d_rim:FuncData
 F_rim:Fun K "rim" "rim" jQ a_rim d_rim
 b_rim:aQ K d_rim ["land"] []
 m_rim:mg "rim"=some (.ref a_rim)
 a_field_moved:Addr
 d_field_moved:FuncData
 F_field_moved:Fun K "field_moved" "field_moved" bL a_field_moved d_field_moved
 b_field_moved:aQ K d_field_moved ["land","move"] []
 m_field_moved:mg "field_moved"=some (.ref a_field_moved)
 a_fold:Addr
 d_fold:FuncData
 F_fold:Fun K "fold" "fold" gh a_fold d_fold
 b_fold:aQ K d_fold ["land","k"] []
 m_fold:mg "fold"=some (.ref a_fold)
 a_multiple:Addr
 d_multiple:FuncData
 F_multiple:Fun K "multiple" "multiple" cV a_multiple d_multiple
 b_multiple:aQ K d_multiple ["land","k"] []
 m_multiple:mg "multiple"=some (.ref a_multiple)
 a_points_in:Addr
 d_points_in:FuncData
 F_points_in:Fun K "points_in" "points_in" cF a_points_in d_points_in
 b_points_in:aQ K d_points_in ["land"] []
 m_points_in:mg "points_in"=some (.ref a_points_in)
 a_count:Addr
 d_count:FuncData
 D_count:Addr
 F_count:t6 K "count" "count" cB a_count d_count D_count
 b_count:aQ K d_count ["land","k"] []
 bd_count:∃ t,aQ K d_count ["land","k"] [.int 1 t]
 m_count:mg "count"=some (.ref a_count)
 a_side_part:Addr
 d_side_part:FuncData
 F_side_part:Fun K "side_part" "side_part" cL a_side_part d_side_part
 b_side_part:aQ K d_side_part ["A","B","left","right"] []
 m_side_part:mg "side_part"=some (.ref a_side_part)
 a_last_column:Addr
 d_last_column:FuncData
 F_last_column:Fun K "last_column" "last_column" bG a_last_column d_last_column
 b_last_column:aQ K d_last_column ["land","left","right"] []
 m_last_column:mg "last_column"=some (.ref a_last_column)
 a_columns:Addr
 d_columns:FuncData
 F_columns:Fun K "columns" "columns" cR a_columns d_columns
 b_columns:aQ K d_columns ["land","left","right"] []
 m_columns:mg "columns"=some (.ref a_columns)
 a_share:Addr
 d_share:FuncData
 F_share:Fun K "share" "share" fO a_share d_share
 b_share:aQ K d_share ["land","a","b","c"] []
 m_share:mg "share"=some (.ref a_share)
 a__law_cell:Addr
 d__law_cell:FuncData
 F__law_cell:Fun K "_law_cell" "_law_cell" cE a__law_cell d__law_cell
 b__law_cell:aQ K d__law_cell ["script","k"] []
 m__law_cell:mg "_law_cell"=some (.ref a__law_cell)
 a__law_side:Addr
 d__law_side:FuncData
 F__law_side:Fun K "_law_side" "_law_side" cG a__law_side d__law_side
 b__law_side:aQ K d__law_side ["a","b","p"] []
 m__law_side:mg "_law_side"=some (.ref a__law_side)
 a__law_half:Addr
 d__law_half:FuncData
 F__law_half:Fun K "_law_half" "_law_half" cH a__law_half d__law_half
 b__law_half:aQ K d__law_half ["points"] []
 m__law_half:mg "_law_half"=some (.ref a__law_half)
 a__law_corners:Addr
 d__law_corners:FuncData
 F__law_corners:Fun K "_law_corners" "_law_corners" bP a__law_corners d__law_corners
 b__law_corners:aQ K d__law_corners ["points"] []
 m__law_corners:mg "_law_corners"=some (.ref a__law_corners)
 a__law_in:Addr
 d__law_in:FuncData
 F__law_in:Fun K "_law_in" "_law_in" dA a__law_in d__law_in
 b__law_in:aQ K d__law_in ["land","p"] []
 m__law_in:mg "_law_in"=some (.ref a__law_in)
 a__law_points:Addr
 d__law_points:FuncData
 F__law_points:Fun K "_law_points" "_law_points" bU a__law_points d__law_points
 b__law_points:aQ K d__law_points ["script"] []
 m__law_points:mg "_law_points"=some (.ref a__law_points)
 a__law_table:Addr
 d__law_table:FuncData
 F__law_table:Fun K "_law_table" "_law_table" ci a__law_table d__law_table
 b__law_table:aQ K d__law_table ["script"] []
 m__law_table:mg "_law_table"=some (.ref a__law_table)
 a__law_good:Addr
 d__law_good:FuncData
 F__law_good:Fun K "_law_good" "_law_good" cI a__law_good d__law_good
 b__law_good:aQ K d__law_good ["found","due"] []
 m__law_good:mg "_law_good"=some (.ref a__law_good)
 a_law:Addr
 d_law:FuncData
 F_law:Fun K "law" "law" ja a_law d_law
 b_law:aQ K d_law ["script"] []
 m_law:mg "law"=some (.ref a_law)
 c_NoField:Addr
 x_NoField:PySem.W.excIn K c_NoField [.type "ValueError",.type "Exception",.type "BaseException",.type "object"] "ValueError.__new__"=true
 mx_NoField:mg "NoField"=some (.ref c_NoField)
 c_NoMove:Addr
 x_NoMove:PySem.W.excIn K c_NoMove [.type "ValueError",.type "Exception",.type "BaseException",.type "object"] "ValueError.__new__"=true
 mx_NoMove:mg "NoMove"=some (.ref c_NoMove)
 z_abs:mg "abs"=none
 z_all:mg "all"=none
 z_bool:mg "bool"=none
 z_int:mg "int"=none
 z_isinstance:mg "isinstance"=none
 z_len:mg "len"=none
 z_list:mg "list"=none
 z_max:mg "max"=none
 z_min:mg "min"=none
 z_range:mg "range"=none
 z_reversed:mg "reversed"=none
 z_set:mg "set"=none
 z_sorted:mg "sorted"=none
 z_sum:mg "sum"=none
 z_tuple:mg "tuple"=none
 z_zip:mg "zip"=none
section
variable {P:Program} {w:World} {K:PySem.W.Frag} {mg:Str→Option Value} {base:Heap}
def sgn (n:Int):Int:=if 0 < n then 1 else if n < 0 then -1 else 0
def bS (b:Int):Int:=if b < 0 then -b else b
theorem dl (b:Int):bS b=(b.natAbs:Int):=by unfold bS; split <;> omega
theorem gC {b:Int} (h:b≠0):0 < bS b:=by unfold bS; split <;> omega
theorem c_ (d b:Int):d ∣ bS b↔d ∣ b:=by
 unfold bS; split
 ·exact Int.dvd_neg
 ·exact Iff.rfl
theorem t3 (d b:Int):bS b ∣ d↔b ∣ d:=by
 unfold bS; split
 ·exact Int.neg_dvd
 ·exact Iff.rfl
structure ir (a b high ht low lt:Int):Prop where
 hp:0 < high
 lo0:0≤low
 lolt:low < high
 dv:∀ d,(d ∣ high∧d ∣ low)↔(d ∣ a∧d ∣ b)
 ch:b ∣ ht * a - high
 cl:b ∣ lt * a - low
 bd:ht.natAbs * low.natAbs+lt.natAbs * high.natAbs≤b.natAbs
 hi:high.natAbs≤b.natAbs
theorem nI {a b:Int} (hb:b≠0):ir a b (bS b) 0 (a % bS b) 1:=by
 have h0:=gC hb
 refine ⟨h0,Int.emod_nonneg _ (by omega),Int.emod_lt_of_pos _ h0,fun d=> ?_,?_,?_,?_,by rw [dl]; simp⟩
 ·rw [c_]
  constructor
  ·rintro ⟨h1,h2⟩
   refine ⟨?_,h1⟩
   have e:=Int.emod_add_mul_ediv a (bS b)
   rw [← e]
   exact Int.dvd_add h2 (Int.dvd_trans ((c_ d b).mpr h1) (Int.dvd_mul_right _ _))
  ·rintro ⟨h1,h2⟩
   refine ⟨h2,?_⟩
   have e:a % bS b=a - bS b * (a / bS b):=by have:=Int.emod_add_mul_ediv a (bS b); omega
   rw [e]
   exact Int.dvd_sub h1 (Int.dvd_trans ((c_ d b).mpr h2) (Int.dvd_mul_right _ _))
 ·rw [Int.zero_mul,Int.zero_sub,Int.dvd_neg]
  exact (c_ b b).mpr (Int.dvd_refl b)
 ·have e:1 * a - a % bS b=bS b * (a / bS b):=by have:=Int.emod_add_mul_ediv a (bS b); omega
  rw [e]
  exact Int.dvd_trans ((c_ b b).mpr (Int.dvd_refl b)) (Int.dvd_mul_right _ _)
 ·rw [dl]; simp
theorem qk {a b high ht low lt:Int} (I:ir a b high ht low lt) (h:low≠0):ir a b low lt (high - high / low * low) (ht - high / low * lt)∧high - high / low * low < low:=by
 obtain ⟨hp,lo0,lolt,dv,ch,cl,bd,hi⟩:=I
 have hl:0 < low:=by omega
 have e:=Int.emod_add_mul_ediv high low
 have r0:=Int.emod_nonneg high h
 have r1:=Int.emod_lt_of_pos high hl
 have hf:0≤high / low:=Int.ediv_nonneg (by omega) (by omega)
 have er:high - high / low * low=high % low:=by rw [Int.mul_comm]; omega
 rw [er]
 refine ⟨⟨hl,r0,r1,fun d=> ?_,cl,?_,?_,by omega⟩,r1⟩
 ·rw [← dv d]
  constructor
  ·rintro ⟨h1,h2⟩
   refine ⟨?_,h1⟩
   rw [← e]
   exact Int.dvd_add h2 (Int.dvd_trans h1 (Int.dvd_mul_right _ _))
  ·rintro ⟨h1,h2⟩
   refine ⟨h2,?_⟩
   rw [show high % low=high - low * (high / low) by omega]
   exact Int.dvd_sub h1 (Int.dvd_trans h2 (Int.dvd_mul_right _ _))
 ·have e2:(ht - high / low * lt) * a - high % low=(ht * a - high) - (high / low) * (lt * a - low):=by grind
  rw [e2]
  exact Int.dvd_sub ch (Int.dvd_trans cl (Int.dvd_mul_left _ _))
 ·have n1:(ht - high / low * lt).natAbs≤ht.natAbs+(high / low).natAbs * lt.natAbs:=by
   have:=Int.natAbs_sub_le ht (high / low * lt)
   rw [Int.natAbs_mul] at this
   exact this
  have n2:high.natAbs=(high % low).natAbs+low.natAbs * (high / low).natAbs:=by
   have:(high.natAbs:Int)=((high % low).natAbs+low.natAbs * (high / low).natAbs:Nat):=by
    push_cast
    rw [Int.natAbs_of_nonneg r0,Int.natAbs_of_nonneg hf,Int.natAbs_of_nonneg (by omega:0≤high),Int.natAbs_of_nonneg lo0]
    omega
   omega
  have n3:(ht - high / low * lt).natAbs * low.natAbs≤(ht.natAbs+(high / low).natAbs * lt.natAbs) * low.natAbs:=Nat.mul_le_mul_right _ n1
  rw [n2] at bd
  refine Nat.le_trans ?_ bd
  generalize (ht - high / low * lt).natAbs=A at *
  generalize ht.natAbs=B at *
  generalize lt.natAbs=C at *
  generalize low.natAbs=D at *
  generalize (high / low).natAbs=E at *
  generalize (high % low).natAbs=F at *
  grind
structure gZ (a b g s t:Int):Prop where
 g0:0≤g
 eq:s * a+t * b=g
 da:g ∣ a
 db:g ∣ b
 z:b=0→t=0∧s=sgn a∧g=bS a
 nz:b≠0→0 < g∧0≤s∧s < bS b / g
theorem kJ (a:Int):gZ a 0 (bS a) (sgn a) 0:=by
 refine ⟨by unfold bS; split <;> omega,?_,(t3 a a).mpr (Int.dvd_refl a),Int.dvd_zero _,fun _=> ⟨rfl,rfl,rfl⟩,fun h=> absurd rfl h⟩
 unfold sgn bS
 split
 ·split <;> omega
 ·split
  ·omega
  ·omega
theorem sv {a b high ht lt:Int} (hb:b≠0) (I:ir a b high ht 0 lt):gZ a b high (ht % (bS b / high)) ((high - ht % (bS b / high) * a).fdiv b):=by
 obtain ⟨hp,lo0,lolt,dv,ch,cl,bd,hi⟩:=I
 obtain ⟨ga,gb⟩:=(dv high).mp ⟨Int.dvd_refl _,Int.dvd_zero _⟩
 obtain ⟨a',rfl⟩:=ga
 have gb2:high ∣ bS b:=(c_ _ _).mpr gb
 obtain ⟨b',hb'⟩:=gb2
 have hb0:=gC hb
 have hq:bS b / high=b':=by rw [hb',Int.mul_ediv_cancel_left _ (by omega)]
 have hb1:0 < b':=by
  have:0 < high * b':=by omega
  exact Int.pos_of_mul_pos_right this (by omega)
 rw [hq]
 have es:=Int.emod_add_mul_ediv ht b'
 have key:b ∣ high - ht % b' * (high * a'):=by
  have e:high - ht % b' * (high * a')=-(ht * (high * a') - high)+bS b * (a' * (ht / b')):=by
   rw [hb',show ht % b'=ht - b' * (ht / b') by omega]; grind
  rw [e]
  refine Int.dvd_add (Int.dvd_neg.mpr ch) (Int.dvd_trans ((c_ b b).mpr (Int.dvd_refl b)) (Int.dvd_mul_right _ _))
 refine ⟨by omega,?_,Int.dvd_mul_right _ _,gb,fun h=> absurd h hb,fun _=> ⟨hp,Int.emod_nonneg _ (by omega),?_⟩⟩
 ·obtain ⟨c,hc⟩:=key
  rw [hc,Int.mul_fdiv_cancel_left _ hb,Int.mul_comm c b]; omega
 ·rw [hq]; exact Int.emod_lt_of_pos _ hb1
theorem z9 {a b high ht low lt:Int} (I:ir a b high ht low lt):lt.natAbs≤b.natAbs:=by
 have h1:1≤high.natAbs:=by have:=I.hp; omega
 have h2:lt.natAbs * 1≤lt.natAbs * high.natAbs:=Nat.mul_le_mul_left _ h1
 have:=I.bd
 omega
theorem sK {a b g s t g' s' t':Int} (h:gZ a b g s t) (h':gZ a b g' s' t'):g=g'∧s=s'∧t=t':=by
 have d1:g ∣ g':=by rw [← h'.eq]; exact Int.dvd_add (Int.dvd_trans h.da (Int.dvd_mul_left _ _)) (Int.dvd_trans h.db (Int.dvd_mul_left _ _))
 have d2:g' ∣ g:=by rw [← h.eq]; exact Int.dvd_add (Int.dvd_trans h'.da (Int.dvd_mul_left _ _)) (Int.dvd_trans h'.db (Int.dvd_mul_left _ _))
 have eg:g=g':=Int.dvd_antisymm h.g0 h'.g0 d1 d2
 subst eg
 by_cases hb:b=0
 ·obtain ⟨h1,h2,_⟩:=h.z hb
  obtain ⟨k1,k2,_⟩:=h'.z hb
  exact ⟨rfl,by omega,by omega⟩
 ·obtain ⟨p,s0,s1⟩:=h.nz hb
  obtain ⟨_,s0',s1'⟩:=h'.nz hb
  obtain ⟨a',ha⟩:=h.da
  obtain ⟨b',hb'⟩:=(c_ g b).mpr h.db
  obtain ⟨b'',hb''⟩:=h.db
  have hq:bS b / g=b':=by rw [hb',Int.mul_ediv_cancel_left _ (by omega)]
  rw [hq] at s1 s1'
  have e1:=h.eq
  have e2:=h'.eq
  have bz:b''≠0:=by intro z; rw [z,Int.mul_zero] at hb''; exact hb hb''
  have k1:s * a'+t * b''=1:=by
   have:g * (s * a'+t * b'')=g * 1:=by rw [ha,hb''] at e1; grind
   exact Int.eq_of_mul_eq_mul_left (by omega) this
  have k2:s' * a'+t' * b''=1:=by
   have:g * (s' * a'+t' * b'')=g * 1:=by rw [ha,hb''] at e2; grind
   exact Int.eq_of_mul_eq_mul_left (by omega) this
  have k3:b'' ∣ s - s':=by
   refine ⟨s * (t' - t)+t * (s - s'),?_⟩
   grind
  have k4:b' ∣ s - s':=by
   have:b'.natAbs=b''.natAbs:=by
    have q1:(bS b).natAbs=b.natAbs:=by rw [dl]; simp
    rw [hb',hb''] at q1
    rw [Int.natAbs_mul,Int.natAbs_mul] at q1
    exact Nat.eq_of_mul_eq_mul_left (by omega) q1
   exact Int.natAbs_dvd_natAbs.mp (by rw [this]; exact Int.natAbs_dvd_natAbs.mpr k3)
  have k5:s=s':=by
   have:s - s'=0:=Int.eq_zero_of_dvd_of_natAbs_lt_natAbs k4 (by omega)
   omega
  subst k5
  refine ⟨rfl,rfl,?_⟩
  have:b * t=b * t':=by grind
  exact Int.eq_of_mul_eq_mul_left hb this
theorem xK {a b:Int} (hb:b≠0):∀ (n:Nat) (high ht low lt:Int),low.toNat≤n→ir a b high ht low lt→∃ high' ht' lt',ir a b high' ht' 0 lt'
 | 0,high,ht,low,lt,hn,I=> by
  have:low=0:=by have:=I.lo0; omega
  subst this
  exact ⟨_,_,_,I⟩
 | n+1,high,ht,low,lt,hn,I=> by
  by_cases h:low=0
  ·subst h; exact ⟨_,_,_,I⟩
  ·obtain ⟨I2,less⟩:=qk I h
   have:=I2.lo0
   exact xK hb n _ _ _ _ (by have:=I.lo0; omega) I2
theorem ql (a b:Int):∃ g s t,gZ a b g s t:=by
 by_cases hb:b=0
 ·subst hb; exact ⟨_,_,_,kJ a⟩
 ·obtain ⟨h,ht,lt,I⟩:=xK hb _ _ _ _ _ (Nat.le_refl _) (nI (a:=a) hb)
  exact ⟨_,_,_,sv hb I⟩
theorem vR {m:Nat} {a b g s t:Int} (G:gZ a b g s t) (sa:Sz m a) (sb:Sz m b):Sz (m+8) g∧Sz (m+8) s∧Sz (2 * m+8) t:=by
 by_cases hb:b=0
 ·subst hb
  obtain ⟨h1,h2,h3⟩:=G.z rfl
  rw [h1,h2,h3]
  have s1:Sz 8 (sgn a):=by unfold Sz sgn; split; decide; split <;> decide
  exact ⟨(Sz.abs sa).mono (by omega),s1.mono (by omega),Sz.mono (m:=8) (by decide) (by omega)⟩
 ·obtain ⟨g0,s0,s1⟩:=G.nz hb
  have h1:bS b / g≤bS b:=Int.ediv_le_self _ (by have:=gC hb; omega)
  have h2:=dl b
  have sg:Sz m g:=by
   refine sb.natle ?_
   exact Nat.le_of_dvd (by omega) (Int.natAbs_dvd_natAbs.mpr G.db)
  have ss:Sz m s:=sb.natle (by omega)
  refine ⟨sg.mono (by omega),ss.mono (by omega),?_⟩
  have e:t * b=g - s * a:=by have:=G.eq; omega
  have q:Sz (2 * m+1) (t * b):=by
   rw [e]
   have:Sz (m+m) (s * a):=ss.mul sa
   have h3:=(sg.mono (show m≤m+m by omega)).sub this
   exact h3.mono (by omega)
  refine (Sz.mono (m:=2 * m+1) ?_ (by omega))
  unfold Sz at *
  rw [Int.natAbs_mul] at q
  have:1≤b.natAbs:=by omega
  exact Nat.lt_of_le_of_lt (Nat.le_mul_of_pos_right _ this) q
def qG:List U→Out→Prop:=fun us o=> ∃ n:Int,us=[.int n]∧o=.val (.int (sgn n))
set_option maxHeartbeats 8000000 in
theorem pO (T:Txt K mg):bh P w K mg base (CXF P w) 1 T.a_sign T.d_sign ["number"] (spU K (qG)):=by
 refine bq T.F_sign wM (fun us o h=> ?_) (fun cdv A outer s H E O us o hr h=> ?_)
 ·obtain ⟨n,rfl,rfl⟩:=h
  rfl
 obtain ⟨n,rfl,rfl⟩:=h
 refine Ws.nox ?_
 refine af (fQ (aO mq (aa 0 rfl) ah) (fun hT=> ?_) (fun hF=> (aY ?_)))
 ·refine af (aF ah ?_)
  exact vIO (by unfold sgn; rw [if_pos (dTb hT)])
 ·refine af (fQ (aO fg (aa 0 rfl) ah) (fun hT=> ?_) (fun hF=> (aY ?_)))
  ·refine af (aF (dh ah) ?_)
   exact vIO (by unfold sgn; rw [if_neg (dFb hF),if_pos (dTb hT)])
  ·rename_i hF2
   refine af (aF ah ?_)
   exact vIO (by unfold sgn; rw [if_neg (dFb hF),if_neg (dFb hF2)])
def mV:List U→Out→Prop:=fun us o=> ∃ a b g s t:Int,us=[.int a,.int b]∧Sz 4000 a∧Sz 4000 b∧gZ a b g s t∧o=.val (.tup [.int g,.int s,.int t])
theorem nq {a b g s t g' s' t':Int} (G:gZ a b g s t) (G':gZ a b g' s' t'):Out.val (.tup [.int g,.int s,.int t])=Out.val (.tup [.int g',.int s',.int t']):=by
 obtain ⟨rfl,rfl,rfl⟩:=sK G G'
 rfl
set_option maxHeartbeats 8000000 in
theorem kD (T:Txt K mg):bh P w K mg base (CXF P w) 2 T.a_shares T.d_shares ["a","b"] (spU K (mV)):=by
 refine bq T.F_shares br (fun us o h=> ?_) (fun cdv A outer s H E O us o hr h=> ?_)
 ·obtain ⟨a,b,g,s,t,rfl,sa,sb,G,rfl⟩:=h
  rfl
 obtain ⟨a,b,g,s,t,rfl,sa,sb,G,rfl⟩:=h
 refine Ws.nox ?_
 refine af (fQ (aO cQ (aa 1 rfl) ah) (fun hT=> ?_) (fun hF=> (aY ?_)))
 ·have hb:b=0:=dTb hT
  subst hb
  refine af (aF (dU (aJ (ao p9 rfl T.z_abs PyProof.Rows.boot_abs (ac (aa 0 rfl) am ag)) (aJ (aE ((pO T).mono (by decide)) hr rfl T.m_sign T.F_sign.kp T.b_sign aA (ac (aa 0 rfl) am ag) ⟨_,rfl,rfl⟩) (aJ ah dr bN) bV) bV)) ?_)
  exact nq (kJ a) G
 ·have hb:b≠0:=dFb hF
  have hp0:=gC hb
  have sab:Sz 4000 (bS b):=Sz.abs sb
  refine af (aC (i:=2) br.nd rfl (Or.inl rfl) (ao p9 rfl T.z_abs PyProof.Rows.boot_abs (ac (aa 1 rfl) am ag)) ?_)
  refine af (aC (i:=3) br.nd rfl (Or.inl rfl) ah ?_)
  refine af (aC (i:=4) br.nd rfl (Or.inl rfl) (cP (aa 0 rfl) (aa 2 rfl) hp0) ?_)
  refine af (aC (i:=5) br.nd rfl (Or.inl rfl) ah ?_)
  refine af (gX (fun m:Int×Int×Int×Int=> [some (.val (.int a)),some (.val (.int b)),some (.val (.int m.1)),some (.val (.int m.2.1)),some (.val (.int m.2.2.1)),some (.val (.int m.2.2.2)),none,none,none,none]) (fun n m=> n=m.2.2.1.toNat∧ir a b m.1 m.2.1 m.2.2.1 m.2.2.2) PassesOwn.never ?h0 ?hs)
  case h0=> exact ⟨_,(_,_,_,_),⟨rfl,nI hb⟩,rfl,rfl,rfl,rfl,rfl,rfl,trivial⟩
  case hs=>
   rintro m ⟨high,ht,low,lt⟩ ⟨rfl,I⟩
   dsimp only at I ⊢
   have hl0:=I.lo0
   have hl1:=I.lolt
   have sh:Sz 4000 high:=sb.natle I.hi
   have sl:Sz 4000 low:=sh.natle (by omega)
   have slt:Sz 4000 lt:=sb.natle (z9 I)
   refine ⟨_,(aO xu (aa 4 rfl) ah),fun h=> ?_,fun h ps hps=> ?_⟩
   ·have hl:low≠0:=nTb h
    obtain ⟨I2,less⟩:=qk I hl
    have hlt:(high - high / low * low).toNat < low.toNat:=by clear h; omega
    refine af (aC (i:=6) br.nd rfl (Or.inl rfl) (eU (aa 2 rfl) (aa 4 rfl) (by walk_at "div")) ?_)
    have sf:Sz 4000 (high / low):=sh.ediv
    refine af (aC (i:=7) br.nd rfl (Or.inl rfl) (aZ (aa 2 rfl) (aG (aa 6 rfl) (aa 4 rfl) (by walk_at "mul"))) ?_)
    refine af (aC (i:=8) br.nd rfl (Or.inl rfl) (aZ (aa 3 rfl) (aG (aa 6 rfl) (aa 5 rfl) (by walk_at "mul"))) ?_)
    refine af (aC (i:=2) br.nd rfl (Or.inl rfl) (aa 4 rfl) ?_)
    refine af (aC (i:=3) br.nd rfl (Or.inl rfl) (aa 5 rfl) ?_)
    refine af (aC (i:=4) br.nd rfl (Or.inl rfl) (aa 7 rfl) ?_)
    refine af (aC (i:=5) br.nd rfl (Or.inl rfl) (aa 8 rfl) (aY ?_))
    exact ⟨_,(_,_,_,_),hlt,⟨rfl,I2⟩,rfl,rfl,rfl,rfl,rfl,rfl,trivial⟩
   ·have hl:low=0:=nFb h
    subst hl
    refine gd ?_ hps
    have G2:=sv hb I
    obtain ⟨g0,s0,s1⟩:=G2.nz hb
    have hm:0 < bS b / high:=by omega
    have hg:0 < high:=I.hp
    have ss:Sz 4000 (ht % (bS b / high)):=by
     refine sb.natle ?_
     have h1:bS b / high≤bS b:=Int.ediv_le_self _ (by omega)
     have h2:=dl b
     omega
    refine af (aC (i:=9) br.nd rfl (Or.inl rfl) (cP (aa 3 rfl) (eU (ao p9 rfl T.z_abs PyProof.Rows.boot_abs (ac (aa 1 rfl) am ag)) (aa 2 rfl) ⟨hg,sh.mono (by decide)⟩) hm) ?_)
    refine af (aF (dU (aJ (aa 2 rfl) (aJ (aa 9 rfl) (aJ (yI (aZ (aa 2 rfl) (aG (aa 9 rfl) (aa 0 rfl) (Sz.ok ss sa (by decide)))) (aa 1 rfl) ⟨hb,sb.mono (by decide)⟩) dr bC) ag) ag)) ?_)
    exact nq G2 G
def isInt:U→Bool
 | .int _=> true
 | _=> false
abbrev mv (a b c d e f:Int):U:=.tup [.int a,.int b,.int c,.int d,.int e,.int f]
def iB:U→Bool
 | .tup [.int a,.int b,.int c,.int d,.int _,.int _]=> decide (a * d - b * c=1) || decide (a * d - b * c=-1)
 | _=> false
structure mZ (u:U):Prop where
 ty:∀ m,u≠.ty m
 ity:∀ xs,u=.tup xs→∀ x∈xs,∀ m,x≠.ty m
 len:∀ xs,u=.tup xs→xs.length≤100
 sz:∀ a b c d e f,u=mv a b c d e f→Sz 30000 a∧Sz 30000 b∧Sz 30000 c∧Sz 30000 d
theorem mZ.of {a b c d e f:Int} (ha:Sz 30000 a) (hb:Sz 30000 b) (hc:Sz 30000 c) (hd:Sz 30000 d):mZ (mv a b c d e f):=by
 refine ⟨fun m h=> (nomatch h),fun xs h x hx m e=> ?_,fun xs h=> ?_,fun a' b' c' d' e' f' h=> ?_⟩
 ·cases h; subst e; simp at hx
 ·cases h; simp
 ·cases h; exact ⟨ha,hb,hc,hd⟩
theorem wB {a b c d e f:Int} (h:a * d - b * c=1∨a * d - b * c=-1):iB (mv a b c d e f)=true:=by
 show (decide (a * d - b * c=1) || decide (a * d - b * c=-1))=true
 simpa using h
theorem vy {xs:List U} (h:xs.length≠6):iB (.tup xs)=false:=by
 unfold iB
 split
 ·rename_i e; cases e; simp at h
 ·rfl
theorem yK {xs:List U} (h:xs.length=6) (hi:xs.all isInt=true):∃ a b c d e f,xs=[.int a,.int b,.int c,.int d,.int e,.int f]:=by
 match xs,h with
 | [x1,x2,x3,x4,x5,x6],_=>
  simp only [List.all_cons,List.all_nil,Bool.and_true,Bool.and_eq_true] at hi
  obtain ⟨h1,h2,h3,h4,h5,h6⟩:=hi
  have key:∀ {x:U},isInt x=true→∃ n,x=.int n:=fun {x} h=> by cases x <;> simp [isInt] at h; exact ⟨_,rfl⟩
  obtain ⟨a,rfl⟩:=key h1
  obtain ⟨b,rfl⟩:=key h2
  obtain ⟨c,rfl⟩:=key h3
  obtain ⟨d,rfl⟩:=key h4
  obtain ⟨e,rfl⟩:=key h5
  obtain ⟨f,rfl⟩:=key h6
  exact ⟨a,b,c,d,e,f,rfl⟩
theorem tG {xs:List U} (h:xs.all isInt=false):iB (.tup xs)=false:=by
 unfold iB
 split
 ·rename_i e; cases e; simp [isInt] at h
 ·rfl
def o_:List U→Out→Prop:=fun us o=> ∃ u,us=[u]∧(∀ m,u≠.ty m)∧o=.val (.bl (isInt u))
set_option maxHeartbeats 8000000 in
theorem nR (T:Txt K mg):bh P w K mg base (CXF P w) 1 T.a_is_whole T.d_is_whole ["thing"] (spU K (o_)):=by
 refine bq T.F_is_whole ma (fun us o h=> ?_) (fun cdv A outer s H E O us o hr h=> ?_)
 ·obtain ⟨u,rfl,hu,rfl⟩:=h
  rfl
 obtain ⟨u,rfl,hu,rfl⟩:=h
 refine Ws.nox ?_
 cases u with
 | ty m=> exact absurd rfl (hu m)
 | int n=> refine af (aF (eV (ao (aD (by intro _ h; cases h) (by walk_at "kit")) rfl T.z_isinstance boot_isinstance (ac (aa 0 rfl) (ac (dk rfl T.z_int boot_int) am ag) ag)) (fun hz=> (f_ (gx (ao (aD (by intro _ h; cases h) (by walk_at "kit")) rfl T.z_isinstance boot_isinstance (ac (aa 0 rfl) (ac (dk rfl T.z_bool boot_bool) am ag) ag)))))) ?_); exact rfl
 | bl n=> refine af (aF (eV (ao (aD (by intro _ h; cases h) (by walk_at "kit")) rfl T.z_isinstance boot_isinstance (ac (aa 0 rfl) (ac (dk rfl T.z_int boot_int) am ag) ag)) (fun hz=> (f_ (gx (ao (aD (by intro _ h; cases h) (by walk_at "kit")) rfl T.z_isinstance boot_isinstance (ac (aa 0 rfl) (ac (dk rfl T.z_bool boot_bool) am ag) ag)))))) ?_); exact rfl
 | non=> refine af (aF (eV (ao (aD (by intro _ h; cases h) (by walk_at "kit")) rfl T.z_isinstance boot_isinstance (ac (aa 0 rfl) (ac (dk rfl T.z_int boot_int) am ag) ag)) (fun hz=> (f_ (gx (ao (aD (by intro _ h; cases h) (by walk_at "kit")) rfl T.z_isinstance boot_isinstance (ac (aa 0 rfl) (ac (dk rfl T.z_bool boot_bool) am ag) ag)))))) ?_); exact rfl
 | str n=> refine af (aF (eV (ao (aD (by intro _ h; cases h) (by walk_at "kit")) rfl T.z_isinstance boot_isinstance (ac (aa 0 rfl) (ac (dk rfl T.z_int boot_int) am ag) ag)) (fun hz=> (f_ (gx (ao (aD (by intro _ h; cases h) (by walk_at "kit")) rfl T.z_isinstance boot_isinstance (ac (aa 0 rfl) (ac (dk rfl T.z_bool boot_bool) am ag) ag)))))) ?_); exact rfl
 | dic=> refine af (aF (eV (ao (aD (by intro _ h; cases h) (by walk_at "kit")) rfl T.z_isinstance boot_isinstance (ac (aa 0 rfl) (ac (dk rfl T.z_int boot_int) am ag) ag)) (fun hz=> (f_ (gx (ao (aD (by intro _ h; cases h) (by walk_at "kit")) rfl T.z_isinstance boot_isinstance (ac (aa 0 rfl) (ac (dk rfl T.z_bool boot_bool) am ag) ag)))))) ?_); exact rfl
 | scr n=> refine af (aF (eV (ao (aD (by intro _ h; cases h) (by walk_at "kit")) rfl T.z_isinstance boot_isinstance (ac (aa 0 rfl) (ac (dk rfl T.z_int boot_int) am ag) ag)) (fun hz=> (f_ (gx (ao (aD (by intro _ h; cases h) (by walk_at "kit")) rfl T.z_isinstance boot_isinstance (ac (aa 0 rfl) (ac (dk rfl T.z_bool boot_bool) am ag) ag)))))) ?_); exact rfl
 | lst n=> refine af (aF (eV (ao (aD (by intro _ h; cases h) (by walk_at "kit")) rfl T.z_isinstance boot_isinstance (ac (aa 0 rfl) (ac (dk rfl T.z_int boot_int) am ag) ag)) (fun hz=> (f_ (gx (ao (aD (by intro _ h; cases h) (by walk_at "kit")) rfl T.z_isinstance boot_isinstance (ac (aa 0 rfl) (ac (dk rfl T.z_bool boot_bool) am ag) ag)))))) ?_); exact rfl
 | tup n=> refine af (aF (eV (ao (aD (by intro _ h; cases h) (by walk_at "kit")) rfl T.z_isinstance boot_isinstance (ac (aa 0 rfl) (ac (dk rfl T.z_int boot_int) am ag) ag)) (fun hz=> (f_ (gx (ao (aD (by intro _ h; cases h) (by walk_at "kit")) rfl T.z_isinstance boot_isinstance (ac (aa 0 rfl) (ac (dk rfl T.z_bool boot_bool) am ag) ag)))))) ?_); exact rfl
def ri:List U→Out→Prop:=fun us o=> ∃ a b c d e f,us=[mv a b c d e f]∧Sz 30000 a∧Sz 30000 b∧Sz 30000 c∧Sz 30000 d∧o=.val (.int (a * d - b * c))
set_option maxHeartbeats 8000000 in
theorem wX (T:Txt K mg):bh P w K mg base (CXF P w) 1 T.a_hand T.d_hand ["move"] (spU K (ri)):=by
 refine bq T.F_hand vN (fun us o h=> ?_) (fun cdv A outer s H E O us o hr h=> ?_)
 ·obtain ⟨a,b,c,d,e,f,rfl,sa,sb,sc,sd,rfl⟩:=h
  rfl
 obtain ⟨a,b,c,d,e,f,rfl,sa,sb,sc,sd,rfl⟩:=h
 refine Ws.nox ?_
 refine af (aF (aZ (aG (aH (aa 0 rfl) ah rfl rfl) (aH (aa 0 rfl) ah rfl rfl) (by walk_at "mul")) (aG (aH (aa 0 rfl) ah rfl rfl) (aH (aa 0 rfl) ah rfl rfl) (by walk_at "mul"))) ?_); exact rfl
def lL:List U→Out→Prop:=fun us o=> ∃ u,us=[u]∧mZ u∧o=.val (.bl (iB u))
set_option maxHeartbeats 8000000 in
theorem nW (T:Txt K mg):bh P w K mg base (CXF P w) 2 T.a_is_move T.d_is_move ["thing"] (spU K (lL)):=by
 refine bq T.F_is_move jm (fun us o h=> ?_) (fun cdv A outer s H E O us o hr h=> ?_)
 ·obtain ⟨u,rfl,hu,rfl⟩:=h
  rfl
 obtain ⟨u,rfl,hu,rfl⟩:=h
 refine Ws.nox ?_
 cases u with
 | ty m=> exact absurd rfl (hu.ty m)
 | int n=> refine af (dI (Tw.t (jk (fe (eC (ao (aD (by intro _ h; cases h) (by walk_at "kit")) rfl T.z_isinstance boot_isinstance (ac (aa 0 rfl) (ac (dk rfl T.z_tuple boot_tuple) am ag) ag)))) rfl)) rfl ?_); refine af (aF iz ?_); exact rfl
 | bl n=> refine af (dI (Tw.t (jk (fe (eC (ao (aD (by intro _ h; cases h) (by walk_at "kit")) rfl T.z_isinstance boot_isinstance (ac (aa 0 rfl) (ac (dk rfl T.z_tuple boot_tuple) am ag) ag)))) rfl)) rfl ?_); refine af (aF iz ?_); exact rfl
 | non=> refine af (dI (Tw.t (jk (fe (eC (ao (aD (by intro _ h; cases h) (by walk_at "kit")) rfl T.z_isinstance boot_isinstance (ac (aa 0 rfl) (ac (dk rfl T.z_tuple boot_tuple) am ag) ag)))) rfl)) rfl ?_); refine af (aF iz ?_); exact rfl
 | str n=> refine af (dI (Tw.t (jk (fe (eC (ao (aD (by intro _ h; cases h) (by walk_at "kit")) rfl T.z_isinstance boot_isinstance (ac (aa 0 rfl) (ac (dk rfl T.z_tuple boot_tuple) am ag) ag)))) rfl)) rfl ?_); refine af (aF iz ?_); exact rfl
 | dic=> refine af (dI (Tw.t (jk (fe (eC (ao (aD (by intro _ h; cases h) (by walk_at "kit")) rfl T.z_isinstance boot_isinstance (ac (aa 0 rfl) (ac (dk rfl T.z_tuple boot_tuple) am ag) ag)))) rfl)) rfl ?_); refine af (aF iz ?_); exact rfl
 | scr n=> refine af (dI (Tw.t (jk (fe (eC (ao (aD (by intro _ h; cases h) (by walk_at "kit")) rfl T.z_isinstance boot_isinstance (ac (aa 0 rfl) (ac (dk rfl T.z_tuple boot_tuple) am ag) ag)))) rfl)) rfl ?_); refine af (aF iz ?_); exact rfl
 | lst n=> refine af (dI (Tw.t (jk (fe (eC (ao (aD (by intro _ h; cases h) (by walk_at "kit")) rfl T.z_isinstance boot_isinstance (ac (aa 0 rfl) (ac (dk rfl T.z_tuple boot_tuple) am ag) ag)))) rfl)) rfl ?_); refine af (aF iz ?_); exact rfl
 | tup xs=>
  refine af (fQ (Tw.t (vv (fe (eC (ao (aD (by intro _ h; cases h) (by walk_at "kit")) rfl T.z_isinstance boot_isinstance (ac (aa 0 rfl) (ac (dk rfl T.z_tuple boot_tuple) am ag) ag)))) (fun hz=> (pI (aO xu (ao (df rfl) rfl T.z_len PySem.boot_len (ac (aa 0 rfl) am ag)) ah))))) (fun hT=> ?_) (fun hF=> (aY ?_)))
  ·have:xs.length≠6:=fun e=> by rw [e] at hT; revert hT; decide
   refine af (aF iz ?_)
   exact vB (vy this).symm
  ·have hl:xs.length=6:=by
    have:=nFb (show (!decide ((xs.length:Int)=6))=false from hF)
    omega
   refine af (fQ (fe (eC (ao (Ac rfl (bs:=xs.map isInt)) rfl T.z_all boot_all (ac (EvN.ev (jD  rfl (blk (ai cW) ["thing","number"] [1] rfl rfl rfl rfl (by decide+kernel)) (zu (aa 0 rfl)) (fun _ _ _ _=> bF (i:=1) jm.nd rfl (Or.inl rfl)) (gA (by decide)) ?clen ?csz (fun _ _=> trivial) ?celt)) am gv)))) (fun hT=> ?_) (fun hF=> (aY ?_)))
   case clen=> simp
   case csz=> exact Nat.le_trans (hu.len xs rfl) (by decide)
   case celt=>
    intro C s' H' fp i x y hx hy
    rw [List.getElem?_map,List.getElem?_map,hx] at hy
    cases hy
    exact (aE ((nR T).mono (by decide)) hr rfl T.m_is_whole T.F_is_whole.kp T.b_is_whole aA (ac (aa 1 rfl) am ag) ⟨x,rfl,hu.ity xs rfl x (List.mem_of_getElem? hx),rfl⟩)
   ·have hall:xs.all isInt=false:=by simpa using hT
    refine af (aF iz ?_)
    exact vB (tG hall).symm
   ·have hall:xs.all isInt=true:=by simpa using hF
    obtain ⟨a,b,c,d,e,f,rfl⟩:=yK hl hall
    obtain ⟨sa,sb,sc,sd⟩:=hu.sz a b c d e f rfl
    refine af (aF (j6 (AH rfl rfl rfl) (aE ((wX T).mono (by decide)) hr rfl T.m_hand T.F_hand.kp T.b_hand aA (ac (aa 0 rfl) am ag) ⟨a,b,c,d,e,f,rfl,sa,sb,sc,sd,rfl⟩) (dU (aJ ah (aJ (dh ah) dr g6) bN))) ?_)
    refine vB ?_
    show inV (fl (.int (a * d - b * c))) ([U.int 1,.int (-1)].map fl)=_
    rw [show iB (.tup [.int a,.int b,.int c,.int d,.int e,.int f])=(decide (a * d - b * c=1) || decide (a * d - b * c=-1)) from rfl]
    generalize a * d - b * c=h
    rw [Bool.eq_iff_iff]
    simp [inV,fl,eqV]
    omega
def h_ (C:Addr):List U→Out→Prop:=fun us o=> ∃ u,us=[u]∧mZ u∧o=if iB u=true then .val .non else .exc C
set_option maxHeartbeats 8000000 in
theorem gK (T:Txt K mg):bh P w K mg base (CXF P w) 3 T.a_need_move T.d_need_move ["thing"] (spU K (h_ T.c_NoMove)):=by
 refine bq T.F_need_move ln (fun us o h=> ?_) (fun cdv A outer s H E O us o hr h=> ?_)
 ·obtain ⟨u,rfl,hu,rfl⟩:=h
  rfl
 obtain ⟨u,rfl,hu,rfl⟩:=h
 refine af (fQ (fe (eC (aE ((nW T).mono (by decide)) hr rfl T.m_is_move T.F_is_move.kp T.b_is_move aA (ac (aa 0 rfl) am ag) ⟨u,rfl,hu,rfl⟩))) (fun hT=> ?_) (fun hF=> (aY (aY ?_))))
 ·have h:iB u=false:=by simpa using hT
  refine af (pL T.x_NoMove rfl T.mx_NoMove xF ?_)
  show Out.exc _=_
  rw [if_neg (by rw [h]; decide)]
 ·have h:iB u=true:=by simpa using hF
  show _=_
  rw [if_pos h]
structure Mv (a b c d e f:Int):Prop where
 u:a * d - b * c=1∨a * d - b * c=-1
 a:Sz 30000 a
 b:Sz 30000 b
 c:Sz 30000 c
 d:Sz 30000 d
 e:Sz 30000 e
 f:Sz 30000 f
theorem Mv.ok {a b c d e f:Int} (M:Mv a b c d e f):mZ (mv a b c d e f):=mZ.of M.a M.b M.c M.d
theorem Mv.need {C:Addr} {a b c d e f:Int} (M:Mv a b c d e f):h_ C [mv a b c d e f] (.val .non):=⟨_,rfl,M.ok,by rw [if_pos (wB M.u)]⟩
theorem v9 {C:Addr} {u:U} (h:mZ u) (n:iB u=false):h_ C [u] (.exc C):=⟨_,rfl,h,by rw [if_neg (by rw [n]; decide)]⟩
def nQ:List U→Out→Prop:=fun us o=> ∃ x y a b c d e f,us=[pt x y,mv a b c d e f]∧(Sz 30000 x∧Sz 30000 y∧Sz 30000 a∧Sz 30000 b∧Sz 30000 c∧Sz 30000 d)∧o=.val (pt (a * x+b * y) (c * x+d * y))
set_option maxHeartbeats 8000000 in
theorem rh (T:Txt K mg):bh P w K mg base (CXF P w) 1 T.a_turned T.d_turned ["P","move"] (spU K (nQ)):=by
 refine bq T.F_turned rJ (fun us o h=> ?_) (fun cdv A outer s H E O us o hr h=> ?_)
 ·obtain ⟨x,y,a,b,c,d,e,f,rfl,⟨sx,sy,sa,sb,sc,sd⟩,rfl⟩:=h
  rfl
 obtain ⟨x,y,a,b,c,d,e,f,rfl,⟨sx,sy,sa,sb,sc,sd⟩,rfl⟩:=h
 refine Ws.nox ?_
 refine af (aF (dU (aJ (bO (aG (aH (aa 1 rfl) ah rfl rfl) (aH (aa 0 rfl) ah rfl rfl) (by walk_at "mul")) (aG (aH (aa 1 rfl) ah rfl rfl) (aH (aa 0 rfl) ah rfl rfl) (by walk_at "mul"))) (aJ (bO (aG (aH (aa 1 rfl) ah rfl rfl) (aH (aa 0 rfl) ah rfl rfl) (by walk_at "mul")) (aG (aH (aa 1 rfl) ah rfl rfl) (aH (aa 0 rfl) ah rfl rfl) (by walk_at "mul"))) dr bC) bC)) ?_); exact rfl
def oh (C:Addr):List U→Out→Prop:=fun us o=> (∃ x y a b c d e f,us=[pt x y,mv a b c d e f]∧Mv a b c d e f∧Sz 30000 x∧Sz 30000 y∧o=.val (pt (a * x+b * y+e) (c * x+d * y+f)))∨(∃ v u,us=[v,u]∧mZ u∧iB u=false∧o=.exc C)
set_option maxHeartbeats 8000000 in
theorem tJ (T:Txt K mg):bh P w K mg base (CXF P w) 4 T.a_moved T.d_moved ["P","move"] (spU K (oh T.c_NoMove)):=by
 refine bq T.F_moved nE (by rintro us o (⟨x,y,a,b,c,d,e,f,rfl,_⟩ | ⟨v,u,rfl,_⟩) <;> rfl) (fun cdv A outer s H E O us o hr h=> ?_)
 rcases h with ⟨x,y,a,b,c,d,e,f,rfl,M,sx,sy,rfl⟩ | ⟨v,u,rfl,hu,hn,rfl⟩
 ·refine af (yf (aE ((gK T).mono (by decide)) hr rfl T.m_need_move T.F_need_move.kp T.b_need_move aA (ac (aa 1 rfl) am ag) M.need) ?_)
  refine af (aC (i:=2) nE.nd rfl (Or.inl rfl) (aE ((rh T).mono (by decide)) hr rfl T.m_turned T.F_turned.kp T.b_turned aA (ac (aa 0 rfl) (ac (aa 1 rfl) am ag) ag) ⟨x,y,a,b,c,d,e,f,rfl,⟨sx,sy,M.a,M.b,M.c,M.d⟩,rfl⟩) ?_)
  refine af (aF (dU (aJ (bO (aH (aa 2 rfl) ah rfl rfl) (aH (aa 1 rfl) ah rfl rfl)) (aJ (bO (aH (aa 2 rfl) ah rfl rfl) (aH (aa 1 rfl) ah rfl rfl)) dr bC) bC)) ?_)
  exact rfl
 ·refine af (w_ (zj ((gK T).mono (by decide)) hr rfl T.m_need_move T.F_need_move.kp T.b_need_move vF (ac (aa 1 rfl) am ag) (v9 hu hn)) ?_)
  exact rfl
end
section
variable {P:Program} {w:World} {K:PySem.W.Frag} {mg:Str→Option Value} {base:Heap}
theorem tW {a b g s t:Int} (G:gZ a b g s t):g=((Int.gcd a b:Nat):Int):=by
 have h1:g ∣ ((Int.gcd a b:Nat):Int):=Int.dvd_coe_gcd G.da G.db
 have h2:((Int.gcd a b:Nat):Int) ∣ g:=by
  rw [← G.eq]
  exact Int.dvd_add (Int.dvd_trans (Int.gcd_dvd_left ..) (Int.dvd_mul_left _ _)) (Int.dvd_trans (Int.gcd_dvd_right ..) (Int.dvd_mul_left _ _))
 exact Int.dvd_antisymm G.g0 (Int.natCast_nonneg _) h1 h2
theorem jB (a b:Int):∃ s t,gZ a b ((Int.gcd a b:Nat):Int) s t:=by
 obtain ⟨g,s,t,G⟩:=ql a b
 have e:=tW G
 subst e
 exact ⟨s,t,G⟩
structure AU (x0 y0 x1 y1:Int):Prop where
 s0:Sz 3000 x0
 t0:Sz 3000 y0
 s1:Sz 3000 x1
 t1:Sz 3000 y1
def oC:List U→Out→Prop:=fun us o=> ∃ x0 y0 x1 y1 g s t:Int,us=[pt x0 y0,pt x1 y1]∧AU x0 y0 x1 y1∧gZ (x1 - x0) (y1 - y0) g s t∧o=.val (.int g)
set_option maxHeartbeats 8000000 in
theorem mK (T:Txt K mg):bh P w K mg base (CXF P w) 3 T.a_steps T.d_steps ["P","Q"] (spU K (oC)):=by
 refine bq T.F_steps u5 (fun us o h=> ?_) (fun cdv A outer s H E O us o hr h=> ?_)
 ·obtain ⟨x0,y0,x1,y1,g,s,t,rfl,⟨s0,t0,s1,t1⟩,G,rfl⟩:=h
  rfl
 obtain ⟨x0,y0,x1,y1,g,s,t,rfl,⟨s0,t0,s1,t1⟩,G,rfl⟩:=h
 refine Ws.nox ?_
 refine af (aF (aH (aE ((kD T).mono (by decide)) hr rfl T.m_shares T.F_shares.kp T.b_shares aA (ac (aZ (aH (aa 1 rfl) ah rfl rfl) (aH (aa 0 rfl) ah rfl rfl)) (ac (aZ (aH (aa 1 rfl) ah rfl rfl) (aH (aa 0 rfl) ah rfl rfl)) am bC) bC) ⟨_,_,g,s,t,rfl,by walk_at "szb",by walk_at "szb",G,rfl⟩) ah rfl rfl) ?_)
 exact rfl
def bu (n:Nat) (a b m:Int):Int:=match n with
 | 0=> 0
 | n+1=> bu n a b m+(a * (n:Int)+b) / m
theorem jM (a b m:Int):∀ n:Nat,bu (n+1) a b m=b / m+bu n a (b+a) m
 | 0=> by simp [bu]
 | n+1=> by
  rw [show bu (n+1+1) a b m=bu (n+1) a b m+(a * ((n+1:Nat):Int)+b) / m from rfl,jM a b m n]
  rw [show bu (n+1) a (b+a) m=bu n a (b+a) m+(a * (n:Int)+(b+a)) / m from rfl]
  have e:a * ((n+1:Nat):Int)+b=a * (n:Int)+(b+a):=by push_cast; grind
  rw [e]; omega
theorem lr {a b m:Int} (hm:0 < m):∀ n:Nat,bu n a (b+m) m=bu n a b m+n
 | 0=> by simp [bu]
 | n+1=> by
  show bu n a (b+m) m+(a * (n:Int)+(b+m)) / m=bu n a b m+(a * (n:Int)+b) / m+((n+1:Nat):Int)
  rw [lr hm n,← Int.add_assoc,Int.add_ediv_of_dvd_right (Int.dvd_refl m),Int.ediv_self (by omega)]
  push_cast; omega
theorem tD (n:Nat):(((n+1:Nat):Int) * (((n+1:Nat):Int) - 1)) / 2=((n:Int) * ((n:Int) - 1)) / 2+n:=by
 have e:(((n+1:Nat):Int) * (((n+1:Nat):Int) - 1))=(n:Int) * ((n:Int) - 1)+(n:Int) * 2:=by push_cast; grind
 rw [e,Int.add_mul_ediv_right _ _ (by decide)]
theorem jH {a b m:Int} (hm:0 < m):∀ n:Nat,bu n a b m=a / m * ((n:Int) * ((n:Int) - 1) / 2)+b / m * n+bu n (a % m) (b % m) m
 | 0=> by simp [bu]
 | n+1=> by
  show bu n a b m+(a * (n:Int)+b) / m=_+(bu n (a % m) (b % m) m+(a % m * (n:Int)+b % m) / m)
  rw [jH hm n,tD]
  have e:a * (n:Int)+b=(a % m * (n:Int)+b % m)+m * (a / m * n+b / m):=by
   have h1:=Int.emod_add_mul_ediv a m
   have h2:=Int.emod_add_mul_ediv b m
   grind
  rw [e,Int.add_mul_ediv_left _ _ (by omega)]
  push_cast
  grind
theorem g_ {a b m:Int} (ha:0 < a) (ham:a < m) (hb:0≤b) (hbm:b < m):∀ n:Nat,bu n a b m=bu ((a * (n:Int)+b) / m).toNat m ((a * (n:Int)+b) % m) a
 | 0=> by
  have e:(a * ((0:Nat):Int)+b) / m=0:=by
   have:a * ((0:Nat):Int)+b=b:=by simp
   rw [this]; exact Int.ediv_eq_zero_of_lt hb hbm
  rw [e]; rfl
 | n+1=> by
  have ih:=g_ ha ham hb hbm n
  have hz:0≤a * (n:Int)+b:=Int.add_nonneg (Int.mul_nonneg (by omega) (by omega)) hb
  have hY:0≤(a * (n:Int)+b) / m:=Int.ediv_nonneg hz (by omega)
  have hr0:=Int.emod_nonneg (a * (n:Int)+b) (show m≠0 by omega)
  have hr1:=Int.emod_lt_of_pos (a * (n:Int)+b) (show 0 < m by omega)
  have hz2:=Int.emod_add_mul_ediv (a * (n:Int)+b) m
  have ez:a * ((n+1:Nat):Int)+b=(a * (n:Int)+b)+a:=by push_cast; grind
  show bu n a b m+(a * (n:Int)+b) / m=_
  rw [ez,ih]
  generalize hZ:a * (n:Int)+b=z at *
  generalize hYY:z / m=Y at *
  generalize hRR:z % m=r at *
  obtain ⟨y,rfl⟩:=Int.eq_ofNat_of_zero_le hY
  by_cases hc:r+a < m
  ·have e1:(z+a) / m=(y:Int):=by
    rw [show z+a=(r+a)+m * (y:Int) by omega,Int.add_mul_ediv_left _ _ (by omega),Int.ediv_eq_zero_of_lt (by omega) hc]; omega
   have e2:(z+a) % m=r+a:=by
    rw [show z+a=(r+a)+m * (y:Int) by omega,Int.add_mul_emod_self_left,Int.emod_eq_of_lt (by omega) hc]
   rw [e1,e2,lr ha]
   simp
  ·have e1:(z+a) / m=(y:Int)+1:=by
    rw [show z+a=(r+a - m)+m * ((y:Int)+1) by rw [Int.mul_add]; omega,Int.add_mul_ediv_left _ _ (by omega),Int.ediv_eq_zero_of_lt (by omega) (by omega)]; omega
   have e2:(z+a) % m=r+a - m:=by
    rw [show z+a=(r+a - m)+m * ((y:Int)+1) by rw [Int.mul_add]; omega,Int.add_mul_emod_self_left,Int.emod_eq_of_lt (by omega) (by omega)]
   rw [e1,e2,show ((y:Int)+1).toNat=y+1 by omega,jM,Int.ediv_eq_zero_of_lt (by omega) (by omega),show r+a - m+m=r+a by omega,lr ha]
   simp
theorem jI {a b m:Int} (ha:0≤a) (hb:0≤b) (n:Nat) (h:a * (n:Int)+b < m):bu n a b m=0:=by
 induction n with
 | zero=> rfl
 | succ n ih=>
  have e:a * ((n+1:Nat):Int)+b=a * (n:Int)+b+a:=by push_cast; grind
  have h1:0≤a * (n:Int):=Int.mul_nonneg ha (by omega)
  show bu n a b m+(a * (n:Int)+b) / m=0
  rw [ih (by omega),Int.ediv_eq_zero_of_lt (by omega) (by omega)]; rfl
theorem sj (n:Nat) (a b m:Int):bu (n+1) a b m=bu n a b m+(a * (n:Int)+b) / m:=rfl
theorem kj:∀ (m:Nat) (a b g:Int),0 < m→0 < g→g ∣ a→g ∣ (m:Int)→(∀ d,d ∣ a→d ∣ (m:Int)→d ∣ g)→2 * bu m a b m=(a - 1) * ((m:Int) - 1)+g - 1+2 * (g * (b / g)):=by
 intro m
 induction m using Nat.strongRecOn with
 | ind m ih=>
  intro a b g hm hg ga gm gr
  have hm':(0:Int) < (m:Int):=by omega
  have red:=jH (a:=a) (b:=b) hm' m
  have ha0:=Int.emod_nonneg a (show (m:Int)≠0 by omega)
  have ha1:=Int.emod_lt_of_pos a hm'
  have hb0:=Int.emod_nonneg b (show (m:Int)≠0 by omega)
  have hb1:=Int.emod_lt_of_pos b hm'
  have ea:=Int.emod_add_mul_ediv a (m:Int)
  have eb:=Int.emod_add_mul_ediv b (m:Int)
  have tri:2 * ((m:Int) * ((m:Int) - 1) / 2)=(m:Int) * ((m:Int) - 1):=by
   have:(2:Int) ∣ (m:Int) * ((m:Int) - 1):=by
    rcases Int.emod_two_eq (m:Int) with h | h
    ·exact Int.dvd_trans (Int.dvd_of_emod_eq_zero h) (Int.dvd_mul_right _ _)
    ·exact Int.dvd_trans (Int.dvd_of_emod_eq_zero (by omega)) (Int.dvd_mul_left _ _)
   exact Int.mul_ediv_cancel' this
  have gb:g * (b / g)=(m:Int) * (b / (m:Int))+g * (b % (m:Int) / g):=by
   obtain ⟨c,hc⟩:=gm
   have:b=b % (m:Int)+g * (c * (b / (m:Int))):=by rw [← Int.mul_assoc,← hc]; omega
   conv=> lhs; rw [this]
   rw [Int.add_mul_ediv_left _ _ (by omega),Int.mul_add,← Int.mul_assoc g c,← hc]; omega
  by_cases hz:a % (m:Int)=0
  ·have gm2:g=(m:Int):=Int.dvd_antisymm (by omega) (by omega) gm (gr _ (Int.dvd_of_emod_eq_zero hz) (Int.dvd_refl _))
   have small:bu m (a % (m:Int)) (b % (m:Int)) m=0:=jI ha0 hb0 m (by rw [hz]; omega)
   rw [red,small,gb,gm2,Int.ediv_eq_zero_of_lt hb0 hb1]
   rw [hz] at ea
   have:a=(m:Int) * (a / (m:Int)):=by omega
   generalize a / (m:Int)=q at *
   subst this
   grind
  ·have hp:0 < a % (m:Int):=by omega
   have turn:=g_ hp ha1 hb0 hb1 m
   have e1:(a % (m:Int) * (m:Int)+b % (m:Int)) / (m:Int)=a % (m:Int):=by
    rw [Int.add_comm,Int.add_mul_ediv_right _ _ (by omega),Int.ediv_eq_zero_of_lt hb0 hb1]; omega
   have e2:(a % (m:Int) * (m:Int)+b % (m:Int)) % (m:Int)=b % (m:Int):=by
    rw [Int.add_comm,Int.add_mul_emod_self_right,Int.emod_eq_of_lt hb0 hb1]
   rw [e1,e2] at turn
   have gd1:g ∣ a % (m:Int):=by
    rw [show a % (m:Int)=a - (m:Int) * (a / (m:Int)) by omega]
    exact Int.dvd_sub ga (Int.dvd_trans gm (Int.dvd_mul_right _ _))
   have IH:=ih (a % (m:Int)).toNat (by omega) (m:Int) (b % (m:Int)) g (by omega) hg gm (by rw [Int.toNat_of_nonneg ha0]; exact gd1) (fun d h1 h2=> by
    rw [Int.toNat_of_nonneg ha0] at h2
    refine gr d ?_ h1
    rw [← ea]
    exact Int.dvd_add h2 (Int.dvd_trans h1 (Int.dvd_mul_right _ _)))
   rw [Int.toNat_of_nonneg ha0] at IH
   rw [red,turn,gb]
   have e3:2 * (a / (m:Int) * ((m:Int) * ((m:Int) - 1) / 2))=a / (m:Int) * ((m:Int) * ((m:Int) - 1)):=by rw [← tri]; grind
   generalize a / (m:Int)=q at *
   generalize a % (m:Int)=a' at *
   subst ea
   grind
theorem yG {a b m n:Int} (hn:0≤n) (ham:a < m) (hbm:b < m) (hm:0 < m):(a * n+b) / m≤n:=by
 have h1:a * n≤(m - 1) * n:=Int.mul_le_mul_of_nonneg_right (by omega) hn
 have h2:a * n+b < (n+1) * m:=by
  have e:(n+1) * m=(m - 1) * n+n+m:=by grind
  omega
 have:=Int.ediv_lt_of_lt_mul hm h2
 omega
def rF:List U→Out→Prop:=fun us o=> ∃ many step start part:Int,us=[.int many,.int step,.int start,.int part]∧0≤many∧0 < part∧Sz 3000 many∧Sz 3000 step∧Sz 3000 start∧Sz 3000 part∧o=.val (.int (bu many.toNat step start part))
set_option maxHeartbeats 8000000 in
theorem o8 (T:Txt K mg):bh P w K mg base (CXF P w) 1 T.a_row_sum T.d_row_sum ["many","step","start","part"] (spU K (rF)):=by
 refine bq T.F_row_sum bB (fun us o h=> ?_) (fun cdv A outer s H E O us o hr h=> ?_)
 ·obtain ⟨many,step,start,part,rfl,m0,p0,sm,ss,sb,sp,rfl⟩:=h
  rfl
 obtain ⟨many,step,start,part,rfl,m0,p0,sm,ss,sb,sp,rfl⟩:=h
 refine Ws.nox ?_
 refine af (ff (Tw.t (vv (aO fg (aa 0 rfl) ah) (fun hz=> (pI (aO fg (aa 3 rfl) ah))))) (by simp; omega) (aY ?_))
 refine af (aC (i:=4) bB.nd rfl (Or.inl rfl) ah ?_)
 generalize hS:bu many.toNat step start part=S
 refine af (gX (fun m:Int×Int×Int×Int×Int=> [some (.val (.int m.1)),some (.val (.int m.2.1)),some (.val (.int m.2.2.1)),some (.val (.int m.2.2.2.1)),some (.val (.int m.2.2.2.2)),none,none]) (fun n m=> n=m.2.2.2.1.toNat∧0≤m.1∧0 < m.2.2.2.1∧m.2.2.2.2+bu m.1.toNat m.2.1 m.2.2.1 m.2.2.2.1=S∧Sz 3000 m.1∧Sz 3000 m.2.1∧Sz 3000 m.2.2.1∧Sz 3000 m.2.2.2.1) PassesOwn.never ?h0 ?hs)
 case h0=> exact ⟨_,(_,_,_,_,_),⟨rfl,m0,p0,(show 0+bu many.toNat step start part=S by omega),sm,ss,sb,sp⟩,rfl,rfl,rfl,rfl,rfl,trivial⟩
 case hs=>
  rintro n ⟨mn,st,sa,pa,tt⟩ ⟨rfl,m0,p0,e,sm,ss,sb,sp⟩
  dsimp only at m0 p0 e sm ss sb sp ⊢
  refine ⟨_,(eC iz),fun h=> ?_,fun h ps hps=> ?_⟩
  ·have d1:Sz 3000 (st / pa):=ss.ediv
   have d2:Sz 3000 (sa / pa):=sb.ediv
   have dm:Sz 6001 (mn * (mn - 1)):=(L2.Sz.mul sm (L2.Sz.sub' sm (Sz.mono (m:=8) (n:=3000) (x:=1) (by decide) (by decide)))).mono (by decide)
   have d3:Sz 6001 (mn * (mn - 1) / 2):=dm.ediv
   refine af (Au (i:=4) yk bB.nd rfl (Or.inl rfl) rfl (bO (aG (eU (aa 1 rfl) (aa 3 rfl) (by walk_at "div")) (eU (aG (aa 0 rfl) (aZ (aa 0 rfl) ah) (by walk_at "mul")) ah (by walk_at "div")) (by walk_at "mul")) (aG (eU (aa 2 rfl) (aa 3 rfl) (by walk_at "div")) (aa 0 rfl) (by walk_at "mul"))) ?_)
   refine af (aC (i:=1) bB.nd rfl (Or.inl rfl) (cP (aa 1 rfl) (aa 3 rfl) (by walk_at "mod")) ?_)
   refine af (aC (i:=2) bB.nd rfl (Or.inl rfl) (cP (aa 2 rfl) (aa 3 rfl) (by walk_at "mod")) ?_)
   have a0:=Int.emod_nonneg st (show pa≠0 by omega)
   have a1:=Int.emod_lt_of_pos st p0
   have b0:=Int.emod_nonneg sa (show pa≠0 by omega)
   have b1:=Int.emod_lt_of_pos sa p0
   have sA:Sz 3000 (st % pa):=sp.natle (by omega)
   have sB:Sz 3000 (sa % pa):=sp.natle (by omega)
   have red:=jH (a:=st) (b:=sa) p0 mn.toNat
   rw [show ((mn.toNat:Nat):Int)=mn by omega] at red
   refine af (aC (i:=5) bB.nd rfl (Or.inl rfl) (bO (aG (aa 1 rfl) (aa 0 rfl) (by walk_at "mul")) (aa 2 rfl)) ?_)
   have sT:Sz 6002 (st % pa * mn+sa % pa):=(L2.Sz.add' (L2.Sz.mul sA sm) (sB.mono (n:=6000) (by decide))).mono (by decide)
   refine af (fQ (aO fg (aa 5 rfl) (aa 3 rfl)) (fun hT=> ?_) (fun hF=> (aY ?_)))
   ·have c:=dTb hT
    have z:=jI (m:=pa) a0 b0 mn.toNat (by rw [show ((mn.toNat:Nat):Int)=mn by omega]; exact c)
    refine af (aF (aa 4 rfl) ?_)
    exact vIO (by omega)
   ·have c:=dFb hF
    have apos:0 < st % pa:=by
     rcases Int.lt_or_eq_of_le a0 with h | h
     ·exact h
     ·rw [← h,Int.zero_mul] at c
      omega
    have hn:0≤st % pa * mn:=Int.mul_nonneg a0 m0
    have turn:=g_ apos a1 b0 b1 mn.toNat
    rw [show ((mn.toNat:Nat):Int)=mn by omega] at turn
    have t0:0≤(st % pa * mn+sa % pa) / pa:=Int.ediv_nonneg (by omega) (by omega)
    have t1:=yG m0 a1 b1 p0
    have r0:=Int.emod_nonneg (st % pa * mn+sa % pa) (show pa≠0 by omega)
    have r1:=Int.emod_lt_of_pos (st % pa * mn+sa % pa) p0
    have zM:Sz 3000 ((st % pa * mn+sa % pa) / pa):=sm.natle (by omega)
    have zR:Sz 3000 ((st % pa * mn+sa % pa) % pa):=sp.natle (by omega)
    refine af (aC (i:=0) bB.nd rfl (Or.inl rfl) (eU (aa 5 rfl) (aa 3 rfl) (by walk_at "div")) ?_)
    refine af (aC (i:=2) bB.nd rfl (Or.inl rfl) (cP (aa 5 rfl) (aa 3 rfl) (by walk_at "mod")) ?_)
    refine af (aC (i:=6) bB.nd rfl (Or.inl rfl) (aa 1 rfl) ?_)
    refine af (aC (i:=1) bB.nd rfl (Or.inl rfl) (aa 3 rfl) ?_)
    refine af (aC (i:=3) bB.nd rfl (Or.inl rfl) (aa 6 rfl) (aY ?_))
    refine ⟨_,(_,_,_,_,_),?_,⟨rfl,t0,apos,?_,zM,sp,zR,sA⟩,rfl,rfl,rfl,rfl,rfl,trivial⟩
    ·dsimp only; omega
    ·dsimp only; rw [← turn]; omega
  ·cases h
end
section
variable {P:Program} {w:World} {K:PySem.W.Frag} {mg:Str→Option Value} {base:Heap}
abbrev Pt:=Int×Int
def plt (p q:Pt):Prop:=p.1 < q.1∨(p.1=q.1∧p.2 < q.2)
def ae (a b p:Pt):Int:=(b.1 - a.1) * (p.2 - a.2) - (b.2 - a.2) * (p.1 - a.1)
theorem cf {a b c:Pt} (h1:plt a b) (h2:plt b c):plt a c:=by unfold plt at *; omega
theorem bp (a:Pt):¬ plt a a:=by unfold plt; omega
theorem lC (a b:Pt):plt a b∨a=b∨plt b a:=by
 unfold plt
 by_cases h1:a.1=b.1
 ·by_cases h2:a.2=b.2
  ·exact .inr (.inl (Prod.ext h1 h2))
  ·omega
 ·omega
def fT (x y:Int):Prop:=0 < x∨(x=0∧0 < y)
theorem bi {a b:Pt} (h:plt a b):fT (b.1 - a.1) (b.2 - a.2):=by unfold plt fT at *; omega
theorem fm {u1 u2 v1 v2 w1 w2:Int} (hu:fT u1 u2) (hv:fT v1 v2) (hw:fT w1 w2) (h1:0≤u1 * v2 - u2 * v1) (h2:0≤v1 * w2 - v2 * w1):0≤u1 * w2 - u2 * w1:=by
 unfold fT at *
 by_cases hv1:v1=0
 ·subst hv1
  have hv2:0 < v2:=by omega
  have hw1:w1=0:=by
   have:v2 * w1≤0:=by rw [Int.zero_mul] at h2; omega
   by_cases hz:0 < w1
   ·have:=Int.mul_pos hv2 hz; omega
   ·omega
  subst hw1
  have hw2:0 < w2:=by omega
  have:=Int.mul_nonneg (show 0≤u1 by omega) (show 0≤w2 by omega)
  simp; omega
 ·have hv':0 < v1:=by omega
  have e:v1 * (u1 * w2 - u2 * w1)=u1 * (v1 * w2 - v2 * w1)+w1 * (u1 * v2 - u2 * v1):=by grind
  have p1:=Int.mul_nonneg (show 0≤u1 by omega) h2
  have p2:=Int.mul_nonneg (show 0≤w1 by omega) h1
  have:0≤v1 * (u1 * w2 - u2 * w1):=by omega
  exact Int.nonneg_of_mul_nonneg_right this hv'
theorem i6 {u1 u2 v1 v2 w1 w2:Int} (hu:fT u1 u2) (hv:fT v1 v2) (hw:fT w1 w2) (h1:0 < u1 * v2 - u2 * v1) (h2:0≤v1 * w2 - v2 * w1):0 < u1 * w2 - u2 * w1:=by
 unfold fT at *
 by_cases hv1:v1=0
 ·subst hv1
  have hv2:0 < v2:=by omega
  have hw1:w1=0:=by
   have:v2 * w1≤0:=by rw [Int.zero_mul] at h2; omega
   by_cases hz:0 < w1
   ·have:=Int.mul_pos hv2 hz; omega
   ·omega
  subst hw1
  have hw2:0 < w2:=by omega
  have hu1:0 < u1:=by
   rcases hu with h | ⟨h,_⟩
   ·exact h
   ·subst h; simp at h1
  have:=Int.mul_pos hu1 hw2
  simp; omega
 ·have hv':0 < v1:=by omega
  have e:v1 * (u1 * w2 - u2 * w1)=u1 * (v1 * w2 - v2 * w1)+w1 * (u1 * v2 - u2 * v1):=by grind
  have p1:=Int.mul_nonneg (show 0≤u1 by omega) h2
  by_cases hw1:w1=0
  ·subst hw1
   have hw2:0 < w2:=by omega
   have hu1:0 < u1:=by
    rcases hu with h | ⟨h,h'⟩
    ·exact h
    ·subst h
     have:=Int.mul_pos h' hv'
     simp at h1; omega
   have:=Int.mul_pos hu1 hw2
   simp; omega
  ·have p2:=Int.mul_pos (show 0 < w1 by omega) h1
   have:0 < v1 * (u1 * w2 - u2 * w1):=by omega
   exact Int.pos_of_mul_pos_right this (by omega)
def lg:List Pt→Prop
 | b::a::r=> plt a b∧lg (a::r)
 | _=> True
def iu:List Pt→Prop
 | c::b::a::r=> 0 < ae a b c∧iu (b::a::r)
 | _=> True
def gc (done:List Pt):List Pt→Prop
 | b::a::r=> (∀ q∈done,0≤ae a b q)∧gc done (a::r)
 | _=> True
theorem iu.tail:∀ {b:Pt} {st:List Pt},iu (b::st)→iu st
 | _,[],_=> trivial
 | _,[_],_=> trivial
 | _,_::_::_,h=> h.2
theorem lg.tail:∀ {b:Pt} {st:List Pt},lg (b::st)→lg st
 | _,[],_=> trivial
 | _,_::_,h=> h.2
theorem gc.tail {done:List Pt}:∀ {b:Pt} {st:List Pt},gc done (b::st)→gc done st
 | _,[],_=> trivial
 | _,_::_,h=> h.2
def aV (P:Pt):List Pt→List Pt
 | b::a::r=> if ae a b P≤0 then aV P (a::r) else b::a::r
 | st=> st
def ak (row:List Pt):List Pt:=row.foldl (fun st P=> P::aV P st) []
structure wm (done st:List Pt):Prop where
 ne:st≠[]
 desc:lg st
 turns:iu st
 cover:gc done st
 sub:∀ p∈st,p∈done
structure rB (done st:List Pt) (P:Pt):Prop extends wm done st where
 pend:∀ h r,st=h::r→∀ q∈done,plt h q→0≤ae h P q
theorem qQ {done:List Pt} {P b a:Pt} {r:List Pt} (hP:∀ q∈done,plt q P) (D:rB done (b::a::r) P) (h:ae a b P≤0):rB done (a::r) P:=by
 refine ⟨⟨by simp,D.desc.tail,D.turns.tail,D.cover.tail,fun p hp=> D.sub p (List.mem_cons_of_mem _ hp)⟩,?_⟩
 intro h' r' e q hq hlt
 cases e
 have hab:=D.desc.1
 have hq':=D.cover.1 q hq
 have hbP:=hP b (D.sub b List.mem_cons_self)
 have hqP:=hP q hq
 rcases lC q b with z | z | z
 ·have l1:=bi hlt
  have l2:=bi hab
  have l3:=bi (cf hab hbP)
  have:=fm (u1:=P.1 - a.1) (u2:=P.2 - a.2) (v1:=b.1 - a.1) (v2:=b.2 - a.2) (w1:=q.1 - a.1) (w2:=q.2 - a.2) l3 l2 l1 (by unfold ae at h; grind) (by unfold ae at hq'; grind)
  unfold ae; grind
 ·subst z; unfold ae at *; grind
 ·have p:=D.pend b _ rfl q hq z
  unfold ae at *
  grind
theorem lU {done:List Pt} {P:Pt} (hP:∀ q∈done,plt q P):∀ st:List Pt,rB done st P→rB done (aV P st) P∧(∀ b a r,aV P st=b::a::r→0 < ae a b P)∧(st.getLast?=(aV P st).getLast?)
 | [],D=> absurd rfl D.ne
 | [b],D=> ⟨D,fun _ _ _ e=> by simp [aV] at e,rfl⟩
 | b::a::r,D=> by
  by_cases h:ae a b P≤0
  ·rw [aV,if_pos h]
   obtain ⟨h1,h2,h3⟩:=lU hP (a::r) (qQ hP D h)
   exact ⟨h1,h2,by rw [← h3]; simp⟩
  ·rw [aV,if_neg h]
   refine ⟨D,fun b' a' r' e=> ?_,rfl⟩
   cases e; omega
theorem rL {done st:List Pt} {P:Pt} (hP:∀ q∈done,plt q P) (D:rB done st P) (ht:∀ b a r,st=b::a::r→0 < ae a b P) (hmin:∀ x,st=[x]→∀ q∈done,q=x∨plt x q):wm (done++[P]) (P::st):=by
 have up:∀ (b:Pt) (r:List Pt),lg (b::r)→iu (b::r)→gc done (b::r)→plt b P→(∀ a r',r=a::r'→0≤ae a b P)→gc (done++[P]) (b::r):=by
  intro b r
  induction r generalizing b with
  | nil=> intro _ _ _ _ _; trivial
  | cons a r ih=>
   intro hd htn hc hbP hl
   refine ⟨fun q hq=> ?_,?_⟩
   ·rcases List.mem_append.mp hq with z | z
    ·exact hc.1 q z
    ·rw [List.mem_singleton.mp z]; exact hl a r rfl
   ·refine ih a hd.tail htn.tail hc.tail (cf hd.1 hbP) (fun c r' e=> ?_)
    subst e
    have t:=htn.1
    have g:=hl a _ rfl
    have l1:=bi hd.2.1
    have l2:=bi hd.1
    have l3:=bi (cf hd.1 hbP)
    have:=fm (u1:=a.1 - c.1) (u2:=a.2 - c.2) (v1:=b.1 - a.1) (v2:=b.2 - a.2) (w1:=P.1 - a.1) (w2:=P.2 - a.2) l1 l2 l3 (by unfold ae at t; grind) (by unfold ae at g; grind)
    unfold ae; grind
 obtain ⟨h,r,e⟩:∃ h r,st=h::r:=by
  cases hst:st with
  | nil=> exact absurd hst D.ne
  | cons h r=> exact ⟨h,r,rfl⟩
 subst e
 have hhP:=hP h (D.sub h List.mem_cons_self)
 refine ⟨by simp,⟨hhP,D.desc⟩,?_,⟨fun q hq=> ?_,?_⟩,fun p hp=> ?_⟩
 ·cases r with
  | nil=> trivial
  | cons a r'=> exact ⟨ht h a r' rfl,D.turns⟩
 ·rcases List.mem_append.mp hq with z | z
  ·rcases lC q h with y | y | y
   ·cases r with
    | nil=>
     rcases hmin h rfl q z with w | w
     ·subst w; exact absurd y (bp _)
     ·exact absurd (cf y w) (bp _)
    | cons a r'=>
     have t:=ht h a r' rfl
     have c:=D.cover.1 q z
     have l1:=bi D.desc.1
     have l2:=bi y
     have l3:=bi hhP
     have:=fm (u1:=h.1 - q.1) (u2:=h.2 - q.2) (v1:=h.1 - a.1) (v2:=h.2 - a.2) (w1:=P.1 - h.1) (w2:=P.2 - h.2) l2 l1 l3 (by unfold ae at c; grind) (by unfold ae at t; grind)
     unfold ae; grind
   ·subst y; unfold ae; grind
   ·exact D.pend h r rfl q z y
  ·rw [List.mem_singleton.mp z]; unfold ae; grind
 ·exact up h r D.desc D.turns D.cover hhP (fun a r' e=> Int.le_of_lt (ht h a r' (by rw [e])))
 ·rcases List.mem_cons.mp hp with z | z
  ·subst z; exact List.mem_append_right _ List.mem_cons_self
  ·exact List.mem_append_left _ (D.sub p z)
theorem jv (row:List Pt) (P:Pt):ak (row++[P])=P::aV P (ak row):=by
 unfold ak; rw [List.foldl_append]; rfl
theorem iZ {row:List Pt} (hs:row.Pairwise plt):∀ n,0 < n→n≤row.length→wm (row.take n) (ak (row.take n))∧(ak (row.take n)).getLast?=row.head?∧(ak (row.take n)).head?=row[n - 1]?
 | 0,h,_=> absurd h (by decide)
 | 1,_,h=> by
  cases row with
  | nil=> simp at h
  | cons a r=>
   simp only [List.take_succ_cons,List.take_zero]
   exact ⟨⟨by simp [ak],trivial,trivial,trivial,fun p hp=> by simpa [ak,aV] using hp⟩,rfl,rfl⟩
 | n+2,_,h=> by
  obtain ⟨K,hl,hh⟩:=iZ hs (n+1) (by omega) (by omega)
  have hn:n+1 < row.length:=by omega
  have et:row.take (n+2)=row.take (n+1)++[row[n+1]]:=by rw [List.take_succ_eq_append_getElem hn]
  have hP:∀ q∈row.take (n+1),plt q row[n+1]:=fun q hq=> by
   obtain ⟨i,hi,e⟩:=List.mem_take_iff_getElem.mp hq
   subst e
   exact List.pairwise_iff_getElem.mp hs i (n+1) (by omega) hn (by omega)
  have D:rB (row.take (n+1)) (ak (row.take (n+1))) row[n+1]:=⟨K,fun h' r e q hq hlt=> by
   exfalso
   rw [e] at hh
   simp only [List.head?_cons,Nat.add_sub_cancel] at hh
   have hn':n < row.length:=by omega
   rw [List.getElem?_eq_getElem hn'] at hh
   have hh':=Option.some.inj hh
   obtain ⟨i,hi,e2⟩:=List.mem_take_iff_getElem.mp hq
   subst e2
   rw [hh'] at hlt
   rcases Nat.lt_or_ge i n with z | z
   ·exact bp _ (cf hlt (List.pairwise_iff_getElem.mp hs i n (by omega) hn' z))
   ·have:i=n:=by omega
    subst this
    exact bp _ hlt⟩
  obtain ⟨D2,ht,hlast⟩:=lU hP _ D
  rw [et,jv]
  refine ⟨rL hP D2 ht (fun x e q hq=> ?_),?_,?_⟩
  ·rw [e,hl] at hlast
   simp at hlast
   obtain ⟨i,hi,e2⟩:=List.mem_take_iff_getElem.mp hq
   have h0:0 < row.length:=by omega
   have e3:row[0]=x:=by
    rw [List.head?_eq_getElem?,List.getElem?_eq_getElem h0] at hlast
    exact Option.some.inj hlast
   subst e2
   rcases Nat.eq_zero_or_pos i with z | z
   ·subst z; exact .inl e3
   ·right; rw [← e3]; exact List.pairwise_iff_getElem.mp hs 0 i h0 (by omega) z
  ·rw [List.getLast?_cons,← hlast,hl]
   cases row with
   | nil=> simp at hn
   | cons a r=> rfl
  ·simp only [List.head?_cons,Nat.add_sub_cancel]
   rw [show n+2 - 1=n+1 by omega,List.getElem?_eq_getElem hn]
theorem cm {row:List Pt} (hs:row.Pairwise plt) (h:row≠[]):wm row (ak row)∧(ak row).getLast?=row.head?∧(ak row).head?=row.getLast?:=by
 have h0:0 < row.length:=List.length_pos_iff.mpr h
 obtain ⟨h1,h2,h3⟩:=iZ hs row.length h0 (Nat.le_refl _)
 rw [List.take_length] at h1 h2 h3
 exact ⟨h1,h2,by rw [h3,List.getLast?_eq_getElem?]⟩
theorem iy {u1 u2 v1 v2 w1 w2:Int} (hu:fT u1 u2) (hv:fT v1 v2) (hw:fT w1 w2) (h1:0≤u1 * v2 - u2 * v1) (h2:0 < v1 * w2 - v2 * w1):0 < u1 * w2 - u2 * w1:=by
 unfold fT at *
 by_cases hv1:v1=0
 ·subst hv1
  have hv2:0 < v2:=by omega
  have:=Int.mul_nonneg (show 0≤v2 by omega) (show 0≤w1 by omega)
  simp at h2; omega
 ·have hv':0 < v1:=by omega
  have hu1:0 < u1:=by
   rcases hu with h | ⟨h,h'⟩
   ·exact h
   ·subst h
    have:=Int.mul_pos h' hv'
    simp at h1; omega
  have e:v1 * (u1 * w2 - u2 * w1)=u1 * (v1 * w2 - v2 * w1)+w1 * (u1 * v2 - u2 * v1):=by grind
  have p1:=Int.mul_pos hu1 h2
  have p2:=Int.mul_nonneg (show 0≤w1 by omega) h1
  have q:0 < v1 * (u1 * w2 - u2 * w1):=by omega
  exact Int.pos_of_mul_pos_right q hv'
def low (row:List Pt) (p:Pt):Prop:=∀ a∈row,∀ b∈row,plt a p→plt p b→0 < ae a p b
theorem xR {row:List Pt} {p:Pt}:∀ (st:List Pt) (n:Pt),lg (n::st)→iu (n::st)→gc row (n::st)→p∈st→(∀ l,(n::st).getLast?=some l→plt l p)→
  ∃ n' q,0 < ae q p n'∧plt q p∧plt p n'∧(∀ x∈row,0≤ae p n' x)∧(∀ x∈row,0≤ae q p x)
 | [],n,_,_,_,hp,_=> by simp at hp
 | h::r,n,D,T,C,hp,hl=> by
  by_cases e:h=p
  ·subst e
   cases r with
   | nil=> exact absurd (hl h (by simp)) (bp h)
   | cons q r'=> exact ⟨n,q,T.1,D.2.1,D.1,C.1,C.2.1⟩
  ·have hp':p∈r:=by
    rcases List.mem_cons.mp hp with z | z
    ·exact absurd z.symm e
    ·exact z
   exact xR r h D.tail T.tail C.tail hp' (fun l hl'=> hl l (by rw [List.getLast?_cons_cons]; exact hl'))
theorem lx {row:List Pt} (hs:row.Pairwise plt) {p:Pt} (hp:p∈ak row):low row p:=by
 intro a ha b hb hap hpb
 have hne:row≠[]:=fun z=> by rw [z] at ha; simp at ha
 obtain ⟨K,hlast,hhead⟩:=cm hs hne
 have mn:∀ x∈row,∀ m,row.head?=some m→x=m∨plt m x:=fun x hx m hm=> by
  cases row with
  | nil=> simp at hx
  | cons y r=>
   cases hm
   rcases List.mem_cons.mp hx with z | z
   ·exact .inl z
   ·exact .inr ((List.pairwise_cons.mp hs).1 x z)
 have mx:∀ x∈row,∀ m,row.getLast?=some m→x=m∨plt x m:=fun x hx m hm=> by
  obtain ⟨i,hi⟩:=List.mem_iff_getElem?.mp hx
  have hil:=(List.getElem?_eq_some_iff.mp hi).1
  rw [List.getLast?_eq_getElem?] at hm
  have hml:=(List.getElem?_eq_some_iff.mp hm).1
  rcases Nat.lt_or_eq_of_le (show i≤row.length - 1 by omega) with z | z
  ·right
   have h1:=List.pairwise_iff_getElem.mp hs i (row.length - 1) hil hml z
   rw [(List.getElem?_eq_some_iff.mp hi).2,(List.getElem?_eq_some_iff.mp hm).2] at h1
   exact h1
  ·left; rw [z,hm] at hi; exact (Option.some.inj hi).symm
 cases hst:ak row with
 | nil=> exact absurd hst K.ne
 | cons n st=>
  rw [hst] at K hlast hhead hp
  have hn:row.getLast?=some n:=by rw [← hhead]; rfl
  have hpn:p∈st:=by
   rcases List.mem_cons.mp hp with z | z
   ·rcases mx b hb n hn with y | y
    ·rw [y,← z] at hpb; exact absurd hpb (bp p)
    ·rw [z] at hpb; exact absurd (cf hpb y) (bp n)
   ·exact z
  obtain ⟨n',q,t,qp,pn,c1,c2⟩:=xR st n K.desc K.turns K.cover hpn (fun l hl=> by
   rw [hlast] at hl
   rcases mn a ha l hl with y | y
   ·rw [← y]; exact hap
   ·exact cf y hap)
  have g1:=c2 a ha
  have g2:=c1 b hb
  unfold ae at *
  have k1:0≤(p.1 - a.1) * (p.2 - q.2) - (p.2 - a.2) * (p.1 - q.1):=by grind
  have k2:0 < (p.1 - q.1) * (n'.2 - p.2) - (p.2 - q.2) * (n'.1 - p.1):=by grind
  have k3:0≤(n'.1 - p.1) * (b.2 - p.2) - (n'.2 - p.2) * (b.1 - p.1):=by grind
  have k4:=i6 (bi qp) (bi pn) (bi hpb) k2 k3
  have k5:=iy (bi hap) (bi qp) (bi hpb) k1 k4
  grind
theorem tR {row:List Pt} {p:Pt}:∀ (st:List Pt) (h:Pt),lg (h::st)→gc row (h::st)→p∈row→p ∉ h::st→plt p h→(∀ l,(h::st).getLast?=some l→plt l p)→∃ a∈h::st,∃ b∈h::st,plt a p∧plt p b∧0≤ae a b p
 | [],h,_,_,_,_,hp,hl=> absurd (cf hp (hl h (by simp))) (bp p)
 | a::r,h,D,C,hr,hno,hp,hl=> by
  rcases lC p a with z | z | z
  ·obtain ⟨x,hx,y,hy,k⟩:=tR r a D.tail C.tail hr (fun w=> hno (List.mem_cons_of_mem _ w)) z (fun l hl'=> hl l (by rw [List.getLast?_cons_cons]; exact hl'))
   exact ⟨x,List.mem_cons_of_mem _ hx,y,List.mem_cons_of_mem _ hy,k⟩
  ·exact absurd (by rw [z]; simp) hno
  ·exact ⟨a,by simp,h,by simp,z,hp,C.1 p hr⟩
theorem gap {row:List Pt} (hs:row.Pairwise plt) {p:Pt} (hp:p∈row) (hno:p ∉ ak row):∃ a∈ak row,∃ b∈ak row,plt a p∧plt p b∧ae a p b≤0:=by
 have hne:row≠[]:=fun z=> by rw [z] at hp; simp at hp
 obtain ⟨K,hlast,hhead⟩:=cm hs hne
 cases hst:ak row with
 | nil=> exact absurd hst K.ne
 | cons n st=>
  rw [hst] at K hlast hhead hno
  have hn:row.getLast?=some n:=by rw [← hhead]; rfl
  have pn:plt p n:=by
   obtain ⟨i,hi⟩:=List.mem_iff_getElem?.mp hp
   have hil:=(List.getElem?_eq_some_iff.mp hi).1
   rw [List.getLast?_eq_getElem?] at hn
   have hml:=(List.getElem?_eq_some_iff.mp hn).1
   rcases Nat.lt_or_eq_of_le (show i≤row.length - 1 by omega) with z | z
   ·have h1:=List.pairwise_iff_getElem.mp hs i (row.length - 1) hil hml z
    rw [(List.getElem?_eq_some_iff.mp hi).2,(List.getElem?_eq_some_iff.mp hn).2] at h1
    exact h1
   ·rw [z,hn] at hi; exact absurd (by rw [← Option.some.inj hi]; simp) hno
  obtain ⟨a,ha,b,hb,k1,k2,k3⟩:=tR st n K.desc K.cover hp hno pn (fun l hl=> by
   have hl':=hl
   rw [hlast] at hl
   cases row with
   | nil=> simp at hp
   | cons y r=>
    cases hl
    rcases List.mem_cons.mp hp with z | z
    ·exact absurd (by rw [z]; exact List.mem_of_getLast? hl') hno
    ·exact (List.pairwise_cons.mp hs).1 p z)
  refine ⟨a,ha,b,hb,k1,k2,?_⟩
  unfold ae at *
  grind
theorem rf {row row':List Pt} (hs:row.Pairwise plt) (hs':row'.Pairwise plt) (h1:∀ p∈row',p∈row) (h2:∀ p∈ak row,p∈row') (sub:∀ (r:List Pt) (q:Pt),q∈ak r→q∈r) (p:Pt):p∈ak row'↔p∈ak row:=by
 constructor
 ·intro hp
  refine Classical.byContradiction fun hno=> ?_
  obtain ⟨a,ha,b,hb,k1,k2,k3⟩:=gap hs (h1 p (sub _ _ hp)) hno
  have:=lx hs' hp a (h2 a ha) b (h2 b hb) k1 k2
  omega
 ·intro hp
  refine Classical.byContradiction fun hno=> ?_
  obtain ⟨a,ha,b,hb,k1,k2,k3⟩:=gap hs' (h2 p hp) hno
  have:=lx hs hp a (h1 a (sub _ _ ha)) b (h1 b (sub _ _ hb)) k1 k2
  omega
abbrev Szp (m:Nat) (p:P2):Prop:=Sz m p.1∧Sz m p.2
theorem xm (b:P2) (r:List P2):atI ((b::r).reverse.map pu) (-1)=some (pu b):=by
 have h:ixN ((b::r).reverse.map pu).length (-1)=some r.length:=by
  unfold ixN
  simp
  omega
 unfold atI
 rw [h]
 simp
theorem xA (b a:P2) (r:List P2):atI ((b::a::r).reverse.map pu) (-2)=some (pu a):=by
 have h:ixN ((b::a::r).reverse.map pu).length (-2)=some r.length:=by
  unfold ixN
  simp
  omega
 unfold atI
 rw [h]
 simp
theorem iJ (P:P2):∀ st:List P2,(aV P st).length≤st.length
 | []=> Nat.le_refl _
 | [_]=> Nat.le_refl _
 | b::a::r=> by
  unfold aV
  split
  ·have:=iJ P (a::r); simp only [List.length_cons] at *; omega
  ·exact Nat.le_refl _
theorem pP (P:P2):∀ (st:List P2) (q:P2),q∈aV P st→q∈st
 | [],_,h=> h
 | [_],_,h=> h
 | b::a::r,q,h=> by
  unfold aV at h
  split at h
  ·exact List.mem_cons_of_mem _ (pP P (a::r) q h)
  ·exact h
theorem eK {row:List P2} {i:Nat} {P:P2} (h:row[i]?=some P):ak (row.take (i+1))=P::aV P (ak (row.take i)):=by
 rw [List.take_succ,h]; exact jv _ _
theorem fE (row:List P2):∀ i,(ak (row.take i)).length≤i
 | 0=> by simp [ak]
 | i+1=> by
  have ih:=fE row i
  cases h:row[i]? with
  | none=> rw [List.take_succ,h]; simp; omega
  | some P=>
   rw [eK h]
   have:=iJ P (ak (row.take i))
   simp only [List.length_cons]; omega
theorem eu (row:List P2):∀ i q,q∈ak (row.take i)→q∈row
 | 0,q,h=> by simp [ak] at h
 | i+1,q,h=> by
  cases hi:row[i]? with
  | none=> rw [List.take_succ,hi] at h; exact eu row i q (by simpa using h)
  | some P=>
   rw [eK hi] at h
   rcases List.mem_cons.mp h with e | e
   ·rw [e]; exact List.mem_of_getElem? hi
   ·exact eu row i q (pP P _ q e)
theorem tI (n:Int):decide (sgn n < 1)=decide (n≤0):=by
 have h:sgn n < 1↔n≤0:=by
  unfold sgn
  split
  ·omega
  ·split <;> omega
 exact decide_eq_decide.mpr h
theorem fk (l:List P2):ic (l.map pu) none (some (-1))=l.dropLast.map pu:=by
 unfold ic HT.sIx
 rw [List.map_dropLast,List.dropLast_eq_take]
 simp
 try omega
def aj (pts:List P2):List P2:=if (ST.srt pts).length=1 then ST.srt pts else (ak (ST.srt pts)).reverse.dropLast++(ak (ST.srt pts).reverse).reverse.dropLast
theorem kP (a b:Pt):plt a b↔ST.ltP a b=true:=by unfold plt ST.ltP; simp
theorem gF {l:List Pt}:ST.Asc l↔l.Pairwise plt:=⟨fun h=> h.imp fun {a b} k=> (kP a b).mpr k,fun h=> h.imp fun {a b} k=> (kP a b).mp k⟩
theorem j9:∀ {st:List Pt},lg st→st.Pairwise (fun x y=> plt y x)
 | [],_=> List.Pairwise.nil
 | [_],_=> by simp
 | b::a::r,h=> by
  have ih:=j9 h.2
  refine List.pairwise_cons.mpr ⟨fun x hx=> ?_,ih⟩
  rcases List.mem_cons.mp hx with z | z
  ·rw [z]; exact h.1
  ·exact cf ((List.pairwise_cons.mp ih).1 x z) h.1
theorem bH (row:List Pt) (q:Pt) (h:q∈ak row):q∈row:=by
 have:=eu row row.length q
 rw [List.take_length] at this
 exact this h
theorem dB {row:List Pt} (hs:row.Pairwise plt):ST.Asc (ak row).reverse:=by
 by_cases hne:row=[]
 ·subst hne; exact List.Pairwise.nil
 ·exact gF.mpr (List.pairwise_reverse.mpr (j9 (cm hs hne).1.desc))
theorem nO {row row':List Pt} (hs:row.Pairwise plt) (hs':row'.Pairwise plt) (h1:∀ p∈row',p∈row) (h2:∀ p∈ak row,p∈row'):ak row'=ak row:=by
 have e:=ST.asc_one (dB hs') (dB hs) fun z=> by
  rw [List.mem_reverse,List.mem_reverse]
  exact rf hs hs' h1 h2 bH z
 exact List.reverse_inj.mp e
def ng (p:Pt):Pt:=(-p.1,-p.2)
theorem fW (p:Pt):ng (ng p)=p:=by unfold ng; simp
theorem zl (l:List Pt):(l.map ng).map ng=l:=by
 rw [List.map_map,show ng ∘ ng=id from funext fW,List.map_id]
theorem jg (a b c:Pt):ae (ng a) (ng b) (ng c)=ae a b c:=by unfold ae ng; grind
theorem jG {a b:Pt} (h:plt a b):plt (ng b) (ng a):=by unfold plt ng at *; simp; omega
theorem vC (P:Pt):∀ st:List Pt,aV (ng P) (st.map ng)=(aV P st).map ng
 | []=> rfl
 | [_]=> rfl
 | b::a::r=> by
  show aV (ng P) (ng b::ng a::r.map ng)=_
  unfold aV
  rw [jg]
  split
  ·exact vC P (a::r)
  ·rfl
theorem fv:∀ row:List Pt,ak (row.map ng)=(ak row).map ng:=fun row=> by
 have key:∀ (l:List Pt) (st:List Pt),(l.map ng).foldl (fun st P=> P::aV P st) (st.map ng)=(l.foldl (fun st P=> P::aV P st) st).map ng:=by
  intro l
  induction l with
  | nil=> intro st; rfl
  | cons p r ih=>
   intro st
   rw [List.map_cons,List.foldl_cons,List.foldl_cons,vC]
   exact ih (p::aV p st)
 exact key row []
theorem cN {row:List Pt} (hs:row.Pairwise plt):(row.reverse.map ng).Pairwise plt:=by
 rw [List.pairwise_map,List.pairwise_reverse]
 exact hs.imp fun {a b} h=> jG h
theorem bQ (row:List Pt):ak row.reverse=(ak (row.reverse.map ng)).map ng:=by rw [fv,zl]
theorem ls {row row':List Pt} (hs:row.Pairwise plt) (hs':row'.Pairwise plt) (h1:∀ p∈row',p∈row) (h2:∀ p∈ak row.reverse,p∈row'):ak row'.reverse=ak row.reverse:=by
 rw [bQ row,bQ row']
 congr 1
 refine nO (cN hs) (cN hs') (fun p hp=> ?_) (fun p hp=> ?_)
 ·obtain ⟨q,hq,rfl⟩:=List.mem_map.mp hp
  exact List.mem_map.mpr ⟨q,List.mem_reverse.mpr (h1 q (List.mem_reverse.mp hq)),rfl⟩
 ·rw [fv] at hp
  obtain ⟨q,hq,rfl⟩:=List.mem_map.mp hp
  exact List.mem_map.mpr ⟨q,List.mem_reverse.mpr (h2 q hq),rfl⟩
theorem uT {row:List Pt} (hs:row.Pairwise plt) (h2:2≤row.length):∃ mn mx t1 t2,ak row=mx::t1∧ak row.reverse=mn::t2∧mn∈t1∧mx∈t2∧(∀ p∈row,p=mn∨plt mn p)∧(∀ p∈row,p=mx∨plt p mx)∧mn∈row∧mx∈row:=by
 have hne:row≠[]:=fun z=> by rw [z] at h2; simp at h2
 obtain ⟨K,hl,hh⟩:=cm hs hne
 have hneR:row.reverse.map ng≠[]:=by simpa using hne
 obtain ⟨KR,hlR,hhR⟩:=cm (cN hs) hneR
 have e1:row.head?=some row[0]:=by rw [List.head?_eq_getElem?]; exact List.getElem?_eq_getElem (by omega)
 have e2:row.getLast?=some row[row.length - 1]:=by rw [List.getLast?_eq_getElem?]; exact List.getElem?_eq_getElem (by omega)
 have l01:plt row[0] row[row.length - 1]:=List.pairwise_iff_getElem.mp hs 0 (row.length - 1) (by omega) (by omega) (by omega)
 have mnA:∀ p∈row,p=row[0]∨plt row[0] p:=fun p hp=> by
  obtain ⟨i,hi,rfl⟩:=List.mem_iff_getElem.mp hp
  rcases Nat.eq_zero_or_pos i with z | z
  ·left; subst z; rfl
  ·right; exact List.pairwise_iff_getElem.mp hs 0 i (by omega) hi z
 have mxA:∀ p∈row,p=row[row.length - 1]∨plt p row[row.length - 1]:=fun p hp=> by
  obtain ⟨i,hi,rfl⟩:=List.mem_iff_getElem.mp hp
  rcases Nat.lt_or_eq_of_le (show i≤row.length - 1 by omega) with z | z
  ·right; exact List.pairwise_iff_getElem.mp hs i (row.length - 1) hi (by omega) z
  ·left; subst z; rfl
 have ne:row[0]≠row[row.length - 1]:=fun z=> by rw [z] at l01; exact bp _ l01
 generalize row[0]=mn at *
 generalize row[row.length - 1]=mx at *
 have mmn:mn∈row:=List.mem_of_head? e1
 have mmx:mx∈row:=List.mem_of_getLast? e2
 rw [e1] at hl
 rw [e2] at hh
 have hlR':(ak row.reverse).getLast?=some mx:=by
  rw [bQ,List.getLast?_map,hlR,List.head?_map,List.head?_reverse,e2]; simp [fW]
 have hhR':(ak row.reverse).head?=some mn:=by
  rw [bQ,List.head?_map,hhR,List.getLast?_map,List.getLast?_reverse,e1]; simp [fW]
 cases hb:ak row with
 | nil=> rw [hb] at hh; cases hh
 | cons x t1=>
  rw [hb] at hh hl
  cases hh
  cases hbR:ak row.reverse with
  | nil=> rw [hbR] at hhR'; cases hhR'
  | cons y t2=>
   rw [hbR] at hhR' hlR'
   cases hhR'
   refine ⟨_,_,t1,t2,rfl,rfl,?_,?_,mnA,mxA,mmn,mmx⟩
   ·cases t1 with
    | nil=> simp at hl; exact absurd hl.symm ne
    | cons z r=> rw [List.getLast?_cons_cons] at hl; exact List.mem_of_getLast? hl
   ·cases t2 with
    | nil=> simp at hlR'; exact absurd hlR' ne
    | cons z r=> rw [List.getLast?_cons_cons] at hlR'; exact List.mem_of_getLast? hlR'
theorem uy (st:List Pt):st.reverse.dropLast=st.tail.reverse:=by
 cases st with
 | nil=> rfl
 | cons h t=> simp
theorem fM {l:List Pt}:l.reverse.Nodup↔l.Nodup:=by
 unfold List.Nodup
 rw [List.pairwise_reverse]
 exact ⟨fun h=> h.imp fun k=> Ne.symm k,fun h=> h.imp fun k=> Ne.symm k⟩
theorem fK:∀ {l m:List Pt},l.Nodup→(∀ x∈l,x∈m)→l.length≤m.length
 | [],_,_,_=> Nat.zero_le _
 | x::l,m,h,hs=> by
  obtain ⟨h1,h2⟩:=List.nodup_cons.mp h
  have hx:x∈m:=hs x List.mem_cons_self
  have ih:=fK (m:=m.erase x) h2 fun y hy=> (List.mem_erase_of_ne (fun e=> h1 (by rw [← e]; exact hy))).mpr (hs y (List.mem_cons_of_mem _ hy))
  rw [List.length_erase_of_mem hx] at ih
  have:=List.length_pos_of_mem hx
  simp only [List.length_cons]; omega
theorem du (pts:List Pt):(ST.srt pts).Pairwise plt:=gF.mp (ST.srt_asc pts)
theorem e_ {pts:List Pt} (h:2≤(ST.srt pts).length):aj pts=(ak (ST.srt pts)).tail.reverse++(ak (ST.srt pts).reverse).tail.reverse:=by
 unfold aj; rw [if_neg (by omega),uy,uy]
theorem iI {pts:List Pt} (h:pts≠[]):aj pts≠[]:=by
 have hs:ST.srt pts≠[]:=fun z=> by
  obtain ⟨p,r,rfl⟩:=List.exists_cons_of_ne_nil h
  have:=(ST.srt_mem p (p::r)).mpr List.mem_cons_self
  rw [z] at this; simp at this
 by_cases h1:(ST.srt pts).length=1
 ·unfold aj; rw [if_pos h1]; exact hs
 ·have h2:2≤(ST.srt pts).length:=by have:=List.length_pos_iff.mpr hs; omega
  obtain ⟨mn,mx,t1,t2,e1,e2,m1,m2,_⟩:=uT (du pts) h2
  rw [e_ h2,e1,e2]
  intro z
  have:t1.reverse=[]:=(List.append_eq_nil_iff.mp z).1
  rw [List.reverse_eq_nil_iff.mp this] at m1
  simp at m1
theorem aW (pts:List Pt):(aj pts).Nodup:=by
 have nd:∀ {l:List Pt},l.Pairwise plt→l.Nodup:=fun h=> h.imp fun {a b} k e=> by rw [e] at k; exact bp b k
 by_cases h2:2≤(ST.srt pts).length
 ·have hs:=du pts
  obtain ⟨mn,mx,t1,t2,e1,e2,m1,m2,hmn,hmx,i1,i2⟩:=uT hs h2
  have n1:(mx::t1).Nodup:=by rw [← e1]; exact fM.mp (nd (gF.mp (dB hs)))
  have n2:(mn::t2).Nodup:=by
   rw [← e2,bQ]
   have:=fM.mp (nd (gF.mp (dB (cN hs))))
   refine List.pairwise_map.mpr (this.imp fun {a b} hab e=> hab ?_)
   rw [← fW a,e,fW]
  obtain ⟨x1,y1⟩:=List.nodup_cons.mp n1
  obtain ⟨x2,y2⟩:=List.nodup_cons.mp n2
  rw [e_ h2,e1,e2,List.tail_cons,List.tail_cons,List.nodup_append]
  refine ⟨fM.mpr y1,fM.mpr y2,fun p hp q hq=> ?_⟩
  rintro rfl
  have p1:p∈t1:=List.mem_reverse.mp hp
  have p2:p∈t2:=List.mem_reverse.mp hq
  have b1:p∈ak (ST.srt pts):=by rw [e1]; exact List.mem_cons_of_mem _ p1
  have b2:p∈ak (ST.srt pts).reverse:=by rw [e2]; exact List.mem_cons_of_mem _ p2
  have pr:=bH _ _ b1
  have l1:plt mn p:=(hmn p pr).resolve_left fun e=> x2 (by rw [← e]; exact p2)
  have l2:plt p mx:=(hmx p pr).resolve_left fun e=> x1 (by rw [← e]; exact p1)
  have d1:=lx hs b1 mn i1 mx i2 l1 l2
  have b3:ng p∈ak ((ST.srt pts).reverse.map ng):=by rw [fv]; exact List.mem_map.mpr ⟨p,b2,rfl⟩
  have d2:=lx (cN hs) b3 (ng mx) (List.mem_map.mpr ⟨mx,List.mem_reverse.mpr i2,rfl⟩) (ng mn) (List.mem_map.mpr ⟨mn,List.mem_reverse.mpr i1,rfl⟩) (jG l2) (jG l1)
  rw [jg] at d2
  unfold ae at d1 d2
  grind
 ·unfold aj
  split
  ·exact nd (du pts)
  ·have e:ST.srt pts=[]:=List.length_eq_zero_iff.mp (by omega)
   rw [e]; exact List.nodup_nil
theorem aB (pts:List Pt):∀ p∈aj pts,p∈pts:=fun p hp=> by
 unfold aj at hp
 split at hp
 ·exact (ST.srt_mem p pts).mp hp
 ·rcases List.mem_append.mp hp with h | h
  ·exact (ST.srt_mem p pts).mp (bH _ _ (List.mem_reverse.mp (List.dropLast_subset _ h)))
  ·exact (ST.srt_mem p pts).mp (List.mem_reverse.mp (bH _ _ (List.mem_reverse.mp (List.dropLast_subset _ h))))
theorem iV (pts:List Pt):(aj pts).length≤pts.length:=fK (aW pts) (aB pts)
theorem kG (pts:List Pt):aj (aj pts)=aj pts:=by
 by_cases h2:2≤(ST.srt pts).length
 ·have hs:=du pts
  obtain ⟨mn,mx,t1,t2,e1,e2,m1,m2,hmn,hmx,i1,i2⟩:=uT hs h2
  have ec:=e_ h2
  have mem1:∀ p∈ak (ST.srt pts),p∈aj pts:=fun p hp=> by
   rw [ec,e1,e2,List.tail_cons,List.tail_cons]
   rw [e1] at hp
   rcases List.mem_cons.mp hp with z | z
   ·rw [z]; exact List.mem_append_right _ (List.mem_reverse.mpr m2)
   ·exact List.mem_append_left _ (List.mem_reverse.mpr z)
  have mem2:∀ p∈ak (ST.srt pts).reverse,p∈aj pts:=fun p hp=> by
   rw [ec,e1,e2,List.tail_cons,List.tail_cons]
   rw [e2] at hp
   rcases List.mem_cons.mp hp with z | z
   ·rw [z]; exact List.mem_append_left _ (List.mem_reverse.mpr m1)
   ·exact List.mem_append_right _ (List.mem_reverse.mpr z)
  have hs':=du (aj pts)
  have sub:∀ p∈ST.srt (aj pts),p∈ST.srt pts:=fun p hp=> (ST.srt_mem p pts).mpr (aB pts p ((ST.srt_mem p _).mp hp))
  have q1:=nO hs hs' sub fun p hp=> (ST.srt_mem p _).mpr (mem1 p hp)
  have q2:=ls hs hs' sub fun p hp=> (ST.srt_mem p _).mpr (mem2 p hp)
  have len:2≤(ST.srt (aj pts)).length:=by
   have a1:mn∈ST.srt (aj pts):=(ST.srt_mem _ _).mpr (mem1 mn (by rw [e1]; exact List.mem_cons_of_mem _ m1))
   have a2:mx∈ST.srt (aj pts):=(ST.srt_mem _ _).mpr (mem1 mx (by rw [e1]; exact List.mem_cons_self))
   have ne:mn≠mx:=fun z=> by
    have nd:=aW pts
    rw [ec,e1,e2,List.tail_cons,List.tail_cons,List.nodup_append] at nd
    exact nd.2.2 mn (List.mem_reverse.mpr m1) mx (List.mem_reverse.mpr m2) z
   have:=fK (l:=[mn,mx]) (m:=ST.srt (aj pts)) (by simp [ne]) (fun x hx=> by
    rcases List.mem_cons.mp hx with z | z
    ·rw [z]; exact a1
    ·rw [List.mem_singleton.mp z]; exact a2)
   exact this
  rw [e_ len,q1,q2,← ec]
 ·have e:aj pts=ST.srt pts:=by
   unfold aj
   split
   ·rfl
   ·have e:ST.srt pts=[]:=List.length_eq_zero_iff.mp (by omega)
    rw [e]; rfl
  rw [e]
  have e3:ST.srt (ST.srt pts)=ST.srt pts:=ST.asc_srt (ST.srt_asc pts)
  unfold aj
  rw [e3]
  split
  ·rfl
  ·have e:ST.srt pts=[]:=List.length_eq_zero_iff.mp (by omega)
   rw [e]; rfl
end
section
variable {P:Program} {w:World} {K:PySem.W.Frag} {mg:Str→Option Value} {base:Heap}
def qU:List U→Out→Prop:=fun us o=> ∃ P Q R:P2,us=[pu P,pu Q,pu R]∧Szp 5000 P∧Szp 5000 Q∧Szp 5000 R∧o=.val (.int (sgn (ae P Q R)))
set_option maxHeartbeats 8000000 in
theorem wR (T:Txt K mg):bh P w K mg base (CXF P w) 2 T.a_turn T.d_turn ["P","Q","R"] (spU K (qU)):=by
 refine bq T.F_turn we (fun us o h=> ?_) (fun cdv A outer s H E O us o hr h=> ?_)
 ·obtain ⟨P,Q,R,rfl,⟨p1,p2⟩,⟨q1,q2⟩,⟨r1,r2⟩,rfl⟩:=h
  rfl
 obtain ⟨P,Q,R,rfl,⟨p1,p2⟩,⟨q1,q2⟩,⟨r1,r2⟩,rfl⟩:=h
 refine Ws.nox ?_
 refine af (aF (aE ((pO T).mono (by decide)) hr rfl T.m_sign T.F_sign.kp T.b_sign aA (ac (aZ (aG (aZ (aH (aa 1 rfl) ah rfl rfl) (aH (aa 0 rfl) ah rfl rfl)) (aZ (aH (aa 2 rfl) ah rfl rfl) (aH (aa 0 rfl) ah rfl rfl)) (by walk_at "mul")) (aG (aZ (aH (aa 1 rfl) ah rfl rfl) (aH (aa 0 rfl) ah rfl rfl)) (aZ (aH (aa 2 rfl) ah rfl rfl) (aH (aa 0 rfl) ah rfl rfl)) (by walk_at "mul"))) am bC) ⟨_,rfl,rfl⟩) ?_)
 exact rfl
def i7:List U→Out→Prop:=fun us o=> ∃ row:List P2,us=[lp row]∧(∀ p∈row,Szp 5000 p)∧row.length≤900∧o=.new ((ak row).reverse.map pu)
set_option maxHeartbeats 8000000 in
theorem fV (T:Txt K mg):bh P w K mg base (CXF P w) 3 T.a_left_bends T.d_left_bends ["row"] (spU K (i7)):=by
 refine bq T.F_left_bends dW (fun us o h=> ?_) (fun cdv A outer s H E O us o hr h=> ?_)
 ·obtain ⟨row,rfl,sz,hl,rfl⟩:=h
  rfl
 obtain ⟨row,rfl,sz,hl,rfl⟩:=h
 refine Ws.nox ?_
 refine af (nU (i:=1) dW.nd rfl (Or.inl rfl) (hV dr) ?_)
 refine af (ij (fun st:List P2=> [some (.val (lp row)),some (.own (st.reverse.map pu)),none]) (fun i st=> st=ak (row.take i)) rfl PassesOwn.never (eQ (aa 0 rfl) (.inl rfl)) ?h0 ?hs ?hd)
 case h0=> exact ⟨[],rfl,rfl,rfl,trivial⟩
 case hs=>
  rintro H0 i x _ hx rfl
  obtain ⟨P,hP,mP,rfl⟩:=sU hx
  have hi:i < row.length:=aP hP
  have sP:=sz P mP
  refine ⟨_,(g8 (i:=2) dW.nd rfl (Or.inl rfl)),?_⟩
  have len0:=fE row i
  refine oo (fun ps=> SubP [some (.val (lp row)),some (.own ((aV P (ak (row.take i))).reverse.map pu)),some (.val (pu P))] ps) (gX (fun s2:List P2=> [some (.val (lp row)),some (.own (s2.reverse.map pu)),some (.val (pu P))]) (fun m s2=> m=s2.length∧aV P s2=aV P (ak (row.take i))∧(∀ p∈s2,p∈row)∧s2.length≤i) PassesOwn.never ?h0 ?hs) ?hj
  case h0=> exact ⟨_,_,⟨rfl,rfl,fun q hq=> eu row i q hq,len0⟩,rfl,rfl,rfl,trivial⟩
  case hs=>
   rintro m s2 ⟨rfl,e2,sub,len2⟩
   match s2,e2,sub,len2 with
   | [],e2,sub,len2=>
    refine ⟨false,?_,fun h=> (nomatch h),fun h ps hps=> e2 ▸ hps⟩
    exact (Tw.t (li (aO mq (fj 1 rfl rfl T.z_len) ah) rfl))
   | [b],e2,sub,len2=>
    refine ⟨false,?_,fun h=> (nomatch h),fun h ps hps=> e2 ▸ hps⟩
    exact (Tw.t (li (aO mq (fj 1 rfl rfl T.z_len) ah) rfl))
   | b::a::r,e2,sub,len2=>
    have sa:=sz a (sub a (by simp))
    have sb:=sz b (sub b (by simp))
    have e1:decide ((1:Int) < ((((b::a::r).reverse.map pu).length:Nat):Int))=true:=decide_eq_true (by simp; omega)
    refine ⟨decide ((1:Int) < ((((b::a::r).reverse.map pu).length:Nat):Int)) && decide (sgn (ae a b P) < 1),?_,fun h=> ?_,fun h ps hps=> ?_⟩
    ·exact (Tw.t (kE (aO mq (fj 1 rfl rfl T.z_len) ah) (fun hz=> (jO (aO fg (aE ((wR T).mono (by decide)) hr rfl T.m_turn T.F_turn.kp T.b_turn aA (ac (qh 1 rfl (dh ah) (xA b a r)) (ac (qh 1 rfl (dh ah) (xm b (a::r))) (ac (aa 2 rfl) am ag) b_) b_) ⟨a,b,P,rfl,sa,sb,sP,rfl⟩) ah)))))
    ·rw [e1,Bool.true_and,tI] at h
     have hd:=dTb h
     refine af (xz 1 rfl (by simp) (aY ?_))
     refine ⟨_,a::r,?_,⟨rfl,?_,fun q hq=> sub q (List.mem_cons_of_mem _ hq),?_⟩,rfl,?_,rfl,trivial⟩
     ·simp
     ·rw [← e2]; conv=> rhs; unfold aV
      rw [if_pos hd]
     ·simp only [List.length_cons] at *; omega
     ·exact congrArg (fun l=> some (Sl.own l)) (by simp)
    ·rw [e1,Bool.true_and,tI] at h
     have hd:=dFb h
     have e3:aV P (b::a::r)=b::a::r:=by conv=> lhs; unfold aV
                                        rw [if_neg hd]
     rw [← e2,e3]
     exact hps
  case hj=>
   intro ps hps
   refine gd ?_ hps
   have e4:=eK hP
   have len3:=iJ P (ak (row.take i))
   refine af (jl 1 rfl (aa 2 rfl) (by rw [List.length_map,List.length_reverse]; exact bw (by omega)) (aY ?_))
   refine ⟨_,rfl,rfl,?_,trivial⟩
   exact congrArg (fun l=> some (Sl.own l)) (by rw [e4]; simp)
 case hd=>
  rintro st ps hst hps
  refine gd ?_ hps
  refine af (jL 1 rfl ?_)
  rw [hst]
  simp
end
section
variable {P:Program} {w:World} {K:PySem.W.Frag} {mg:Str→Option Value} {base:Heap}
theorem sL {m:Nat} {pts:List P2} (h:∀ p∈pts,Szp m p):∀ p∈ST.srt pts,Szp m p:=fun p hp=> h p ((ST.srt_mem p pts).mp hp)
theorem gI (row:List P2):(ak row).length≤row.length:=by
 have:=fE row row.length
 rwa [List.take_length] at this
def nZ (C:Addr):List U→Out→Prop:=fun us o=> ∃ pts:List P2,us=[lp pts]∧(∀ p∈pts,Szp 5000 p)∧pts.length < 64∧o=(if pts=[] then .exc C else .new ((aj pts).map pu))
set_option maxHeartbeats 8000000 in
theorem ml (T:Txt K mg):bh P w K mg base (CXF P w) 4 T.a_field T.d_field ["points"] (spU K (nZ T.c_NoField)):=by
 refine bq T.F_field fq (by rintro us o ⟨_,rfl,_⟩; rfl) (fun cdv A outer s H E O us o hr h=> ?_)
 obtain ⟨pts,rfl,sz,hl,rfl⟩:=h
 have hml:((pts.map pu).length:Int)=(pts.length:Int):=by rw [List.length_map]
 by_cases hne:pts=[]
 ·subst hne
  refine af (dI (aO cQ (ao (df rfl) rfl T.z_len PySem.boot_len (ac (aa 0 rfl) am ag)) ah) rfl ?_)
  refine af (pL T.x_NoField rfl T.mx_NoField xF ?_)
  exact rfl
 ·have hpos:0 < pts.length:=List.length_pos_iff.mpr hne
  rw [if_neg hne]
  refine af (ff (aO cQ (ao (df rfl) rfl T.z_len PySem.boot_len (ac (aa 0 rfl) am ag)) ah) (by rw [hml]; exact decide_eq_false (by omega)) (aY ?_))
  have sl:=ST.srt_len pts
  have hms:(((ST.srt pts).map pu).length:Int)=((ST.srt pts).length:Int):=by rw [List.length_map]
  have szs:=sL sz
  refine Ws.nox ?_
  by_cases h1:(ST.srt pts).length=1
  ·refine af (nU (i:=1) fq.nd rfl (Or.inl rfl) (fD rfl (kX hr) rfl T.z_sorted rfl T.z_set (aa 0 rfl) hl ag) ?_)
   refine af (dI (aO cQ (fj 1 rfl rfl T.z_len) ah) (by rw [hms]; exact decide_eq_true (by omega)) ?_)
   refine af (jL 1 rfl ?_)
   show Out.new _=Out.new _
   unfold aj
   rw [if_pos h1]
  ·refine af (aC (i:=1) fq.nd rfl (Or.inl rfl) (EvN.ev (fD rfl (kX hr) rfl T.z_sorted rfl T.z_set (aa 0 rfl) hl ag)) ?_)
   refine af (ff (aO cQ (ao (df rfl) rfl T.z_len PySem.boot_len (ac (aa 1 rfl) am ag)) ah) (by rw [hms]; exact decide_eq_false (by omega)) (aY ?_))
   have b1:=gI (ST.srt pts)
   have b2:=gI (ST.srt pts).reverse
   rw [List.length_reverse] at b2
   refine af (aC (i:=2) fq.nd rfl (Or.inl rfl) (EvN.ev (cw ((fV T).mono (by decide)) hr rfl T.m_left_bends T.F_left_bends.kp T.b_left_bends aA (ac (aa 1 rfl) am ag) ⟨ST.srt pts,rfl,szs,by omega,rfl⟩)) ?_)
   refine af (aC (i:=3) fq.nd rfl (Or.inl rfl) (EvN.ev (cw ((fV T).mono (by decide)) hr rfl T.m_left_bends T.F_left_bends.kp T.b_left_bends aA (ac (EvN.ev (zy (aa 1 rfl) (dh ah) (.inl rfl))) am b_) ⟨(ST.srt pts).reverse,by rw [lp,List.map_reverse],fun p hp=> szs p (List.mem_reverse.mp hp),by rw [List.length_reverse]; omega,rfl⟩)) ?_)
   refine af (fu (vm (EvN.ev (fF (aa 2 rfl) gY (hX (dh ah)) (.inl rfl))) (EvN.ev (fF (aa 3 rfl) gY (hX (dh ah)) (.inl rfl))) (by rw [fk,fk,List.length_map,List.length_map,List.length_dropLast,List.length_dropLast,List.length_reverse,List.length_reverse]; exact Nat.le_of_lt (bw (by omega)))) ?_)
   show Out.new _=Out.new _
   unfold aj
   rw [if_neg h1,fk,fk,← List.map_append]
def ap (a b c d e f:Int) (p:P2):P2:=(a * p.1+b * p.2+e,c * p.1+d * p.2+f)
theorem xq {m:Nat} {a b c d e f:Int} {p:P2} (sa:Sz 500 a) (sb:Sz 500 b) (sc:Sz 500 c) (sd:Sz 500 d) (se:Sz 500 e) (sf:Sz 500 f) (hm:m≤3000) (s:Szp m p):Szp (m+510) (ap a b c d e f p):=by
 have key:∀ {x y z:Int},Sz 500 x→Sz 500 y→Sz 500 z→Sz (m+510) (x * p.1+y * p.2+z):=fun sx sy sz=> by
  have h1:=L2.Sz.add' (L2.Sz.mul sx s.1) (L2.Sz.mul sy s.2)
  have h2:=L2.Sz.add' h1 sz
  exact h2.mono (by omega)
 exact ⟨key sa sb se,key sc sd sf⟩
def wx (C:Addr):List U→Out→Prop:=fun us o=> ∃ (pts:List P2) (a b c d e f:Int),us=[lp pts,mv a b c d e f]∧(a * d - b * c=1∨a * d - b * c=-1)∧(Sz 500 a∧Sz 500 b∧Sz 500 c∧Sz 500 d∧Sz 500 e∧Sz 500 f)∧(∀ p∈pts,Szp 3000 p)∧pts≠[]∧pts.length < 64∧o=.new ((aj (pts.map (ap a b c d e f))).map pu)
set_option maxHeartbeats 8000000 in
theorem jy (T:Txt K mg):bh P w K mg base (CXF P w) 5 T.a_field_moved T.d_field_moved ["land","move"] (spU K (wx T.c_NoField)):=by
 refine bq T.F_field_moved fB (fun us o h=> ?_) (fun cdv A outer s H E O us o hr h=> ?_)
 ·obtain ⟨pts,a,b,c,d,e,f,rfl,hu,⟨sa,sb,sc,sd,se,sf⟩,sz,hne,hl,rfl⟩:=h
  rfl
 obtain ⟨pts,a,b,c,d,e,f,rfl,hu,⟨sa,sb,sc,sd,se,sf⟩,sz,hne,hl,rfl⟩:=h
 have k5:500≤30000:=by decide
 have M:Mv a b c d e f:=⟨hu,sa.mono k5,sb.mono k5,sc.mono k5,sd.mono k5,se.mono k5,sf.mono k5⟩
 refine af (fu (cw ((ml T).mono (by decide)) hr rfl T.m_field T.F_field.kp T.b_field aA (ac (EvN.ev (jD (ys:=(pts.map fun p=> pu (ap a b c d e f p))) rfl (blk (ai bL) ["land","move","P"] [2] rfl rfl rfl rfl (by decide+kernel)) (eQ (aa 0 rfl) (.inl rfl)) (fun _ _ _ _=> bF (i:=2) fB.nd rfl (Or.inl rfl)) (gA (by decide)) ?clen ?csz (fun _ _=> trivial) ?celt)) am gv) ⟨pts.map (ap a b c d e f),by rw [lp,List.map_map]; rfl,fun p hp=> by obtain ⟨q,hq,rfl⟩:=List.mem_map.mp hp; have z:=xq sa sb sc sd se sf (Nat.le_refl 3000) (sz q hq); exact ⟨z.1.mono (by decide),z.2.mono (by decide)⟩,by rw [List.length_map]; exact hl,by rw [if_neg (by simpa using hne)]⟩) ?_)
 case clen=> simp
 case csz=> rw [List.length_map]; exact Nat.le_of_lt (bw (by omega))
 case celt=>
  intro C s' H' fp j x y hx hy
  obtain ⟨p,hp,mp,rfl,rfl⟩:=fH hx hy
  exact (aE ((tJ T).mono (by decide)) hr rfl T.m_moved T.F_moved.kp T.b_moved aA (ac (aa 2 rfl) (ac (aa 1 rfl) am ag) ag) (.inl ⟨p.1,p.2,a,b,c,d,e,f,rfl,M,(sz p mp).1.mono (by decide),(sz p mp).2.mono (by decide),rfl⟩))
 exact rfl
end
section
variable {P:Program} {w:World} {K:PySem.W.Frag} {mg:Str→Option Value} {base:Heap}
theorem o9 {l m:List Pt} (h:ST.srt l=ST.srt m):aj l=aj m:=by unfold aj; rw [h]
theorem qL {l m:List Pt} (h:∀ z,z∈l↔z∈m):ST.srt l=ST.srt m:=ST.asc_one (ST.srt_asc l) (ST.srt_asc m) fun z=> by rw [ST.srt_mem,ST.srt_mem]; exact h z
theorem eE {pts:List Pt} (h:¬ 2≤(ST.srt pts).length):aj pts=ST.srt pts:=by
 unfold aj
 split
 ·rfl
 ·have e:ST.srt pts=[]:=List.length_eq_zero_iff.mp (by omega)
  rw [e]; rfl
section
variable {f:Pt→Pt}
theorem wL (hf:∀ a b,plt a b→plt (f a) (f b)) (l:List Pt):ST.srt (l.map f)=(ST.srt l).map f:=by
 refine ST.asc_one (ST.srt_asc _) (gF.mpr (List.pairwise_map.mpr ((du l).imp fun {a b} h=> hf a b h))) fun z=> ?_
 rw [ST.srt_mem,List.mem_map,List.mem_map]
 exact ⟨fun ⟨x,hx,e⟩=> ⟨x,(ST.srt_mem x l).mpr hx,e⟩,fun ⟨x,hx,e⟩=> ⟨x,(ST.srt_mem x l).mp hx,e⟩⟩
theorem pW (hd:∀ a b c,ae (f a) (f b) (f c)≤0↔ae a b c≤0) (P:Pt):∀ st:List Pt,aV (f P) (st.map f)=(aV P st).map f
 | []=> rfl
 | [_]=> rfl
 | b::a::r=> by
  show aV (f P) (f b::f a::r.map f)=_
  unfold aV
  by_cases h:ae a b P≤0
  ·rw [if_pos h,if_pos ((hd a b P).mpr h)]; exact pW hd P (a::r)
  ·rw [if_neg h,if_neg fun z=> h ((hd a b P).mp z)]; rfl
theorem kc (hd:∀ a b c,ae (f a) (f b) (f c)≤0↔ae a b c≤0) (row:List Pt):ak (row.map f)=(ak row).map f:=by
 have key:∀ (l:List Pt) (st:List Pt),(l.map f).foldl (fun st P=> P::aV P st) (st.map f)=(l.foldl (fun st P=> P::aV P st) st).map f:=by
  intro l
  induction l with
  | nil=> intro st; rfl
  | cons p r ih=>
   intro st
   rw [List.map_cons,List.foldl_cons,List.foldl_cons,pW hd]
   exact ih (p::aV p st)
 exact key row []
theorem uD (hf:∀ a b,plt a b→plt (f a) (f b)) (hd:∀ a b c,ae (f a) (f b) (f c)≤0↔ae a b c≤0) (l:List Pt):aj (l.map f)=(aj l).map f:=by
 unfold aj
 rw [wL hf,List.length_map,← List.map_reverse,kc hd,kc hd]
 split
 ·rfl
 ·rw [List.map_append,List.map_dropLast,List.map_dropLast,List.map_reverse,List.map_reverse]
end
def scl (k:Int) (p:Pt):Pt:=(k * p.1,k * p.2)
theorem vI (p:Pt):scl 1 p=p:=by unfold scl; simp
def gH:List Int→Int
 | []=> 0
 | a::l=> l.foldl min a
theorem fY:∀ (l:List Int) (a:Int),l.foldl min a∈a::l
 | [],a=> by simp
 | b::l,a=> by
  have:=fY l (min a b)
  rw [List.foldl_cons]
  rcases List.mem_cons.mp this with e | e
  ·rw [e]; rcases Int.le_total a b with h | h
   ·rw [Int.min_eq_left h]; simp
   ·rw [Int.min_eq_right h]; simp
  ·exact List.mem_cons_of_mem _ (List.mem_cons_of_mem _ e)
theorem gD:∀ (l:List Int) (a:Int),∀ x∈a::l,l.foldl min a≤x
 | [],a,x,h=> by simp at h; rw [h]; exact Int.le_refl _
 | b::l,a,x,h=> by
  have ih:=gD l (min a b)
  rw [List.foldl_cons]
  have h0:=ih (min a b) List.mem_cons_self
  rcases List.mem_cons.mp h with rfl | h
  ·omega
  ·rcases List.mem_cons.mp h with rfl | h
   ·omega
   ·exact ih x (List.mem_cons_of_mem _ h)
theorem bY {l:List Int} (h:l≠[]):gH l∈l∧∀ a∈l,gH l≤a:=by
 cases l with
 | nil=> exact absurd rfl h
 | cons a l=> exact ⟨fY l a,gD l a⟩
abbrev gp (l:List P2) (i:Nat):P2:=l.getD i (0,0)
def nxt (l:List P2) (i:Nat):P2:=gp l ((i+1) % l.length)
def sdl (l:List P2):List (P2×P2):=(List.range l.length).map fun i=> (gp l i,nxt l i)
abbrev pq (s:P2×P2):U:=.tup [pu s.1,pu s.2]
theorem dO {l:List P2} {i:Nat} (h:i < l.length):l[i]?=some (gp l i):=by simp [gp,h]
theorem eP {l:List P2} {i:Nat} (h:i < l.length):gp l i∈l:=List.mem_of_getElem? (dO h)
theorem xo (l:List U):ic l (some 1) none=l.drop 1:=by
 unfold ic HT.sIx
 cases l with
 | nil=> simp
 | cons a l=> simp
theorem xr (l:List U):ic l none (some 1)=l.take 1:=by
 unfold ic HT.sIx
 cases l with
 | nil=> simp
 | cons a l=> simp
theorem tT (l:List P2):List.zipWith (fun a b=> U.tup [a,b]) (l.map pu) (ic (l.map pu) (some 1) none++ic (l.map pu) none (some 1))=(sdl l).map pq:=by
 rw [xo,xr]
 apply List.ext_getElem?
 intro i
 unfold sdl
 by_cases hi:i < l.length
 ·have e1:(l.map pu)[i]?=some (pu (gp l i)):=by rw [List.getElem?_map,dO hi]; rfl
  have e2:((l.map pu).drop 1++(l.map pu).take 1)[i]?=some (pu (nxt l i)):=by
   unfold nxt
   by_cases hj:i+1 < l.length
   ·rw [List.getElem?_append_left (by simp; omega),List.getElem?_drop,Nat.add_comm,Nat.mod_eq_of_lt hj,List.getElem?_map,dO hj]; rfl
   ·have e:i+1=l.length:=by omega
    rw [List.getElem?_append_right (by simp; omega),e,Nat.mod_self]
    rw [show i - ((l.map pu).drop 1).length=0 by simp; omega,List.getElem?_take_of_lt (by omega),List.getElem?_map,dO (by omega)]; rfl
  rw [List.getElem?_zipWith_eq_some.mpr ⟨_,_,e1,e2,rfl⟩,List.map_map,List.getElem?_map,List.getElem?_range hi]
  rfl
 ·rw [List.getElem?_eq_none (by simp; omega),List.getElem?_eq_none (by simp; omega)]
theorem iT (l:List P2):(sdl l).length=l.length:=by simp [sdl]
theorem aL {l:List P2} {s:P2×P2} (h:s∈sdl l):s.1∈l∧s.2∈l:=by
 obtain ⟨i,hi,rfl⟩:=List.mem_map.mp h
 have hi':=List.mem_range.mp hi
 exact ⟨eP hi',eP (Nat.mod_lt _ (by omega))⟩
def oE:List U→Out→Prop:=fun us o=> ∃ l:List P2,us=[lp l]∧l.length≤900∧o=.new ((sdl l).map pq)
set_option maxHeartbeats 8000000 in
theorem jj (T:Txt K mg):bh P w K mg base (CXF P w) 1 T.a_sides T.d_sides ["land"] (spU K (oE)):=by
 refine bq T.F_sides u7 (fun us o h=> ?_) (fun cdv A outer s H E O us o hr h=> ?_)
 ·obtain ⟨l,rfl,hl,rfl⟩:=h
  rfl
 obtain ⟨l,rfl,hl,rfl⟩:=h
 refine Ws.nox ?_
 have hlen:(ic (l.map pu) (some 1) none++ic (l.map pu) none (some 1)).length=l.length:=by rw [xo,xr]; simp; omega
 refine af (fu (rM rfl rfl T.z_list rfl T.z_zip (aa 0 rfl) (.inl rfl) (EvN.ev (vm (EvN.ev (fF (aa 0 rfl) (hX ah) gY (.inl rfl))) (EvN.ev (fF (aa 0 rfl) gY (hX ah) (.inl rfl))) (by rw [← List.length_append,hlen]; exact Nat.le_of_lt (bw (by omega))))) (.inl rfl) (by rw [hlen,List.length_map]) (by rw [List.length_map]; omega) ag bC) ?_)
 rw [tT]
theorem z_ {l:List P2} (h:0 < l.length):atI (l.map pu) 0=some (pu (gp l 0)):=t5 (i:=0) rfl (by rw [List.getElem?_map,dO h]; rfl)
theorem wP {l:List P2} (h:0 < l.length):atI (l.map pu) (-1)=some (pu (gp l (l.length - 1))):=by
 have e:ixN (l.map pu).length (-1)=some (l.length - 1):=by
  unfold ixN
  simp
  omega
 unfold atI
 rw [e]
 show (l.map pu)[l.length - 1]?=_
 rw [List.getElem?_map,dO (by omega)]; rfl
end
section
variable {P:Program} {w:World} {K:PySem.W.Frag} {mg:Str→Option Value} {base:Heap}
def gst (s:P2×P2):Int:=((Int.gcd (s.2.1 - s.1.1) (s.2.2 - s.1.2):Nat):Int)
def crs (s:P2×P2):Int:=s.1.1 * s.2.2 - s.1.2 * s.2.1
def area (l:List P2):Int:=((sdl l).map crs).sum
def iX (l:List P2):Int:=((sdl l).map gst).sum
def pin (l:List P2):Int:=if l.length < 3 then 0 else (area l - iX l+2) / 2
theorem oP (s:P2×P2):0≤gst s:=by unfold gst; omega
theorem bW {s:P2×P2} (h:s.1≠s.2):0 < gst s:=by
 unfold gst
 have:Int.gcd (s.2.1 - s.1.1) (s.2.2 - s.1.2)≠0:=fun e=> by
  have:=Int.gcd_eq_zero_iff.mp e
  exact h (Prod.ext (by omega) (by omega))
 omega
def ev (p:P2):Int:=if p.1 % 2=0∧p.2 % 2=0 then 1 else 0
theorem pM (l:List P2):(sdl l).map (·.1)=l:=by
 apply List.ext_getElem?
 intro i
 unfold sdl
 rw [List.map_map]
 by_cases hi:i < l.length
 ·rw [List.getElem?_map,List.getElem?_range hi,dO hi]; rfl
 ·rw [List.getElem?_eq_none (by simp; omega),List.getElem?_eq_none (by omega)]
theorem wq (l:List P2):(sdl l).map (·.2)=l.drop 1++l.take 1:=by
 apply List.ext_getElem?
 intro i
 unfold sdl
 rw [List.map_map]
 by_cases hi:i < l.length
 ·rw [List.getElem?_map,List.getElem?_range hi]
  show some (nxt l i)=_
  unfold nxt
  by_cases hj:i+1 < l.length
  ·rw [List.getElem?_append_left (by simp; omega),List.getElem?_drop,show 1+i=i+1 by omega,Nat.mod_eq_of_lt hj,dO hj]
  ·have e:i+1=l.length:=by omega
   rw [List.getElem?_append_right (by simp; omega),e,Nat.mod_self]
   rw [show i - (l.drop 1).length=0 by simp; omega,List.getElem?_take_of_lt (by omega),dO (by omega)]
 ·rw [List.getElem?_eq_none (by simp; omega),List.getElem?_eq_none (by simp; omega)]
theorem s_ {l:List P2} (hn:l.Nodup) (h2:2≤l.length):∀ s∈sdl l,s.1≠s.2:=fun s hs e=> by
 obtain ⟨i,hi,rfl⟩:=List.mem_map.mp hs
 have hi':=List.mem_range.mp hi
 have hj:(i+1) % l.length < l.length:=Nat.mod_lt _ (by omega)
 have e':gp l i=gp l ((i+1) % l.length):=e
 have:l[i]?=l[(i+1) % l.length]?:=by rw [dO hi',dO hj,e']
 have:=(List.getElem?_inj hi' hn).mp this
 by_cases hk:i+1 < l.length
 ·rw [Nat.mod_eq_of_lt hk] at this; omega
 ·have e:i+1=l.length:=by omega
  rw [e,Nat.mod_self] at this; omega
theorem hU {m n:Nat} {l:List P2} (h:m≤n) (k:∀ p∈l,Szp m p):∀ p∈l,Szp n p:=fun p hp=> ⟨(k p hp).1.mono h,(k p hp).2.mono h⟩
def rY:List U→Out→Prop:=fun us o=> ∃ l:List P2,us=[lp l]∧l.length≤900∧(∀ p∈l,Szp 2500 p)∧o=.val (.int (area l))
set_option maxHeartbeats 8000000 in
theorem jE (T:Txt K mg):bh P w K mg base (CXF P w) 2 T.a_double_area T.d_double_area ["land"] (spU K (rY)):=by
 refine bq T.F_double_area dF (fun us o h=> ?_) (fun cdv A outer s H E O us o hr h=> ?_)
 ·obtain ⟨l,rfl,hl,sz,rfl⟩:=h
  rfl
 obtain ⟨l,rfl,hl,sz,rfl⟩:=h
 refine Ws.nox ?_
 refine af (aF (ao (oN rfl ) rfl T.z_sum boot_sum (ac (EvN.ev (jD (ys:=(((sdl l).map crs).map U.int)) rfl (blk (ai bI) ["land","A","B"] [1,2] rfl rfl rfl rfl (by decide+kernel)) (eQ (EvN.ev (cw ((jj T).mono (by decide)) hr rfl T.m_sides T.F_sides.kp T.b_sides aA (ac (aa 0 rfl) am ag) ⟨l,rfl,hl,rfl⟩)) (.inl rfl)) (fun _ _ _ _=> kL rfl (bT (bF (i:=1) dF.nd rfl (Or.inl rfl)) (bT (bF (i:=2) dF.nd rfl (Or.inl rfl)) gR))) (iF (js:=[1,2]) (by decide)) ?clen ?csz ?dom ?celt)) am gv)) ?_)
 case clen=> simp
 case csz=> simp only [iT,List.length_map]; exact Nat.le_of_lt (bw (by omega))
 case dom=>
  intro x hx
  obtain ⟨s,_,rfl⟩:=List.mem_map.mp hx
  exact ⟨_,rfl,rfl⟩
 case celt=>
  intro C s' H' fp j x y hx hy
  rw [List.map_map] at hy
  obtain ⟨s,hs,ms,rfl,rfl⟩:=fH hx hy
  obtain ⟨m1,m2⟩:=aL ms
  have z1:=(sz _ m1).1
  have z2:=(sz _ m1).2
  have z3:=(sz _ m2).1
  have z4:=(sz _ m2).2
  exact (aZ (aG (aH (aa 1 rfl) ah rfl rfl) (aH (aa 2 rfl) ah rfl rfl) (by walk_at "mul")) (aG (aH (aa 1 rfl) ah rfl rfl) (aH (aa 2 rfl) ah rfl rfl) (by walk_at "mul")))
 exact rfl
theorem nK {done:List Pt}:∀ {st:List Pt},gc done st→∀ (k:Nat) {a b:Pt},st[k]?=some b→st[k+1]?=some a→∀ q∈done,0≤ae a b q
 | [],_,k,_,_,h,_=> by simp at h
 | [_],_,k,_,_,_,h=> by simp at h
 | x::y::r,C,0,a,b,h1,h2=> by
  simp at h1 h2
  subst h1; subst h2
  exact C.1
 | x::y::r,C,k+1,a,b,h1,h2=> nK C.2 k (by simpa using h1) (by simpa using h2)
theorem mE:∀ {st:List Pt},iu st→∀ (k:Nat) {a b c:Pt},st[k]?=some c→st[k+1]?=some b→st[k+2]?=some a→0 < ae a b c
 | [],_,k,_,_,_,h,_,_=> by simp at h
 | [_],_,k,_,_,_,_,h,_=> by simp at h
 | [_,_],_,k,_,_,_,_,_,h=> by simp at h
 | x::y::z::r,C,0,a,b,c,h1,h2,h3=> by
  simp at h1 h2 h3
  subst h1; subst h2; subst h3
  exact C.1
 | x::y::z::r,C,k+1,a,b,c,h1,h2,h3=> mE C.2 k (by simpa using h1) (by simpa using h2) (by simpa using h3)
theorem uX {st:List Pt} {i:Nat} {a b:Pt} (h1:st.reverse[i]?=some a) (h2:st.reverse[i+1]?=some b):∃ k,st[k]?=some b∧st[k+1]?=some a:=by
 have l2:i+1 < st.length:=by have:=(List.getElem?_eq_some_iff.mp h2).1; simpa using this
 rw [List.getElem?_reverse (by omega)] at h1
 rw [List.getElem?_reverse l2] at h2
 exact ⟨st.length - 1 - (i+1),h2,by rw [← h1]; congr 1; omega⟩
theorem rg {st:List Pt} {i:Nat} {a b c:Pt} (h1:st.reverse[i]?=some a) (h2:st.reverse[i+1]?=some b) (h3:st.reverse[i+2]?=some c):∃ k,st[k]?=some c∧st[k+1]?=some b∧st[k+2]?=some a:=by
 have l3:i+2 < st.length:=by have:=(List.getElem?_eq_some_iff.mp h3).1; simpa using this
 rw [List.getElem?_reverse (by omega)] at h1
 rw [List.getElem?_reverse (by omega)] at h2
 rw [List.getElem?_reverse l3] at h3
 exact ⟨st.length - 1 - (i+2),h3,by rw [← h2]; congr 1; omega,by rw [← h1]; congr 1; omega⟩
theorem fh {row:List Pt} (hs:row.Pairwise plt) (h:row≠[]) {i:Nat} {a b:Pt} (h1:(ak row).reverse[i]?=some a) (h2:(ak row).reverse[i+1]?=some b):∀ q∈row,0≤ae a b q:=by
 obtain ⟨k,e1,e2⟩:=uX h1 h2
 exact nK (cm hs h).1.cover k e1 e2
theorem gq {row:List Pt} (hs:row.Pairwise plt) (h:row≠[]) {i:Nat} {a b c:Pt} (h1:(ak row).reverse[i]?=some a) (h2:(ak row).reverse[i+1]?=some b) (h3:(ak row).reverse[i+2]?=some c):0 < ae a b c:=by
 obtain ⟨k,e1,e2,e3⟩:=rg h1 h2 h3
 exact mE (cm hs h).1.turns k e1 e2 e3
theorem eO {row:List Pt} {i:Nat} {a:Pt} (h1:(ak row.reverse).reverse[i]?=some a):(ak (row.reverse.map ng)).reverse[i]?=some (ng a):=by
 rw [bQ,← List.map_reverse,List.getElem?_map] at h1
 cases e:(ak (row.reverse.map ng)).reverse[i]? with
 | none=> rw [e] at h1; cases h1
 | some z=> rw [e] at h1; cases h1; rw [fW]
theorem jo {row:List Pt} (hs:row.Pairwise plt) (h:row≠[]) {i:Nat} {a b:Pt} (h1:(ak row.reverse).reverse[i]?=some a) (h2:(ak row.reverse).reverse[i+1]?=some b):∀ q∈row,0≤ae a b q:=fun q hq=> by
 have:=fh (cN hs) (by simpa using h) (eO h1) (eO h2) (ng q) (List.mem_map_of_mem (List.mem_reverse.mpr hq))
 rwa [jg] at this
theorem ka {row:List Pt} (hs:row.Pairwise plt) (h:row≠[]) {i:Nat} {a b c:Pt} (h1:(ak row.reverse).reverse[i]?=some a) (h2:(ak row.reverse).reverse[i+1]?=some b) (h3:(ak row.reverse).reverse[i+2]?=some c):0 < ae a b c:=by
 have:=gq (cN hs) (by simpa using h) (eO h1) (eO h2) (eO h3)
 rwa [jg] at this
theorem sY {u1 u2 v1 v2 w1 w2:Int} (hu:fT u1 u2) (hv:fT v1 v2) (h0:u1 * v2 - u2 * v1=0) (h1:u1 * w2 - u2 * w1≤0) (h2:0≤v1 * w2 - v2 * w1):u1 * w2 - u2 * w1=0∧v1 * w2 - v2 * w1=0:=by
 have e1:v1 * (u1 * w2 - u2 * w1)=u1 * (v1 * w2 - v2 * w1):=by grind
 have e2:v2 * (u1 * w2 - u2 * w1)=u2 * (v1 * w2 - v2 * w1):=by grind
 have fin:∀ {s t A B:Int},0 < s→0 < t→s * A=t * B→A≤0→0≤B→A=0∧B=0:=fun {s t A B} hs ht e ha hb=> by
  have k1:s * A≤0:=Int.mul_nonpos_of_nonneg_of_nonpos (by omega) ha
  have k2:0≤t * B:=Int.mul_nonneg (by omega) hb
  have z1:s * A=0:=by omega
  have z2:t * B=0:=by omega
  refine ⟨(Int.mul_eq_zero.mp z1).resolve_left (by omega),(Int.mul_eq_zero.mp z2).resolve_left (by omega)⟩
 rcases hu with hu | ⟨hu,hu2⟩
 ·rcases hv with hv | ⟨hv,hv2⟩
  ·exact fin hv hu e1 h1 h2
  ·rw [hv] at h0
   have:=Int.mul_pos hu hv2
   omega
 ·rcases hv with hv | ⟨hv,hv2⟩
  ·rw [hu] at h0
   have:=Int.mul_pos hu2 hv
   omega
  ·exact fin hv2 hu2 e2 h1 h2
theorem rR {a m c:Pt} (ha:plt a m) (hc:plt c m) (h:ae a m c=0) {q:Pt} (h1:0≤ae a m q) (h2:0≤ae m c q):ae a m q=0∧ae m c q=0:=by
 have k:=sY (w1:=m.1 - q.1) (w2:=m.2 - q.2) (bi ha) (bi hc) (by unfold ae at h; grind) (by unfold ae at h1; grind) (by unfold ae at h2; grind)
 unfold ae
 exact ⟨by grind,by grind⟩
theorem vO (a b c:Pt):ae a b c=ae b c a:=by unfold ae; grind
theorem zO {row:List Pt} (hs:row.Pairwise plt) (hne:row≠[]) {i:Nat} {a m c:Pt} (h1:(ak row).reverse[i]?=some a) (h2:(ak row).reverse[i+1]?=some m) (hl:(ak row).length=i+2)
  (h3:(ak row.reverse).reverse[0]?=some m) (h4:(ak row.reverse).reverse[1]?=some c) (ha:plt a m) (hc:plt c m) (big:2 < (ak row).length∨2 < (ak row.reverse).length):0 < ae a m c:=by
 have mem:∀ {j:Nat} {p:Pt},(ak row).reverse[j]?=some p→p∈row:=fun h=> bH row _ (List.mem_reverse.mp (List.mem_of_getElem? h))
 have memR:∀ {j:Nat} {p:Pt},(ak row.reverse).reverse[j]?=some p→p∈row:=fun h=> List.mem_reverse.mp (bH _ _ (List.mem_reverse.mp (List.mem_of_getElem? h)))
 have cv:=fh hs hne h1 h2
 have cb:=jo hs hne h3 h4
 have h0:=cv c (memR h4)
 rcases Int.lt_or_eq_of_le h0 with z | z
 ·exact z
 ·exfalso
  have flat:∀ q∈row,ae a m q=0∧ae m c q=0:=fun q hq=> rR ha hc z.symm (cv q hq) (cb q hq)
  rcases big with b | b
  ·have hi:0 < i:=by omega
   have hx:i - 1 < (ak row).reverse.length:=by simp; omega
   have e:=List.getElem?_eq_getElem hx
   have t:=gq hs hne e (by rw [Nat.sub_add_cancel hi]; exact h1) (by rw [show i - 1+2=i+1 by omega]; exact h2)
   rw [vO,(flat _ (mem e)).1] at t
   omega
  ·have hx:2 < (ak row.reverse).reverse.length:=by simpa using b
   have e:=List.getElem?_eq_getElem hx
   have t:=ka hs hne h3 h4 e
   rw [(flat _ (memR e)).2] at t
   omega
structure x8 (row T B:List Pt) (mn mx:Pt):Prop where
 t0:T[0]?=some mn
 t1:T[T.length - 1]?=some mx
 b0:B[0]?=some mx
 b1:B[B.length - 1]?=some mn
 lt:2≤T.length
 lb:2≤B.length
 least:∀ p∈row,p=mn∨plt mn p
 most:∀ p∈row,p=mx∨plt p mx
theorem xS {l:List Pt}:l.reverse[0]?=l.getLast?:=by rw [List.getLast?_eq_head?_reverse,List.head?_eq_getElem?]
theorem xC {l:List Pt}:l.reverse[l.reverse.length - 1]?=l.head?:=by rw [← List.getLast?_eq_getElem?,List.getLast?_reverse]
theorem zw {row:List Pt} (hs:row.Pairwise plt) (h2:2≤row.length):∃ mn mx,x8 row (ak row).reverse (ak row.reverse).reverse mn mx:=by
 have hne:row≠[]:=fun z=> by rw [z] at h2; simp at h2
 obtain ⟨mn,mx,t1,t2,e1,e2,m1,m2,least,most,_,_⟩:=uT hs h2
 obtain ⟨K,hl,hh⟩:=cm hs hne
 obtain ⟨KR,hlR,hhR⟩:=cm (cN hs) (by simpa using hne)
 have l1:2≤(ak row).length:=by rw [e1]; have:=List.length_pos_of_mem m1; simp; omega
 have l2:2≤(ak row.reverse).length:=by rw [e2]; have:=List.length_pos_of_mem m2; simp; omega
 have hd:row.head?=some row[0]:=by rw [List.head?_eq_getElem?]; exact List.getElem?_eq_getElem (by omega)
 have ld:row.getLast?=some row[row.length - 1]:=by rw [List.getLast?_eq_getElem?]; exact List.getElem?_eq_getElem (by omega)
 have q1:row[0]=mn:=by
  have hb:=hhR
  rw [List.getLast?_map,List.getLast?_reverse,hd] at hb
  have:(ak row.reverse).head?=some row[0]:=by rw [bQ,List.head?_map,hb]; simp [fW]
  rw [e2] at this
  exact (Option.some.inj this).symm
 have q2:row[row.length - 1]=mx:=by
  rw [ld,e1] at hh
  exact (Option.some.inj hh).symm
 refine ⟨mn,mx,?_,?_,?_,?_,by simpa using l1,by simpa using l2,least,most⟩
 ·rw [xS,hl,hd,q1]
 ·rw [xC,hh,ld,q2]
 ·rw [xS,bQ,List.getLast?_map,hlR,List.head?_map,List.head?_reverse,ld,q2]; simp [fW]
 ·rw [xC,e2]; rfl
section
variable {row T B:List Pt} {mn mx:Pt}
theorem dG (W:x8 row T B mn mx) {k:Nat} (hk:k≤T.length - 1):(T.dropLast++B.dropLast)[k % (T.dropLast++B.dropLast).length]?=T[k]?:=by
 have h1:=W.lt
 have h2:=W.lb
 have hn:(T.dropLast++B.dropLast).length=T.length - 1+(B.length - 1):=by simp
 rw [hn,Nat.mod_eq_of_lt (by omega)]
 by_cases h:k < T.length - 1
 ·rw [List.getElem?_append_left (by simpa using h),List.getElem?_dropLast,if_pos h]
 ·obtain rfl:k=T.length - 1:=by omega
  rw [List.getElem?_append_right (by simp),List.length_dropLast,Nat.sub_self,List.getElem?_dropLast,if_pos (by omega),W.b0,W.t1]
theorem iU (W:x8 row T B mn mx) {k:Nat} (h0:T.length - 1≤k) (hk:k≤T.length - 1+(B.length - 1)):(T.dropLast++B.dropLast)[k % (T.dropLast++B.dropLast).length]?=B[k - (T.length - 1)]?:=by
 have h1:=W.lt
 have h2:=W.lb
 have hn:(T.dropLast++B.dropLast).length=T.length - 1+(B.length - 1):=by simp
 by_cases h:k < T.length - 1+(B.length - 1)
 ·rw [hn,Nat.mod_eq_of_lt h,List.getElem?_append_right (by simpa using h0),List.length_dropLast,List.getElem?_dropLast,if_pos (by omega)]
 ·obtain rfl:k=T.length - 1+(B.length - 1):=by omega
  have:=dG W (k:=0) (by omega)
  rw [Nat.zero_mod] at this
  rw [hn,Nat.mod_self,this,W.t0,show T.length - 1+(B.length - 1) - (T.length - 1)=B.length - 1 by omega,W.b1]
end
theorem dR {l:List Pt} {i:Nat} (h:i < l.length):∃ a,l[i]?=some a:=⟨_,List.getElem?_eq_getElem h⟩
theorem jt {pts:List Pt} (h2:2≤(ST.srt pts).length) {i:Nat} (hi:i < (aj pts).length):∃ a b,(aj pts)[i]?=some a∧(aj pts)[(i+1) % (aj pts).length]?=some b∧(∀ p∈pts,0≤ae a b p)∧(2 < (aj pts).length→∃ c,(aj pts)[(i+2) % (aj pts).length]?=some c∧0 < ae a b c):=by
 have hs:=du pts
 have hne:ST.srt pts≠[]:=fun z=> by rw [z] at h2; simp at h2
 obtain ⟨mn,mx,W⟩:=zw hs h2
 have hmem:∀ p∈pts,p∈ST.srt pts:=fun p hp=> (ST.srt_mem p pts).mpr hp
 have hc:aj pts=(ak (ST.srt pts)).reverse.dropLast++(ak (ST.srt pts).reverse).reverse.dropLast:=by
  unfold aj; rw [if_neg (by omega)]
 have tc:∀ {j:Nat} {a b:Pt},(ak (ST.srt pts)).reverse[j]?=some a→(ak (ST.srt pts)).reverse[j+1]?=some b→∀ q∈ST.srt pts,0≤ae a b q:=fun h h'=> fh hs hne h h'
 have tt:∀ {j:Nat} {a b c:Pt},(ak (ST.srt pts)).reverse[j]?=some a→(ak (ST.srt pts)).reverse[j+1]?=some b→(ak (ST.srt pts)).reverse[j+2]?=some c→0 < ae a b c:=fun h h' h''=> gq hs hne h h' h''
 have bc:∀ {j:Nat} {a b:Pt},(ak (ST.srt pts).reverse).reverse[j]?=some a→(ak (ST.srt pts).reverse).reverse[j+1]?=some b→∀ q∈ST.srt pts,0≤ae a b q:=fun h h'=> jo hs hne h h'
 have bt:∀ {j:Nat} {a b c:Pt},(ak (ST.srt pts).reverse).reverse[j]?=some a→(ak (ST.srt pts).reverse).reverse[j+1]?=some b→(ak (ST.srt pts).reverse).reverse[j+2]?=some c→0 < ae a b c:=fun h h' h''=> ka hs hne h h' h''
 have memT:∀ {j:Nat} {p:Pt},(ak (ST.srt pts)).reverse[j]?=some p→p∈ST.srt pts:=fun h=> bH _ _ (List.mem_reverse.mp (List.mem_of_getElem? h))
 have memB:∀ {j:Nat} {p:Pt},(ak (ST.srt pts).reverse).reverse[j]?=some p→p∈ST.srt pts:=fun h=> List.mem_reverse.mp (bH _ _ (List.mem_reverse.mp (List.mem_of_getElem? h)))
 have ndT:(ak (ST.srt pts)).reverse.Nodup:=(dB hs).imp fun {a b} h e=> by subst e; exact bp _ ((kP _ _).mpr h)
 have ndB:(ak (ST.srt pts).reverse).reverse.Nodup:=by
  rw [bQ,← List.map_reverse]
  have ndR:(ak ((ST.srt pts).reverse.map ng)).reverse.Nodup:=(dB (cN hs)).imp fun {a b} h e=> by subst e; exact bp _ ((kP _ _).mpr h)
  exact List.Pairwise.map _ (fun a b (h:a≠b) e=> h (by have:=congrArg ng e; rwa [fW,fW] at this)) ndR
 have m1:∀ {j:Nat} {a m c:Pt},(ak (ST.srt pts)).reverse[j]?=some a→(ak (ST.srt pts)).reverse[j+1]?=some m→(ak (ST.srt pts)).length=j+2→(ak (ST.srt pts).reverse).reverse[0]?=some m→(ak (ST.srt pts).reverse).reverse[1]?=some c→plt a m→plt c m→2 < (ak (ST.srt pts)).length∨2 < (ak (ST.srt pts).reverse).length→0 < ae a m c:=fun a1 a2 a3 a4 a5 a6 a7 a8=> zO hs hne a1 a2 a3 a4 a5 a6 a7 a8
 have m2:∀ {j:Nat} {a m c:Pt},(ak (ST.srt pts).reverse).reverse[j]?=some a→(ak (ST.srt pts).reverse).reverse[j+1]?=some m→(ak (ST.srt pts).reverse).length=j+2→(ak (ST.srt pts)).reverse[0]?=some m→(ak (ST.srt pts)).reverse[1]?=some c→plt m a→plt m c→2 < (ak (ST.srt pts)).length∨2 < (ak (ST.srt pts).reverse).length→0 < ae a m c:=fun {j a m c} a1 a2 a3 a4 a5 a6 a7 a8=> by
  have er:((ST.srt pts).reverse.map ng).reverse=(ST.srt pts).map ng:=by rw [← List.map_reverse,List.reverse_reverse]
  have fw:∀ {k:Nat} {p:Pt},(ak (ST.srt pts)).reverse[k]?=some p→(ak ((ST.srt pts).reverse.map ng).reverse).reverse[k]?=some (ng p):=fun {k p} h=> by
   rw [er,fv,← List.map_reverse,List.getElem?_map,h]; rfl
  have lb:(ak ((ST.srt pts).reverse.map ng)).length=(ak (ST.srt pts).reverse).length:=by rw [bQ,List.length_map]
  have lt:(ak ((ST.srt pts).reverse.map ng).reverse).length=(ak (ST.srt pts)).length:=by rw [er,fv,List.length_map]
  have:=zO (cN hs) (by simpa using hne) (eO a1) (eO a2) (by rw [lb]; exact a3) (fw a4) (fw a5) (jG a6) (jG a7) (by rw [lb,lt]; exact a8.symm)
  rwa [jg] at this
 rw [hc] at hi ⊢
 have lT:(ak (ST.srt pts)).reverse.length=(ak (ST.srt pts)).length:=List.length_reverse
 have lB:(ak (ST.srt pts).reverse).reverse.length=(ak (ST.srt pts).reverse).length:=List.length_reverse
 generalize (ak (ST.srt pts)).reverse=T at *
 generalize (ak (ST.srt pts).reverse).reverse=B at *
 have h1:=W.lt
 have h3:=W.lb
 have hn:(T.dropLast++B.dropLast).length=T.length - 1+(B.length - 1):=by simp
 have own:∀ k,k < (T.dropLast++B.dropLast).length→(T.dropLast++B.dropLast)[k]?=(T.dropLast++B.dropLast)[k % (T.dropLast++B.dropLast).length]?:=fun k hk=> by rw [Nat.mod_eq_of_lt hk]
 have tne:∀ {j k:Nat} {p q:Pt},T[j]?=some p→T[k]?=some q→j≠k→p≠q:=fun {j k p q} a1 a2 a3 e=> a3 ((List.getElem?_inj (aP a1) ndT).mp (by rw [a1,a2,e]))
 have bne:∀ {j k:Nat} {p q:Pt},B[j]?=some p→B[k]?=some q→j≠k→p≠q:=fun {j k p q} a1 a2 a3 e=> a3 ((List.getElem?_inj (aP a1) ndB).mp (by rw [a1,a2,e]))
 by_cases c1:i < T.length - 1
 ·obtain ⟨a,ea⟩:=dR (l:=T) (i:=i) (by omega)
  obtain ⟨b,eb⟩:=dR (l:=T) (i:=i+1) (by omega)
  refine ⟨a,b,by rw [own i hi,dG W (by omega)]; exact ea,by rw [dG W (by omega)]; exact eb,fun p hp=> tc ea eb p (hmem p hp),fun big=> ?_⟩
  by_cases c2:i+2≤T.length - 1
  ·obtain ⟨c,ec⟩:=dR (l:=T) (i:=i+2) (by omega)
   exact ⟨c,by rw [dG W c2]; exact ec,tt ea eb ec⟩
  ·have e:i+1=T.length - 1:=by omega
   obtain ⟨c,ec⟩:=dR (l:=B) (i:=1) (by omega)
   have emx:b=mx:=by have:=W.t1; rw [← e,eb] at this; exact Option.some.inj this
   subst emx
   refine ⟨c,by rw [iU W (by omega) (by omega),show i+2 - (T.length - 1)=1 by omega]; exact ec,m1 ea eb (by omega) W.b0 ec ?_ ?_ (by omega)⟩
   ·exact (W.most a (memT ea)).resolve_left (tne ea eb (by omega))
   ·exact (W.most c (memB ec)).resolve_left (bne ec W.b0 (by omega))
 ·obtain ⟨a,ea⟩:=dR (l:=B) (i:=i - (T.length - 1)) (by omega)
  obtain ⟨b,eb⟩:=dR (l:=B) (i:=i - (T.length - 1)+1) (by omega)
  refine ⟨a,b,by rw [own i hi,iU W (by omega) (by omega)]; exact ea,by rw [iU W (by omega) (by omega),show i+1 - (T.length - 1)=i - (T.length - 1)+1 by omega]; exact eb,fun p hp=> bc ea eb p (hmem p hp),fun big=> ?_⟩
  by_cases c2:i+2≤T.length - 1+(B.length - 1)
  ·obtain ⟨c,ec⟩:=dR (l:=B) (i:=i - (T.length - 1)+2) (by omega)
   exact ⟨c,by rw [iU W (by omega) c2,show i+2 - (T.length - 1)=i - (T.length - 1)+2 by omega]; exact ec,bt ea eb ec⟩
  ·have e:i - (T.length - 1)+1=B.length - 1:=by omega
   obtain ⟨c,ec⟩:=dR (l:=T) (i:=1) (by omega)
   have emn:b=mn:=by have:=W.b1; rw [← e,eb] at this; exact Option.some.inj this
   subst emn
   refine ⟨c,?_,m2 ea eb (by omega) W.t0 ec ?_ ?_ (by omega)⟩
   ·have:=dG W (k:=1) (by omega)
    rw [show (i+2) % (T.dropLast++B.dropLast).length=1 % (T.dropLast++B.dropLast).length by rw [hn,show i+2=1+(T.length - 1+(B.length - 1)) by omega,Nat.add_mod_right],this]
    exact ec
   ·exact (W.least a (memB ea)).resolve_left (bne ea eb (by omega))
   ·exact (W.least c (memT ec)).resolve_left (tne ec W.t0 (by omega))
def cd (n q:Int):Int:=-(-n / q)
structure Chd (n q:Int):Prop where
 q0:0≤q
 qn:q < n
 g:Int.gcd n q=1
def unc:List Int→Int×Int
 | []=> (1,0)
 | b::l=> (b * (unc l).1 - (unc l).2,(unc l).1)
structure Lvl (a b:Pt) (g u v s t:Int):Prop where
 g0:0 < g
 e1:b.1 - a.1=g * u
 e2:b.2 - a.2=g * v
 st:s * u+t * v=1
def tx (a c:Pt) (s t:Int):Int:=s * (c.1 - a.1)+t * (c.2 - a.2)
def ty (a c:Pt) (u v:Int):Int:=u * (c.2 - a.2) - v * (c.1 - a.1)
def bk (a:Pt) (u v s t x y:Int):Pt:=(u * x - t * y+a.1,v * x+s * y+a.2)
theorem Lvl.area {a b:Pt} {g u v s t:Int} (L:Lvl a b g u v s t) (c:Pt):ae a b c=g * ty a c u v:=by
 have:=L.e1
 have:=L.e2
 unfold ae ty
 grind
theorem Lvl.d1 {a b:Pt} {g u v s t:Int} (L:Lvl a b g u v s t) (x y:Int):ae a b (bk a u v s t x y)=g * y:=by
 have:=L.e1
 have:=L.e2
 have:=L.st
 unfold ae bk
 dsimp only
 grind
theorem Lvl.back {a b:Pt} {g u v s t:Int} (L:Lvl a b g u v s t) (c:Pt):c.1=u * tx a c s t - t * ty a c u v+a.1∧c.2=v * tx a c s t+s * ty a c u v+a.2:=by
 have:=L.st
 unfold tx ty
 constructor <;> grind
theorem Lvl.d3 {a b:Pt} {g u v s t:Int} (L:Lvl a b g u v s t) (c:Pt) (x y:Int):ae c a (bk a u v s t x y)=ty a c u v * x - tx a c s t * y:=by
 obtain ⟨k1,k2⟩:=L.back c
 have h:=L.st
 generalize tx a c s t=X at *
 generalize ty a c u v=Y at *
 unfold ae bk
 dsimp only
 rw [k1,k2]
 grind
theorem Lvl.d2 {a b:Pt} {g u v s t:Int} (L:Lvl a b g u v s t) (c:Pt) (x y:Int):ae b c (bk a u v s t x y)=(tx a c s t - g) * y - ty a c u v * (x - g):=by
 obtain ⟨k1,k2⟩:=L.back c
 have h:=L.st
 have m1:b.1=a.1+g * u:=by have:=L.e1; omega
 have m2:b.2=a.2+g * v:=by have:=L.e2; omega
 generalize tx a c s t=X at *
 generalize ty a c u v=Y at *
 unfold ae bk
 dsimp only
 rw [k1,k2,m1,m2]
 grind
def wth (a b:Int) (p:Pt):Int:=a * p.1+b * p.2
theorem yg {a b:Int} {u p v:Pt} (hb:b≤0) (h1:plt u p) (h2:plt p v) (h:ae u p v≤0):wth a b p≤wth a b u∨wth a b p≤wth a b v:=by
 rcases Int.lt_or_le (wth a b u) (wth a b p) with c1 | c1
 ·rcases Int.lt_or_le (wth a b v) (wth a b p) with c2 | c2
  ·exfalso
   have e:(v.1 - p.1) * (wth a b p - wth a b u)+(p.1 - u.1) * (wth a b p - wth a b v)=-((-b) * (-(ae u p v))):=by unfold wth ae; grind
   have n1:0≤(-b) * (-(ae u p v)):=Int.mul_nonneg (by omega) (by omega)
   have d1:0≤p.1 - u.1:=by unfold plt at h1; omega
   have d2:0≤v.1 - p.1:=by unfold plt at h2; omega
   have m1:0≤(v.1 - p.1) * (wth a b p - wth a b u):=Int.mul_nonneg d2 (by omega)
   have m2:0≤(p.1 - u.1) * (wth a b p - wth a b v):=Int.mul_nonneg d1 (by omega)
   rcases Int.lt_or_le 0 (p.1 - u.1) with d | d
   ·have:=Int.mul_pos d (show 0 < wth a b p - wth a b v by omega)
    omega
   ·have ex:u.1=p.1:=by omega
    have ey:u.2 < p.2:=by unfold plt at h1; omega
    have:0≤(-b) * (p.2 - u.2):=Int.mul_nonneg (by omega) (by omega)
    have e2:wth a b p - wth a b u=-((-b) * (p.2 - u.2)):=by unfold wth; rw [ex]; grind
    omega
  ·exact .inr c2
 ·exact .inl c1
theorem p8 {row:List Pt} (hs:row.Pairwise plt) {a b:Int} (hb:b≤0) {p:Pt} (hp:p∈row):∃ c∈ak row,wth a b p≤wth a b c:=by
 by_cases h:p∈ak row
 ·exact ⟨p,h,Int.le_refl _⟩
 ·obtain ⟨u,hu,v,hv,k1,k2,k3⟩:=gap hs hp h
  rcases yg (a:=a) hb k1 k2 k3 with e | e
  ·exact ⟨u,hu,e⟩
  ·exact ⟨v,hv,e⟩
theorem x9 (a b:Int) (p:Pt):wth (-a) (-b) (ng p)=wth a b p:=by unfold wth ng; grind
theorem wS (a b:Int) (p:Pt):wth a b (ng p)=wth (-a) (-b) p:=by unfold wth ng; grind
theorem uK {row:List Pt} (hs:row.Pairwise plt) {a b:Int} (hb:0≤b) {p:Pt} (hp:p∈row):∃ c∈ak row.reverse,wth a b p≤wth a b c:=by
 obtain ⟨c,hc,k⟩:=p8 (cN hs) (a:=-a) (b:=-b) (by omega) (p:=ng p) (List.mem_map.mpr ⟨p,List.mem_reverse.mpr hp,rfl⟩)
 refine ⟨ng c,by rw [bQ]; exact List.mem_map.mpr ⟨c,hc,rfl⟩,?_⟩
 rw [x9] at k
 rw [wS]
 exact k
theorem vE {pts:List Pt} (a b:Int) {p:Pt} (hp:p∈pts):∃ c∈aj pts,wth a b p≤wth a b c:=by
 have hp':p∈ST.srt pts:=(ST.srt_mem p pts).mpr hp
 by_cases h2:2≤(ST.srt pts).length
 ·have hs:=du pts
  obtain ⟨mn,mx,t1,t2,e1,e2,m1,m2,_⟩:=uT hs h2
  have big:=e_ h2
  rw [e1,e2] at big
  rcases Int.le_total b 0 with hb | hb
  ·obtain ⟨c,hc,k⟩:=p8 hs (a:=a) hb hp'
   refine ⟨c,?_,k⟩
   rw [big]
   rw [e1] at hc
   rcases List.mem_cons.mp hc with rfl | hc
   ·exact List.mem_append_right _ (List.mem_reverse.mpr m2)
   ·exact List.mem_append_left _ (List.mem_reverse.mpr hc)
  ·obtain ⟨c,hc,k⟩:=uK hs (a:=a) hb hp'
   refine ⟨c,?_,k⟩
   rw [big]
   rw [e2] at hc
   rcases List.mem_cons.mp hc with rfl | hc
   ·exact List.mem_append_left _ (List.mem_reverse.mpr m1)
   ·exact List.mem_append_right _ (List.mem_reverse.mpr hc)
 ·exact ⟨p,by rw [eE h2]; exact hp',Int.le_refl _⟩
def hiL:List Int→Int
 | []=> 0
 | a::l=> l.foldl max a
theorem dZ:∀ (l:List Int) (a:Int),l.foldl max a∈a::l
 | [],a=> by simp
 | b::l,a=> by
  have:=dZ l (max a b)
  rw [List.foldl_cons]
  rcases List.mem_cons.mp this with e | e
  ·rw [e]; rcases Int.le_total a b with h | h
   ·rw [Int.max_eq_right h]; simp
   ·rw [Int.max_eq_left h]; simp
  ·exact List.mem_cons_of_mem _ (List.mem_cons_of_mem _ e)
theorem eJ:∀ (l:List Int) (a:Int),∀ x∈a::l,x≤l.foldl max a
 | [],a,x,h=> by simp at h; rw [h]; exact Int.le_refl _
 | b::l,a,x,h=> by
  have ih:=eJ l (max a b)
  rw [List.foldl_cons]
  have h0:=ih (max a b) List.mem_cons_self
  rcases List.mem_cons.mp h with rfl | h
  ·omega
  ·rcases List.mem_cons.mp h with rfl | h
   ·omega
   ·exact ih x (List.mem_cons_of_mem _ h)
def hiW (a b:Int) (l:List Pt):Int:=hiL (l.map (wth a b))
theorem kM {l:List Pt} (a b:Int) (h:l≠[]):(∃ p∈l,wth a b p=hiW a b l)∧∀ p∈l,wth a b p≤hiW a b l:=by
 cases l with
 | nil=> exact absurd rfl h
 | cons q l=>
  refine ⟨?_,fun p hp=> ?_⟩
  ·have:=dZ (l.map (wth a b)) (wth a b q)
   rw [← List.map_cons] at this
   obtain ⟨p,hp,e⟩:=List.mem_map.mp this
   exact ⟨p,hp,e⟩
  ·exact eJ (l.map (wth a b)) (wth a b q) _ (by rw [← List.map_cons]; exact List.mem_map_of_mem hp)
theorem ki {l:List P2} (h3:3≤(aj l).length):2≤(ST.srt l).length:=by
 rcases Nat.lt_or_ge (ST.srt l).length 2 with h | h
 ·rw [eE (by omega)] at h3; omega
 ·exact h
theorem tZ {l:List P2} {i:Nat} (h:i < l.length):(gp l i,gp l ((i+1) % l.length))∈sdl l:=List.mem_map.mpr ⟨i,List.mem_range.mpr h,rfl⟩
theorem il {l:List P2} {i:Nat} {a:P2} (h:l[i]?=some a):gp l i=a:=by simp [gp,h]
theorem uV {n i:Nat}:((i+1) % n+1) % n=(i+2) % n:=by rw [Nat.mod_add_mod]
theorem bj {l:List P2} (h3:3≤(aj l).length) {s:P2×P2} (hs:s∈sdl (aj l)):∀ q∈l,0≤ae s.1 s.2 q:=by
 obtain ⟨i,hi,rfl⟩:=List.mem_map.mp hs
 obtain ⟨a,b,e1,e2,cov,_⟩:=jt (ki h3) (List.mem_range.mp hi)
 show ∀ q∈l,0≤ae (gp (aj l) i) (gp (aj l) ((i+1) % (aj l).length)) q
 rw [il e1,il e2]; exact cov
theorem dt {l:List P2} (h3:3≤(aj l).length) {A B:P2} (hs:(A,B)∈sdl (aj l)):∃ C,(B,C)∈sdl (aj l)∧0 < ae A B C:=by
 obtain ⟨i,hi,e⟩:=List.mem_map.mp hs
 have hi':=List.mem_range.mp hi
 obtain ⟨a,b,e1,e2,_,tu⟩:=jt (ki h3) hi'
 obtain ⟨c,e3,pos⟩:=tu (by omega)
 have ea:A=a:=by rw [← il e1]; exact (congrArg Prod.fst e).symm
 have eb:B=b:=by rw [← il e2]; exact (congrArg Prod.snd e).symm
 refine ⟨c,?_,by rw [ea,eb]; exact pos⟩
 have:=tZ (l:=aj l) (i:=(i+1) % (aj l).length) (Nat.mod_lt _ (by omega))
 rw [uV,il e2,il e3] at this
 rw [eb]; exact this
theorem zD {l:List P2} {A:P2} (h:A∈l):∃ B,(A,B)∈sdl l:=by
 obtain ⟨i,hi⟩:=List.mem_iff_getElem?.mp h
 have hi':=(List.getElem?_eq_some_iff.mp hi).1
 have:=tZ hi'
 rw [il hi] at this
 exact ⟨_,this⟩
theorem mI {l:List P2} {A:P2} (h:A∈l):∃ Z,(Z,A)∈sdl l:=by
 obtain ⟨i,hi⟩:=List.mem_iff_getElem?.mp h
 have hi':=(List.getElem?_eq_some_iff.mp hi).1
 have hj:(i+l.length - 1) % l.length < l.length:=Nat.mod_lt _ (by omega)
 have:=tZ hj
 have e:((i+l.length - 1) % l.length+1) % l.length=i:=by
  rw [Nat.mod_add_mod,show i+l.length - 1+1=i+l.length by omega,Nat.add_mod_right,Nat.mod_eq_of_lt hi']
 rw [e,il hi] at this
 exact ⟨_,this⟩
theorem ge {l:List P2} (hn:l.Nodup) {A B C:P2} (h1:(A,B)∈sdl l) (h2:(A,C)∈sdl l):B=C:=by
 obtain ⟨i,hi,e⟩:=List.mem_map.mp h1
 obtain ⟨j,hj,e'⟩:=List.mem_map.mp h2
 have hi':=List.mem_range.mp hi
 have hj':=List.mem_range.mp hj
 have ea:gp l i=gp l j:=(congrArg Prod.fst e).trans (congrArg Prod.fst e').symm
 have:i=j:=(List.getElem?_inj hi' hn).mp (by rw [dO hi',dO hj',ea])
 subst this
 exact (congrArg Prod.snd e).symm.trans (congrArg Prod.snd e')
theorem ye {u1 u2 v1 v2 w1 w2:Int} (hd:0 < u1 * v2 - u2 * v1) (h1:u1 * w2 - u2 * w1=0) (h2:v1 * w2 - v2 * w1=0):w1=0∧w2=0:=by
 have e1:(u1 * v2 - u2 * v1) * w1=0:=by
  have:(u1 * v2 - u2 * v1) * w1=v1 * (u1 * w2 - u2 * w1) - u1 * (v1 * w2 - v2 * w1):=by grind
  rw [this,h1,h2]; simp
 have e2:(u1 * v2 - u2 * v1) * w2=0:=by
  have:(u1 * v2 - u2 * v1) * w2=v2 * (u1 * w2 - u2 * w1) - u2 * (v1 * w2 - v2 * w1):=by grind
  rw [this,h1,h2]; simp
 refine ⟨?_,?_⟩
 ·rcases Int.mul_eq_zero.mp e1 with h | h
  ·omega
  ·exact h
 ·rcases Int.mul_eq_zero.mp e2 with h | h
  ·omega
  ·exact h
def rG (l:List P2) (p:P2):Prop:=p∈l∧∃ a b:Int,∀ q∈l,q≠p→wth a b q < wth a b p
theorem fo {l:List P2} {p:P2} (h:rG l p):p∈aj l:=by
 obtain ⟨hp,a,b,k⟩:=h
 obtain ⟨c,hc,e⟩:=vE a b hp
 by_cases hcp:c=p
 ·rw [← hcp]; exact hc
 ·have:=k c (aB _ c hc) hcp
  omega
theorem de {l:List P2} (h3:3≤(aj l).length) {p:P2} (hp:p∈aj l):rG l p:=by
 obtain ⟨Z,hZ⟩:=mI hp
 obtain ⟨B,hB,pos⟩:=dt h3 hZ
 refine ⟨aB _ p hp,B.2 - Z.2,Z.1 - B.1,fun q hq hne=> ?_⟩
 have c1:=bj h3 hZ q hq
 have c2:=bj h3 hB q hq
 dsimp only at c1 c2
 have e:wth (B.2 - Z.2) (Z.1 - B.1) q - wth (B.2 - Z.2) (Z.1 - B.1) p=-(ae Z p q+ae p B q):=by unfold wth ae; grind
 rcases Int.lt_or_eq_of_le (Int.add_nonneg c1 c2) with h | h
 ·omega
 ·exfalso
  have z1:ae Z p q=0:=by omega
  have z2:ae p B q=0:=by omega
  have:=ye (u1:=p.1 - Z.1) (u2:=p.2 - Z.2) (v1:=B.1 - p.1) (v2:=B.2 - p.2) (w1:=q.1 - p.1) (w2:=q.2 - p.2) (by rw [← (show ae Z p B=(p.1 - Z.1) * (B.2 - p.2) - (p.2 - Z.2) * (B.1 - p.1) by unfold ae; grind)]; exact pos) (by rw [← z1]; unfold ae; grind) (by rw [← z2]; unfold ae; grind)
  exact hne (Prod.ext (by omega) (by omega))
theorem yM {u1 u2 v1 v2 w1 w2:Int} (h:u1 * w2 - u2 * w1=0):(u1 * v2 - u2 * v1) * w1=(w1 * v2 - w2 * v1) * u1∧(u1 * v2 - u2 * v1) * w2=(w1 * v2 - w2 * v1) * u2:=by
 constructor
 ·have:(u1 * v2 - u2 * v1) * w1 - (w1 * v2 - w2 * v1) * u1=v1 * (u1 * w2 - u2 * w1):=by grind
  rw [h] at this; simp at this; omega
 ·have:(u1 * v2 - u2 * v1) * w2 - (w1 * v2 - w2 * v1) * u2=v2 * (u1 * w2 - u2 * w1):=by grind
  rw [h] at this; simp at this; omega
theorem hJ {l:List P2} (h3:3≤(aj l).length) {A B:P2}:(A,B)∈sdl (aj l)↔A∈aj l∧B∈aj l∧A≠B∧∀ q∈aj l,0≤ae A B q:=by
 constructor
 ·intro h
  exact ⟨(aL h).1,(aL h).2,s_ (aW l) (by omega) _ h,fun q hq=> bj h3 h q (aB _ q hq)⟩
 ·rintro ⟨hA,hB,hne,cov⟩
  obtain ⟨C,hC⟩:=zD hA
  obtain ⟨Z,hZ⟩:=mI hA
  by_cases hBC:B=C
  ·rw [hBC]; exact hC
  ·exfalso
   obtain ⟨D,hD,pD⟩:=dt h3 hC
   obtain ⟨C',hC',pC⟩:=dt h3 hZ
   have:C'=C:=ge (aW l) hC' hC
   subst this
   have mC:=(aL hC).2
   have mD:=(aL hD).2
   have lB:=aB _ B hB
   have k1:=bj h3 hC B lB
   have k2:=cov C' mC
   have k3:=bj h3 hZ B lB
   have k4:=bj h3 hD B lB
   dsimp only at k1 k3 k4 mC mD
   have z:(C'.1 - A.1) * (B.2 - A.2) - (C'.2 - A.2) * (B.1 - A.1)=0:=by
    have e1:ae A C' B=(C'.1 - A.1) * (B.2 - A.2) - (C'.2 - A.2) * (B.1 - A.1):=rfl
    have e2:ae A B C'=-((C'.1 - A.1) * (B.2 - A.2) - (C'.2 - A.2) * (B.1 - A.1)):=by unfold ae; grind
    omega
   obtain ⟨p1,p2⟩:=yM (v1:=Z.1 - A.1) (v2:=Z.2 - A.2) z
   have dpos:0 < (C'.1 - A.1) * (Z.2 - A.2) - (C'.2 - A.2) * (Z.1 - A.1):=by
    rw [← (show ae Z A C'=(C'.1 - A.1) * (Z.2 - A.2) - (C'.2 - A.2) * (Z.1 - A.1) by unfold ae; grind)]; exact pC
   have spos:0≤(B.1 - A.1) * (Z.2 - A.2) - (B.2 - A.2) * (Z.1 - A.1):=by
    rw [← (show ae Z A B=(B.1 - A.1) * (Z.2 - A.2) - (B.2 - A.2) * (Z.1 - A.1) by unfold ae; grind)]; exact k3
   generalize (C'.1 - A.1) * (Z.2 - A.2) - (C'.2 - A.2) * (Z.1 - A.1)=d at *
   generalize (B.1 - A.1) * (Z.2 - A.2) - (B.2 - A.2) * (Z.1 - A.1)=s at *
   have s0:s≠0:=fun e=> by
    rw [e,Int.zero_mul] at p1 p2
    have q1:=(Int.mul_eq_zero.mp p1).resolve_left (by omega)
    have q2:=(Int.mul_eq_zero.mp p2).resolve_left (by omega)
    exact hne (Prod.ext (by omega) (by omega))
   have s1:s≠d:=fun e=> by
    rw [e] at p1 p2
    have q1:=Int.eq_of_mul_eq_mul_left (by omega) p1
    have q2:=Int.eq_of_mul_eq_mul_left (by omega) p2
    exact hBC (Prod.ext (by omega) (by omega))
   have s2:s≤d:=by
    have e:d * ae C' D B=(d - s) * ae A C' D:=by
     have e1:d * ae C' D B=(D.1 - C'.1) * (d * (B.2 - A.2) - d * (C'.2 - A.2)) - (D.2 - C'.2) * (d * (B.1 - A.1) - d * (C'.1 - A.1)):=by unfold ae; grind
     rw [e1,p1,p2]; unfold ae; grind
    have:0≤d * ae C' D B:=Int.mul_nonneg (by omega) k4
    rcases Int.lt_or_le d s with h | h
    ·have:0 < (s - d) * ae A C' D:=Int.mul_pos (by omega) pD
     have e3:(d - s) * ae A C' D=-((s - d) * ae A C' D):=by grind
     omega
    ·exact h
   obtain ⟨_,a,b,top⟩:=de h3 hB
   have t1:=top A (aB _ A hA) hne
   have t2:=top C' (aB _ C' mC) (fun e=> hBC e.symm)
   have w1:d * (wth a b B - wth a b A)=s * (wth a b C' - wth a b A):=by
    have e1:d * (wth a b B - wth a b A)=a * (d * (B.1 - A.1))+b * (d * (B.2 - A.2)):=by unfold wth; grind
    rw [e1,p1,p2]; unfold wth; grind
   have g1:0 < d * (wth a b B - wth a b A):=Int.mul_pos (by omega) (by omega)
   have g2:0 < wth a b C' - wth a b A:=by
    rcases Int.lt_or_le 0 (wth a b C' - wth a b A) with h | h
    ·exact h
    ·have:0≤s * -(wth a b C' - wth a b A):=Int.mul_nonneg (by omega) (by omega)
     have e3:s * (wth a b C' - wth a b A)=-(s * -(wth a b C' - wth a b A)):=by grind
     omega
   have g3:0 < (d - s) * (wth a b C' - wth a b A):=Int.mul_pos (by omega) g2
   have w2:d * (wth a b B - wth a b C')=-((d - s) * (wth a b C' - wth a b A)):=by
    have:d * (wth a b B - wth a b C')=d * (wth a b B - wth a b A) - d * (wth a b C' - wth a b A):=by grind
    rw [this,w1]; grind
   have g4:0 < d * (wth a b B - wth a b C'):=Int.mul_pos (by omega) (by omega)
   omega
structure Lin (f:P2→P2) (d:Int):Prop where
 one:d=1∨d=-1
 ex:∃ a b c e:Int,a * e - b * c=d∧∀ p,f p=(a * p.1+b * p.2,c * p.1+e * p.2)
theorem Lin.det {f:P2→P2} {d:Int} (L:Lin f d) (A B q:P2):ae (f A) (f B) (f q)=d * ae A B q:=by
 obtain ⟨a,b,c,e,h,k⟩:=L.ex
 rw [k,k,k,← h]; unfold ae; grind
theorem lN {f:P2→P2} {d:Int} (L:Lin f d) (x y:Int):∃ x' y':Int,∀ p,wth x' y' (f p)=wth x y p:=by
 obtain ⟨a,b,c,e,h,k⟩:=L.ex
 refine ⟨d * (x * e - y * c),d * (y * a - x * b),fun p=> ?_⟩
 rw [k]
 have dd:d * d=1:=by rcases L.one with z | z <;> rw [z] <;> rfl
 have:wth (d * (x * e - y * c)) (d * (y * a - x * b)) (a * p.1+b * p.2,c * p.1+e * p.2)=d * (a * e - b * c) * wth x y p:=by unfold wth; grind
 rw [this,h,dd,Int.one_mul]
theorem Lin.inj {f:P2→P2} {d:Int} (L:Lin f d) {p q:P2} (e:f p=f q):p=q:=by
 obtain ⟨x,y,h⟩:=lN L 1 0
 obtain ⟨x',y',h'⟩:=lN L 0 1
 have h1:wth 1 0 p=wth 1 0 q:=by rw [← h,← h,e]
 have h2:wth 0 1 p=wth 0 1 q:=by rw [← h',← h',e]
 unfold wth at h1 h2
 exact Prod.ext (by omega) (by omega)
theorem pR {f:P2→P2} {d:Int} (L:Lin f d) {l:List P2} {p:P2} (h:rG l p):rG (l.map f) (f p):=by
 obtain ⟨hp,a,b,k⟩:=h
 obtain ⟨x,y,e⟩:=lN L a b
 refine ⟨List.mem_map_of_mem hp,x,y,fun q hq hne=> ?_⟩
 obtain ⟨r,hr,rfl⟩:=List.mem_map.mp hq
 rw [e,e]
 exact k r hr fun z=> hne (by rw [z])
theorem tY {f:P2→P2} {d:Int} (L:Lin f d) {l:List P2} {p:P2} (hp:p∈l) (h:rG (l.map f) (f p)):rG l p:=by
 obtain ⟨_,a,b,k⟩:=h
 obtain ⟨u,v,w,z,_,kf⟩:=L.ex
 refine ⟨hp,a * u+b * w,a * v+b * z,fun q hq hne=> ?_⟩
 have e:∀ r:P2,wth (a * u+b * w) (a * v+b * z) r=wth a b (f r):=fun r=> by rw [kf]; unfold wth; grind
 rw [e,e]
 exact k (f q) (List.mem_map_of_mem hq) fun z=> hne (L.inj z)
theorem g5 {f:P2→P2} {d:Int} (L:Lin f d) {l:List P2} (h3:3≤(aj l).length):3≤(aj (l.map f)).length:=by
 have nd:((aj l).map f).Nodup:=List.Pairwise.map _ (fun a b (h:a≠b) e=> h (L.inj e)) (aW l)
 have:=fK nd (m:=aj (l.map f)) fun x hx=> by
  obtain ⟨p,hp,rfl⟩:=List.mem_map.mp hx
  exact fo (pR L (de h3 hp))
 rw [List.length_map] at this
 omega
theorem dg {f:P2→P2} {d:Int} (L:Lin f d) {l:List P2} (h3:3≤(aj l).length) (x:P2):x∈aj (l.map f)↔∃ p∈aj l,f p=x:=by
 constructor
 ·intro h
  obtain ⟨p,hp,rfl⟩:=List.mem_map.mp (aB _ x h)
  exact ⟨p,fo (tY L hp (de (g5 L h3) h)),rfl⟩
 ·rintro ⟨p,hp,rfl⟩
  exact fo (pR L (de h3 hp))
def sdf (f:P2→P2) (d:Int) (s:P2×P2):P2×P2:=if d=1 then (f s.1,f s.2) else (f s.2,f s.1)
theorem uH {f:P2→P2} {d:Int} (L:Lin f d) {l:List P2} (h3:3≤(aj l).length) (t:P2×P2):t∈sdl (aj (l.map f))↔∃ s∈sdl (aj l),sdf f d s=t:=by
 have h3':=g5 L h3
 have sw:∀ A B q:P2,ae B A q=-ae A B q:=fun A B q=> by unfold ae; grind
 constructor
 ·intro h
  obtain ⟨x,y⟩:=t
  obtain ⟨hx,hy,ne,cov⟩:=(hJ h3').mp h
  obtain ⟨A,hA,rfl⟩:=(dg L h3 x).mp hx
  obtain ⟨B,hB,rfl⟩:=(dg L h3 y).mp hy
  have cv:∀ q∈aj l,0≤d * ae A B q:=fun q hq=> by
   have:=cov (f q) ((dg L h3 _).mpr ⟨q,hq,rfl⟩)
   rwa [L.det] at this
  rcases L.one with z | z
  ·refine ⟨(A,B),(hJ h3).mpr ⟨hA,hB,fun e=> ne (by rw [e]),fun q hq=> ?_⟩,by unfold sdf; rw [if_pos z]⟩
   have:=cv q hq
   rw [z] at this; omega
  ·refine ⟨(B,A),(hJ h3).mpr ⟨hB,hA,fun e=> ne (by rw [e]),fun q hq=> ?_⟩,by unfold sdf; rw [if_neg (by omega)]⟩
   have:=cv q hq
   rw [sw]
   rw [z] at this; omega
 ·rintro ⟨⟨A,B⟩,hs,rfl⟩
  obtain ⟨hA,hB,ne,cov⟩:=(hJ h3).mp hs
  have cv:∀ q∈aj (l.map f),0≤d * ae (f A) (f B) q:=fun q hq=> by
   obtain ⟨p,hp,rfl⟩:=(dg L h3 q).mp hq
   have:=cov p hp
   rw [L.det,← Int.mul_assoc,show d * d=1 by rcases L.one with z | z <;> rw [z] <;> rfl]
   omega
  unfold sdf
  rcases L.one with z | z
  ·rw [if_pos z]
   refine (hJ h3').mpr ⟨(dg L h3 _).mpr ⟨A,hA,rfl⟩,(dg L h3 _).mpr ⟨B,hB,rfl⟩,fun e=> ne (L.inj e),fun q hq=> ?_⟩
   have:=cv q hq
   dsimp only
   rw [z] at this; omega
  ·rw [if_neg (by omega)]
   refine (hJ h3').mpr ⟨(dg L h3 _).mpr ⟨B,hB,rfl⟩,(dg L h3 _).mpr ⟨A,hA,rfl⟩,fun e=> ne (L.inj e.symm),fun q hq=> ?_⟩
   have:=cv q hq
   dsimp only
   rw [sw]
   rw [z] at this; omega
theorem tj {l:List P2} (hn:l.Nodup):(sdl l).Nodup:=by
 have h:((sdl l).map (·.1)).Nodup:=by rw [pM]; exact hn
 exact (List.pairwise_map.mp h).imp fun {a b} k e=> k (by rw [e])
def ub (s:P2×P2):Int:=(s.2.1 - s.1.1) / gst s
def vb (s:P2×P2):Int:=(s.2.2 - s.1.2) / gst s
def onS (s:P2×P2) (k:Int):P2:=(s.1.1+k * ub s,s.1.2+k * vb s)
theorem e9 (s:P2×P2):s.2.1 - s.1.1=gst s * ub s:=by
 unfold ub
 have h:gst s ∣ s.2.1 - s.1.1:=Int.gcd_dvd_left ..
 rw [Int.mul_ediv_cancel' h]
theorem ft (s:P2×P2):s.2.2 - s.1.2=gst s * vb s:=by
 unfold vb
 have h:gst s ∣ s.2.2 - s.1.2:=Int.gcd_dvd_right ..
 rw [Int.mul_ediv_cancel' h]
theorem o6 {s:P2×P2} (h:s.1≠s.2):∃ cs ct,Lvl s.1 s.2 (gst s) (ub s) (vb s) cs ct:=by
 have g0:=bW h
 obtain ⟨cs,ct,G⟩:=jB (s.2.1 - s.1.1) (s.2.2 - s.1.2)
 have Ge:cs * (s.2.1 - s.1.1)+ct * (s.2.2 - s.1.2)=gst s:=G.eq
 refine ⟨cs,ct,g0,e9 s,ft s,?_⟩
 have e:gst s * (cs * ub s+ct * vb s)=gst s * 1:=by
  rw [Int.mul_one]
  have:gst s * (cs * ub s+ct * vb s)=cs * (gst s * ub s)+ct * (gst s * vb s):=by grind
  rw [this,← e9,← ft]; exact Ge
 exact Int.eq_of_mul_eq_mul_left (by omega) e
theorem iH {s:P2×P2} (h:s.1≠s.2) {p:P2} (hp:ae s.1 s.2 p=0):∃ k,p=onS s k:=by
 obtain ⟨cs,ct,L⟩:=o6 h
 have z:ty s.1 p (ub s) (vb s)=0:=by
  rw [L.area] at hp
  exact (Int.mul_eq_zero.mp hp).resolve_left (by have:=L.g0; omega)
 obtain ⟨b1,b2⟩:=L.back p
 rw [z] at b1 b2
 refine ⟨tx s.1 p cs ct,Prod.ext ?_ ?_⟩
 ·show p.1=s.1.1+tx s.1 p cs ct * ub s
  grind
 ·show p.2=s.1.2+tx s.1 p cs ct * vb s
  grind
theorem dn (s:P2×P2) (k:Int) (X Y:P2):gst s * ae X Y (onS s k)=(gst s - k) * ae X Y s.1+k * ae X Y s.2:=by
 have h1:=e9 s
 have h2:=ft s
 have e1:s.2.1=s.1.1+gst s * ub s:=by omega
 have e2:s.2.2=s.1.2+gst s * vb s:=by omega
 unfold onS ae
 dsimp only
 rw [e1,e2]
 grind
theorem jr {s:P2×P2} (h:s.1≠s.2) {j k:Int} (e:onS s j=onS s k):j=k:=by
 obtain ⟨cs,ct,L⟩:=o6 h
 have st:=L.st
 have e1:s.1.1+j * ub s=s.1.1+k * ub s:=congrArg Prod.fst e
 have e2:s.1.2+j * vb s=s.1.2+k * vb s:=congrArg Prod.snd e
 have a1:(j - k) * ub s=0:=by have:(j - k) * ub s=j * ub s - k * ub s:=by grind
                              omega
 have a2:(j - k) * vb s=0:=by have:(j - k) * vb s=j * vb s - k * vb s:=by grind
                              omega
 have:(j - k) * (cs * ub s+ct * vb s)=cs * ((j - k) * ub s)+ct * ((j - k) * vb s):=by grind
 rw [st,a1,a2] at this
 simp at this
 omega
theorem aw {a b:Int} (ha:0 < a) (h:0≤a * b):0≤b:=by
 rcases Int.lt_or_le b 0 with z | z
 ·have:=Int.mul_pos ha (show 0 < -b by omega)
  have e:a * -b=-(a * b):=by grind
  omega
 ·exact z
def spt (s:P2×P2):List P2:=(List.range (gst s).toNat).map fun (k:Nat)=> onS s (k:Int)
def apt (l:List P2):List P2:=((sdl l).map spt).flatten
def bdr (l:List P2) (p:P2):Prop:=(∀ s∈sdl l,0≤ae s.1 s.2 p)∧∃ s∈sdl l,ae s.1 s.2 p=0
theorem wJ (s:P2×P2):(spt s).length=(gst s).toNat:=by simp [spt]
theorem gP {s:P2×P2} {p:P2}:p∈spt s↔∃ k:Int,0≤k∧k < gst s∧p=onS s k:=by
 unfold spt
 rw [List.mem_map]
 constructor
 ·rintro ⟨k,hk,rfl⟩
  have:=List.mem_range.mp hk
  exact ⟨k,by omega,by omega,rfl⟩
 ·rintro ⟨k,h0,h1,rfl⟩
  exact ⟨k.toNat,List.mem_range.mpr (by omega),by rw [show ((k.toNat:Nat):Int)=k by omega]⟩
theorem wV (l:List P2):((apt l).length:Int)=iX l:=by
 unfold apt iX
 generalize sdl l=ss
 induction ss with
 | nil=> rfl
 | cons s r ih=>
  rw [List.map_cons,List.flatten_cons,List.length_append,List.map_cons,List.sum_cons,wJ]
  have:=oP s
  omega
section
variable {l:List P2} (h3:3≤(aj l).length)
include h3
theorem bR {s:P2×P2} (hs:s∈sdl (aj l)):s.1≠s.2:=s_ (aW l) (by omega) s hs
theorem v4 {p:P2} (h:bdr (aj l) p):p∈apt (aj l):=by
 obtain ⟨hall,s,hs,h0⟩:=h
 obtain ⟨k,rfl⟩:=iH (bR h3 hs) h0
 have g0:=bW (bR h3 hs)
 obtain ⟨A,B⟩:=s
 obtain ⟨Z,hZ⟩:=mI (aL hs).1
 obtain ⟨B',hB',pZ⟩:=dt h3 hZ
 have:B'=B:=ge (aW l) hB' hs
 subst this
 obtain ⟨C,hC,pC⟩:=dt h3 hs
 have k0:0≤k:=by
  have m:=dn (A,B') k Z A
  have z:ae Z A A=0:=by unfold ae; grind
  dsimp only at m
  rw [z,Int.mul_zero,Int.zero_add] at m
  have:0≤gst (A,B') * ae Z A (onS (A,B') k):=Int.mul_nonneg (by omega) (hall _ hZ)
  rw [m,Int.mul_comm] at this
  exact aw pZ this
 have k1:k≤gst (A,B'):=by
  have m:=dn (A,B') k B' C
  have z:ae B' C B'=0:=by unfold ae; grind
  have z2:ae B' C A=ae A B' C:=by unfold ae; grind
  dsimp only at m
  rw [z,Int.mul_zero,Int.add_zero,z2] at m
  have:0≤gst (A,B') * ae B' C (onS (A,B') k):=Int.mul_nonneg (by omega) (hall _ hC)
  rw [m,Int.mul_comm] at this
  have:=aw pC this
  omega
 unfold apt
 by_cases hk:k < gst (A,B')
 ·exact List.mem_flatten.mpr ⟨_,List.mem_map_of_mem hs,gP.mpr ⟨k,k0,hk,rfl⟩⟩
 ·have e:onS (A,B') k=onS (B',C) 0:=by
   have:k=gst (A,B'):=by omega
   rw [this]
   have h1:=e9 (A,B')
   have h2:=ft (A,B')
   dsimp only at h1 h2
   unfold onS
   dsimp only
   exact Prod.ext (by dsimp only; omega) (by dsimp only; omega)
  rw [e]
  exact List.mem_flatten.mpr ⟨_,List.mem_map_of_mem hC,gP.mpr ⟨0,by omega,bW (bR h3 hC),rfl⟩⟩
theorem v_ {p:P2} (h:p∈apt (aj l)):bdr (aj l) p:=by
 unfold apt at h
 obtain ⟨q,hq,hp⟩:=List.mem_flatten.mp h
 obtain ⟨s,hs,rfl⟩:=List.mem_map.mp hq
 obtain ⟨k,k0,k1,rfl⟩:=gP.mp hp
 have g0:=bW (bR h3 hs)
 refine ⟨fun t ht=> ?_,s,hs,?_⟩
 ·have c1:=bj h3 ht s.1 (aB _ _ (aL hs).1)
  have c2:=bj h3 ht s.2 (aB _ _ (aL hs).2)
  have m:=dn s k t.1 t.2
  have a1:=Int.mul_nonneg (show 0≤gst s - k by omega) c1
  have a2:=Int.mul_nonneg k0 c2
  exact aw g0 (by omega)
 ·have m:=dn s k s.1 s.2
  have z1:ae s.1 s.2 s.1=0:=by unfold ae; grind
  have z2:ae s.1 s.2 s.2=0:=by unfold ae; grind
  rw [z1,z2,Int.mul_zero,Int.mul_zero,Int.add_zero] at m
  exact (Int.mul_eq_zero.mp m).resolve_left (by omega)
theorem ug {s:P2×P2} (hs:s∈sdl (aj l)) {k:Int} (k0:0 < k) (k1:k < gst s):onS s k ∉ aj l:=fun h=> by
 obtain ⟨_,a,b,top⟩:=de h3 h
 have ne:=bR h3 hs
 have w:gst s * (wth a b (onS s k) - wth a b s.1)=k * (wth a b s.2 - wth a b s.1):=by
  have h1:=e9 s
  have h2:=ft s
  have e:wth a b s.2 - wth a b s.1=a * (s.2.1 - s.1.1)+b * (s.2.2 - s.1.2):=by unfold wth; grind
  rw [e,h1,h2]
  unfold wth onS
  grind
 have n1:s.1≠onS s k:=fun e=> by
  have:onS s 0=onS s k:=by rw [← e]; unfold onS; simp
  have:=jr ne this
  omega
 have n2:s.2≠onS s k:=fun e=> by
  have h1:=e9 s
  have h2:=ft s
  have:onS s (gst s)=onS s k:=by rw [← e]; unfold onS; exact Prod.ext (by dsimp only; omega) (by dsimp only; omega)
  have:=jr ne this
  omega
 have t1:=top s.1 (aB _ _ (aL hs).1) n1
 have t2:=top s.2 (aB _ _ (aL hs).2) n2
 have g1:0 < gst s * (wth a b (onS s k) - wth a b s.1):=Int.mul_pos (by omega) (by omega)
 have g2:0 < wth a b s.2 - wth a b s.1:=by
  rcases Int.lt_or_le 0 (wth a b s.2 - wth a b s.1) with z | z
  ·exact z
  ·have:=Int.mul_nonneg (show 0≤k by omega) (show 0≤-(wth a b s.2 - wth a b s.1) by omega)
   have e:k * -(wth a b s.2 - wth a b s.1)=-(k * (wth a b s.2 - wth a b s.1)):=by grind
   omega
 have g3:k * (wth a b s.2 - wth a b s.1) < gst s * (wth a b s.2 - wth a b s.1):=Int.mul_lt_mul_of_pos_right k1 g2
 have g4:gst s * (wth a b (onS s k) - wth a b s.1) < gst s * (wth a b s.2 - wth a b s.1):=by omega
 have:=Int.lt_of_mul_lt_mul_left g4 (by omega)
 omega
theorem jA {s:P2×P2} (hs:s∈sdl (aj l)) {P:P2} (hP:P∈aj l) (h0:ae s.1 s.2 P=0):P=s.1∨P=s.2:=by
 have hb:bdr (aj l) P:=⟨fun t ht=> bj h3 ht P (aB _ _ hP),s,hs,h0⟩
 obtain ⟨k,e⟩:=iH (bR h3 hs) h0
 have ne:=bR h3 hs
 have g0:=bW ne
 obtain ⟨A,B⟩:=s
 obtain ⟨Z,hZ⟩:=mI (aL hs).1
 obtain ⟨B',hB',pZ⟩:=dt h3 hZ
 have:B'=B:=ge (aW l) hB' hs
 subst this
 obtain ⟨C,hC,pC⟩:=dt h3 hs
 have k0:0≤k:=by
  have m:=dn (A,B') k Z A
  have z:ae Z A A=0:=by unfold ae; grind
  dsimp only at m
  rw [z,Int.mul_zero,Int.zero_add,← e] at m
  have:0≤gst (A,B') * ae Z A P:=Int.mul_nonneg (by omega) (hb.1 _ hZ)
  rw [m,Int.mul_comm] at this
  exact aw pZ this
 have k1:k≤gst (A,B'):=by
  have m:=dn (A,B') k B' C
  have z:ae B' C B'=0:=by unfold ae; grind
  have z2:ae B' C A=ae A B' C:=by unfold ae; grind
  dsimp only at m
  rw [z,Int.mul_zero,Int.add_zero,z2,← e] at m
  have:0≤gst (A,B') * ae B' C P:=Int.mul_nonneg (by omega) (hb.1 _ hC)
  rw [m,Int.mul_comm] at this
  have:=aw pC this
  omega
 rcases Int.lt_or_eq_of_le k0 with z | z
 ·rcases Int.lt_or_eq_of_le k1 with w | w
  ·exact absurd (e ▸ hP) (ug h3 hs z w)
  ·right
   rw [e,w]
   have h1:=e9 (A,B')
   have h2:=ft (A,B')
   dsimp only at h1 h2
   unfold onS
   exact Prod.ext (by dsimp only; omega) (by dsimp only; omega)
 ·left
  rw [e,← z]; unfold onS; simp
theorem apart {s t:P2×P2} (hs:s∈sdl (aj l)) (ht:t∈sdl (aj l)) (hst:s≠t):∀ p∈spt s,∀ q∈spt t,p≠q:=by
 intro p hp q hq e
 subst e
 obtain ⟨k,k0,k1,rfl⟩:=gP.mp hp
 obtain ⟨j,j0,j1,e⟩:=gP.mp hq
 have gs:=bW (bR h3 hs)
 have gt:=bW (bR h3 ht)
 have mA:=(aL hs).1
 have mB:=(aL hs).2
 have key:∀ {s t:P2×P2},s∈sdl (aj l)→t∈sdl (aj l)→∀ {k j:Int},0≤k→k < gst s→0≤j→j < gst t→onS s k=onS t j→ae t.1 t.2 s.1=0∧(k=0∨ae t.1 t.2 s.2=0):=fun {s t} hs ht {k j} k0 k1 j0 j1 e=> by
  have z:ae t.1 t.2 (onS s k)=0:=by
   rw [e]
   have m:=dn t j t.1 t.2
   have z1:ae t.1 t.2 t.1=0:=by unfold ae; grind
   have z2:ae t.1 t.2 t.2=0:=by unfold ae; grind
   rw [z1,z2,Int.mul_zero,Int.mul_zero,Int.add_zero] at m
   have:=bW (bR h3 ht)
   exact (Int.mul_eq_zero.mp m).resolve_left (by omega)
  have m:=dn s k t.1 t.2
  rw [z,Int.mul_zero] at m
  have c1:=bj h3 ht s.1 (aB _ _ (aL hs).1)
  have c2:=bj h3 ht s.2 (aB _ _ (aL hs).2)
  have a1:=Int.mul_nonneg (show 0≤gst s - k by omega) c1
  have a2:=Int.mul_nonneg k0 c2
  have b1:(gst s - k) * ae t.1 t.2 s.1=0:=by omega
  have b2:k * ae t.1 t.2 s.2=0:=by omega
  exact ⟨(Int.mul_eq_zero.mp b1).resolve_left (by omega),Int.mul_eq_zero.mp b2⟩
 obtain ⟨x1,x2⟩:=key hs ht k0 k1 j0 j1 e
 obtain ⟨y1,y2⟩:=key ht hs j0 j1 k0 k1 e.symm
 have nd:=aW l
 have o0:∀ r:P2×P2,onS r 0=r.1:=fun r=> by unfold onS; simp
 rcases x2 with kz | xB
 ·subst kz
  rcases y2 with jz | yD
  ·subst jz
   rw [o0,o0] at e
   obtain ⟨A,B⟩:=s
   obtain ⟨C,D⟩:=t
   dsimp only at e
   subst e
   exact hst (by rw [ge nd hs ht])
  ·rw [o0] at e
   rcases Int.lt_or_eq_of_le j0 with z | z
   ·exact ug h3 ht z j1 (by rw [← e]; exact mA)
   ·rw [← z,o0] at e
    obtain ⟨A,B⟩:=s
    obtain ⟨C,D⟩:=t
    dsimp only at e
    subst e
    exact hst (by rw [ge nd hs ht])
 ·have eA:=jA h3 ht mA x1
  have eB:=jA h3 ht mB xB
  have ns:=bR h3 hs
  have nt:=bR h3 ht
  rcases eA with a | a
  ·obtain ⟨A,B⟩:=s
   obtain ⟨C,D⟩:=t
   dsimp only at a
   subst a
   exact hst (by rw [ge nd hs ht])
  ·rcases eB with b | b
   ·-- the side and the same turned round:a third corner lies at both hands
    obtain ⟨C,D⟩:=t
    obtain ⟨A,B⟩:=s
    dsimp only at a b
    subst a b
    obtain ⟨E,hE,pE⟩:=dt h3 hs
    have c:=bj h3 ht E (aB _ _ (aL hE).2)
    have:ae B A E=-ae A B E:=by unfold ae; grind
    dsimp only at c
    omega
   ·exact ns (by rw [a,b])
theorem rS:(apt (aj l)).Nodup:=by
 unfold apt
 refine List.pairwise_flatten.mpr ⟨fun q hq=> ?_,?_⟩
 ·obtain ⟨s,hs,rfl⟩:=List.mem_map.mp hq
  unfold spt
  refine List.Pairwise.map _ (fun a b (h:a≠b) e=> h ?_) List.nodup_range
  have:=jr (bR h3 hs) e
  omega
 ·refine List.pairwise_map.mpr ?_
  exact (tj (aW l)).imp_of_mem fun {s t} hs ht h=> apart h3 hs ht h
end
theorem lF {A B p:P2} (h:ST.ltP A B=true):(ae A B p=0∧ST.leP A p=true∧ST.leP p B=true)↔∃ k:Int,0≤k∧k≤gst (A,B)∧p=onS (A,B) k:=by
 have hne:(A,B).1≠(A,B).2:=fun e=> by
  dsimp only at e
  subst e
  unfold ST.ltP at h
  simp at h
 have g0:=bW hne
 have h1:=e9 (A,B)
 have h2:=ft (A,B)
 dsimp only at h1 h2
 unfold ST.ltP at h
 have h:=of_decide_eq_true h
 have lex:0 < ub (A,B)∨(ub (A,B)=0∧0 < vb (A,B)):=by
  rcases h with z | ⟨z,w⟩
  ·left
   have:0 < gst (A,B) * ub (A,B):=by omega
   exact Int.pos_of_mul_pos_right this (by omega)
  ·right
   have e:gst (A,B) * ub (A,B)=0:=by omega
   have:0 < gst (A,B) * vb (A,B):=by omega
   exact ⟨(Int.mul_eq_zero.mp e).resolve_left (by omega),Int.pos_of_mul_pos_right this (by omega)⟩
 have sg:∀ k:Int,(ST.leP A (onS (A,B) k)=true↔0≤k)∧(ST.leP (onS (A,B) k) B=true↔k≤gst (A,B)):=fun k=> by
  have r:∀ m:Int,(0 < m * ub (A,B)∨(m * ub (A,B)=0∧0≤m * vb (A,B)))↔0≤m:=fun m=> by
   rcases lex with u | ⟨u,v⟩
   ·constructor
    ·rintro (z | ⟨z,_⟩)
     ·exact Int.le_of_lt (Int.pos_of_mul_pos_left z (by omega))
     ·rcases Int.mul_eq_zero.mp z with w | w <;> omega
    ·intro hm
     rcases Int.lt_or_eq_of_le hm with z | z
     ·left; exact Int.mul_pos z u
     ·right; rw [← z]; simp
   ·rw [u,Int.mul_zero]
    constructor
    ·rintro (z | ⟨_,z⟩)
     ·omega
     ·rw [Int.mul_comm] at z; exact aw v z
    ·intro hm
     exact .inr ⟨rfl,Int.mul_nonneg hm (by omega)⟩
  have e1:(gst (A,B) - k) * ub (A,B)=B.1 - (A.1+k * ub (A,B)):=by
   have:(gst (A,B) - k) * ub (A,B)=gst (A,B) * ub (A,B) - k * ub (A,B):=by grind
   omega
  have e2:(gst (A,B) - k) * vb (A,B)=B.2 - (A.2+k * vb (A,B)):=by
   have:(gst (A,B) - k) * vb (A,B)=gst (A,B) * vb (A,B) - k * vb (A,B):=by grind
   omega
  have r1:=r k
  have r2:=r (gst (A,B) - k)
  rw [e1,e2] at r2
  unfold ST.leP onS
  rw [decide_eq_true_eq,decide_eq_true_eq]
  dsimp only
  constructor
  ·rw [← r1]; omega
  ·rw [show k≤gst (A,B)↔0≤gst (A,B) - k by omega,← r2]; omega
 constructor
 ·rintro ⟨d,a,b⟩
  obtain ⟨k,rfl⟩:=iH hne d
  exact ⟨k,(sg k).1.mp a,(sg k).2.mp b,rfl⟩
 ·rintro ⟨k,k0,k1,rfl⟩
  refine ⟨?_,(sg k).1.mpr k0,(sg k).2.mpr k1⟩
  have m:=dn (A,B) k A B
  have z1:ae A B A=0:=by unfold ae; grind
  have z2:ae A B B=0:=by unfold ae; grind
  dsimp only at m
  rw [z1,z2,Int.mul_zero,Int.mul_zero,Int.add_zero] at m
  exact (Int.mul_eq_zero.mp m).resolve_left (by omega)
end
section
variable {P:Program} {w:World} {K:PySem.W.Frag} {mg:Str→Option Value} {base:Heap}
theorem kO {a b c e x y:Int} (h:a * e - b * c=1∨a * e - b * c=-1):Int.gcd (a * x+b * y) (c * x+e * y)=Int.gcd x y:=by
 apply Nat.dvd_antisymm
 ·have h1:((Int.gcd (a * x+b * y) (c * x+e * y):Nat):Int) ∣ a * x+b * y:=Int.gcd_dvd_left ..
  have h2:((Int.gcd (a * x+b * y) (c * x+e * y):Nat):Int) ∣ c * x+e * y:=Int.gcd_dvd_right ..
  generalize Int.gcd (a * x+b * y) (c * x+e * y)=g at *
  have k1:(g:Int) ∣ (a * e - b * c) * x:=by
   have:(a * e - b * c) * x=e * (a * x+b * y) - b * (c * x+e * y):=by grind
   rw [this]; exact Int.dvd_sub (Int.dvd_trans h1 (Int.dvd_mul_left ..)) (Int.dvd_trans h2 (Int.dvd_mul_left ..))
  have k2:(g:Int) ∣ (a * e - b * c) * y:=by
   have:(a * e - b * c) * y=a * (c * x+e * y) - c * (a * x+b * y):=by grind
   rw [this]; exact Int.dvd_sub (Int.dvd_trans h2 (Int.dvd_mul_left ..)) (Int.dvd_trans h1 (Int.dvd_mul_left ..))
  have up:∀ z:Int,(g:Int) ∣ (a * e - b * c) * z→(g:Int) ∣ z:=fun z k=> by
   rcases h with w | w <;> rw [w] at k
   ·rwa [Int.one_mul] at k
   ·rw [Int.neg_one_mul] at k; exact Int.dvd_neg.mp k
  exact Int.ofNat_dvd.mp (Int.dvd_coe_gcd (up x k1) (up y k2))
 ·have h1:((Int.gcd x y:Nat):Int) ∣ x:=Int.gcd_dvd_left ..
  have h2:((Int.gcd x y:Nat):Int) ∣ y:=Int.gcd_dvd_right ..
  exact Int.ofNat_dvd.mp (Int.dvd_coe_gcd (Int.dvd_add (Int.dvd_trans h1 (Int.dvd_mul_left ..)) (Int.dvd_trans h2 (Int.dvd_mul_left ..))) (Int.dvd_add (Int.dvd_trans h1 (Int.dvd_mul_left ..)) (Int.dvd_trans h2 (Int.dvd_mul_left ..))))
theorem d9 (A B:P2):gst (B,A)=gst (A,B):=by
 unfold gst
 dsimp only
 rw [show A.1 - B.1=-(B.1 - A.1) by omega,show A.2 - B.2=-(B.2 - A.2) by omega,Int.gcd_neg,Int.neg_gcd]
theorem vT {f:P2→P2} {d:Int} (L:Lin f d) (s:P2×P2):gst (sdf f d s)=gst s:=by
 obtain ⟨A,B⟩:=s
 have key:gst (f A,f B)=gst (A,B):=by
  obtain ⟨a,b,c,e,h,k⟩:=L.ex
  unfold gst
  rw [k,k]
  dsimp only
  rw [show a * B.1+b * B.2 - (a * A.1+b * A.2)=a * (B.1 - A.1)+b * (B.2 - A.2) by grind,show c * B.1+e * B.2 - (c * A.1+e * A.2)=c * (B.1 - A.1)+e * (B.2 - A.2) by grind]
  rw [kO (by rw [h]; exact L.one)]
 unfold sdf
 split
 ·exact key
 ·exact (d9 _ _).trans key
def loT (X Y y:Int):Int:=-((-X * y) / Y)
def hiT (g X Y y:Int):Int:=g+((X - g) * y) / Y
def lnT (g X Y y:Int):Int:=hiT g X Y y - loT X Y y+1
theorem oS {g X Y y:Int} (hY:0 < Y) (hg:0≤g) (h1:y≤Y):0≤lnT g X Y y:=by
 unfold lnT hiT loT
 have a1:=Int.emod_add_mul_ediv (-X * y) Y
 have a2:=Int.emod_lt_of_pos (-X * y) hY
 have b1:=Int.emod_add_mul_ediv ((X - g) * y) Y
 have b2:=Int.emod_lt_of_pos ((X - g) * y) hY
 generalize -X * y / Y=p at *
 generalize (X - g) * y / Y=q at *
 have e:-X * y+(X - g) * y=-(g * y):=by grind
 have gy:g * y≤g * Y:=Int.mul_le_mul_of_nonneg_left h1 hg
 have k:-(Y * (g+q+p+1)) < Y:=by
  have:Y * (g+q+p+1)=g * Y+Y * q+Y * p+Y:=by grind
  omega
 rcases Int.lt_or_le (g+q+p+1) 0 with z | z
 ·have:Y * 1≤Y * -(g+q+p+1):=Int.mul_le_mul_of_nonneg_left (by omega) (by omega)
  have e2:Y * -(g+q+p+1)=-(Y * (g+q+p+1)):=by grind
  omega
 ·omega
def nM (A:P2) (g u v s t X Y:Int) (y:Nat):List P2:=(List.range (lnT g X Y y).toNat).map fun (k:Nat)=> bk A u v s t (loT X Y y+(k:Int)) y
def jc (A:P2) (g u v s t X Y:Int) (n:Nat):List P2:=((List.range n).map (nM A g u v s t X Y)).flatten
theorem rE (A:P2) (g u v s t X Y:Int) (n:Nat):jc A g u v s t X Y (n+1)=jc A g u v s t X Y n++nM A g u v s t X Y n:=by
 unfold jc
 rw [List.range_succ,List.map_append,List.flatten_append]
 simp
theorem nj {A:P2} {g u v s t X Y:Int} (hY:0 < Y) (hg:0≤g):∀ n:Nat,(n:Int)≤Y+1→((jc A g u v s t X Y n).length:Int)=n * (g+1)+bu n (X - g) 0 Y+bu n (-X) 0 Y
 | 0,_=> by simp [jc,bu]
 | n+1,h=> by
  have ih:=nj (A:=A) (g:=g) (u:=u) (v:=v) (s:=s) (t:=t) (X:=X) hY hg n (by omega)
  have l0:=oS (g:=g) (X:=X) (y:=(n:Int)) hY hg (by omega)
  rw [rE,List.length_append]
  have rl:((nM A g u v s t X Y n).length:Int)=lnT g X Y n:=by unfold nM; simp; omega
  have e1:bu (n+1) (X - g) 0 Y=bu n (X - g) 0 Y+((X - g) * (n:Int)+0) / Y:=rfl
  have e2:bu (n+1) (-X) 0 Y=bu n (-X) 0 Y+(-X * (n:Int)+0) / Y:=rfl
  rw [e1,e2,Int.add_zero,Int.add_zero]
  have e3:((n+1:Nat):Int) * (g+1)=(n:Int) * (g+1)+(g+1):=by
   rw [show ((n+1:Nat):Int)=(n:Int)+1 by omega]; grind
  rw [e3]
  unfold lnT hiT loT at rl
  omega
theorem vt {A:P2} {g u v s t X Y g1 g2:Int} (hY:0 < Y) (hg:0≤g) (h1:g1=((Int.gcd X Y:Nat):Int)) (h2:g2=((Int.gcd (X - g) Y:Nat):Int)):2 * ((jc A g u v s t X Y (Y.toNat+1)).length:Int)=g * Y+g+g1+g2+2:=by
 rw [nj hY hg _ (by omega)]
 have eY:((Y.toNat:Nat):Int)=Y:=by omega
 have gp1:0 < g1:=by
  have:Int.gcd X Y≠0:=fun z=> by have:=(Int.gcd_eq_zero_iff.mp z).2; omega
  omega
 have gp2:0 < g2:=by
  have:Int.gcd (X - g) Y≠0:=fun z=> by have:=(Int.gcd_eq_zero_iff.mp z).2; omega
  omega
 have r1:=kj Y.toNat (-X) 0 g1 (by omega) gp1 (by rw [h1]; exact Int.dvd_neg.mpr (Int.gcd_dvd_left ..)) (by rw [h1,eY]; exact Int.gcd_dvd_right ..) (fun d d1 d2=> by rw [h1]; rw [eY] at d2; exact Int.dvd_coe_gcd (Int.dvd_neg.mp d1) d2)
 have r2:=kj Y.toNat (X - g) 0 g2 (by omega) gp2 (by rw [h2]; exact Int.gcd_dvd_left ..) (by rw [h2,eY]; exact Int.gcd_dvd_right ..) (fun d d1 d2=> by rw [h2]; rw [eY] at d2; exact Int.dvd_coe_gcd d1 d2)
 rw [eY] at r1 r2
 have s1:bu (Y.toNat+1) (X - g) 0 Y=bu Y.toNat (X - g) 0 Y+((X - g) * ((Y.toNat:Nat):Int)+0) / Y:=rfl
 have s2:bu (Y.toNat+1) (-X) 0 Y=bu Y.toNat (-X) 0 Y+(-X * ((Y.toNat:Nat):Int)+0) / Y:=rfl
 rw [eY,Int.add_zero,Int.mul_ediv_cancel _ (by omega)] at s1 s2
 rw [s1,s2,show ((Y.toNat+1:Nat):Int)=Y+1 by omega]
 have z1:g1 * (0 / g1)=0:=by simp
 have z2:g2 * (0 / g2)=0:=by simp
 rw [z1] at r1
 rw [z2] at r2
 have e:2 * ((Y+1) * (g+1)+(bu Y.toNat (X - g) 0 Y+(X - g))+(bu Y.toNat (-X) 0 Y+-X))=2 * ((Y+1) * (g+1))+2 * bu Y.toNat (X - g) 0 Y+2 * bu Y.toNat (-X) 0 Y - 2 * g:=by grind
 rw [e,r1,r2]
 grind
def inT (A B C p:P2):Prop:=0≤ae A B p∧0≤ae B C p∧0≤ae C A p
theorem lu {a x Y:Int} (hY:0 < Y):x≤a / Y↔x * Y≤a:=Int.le_ediv_iff_mul_le hY
theorem zk {A B C:P2} {g u v s t:Int} (L:Lvl A B g u v s t) (hY:0 < ty A C u v) (p:P2):inT A B C p↔0≤ty A p u v∧loT (tx A C s t) (ty A C u v) (ty A p u v)≤tx A p s t∧tx A p s t≤hiT g (tx A C s t) (ty A C u v) (ty A p u v):=by
 have g0:=L.g0
 obtain ⟨b1,b2⟩:=L.back p
 have ep:p=bk A u v s t (tx A p s t) (ty A p u v):=Prod.ext b1 b2
 have d1:=L.d1 (tx A p s t) (ty A p u v)
 have d2:=L.d2 C (tx A p s t) (ty A p u v)
 have d3:=L.d3 C (tx A p s t) (ty A p u v)
 rw [← ep] at d1 d2 d3
 unfold inT
 rw [d1,d2,d3]
 generalize tx A p s t=x at *
 generalize ty A p u v=y at *
 generalize tx A C s t=X at *
 generalize ty A C u v=Y at *
 have c1:0≤g * y↔0≤y:=⟨fun h=> by
  rcases Int.lt_or_le y 0 with z | z
  ·have:=Int.mul_pos g0 (show 0 < -y by omega)
   have e:g * -y=-(g * y):=by grind
   omega
  ·exact z,fun h=> Int.mul_nonneg (by omega) h⟩
 have c2:loT X Y y≤x↔0≤Y * x - X * y:=by
  unfold loT
  rw [show (-((-X * y) / Y)≤x)↔(-x≤(-X * y) / Y) by omega,lu hY]
  have e:-x * Y=-(Y * x):=by grind
  have e2:-X * y=-(X * y):=by grind
  rw [e,e2]; omega
 have c3:x≤hiT g X Y y↔0≤(X - g) * y - Y * (x - g):=by
  unfold hiT
  rw [show (x≤g+((X - g) * y) / Y)↔(x - g≤((X - g) * y) / Y) by omega,lu hY]
  have e:(x - g) * Y=Y * (x - g):=Int.mul_comm ..
  rw [e]; omega
 rw [c1,c2,c3]
 constructor
 ·rintro ⟨a,b,c⟩; exact ⟨a,c,b⟩
 ·rintro ⟨a,b,c⟩; exact ⟨a,c,b⟩
theorem ut {A B:P2} {g u v s t:Int} (L:Lvl A B g u v s t) (x y:Int):tx A (bk A u v s t x y) s t=x∧ty A (bk A u v s t x y) u v=y:=by
 have:=L.st
 unfold tx ty bk
 dsimp only
 constructor <;> grind
theorem vD {A B C:P2} {g u v s t:Int} (L:Lvl A B g u v s t) (hY:0 < ty A C u v) (p:P2):p∈jc A g u v s t (tx A C s t) (ty A C u v) ((ty A C u v).toNat+1)↔inT A B C p:=by
 have g0:=L.g0
 rw [zk L hY]
 unfold jc
 rw [List.mem_flatten]
 constructor
 ·rintro ⟨r,hr,hp⟩
  obtain ⟨y,hy,rfl⟩:=List.mem_map.mp hr
  have hy':=List.mem_range.mp hy
  unfold nM at hp
  obtain ⟨k,hk,rfl⟩:=List.mem_map.mp hp
  have hk':=List.mem_range.mp hk
  obtain ⟨e1,e2⟩:=ut L (loT (tx A C s t) (ty A C u v) y+(k:Int)) y
  rw [e1,e2]
  unfold lnT at hk'
  omega
 ·rintro ⟨y0,lo,hi⟩
  obtain ⟨b1,b2⟩:=L.back p
  have ep:p=bk A u v s t (tx A p s t) (ty A p u v):=Prod.ext b1 b2
  have yY:ty A p u v≤ty A C u v:=by
   have h1:0≤ty A C u v * tx A p s t - tx A C s t * ty A p u v:=by
    unfold loT at lo
    rw [show (-((-tx A C s t * ty A p u v) / ty A C u v)≤tx A p s t)↔(-tx A p s t≤(-tx A C s t * ty A p u v) / ty A C u v) by omega,lu hY] at lo
    have e:-tx A p s t * ty A C u v=-(ty A C u v * tx A p s t):=by grind
    have e2:-tx A C s t * ty A p u v=-(tx A C s t * ty A p u v):=by grind
    rw [e,e2] at lo; omega
   have h2:0≤(tx A C s t - g) * ty A p u v - ty A C u v * (tx A p s t - g):=by
    unfold hiT at hi
    rw [show (tx A p s t≤g+((tx A C s t - g) * ty A p u v) / ty A C u v)↔(tx A p s t - g≤((tx A C s t - g) * ty A p u v) / ty A C u v) by omega,lu hY] at hi
    have e:(tx A p s t - g) * ty A C u v=ty A C u v * (tx A p s t - g):=Int.mul_comm ..
    rw [e] at hi; omega
   have h3:0≤g * (ty A C u v - ty A p u v):=by
    have:g * (ty A C u v - ty A p u v)=(ty A C u v * tx A p s t - tx A C s t * ty A p u v)+((tx A C s t - g) * ty A p u v - ty A C u v * (tx A p s t - g)):=by grind
    omega
   rcases Int.lt_or_le (ty A C u v) (ty A p u v) with z | z
   ·have:=Int.mul_pos g0 (show 0 < -(ty A C u v - ty A p u v) by omega)
    have e:g * -(ty A C u v - ty A p u v)=-(g * (ty A C u v - ty A p u v)):=by grind
    omega
   ·exact z
  refine ⟨_,List.mem_map.mpr ⟨(ty A p u v).toNat,List.mem_range.mpr (by omega),rfl⟩,?_⟩
  unfold nM
  have ey:(((ty A p u v).toNat:Nat):Int)=ty A p u v:=by omega
  rw [ey]
  refine List.mem_map.mpr ⟨(tx A p s t - loT (tx A C s t) (ty A C u v) (ty A p u v)).toNat,List.mem_range.mpr (by unfold lnT; omega),?_⟩
  rw [show loT (tx A C s t) (ty A C u v) (ty A p u v)+(((tx A p s t - loT (tx A C s t) (ty A C u v) (ty A p u v)).toNat:Nat):Int)=tx A p s t by omega]
  exact ep.symm
theorem oe {A B:P2} {g u v s t X Y:Int} (L:Lvl A B g u v s t) (n:Nat):(jc A g u v s t X Y n).Nodup:=by
 unfold jc
 have inj:∀ {x y x' y':Int},bk A u v s t x y=bk A u v s t x' y'→x=x'∧y=y':=fun {x y x' y'} e=> by
  have h1:=ut L x y
  have h2:=ut L x' y'
  rw [e] at h1
  exact ⟨h1.1.symm.trans h2.1,h1.2.symm.trans h2.2⟩
 refine List.pairwise_flatten.mpr ⟨fun q hq=> ?_,?_⟩
 ·obtain ⟨y,hy,rfl⟩:=List.mem_map.mp hq
  unfold nM
  refine List.Pairwise.map _ (fun a b (h:a≠b) e=> h ?_) List.nodup_range
  have:=(inj e).1
  omega
 ·refine List.pairwise_map.mpr ?_
  refine List.nodup_range.imp fun {y z} h p hp q hq e=> h ?_
  unfold nM at hp hq
  obtain ⟨k,_,rfl⟩:=List.mem_map.mp hp
  obtain ⟨j,_,rfl⟩:=List.mem_map.mp hq
  have:=(inj e).2
  omega
theorem jn (A B C:P2):ae B C A=ae A B C:=by unfold ae; grind
theorem nG {A B C:P2} (hD:0 < ae A B C) {W:List P2} (hW:W.Nodup) (hin:∀ p,inT A B C p→p∈W) (f:P2→Bool) (hf:∀ p,f p=true↔inT A B C p):2 * (((W.filter f).length:Nat):Int)=ae A B C+gst (A,B)+gst (B,C)+gst (C,A)+2:=by
 have hne:(A,B).1≠(A,B).2:=fun e=> by
  dsimp only at e
  subst e
  have:ae A A C=0:=by unfold ae; grind
  omega
 obtain ⟨s,t,L⟩:=o6 hne
 dsimp only at L
 have g0:=L.g0
 have ar:=L.area C
 have hY:0 < ty A C (ub (A,B)) (vb (A,B)):=by
  rw [ar] at hD
  exact Int.pos_of_mul_pos_right hD (by omega)
 have st:=L.st
 have p:List.Perm (W.filter f) (jc A (gst (A,B)) (ub (A,B)) (vb (A,B)) s t (tx A C s t) (ty A C (ub (A,B)) (vb (A,B))) ((ty A C (ub (A,B)) (vb (A,B))).toNat+1)):=(List.perm_ext_iff_of_nodup (hW.filter _) (oe L _)).mpr fun q=> by
  rw [vD L hY,List.mem_filter,hf]
  exact ⟨fun h=> h.2,fun h=> ⟨hin q h,h⟩⟩
 have e1:gst (C,A)=((Int.gcd (tx A C s t) (ty A C (ub (A,B)) (vb (A,B))):Nat):Int):=by
  rw [d9]
  unfold gst tx ty
  dsimp only
  rw [show ub (A,B) * (C.2 - A.2) - vb (A,B) * (C.1 - A.1)=-vb (A,B) * (C.1 - A.1)+ub (A,B) * (C.2 - A.2) by grind,kO (.inl (by grind))]
 have e2:gst (B,C)=((Int.gcd (tx A C s t - gst (A,B)) (ty A C (ub (A,B)) (vb (A,B))):Nat):Int):=by
  have h1:=L.e1
  have h2:=L.e2
  have x:tx A C s t - gst (A,B)=s * (C.1 - B.1)+t * (C.2 - B.2):=by
   have:s * (B.1 - A.1)+t * (B.2 - A.2)=gst (A,B) * (s * ub (A,B)+t * vb (A,B)):=by rw [h1,h2]; grind
   rw [st,Int.mul_one] at this
   unfold tx
   grind
  have y:ty A C (ub (A,B)) (vb (A,B))=-vb (A,B) * (C.1 - B.1)+ub (A,B) * (C.2 - B.2):=by
   have:ub (A,B) * (B.2 - A.2) - vb (A,B) * (B.1 - A.1)=0:=by rw [h1,h2]; grind
   unfold ty
   grind
  rw [x,y,kO (.inl (by grind))]
  rfl
 have:=vt (A:=A) (u:=ub (A,B)) (v:=vb (A,B)) (s:=s) (t:=t) hY (by omega) e1 e2
 rw [p.length_eq,this,ar]
 omega
theorem ju {A B C q:P2} (hD:0 < ae A B C) (h:inT A B C q) {X Y:P2} (hA:0≤ae X Y A) (hB:0≤ae X Y B) (hC:0≤ae X Y C):0≤ae X Y q:=by
 obtain ⟨h1,h2,h3⟩:=h
 have e:ae A B C * ae X Y q=ae B C q * ae X Y A+ae C A q * ae X Y B+ae A B q * ae X Y C:=by unfold ae; grind
 have a1:=Int.mul_nonneg h2 hA
 have a2:=Int.mul_nonneg h3 hB
 have a3:=Int.mul_nonneg h1 hC
 exact aw hD (by omega)
def chn:List P2→P2→Prop
 | b::c::r,q=> 0≤ae b c q∧chn (c::r) q
 | _,_=> True
def inF (a:P2) (ch:List P2) (q:P2):Prop:=(∀ b,ch.head?=some b→0≤ae a b q)∧chn ch q∧∀ z,ch.getLast?=some z→0≤ae z a q
structure Cvx (a:P2) (ch:List P2):Prop where
 tr:ch.Pairwise fun x y=> 0 < ae a x y
 sd:∀ x,x=a∨x∈ch→chn ch x
theorem gU {b:P2}:∀ {r:List P2} {q:P2},chn (b::r) q→chn r q
 | [],_,_=> trivial
 | _::_,_,h=> h.2
theorem Cvx.tail {a b:P2} {r:List P2} (h:Cvx a (b::r)):Cvx a r:=⟨(List.pairwise_cons.mp h.tr).2,fun x hx=> gU (h.sd x (hx.imp id fun z=> List.mem_cons_of_mem _ z))⟩
theorem kS (a b c q:P2):inF a [b,c] q↔inT a b c q:=by
 unfold inF inT chn chn
 simp
theorem iM {a b c d:P2} {r:List P2} (q:P2):inF a (b::c::d::r) q↔0≤ae a b q∧0≤ae b c q∧chn (c::d::r) q∧∀ z,(c::d::r).getLast?=some z→0≤ae z a q:=by
 unfold inF
 rw [List.getLast?_cons_cons]
 constructor
 ·rintro ⟨h1,h2,h3⟩; exact ⟨h1 b rfl,h2.1,h2.2,h3⟩
 ·rintro ⟨h1,h2,h3,h4⟩; exact ⟨fun x hx=> by cases hx; exact h1,⟨h2,h3⟩,h4⟩
theorem ny {a:P2}:∀ (ch:List P2),2≤ch.length→Cvx a ch→∀ q,inF a ch q→∀ X Y,(∀ x,x=a∨x∈ch→0≤ae X Y x)→0≤ae X Y q
 | [b,c],_,K,q,h,X,Y,hx=> by
  have D:0 < ae a b c:=(List.pairwise_cons.mp K.tr).1 c (by simp)
  exact ju D ((kS a b c q).mp h) (hx a (.inl rfl)) (hx b (.inr (by simp))) (hx c (.inr (by simp)))
 | b::c::d::r,_,K,q,h,X,Y,hx=> by
  have D:0 < ae a b c:=(List.pairwise_cons.mp K.tr).1 c (by simp)
  obtain ⟨h1,h2,h3,h4⟩:=(iM q).mp h
  rcases Int.le_total 0 (ae a c q) with z | z
  ·exact ny (c::d::r) (by simp) K.tail q ⟨fun x hx=> by cases hx; exact z,h3,h4⟩ X Y fun x hx'=> hx x (hx'.imp id fun w=> List.mem_cons_of_mem _ w)
  ·have e:ae c a q=-ae a c q:=by unfold ae; grind
   exact ju D ⟨h1,h2,by omega⟩ (hx a (.inl rfl)) (hx b (.inr (by simp))) (hx c (.inr (by simp)))
 | [],h,_,_,_,_,_,_=> by simp at h
 | [_],h,_,_,_,_,_,_=> by simp at h
def mS (a:P2):List P2→Int
 | b::c::r=> ae a b c+mS a (c::r)
 | _=> 0
def jT:List P2→Int
 | b::c::r=> gst (b,c)+jT (c::r)
 | _=> 0
theorem zr {f g h k:P2→Bool}:∀ W:List P2,(∀ q∈W,(if f q=true then 1 else 0)+(if g q=true then 1 else 0)=(if h q=true then 1 else 0)+(if k q=true then (1:Int) else 0))→(((W.filter f).length:Nat):Int)+((W.filter g).length:Nat)=((W.filter h).length:Nat)+((W.filter k).length:Nat)
 | [],_=> rfl
 | q::W,hq=> by
  have ih:=zr W fun p hp=> hq p (List.mem_cons_of_mem _ hp)
  have h0:=hq q List.mem_cons_self
  simp only [List.filter_cons]
  split at h0 <;> split at h0 <;> split at h0 <;> split at h0 <;> simp_all <;> omega
theorem qz {A B C:P2} (hD:0 < ae A B C) (q:P2):(inT A B C q∧ae A C q=0)↔∃ k:Int,0≤k∧k≤gst (A,C)∧q=onS (A,C) k:=by
 have hne:(A,C).1≠(A,C).2:=fun e=> by
  dsimp only at e
  subst e
  have:ae A B A=0:=by unfold ae; grind
  omega
 have g0:=bW hne
 have mixes:∀ k:Int,gst (A,C) * ae A B (onS (A,C) k)=k * ae A B C∧gst (A,C) * ae B C (onS (A,C) k)=(gst (A,C) - k) * ae A B C∧ae A C (onS (A,C) k)=0:=fun k=> by
  have m1:=dn (A,C) k A B
  have m2:=dn (A,C) k B C
  have m3:=dn (A,C) k A C
  dsimp only at m1 m2 m3
  have z1:ae A B A=0:=by unfold ae; grind
  have z2:ae B C A=ae A B C:=jn A B C
  have z3:ae B C C=0:=by unfold ae; grind
  have z4:ae A C A=0:=by unfold ae; grind
  have z5:ae A C C=0:=by unfold ae; grind
  rw [z1,Int.mul_zero,Int.zero_add] at m1
  rw [z2,z3,Int.mul_zero,Int.add_zero] at m2
  rw [z4,z5,Int.mul_zero,Int.mul_zero,Int.add_zero] at m3
  exact ⟨m1,m2,(Int.mul_eq_zero.mp m3).resolve_left (by omega)⟩
 constructor
 ·rintro ⟨⟨h1,h2,_⟩,h0⟩
  obtain ⟨k,rfl⟩:=iH hne h0
  obtain ⟨m1,m2,_⟩:=mixes k
  refine ⟨k,?_,?_,rfl⟩
  ·have:0≤ae A B C * k:=by rw [Int.mul_comm,← m1]; exact Int.mul_nonneg (by omega) h1
   exact aw hD this
  ·have:0≤ae A B C * (gst (A,C) - k):=by rw [Int.mul_comm,← m2]; exact Int.mul_nonneg (by omega) h2
   have:=aw hD this
   omega
 ·rintro ⟨k,k0,k1,rfl⟩
  obtain ⟨m1,m2,m3⟩:=mixes k
  refine ⟨⟨aw g0 ?_,aw g0 ?_,?_⟩,m3⟩
  ·rw [m1]; exact Int.mul_nonneg k0 (by omega)
  ·rw [m2]; exact Int.mul_nonneg (by omega) (by omega)
  ·have:ae C A (onS (A,C) k)=-ae A C (onS (A,C) k):=by unfold ae; grind
   omega
open Classical in
theorem lX {a:P2}:∀ (ch:List P2),2≤ch.length→Cvx a ch→∀ {W:List P2},W.Nodup→(∀ p,inF a ch p→p∈W)→∀ b z,ch.head?=some b→ch.getLast?=some z→2 * (((W.filter fun q=> decide (inF a ch q)).length:Nat):Int)=mS a ch+(gst (a,b)+jT ch+gst (z,a))+2
 | [b,c],_,K,W,hW,hin,b',z',hb,hz=> by
  cases hb
  have hz':c=z':=by simpa using hz
  subst hz'
  have D:0 < ae a b c:=(List.pairwise_cons.mp K.tr).1 c (by simp)
  have:=nG D hW (fun p hp=> hin p ((kS a b c p).mpr hp)) (fun q=> decide (inF a [b,c] q)) (fun p=> by rw [decide_eq_true_eq]; exact kS a b c p)
  rw [this]
  unfold mS mS jT jT
  omega
 | b::c::d::r,_,K,W,hW,hin,b',z',hb,hz=> by
  cases hb
  have D:0 < ae a b c:=(List.pairwise_cons.mp K.tr).1 c (by simp)
  rw [List.getLast?_cons_cons] at hz
  have swp:∀ q,ae c a q=-ae a c q:=fun q=> by unfold ae; grind
  have tl:∀ q,inF a (c::d::r) q→inF a (b::c::d::r) q:=fun q h=> by
   have hull:=ny (c::d::r) (by simp) K.tail q h
   refine (iM q).mpr ⟨hull a b fun x hx=> ?_,hull b c fun x hx=> ?_,h.2.1,h.2.2⟩
   ·rcases hx with rfl | hx
    ·have:ae x b x=0:=by unfold ae; grind
     omega
    ·exact Int.le_of_lt ((List.pairwise_cons.mp K.tr).1 x hx)
   ·exact (K.sd x (hx.imp id fun w=> List.mem_cons_of_mem _ w)).1
  have tt:∀ q,inT a b c q→inF a (b::c::d::r) q:=fun q h=> by
   have bary:∀ X Y,0≤ae X Y a→0≤ae X Y b→0≤ae X Y c→0≤ae X Y q:=fun X Y h1 h2 h3=> ju D h h1 h2 h3
   have cov:∀ (ch:List P2),chn ch a→chn ch b→chn ch c→chn ch q:=fun ch=> by
    induction ch with
    | nil=> intros; trivial
    | cons x r ih=>
     cases r with
     | nil=> intros; trivial
     | cons y r=> intro h1 h2 h3; exact ⟨bary x y h1.1 h2.1 h3.1,ih h1.2 h2.2 h3.2⟩
   refine (iM q).mpr ⟨h.1,h.2.1,cov _ (gU (K.sd a (.inl rfl))) (gU (K.sd b (.inr (by simp)))) (gU (K.sd c (.inr (by simp)))),fun z hz=> ?_⟩
   have mz:z∈c::d::r:=List.mem_of_getLast? hz
   refine bary z a ?_ ?_ ?_
   ·have:ae z a a=0:=by unfold ae; grind
    omega
   ·have e:ae z a b=ae a b z:=by unfold ae; grind
    rw [e]; exact Int.le_of_lt ((List.pairwise_cons.mp K.tr).1 z mz)
   ·have e:ae z a c=ae a c z:=by unfold ae; grind
    rw [e]
    rcases List.mem_cons.mp mz with w | w
    ·rw [w]; have:ae a c c=0:=by unfold ae; grind
     omega
    ·exact Int.le_of_lt ((List.pairwise_cons.mp K.tail.tr).1 z w)
  have part:∀ q,inF a (b::c::d::r) q→(0≤ae a c q→inF a (c::d::r) q)∧(ae a c q≤0→inT a b c q):=fun q h=> by
   obtain ⟨h1,h2,h3,h4⟩:=(iM q).mp h
   exact ⟨fun w=> ⟨fun x hx=> by cases hx; exact w,h3,h4⟩,fun w=> ⟨h1,h2,by rw [swp]; omega⟩⟩
  have ih:=lX (c::d::r) (by simp) K.tail hW (fun p hp=> hin p (tl p hp)) c z' rfl hz
  have tp:=nG D hW (fun p hp=> hin p (tt p hp)) (fun q=> decide (inT a b c q)) (fun p=> by rw [decide_eq_true_eq])
  have sg:(((W.filter fun q=> decide (inT a b c q∧ae a c q=0)).length:Nat):Int)=gst (a,c)+1:=by
   have hne:(a,c).1≠(a,c).2:=fun e=> by
    dsimp only at e
    subst e
    have:ae a b a=0:=by unfold ae; grind
    omega
   have g0:=bW hne
   have nd:((List.range ((gst (a,c)).toNat+1)).map fun (k:Nat)=> onS (a,c) (k:Int)).Nodup:=by
    refine List.Pairwise.map _ (fun x y (h:x≠y) e=> h ?_) List.nodup_range
    have:=jr hne e
    omega
   have p:List.Perm (W.filter fun q=> decide (inT a b c q∧ae a c q=0)) ((List.range ((gst (a,c)).toNat+1)).map fun (k:Nat)=> onS (a,c) (k:Int)):=(List.perm_ext_iff_of_nodup (hW.filter _) nd).mpr fun p=> by
    rw [List.mem_filter,decide_eq_true_eq,qz D]
    constructor
    ·rintro ⟨_,k,k0,k1,rfl⟩
     exact List.mem_map.mpr ⟨k.toNat,List.mem_range.mpr (by omega),by rw [show ((k.toNat:Nat):Int)=k by omega]⟩
    ·intro hin'
     obtain ⟨k,hk,rfl⟩:=List.mem_map.mp hin'
     have hk':=List.mem_range.mp hk
     have w:∃ j:Int,0≤j∧j≤gst (a,c)∧onS (a,c) (k:Int)=onS (a,c) j:=⟨k,by omega,by omega,rfl⟩
     exact ⟨hin _ (tt _ ((qz D _).mpr w).1),w⟩
   rw [p.length_eq]
   simp only [List.length_map,List.length_range]
   omega
  have four:=zr (f:=fun q=> decide (inF a (b::c::d::r) q)) (g:=fun q=> decide (inT a b c q∧ae a c q=0)) (h:=fun q=> decide (inT a b c q)) (k:=fun q=> decide (inF a (c::d::r) q)) W (fun q _=> by
   simp only [decide_eq_true_eq]
   by_cases hP:inF a (b::c::d::r) q
   ·obtain ⟨p1,p2⟩:=part q hP
    rcases Int.lt_trichotomy (ae a c q) 0 with w | w | w
    ·have hT:=p2 (by omega)
     have hN:¬ inF a (c::d::r) q:=fun z=> by have:=z.1 c rfl; omega
     rw [if_pos hP,if_neg (fun z=> by omega),if_pos hT,if_neg hN]
    ·rw [if_pos hP,if_pos ⟨p2 (by omega),w⟩,if_pos (p2 (by omega)),if_pos (p1 (by omega))]
    ·have hN:¬ inT a b c q:=fun z=> by have:=z.2.2; rw [swp] at this; omega
     rw [if_pos hP,if_neg (fun z=> hN z.1),if_neg hN,if_pos (p1 (by omega))]
     rfl
   ·rw [if_neg hP,if_neg (fun z=> hP (tt q z.1)),if_neg (fun z=> hP (tt q z)),if_neg (fun z=> hP (tl q z))])
  have ga:gst (c,a)=gst (a,c):=d9 a c
  show 2 * _=(ae a b c+mS a (c::d::r))+(gst (a,b)+(gst (b,c)+jT (c::d::r))+gst (z',a))+2
  omega
 | [],h,_,_,_,_,_,_,_,_=> by simp at h
 | [_],h,_,_,_,_,_,_,_,_=> by simp at h
theorem dQ (l:List P2):sdl l=List.zip l (l.drop 1++l.take 1):=by
 have h1:=pM l
 have h2:=wq l
 have:sdl l=List.zip ((sdl l).map (·.1)) ((sdl l).map (·.2)):=by
  generalize sdl l=s
  induction s with
  | nil=> rfl
  | cons x r ih=> simp only [List.map_cons,List.zip_cons_cons]; rw [← ih]
 rw [h1,h2] at this
 exact this
theorem pB (q a:P2):∀ (x:P2) (r:List P2),(∀ s∈List.zip (x::r) (r++[a]),0≤ae s.1 s.2 q)↔chn (x::r) q∧∀ z,(x::r).getLast?=some z→0≤ae z a q
 | x,[]=> by
  constructor
  ·intro h
   exact ⟨trivial,fun z hz=> by cases hz; exact h (x,a) (by simp)⟩
  ·rintro ⟨_,h⟩ s hs
   simp at hs
   rw [hs]; exact h x rfl
 | x,y::r=> by
  rw [List.cons_append,List.zip_cons_cons]
  have ih:=pB q a y r
  rw [List.getLast?_cons_cons]
  constructor
  ·intro h
   have:=ih.mp fun s hs=> h s (List.mem_cons_of_mem _ hs)
   exact ⟨⟨h (x,y) List.mem_cons_self,this.1⟩,this.2⟩
  ·rintro ⟨⟨h1,h2⟩,h3⟩ s hs
   rcases List.mem_cons.mp hs with e | e
   ·rw [e]; exact h1
   ·exact ih.mpr ⟨h2,h3⟩ s e
theorem lf (a b:P2) (r:List P2) (q:P2):(∀ s∈sdl (a::b::r),0≤ae s.1 s.2 q)↔inF a (b::r) q:=by
 rw [dQ]
 show (∀ s∈List.zip (a::b::r) ((b::r)++[a]),0≤ae s.1 s.2 q)↔_
 rw [pB,List.getLast?_cons_cons]
 unfold inF
 constructor
 ·rintro ⟨⟨h1,h2⟩,h3⟩; exact ⟨fun x hx=> by cases hx; exact h1,h2,h3⟩
 ·rintro ⟨h1,h2,h3⟩; exact ⟨⟨h1 b rfl,h2⟩,h3⟩
def o7:List P2→Int
 | b::c::r=> crs (b,c)+o7 (c::r)
 | _=> 0
theorem qj (a:P2):∀ (x:P2) (r:List P2) (z:P2),(x::r).getLast?=some z→((List.zip (x::r) (r++[a])).map gst).sum=jT (x::r)+gst (z,a)
 | x,[],z,hz=> by cases hz; simp [jT]
 | x,y::r,z,hz=> by
  rw [List.getLast?_cons_cons] at hz
  rw [List.cons_append,List.zip_cons_cons,List.map_cons,List.sum_cons,qj a y r z hz]
  show _=gst (x,y)+jT (y::r)+gst (z,a)
  omega
theorem pS (a:P2):∀ (x:P2) (r:List P2) (z:P2),(x::r).getLast?=some z→((List.zip (x::r) (r++[a])).map crs).sum=o7 (x::r)+crs (z,a)
 | x,[],z,hz=> by cases hz; simp [o7]
 | x,y::r,z,hz=> by
  rw [List.getLast?_cons_cons] at hz
  rw [List.cons_append,List.zip_cons_cons,List.map_cons,List.sum_cons,pS a y r z hz]
  show _=crs (x,y)+o7 (y::r)+crs (z,a)
  omega
theorem pf (a:P2):∀ (b:P2) (r:List P2) (z:P2),(b::r).getLast?=some z→mS a (b::r)=crs (a,b)+o7 (b::r)+crs (z,a)
 | b,[],z,hz=> by
  cases hz
  show (0:Int)=crs (a,b)+0+crs (b,a)
  unfold crs; grind
 | b,c::r,z,hz=> by
  rw [List.getLast?_cons_cons] at hz
  have ih:=pf a c r z hz
  show ae a b c+mS a (c::r)=crs (a,b)+(crs (b,c)+o7 (c::r))+crs (z,a)
  rw [ih]
  have e:ae a b c=crs (a,b)+crs (b,c) - crs (a,c):=by unfold ae crs; grind
  omega
theorem tq (a b:P2) (r:List P2) (z:P2) (hz:(b::r).getLast?=some z):mS a (b::r)=area (a::b::r)∧gst (a,b)+jT (b::r)+gst (z,a)=iX (a::b::r):=by
 have hz':(a::b::r).getLast?=some z:=by rw [List.getLast?_cons_cons]; exact hz
 constructor
 ·rw [pf a b r z hz]
  unfold area
  rw [dQ]
  have:=pS a a (b::r) z hz'
  show _=((List.zip (a::b::r) ((b::r)++[a])).map crs).sum
  rw [this]
  show _=crs (a,b)+o7 (b::r)+crs (z,a)
  omega
 ·unfold iX
  rw [dQ]
  have:=qj a a (b::r) z hz'
  show _=((List.zip (a::b::r) ((b::r)++[a])).map gst).sum
  rw [this]
  show _=gst (a,b)+jT (b::r)+gst (z,a)
  omega
def wD (a:P2):List P2→Prop
 | b::c::r=> 0 < ae a b c∧wD a (c::r)
 | _=> True
theorem t_ (a u p q r:P2):ae a u q * ae a p r=ae a u p * ae a q r+ae a u r * ae a p q:=by unfold ae; grind
theorem pH {a u x:P2} (hx:0≤ae a u x):∀ (y:P2) (r:List P2),0 < ae a x y→wD a (y::r)→(∀ w∈y::r,0 < ae a u w)→∀ w∈y::r,0 < ae a x w
 | y,[],h,_,_,w,hw=> by rw [List.mem_singleton.mp hw]; exact h
 | y,z::r,h,hc,hu,w,hw=> by
  rcases List.mem_cons.mp hw with e | e
  ·rw [e]; exact h
  ·have hz:0 < ae a x z:=by
    have f:=t_ a u x y z
    have a1:=Int.mul_nonneg hx (Int.le_of_lt hc.1)
    have a2:=Int.mul_pos (hu z (by simp)) h
    have:0 < ae a u y * ae a x z:=by omega
    exact Int.pos_of_mul_pos_right this (hu y (by simp))
   exact pH hx z r hz hc.2 (fun v hv=> hu v (List.mem_cons_of_mem _ hv)) w e
theorem io {a u:P2}:∀ (ch:List P2),wD a ch→(∀ w∈ch,0≤ae a u w)→(∀ w∈ch.tail,0 < ae a u w)→ch.Pairwise fun x y=> 0 < ae a x y
 | [],_,_,_=> .nil
 | [_],_,_,_=> by simp
 | x::y::r,hc,h0,h1=> by
  refine List.pairwise_cons.mpr ⟨pH (h0 x (by simp)) y r hc.1 hc.2 h1,?_⟩
  exact io (y::r) hc.2 (fun w hw=> h0 w (List.mem_cons_of_mem _ hw)) fun w hw=> h1 w (List.mem_cons_of_mem _ hw)
theorem pQ {a:P2}:∀ (ch:List P2),(∀ s∈List.zip ch ch.tail,0 < ae a s.1 s.2)→wD a ch
 | [],_=> trivial
 | [_],_=> trivial
 | x::y::r,h=> ⟨h (x,y) (by simp),pQ (y::r) fun s hs=> h s (by
   show s∈(x,y)::List.zip (y::r) r
   exact List.mem_cons_of_mem _ hs)⟩
theorem pj (a:P2):∀ (ch:List P2),∀ s∈List.zip ch ch.tail,s∈List.zip ch (ch.tail++[a])
 | [],s,h=> by simp at h
 | [x],s,h=> by simp at h
 | x::y::r,s,h=> by
  have h':s∈(x,y)::List.zip (y::r) r:=h
  show s∈(x,y)::List.zip (y::r) (r++[a])
  rcases List.mem_cons.mp h' with e | e
  ·rw [e]; exact List.mem_cons_self
  ·exact List.mem_cons_of_mem _ (pj a (y::r) s e)
theorem ue {l:List P2} {a b:P2} {r:List P2} (h3:3≤(aj l).length) (e:aj l=a::b::r):Cvx a (b::r):=by
 have nd:=aW l
 have sides:∀ s∈sdl (a::b::r),∀ x∈a::b::r,0≤ae s.1 s.2 x∧(x≠s.1→x≠s.2→0 < ae s.1 s.2 x):=fun s hs x hx=> by
  rw [← e] at hs hx
  have c:=bj h3 hs x (aB _ x hx)
  refine ⟨c,fun n1 n2=> ?_⟩
  rcases Int.lt_or_eq_of_le c with z | z
  ·exact z
  ·rcases jA h3 hs hx z.symm with w | w
   ·exact absurd w n1
   ·exact absurd w n2
 rw [e] at nd
 have na:∀ x∈b::r,a≠x:=(List.pairwise_cons.mp nd).1
 have sab:(a,b)∈sdl (a::b::r):=by rw [dQ]; show (a,b)∈(a,b)::_; simp
 have sch:∀ s∈List.zip (b::r) r,s∈sdl (a::b::r):=fun s hs=> by
  rw [dQ]
  show s∈(a,b)::List.zip (b::r) (r++[a])
  exact List.mem_cons_of_mem _ (pj a (b::r) s hs)
 have zm:∀ s∈List.zip (b::r) r,s.1∈b::r∧s.2∈b::r:=fun s hs=> ⟨(List.of_mem_zip hs).1,List.mem_cons_of_mem _ (List.of_mem_zip hs).2⟩
 refine ⟨io (u:=b) (b::r) (pQ _ fun s hs=> ?_) (fun w hw=> ?_) (fun w hw=> ?_),fun x hx=> ?_⟩
 ·have m:=zm s hs
  have:=(sides s (sch s hs) a (by simp)).2 (na _ m.1) (na _ m.2)
  rwa [← jn s.1 s.2 a,← jn] at this
 ·exact (sides _ sab w (List.mem_cons_of_mem _ hw)).1
 ·have hw':w∈r:=hw
  exact (sides _ sab w (by simp [hw'])).2 (fun z=> na w (List.mem_cons_of_mem _ hw') z.symm) (fun z=> by
   have:=(List.pairwise_cons.mp (List.pairwise_cons.mp nd).2).1 w hw'
   exact this z.symm)
 ·have mx:x∈a::b::r:=by
   rcases hx with h | h
   ·rw [h]; simp
   ·exact List.mem_cons_of_mem _ h
  exact ((lf a b r x).mp fun s hs=> (sides s hs x mx).1).2.1
open Classical in
theorem AK {l:List P2} (h3:3≤(aj l).length) {W:List P2} (hW:W.Nodup) (hin:∀ p,(∀ s∈sdl (aj l),0≤ae s.1 s.2 p)→p∈W):2 * (((W.filter fun q=> decide (∀ s∈sdl (aj l),0≤ae s.1 s.2 q)).length:Nat):Int)=area (aj l)+iX (aj l)+2:=by
 match e:aj l,h3 with
 | a::b::c::r,h3=>
  have K:=ue (by rw [e]; exact h3) e
  obtain ⟨z,hz⟩:∃ z,(b::c::r).getLast?=some z:=⟨_,List.getLast?_eq_some_getLast (by simp)⟩
  have f:=lX (b::c::r) (by simp) K hW (fun p hp=> hin p (by rw [e]; exact (lf a b (c::r) p).mpr hp)) b z rfl hz
  obtain ⟨s1,s2⟩:=tq a b (c::r) z hz
  rw [s1,s2] at f
  rw [← f]
  congr 3
  refine List.filter_congr fun q _=> ?_
  exact decide_eq_decide.mpr (lf a b (c::r) q)
theorem i4 {l:List P2} {k:Int} {i:Nat} (e:k=(i:Int)) (h:i < l.length):atI (l.map pu) k=some (pu (gp l i)):=t5 e (by rw [List.getElem?_map,dO h]; rfl)
theorem Szp.mono {m n:Nat} {p:P2} (h:Szp m p) (le:m≤n):Szp n p:=⟨h.1.mono le,h.2.mono le⟩
def prv (l:List P2) (j:Nat):P2:=gp l ((j+l.length - 1) % l.length)
theorem sV {l:List P2} {j:Nat} (h:j < l.length):(prv l j,gp l j)∈sdl l:=by
 have hi:(j+l.length - 1) % l.length < l.length:=Nat.mod_lt _ (by omega)
 refine List.mem_map.mpr ⟨(j+l.length - 1) % l.length,List.mem_range.mpr hi,?_⟩
 unfold prv nxt
 congr 2
 by_cases h0:j=0
 ·subst h0
  rw [show (0+l.length - 1) % l.length=l.length - 1 from by rw [Nat.mod_eq_of_lt] <;> omega,show l.length - 1+1=l.length by omega,Nat.mod_self]
 ·rw [show (j+l.length - 1) % l.length=j - 1 from by rw [show j+l.length - 1=(j - 1)+l.length by omega,Nat.add_mod_right,Nat.mod_eq_of_lt (by omega)],show j - 1+1=j by omega,Nat.mod_eq_of_lt h]
theorem uB {l:List P2} {s:P2×P2} (hs:s∈sdl l):∃ j,j < l.length∧s=(prv l j,gp l j):=by
 obtain ⟨i,hi,rfl⟩:=List.mem_map.mp hs
 have hi':=List.mem_range.mp hi
 refine ⟨(i+1) % l.length,Nat.mod_lt _ (by omega),?_⟩
 unfold prv nxt
 congr 2
 by_cases hk:i+1 < l.length
 ·rw [Nat.mod_eq_of_lt hk,show i+1+l.length - 1=i+l.length by omega,Nat.add_mod_right,Nat.mod_eq_of_lt hi']
 ·rw [show i+1=l.length by omega,Nat.mod_self,show 0+l.length - 1=i by omega,Nat.mod_eq_of_lt hi']
def pvl (l:List P2):List (P2×P2):=(List.range l.length).map fun j=> (prv l j,gp l j)
theorem gM {l:List P2} (s:P2×P2):s∈pvl l↔s∈sdl l:=by
 constructor
 ·intro h
  obtain ⟨j,hj,rfl⟩:=List.mem_map.mp h
  exact sV (List.mem_range.mp hj)
 ·intro h
  obtain ⟨j,hj,rfl⟩:=uB h
  exact List.mem_map.mpr ⟨j,List.mem_range.mpr hj,rfl⟩
theorem wZ (Z P B q:P2) (a b:Int):ae Z P B * (wth a b q - wth a b P)=-(ae P B q * (wth a b P - wth a b Z)) - ae Z P q * (wth a b P - wth a b B):=by unfold ae wth; grind
theorem wb {l:List P2} (h3:3≤(aj l).length) (a b:Int):∃ Z P B,(Z,P)∈sdl (aj l)∧(P,B)∈sdl (aj l)∧0 < ae Z P B∧wth a b P=hiW a b (aj l)∧wth a b Z≤wth a b P∧wth a b B≤wth a b P:=by
 obtain ⟨⟨P,hP,e⟩,k⟩:=kM a b (l:=aj l) (fun z=> by rw [z] at h3; simp at h3)
 obtain ⟨Z,hZ⟩:=mI hP
 obtain ⟨B,hB,pos⟩:=dt h3 hZ
 refine ⟨Z,P,B,hZ,hB,pos,e,?_,?_⟩
 ·rw [e]; exact k Z (aL hZ).1
 ·rw [e]; exact k B (aL hB).2
theorem zC {l:List P2} (h3:3≤(aj l).length) (a b:Int) {q:P2} (hq:∀ s∈sdl (aj l),0≤ae s.1 s.2 q):wth a b q≤hiW a b (aj l):=by
 obtain ⟨Z,P,B,hZ,hB,pos,e,k1,k2⟩:=wb h3 a b
 rw [← e]
 have i1:0≤ae P B q * (wth a b P - wth a b Z):=Int.mul_nonneg (hq _ hB) (by omega)
 have i2:0≤ae Z P q * (wth a b P - wth a b B):=Int.mul_nonneg (hq _ hZ) (by omega)
 have pe:=wZ Z P B q a b
 rcases Int.lt_or_le (wth a b P) (wth a b q) with h | h
 ·have:=Int.mul_pos pos (show 0 < wth a b q - wth a b P by omega)
  omega
 ·exact h
def jV (l:List P2):Int:=if l.length < 3 then gst (gp l 0,gp l (l.length - 1))+1 else iX l
def plc (l:List P2) (p:P2):Int:=if ∃ s∈pvl l,ae s.1 s.2 p < 0 then -1 else if ∃ s∈pvl l,ae s.1 s.2 p=0 then 0 else 1
def bv (a:Int) (n:Nat):List Int:=(List.range n).map fun (i:Nat)=> a+(i:Int)
def ix (x:Int) (n:Nat) (y:Int) (m:Nat):List P2:=((bv x n).map fun a=> (bv y m).map fun b=> (a,b)).flatten
theorem bA {a:Int} {n:Nat} {x:Int}:x∈bv a n↔a≤x∧x < a+n:=by
 unfold bv
 rw [List.mem_map]
 constructor
 ·rintro ⟨i,hi,rfl⟩
  have:=List.mem_range.mp hi
  omega
 ·rintro ⟨h1,h2⟩
  exact ⟨(x - a).toNat,List.mem_range.mpr (by omega),by omega⟩
theorem fG (a:Int) (n:Nat):(bv a n).Nodup:=by
 unfold bv
 exact List.Pairwise.map _ (fun i j (h:i≠j) e=> h (by omega)) List.nodup_range
theorem lY {x y:Int} {n m:Nat} {p:P2}:p∈ix x n y m↔(x≤p.1∧p.1 < x+n)∧y≤p.2∧p.2 < y+m:=by
 unfold ix
 rw [List.mem_flatten]
 constructor
 ·rintro ⟨q,hq,hp⟩
  obtain ⟨a,ha,rfl⟩:=List.mem_map.mp hq
  obtain ⟨b,hb,rfl⟩:=List.mem_map.mp hp
  exact ⟨bA.mp ha,bA.mp hb⟩
 ·rintro ⟨h1,h2⟩
  exact ⟨_,List.mem_map.mpr ⟨p.1,bA.mpr h1,rfl⟩,List.mem_map.mpr ⟨p.2,bA.mpr h2,rfl⟩⟩
theorem gz (x:Int) (n:Nat) (y:Int) (m:Nat):(ix x n y m).Nodup:=by
 unfold ix
 refine List.pairwise_flatten.mpr ⟨fun q hq=> ?_,?_⟩
 ·obtain ⟨a,_,rfl⟩:=List.mem_map.mp hq
  exact List.Pairwise.map _ (fun i j (h:i≠j) e=> h (congrArg Prod.snd e)) (fG y m)
 ·refine List.pairwise_map.mpr ((fG x n).imp fun {a b} h p hp q hq e=> ?_)
  obtain ⟨_,_,rfl⟩:=List.mem_map.mp hp
  obtain ⟨_,_,rfl⟩:=List.mem_map.mp hq
  exact h (congrArg Prod.fst e)
def iD (l W:List P2) (w:Int):Int:=((W.filter fun p=> decide (plc l p=w)).length:Nat)
def loX (l:List P2):Int:=gH (l.map (·.1))
def hiX (l:List P2):Int:=hiL (l.map (·.1))
def loY (l:List P2):Int:=gH (l.map (·.2))
def hiY (l:List P2):Int:=hiL (l.map (·.2))
theorem cu {l:List Int} (h:l≠[]):hiL l∈l∧∀ a∈l,a≤hiL l:=by
 cases l with
 | nil=> exact absurd rfl h
 | cons a l=> exact ⟨dZ l a,eJ l a⟩
def bxN (l:List P2):Nat:=(hiX l+1 - loX l).toNat
def byN (l:List P2):Nat:=(hiY l+1 - loY l).toNat
def box (l:List P2):List P2:=ix (loX l) (bxN l) (loY l) (byN l)
theorem ck {l:List P2} (hne:l≠[]) {p:P2}:p∈box l↔(loX l≤p.1∧p.1≤hiX l)∧loY l≤p.2∧p.2≤hiY l:=by
 unfold box bxN byN
 rw [lY]
 omega
theorem sO (l:List P2) (p:P2):plc l p=-1∨plc l p=0∨plc l p=1:=by
 unfold plc; split
 ·exact .inl rfl
 ·split
  ·exact .inr (.inl rfl)
  ·exact .inr (.inr rfl)
theorem iN {l:List P2} {p:P2}:plc l p=-1↔¬ ∀ s∈sdl l,0≤ae s.1 s.2 p:=by
 unfold plc
 constructor
 ·intro h hall
  split at h
  ·rename_i k
   obtain ⟨s,hs,h0⟩:=k
   have:=hall s ((gM s).mp hs)
   omega
  ·split at h <;> simp at h
 ·intro h
  rw [if_pos]
  rcases Classical.em (∃ s∈pvl l,ae s.1 s.2 p < 0) with k | k
  ·exact k
  ·exfalso
   refine h fun s hs=> ?_
   rcases Int.lt_or_le (ae s.1 s.2 p) 0 with z | z
   ·exact absurd ⟨s,(gM s).mpr hs,z⟩ k
   ·exact z
theorem l_ {l:List P2} {p:P2}:plc l p=0↔bdr l p:=by
 constructor
 ·intro h
  have hn:∀ s∈sdl l,0≤ae s.1 s.2 p:=by
   rcases Classical.em (∀ s∈sdl l,0≤ae s.1 s.2 p) with k | k
   ·exact k
   ·rw [iN.mpr k] at h; cases h
  refine ⟨hn,?_⟩
  unfold plc at h
  split at h
  ·cases h
  ·split at h
   ·rename_i k
    obtain ⟨s,hs,h0⟩:=k
    exact ⟨s,(gM s).mp hs,h0⟩
   ·cases h
 ·rintro ⟨h1,s,hs,h0⟩
  unfold plc
  rw [if_neg (fun ⟨t,ht,k⟩=> by have:=h1 t ((gM t).mp ht); omega),if_pos ⟨s,(gM s).mpr hs,h0⟩]
theorem cD {A B:List P2} (hA:A.Nodup) (hB:B.Nodup) (h:∀ p,p∈A↔p∈B):A.length=B.length:=((List.perm_ext_iff_of_nodup hA hB).mpr h).length_eq
theorem bM {W:List P2} (h:W.Nodup) (f:P2→Bool):(W.filter f).Nodup:=List.Pairwise.filter f h
open Classical in
theorem km (l W:List P2):iD l W 0+iD l W 1=((W.filter fun q=> decide (∀ s∈sdl l,0≤ae s.1 s.2 q)).length:Nat):=by
 unfold iD
 induction W with
 | nil=> rfl
 | cons p W ih=>
  have hv:=sO l p
  by_cases hn:plc l p=-1
  ·have h2:¬ ∀ s∈sdl l,0≤ae s.1 s.2 p:=iN.mp hn
   rw [List.filter_cons_of_neg (by rw [hn]; decide),List.filter_cons_of_neg (by rw [hn]; decide),List.filter_cons_of_neg (by rw [decide_eq_false h2]; decide)]
   exact ih
  ·have h2:∀ s∈sdl l,0≤ae s.1 s.2 p:=Classical.byContradiction fun k=> hn (iN.mpr k)
   rcases hv with h | h | h
   ·exact absurd h hn
   ·rw [List.filter_cons_of_pos (by rw [h]; decide),List.filter_cons_of_neg (by rw [h]; decide),List.filter_cons_of_pos (by rw [decide_eq_true h2])]
    simp only [List.length_cons]; omega
   ·rw [List.filter_cons_of_neg (by rw [h]; decide),List.filter_cons_of_pos (by rw [h]; decide),List.filter_cons_of_pos (by rw [decide_eq_true h2])]
    simp only [List.length_cons]; omega
theorem gw {l:List P2} (h3:3≤(aj l).length) {p:P2} (h:∀ s∈sdl (aj l),0≤ae s.1 s.2 p):p∈box (aj l):=by
 have hne:aj l≠[]:=fun z=> by rw [z] at h3; simp at h3
 have key:∀ a b:Int,∃ q∈aj l,wth a b p≤wth a b q:=fun a b=> by
  obtain ⟨⟨q,hq,e⟩,_⟩:=kM a b hne
  exact ⟨q,hq,by rw [e]; exact zC h3 a b h⟩
 have hx:(aj l).map (·.1)≠[]:=by simpa using hne
 have hy:(aj l).map (·.2)≠[]:=by simpa using hne
 obtain ⟨q1,m1,k1⟩:=key 1 0
 obtain ⟨q2,m2,k2⟩:=key (-1) 0
 obtain ⟨q3,m3,k3⟩:=key 0 1
 obtain ⟨q4,m4,k4⟩:=key 0 (-1)
 have a1:=(cu hx).2 q1.1 (List.mem_map_of_mem m1)
 have a2:=(bY hx).2 q2.1 (List.mem_map_of_mem m2)
 have a3:=(cu hy).2 q3.2 (List.mem_map_of_mem m3)
 have a4:=(bY hy).2 q4.2 (List.mem_map_of_mem m4)
 unfold wth at k1 k2 k3 k4
 rw [ck hne]
 unfold loX hiX loY hiY
 omega
theorem zI {l:List P2} (h3:3≤(aj l).length):iD (aj l) (box (aj l)) 0+iD (aj l) (box (aj l)) 1=pin (aj l)+jV (aj l)∧iD (aj l) (box (aj l)) 1=pin (aj l):=by
 have nd:=gz (loX (aj l)) (bxN (aj l)) (loY (aj l)) (byN (aj l))
 have P:=AK h3 (W:=box (aj l)) nd fun p hp=> gw h3 hp
 rw [← km] at P
 have Z:iD (aj l) (box (aj l)) 0=iX (aj l):=by
  rw [← wV]
  unfold iD
  congr 1
  refine cD (bM nd _) (rS h3) fun p=> ?_
  rw [List.mem_filter,decide_eq_true_eq,l_]
  constructor
  ·rintro ⟨_,h⟩; exact v4 h3 h
  ·intro h
   have b:=v_ h3 h
   exact ⟨gw h3 b.1,b⟩
 have e1:jV (aj l)=iX (aj l):=by unfold jV; rw [if_neg (by omega)]
 have e2:pin (aj l)=(area (aj l) - iX (aj l)+2) / 2:=by unfold pin; rw [if_neg (by omega)]
 rw [e1,e2]
 omega
theorem qq (A:P2):box [A]=[A]:=by
 have h:∀ p,p∈box [A]↔p∈[A]:=fun p=> by
  rw [ck (by simp),List.mem_singleton]
  unfold loX hiX loY hiY gH hiL
  simp only [List.map_cons,List.map_nil,List.foldl_nil]
  constructor
  ·intro h; exact Prod.ext (by omega) (by omega)
  ·rintro rfl; omega
 have hp:=(List.perm_ext_iff_of_nodup (gz _ _ _ _) (by simp:[A].Nodup)).mpr h
 exact List.perm_singleton.mp hp
theorem iR {A B p:P2} (h:ST.ltP A B=true):(p∈box [A,B]∧ae A B p=0)↔∃ k:Int,0≤k∧k≤gst (A,B)∧p=onS (A,B) k:=by
 rw [← lF h,ck (by simp)]
 have lt:=h
 unfold ST.ltP at lt
 have lt:=of_decide_eq_true lt
 have e1:loX [A,B]=A.1:=by show min A.1 B.1=A.1; omega
 have e2:hiX [A,B]=B.1:=by show max A.1 B.1=B.1; omega
 have e3:loY [A,B]=min A.2 B.2:=rfl
 have e4:hiY [A,B]=max A.2 B.2:=rfl
 rw [e1,e2,e3,e4]
 unfold ST.leP
 rw [decide_eq_true_eq,decide_eq_true_eq]
 constructor
 ·rintro ⟨⟨⟨a1,a2⟩,b1,b2⟩,d⟩
  refine ⟨d,?_,?_⟩
  ·rcases Int.lt_or_eq_of_le a1 with z | z
   ·exact .inl z
   ·right
    refine ⟨z,?_⟩
    rcases lt with w | ⟨w,w'⟩
    ·unfold ae at d
     rw [← z,Int.sub_self,Int.mul_zero,Int.sub_zero] at d
     have:=(Int.mul_eq_zero.mp d).resolve_left (by omega)
     omega
    ·omega
  ·rcases Int.lt_or_eq_of_le a2 with z | z
   ·exact .inl z
   ·right
    refine ⟨z,?_⟩
    rcases lt with w | ⟨w,w'⟩
    ·have d':(B.1 - A.1) * (p.2 - B.2)=0:=by
      have:ae A B p=(B.1 - A.1) * (p.2 - B.2):=by unfold ae; rw [z]; grind
      omega
     have:=(Int.mul_eq_zero.mp d').resolve_left (by omega)
     omega
    ·omega
 ·rintro ⟨d,a,b⟩
  refine ⟨⟨⟨by omega,by omega⟩,?_⟩,d⟩
  rcases lt with w | ⟨w,w'⟩
  ·have hd:(B.1 - A.1) * (p.2 - A.2)=(B.2 - A.2) * (p.1 - A.1):=by unfold ae at d; omega
   have hd':(B.1 - A.1) * (B.2 - p.2)=(B.2 - A.2) * (B.1 - p.1):=by grind
   rcases Int.le_total A.2 B.2 with u | u
   ·have x1:=Int.mul_nonneg (show 0≤B.2 - A.2 by omega) (show 0≤p.1 - A.1 by omega)
    have x2:=Int.mul_nonneg (show 0≤B.2 - A.2 by omega) (show 0≤B.1 - p.1 by omega)
    rw [← hd] at x1
    rw [← hd'] at x2
    have y1:=aw (by omega) x1
    have y2:=aw (by omega) x2
    omega
   ·have x1:=Int.mul_nonneg (show 0≤A.2 - B.2 by omega) (show 0≤p.1 - A.1 by omega)
    have x2:=Int.mul_nonneg (show 0≤A.2 - B.2 by omega) (show 0≤B.1 - p.1 by omega)
    have f1:(A.2 - B.2) * (p.1 - A.1)=(B.1 - A.1) * (A.2 - p.2):=by grind
    have f2:(A.2 - B.2) * (B.1 - p.1)=(B.1 - A.1) * (p.2 - B.2):=by grind
    rw [f1] at x1
    rw [f2] at x2
    have y1:=aw (by omega) x1
    have y2:=aw (by omega) x2
    omega
  ·omega
theorem kY (A B:P2):sdl [A,B]=[(A,B),(B,A)]:=by
 unfold sdl nxt
 simp [List.range_succ]
theorem lm {A B p:P2}:(plc [A,B] p=0↔ae A B p=0)∧plc [A,B] p≠1:=by
 have sw:ae B A p=-ae A B p:=by unfold ae; grind
 have z:plc [A,B] p=0↔ae A B p=0:=by
  rw [l_]
  unfold bdr
  rw [kY]
  constructor
  ·rintro ⟨h,_⟩
   have h1:0≤ae A B p:=h (A,B) (by simp)
   have h2:0≤ae B A p:=h (B,A) (by simp)
   omega
  ·intro h
   refine ⟨fun s hs=> ?_,(A,B),by simp,h⟩
   simp at hs
   rcases hs with rfl | rfl
   ·show 0≤ae A B p; omega
   ·show 0≤ae B A p; omega
 refine ⟨z,fun h=> ?_⟩
 by_cases hd:ae A B p=0
 ·rw [z.mpr hd] at h; cases h
 ·have:plc [A,B] p=-1:=by
   rw [iN,kY]
   intro k
   have h1:0≤ae A B p:=k (A,B) (by simp)
   have h2:0≤ae B A p:=k (B,A) (by simp)
   omega
  rw [this] at h; cases h
theorem Ad {A B:P2} (h:ST.ltP A B=true):iD [A,B] (box [A,B]) 0=gst (A,B)+1∧iD [A,B] (box [A,B]) 1=0:=by
 have hne:(A,B).1≠(A,B).2:=fun e=> by
  dsimp only at e
  subst e
  unfold ST.ltP at h
  simp at h
 have g0:=bW hne
 unfold iD
 constructor
 ·have e:((box [A,B]).filter fun p=> decide (plc [A,B] p=0)).length=((List.range ((gst (A,B)).toNat+1)).map fun (k:Nat)=> onS (A,B) (k:Int)).length:=by
   refine cD (bM (gz _ _ _ _) _) ?_ fun p=> ?_
   ·exact List.Pairwise.map _ (fun i j (h:i≠j) e=> h (by have:=jr hne e; omega)) List.nodup_range
   ·rw [List.mem_filter,decide_eq_true_eq,lm.1,iR h,List.mem_map]
    constructor
    ·rintro ⟨k,k0,k1,rfl⟩
     exact ⟨k.toNat,List.mem_range.mpr (by omega),by rw [show ((k.toNat:Nat):Int)=k by omega]⟩
    ·rintro ⟨k,hk,rfl⟩
     have:=List.mem_range.mp hk
     exact ⟨k,by omega,by omega,rfl⟩
  rw [e,List.length_map,List.length_range]
  omega
 ·have:(box [A,B]).filter (fun p=> decide (plc [A,B] p=1))=[]:=List.filter_eq_nil_iff.mpr fun p _=> by
   rw [decide_eq_true_eq]; exact lm.2
  rw [this]; rfl
theorem r8 {A B:P2} (h:aj [A,B]=[A,B]):ST.ltP A B=true:=by
 have nd:[A,B].Nodup:=by rw [← h]; exact aW _
 have ne:A≠B:=by simpa using nd
 have asc:=ST.srt_asc [A,B]
 have hm:=fun z=> ST.srt_mem z [A,B]
 match e:ST.srt [A,B],asc,hm with
 | [],_,hm=> have:=(hm A).mpr (by simp); simp at this
 | [X],_,hm=>
  have a:=(hm A).mpr (by simp)
  have b:=(hm B).mpr (by simp)
  rw [List.mem_singleton] at a b
  exact absurd (a.trans b.symm) ne
 | X::Y::[],asc,_=>
  have c:aj [A,B]=[X,Y]:=by unfold aj; rw [e]; simp [ak,aV]
  rw [h] at c
  injection c with c1 c2
  injection c2 with c2 _
  subst c1 c2
  exact (List.pairwise_cons.mp asc).1 _ (by simp)
 | X::Y::Z::r,_,_=>
  have:=ST.srt_len [A,B]
  rw [e] at this
  simp at this
def r_ (l:List P2):Int:=pin l+jV l
def TP:List P2→Prop
 | []=> True
 | a::v=> (v.Pairwise fun x y=> 0 < ae a x y)∧TP v
section
variable {l:List P2} (R:∀ s∈sdl l,∀ w∈l,w≠s.1→w≠s.2→0 < ae s.1 s.2 w) (nd:l.Nodup)
include R nd
end
theorem wN (f:P2→P2) (l:List P2):sdl (l.map f)=(sdl l).map fun s=> (f s.1,f s.2):=by
 rw [dQ,dQ,← List.map_drop,← List.map_take,← List.map_append]
 generalize l.drop 1++l.take 1=m
 induction l generalizing m with
 | nil=> rfl
 | cons a l ih=>
  cases m with
  | nil=> simp
  | cons b m=> simp only [List.map_cons,List.zip_cons_cons]; rw [ih]
theorem kh {a b:P2} (h:ST.ltP a b=true):aj [a,b]=[a,b]:=by
 have e:ST.srt [a,b]=[a,b]:=ST.asc_srt (by simp [ST.Asc,h])
 unfold aj
 rw [e]
 simp [ak,aV]
end
section
variable {P:Program} {w:World} {K:PySem.W.Frag} {mg:Str→Option Value} {base:Heap}
def aK (s:P2×P2) (x:Int):Int:=s.1.2 * (s.2.1 - s.1.1)+(x - s.1.1) * (s.2.2 - s.1.2)
def jw (s:P2×P2) (x:Int):Int:=if s.1.1≤x∧x < s.2.1 then (-(aK s x)) / (s.2.1 - s.1.1) else 0
def je (s:P2×P2) (x:Int):Int:=if s.2.1≤x∧x < s.1.1 then (-(aK s x)) / (s.1.1 - s.2.1)+1 else 0
def dM (s:P2×P2) (x:Int):Int:=jw s x+je s x
def cy (s:P2×P2) (left:Int):Int:=max left (min s.1.1 s.2.1)
def dS (s:P2×P2) (left right:Int):Int:=min (right+1) (max s.1.1 s.2.1) - cy s left
def jX (x:Int):Int:=if x < 0 then -x else x
def im (left right:Int) (s:P2×P2):Int:=if dS s left right < 1 then 0 else bu (dS s left right).toNat (-(s.2.2 - s.1.2)) (-(aK s (cy s left))) (jX (s.2.1 - s.1.1))+(if s.2.1 - s.1.1 < 0 then dS s left right else 0)
theorem gE (a:Int) (n:Nat):∀ m:Nat,bv a (n+m)=bv a n++bv (a+n) m
 | 0=> by show bv a n=bv a n++[]; rw [List.append_nil]
 | m+1=> by
  have s1:∀ (b:Int) (k:Nat),bv b (k+1)=bv b k++[b+(k:Int)]:=fun b k=> by
   unfold bv; rw [List.range_succ,List.map_append]; rfl
  rw [← Nat.add_assoc,s1,gE a n m,s1,List.append_assoc]
  congr 3
  omega
theorem lq (l m:List Int):(l++m).sum=l.sum+m.sum:=by
 induction l with
 | nil=> simp
 | cons a l ih=> rw [List.cons_append,List.sum_cons,ih,List.sum_cons]; omega
theorem sum_nil {α:Type} {l:List α} {f:α→Int} (h:∀ x∈l,f x=0):(l.map f).sum=0:=by
 induction l with
 | nil=> rfl
 | cons a l ih=> rw [List.map_cons,List.sum_cons,h a (by simp),ih fun x hx=> h x (List.mem_cons_of_mem _ hx)]; rfl
theorem pV {f:Int→Int} {a p:Int} {n m:Nat} (h1:a≤p) (h2:p+m≤a+n) (h0:∀ x,a≤x→x < a+n→(x < p∨p+m≤x)→f x=0):((bv a n).map f).sum=((bv p m).map f).sum:=by
 obtain ⟨u,hu⟩:∃ u:Nat,p=a+u:=⟨(p - a).toNat,by omega⟩
 obtain ⟨v,hv⟩:∃ v:Nat,n=u+(m+v):=⟨n - u - m,by omega⟩
 subst hu hv
 rw [gE,gE,List.map_append,List.map_append,lq,lq,sum_nil (l:=bv a u),sum_nil (l:=bv (a+↑u+↑m) v)]
 ·omega
 ·intro x hx
  have:=bA.mp hx
  exact h0 x (by omega) (by omega) (.inr (by omega))
 ·intro x hx
  have:=bA.mp hx
  exact h0 x (by omega) (by omega) (.inl (by omega))
theorem kN {f:Int→Int} {a b m p:Int} (h:∀ i:Nat,f (p+i)=(a * i+b) / m):∀ n:Nat,((bv p n).map f).sum=bu n a b m
 | 0=> rfl
 | n+1=> by
  rw [gE p n 1,List.map_append,lq,kN h n,sj]
  have e:bv (p+(n:Int)) 1=[p+(n:Int)]:=by unfold bv; simp
  rw [e]
  show _+([f (p+(n:Int))]:List Int).sum=_
  rw [List.sum_cons,h n]; simp
theorem gu {α:Type} (l:List α) (f g:α→Int):(l.map fun x=> f x+g x).sum=(l.map f).sum+(l.map g).sum:=by
 induction l with
 | nil=> rfl
 | cons a l ih=> simp only [List.map_cons,List.sum_cons]; rw [ih]; omega
theorem rV {α:Type} (l:List α):(l.map fun _=> (1:Int)).sum=l.length:=by
 induction l with
 | nil=> rfl
 | cons a l ih=> rw [List.map_cons,List.sum_cons,ih,List.length_cons]; omega
theorem mH (s:P2×P2) (x i:Int):-(aK s (x+i))=-(s.2.2 - s.1.2) * i+-(aK s x):=by unfold aK; grind
theorem qN (left right:Int) (s:P2×P2):im left right s=((bv left (right+1 - left).toNat).map (dM s)).sum:=by
 unfold im
 by_cases hm:dS s left right < 1
 ·rw [if_pos hm]
  unfold dS cy at hm
  refine (sum_nil fun x hx=> ?_).symm
  have:=bA.mp hx
  unfold dM jw je
  rw [if_neg (by omega),if_neg (by omega)]; rfl
 ·rw [if_neg hm]
  have hw:((bv left (right+1 - left).toNat).map (dM s)).sum=((bv (cy s left) (dS s left right).toNat).map (dM s)).sum:=by
   unfold dS cy at *
   refine pV (by omega) (by omega) fun x x0 x1 hx=> ?_
   unfold dM jw je
   rw [if_neg (by omega),if_neg (by omega)]; rfl
  rw [hw]
  have hc:∀ i:Nat,(i:Int) < dS s left right→(min s.1.1 s.2.1≤cy s left+i∧cy s left+i < max s.1.1 s.2.1):=fun i hi=> by
   unfold dS cy at *
   omega
  by_cases hr:s.2.1 - s.1.1 < 0
  ·rw [if_pos hr]
   have ea:jX (s.2.1 - s.1.1)=s.1.1 - s.2.1:=by unfold jX; rw [if_pos hr]; omega
   rw [ea]
   have e:(bv (cy s left) (dS s left right).toNat).map (dM s)=(bv (cy s left) (dS s left right).toNat).map fun x=> (-(aK s x)) / (s.1.1 - s.2.1)+1:=List.map_congr_left fun x hx=> by
    have h:=bA.mp hx
    have:=hc (x - cy s left).toNat (by omega)
    unfold dM jw je
    rw [if_neg (by omega),if_pos (by omega)]; omega
   rw [e,gu,rV]
   have e2:=kN (f:=fun x=> (-(aK s x)) / (s.1.1 - s.2.1)) (a:=-(s.2.2 - s.1.2)) (b:=-(aK s (cy s left))) (m:=s.1.1 - s.2.1) (p:=cy s left) (fun i=> by rw [mH]) (dS s left right).toNat
   rw [e2]
   congr 1
   unfold bv
   rw [List.length_map,List.length_range]
   omega
  ·rw [if_neg hr]
   have ea:jX (s.2.1 - s.1.1)=s.2.1 - s.1.1:=by unfold jX; rw [if_neg hr]
   rw [ea]
   have e:(bv (cy s left) (dS s left right).toNat).map (dM s)=(bv (cy s left) (dS s left right).toNat).map fun x=> (-(aK s x)) / (s.2.1 - s.1.1):=List.map_congr_left fun x hx=> by
    have h:=bA.mp hx
    have:=hc (x - cy s left).toNat (by omega)
    unfold dM jw je
    rw [if_pos (by omega),if_neg (by omega)]; omega
   rw [e]
   have e2:=kN (f:=fun x=> (-(aK s x)) / (s.2.1 - s.1.1)) (a:=-(s.2.2 - s.1.2)) (b:=-(aK s (cy s left))) (m:=s.2.1 - s.1.1) (p:=cy s left) (fun i=> by rw [mH]) (dS s left right).toNat
   rw [e2]
   omega
theorem tV {α β:Type} (L:List α) (X:List β) (F:α→β→Int):(L.map fun s=> (X.map (F s)).sum).sum=(X.map fun x=> (L.map fun s=> F s x).sum).sum:=by
 induction L with
 | nil=>
  simp only [List.map_nil,List.sum_nil]
  exact (sum_nil fun _ _=> rfl).symm
 | cons a L ih=>
  simp only [List.map_cons,List.sum_cons]
  rw [ih,← gu]
theorem m_ {α:Type} {l:List α} (hn:l.Nodup) {f:α→Int} {a:α} (ha:a∈l) (h:∀ x∈l,x≠a→f x=0):(l.map f).sum=f a:=by
 induction l with
 | nil=> simp at ha
 | cons b l ih=>
  obtain ⟨n1,n2⟩:=List.pairwise_cons.mp hn
  rw [List.map_cons,List.sum_cons]
  rcases List.mem_cons.mp ha with e | e
  ·subst e
   rw [sum_nil fun x hx=> h x (List.mem_cons_of_mem _ hx) fun z=> n1 x hx z.symm]; omega
  ·rw [ih n2 e fun x hx=> h x (List.mem_cons_of_mem _ hx),h b (by simp) fun z=> n1 a e z]; omega
def bJ (l:List P2) (p:P2):Bool:=if l.length=1 then decide (p=gp l 0) else if l.length=2 then (decide (ae (gp l 0) (gp l 1) p=0) && (ST.leP (gp l 0) p && ST.leP p (gp l 1))) else (sdl l).all fun s=> decide (0≤ae s.1 s.2 p)
theorem gi {l:List P2} (h3:3≤l.length) (p:P2):bJ l p=true↔∀ s∈sdl l,0≤ae s.1 s.2 p:=by
 unfold bJ
 rw [if_neg (by omega),if_neg (by omega),List.all_eq_true]
 simp only [decide_eq_true_eq]
theorem kR (A B p:P2):bJ [A,B] p=true↔ae A B p=0∧ST.leP A p=true∧ST.leP p B=true:=by
 unfold bJ
 rw [if_neg (by simp),if_pos (by simp),Bool.and_eq_true,Bool.and_eq_true,decide_eq_true_eq]
 rfl
theorem i0 (A p:P2):bJ [A] p=true↔p=A:=by
 unfold bJ
 rw [if_pos (by simp),decide_eq_true_eq]; rfl
def jR (l:List P2) (x:Int):Int:=(((bv (loY l) (byN l)).filter fun y=> bJ l (x,y)).length:Nat)
theorem lz {lo:Int} {m:Nat} {f:Int→Bool} {b t:Int} (h:∀ y,f y=true↔b≤y∧y≤t) (hb:b≤t→lo≤b∧t < lo+m) (hbt:b≤t+1):(((bv lo m).filter f).length:Int)=t - b+1:=by
 have e:((bv lo m).filter f).length=(bv b (t - b+1).toNat).length:=by
  refine ((List.perm_ext_iff_of_nodup (List.Pairwise.filter _ (fG lo m)) (fG b _)).mpr fun y=> ?_).length_eq
  rw [List.mem_filter,bA,bA,h]
  omega
 rw [e]
 unfold bv
 rw [List.length_map,List.length_range]
 omega
theorem gW (s:P2×P2) (x y:Int):ae s.1 s.2 (x,y)=(s.2.1 - s.1.1) * y - aK s x:=by unfold ae aK; grind
theorem vY {s:P2×P2} {x y:Int} (h:s.1.1 < s.2.1):0≤ae s.1 s.2 (x,y)↔-((-(aK s x)) / (s.2.1 - s.1.1))≤y:=by
 rw [gW]
 have:=Int.le_ediv_iff_mul_le (a:=-y) (b:=-(aK s x)) (show 0 < s.2.1 - s.1.1 by omega)
 have e:-y * (s.2.1 - s.1.1)=-((s.2.1 - s.1.1) * y):=by grind
 rw [e] at this
 omega
theorem wv {s:P2×P2} {x y:Int} (h:s.2.1 < s.1.1):0≤ae s.1 s.2 (x,y)↔y≤(-(aK s x)) / (s.1.1 - s.2.1):=by
 rw [gW]
 have:=Int.le_ediv_iff_mul_le (a:=y) (b:=-(aK s x)) (show 0 < s.1.1 - s.2.1 by omega)
 have e:y * (s.1.1 - s.2.1)=-((s.2.1 - s.1.1) * y):=by grind
 rw [e] at this
 omega
theorem eM (s t:P2×P2) (x:Int):(s.2.1 - x) * ae t.1 t.2 s.1+(x - s.1.1) * ae t.1 t.2 s.2=(t.2.1 - t.1.1) * aK s x - (s.2.1 - s.1.1) * aK t x:=by unfold ae aK; grind
theorem nP {f:P2→Bool}:∀ (l:List P2) (a:P2),(∃ x∈a::l,f x=true)→(∃ y∈a::l,f y=false)→∃ s∈sdl (a::l),f s.1=true∧f s.2=false:=by
 intro l a hx hy
 rw [dQ]
 show ∃ s∈List.zip (a::l) (l++[a]),_
 have key:∀ (l:List P2) (b z:P2),f b=true→(f z=false∨∃ y∈l,f y=false)→∃ s∈List.zip (b::l) (l++[z]),f s.1=true∧f s.2=false:=by
  intro l
  induction l with
  | nil=>
   intro b z hb hz
   rcases hz with h | ⟨y,hy,_⟩
   ·exact ⟨(b,z),by simp,hb,h⟩
   ·simp at hy
  | cons c l ih=>
   intro b z hb hz
   rw [List.cons_append,List.zip_cons_cons]
   by_cases hc:f c=true
   ·obtain ⟨s,hs,k⟩:=ih c z hc (hz.imp id fun ⟨y,hy,h⟩=> by
     rcases List.mem_cons.mp hy with e | e
     ·rw [e,hc] at h; cases h
     ·exact ⟨y,e,h⟩)
    exact ⟨s,List.mem_cons_of_mem _ hs,k⟩
   ·exact ⟨(b,c),by simp,hb,by simpa using hc⟩
 have key2:∀ (l:List P2) (b z:P2),f z=false→(∃ x∈b::l,f x=true)→∃ s∈List.zip (b::l) (l++[z]),f s.1=true∧f s.2=false:=by
  intro l
  induction l with
  | nil=>
   rintro b z hz ⟨x,hx,h⟩
   rw [List.mem_singleton.mp hx] at h
   exact ⟨(b,z),by simp,h,hz⟩
  | cons c l ih=>
   rintro b z hz ⟨x,hx,h⟩
   by_cases hb:f b=true
   ·exact key (c::l) b z hb (.inl hz)
   ·rw [List.cons_append,List.zip_cons_cons]
    obtain ⟨s,hs,k⟩:=ih c z hz ⟨x,by
     rcases List.mem_cons.mp hx with e | e
     ·rw [e] at h; exact absurd h hb
     ·exact e,h⟩
    exact ⟨s,List.mem_cons_of_mem _ hs,k⟩
 by_cases ha:f a=true
 ·refine key l a a ha (.inr ?_)
  obtain ⟨y,hy,h⟩:=hy
  rcases List.mem_cons.mp hy with e | e
  ·rw [e,ha] at h; cases h
  ·exact ⟨y,e,h⟩
 ·exact key2 l a a (by simpa using ha) hx
section
variable {l:List P2} (h3:3≤(aj l).length)
include h3
theorem gj {s t:P2×P2} (hs:s∈sdl (aj l)) (ht:t∈sdl (aj l)):0≤ae t.1 t.2 s.1∧0≤ae t.1 t.2 s.2:=⟨bj h3 ht _ (aB _ _ (aL hs).1),bj h3 ht _ (aB _ _ (aL hs).2)⟩
theorem vS {s t:P2×P2} (hs:s∈sdl (aj l)) (ht:t∈sdl (aj l)) {x:Int} (h1:s.1.1≤x) (h2:x < s.2.1) (k1:t.1.1≤x) (k2:x < t.2.1):s=t:=by
 have a:=eM s t x
 have b:=eM t s x
 obtain ⟨c1,c2⟩:=gj h3 hs ht
 obtain ⟨d1,d2⟩:=gj h3 ht hs
 have p1:=Int.mul_nonneg (show 0≤s.2.1 - x by omega) c1
 have p2:=Int.mul_nonneg (show 0≤x - s.1.1 by omega) c2
 have p3:=Int.mul_nonneg (show 0≤t.2.1 - x by omega) d1
 have p4:=Int.mul_nonneg (show 0≤x - t.1.1 by omega) d2
 have z1:(s.2.1 - x) * ae t.1 t.2 s.1=0:=by omega
 have z2:(t.2.1 - x) * ae s.1 s.2 t.1=0:=by omega
 have e1:=(Int.mul_eq_zero.mp z1).resolve_left (by omega)
 rcases jA h3 ht (aL hs).1 e1 with r | r
 ·obtain ⟨A,B⟩:=s
  obtain ⟨C,D⟩:=t
  dsimp only at r
  subst r
  rw [ge (aW l) hs ht]
 ·rw [r] at h1; omega
theorem wW {s t:P2×P2} (hs:s∈sdl (aj l)) (ht:t∈sdl (aj l)) {x:Int} (h1:s.2.1≤x) (h2:x < s.1.1) (k1:t.2.1≤x) (k2:x < t.1.1):s=t:=by
 have a:=eM s t x
 have b:=eM t s x
 obtain ⟨c1,c2⟩:=gj h3 hs ht
 obtain ⟨d1,d2⟩:=gj h3 ht hs
 have p1:=Int.mul_nonneg (show 0≤x - s.2.1 by omega) c1
 have p2:=Int.mul_nonneg (show 0≤s.1.1 - x by omega) c2
 have p3:=Int.mul_nonneg (show 0≤x - t.2.1 by omega) d1
 have p4:=Int.mul_nonneg (show 0≤t.1.1 - x by omega) d2
 have n1:(s.2.1 - x) * ae t.1 t.2 s.1=-((x - s.2.1) * ae t.1 t.2 s.1):=by grind
 have n2:(x - s.1.1) * ae t.1 t.2 s.2=-((s.1.1 - x) * ae t.1 t.2 s.2):=by grind
 have n3:(t.2.1 - x) * ae s.1 s.2 t.1=-((x - t.2.1) * ae s.1 s.2 t.1):=by grind
 have n4:(x - t.1.1) * ae s.1 s.2 t.2=-((t.1.1 - x) * ae s.1 s.2 t.2):=by grind
 have z1:(s.1.1 - x) * ae t.1 t.2 s.2=0:=by omega
 have e1:=(Int.mul_eq_zero.mp z1).resolve_left (by omega)
 have tn:=bR h3 ht
 have sn:=bR h3 hs
 rcases jA h3 ht (aL hs).2 e1 with r | r
 ·rw [r] at h1; omega
 ·-- the same end:the same side
  obtain ⟨A,B⟩:=s
  obtain ⟨C,D⟩:=t
  dsimp only at *
  subst r
  have q:A=C:=by
   obtain ⟨i,hi,ei⟩:=List.mem_map.mp hs
   obtain ⟨j,hj,ej⟩:=List.mem_map.mp ht
   have hi:=List.mem_range.mp hi
   have hj:=List.mem_range.mp hj
   have e1:gp (aj l) ((i+1) % (aj l).length)=gp (aj l) ((j+1) % (aj l).length):=by
    have a1:nxt (aj l) i=B:=congrArg Prod.snd ei
    have a2:nxt (aj l) j=B:=congrArg Prod.snd ej
    unfold nxt at a1 a2
    rw [a1,a2]
   have n0:0 < (aj l).length:=by omega
   have inj:∀ {u v:Nat},u < (aj l).length→v < (aj l).length→gp (aj l) u=gp (aj l) v→u=v:=fun {u v} hu hv e=> by
    have nd:=aW l
    have e1:gp (aj l) u=(aj l)[u]:=by simp [gp,hu]
    have e2:gp (aj l) v=(aj l)[v]:=by simp [gp,hv]
    rw [e1,e2] at e
    rcases Nat.lt_trichotomy u v with z | z | z
    ·exact absurd e (List.pairwise_iff_getElem.mp nd u v hu hv z)
    ·exact z
    ·exact absurd e.symm (List.pairwise_iff_getElem.mp nd v u hv hu z)
   have e2:=inj (Nat.mod_lt _ n0) (Nat.mod_lt _ n0) e1
   have e3:i=j:=by
    by_cases c1:i+1 < (aj l).length <;> by_cases c2:j+1 < (aj l).length
    ·rw [Nat.mod_eq_of_lt c1,Nat.mod_eq_of_lt c2] at e2; omega
    ·rw [Nat.mod_eq_of_lt c1,show j+1=(aj l).length by omega,Nat.mod_self] at e2; omega
    ·rw [Nat.mod_eq_of_lt c2,show i+1=(aj l).length by omega,Nat.mod_self] at e2; omega
    ·omega
   have b1:gp (aj l) i=A:=congrArg Prod.fst ei
   have b2:gp (aj l) j=C:=congrArg Prod.fst ej
   rw [← b1,← b2,e3]
  rw [q]
theorem rZ {x:Int} (hl:loX (aj l)≤x) (hh:x < hiX (aj l)):∃ s∈sdl (aj l),∃ t∈sdl (aj l),(s.1.1≤x∧x < s.2.1)∧t.2.1≤x∧x < t.1.1:=by
 have hne:aj l≠[]:=fun e=> by rw [e] at h3; simp at h3
 have hx:(aj l).map (·.1)≠[]:=by simpa using hne
 obtain ⟨p,hp,ep⟩:=List.mem_map.mp (bY hx).1
 obtain ⟨q,hq,eq⟩:=List.mem_map.mp (cu hx).1
 have p1:p.1≤x:=by show p.1≤x; unfold loX at hl; omega
 have q1:x < q.1:=by unfold hiX at hh; omega
 obtain ⟨a,r,e⟩:=List.exists_cons_of_ne_nil hne
 rw [e] at hp hq
 have c1:=nP (f:=fun z=> decide (z.1≤x)) r a ⟨p,hp,by simpa using p1⟩ ⟨q,hq,by simpa using q1⟩
 have c2:=nP (f:=fun z=> decide (x < z.1)) r a ⟨q,hq,by simpa using q1⟩ ⟨p,hp,by simpa using p1⟩
 rw [← e] at c1 c2
 obtain ⟨s,hs,s1,s2⟩:=c1
 obtain ⟨t,ht,t1,t2⟩:=c2
 exact ⟨s,hs,t,ht,⟨by simpa using s1,by simpa using s2⟩,by simpa using t2,by simpa using t1⟩
theorem lP {s t:P2×P2} (hs:s∈sdl (aj l)) (ht:t∈sdl (aj l)) {x:Int} (h1:s.1.1≤x) (h2:x < s.2.1) (k1:t.2.1≤x) (k2:x < t.1.1) (y:Int):bJ (aj l) (x,y)=true↔-((-(aK s x)) / (s.2.1 - s.1.1))≤y∧y≤(-(aK t x)) / (t.1.1 - t.2.1):=by
 rw [gi h3,← vY (by omega),← wv (by omega)]
 constructor
 ·intro h; exact ⟨h s hs,h t ht⟩
 ·rintro ⟨hlow,htop⟩ w hw
  rw [gW] at hlow htop ⊢
  by_cases hd:0≤w.2.1 - w.1.1
  ·have m:=eM s w x
   obtain ⟨c1,c2⟩:=gj h3 hs hw
   have p1:=Int.mul_nonneg (show 0≤s.2.1 - x by omega) c1
   have p2:=Int.mul_nonneg (show 0≤x - s.1.1 by omega) c2
   have p3:=Int.mul_nonneg hd hlow
   have e:(s.2.1 - s.1.1) * ((w.2.1 - w.1.1) * y - aK w x)=(w.2.1 - w.1.1) * ((s.2.1 - s.1.1) * y - aK s x)+((w.2.1 - w.1.1) * aK s x - (s.2.1 - s.1.1) * aK w x):=by grind
   exact aw (show 0 < s.2.1 - s.1.1 by omega) (by omega)
  ·have m:=eM t w x
   obtain ⟨c1,c2⟩:=gj h3 ht hw
   have p1:=Int.mul_nonneg (show 0≤x - t.2.1 by omega) c1
   have p2:=Int.mul_nonneg (show 0≤t.1.1 - x by omega) c2
   have p3:=Int.mul_nonneg (show 0≤-(w.2.1 - w.1.1) by omega) htop
   have n1:(t.2.1 - x) * ae w.1 w.2 t.1=-((x - t.2.1) * ae w.1 w.2 t.1):=by grind
   have n2:(x - t.1.1) * ae w.1 w.2 t.2=-((t.1.1 - x) * ae w.1 w.2 t.2):=by grind
   have e:(t.1.1 - t.2.1) * ((w.2.1 - w.1.1) * y - aK w x)=-(w.2.1 - w.1.1) * ((t.2.1 - t.1.1) * y - aK t x) - ((w.2.1 - w.1.1) * aK t x - (t.2.1 - t.1.1) * aK w x):=by grind
   exact aw (show 0 < t.1.1 - t.2.1 by omega) (by omega)
theorem wg {s t:P2×P2} (hs:s∈sdl (aj l)) (ht:t∈sdl (aj l)) {x:Int} (h1:s.1.1≤x) (h2:x < s.2.1) (k1:t.2.1≤x) (k2:x < t.1.1):-((-(aK s x)) / (s.2.1 - s.1.1))≤(-(aK t x)) / (t.1.1 - t.2.1)+1:=by
 have m:=eM t s x
 obtain ⟨c1,c2⟩:=gj h3 ht hs
 have p1:=Int.mul_nonneg (show 0≤x - t.2.1 by omega) c1
 have p2:=Int.mul_nonneg (show 0≤t.1.1 - x by omega) c2
 have n1:(t.2.1 - x) * ae s.1 s.2 t.1=-((x - t.2.1) * ae s.1 s.2 t.1):=by grind
 have n2:(x - t.1.1) * ae s.1 s.2 t.2=-((t.1.1 - x) * ae s.1 s.2 t.2):=by grind
 have r1:0 < s.2.1 - s.1.1:=by omega
 have r2:0 < t.1.1 - t.2.1:=by omega
 have f1:=Int.lt_ediv_add_one_mul_self (-(aK s x)) r1
 have f2:=Int.lt_ediv_add_one_mul_self (-(aK t x)) r2
 have n3:(t.2.1 - t.1.1) * aK s x=-((t.1.1 - t.2.1) * aK s x):=by grind
 generalize (-(aK s x)) / (s.2.1 - s.1.1)=q at *
 generalize (-(aK t x)) / (t.1.1 - t.2.1)=w at *
 generalize s.2.1 - s.1.1=a at *
 generalize t.1.1 - t.2.1=b at *
 have g:a * -(aK t x) - b * aK s x ≥ 0:=by
  have:a * -(aK t x)=-(a * aK t x):=by grind
  omega
 rcases Int.lt_or_le (w+1) (-q) with z | z
 ·exfalso
  have y1:b * (-(aK s x)) < b * ((q+1) * a):=Int.mul_lt_mul_of_pos_left f1 r2
  have y2:a * (-(aK t x)) < a * ((w+1) * b):=Int.mul_lt_mul_of_pos_left f2 r1
  have y3:0≤(a * b) * (-q - 1 - (w+1)):=Int.mul_nonneg (Int.mul_nonneg (by omega) (by omega)) (by omega)
  have e1:b * (-(aK s x))=-(b * aK s x):=by grind
  have e2:(a * b) * (-q - 1 - (w+1))=-(b * ((q+1) * a)) - a * ((w+1) * b):=by grind
  omega
 ·exact z
theorem uv {x y:Int} (h:bJ (aj l) (x,y)=true):(x,y)∈box (aj l):=gw h3 ((gi h3 _).mp h)
theorem qX {x:Int} (hl:loX (aj l)≤x) (hh:x < hiX (aj l)):((sdl (aj l)).map fun s=> dM s x).sum=jR (aj l) x:=by
 obtain ⟨s,hs,t,ht,⟨h1,h2⟩,k1,k2⟩:=rZ h3 hl hh
 have nd:=tj (aW l)
 have e1:((sdl (aj l)).map fun s=> jw s x).sum=(-(aK s x)) / (s.2.1 - s.1.1):=by
  rw [m_ nd hs fun w hw hne=> ?_]
  ·unfold jw; rw [if_pos ⟨h1,h2⟩]
  ·unfold jw
   rw [if_neg fun ⟨a,b⟩=> hne (vS h3 hw hs a b h1 h2)]
 have e2:((sdl (aj l)).map fun s=> je s x).sum=(-(aK t x)) / (t.1.1 - t.2.1)+1:=by
  rw [m_ nd ht fun w hw hne=> ?_]
  ·unfold je; rw [if_pos ⟨k1,k2⟩]
  ·unfold je
   rw [if_neg fun ⟨a,b⟩=> hne (wW h3 hw ht a b k1 k2)]
 unfold dM
 rw [gu,e1,e2]
 unfold jR
 have hne:aj l≠[]:=fun e=> by rw [e] at h3; simp at h3
 have:=lz (lo:=loY (aj l)) (m:=byN (aj l)) (lP h3 hs ht h1 h2 k1 k2) (fun hbt=> by
  have b1:=(ck hne).mp (uv h3 ((lP h3 hs ht h1 h2 k1 k2 _).mpr ⟨Int.le_refl _,hbt⟩))
  have b2:=(ck hne).mp (uv h3 ((lP h3 hs ht h1 h2 k1 k2 _).mpr ⟨hbt,Int.le_refl _⟩))
  unfold byN
  dsimp only at b1 b2
  omega) (wg h3 hs ht h1 h2 k1 k2)
 rw [this]; omega
end
theorem qu {l:List P2} {x:Int} (h:x < loX l∨hiX l≤x):((sdl l).map fun s=> dM s x).sum=0:=by
 refine sum_nil fun s hs=> ?_
 have hne:l≠[]:=fun e=> by subst e; simp [sdl] at hs
 have hx:l.map (·.1)≠[]:=by simpa using hne
 have a1:=(bY hx).2 s.1.1 (List.mem_map_of_mem (aL hs).1)
 have a2:=(bY hx).2 s.2.1 (List.mem_map_of_mem (aL hs).2)
 have a3:=(cu hx).2 s.1.1 (List.mem_map_of_mem (aL hs).1)
 have a4:=(cu hx).2 s.2.1 (List.mem_map_of_mem (aL hs).2)
 unfold loX hiX at h
 unfold dM jw je
 rw [if_neg (by omega),if_neg (by omega)]; rfl
def hts (l:List P2):List Int:=(l.filter fun p=> decide (p.1=hiX l)).map (·.2)
theorem oI {l:List P2} (hne:l≠[]):hts l≠[]:=by
 have hx:l.map (·.1)≠[]:=by simpa using hne
 obtain ⟨q,hq,e⟩:=List.mem_map.mp (cu hx).1
 intro h
 have:q.2∈hts l:=List.mem_map_of_mem (List.mem_filter.mpr ⟨hq,by unfold hiX; simpa using e⟩)
 rw [h] at this
 simp at this
theorem iO {l:List P2} {y:Int}:y∈hts l↔(hiX l,y)∈l:=by
 unfold hts
 rw [List.mem_map]
 constructor
 ·rintro ⟨p,hp,rfl⟩
  obtain ⟨h1,h2⟩:=List.mem_filter.mp hp
  rw [← of_decide_eq_true h2]; exact h1
 ·intro h
  exact ⟨(hiX l,y),List.mem_filter.mpr ⟨h,by simp⟩,rfl⟩
theorem vp {l:List P2} {p:P2} (hp:p∈l):p.1≤hiX l:=(cu (by intro e; rw [List.map_eq_nil_iff.mp e] at hp; simp at hp)).2 _ (List.mem_map_of_mem hp)
theorem oX {l:List P2} (h3:3≤(aj l).length) (y:Int):bJ (aj l) (hiX (aj l),y)=true↔gH (hts (aj l))≤y∧y≤hiL (hts (aj l)):=by
 have hne:aj l≠[]:=fun e=> by rw [e] at h3; simp at h3
 have hn:=oI hne
 obtain ⟨l1,l2⟩:=bY hn
 obtain ⟨g1,g2⟩:=cu hn
 rw [gi h3]
 constructor
 ·intro h
  have hy:(aj l).map (·.2)≠[]:=by simpa using hne
  have key:∀ b:Int,(b=1∨b=-1)→∃ z∈hts (aj l),b * y≤b * z:=fun b hb=> by
   have pk:=zC h3 (1+(hiY (aj l) - loY (aj l))) b h
   obtain ⟨⟨c,hc,ec⟩,_⟩:=kM (1+(hiY (aj l) - loY (aj l))) b hne
   rw [← ec] at pk
   unfold wth at pk
   dsimp only at pk
   have cy1:=(bY hy).2 c.2 (List.mem_map_of_mem hc)
   have cy2:=(cu hy).2 c.2 (List.mem_map_of_mem hc)
   have cx:=vp hc
   have top:=iO.mp g1
   have ty1:=(bY hy).2 _ (List.mem_map_of_mem top)
   have ty2:=(cu hy).2 _ (List.mem_map_of_mem top)
   have hw:=(kM (1+(hiY (aj l) - loY (aj l))) b hne).2 _ top
   rw [← ec] at hw
   unfold wth at hw
   dsimp only at hw ty1 ty2
   have ex:c.1=hiX (aj l):=by
    rcases Int.lt_or_eq_of_le cx with z | z
    ·exfalso
     have hN:1≤1+(hiY (aj l) - loY (aj l)):=by unfold hiY loY; omega
     have m:(1+(hiY (aj l) - loY (aj l))) * 1≤(1+(hiY (aj l) - loY (aj l))) * (hiX (aj l) - c.1):=Int.mul_le_mul_of_nonneg_left (by omega) (by omega)
     have e:(1+(hiY (aj l) - loY (aj l))) * (hiX (aj l) - c.1)=(1+(hiY (aj l) - loY (aj l))) * hiX (aj l) - (1+(hiY (aj l) - loY (aj l))) * c.1:=by grind
     rw [Int.mul_one] at m
     unfold hiY loY at *
     rcases hb with rfl | rfl <;> omega
    ·exact z
   refine ⟨c.2,iO.mpr (by rw [← ex]; exact hc),?_⟩
   rw [ex] at pk
   omega
  obtain ⟨u,hu,ku⟩:=key 1 (.inl rfl)
  obtain ⟨v,hv,kv⟩:=key (-1) (.inr rfl)
  have:=g2 u hu
  have:=l2 v hv
  omega
 ·rintro ⟨h1,h2⟩ s hs
  have c1:=bj h3 hs _ (aB _ _ (iO.mp l1))
  have c2:=bj h3 hs _ (aB _ _ (iO.mp g1))
  rw [gW] at c1 c2 ⊢
  by_cases hd:0≤s.2.1 - s.1.1
  ·have:=Int.mul_nonneg hd (show 0≤y - gH (hts (aj l)) by omega)
   have e:(s.2.1 - s.1.1) * (y - gH (hts (aj l)))=(s.2.1 - s.1.1) * y - (s.2.1 - s.1.1) * gH (hts (aj l)):=by grind
   omega
  ·have:=Int.mul_nonneg (show 0≤-(s.2.1 - s.1.1) by omega) (show 0≤hiL (hts (aj l)) - y by omega)
   have e:-(s.2.1 - s.1.1) * (hiL (hts (aj l)) - y)=(s.2.1 - s.1.1) * y - (s.2.1 - s.1.1) * hiL (hts (aj l)):=by grind
   omega
theorem zU {A B:P2} (h:ST.ltP A B=true):A.1 < B.1∨(A.1=B.1∧A.2 < B.2):=by
 unfold ST.ltP at h
 exact of_decide_eq_true h
theorem oF {A B:P2} (h:ST.ltP A B=true):loX [A,B]=A.1∧hiX [A,B]=B.1∧loY [A,B]=min A.2 B.2∧hiY [A,B]=max A.2 B.2:=by
 have:=zU h
 exact ⟨(by show min A.1 B.1=A.1; omega),(by show max A.1 B.1=B.1; omega),rfl,rfl⟩
theorem lS {A B:P2} (h:ST.ltP A B=true) {p:P2} (hp:bJ [A,B] p=true):p∈box [A,B]:=by
 have:=(kR A B p).mp hp
 exact ((iR h).mpr ((lF h).mp this)).1
theorem wo {A B:P2} (h:ST.ltP A B=true) {x:Int} (hl:A.1≤x) (hh:x < B.1):((sdl [A,B]).map fun s=> dM s x).sum=jR [A,B] x:=by
 have e:aK (B,A) x=-(aK (A,B) x):=by unfold aK; dsimp only; grind
 have v1:dM (A,B) x=(-(aK (A,B) x)) / (B.1 - A.1):=by
  unfold dM jw je
  dsimp only
  rw [if_pos ⟨hl,hh⟩,if_neg (by omega)]; omega
 have v2:dM (B,A) x=aK (A,B) x / (B.1 - A.1)+1:=by
  unfold dM jw je
  dsimp only
  rw [if_neg (by omega),if_pos ⟨hl,hh⟩,e,Int.neg_neg]; omega
 rw [kY]
 show dM (A,B) x+(dM (B,A) x+0)=_
 rw [v1,v2]
 have dc:∀ y,ae A B (x,y)=(B.1 - A.1) * y - aK (A,B) x:=fun y=> gW (A,B) x y
 have hr:0 < B.1 - A.1:=by omega
 have iff:∀ y,bJ [A,B] (x,y)=true↔-((-(aK (A,B) x)) / (B.1 - A.1))≤y∧y≤aK (A,B) x / (B.1 - A.1):=fun y=> by
  rw [kR,dc]
  have a1:=Int.le_ediv_iff_mul_le (a:=-y) (b:=-(aK (A,B) x)) hr
  have a2:=Int.le_ediv_iff_mul_le (a:=y) (b:=aK (A,B) x) hr
  have e1:-y * (B.1 - A.1)=-((B.1 - A.1) * y):=by grind
  have e2:y * (B.1 - A.1)=(B.1 - A.1) * y:=by grind
  rw [e1] at a1
  rw [e2] at a2
  unfold ST.leP
  rw [decide_eq_true_eq,decide_eq_true_eq]
  dsimp only
  constructor
  ·rintro ⟨d,_,_⟩; omega
  ·rintro ⟨b1,b2⟩
   have d:(B.1 - A.1) * y - aK (A,B) x=0:=by omega
   refine ⟨d,?_,.inl hh⟩
   rcases Int.lt_or_eq_of_le hl with z | z
   ·exact .inl z
   ·refine .inr ⟨z,?_⟩
    have:aK (A,B) x=(B.1 - A.1) * A.2:=by unfold aK; rw [← z]; dsimp only; grind
    rw [this] at d
    have d':(B.1 - A.1) * (y - A.2)=0:=by grind
    have:=(Int.mul_eq_zero.mp d').resolve_left (by omega)
    omega
 have ord:-((-(aK (A,B) x)) / (B.1 - A.1))≤aK (A,B) x / (B.1 - A.1)+1:=by
  have f1:=Int.lt_ediv_add_one_mul_self (-(aK (A,B) x)) hr
  have f2:=Int.lt_ediv_add_one_mul_self (aK (A,B) x) hr
  generalize (-(aK (A,B) x)) / (B.1 - A.1)=q at *
  generalize aK (A,B) x / (B.1 - A.1)=w at *
  rcases Int.lt_or_le (w+1) (-q) with z | z
  ·exfalso
   have y3:0≤(B.1 - A.1) * (-q - 1 - (w+1)):=Int.mul_nonneg (by omega) (by omega)
   have e2:(B.1 - A.1) * (-q - 1 - (w+1))=-((q+1) * (B.1 - A.1)) - (w+1) * (B.1 - A.1):=by grind
   omega
  ·exact z
 have bx:=oF h
 have:=lz (lo:=loY [A,B]) (m:=byN [A,B]) iff (fun hbt=> by
  have b1:=(ck (by simp)).mp (lS h ((iff _).mpr ⟨Int.le_refl _,hbt⟩))
  have b2:=(ck (by simp)).mp (lS h ((iff _).mpr ⟨hbt,Int.le_refl _⟩))
  unfold byN
  dsimp only at b1 b2
  omega) ord
 unfold jR
 rw [this]; omega
theorem sW {A B:P2} (h:ST.ltP A B=true) (y:Int):bJ [A,B] (hiX [A,B],y)=true↔gH (hts [A,B])≤y∧y≤hiL (hts [A,B]):=by
 have bx:=oF h
 have lt:=zU h
 rw [kR,bx.2.1]
 by_cases e:A.1=B.1
 ·have ht:hts [A,B]=[A.2,B.2]:=by
   unfold hts
   rw [bx.2.1,List.filter_cons_of_pos (by simpa using e),List.filter_cons_of_pos (by simp)]; rfl
  rw [ht]
  show _↔min A.2 B.2≤y∧y≤max A.2 B.2
  unfold ST.leP ae
  rw [decide_eq_true_eq,decide_eq_true_eq,e]
  simp
  omega
 ·have ht:hts [A,B]=[B.2]:=by
   unfold hts
   rw [bx.2.1,List.filter_cons_of_neg (by simpa using e),List.filter_cons_of_pos (by simp)]; rfl
  rw [ht]
  show _↔B.2≤y∧y≤B.2
  unfold ST.leP
  rw [decide_eq_true_eq,decide_eq_true_eq]
  dsimp only
  have d:ae A B (B.1,y)=(B.1 - A.1) * (y - B.2):=by unfold ae; grind
  rw [d]
  constructor
  ·rintro ⟨k,_,_⟩
   have:=(Int.mul_eq_zero.mp k).resolve_left (by omega)
   omega
  ·intro k
   have:y - B.2=0:=by omega
   rw [this]
   simp
   omega
structure Fld (l:List P2):Prop where
 ne:l≠[]
 cr:aj l=l
theorem Fld.cases {l:List P2} (F:Fld l):(∃ A,l=[A])∨(∃ A B,l=[A,B]∧ST.ltP A B=true)∨3≤(aj l).length:=by
 match l,F with
 | [],F=> exact absurd rfl F.ne
 | [A],_=> exact .inl ⟨A,rfl⟩
 | [A,B],F=> exact .inr (.inl ⟨A,B,rfl,r8 F.cr⟩)
 | A::B::C::r,F=> exact .inr (.inr (by rw [F.cr]; simp))
theorem Fld.in_box {l:List P2} (F:Fld l) {p:P2} (h:bJ l p=true):p∈box l:=by
 rcases F.cases with ⟨A,rfl⟩ | ⟨A,B,rfl,lt⟩ | h3
 ·rw [(i0 A p).mp h,qq]; simp
 ·exact lS lt h
 ·rw [← F.cr] at h ⊢
  exact gw h3 ((gi h3 p).mp h)
theorem Fld.last {l:List P2} (F:Fld l) (y:Int):bJ l (hiX l,y)=true↔gH (hts l)≤y∧y≤hiL (hts l):=by
 rcases F.cases with ⟨A,rfl⟩ | ⟨A,B,rfl,lt⟩ | h3
 ·have hx:hiX [A]=A.1:=rfl
  have ht:hts [A]=[A.2]:=by
   unfold hts
   rw [hx,List.filter_cons_of_pos (by simp)]; rfl
  rw [i0,hx,ht]
  show _↔A.2≤y∧y≤A.2
  constructor
  ·intro e; have:y=A.2:=congrArg Prod.snd e; omega
  ·intro e; exact Prod.ext rfl (by dsimp only; omega)
 ·exact sW lt y
 ·have:=oX h3 y
  rw [F.cr] at this
  exact this
theorem Fld.colc_last {l:List P2} (F:Fld l):jR l (hiX l)=hiL (hts l) - gH (hts l)+1:=by
 have hn:=oI F.ne
 have o:=(cu hn).2 _ (bY hn).1
 unfold jR
 refine lz F.last (fun hbt=> ?_) (by omega)
 have b1:=(ck F.ne).mp (F.in_box ((F.last _).mpr ⟨Int.le_refl _,hbt⟩))
 have b2:=(ck F.ne).mp (F.in_box ((F.last _).mpr ⟨hbt,Int.le_refl _⟩))
 unfold byN
 dsimp only at b1 b2
 omega
theorem Fld.colc_out {l:List P2} (F:Fld l) {x:Int} (h:x < loX l∨hiX l < x):jR l x=0:=by
 unfold jR
 have:(bv (loY l) (byN l)).filter (fun y=> bJ l (x,y))=[]:=List.filter_eq_nil_iff.mpr fun y _ k=> by
  have:=(ck F.ne).mp (F.in_box k)
  dsimp only at this
  omega
 rw [this]; rfl
theorem Fld.col {l:List P2} (F:Fld l) {x:Int} (h1:loX l≤x) (h2:x < hiX l):((sdl l).map fun s=> dM s x).sum=jR l x:=by
 rcases F.cases with ⟨A,rfl⟩ | ⟨A,B,rfl,lt⟩ | h3
 ·have:loX [A]=A.1:=rfl
  have:hiX [A]=A.1:=rfl
  omega
 ·have bx:=oF lt
  exact wo lt (by omega) (by omega)
 ·have:=qX (l:=l) h3 (x:=x)
  rw [F.cr] at this
  exact this h1 h2
def nC (l:List P2) (left right:Int):Int:=if hiX l < left∨right < hiX l then 0 else hiL (hts l) - gH (hts l)+1
def my (l:List P2) (left right:Int):Int:=((sdl l).map (im left right)).sum+nC l left right
theorem Fld.cols {l:List P2} (F:Fld l) (left right:Int):my l left right=((bv left (right+1 - left).toNat).map (jR l)).sum:=by
 unfold my
 have e1:(sdl l).map (im left right)=(sdl l).map fun s=> ((bv left (right+1 - left).toNat).map (dM s)).sum:=List.map_congr_left fun s _=> qN left right s
 rw [e1,tV]
 have e2:nC l left right=((bv left (right+1 - left).toNat).map fun x=> if x=hiX l then hiL (hts l) - gH (hts l)+1 else 0).sum:=by
  unfold nC
  by_cases h:hiX l < left∨right < hiX l
  ·rw [if_pos h]
   refine (sum_nil fun x hx=> ?_).symm
   have:=bA.mp hx
   rw [if_neg (by omega)]
  ·rw [if_neg h,pV (p:=hiX l) (m:=1) (by omega) (by omega) fun x _ _ hx=> if_neg (by omega)]
   have e:bv (hiX l) 1=[hiX l]:=by unfold bv; simp
   rw [e]
   simp
 rw [e2,← gu]
 congr 1
 refine List.map_congr_left fun x _=> ?_
 by_cases h1:x < loX l
 ·rw [qu (.inl h1),F.colc_out (.inl h1),if_neg]
  ·rfl
  ·intro e
   have hx:l.map (·.1)≠[]:=by simpa using F.ne
   have:=(bY hx).2 _ (cu hx).1
   unfold loX at h1
   unfold hiX at e
   omega
 ·by_cases h2:x < hiX l
  ·rw [F.col (by omega) h2,if_neg (by omega)]; omega
  ·rw [qu (.inr (by omega))]
   by_cases h3:x=hiX l
   ·rw [if_pos h3,h3,F.colc_last]; omega
   ·rw [if_neg h3,F.colc_out (.inr (by omega))]; rfl
def nu (l:List P2) (x:Int):List Int:=(bv (loY l) (byN l)).filter fun y=> bJ l (x,y)
theorem kg {l:List P2} (F:Fld l) {x y:Int}:y∈nu l x↔bJ l (x,y)=true:=by
 unfold nu
 rw [List.mem_filter,bA]
 constructor
 ·exact fun h=> h.2
 ·intro h
  have b:=(ck F.ne).mp (F.in_box h)
  dsimp only at b
  unfold byN
  exact ⟨by omega,h⟩
theorem sG (l:List P2) (x:Int):(nu l x).Nodup:=List.Pairwise.filter _ (fG _ _)
def shf (s a b:Int) (p:P2):P2:=(p.1+a,p.2+s * p.1+b)
theorem xg (s a b:Int) (p q:P2) (h:plt p q):plt (shf s a b p) (shf s a b q):=by
 unfold plt shf at *
 dsimp only
 rcases h with h | ⟨h,k⟩
 ·left; omega
 ·right; rw [h]; omega
theorem ll (s a b:Int) (p q r:P2):ae (shf s a b p) (shf s a b q) (shf s a b r)=ae p q r:=by unfold ae shf; grind
theorem wk {s a b:Int} {p q:P2} (e:shf s a b p=shf s a b q):p=q:=by
 have e1:p.1+a=q.1+a:=congrArg Prod.fst e
 have e2:p.2+s * p.1+b=q.2+s * q.1+b:=congrArg Prod.snd e
 have e1:p.1=q.1:=by omega
 rw [e1] at e2
 exact Prod.ext e1 (by omega)
theorem uZ (s a b:Int) (l:List P2):aj (l.map (shf s a b))=(aj l).map (shf s a b):=uD (xg s a b) (fun p q r=> by rw [ll]) l
theorem pN (s a b:Int) (p q:P2):ST.leP (shf s a b p) (shf s a b q)=ST.leP p q:=by
 unfold ST.leP shf
 dsimp only
 rw [Bool.eq_iff_iff,decide_eq_true_eq,decide_eq_true_eq]
 constructor
 ·rintro (h | ⟨h,k⟩)
  ·left; omega
  ·right
   have:p.1=q.1:=by omega
   rw [this] at k
   omega
 ·rintro (h | ⟨h,k⟩)
  ·left; omega
  ·right; rw [h]; omega
theorem oV {f:P2→P2} {l:List P2} {i:Nat} (h:i < l.length):gp (l.map f) i=f (gp l i):=by simp [gp,h]
theorem yr (s a b:Int) (l:List P2) (hne:l≠[]) (p:P2):bJ (l.map (shf s a b)) (shf s a b p)=bJ l p:=by
 have h0:0 < l.length:=List.length_pos_iff.mpr hne
 unfold bJ
 rw [List.length_map]
 by_cases h1:l.length=1
 ·rw [if_pos h1,if_pos h1,oV h0]
  exact decide_eq_decide.mpr ⟨wk,fun e=> by rw [e]⟩
 ·rw [if_neg h1,if_neg h1]
  by_cases h2:l.length=2
  ·rw [if_pos h2,if_pos h2,oV h0,oV (show 1 < l.length by omega),ll,pN,pN]
  ·rw [if_neg h2,if_neg h2,wN,List.all_map]
   congr 1
   funext t
   show decide (0≤ae (shf s a b t.1) (shf s a b t.2) (shf s a b p))=_
   rw [ll]
theorem rn {pts:List P2} (hne:pts≠[]):∃ mn mx,(aj pts)[0]?=some mn∧mn∈pts∧mx∈pts∧(∀ q∈pts,ST.ltP q mn=false)∧(∀ q∈pts,ST.ltP mx q=false)∧(¬ 2 < (aj pts).length→(aj pts)[(aj pts).length - 1]?=some mx):=by
 have no:∀ {a b:P2},(a=b∨plt a b)→ST.ltP b a=false:=fun {a b} h=> by
  rw [ST.ltP_no]
  rcases h with rfl | h
  ·omega
  ·unfold plt at h; omega
 by_cases h2:2≤(ST.srt pts).length
 ·have hs:=du pts
  obtain ⟨mn,mx,W⟩:=zw hs h2
  have hc:aj pts=(ak (ST.srt pts)).reverse.dropLast++(ak (ST.srt pts).reverse).reverse.dropLast:=by
   unfold aj; rw [if_neg (by omega)]
  have memT:mn∈ST.srt pts:=bH _ _ (List.mem_reverse.mp (List.mem_of_getElem? W.t0))
  have memX:mx∈ST.srt pts:=bH _ _ (List.mem_reverse.mp (List.mem_of_getElem? W.t1))
  refine ⟨mn,mx,?_,(ST.srt_mem _ _).mp memT,(ST.srt_mem _ _).mp memX,fun q hq=> no ((W.least q ((ST.srt_mem _ _).mpr hq)).imp (fun e=> e.symm) id),fun q hq=> no (W.most q ((ST.srt_mem _ _).mpr hq)),fun h=> ?_⟩
  ·have:=dG W (k:=0) (by omega)
   rw [Nat.zero_mod] at this
   rw [hc,this]; exact W.t0
  ·rw [hc] at h ⊢
   have h1:=W.lt
   have h3:=W.lb
   have hn:((ak (ST.srt pts)).reverse.dropLast++(ak (ST.srt pts).reverse).reverse.dropLast).length=(ak (ST.srt pts)).reverse.length - 1+((ak (ST.srt pts).reverse).reverse.length - 1):=by simp
   have:=dG W (k:=(ak (ST.srt pts)).reverse.length - 1) (Nat.le_refl _)
   rw [W.t1,Nat.mod_eq_of_lt (by omega)] at this
   rw [← this]; congr 1; omega
 ·have h1:(ST.srt pts).length=1:=by
   obtain ⟨x,hx⟩:=List.exists_mem_of_ne_nil pts hne
   have:=List.length_pos_of_mem ((ST.srt_mem x pts).mpr hx)
   omega
  obtain ⟨x,hx⟩:=List.length_eq_one_iff.mp h1
  have all:∀ q∈pts,q=x:=fun q hq=> by have:=(ST.srt_mem q pts).mpr hq; rw [hx] at this; simpa using this
  have mx:x∈pts:=(ST.srt_mem _ _).mp (by rw [hx]; simp)
  rw [eE h2,hx]
  exact ⟨x,x,rfl,mx,mx,fun q hq=> no (.inl (all q hq).symm),fun q hq=> no (.inl (all q hq)),fun _=> rfl⟩
theorem pi {f:P2→P2} {d:Int} (L:Lin f d) (A B:P2):gst (f A,f B)=gst (A,B):=by
 have:=vT L (A,B)
 unfold sdf at this
 split at this
 ·exact this
 ·rw [← d9]; exact this
theorem u6 {f:P2→P2} {d:Int} (L:Lin f d) {A B:P2} (h:A≠B) (k:Int):onS (f A,f B) k=f (onS (A,B) k):=by
 have g0:0 < gst (A,B):=bW h
 have e1:=e9 (A,B)
 have e2:=ft (A,B)
 have eg:=pi L A B
 obtain ⟨a,b,c,e,_,hf⟩:=L.ex
 have u1:ub (f A,f B)=a * ub (A,B)+b * vb (A,B):=by
  unfold ub
  rw [eg]
  dsimp only at *
  rw [hf,hf]
  dsimp only
  rw [show a * B.1+b * B.2 - (a * A.1+b * A.2)=gst (A,B) * (a * ub (A,B)+b * vb (A,B)) by
   have:a * B.1+b * B.2 - (a * A.1+b * A.2)=a * (B.1 - A.1)+b * (B.2 - A.2):=by grind
   rw [this,e1,e2]; grind]
  rw [Int.mul_ediv_cancel_left _ (by omega)]
  rfl
 have v1:vb (f A,f B)=c * ub (A,B)+e * vb (A,B):=by
  unfold vb
  rw [eg]
  dsimp only at *
  rw [hf,hf]
  dsimp only
  rw [show c * B.1+e * B.2 - (c * A.1+e * A.2)=gst (A,B) * (c * ub (A,B)+e * vb (A,B)) by
   have:c * B.1+e * B.2 - (c * A.1+e * A.2)=c * (B.1 - A.1)+e * (B.2 - A.2):=by grind
   rw [this,e1,e2]; grind]
  rw [Int.mul_ediv_cancel_left _ (by omega)]
  rfl
 unfold onS
 rw [u1,v1]
 dsimp only
 rw [hf,hf]
 dsimp only
 exact Prod.ext (by dsimp only; grind) (by dsimp only; grind)
theorem wa {A B:P2} (h:A≠B) (k:Int):onS (B,A) k=onS (A,B) (gst (A,B) - k):=by
 have e1:=e9 (A,B)
 have e2:=ft (A,B)
 have e3:=e9 (B,A)
 have e4:=ft (B,A)
 have g0:0 < gst (A,B):=bW h
 rw [d9] at e3 e4
 dsimp only at *
 have u:ub (B,A)=-ub (A,B):=Int.eq_of_mul_eq_mul_left (a:=gst (A,B)) (by omega) (by rw [Int.mul_neg]; omega)
 have v:vb (B,A)=-vb (A,B):=Int.eq_of_mul_eq_mul_left (a:=gst (A,B)) (by omega) (by rw [Int.mul_neg]; omega)
 unfold onS
 rw [u,v]
 dsimp only
 exact Prod.ext (by dsimp only; grind) (by dsimp only; grind)
def mh (A B p:P2):Prop:=∃ k:Int,0≤k∧k≤gst (A,B)∧p=onS (A,B) k
theorem uO {A B:P2} (h:A≠B) (p:P2):mh B A p↔mh A B p:=by
 have key:∀ {A B:P2},A≠B→mh B A p→mh A B p:=fun {A B} h ⟨k,k0,k1,e⟩=> by
  rw [d9] at k1
  exact ⟨gst (A,B) - k,by omega,by omega,by rw [e,wa h]⟩
 exact ⟨key h,key h.symm⟩
theorem w8 {f:P2→P2} {d:Int} (L:Lin f d) {A B:P2} (h:A≠B) (p:P2):mh (f A) (f B) (f p)↔mh A B p:=by
 unfold mh
 rw [pi L]
 constructor
 ·rintro ⟨k,k0,k1,e⟩
  exact ⟨k,k0,k1,L.inj (by rw [e,u6 L h])⟩
 ·rintro ⟨k,k0,k1,e⟩
  exact ⟨k,k0,k1,by rw [e,u6 L h]⟩
theorem lR {A B:P2} (h:ST.ltP A B=true) (p:P2):bJ [A,B] p=true↔mh A B p:=by rw [kR,lF h]; rfl
theorem oZ {A B:P2} (h:A≠B):(ST.ltP A B=true∧aj [A,B]=[A,B])∨(ST.ltP B A=true∧aj [A,B]=[B,A]):=by
 by_cases hl:ST.ltP A B=true
 ·exact .inl ⟨hl,kh hl⟩
 ·have hb:=ST.ltP_tot h (by simpa using hl)
  refine .inr ⟨hb,?_⟩
  rw [o9 (qL (m:=[B,A]) fun z=> by simp [or_comm]),kh hb]
theorem yB {f:P2→P2} {d:Int} (L:Lin f d) {l:List P2} (F:Fld l) (p:P2):bJ (aj (l.map f)) (f p)=bJ l p:=by
 rw [Bool.eq_iff_iff]
 rcases F.cases with ⟨A,rfl⟩ | ⟨A,B,rfl,lt⟩ | h3
 ·have e:aj ([A].map f)=[f A]:=rfl
  rw [e,i0,i0]
  exact ⟨fun h=> L.inj h,fun h=> by rw [h]⟩
 ·have ne:A≠B:=fun e=> by rw [e,ST.asc_irr] at lt; cases lt
  have ne':f A≠f B:=fun e=> ne (L.inj e)
  rw [lR lt,← w8 L ne]
  show bJ (aj [f A,f B]) (f p)=true↔_
  rcases oZ ne' with ⟨h,e⟩ | ⟨h,e⟩
  ·rw [e,lR h]
  ·rw [e,lR h,uO ne']
 ·have l3:=g5 L h3
  have h3':3≤l.length:=by rw [← F.cr]; exact h3
  rw [gi l3,gi h3']
  constructor
  ·intro h s hs
   have:=h _ ((uH L h3 _).mpr ⟨s,by rw [F.cr]; exact hs,rfl⟩)
   unfold sdf at this
   rcases L.one with e | e
   ·rw [if_pos e] at this
    dsimp only at this
    rw [L.det,e,Int.one_mul] at this
    exact this
   ·rw [if_neg (by omega)] at this
    dsimp only at this
    rw [L.det,e] at this
    have sw:ae s.2 s.1 p=-ae s.1 s.2 p:=by unfold ae; grind
    omega
  ·intro h t ht
   obtain ⟨s,hs,rfl⟩:=(uH L h3 t).mp ht
   have k:=h s (by rw [F.cr] at hs; exact hs)
   unfold sdf
   rcases L.one with e | e
   ·rw [if_pos e]
    dsimp only
    rw [L.det,e,Int.one_mul]; exact k
   ·rw [if_neg (by omega)]
    dsimp only
    rw [L.det,e]
    have sw:ae s.2 s.1 p=-ae s.1 s.2 p:=by unfold ae; grind
    omega
theorem vf {a b c d:Int} (h:a * d - b * c=1∨a * d - b * c=-1):Lin (fun p:P2=> (a * p.1+b * p.2,c * p.1+d * p.2)) (a * d - b * c):=⟨h,a,b,c,d,rfl,fun _=> rfl⟩
theorem uu (a b c d e f:Int) (l:List P2):l.map (ap a b c d e f)=(l.map fun p:P2=> (a * p.1+b * p.2,c * p.1+d * p.2)).map (shf 0 e f):=by
 rw [List.map_map]
 refine List.map_congr_left fun p _=> ?_
 unfold ap shf
 exact Prod.ext rfl (by dsimp only [Function.comp]; omega)
theorem xV {a b c d:Int} (e f:Int) (h:a * d - b * c=1∨a * d - b * c=-1) {l:List P2} (F:Fld l) (p:P2):bJ (aj (l.map (ap a b c d e f))) (ap a b c d e f p)=bJ l p:=by
 rw [uu,uZ]
 have hp:ap a b c d e f p=shf 0 e f (a * p.1+b * p.2,c * p.1+d * p.2):=by
  unfold ap shf
  exact Prod.ext rfl (by dsimp only; omega)
 rw [hp,yr _ _ _ _ (iI (by simpa using F.ne))]
 exact yB (vf h) F p
theorem kT {a b c d:Int} (e f:Int) {l:List P2} (F:Fld l):Fld (aj (l.map (ap a b c d e f))):=⟨iI (by simpa using F.ne),kG _⟩
theorem yQ {a b c d e f:Int} (h:a * d - b * c=1∨a * d - b * c=-1) {p q:P2} (k:ap a b c d e f p=ap a b c d e f q):p=q:=by
 refine (vf h).inj ?_
 have e1:a * p.1+b * p.2+e=a * q.1+b * q.2+e:=congrArg Prod.fst k
 have e2:c * p.1+d * p.2+f=c * q.1+d * q.2+f:=congrArg Prod.snd k
 exact Prod.ext (by dsimp only; omega) (by dsimp only; omega)
theorem yC {a b c d e f:Int} (h:a * d - b * c=1∨a * d - b * c=-1) (q:P2):∃ p,ap a b c d e f p=q:=by
 rcases h with h | h
 ·refine ⟨(d * (q.1 - e) - b * (q.2 - f),a * (q.2 - f) - c * (q.1 - e)),?_⟩
  unfold ap
  refine Prod.ext ?_ ?_
  ·dsimp only
   have:a * (d * (q.1 - e) - b * (q.2 - f))+b * (a * (q.2 - f) - c * (q.1 - e))=(a * d - b * c) * (q.1 - e):=by grind
   rw [this,h]; omega
  ·dsimp only
   have:c * (d * (q.1 - e) - b * (q.2 - f))+d * (a * (q.2 - f) - c * (q.1 - e))=(a * d - b * c) * (q.2 - f):=by grind
   rw [this,h]; omega
 ·refine ⟨(-(d * (q.1 - e) - b * (q.2 - f)),-(a * (q.2 - f) - c * (q.1 - e))),?_⟩
  unfold ap
  refine Prod.ext ?_ ?_
  ·dsimp only
   have:a * -(d * (q.1 - e) - b * (q.2 - f))+b * -(a * (q.2 - f) - c * (q.1 - e))=-((a * d - b * c) * (q.1 - e)):=by grind
   rw [this,h]; omega
  ·dsimp only
   have:c * -(d * (q.1 - e) - b * (q.2 - f))+d * -(a * (q.2 - f) - c * (q.1 - e))=-((a * d - b * c) * (q.2 - f)):=by grind
   rw [this,h]; omega
def eX (l:List P2) (f:P2→Bool):Int:=(((box l).filter fun p=> bJ l p && f p).length:Nat)
theorem eZ (l:List P2):(box l).Nodup:=gz _ _ _ _
theorem dC {l:List P2} (F:Fld l) {f:P2→Bool} {p:P2}:p∈(box l).filter (fun p=> bJ l p && f p)↔bJ l p=true∧f p=true:=by
 rw [List.mem_filter,Bool.and_eq_true]
 exact ⟨fun h=> h.2,fun h=> ⟨F.in_box h.1,h⟩⟩
theorem ua {l:List P2} (F:Fld l) {f:P2→Bool} {W:List P2} (hW:W.Nodup) (hin:∀ p∈box l,p∈W):eX l f=((W.filter fun p=> bJ l p && f p).length:Nat):=by
 unfold eX
 congr 1
 refine cD (bM (eZ l) _) (bM hW _) fun p=> ?_
 rw [dC F,List.mem_filter,Bool.and_eq_true]
 exact ⟨fun h=> ⟨hin p (F.in_box h.1),h⟩,fun h=> h.2⟩
theorem iY {l:List P2} (F:Fld l) {f g:P2→Bool} (h:∀ p,bJ l p=true→f p=g p):eX l f=eX l g:=by
 unfold eX
 congr 1
 refine cD (bM (eZ l) _) (bM (eZ l) _) fun p=> ?_
 rw [dC F,dC F]
 exact ⟨fun k=> ⟨k.1,by rw [← h p k.1]; exact k.2⟩,fun k=> ⟨k.1,by rw [h p k.1]; exact k.2⟩⟩
theorem nJ {a b c d:Int} (e f:Int) (h:a * d - b * c=1∨a * d - b * c=-1) {l:List P2} (F:Fld l) {u v:P2→Bool} (huv:∀ p,v (ap a b c d e f p)=u p):eX (aj (l.map (ap a b c d e f))) v=eX l u:=by
 have F':=kT (a:=a) (b:=b) (c:=c) (d:=d) e f F
 unfold eX
 have key:((box (aj (l.map (ap a b c d e f)))).filter fun p=> bJ (aj (l.map (ap a b c d e f))) p && v p).length=(((box l).filter fun p=> bJ l p && u p).map (ap a b c d e f)).length:=by
  refine cD (bM (eZ _) _) (List.Pairwise.map _ (fun i j (k:i≠j) q=> k (yQ h q)) (bM (eZ l) _)) fun q=> ?_
  rw [dC F',List.mem_map]
  constructor
  ·rintro ⟨k1,k2⟩
   obtain ⟨p,rfl⟩:=yC (e:=e) (f:=f) h q
   rw [xV e f h F] at k1
   rw [huv] at k2
   exact ⟨p,(dC F).mpr ⟨k1,k2⟩,rfl⟩
  ·rintro ⟨p,hp,rfl⟩
   obtain ⟨k1,k2⟩:=(dC F).mp hp
   rw [xV e f h F,huv]
   exact ⟨k1,k2⟩
 rw [key,List.length_map]
theorem tz {l:List P2} (F:Fld l) (left right:Int):my l left right=eX l fun p=> decide (left≤p.1∧p.1≤right):=by
 rw [F.cols]
 have e:((bv left (right+1 - left).toNat).map (jR l)).sum=(((bv left (right+1 - left).toNat).map fun x=> (nu l x).map fun y=> ((x,y):P2)).flatten.length:Int):=by
  generalize bv left (right+1 - left).toNat=X
  induction X with
  | nil=> rfl
  | cons x X ih=>
   rw [List.map_cons,List.sum_cons,ih,List.map_cons,List.flatten_cons,List.length_append,List.length_map]
   show ((nu l x).length:Int)+_=_
   omega
 rw [e]
 unfold eX
 congr 1
 refine cD ?_ (bM (eZ l) _) fun p=> ?_
 ·refine List.pairwise_flatten.mpr ⟨fun q hq=> ?_,?_⟩
  ·obtain ⟨x,_,rfl⟩:=List.mem_map.mp hq
   exact List.Pairwise.map _ (fun i j (h:i≠j) e=> h (congrArg Prod.snd e)) (sG l x)
  ·refine List.pairwise_map.mpr ((fG left _).imp fun {a b} h p hp q hq e=> ?_)
   obtain ⟨_,_,rfl⟩:=List.mem_map.mp hp
   obtain ⟨_,_,rfl⟩:=List.mem_map.mp hq
   exact h (congrArg Prod.fst e)
 ·rw [dC F,List.mem_flatten,decide_eq_true_eq]
  constructor
  ·rintro ⟨q,hq,hp⟩
   obtain ⟨x,hx,rfl⟩:=List.mem_map.mp hq
   obtain ⟨y,hy,rfl⟩:=List.mem_map.mp hp
   have:=bA.mp hx
   exact ⟨(kg F).mp hy,by dsimp only; omega⟩
  ·rintro ⟨h1,h2⟩
   exact ⟨_,List.mem_map.mpr ⟨p.1,bA.mpr (by omega),rfl⟩,List.mem_map.mpr ⟨p.2,(kg F).mpr h1,rfl⟩⟩
theorem vZ {l:List P2} (F:Fld l):r_ l=eX l fun _=> true:=by
 unfold eX
 rcases F.cases with ⟨A,rfl⟩ | ⟨A,B,rfl,lt⟩ | h3
 ·rw [qq,List.filter_cons_of_pos (by rw [(i0 A A).mpr rfl]; rfl)]
  unfold r_ pin jV
  rw [if_pos (by simp),if_pos (by simp)]
  show 0+(gst (A,A)+1)=_
  unfold gst
  simp
 ·have w:=(Ad lt).1
  unfold iD at w
  have e:((box [A,B]).filter fun p=> decide (plc [A,B] p=0)).length=((box [A,B]).filter fun p=> bJ [A,B] p && true).length:=by
   refine cD (bM (eZ _) _) (bM (eZ _) _) fun p=> ?_
   rw [List.mem_filter,decide_eq_true_eq,lm.1,iR lt,List.mem_filter,Bool.and_true,lR lt]
   exact ⟨fun h=> ⟨((iR lt).mpr h).1,h⟩,fun h=> h.2⟩
  rw [← e,w]
  unfold r_ pin jV
  rw [if_pos (by simp),if_pos (by simp)]
  show 0+(gst (A,B)+1)=_
  omega
 ·have w:=(zI h3).1
  rw [km] at w
  rw [F.cr] at w
  unfold r_
  rw [← w]
  congr 2
  refine List.filter_congr fun p _=> ?_
  rw [Bool.and_true,Bool.eq_iff_iff,decide_eq_true_eq,gi (by rw [← F.cr]; exact h3)]
def oy (l:List P2) (a b c g s t:Int):Int:=if a=0∧b=0 then (if 0≤c then r_ (aj (l.map (scl 1))) else 0) else my (aj (l.map (ap (a / g) (b / g) (-t) s 0 0))) (gp (aj (l.map (ap (a / g) (b / g) (-t) s 0 0))) 0).1 (c / g)
theorem xh {l:List P2} (hne:l≠[]):∀ p∈aj l,(gp (aj l) 0).1≤p.1:=fun p hp=> by
 obtain ⟨mn,mx,e0,_,_,hl,_⟩:=rn hne
 have e:gp (aj l) 0=mn:=by simp [gp,e0]
 rw [e]
 have:=hl p (aB _ p hp)
 unfold ST.ltP at this
 have:=of_decide_eq_false this
 omega
theorem u3 {l:List P2} (F:Fld l) {a b c g s t:Int} (G:gZ a b g s t):oy l a b c g s t=eX l fun p=> decide (a * p.1+b * p.2≤c):=by
 unfold oy
 by_cases h0:a=0∧b=0
 ·rw [if_pos h0,h0.1,h0.2]
  have e1:l.map (scl 1)=l:=by
   rw [show scl 1=id from funext fun p=> vI p,List.map_id]
  rw [e1,F.cr]
  by_cases hc:0≤c
  ·rw [if_pos hc,vZ F]
   exact iY F fun p _=> (decide_eq_true (by simpa using hc)).symm
  ·rw [if_neg hc]
   unfold eX
   have:(box l).filter (fun p=> bJ l p && decide (0 * p.1+0 * p.2≤c))=[]:=List.filter_eq_nil_iff.mpr fun p _ k=> by
    rw [Bool.and_eq_true,decide_eq_true_eq] at k
    omega
   rw [this]; rfl
 ·rw [if_neg h0]
  have g0:0 < g:=by
   rcases Int.lt_or_eq_of_le G.g0 with z | z
   ·exact z
   ·exfalso
    have a0:a=0:=Int.zero_dvd.mp (by rw [z]; exact G.da)
    have b0:b=0:=Int.zero_dvd.mp (by rw [z]; exact G.db)
    exact h0 ⟨a0,b0⟩
  have ea:g * (a / g)=a:=Int.mul_ediv_cancel' G.da
  have eb:g * (b / g)=b:=Int.mul_ediv_cancel' G.db
  have hd:a / g * s - b / g * -t=1:=by
   have h:=G.eq
   rw [← ea,← eb] at h
   have:g * (a / g * s - b / g * -t)=g * 1:=by rw [Int.mul_one]; grind
   exact Int.eq_of_mul_eq_mul_left (by omega) this
  have F':=kT (a:=a / g) (b:=b / g) (c:=-t) (d:=s) 0 0 F
  rw [tz F']
  have hf:=xh (l:=l.map (ap (a / g) (b / g) (-t) s 0 0)) (by simpa using F.ne)
  rw [iY F' (g:=fun p=> decide (p.1≤c / g)) fun p hp=> by
   have hb:=(ck F'.ne).mp (F'.in_box hp)
   have hx:(aj (l.map (ap (a / g) (b / g) (-t) s 0 0))).map (·.1)≠[]:=by simpa using F'.ne
   obtain ⟨q,hq,e⟩:=List.mem_map.mp (bY hx).1
   have:=hf q hq
   unfold loX at hb
   exact decide_eq_decide.mpr ⟨fun k=> k.2,fun k=> ⟨by omega,k⟩⟩]
  refine nJ 0 0 (.inl hd) F fun p=> decide_eq_decide.mpr ?_
  unfold ap
  dsimp only
  rw [Int.add_zero,Int.le_ediv_iff_mul_le g0]
  have:(a / g * p.1+b / g * p.2) * g=a * p.1+b * p.2:=by
   rw [← ea,← eb]
   rw [Int.mul_ediv_cancel_left _ (by omega),Int.mul_ediv_cancel_left _ (by omega)]
   grind
  rw [this]
end
section
variable {P:Program} {w:World} {K:PySem.W.Frag} {mg:Str→Option Value} {base:Heap}
def vA:List U→Out→Prop:=fun us o=> ∃ l:List P2,us=[lp l]∧0 < l.length∧l.length≤900∧(∀ p∈l,Szp 2500 p)∧o=.val (.int (jV l))
set_option maxHeartbeats 8000000 in
theorem sQ (T:Txt K mg):bh P w K mg base (CXF P w) 4 T.a_rim T.d_rim ["land"] (spU K (vA)):=by
 refine bq T.F_rim n_ (fun us o h=> ?_) (fun cdv A outer s H E O us o hr h=> ?_)
 ·obtain ⟨l,rfl,h0,hl,sz,rfl⟩:=h
  rfl
 obtain ⟨l,rfl,h0,hl,sz,rfl⟩:=h
 refine Ws.nox ?_
 have hm:((l.map pu).length:Int)=(l.length:Int):=by rw [List.length_map]
 unfold jV
 by_cases h3:l.length < 3
 ·rw [if_pos h3]
  refine af (dI (aO fg (ao (df rfl) rfl T.z_len PySem.boot_len (ac (aa 0 rfl) am ag)) ah) (by rw [hm]; exact decide_eq_true (by omega)) ?_)
  have z0:=sz _ (eP h0)
  have z1:=sz _ (eP (l:=l) (i:=l.length - 1) (by omega))
  obtain ⟨cs,ct,G⟩:=jB ((gp l (l.length - 1)).1 - (gp l 0).1) ((gp l (l.length - 1)).2 - (gp l 0).2)
  refine af (aF (bO (aE ((mK T).mono (by decide)) hr rfl T.m_steps T.F_steps.kp T.b_steps aA (ac (aH (aa 0 rfl) ah rfl (z_ h0)) (ac (aH (aa 0 rfl) (dh ah) rfl (wP h0)) am b_) b_) ⟨_,_,_,_,_,cs,ct,rfl,⟨z0.1.mono (by decide),z0.2.mono (by decide),z1.1.mono (by decide),z1.2.mono (by decide)⟩,G,rfl⟩) ah) ?_)
  exact rfl
 ·rw [if_neg h3]
  refine af (ff (aO fg (ao (df rfl) rfl T.z_len PySem.boot_len (ac (aa 0 rfl) am ag)) ah) (by rw [hm]; exact decide_eq_false (by omega)) (aY ?_))
  refine af (aF (ao (oN rfl ) rfl T.z_sum boot_sum (ac (EvN.ev (jD (ys:=(((sdl l).map gst).map U.int)) rfl (blk (ai jQ) ["land","A","B"] [1,2] rfl rfl rfl rfl (by decide+kernel)) (eQ (EvN.ev (cw ((jj T).mono (by decide)) hr rfl T.m_sides T.F_sides.kp T.b_sides aA (ac (aa 0 rfl) am ag) ⟨l,rfl,hl,rfl⟩)) (.inl rfl)) (fun _ _ _ _=> kL rfl (bT (bF (i:=1) n_.nd rfl (Or.inl rfl)) (bT (bF (i:=2) n_.nd rfl (Or.inl rfl)) gR))) (iF (js:=[1,2]) (by decide)) ?clen ?csz ?dom ?celt)) am gv)) ?_)
  case clen=> simp
  case csz=> simp only [iT,List.length_map]; exact Nat.le_of_lt (bw (by omega))
  case dom=>
   intro x hx
   obtain ⟨s,_,rfl⟩:=List.mem_map.mp hx
   exact ⟨_,rfl,rfl⟩
  case celt=>
   intro C s' H' fp j x y hx hy
   rw [List.map_map] at hy
   obtain ⟨s,hs,ms,rfl,rfl⟩:=fH hx hy
   obtain ⟨m1,m2⟩:=aL ms
   obtain ⟨cs,ct,G⟩:=jB (s.2.1 - s.1.1) (s.2.2 - s.1.2)
   exact (aE ((mK T).mono (by decide)) hr rfl T.m_steps T.F_steps.kp T.b_steps aA (ac (aa 1 rfl) (ac (aa 2 rfl) am ag) ag) ⟨_,_,_,_,_,cs,ct,rfl,⟨(sz _ m1).1.mono (by decide),(sz _ m1).2.mono (by decide),(sz _ m2).1.mono (by decide),(sz _ m2).2.mono (by decide)⟩,G,rfl⟩)
  exact rfl
end
section
variable {P:Program} {w:World} {K:PySem.W.Frag} {mg:Str→Option Value} {base:Heap}
theorem sM {m n:Nat} {k:Int} {p:P2} (sk:Sz n k) (s:Szp m p):Szp (n+m) (scl k p):=⟨L2.Sz.mul sk s.1,L2.Sz.mul sk s.2⟩
def q_:List U→Out→Prop:=fun us o=> ∃ (pts:List P2) (k:Int),us=[lp pts,.int k]∧Sz 1000 k∧(∀ p∈pts,Szp 3000 p)∧pts≠[]∧pts.length < 64∧o=.new ((aj (pts.map (scl k))).map pu)
set_option maxHeartbeats 8000000 in
theorem wT (T:Txt K mg):bh P w K mg base (CXF P w) 5 T.a_fold T.d_fold ["land","k"] (spU K (q_)):=by
 refine bq T.F_fold qs (fun us o h=> ?_) (fun cdv A outer s H E O us o hr h=> ?_)
 ·obtain ⟨pts,k,rfl,sk,sz,hne,hl,rfl⟩:=h
  rfl
 obtain ⟨pts,k,rfl,sk,sz,hne,hl,rfl⟩:=h
 refine af (fu (cw ((ml T).mono (by decide)) hr rfl T.m_field T.F_field.kp T.b_field aA (ac (EvN.ev (jD (ys:=(pts.map fun p=> pu (scl k p))) rfl (blk (ai gh) ["land","k","P"] [2] rfl rfl rfl rfl (by decide+kernel)) (eQ (aa 0 rfl) (.inl rfl)) (fun _ _ _ _=> bF (i:=2) qs.nd rfl (Or.inl rfl)) (gA (by decide)) ?clen ?csz (fun _ _=> trivial) ?celt)) am gv) ⟨pts.map (scl k),by rw [lp,List.map_map]; rfl,fun p hp=> by obtain ⟨q,hq,rfl⟩:=List.mem_map.mp hp; have z:=sM sk (sz q hq); exact ⟨z.1.mono (by decide),z.2.mono (by decide)⟩,by rw [List.length_map]; exact hl,by rw [if_neg (by simpa using hne)]⟩) ?_)
 case clen=> simp
 case csz=> rw [List.length_map]; exact Nat.le_of_lt (bw (by omega))
 case celt=>
  intro C s' H' fp j x y hx hy
  obtain ⟨p,hp,mp,rfl,rfl⟩:=fH hx hy
  have s1:=(sz p mp).1
  have s2:=(sz p mp).2
  exact (dU (aJ (aG (aa 1 rfl) (aH (aa 2 rfl) ah rfl rfl) (by walk_at "mul")) (aJ (aG (aa 1 rfl) (aH (aa 2 rfl) ah rfl rfl) (by walk_at "mul")) dr bC) bC))
 exact rfl
def qZ:List U→Out→Prop:=fun us o=> ∃ (pts:List P2) (k:Int),us=[lp pts,.int k]∧0≤k∧Sz 1000 k∧(∀ p∈pts,Szp 3000 p)∧pts≠[]∧pts.length < 64∧o=.new ((aj (pts.map (scl k))).map pu)
set_option maxHeartbeats 8000000 in
theorem me (T:Txt K mg):bh P w K mg base (CXF P w) 6 T.a_multiple T.d_multiple ["land","k"] (spU K (qZ)):=by
 refine bq T.F_multiple nS (fun us o h=> ?_) (fun cdv A outer s H E O us o hr h=> ?_)
 ·obtain ⟨pts,k,rfl,k0,sk,sz,hne,hl,rfl⟩:=h
  rfl
 obtain ⟨pts,k,rfl,k0,sk,sz,hne,hl,rfl⟩:=h
 refine Ws.nox ?_
 refine af (ff (aO fg (aa 1 rfl) ah) (decide_eq_false (by omega)) (aY ?_))
 refine af (fu (cw ((wT T).mono (by decide)) hr rfl T.m_fold T.F_fold.kp T.b_fold aA (ac (aa 0 rfl) (ac (aa 1 rfl) am ag) ag) ⟨pts,k,rfl,sk,sz,hne,hl,rfl⟩) ?_)
 exact rfl
def tO:List U→Out→Prop:=fun us o=> ∃ l:List P2,us=[lp l]∧l.length≤900∧(∀ p∈l,Szp 2500 p)∧o=.val (.int (pin l))
set_option maxHeartbeats 8000000 in
theorem lw (T:Txt K mg):bh P w K mg base (CXF P w) 5 T.a_points_in T.d_points_in ["land"] (spU K (tO)):=by
 refine bq T.F_points_in lc (fun us o h=> ?_) (fun cdv A outer s H E O us o hr h=> ?_)
 ·obtain ⟨l,rfl,hl,sz,rfl⟩:=h
  rfl
 obtain ⟨l,rfl,hl,sz,rfl⟩:=h
 refine Ws.nox ?_
 have hm:((l.map pu).length:Int)=(l.length:Int):=by rw [List.length_map]
 by_cases h3:l.length < 3
 ·refine af (dI (aO fg (ao (df rfl) rfl T.z_len PySem.boot_len (ac (aa 0 rfl) am ag)) ah) (by rw [hm]; exact decide_eq_true (by omega)) ?_)
  refine af (aF ah ?_)
  exact vIO (by unfold pin; rw [if_pos h3])
 ·refine af (ff (aO fg (ao (df rfl) rfl T.z_len PySem.boot_len (ac (aa 0 rfl) am ag)) ah) (by rw [hm]; exact decide_eq_false (by omega)) (aY ?_))
  have er:jV l=iX l:=by unfold jV; rw [if_neg h3]
  refine af (aF (eU (bO (aZ (aE ((jE T).mono (by decide)) hr rfl T.m_double_area T.F_double_area.kp T.b_double_area aA (ac (aa 0 rfl) am ag) ⟨l,rfl,hl,sz,rfl⟩) (aE ((sQ T).mono (by decide)) hr rfl T.m_rim T.F_rim.kp T.b_rim aA (ac (aa 0 rfl) am ag) ⟨l,rfl,by omega,hl,sz,rfl⟩)) ah) ah (by walk_at "div")) ?_)
  exact vIO (by unfold pin; rw [if_neg h3,er])
theorem um {pts:List P2} {k:Int} (sk:Sz 1000 k) (sz:∀ p∈pts,Szp 1500 p):∀ p∈aj (pts.map (scl k)),Szp 2500 p:=fun p hp=> by
 obtain ⟨q,hq,rfl⟩:=List.mem_map.mp (aB _ p hp)
 exact sM sk (sz q hq)
def oO:List U→Out→Prop:=fun us o=> ∃ (pts:List P2) (k:Int),us=[lp pts,.int k]∧0≤k∧Sz 1000 k∧(∀ p∈pts,Szp 1500 p)∧pts≠[]∧pts.length < 64∧o=.val (.int (r_ (aj (pts.map (scl k)))))
set_option maxHeartbeats 8000000 in
theorem uq (T:Txt K mg):bh P w K mg base (CXF P w) 7 T.a_count T.d_count ["land","k"] (spU K (oO)):=by
 refine yp T.F_count mU (fun us o h=> ?_) (fun cdv A outer s H E O us o hr h=> ?_)
 ·obtain ⟨pts,k,rfl,k0,sk,sz,hne,hl,rfl⟩:=h
  rfl
 obtain ⟨pts,k,rfl,k0,sk,sz,hne,hl,rfl⟩:=h
 refine Ws.nox ?_
 have cl:(aj (pts.map (scl k))).length≤900:=Nat.le_trans (iV _) (by rw [List.length_map]; omega)
 have cn:0 < (aj (pts.map (scl k))).length:=List.length_pos_iff.mpr (iI (by simpa using hne))
 refine af (aC (i:=2) mU.nd rfl (Or.inl rfl) (EvN.ev (cw ((me T).mono (by decide)) hr rfl T.m_multiple T.F_multiple.kp T.b_multiple aA (ac (aa 0 rfl) (ac (aa 1 rfl) am ag) ag) ⟨pts,k,rfl,k0,sk,hU (by decide) sz,hne,hl,rfl⟩)) ?_)
 refine af (aF (bO (aE ((lw T).mono (by decide)) hr rfl T.m_points_in T.F_points_in.kp T.b_points_in aA (ac (aa 2 rfl) am ag) ⟨_,rfl,cl,um sk sz,rfl⟩) (aE ((sQ T).mono (by decide)) hr rfl T.m_rim T.F_rim.kp T.b_rim aA (ac (aa 2 rfl) am ag) ⟨_,rfl,cn,cl,um sk sz,rfl⟩)) ?_)
 exact rfl
end
section
variable {P:Program} {w:World} {K:PySem.W.Frag} {mg:Str→Option Value} {base:Heap}
def o4:List U→Out→Prop:=fun us o=> ∃ (A B:P2) (left right:Int),us=[pu A,pu B,.int left,.int right]∧Szp 1000 A∧Szp 1000 B∧Sz 1000 left∧Sz 1000 right∧o=.val (.int (im left right (A,B)))
set_option maxHeartbeats 8000000 in
theorem lA (T:Txt K mg):bh P w K mg base (CXF P w) 2 T.a_side_part T.d_side_part ["A","B","left","right"] (spU K (o4)):=by
 refine bq T.F_side_part ce (fun us o h=> ?_) (fun cdv A outer s H E O us o hr h=> ?_)
 ·obtain ⟨A,B,left,right,rfl,⟨a1,a2⟩,⟨b1,b2⟩,sl,sr,rfl⟩:=h
  rfl
 obtain ⟨A,B,left,right,rfl,⟨a1,a2⟩,⟨b1,b2⟩,sl,sr,rfl⟩:=h
 refine Ws.nox ?_
 have ef:(if (if B.1 < A.1 then B.1 else A.1) > left then (if B.1 < A.1 then B.1 else A.1) else left)=cy (A,B) left:=by
  unfold cy
  dsimp only
  split <;> split <;> omega
 have em:(if (if B.1 > A.1 then B.1 else A.1) < right+1 then (if B.1 > A.1 then B.1 else A.1) else right+1) - cy (A,B) left=dS (A,B) left right:=by
  unfold dS
  dsimp only
  generalize cy (A,B) left=f
  split <;> split <;> omega
 have sf:Sz 1000 (cy (A,B) left):=by
  have:cy (A,B) left=left∨cy (A,B) left=A.1∨cy (A,B) left=B.1:=by unfold cy; dsimp only; omega
  rcases this with h | h | h <;> rw [h] <;> assumption
 have sr1:Sz 1001 (B.1 - A.1):=(L2.Sz.sub' b1 a1).mono (by decide)
 have sr2:Sz 1001 (B.2 - A.2):=(L2.Sz.sub' b2 a2).mono (by decide)
 refine af (aC (i:=4) ce.nd rfl (Or.inl rfl) (aZ (aH (aa 1 rfl) ah rfl rfl) (aH (aa 0 rfl) ah rfl rfl)) ?_)
 refine af (aC (i:=5) ce.nd rfl (Or.inl rfl) (aZ (aH (aa 1 rfl) ah rfl rfl) (aH (aa 0 rfl) ah rfl rfl)) ?_)
 refine af (aC (i:=6) ce.nd rfl (Or.inl rfl) (ao (tX rfl) rfl T.z_max boot_max (ac (aa 2 rfl) (ac (ao (uG rfl) rfl T.z_min boot_min (ac (aH (aa 0 rfl) ah rfl rfl) (ac (aH (aa 1 rfl) ah rfl rfl) am b_) b_)) am bV) ag)) ?_)
 rw [ef]
 refine af (aC (i:=7) ce.nd rfl (Or.inl rfl) (aZ (ao (uG rfl) rfl T.z_min boot_min (ac (bO (aa 3 rfl) ah) (ac (ao (tX rfl) rfl T.z_max boot_max (ac (aH (aa 0 rfl) ah rfl rfl) (ac (aH (aa 1 rfl) ah rfl rfl) am b_) b_)) am bV) bC)) (aa 6 rfl)) ?_)
 rw [em]
 refine af (fQ (aO fg (aa 7 rfl) ah) (fun hT=> ?_) (fun hF=> (aY ?_)))
 ·refine af (aF ah ?_)
  exact vIO (by unfold im; rw [if_pos (dTb hT)])
 ·have hm:=dFb hF
  have s3:Sz 3000 (dS (A,B) left right):=by
   refine (Sz.le (y:=B.1 - A.1) ?_ sr1).mono (by decide)
   unfold dS cy at *
   dsimp only at *
   omega
  have hrn:B.1 - A.1≠0:=by
   unfold dS cy at hm
   dsimp only at hm
   omega
  have s4:Sz 2010 (aK (A,B) (cy (A,B) left)):=by
   unfold aK
   exact (L2.Sz.add' (L2.Sz.mul (a2.mono (n:=1002) (by decide)) (sr1.mono (n:=1002) (by decide))) (L2.Sz.mul ((L2.Sz.sub' sf a1).mono (n:=1002) (by decide)) (sr2.mono (n:=1002) (by decide)))).mono (by decide)
  have s5:Sz 3000 (jX (B.1 - A.1)):=by
   refine (Sz.le (y:=B.1 - A.1) ?_ sr1).mono (by decide)
   unfold jX; split <;> omega
  have h5:0 < jX (B.1 - A.1):=by unfold jX; split <;> omega
  have s6:Sz 3000 (-(B.2 - A.2)):=(Sz.le (y:=B.2 - A.2) (by omega) sr2).mono (by decide)
  have s7:Sz 3000 (-(aK (A,B) (cy (A,B) left))):=(Sz.le (y:=aK (A,B) (cy (A,B) left)) (by omega) s4).mono (by decide)
  refine af (aC (i:=8) ce.nd rfl (Or.inl rfl) (aE ((o8 T).mono (by decide)) hr rfl T.m_row_sum T.F_row_sum.kp T.b_row_sum aA (ac (aa 7 rfl) (ac (dh (aa 5 rfl)) (ac (dh (bO (aG (aH (aa 0 rfl) ah rfl rfl) (aa 4 rfl) (by walk_at "mul")) (aG (aZ (aa 6 rfl) (aH (aa 0 rfl) ah rfl rfl)) (aa 5 rfl) (by walk_at "mul")))) (ac (ao p9 rfl T.z_abs PyProof.Rows.boot_abs (ac (aa 4 rfl) am ag)) am bV) g6) g6) ag) ⟨dS (A,B) left right,-(B.2 - A.2),-(aK (A,B) (cy (A,B) left)),jX (B.1 - A.1),rfl,by omega,h5,s3,s6,s7,s5,rfl⟩) ?_)
  refine af (aF (xt (aO fg (aa 4 rfl) ah) (bO (aa 8 rfl) (aa 7 rfl)) (aa 8 rfl)) ?_)
  refine congrArg Out.val ?_
  unfold im
  rw [if_neg hm]
  dsimp only
  by_cases hneg:B.1 - A.1 < 0
  ·rw [if_pos (decide_eq_true hneg),if_pos hneg]
  ·rw [if_neg (by simpa using hneg),if_neg hneg,Int.add_zero]
end
section
variable {P:Program} {w:World} {K:PySem.W.Frag} {mg:Str→Option Value} {base:Heap}
theorem sE:∀ {l:List P2},l≠[]→∃ M∈l,∀ q∈l,ST.ltP M q=false
 | [],h=> absurd rfl h
 | [a],_=> ⟨a,by simp,fun q hq=> by rw [List.mem_singleton.mp hq]; exact ST.asc_irr⟩
 | a::b::l,_=> by
  obtain ⟨M,hM,k⟩:=sE (l:=b::l) (by simp)
  by_cases h:ST.ltP M a=true
  ·refine ⟨a,by simp,fun q hq=> ?_⟩
   rcases List.mem_cons.mp hq with e | e
   ·rw [e]; exact ST.asc_irr
   ·cases hz:ST.ltP a q with
    | false=> rfl
    | true=> have:=ST.ltP_tr h hz; rw [k q e] at this; cases this
  ·refine ⟨M,List.mem_cons_of_mem _ hM,fun q hq=> ?_⟩
   rcases List.mem_cons.mp hq with e | e
   ·rw [e]; simpa using h
   ·exact k q e
theorem Aj {l:List P2} (hne:l≠[]) {M:P2} (hM:M∈l) (h:∀ q∈l,ST.ltP M q=false):M.1=hiX l:=by
 have hx:l.map (·.1)≠[]:=by simpa using hne
 obtain ⟨q,hq,e⟩:=List.mem_map.mp (cu hx).1
 have a:=vp hM
 have b:=h q hq
 unfold ST.ltP at b
 have b:=of_decide_eq_false b
 unfold hiX at *
 omega
def fht (l:List P2) (p:P2):Option U:=if p.1=hiX l then some (.int p.2) else none
theorem pT (l:List P2):∀ m:List P2,(m.map (fht l)).filterMap id=((m.filter fun p=> decide (p.1=hiX l)).map (·.2)).map U.int
 | []=> rfl
 | p::m=> by
  have ih:=pT l m
  rw [List.map_cons]
  by_cases h:p.1=hiX l
  ·rw [List.filter_cons_of_pos (by simpa using h)]
   unfold fht at *
   rw [if_pos h]
   simp only [List.filterMap_cons_some (id_eq _),List.map_cons]
   rw [ih]
  ·rw [List.filter_cons_of_neg (by simpa using h)]
   unfold fht at *
   rw [if_neg h]
   simp only [List.filterMap_cons_none (id_eq _)]
   rw [ih]
def qP:List U→Out→Prop:=fun us o=> ∃ (l:List P2) (left right:Int),us=[lp l,.int left,.int right]∧l≠[]∧l.length≤900∧o=.val (.int (nC l left right))
set_option maxHeartbeats 8000000 in
theorem ji (T:Txt K mg):bh P w K mg base (CXF P w) 1 T.a_last_column T.d_last_column ["land","left","right"] (spU K (qP)):=by
 refine bq T.F_last_column cM (fun us o h=> ?_) (fun cdv A outer s H E O us o hr h=> ?_)
 ·obtain ⟨l,left,right,rfl,hne,hl,rfl⟩:=h
  rfl
 obtain ⟨l,left,right,rfl,hne,hl,rfl⟩:=h
 refine Ws.nox ?_
 obtain ⟨M,hM,hL⟩:=sE hne
 have ex:=Aj hne hM hL
 have hn:=oI hne
 refine af (aC (i:=3) cM.nd rfl (Or.inr rfl) (aH (ao (yO rfl (kX hr) hM hL) rfl T.z_max boot_max (ac (aa 0 rfl) am ag)) ah rfl rfl) ?_)
 rw [ex]
 unfold nC
 refine af (fQ (Tw.t (vv (aO fg (aa 3 rfl) (aa 1 rfl)) (fun hz=> (pI (aO mq (aa 3 rfl) (aa 2 rfl)))))) (fun hT=> ?_) (fun hF=> (aY ?_)))
 ·refine af (aF ah ?_)
  refine vIO ?_
  rw [if_pos]
  simpa using hT
 ·refine af (og (l.map (fht l)) (j:=4) false rfl cM.nd rfl (Or.inl rfl) (blk (ai bG) ["land","left","right","x","heights","P"] [5] rfl rfl rfl rfl (by decide+kernel)) (eQ (aa 0 rfl) (.inl rfl)) (fun _ _ _ _=> bF (i:=5) cM.nd rfl (Or.inl rfl)) (gA (by decide)) ?clen ?csz (fun _ _=> trivial) ?ctest ?celt ?_)
  case clen=> rw [List.length_map,List.length_map]
  case csz=> rw [List.length_map]; exact Nat.le_of_lt (bw (by omega))
  case ctest=>
   intro C s' H' fp j x o hx ho
   obtain ⟨p,hp,mp,rfl,e2⟩:∃ p,l[j]?=some p∧p∈l∧x=pu p∧o=fht l p:=by
    rw [List.getElem?_map] at hx ho
    obtain ⟨p,hp,rfl⟩:=Option.map_eq_some_iff.mp hx
    rw [hp] at ho
    exact ⟨p,hp,List.mem_of_getElem? hp,rfl,(Option.some.inj ho).symm⟩
   subst e2
   rw [show (fht l p).isSome=decide (p.1=hiX l) by unfold fht; by_cases k:p.1=hiX l <;> simp [k]]
   exact (aO cQ (aH (aa 5 rfl) ah rfl rfl) (aa 3 rfl))
  case celt=>
   intro C s' H' fp j x y hx hy
   obtain ⟨p,hp,rfl,e2⟩:∃ p,l[j]?=some p∧x=pu p∧fht l p=some y:=by
    rw [List.getElem?_map] at hx hy
    obtain ⟨p,hp,rfl⟩:=Option.map_eq_some_iff.mp hx
    rw [hp] at hy
    exact ⟨p,hp,rfl,Option.some.inj hy⟩
   have ey:y=.int p.2:=by
    unfold fht at e2
    split at e2
    ·exact (Option.some.inj e2).symm
    ·cases e2
   subst ey
   exact (aH (aa 5 rfl) ah rfl rfl)
  have eh:(l.map (fht l)).filterMap id=(hts l).map U.int:=pT l l
  rw [eh]
  refine af (aF (bO (aZ (ao (zi rfl (cu hn)) rfl T.z_max boot_max (ac (aa 4 rfl) am ag)) (ao (y6 rfl (bY hn)) rfl T.z_min boot_min (ac (aa 4 rfl) am ag))) ah) ?_)
  refine vIO ?_
  rw [if_neg]
  simpa using hF
end
section
variable {P:Program} {w:World} {K:PySem.W.Frag} {mg:Str→Option Value} {base:Heap}
def ro:List U→Out→Prop:=fun us o=> ∃ (l:List P2) (left right:Int),us=[lp l,.int left,.int right]∧l≠[]∧l.length≤900∧(∀ p∈l,Szp 1000 p)∧Sz 1000 left∧Sz 1000 right∧o=.val (.int (my l left right))
set_option maxHeartbeats 8000000 in
theorem ox (T:Txt K mg):bh P w K mg base (CXF P w) 3 T.a_columns T.d_columns ["land","left","right"] (spU K (ro)):=by
 refine bq T.F_columns eI (fun us o h=> ?_) (fun cdv A outer s H E O us o hr h=> ?_)
 ·obtain ⟨l,left,right,rfl,hne,hl,sz,sl,sr,rfl⟩:=h
  rfl
 obtain ⟨l,left,right,rfl,hne,hl,sz,sl,sr,rfl⟩:=h
 refine Ws.nox ?_
 refine af (kI (ys:=(((sdl l).map (im left right)).map U.int)) (j:=3) false rfl eI.nd rfl (Or.inl rfl) (blk (ai cR) ["land","left","right","parts","A","B"] [4,5] rfl rfl rfl rfl (by decide+kernel)) (eQ (EvN.ev (cw ((jj T).mono (by decide)) hr rfl T.m_sides T.F_sides.kp T.b_sides aA (ac (aa 0 rfl) am ag) ⟨l,rfl,hl,rfl⟩)) (.inl rfl)) (fun _ _ _ _=> kL rfl (bT (bF (i:=4) eI.nd rfl (Or.inl rfl)) (bT (bF (i:=5) eI.nd rfl (Or.inl rfl)) gR))) (iF (js:=[4,5]) (by decide)) ?clen ?csz ?dom ?celt ?_)
 case clen=> simp
 case csz=> simp only [iT,List.length_map]; exact Nat.le_of_lt (bw (by omega))
 case dom=>
  intro x hx
  obtain ⟨s,_,rfl⟩:=List.mem_map.mp hx
  exact ⟨_,rfl,rfl⟩
 case celt=>
  intro C s' H' fp j x y hx hy
  rw [List.map_map] at hy
  obtain ⟨s,hs,ms,rfl,rfl⟩:=fH hx hy
  obtain ⟨m1,m2⟩:=aL ms
  exact (aE ((lA T).mono (by decide)) hr rfl T.m_side_part T.F_side_part.kp T.b_side_part aA (ac (aa 4 rfl) (ac (aa 5 rfl) (ac (aa 1 rfl) (ac (aa 2 rfl) am ag) ag) ag) ag) ⟨s.1,s.2,left,right,rfl,sz _ m1,sz _ m2,sl,sr,rfl⟩)
 refine af (aF (bO (ao (oN rfl ) rfl T.z_sum boot_sum (ac (aa 3 rfl) am ag)) (aE ((ji T).mono (by decide)) hr rfl T.m_last_column T.F_last_column.kp T.b_last_column aA (ac (aa 0 rfl) (ac (aa 1 rfl) (ac (aa 2 rfl) am ag) ag) ag) ⟨l,left,right,rfl,hne,hl,rfl⟩)) ?_)
 exact rfl
end
section
variable {P:Program} {w:World} {K:PySem.W.Frag} {mg:Str→Option Value} {base:Heap}
def n9:List U→Out→Prop:=fun us o=> ∃ (l:List P2) (a b c:Int),us=[lp l,.int a,.int b,.int c]∧Fld l∧l.length < 64∧(∀ p∈l,Szp 200 p)∧Sz 200 a∧Sz 200 b∧Sz 500 c∧o=.val (.int (eX l fun p=> decide (a * p.1+b * p.2≤c)))
set_option maxHeartbeats 8000000 in
theorem mL (T:Txt K mg):bh P w K mg base (CXF P w) 8 T.a_share T.d_share ["land","a","b","c"] (spU K (n9)):=by
 refine bq T.F_share gT (fun us o h=> ?_) (fun cdv A outer s H E O us o hr h=> ?_)
 ·obtain ⟨l,a,b,c,rfl,F,hl,sz,sa,sb,sc,rfl⟩:=h
  rfl
 obtain ⟨l,a,b,c,rfl,F,hl,sz,sa,sb,sc,rfl⟩:=h
 refine Ws.nox ?_
 obtain ⟨g,s,t,G⟩:=ql a b
 have so:=u3 F (c:=c) G
 unfold oy at so
 obtain ⟨zg,zs,zt⟩:=vR G sa sb
 by_cases h0:a=0∧b=0
 ·rw [if_pos h0] at so
  refine af (dI (Tw.t (kE (aO cQ (aa 1 rfl) ah) (fun hz=> (jO (aO cQ (aa 2 rfl) ah))))) (by rw [decide_eq_true h0.1,decide_eq_true h0.2]; rfl) ?_)
  refine af (aF (xt (aO AT (aa 3 rfl) ah) (xj ((uq T).mono (by decide)) hr rfl T.m_count T.F_count.kp T.bd_count aA (ac (aa 0 rfl) am ag) ⟨l,1,rfl,by decide,Sz.mono (m:=8) (by decide) (by decide),hU (by decide) sz,F.ne,hl,rfl⟩) ah) ?_)
  refine congrArg Out.val ?_
  rw [← so]
  by_cases hc:0≤c
  ·rw [if_pos (decide_eq_true hc),if_pos hc]
  ·rw [if_neg (by simpa using hc),if_neg hc]
 ·rw [if_neg h0] at so
  have g0:0 < g:=by
   rcases Int.lt_or_eq_of_le G.g0 with z | z
   ·exact z
   ·exfalso
    have a0:a=0:=Int.zero_dvd.mp (by rw [z]; exact G.da)
    have b0:b=0:=Int.zero_dvd.mp (by rw [z]; exact G.db)
    exact h0 ⟨a0,b0⟩
  have ea:g * (a / g)=a:=Int.mul_ediv_cancel' G.da
  have eb:g * (b / g)=b:=Int.mul_ediv_cancel' G.db
  have hd:a / g * s - b / g * -t=1:=by
   have h:=G.eq
   rw [← ea,← eb] at h
   have:g * (a / g * s - b / g * -t)=g * 1:=by rw [Int.mul_one]; grind
   exact Int.eq_of_mul_eq_mul_left (by omega) this
  refine af (ff (Tw.t (kE (aO cQ (aa 1 rfl) ah) (fun hz=> (jO (aO cQ (aa 2 rfl) ah))))) (by rw [Bool.and_eq_false_iff,decide_eq_false_iff_not,decide_eq_false_iff_not]; omega) (aY ?_))
  refine af (aC (i:=4) gT.nd rfl (Or.inl rfl) (aE ((kD T).mono (by decide)) hr rfl T.m_shares T.F_shares.kp T.b_shares aA (ac (aa 1 rfl) (ac (aa 2 rfl) am ag) ag) ⟨a,b,g,s,t,rfl,sa.mono (by decide),sb.mono (by decide),G,rfl⟩) ?_)
  refine af (aC (i:=5) gT.nd rfl (Or.inl rfl) (aH (aa 4 rfl) ah rfl rfl) ?_)
  have za:Sz 200 (a / g):=sa.ediv
  have zb:Sz 200 (b / g):=sb.ediv
  have zc:Sz 500 (c / g):=sc.ediv
  have zt':Sz 500 (-t):=(Sz.le (y:=t) (by omega) zt).mono (by decide)
  have z0:Sz 500 (0:Int):=Sz.mono (m:=8) (by decide) (by decide)
  have F':=kT (a:=a / g) (b:=b / g) (c:=-t) (d:=s) 0 0 F
  have ul:(aj (l.map (ap (a / g) (b / g) (-t) s 0 0))).length≤63:=Nat.le_trans (iV _) (by rw [List.length_map]; omega)
  have uz:∀ p∈aj (l.map (ap (a / g) (b / g) (-t) s 0 0)),Szp 1000 p:=fun p hp=> by
   obtain ⟨q,hq,rfl⟩:=List.mem_map.mp (aB _ p hp)
   have z:=xq (za.mono (by decide)) (zb.mono (by decide)) zt' (zs.mono (by decide)) z0 z0 (by decide) (sz q hq)
   exact ⟨z.1.mono (by decide),z.2.mono (by decide)⟩
  have u0:0 < (aj (l.map (ap (a / g) (b / g) (-t) s 0 0))).length:=List.length_pos_iff.mpr F'.ne
  refine af (aC (i:=6) gT.nd rfl (Or.inl rfl) (EvN.ev (cw ((jy T).mono (by decide)) hr rfl T.m_field_moved T.F_field_moved.kp T.b_field_moved aA (ac (aa 0 rfl) (ac (dU (aJ (eU (aa 1 rfl) (aa 5 rfl) ⟨by omega,zg.mono (by decide)⟩) (aJ (eU (aa 2 rfl) (aa 5 rfl) ⟨by omega,zg.mono (by decide)⟩) (aJ (dh (aH (aa 4 rfl) ah rfl rfl)) (aJ (aH (aa 4 rfl) ah rfl rfl) (aJ ah (aJ ah dr bN) bN) b_) g6) bC) bC)) am tU) ag) ⟨l,a / g,b / g,-t,s,0,0,rfl,.inl hd,⟨za.mono (by decide),zb.mono (by decide),zt',zs.mono (by decide),z0,z0⟩,hU (by decide) sz,F.ne,hl,rfl⟩)) ?_)
  generalize aj (l.map (ap (a / g) (b / g) (-t) s 0 0))=up at *
  refine af (aF (aE ((ox T).mono (by decide)) hr rfl T.m_columns T.F_columns.kp T.b_columns aA (ac (aa 6 rfl) (ac (aH (aH (aa 6 rfl) ah rfl (z_ u0)) ah rfl rfl) (ac (eU (aa 3 rfl) (aa 5 rfl) ⟨by omega,zg.mono (by decide)⟩) am bC) b_) ag) ⟨up,(gp up 0).1,c / g,rfl,F'.ne,by omega,uz,(uz _ (eP u0)).1,zc.mono (by decide),rfl⟩) ?_)
  exact vIO so
end
section
variable {P:Program} {w:World} {K:PySem.W.Frag} {mg:Str→Option Value} {base:Heap}
def qJ:List U→Out→Prop:=fun us o=> ∃ P Q R:P2,us=[pu P,pu Q,pu R]∧Szp 5000 P∧Szp 5000 Q∧Szp 5000 R∧o=.val (.int (ae P Q R))
set_option maxHeartbeats 8000000 in
theorem eG (T:Txt K mg):bh P w K mg base (CXF P w) 1 T.a__law_side T.d__law_side ["a","b","p"] (spU K (qJ)):=by
 refine bq T.F__law_side lJ (fun us o h=> ?_) (fun cdv A outer s H E O us o hr h=> ?_)
 ·obtain ⟨P,Q,R,rfl,⟨p1,p2⟩,⟨q1,q2⟩,⟨r1,r2⟩,rfl⟩:=h
  rfl
 obtain ⟨P,Q,R,rfl,⟨p1,p2⟩,⟨q1,q2⟩,⟨r1,r2⟩,rfl⟩:=h
 refine Ws.nox ?_
 refine af (aF (aZ (aG (aZ (aH (aa 1 rfl) ah rfl rfl) (aH (aa 0 rfl) ah rfl rfl)) (aZ (aH (aa 2 rfl) ah rfl rfl) (aH (aa 0 rfl) ah rfl rfl)) (by walk_at "mul")) (aG (aZ (aH (aa 1 rfl) ah rfl rfl) (aH (aa 0 rfl) ah rfl rfl)) (aZ (aH (aa 2 rfl) ah rfl rfl) (aH (aa 0 rfl) ah rfl rfl)) (by walk_at "mul"))) ?_)
 exact rfl
set_option maxHeartbeats 8000000 in
theorem gB (T:Txt K mg):bh P w K mg base (CXF P w) 2 T.a__law_half T.d__law_half ["points"] (spU K (i7)):=by
 refine bq T.F__law_half eH (fun us o h=> ?_) (fun cdv A outer s H E O us o hr h=> ?_)
 ·obtain ⟨row,rfl,sz,hl,rfl⟩:=h
  rfl
 obtain ⟨row,rfl,sz,hl,rfl⟩:=h
 refine Ws.nox ?_
 refine af (nU (i:=1) eH.nd rfl (Or.inl rfl) (hV dr) ?_)
 refine af (ij (fun st:List P2=> [some (.val (lp row)),some (.own (st.reverse.map pu)),none]) (fun i st=> st=ak (row.take i)) rfl PassesOwn.never (eQ (aa 0 rfl) (.inl rfl)) ?h0 ?hs ?hd)
 case h0=> exact ⟨[],rfl,rfl,rfl,trivial⟩
 case hs=>
  rintro H0 i x _ hx rfl
  obtain ⟨P,hP,mP,rfl⟩:=sU hx
  have hi:i < row.length:=aP hP
  have sP:=sz P mP
  refine ⟨_,(g8 (i:=2) eH.nd rfl (Or.inl rfl)),?_⟩
  have len0:=fE row i
  refine oo (fun ps=> SubP [some (.val (lp row)),some (.own ((aV P (ak (row.take i))).reverse.map pu)),some (.val (pu P))] ps) (gX (fun s2:List P2=> [some (.val (lp row)),some (.own (s2.reverse.map pu)),some (.val (pu P))]) (fun m s2=> m=s2.length∧aV P s2=aV P (ak (row.take i))∧(∀ p∈s2,p∈row)∧s2.length≤i) PassesOwn.never ?h0 ?hs) ?hj
  case h0=> exact ⟨_,_,⟨rfl,rfl,fun q hq=> eu row i q hq,len0⟩,rfl,rfl,rfl,trivial⟩
  case hs=>
   rintro m s2 ⟨rfl,e2,sub,len2⟩
   match s2,e2,sub,len2 with
   | [],e2,sub,len2=>
    refine ⟨false,?_,fun h=> (nomatch h),fun h ps hps=> e2 ▸ hps⟩
    exact (Tw.t (li (aO mq (fj 1 rfl rfl T.z_len) ah) rfl))
   | [b],e2,sub,len2=>
    refine ⟨false,?_,fun h=> (nomatch h),fun h ps hps=> e2 ▸ hps⟩
    exact (Tw.t (li (aO mq (fj 1 rfl rfl T.z_len) ah) rfl))
   | b::a::r,e2,sub,len2=>
    have sa:=sz a (sub a (by simp))
    have sb:=sz b (sub b (by simp))
    have e1:decide ((1:Int) < ((((b::a::r).reverse.map pu).length:Nat):Int))=true:=decide_eq_true (by simp; omega)
    refine ⟨decide ((1:Int) < ((((b::a::r).reverse.map pu).length:Nat):Int)) && decide (ae a b P≤0),?_,fun h=> ?_,fun h ps hps=> ?_⟩
    ·exact (Tw.t (kE (aO mq (fj 1 rfl rfl T.z_len) ah) (fun hz=> (jO (aO zV (aE ((eG T).mono (by decide)) hr rfl T.m__law_side T.F__law_side.kp T.b__law_side aA (ac (qh 1 rfl (dh ah) (xA b a r)) (ac (qh 1 rfl (dh ah) (xm b (a::r))) (ac (aa 2 rfl) am ag) b_) b_) ⟨a,b,P,rfl,sa,sb,sP,rfl⟩) ah)))))
    ·rw [e1,Bool.true_and] at h
     have hd:=dTb h
     refine af (xz 1 rfl (by simp) (aY ?_))
     refine ⟨_,a::r,?_,⟨rfl,?_,fun q hq=> sub q (List.mem_cons_of_mem _ hq),?_⟩,rfl,?_,rfl,trivial⟩
     ·simp
     ·rw [← e2]; conv=> rhs; unfold aV
      rw [if_pos hd]
     ·simp only [List.length_cons] at *; omega
     ·exact congrArg (fun l=> some (Sl.own l)) (by simp)
    ·rw [e1,Bool.true_and] at h
     have hd:=dFb h
     have e3:aV P (b::a::r)=b::a::r:=by conv=> lhs; unfold aV
                                        rw [if_neg hd]
     rw [← e2,e3]
     exact hps
  case hj=>
   intro ps hps
   refine gd ?_ hps
   have e4:=eK hP
   have len3:=iJ P (ak (row.take i))
   refine af (jl 1 rfl (aa 2 rfl) (by rw [List.length_map,List.length_reverse]; exact bw (by omega)) (aY ?_))
   refine ⟨_,rfl,rfl,?_,trivial⟩
   exact congrArg (fun l=> some (Sl.own l)) (by rw [e4]; simp)
 case hd=>
  rintro st ps hst hps
  refine gd ?_ hps
  refine af (jL 1 rfl ?_)
  rw [hst]
  simp
def lG:List U→Out→Prop:=fun us o=> ∃ pts:List P2,us=[lp pts]∧(∀ p∈pts,Szp 5000 p)∧pts.length < 64∧o=.new ((aj pts).map pu)
theorem tQ {pts:List P2} (h:(ST.srt pts).length=2):aj pts=ST.srt pts:=by
 match e:ST.srt pts,h with
 | [a,b],_=>
  unfold aj
  rw [e]
  simp [ak,aV]
set_option maxHeartbeats 8000000 in
theorem eT (T:Txt K mg):bh P w K mg base (CXF P w) 3 T.a__law_corners T.d__law_corners ["points"] (spU K (lG)):=by
 refine bq T.F__law_corners dq (fun us o h=> ?_) (fun cdv A outer s H E O us o hr h=> ?_)
 ·obtain ⟨pts,rfl,sz,hl,rfl⟩:=h
  rfl
 obtain ⟨pts,rfl,sz,hl,rfl⟩:=h
 refine Ws.nox ?_
 have sl:=ST.srt_len pts
 have hms:(((ST.srt pts).map pu).length:Int)=((ST.srt pts).length:Int):=by rw [List.length_map]
 have szs:=sL sz
 by_cases h1:(ST.srt pts).length < 3
 ·refine af (nU (i:=1) dq.nd rfl (Or.inl rfl) (fD rfl (kX hr) rfl T.z_sorted rfl T.z_set (aa 0 rfl) hl ag) ?_)
  refine af (dI (aO fg (fj 1 rfl rfl T.z_len) ah) (by rw [hms]; exact decide_eq_true (by omega)) ?_)
  refine af (jL 1 rfl ?_)
  have ec:aj pts=ST.srt pts:=by
   by_cases h2:(ST.srt pts).length=2
   ·exact tQ h2
   ·exact eE (by omega)
  rw [ec]
 ·refine af (aC (i:=1) dq.nd rfl (Or.inl rfl) (EvN.ev (fD rfl (kX hr) rfl T.z_sorted rfl T.z_set (aa 0 rfl) hl ag)) ?_)
  refine af (ff (aO fg (ao (df rfl) rfl T.z_len PySem.boot_len (ac (aa 1 rfl) am ag)) ah) (by rw [hms]; exact decide_eq_false (by omega)) (aY ?_))
  have b1:=gI (ST.srt pts)
  have b2:=gI (ST.srt pts).reverse
  rw [List.length_reverse] at b2
  refine af (fu (vm (EvN.ev (fF (EvN.ev (cw ((gB T).mono (by decide)) hr rfl T.m__law_half T.F__law_half.kp T.b__law_half aA (ac (aa 1 rfl) am ag) ⟨ST.srt pts,rfl,szs,by omega,rfl⟩)) gY (hX (dh ah)) (.inl rfl))) (EvN.ev (fF (EvN.ev (cw ((gB T).mono (by decide)) hr rfl T.m__law_half T.F__law_half.kp T.b__law_half aA (ac (EvN.ev (su rfl rfl T.z_list rfl T.z_reversed (aa 1 rfl) ag)) am bV) ⟨(ST.srt pts).reverse,by rw [lp,List.map_reverse],fun p hp=> szs p (List.mem_reverse.mp hp),by rw [List.length_reverse]; omega,rfl⟩)) gY (hX (dh ah)) (.inl rfl))) (by rw [fk,fk,List.length_map,List.length_map,List.length_dropLast,List.length_dropLast,List.length_reverse,List.length_reverse]; exact Nat.le_of_lt (bw (by omega)))) ?_)
  show Out.new _=Out.new _
  unfold aj
  rw [if_neg (by omega),fk,fk,← List.map_append]
end
section
variable {P:Program} {w:World} {K:PySem.W.Frag} {mg:Str→Option Value} {base:Heap}
def cel (ns:List Int) (k:Int):Int:=if k < (ns.length:Int) then ns.getD k.toNat 0 else 7 * k * k+3 * k+1
theorem dX {ns:List Int} (h:∀ m∈ns,Sz 1048576 m) {k:Int} (h0:0≤k) (h1:k < 1000):Sz 1048576 (cel ns k):=by
 unfold cel
 split
 ·exact vM h _
 ·refine Sz.mono (m:=100) ?_ (by decide)
  have:7 * k * k≤7 * 1000 * 1000:=by
   have:k * k≤1000 * 1000:=Int.mul_le_mul (by omega) (by omega) h0 (by omega)
   rw [Int.mul_assoc]; omega
  have h2:0≤7 * k * k:=Int.mul_nonneg (by omega) h0
  unfold Sz; omega
def rO:List U→Out→Prop:=fun us o=> ∃ (ns:List Int) (k:Int),us=[.scr (ns.map U.int),.int k]∧ns.length≤63∧0≤k∧k < 1000∧o=.val (.int (cel ns k))
set_option maxHeartbeats 8000000 in
theorem bg (T:Txt K mg):bh P w K mg base (CXF P w) 1 T.a__law_cell T.d__law_cell ["script","k"] (spU K (rO)):=by
 refine bq T.F__law_cell lO (fun us o h=> ?_) (fun cdv A outer s H E O us o hr h=> ?_)
 ·obtain ⟨ns,k,rfl,hl,h0,h1,rfl⟩:=h
  rfl
 obtain ⟨ns,k,rfl,hl,h0,h1,rfl⟩:=h
 refine Ws.nox ?_
 have sk:Sz 64 k:=by unfold Sz; omega
 have hm:((ns.map U.int).length:Int)=(ns.length:Int):=by rw [List.length_map]
 refine af (fQ (aO fg (aa 1 rfl) (ao (df rfl) rfl T.z_len PySem.boot_len (ac (aa 0 rfl) am ag))) (fun hT=> ?_) (fun hF=> (aY ?_)))
 ·rw [hm] at hT
  have hk:=dTb hT
  refine af (aF (aH (aa 0 rfl) (aa 1 rfl) rfl (vz h0 hk)) ?_)
  exact vIO (by unfold cel; rw [if_pos hk])
 ·rw [hm] at hF
  have hk:=dFb hF
  refine af (aF (bO (bO (aG (aG ah (aa 1 rfl) (by walk_at "mul")) (aa 1 rfl) (by walk_at "mul")) (aG ah (aa 1 rfl) (by walk_at "mul"))) ah) ?_)
  exact vIO (by unfold cel; rw [if_neg hk])
theorem zW {m:Nat} {x y:Int} (h:0≤y) (sy:Sz m y):Sz m (x % (2 * y+1) - y):=by
 have h1:=Int.emod_nonneg x (show 2 * y+1≠0 by omega)
 have h2:=Int.emod_lt_of_pos x (show 0 < 2 * y+1 by omega)
 generalize x % (2 * y+1)=z at *
 refine Sz.le ?_ sy
 omega
theorem xY {l:List P2} {j:Nat} (h:j < l.length):atI (l.map pu) ((0+(j:Int)+1) % ((l.map pu).length:Int))=some (pu (nxt l j)):=by
 have e:(0+(j:Int)+1) % ((l.map pu).length:Int)=(((j+1) % l.length:Nat):Int):=by
  rw [List.length_map,Int.zero_add]; simp
 rw [e]
 exact i4 rfl (Nat.mod_lt _ (by omega))
theorem tK {l:List P2} {i:Nat} (h:i < l.length):(sdl l).take (i+1)=(sdl l).take i++[(gp l i,nxt l i)]:=by
 rw [List.take_succ]
 congr 1
 unfold sdl
 rw [List.getElem?_map,List.getElem?_range h]; rfl
def wA:List U→Out→Prop:=fun us o=> ∃ (l:List P2) (p:P2),us=[lp l,pu p]∧l≠[]∧l.length≤900∧(∀ q∈l,Szp 5000 q)∧Szp 5000 p∧o=.val (.bl (bJ l p))
set_option maxHeartbeats 8000000 in
theorem oR (T:Txt K mg):bh P w K mg base (CXF P w) 2 T.a__law_in T.d__law_in ["land","p"] (spU K (wA)):=by
 refine bq T.F__law_in jF (fun us o h=> ?_) (fun cdv A outer s H E O us o hr h=> ?_)
 ·obtain ⟨l,p,rfl,hne,hl,sz,sp,rfl⟩:=h
  rfl
 obtain ⟨l,p,rfl,hne,hl,sz,sp,rfl⟩:=h
 refine Ws.nox ?_
 have hm:((l.map pu).length:Int)=(l.length:Int):=by rw [List.length_map]
 have h0:0 < l.length:=List.length_pos_iff.mpr hne
 by_cases h1:l.length=1
 ·refine af (dI (aO cQ (ao (df rfl) rfl T.z_len PySem.boot_len (ac (aa 0 rfl) am ag)) ah) (by rw [hm]; exact decide_eq_true (by omega)) ?_)
  refine af (aF (j6 (AF (kX hr) rfl rfl) (aa 1 rfl) (aH (aa 0 rfl) ah rfl (i4 (i:=0) rfl h0))) ?_)
  exact vB (by rw [tP]; unfold bJ; rw [if_pos h1])
 ·refine af (ff (aO cQ (ao (df rfl) rfl T.z_len PySem.boot_len (ac (aa 0 rfl) am ag)) ah) (by rw [hm]; exact decide_eq_false (by omega)) (aY ?_))
  by_cases h2:l.length=2
  ·refine af (dI (aO cQ (ao (df rfl) rfl T.z_len PySem.boot_len (ac (aa 0 rfl) am ag)) ah) (by rw [hm]; exact decide_eq_true (by omega)) ?_)
   have h1':1 < l.length:=by omega
   refine af (aF (eV (j6 cQ (aE ((eG T).mono (by decide)) hr rfl T.m__law_side T.F__law_side.kp T.b__law_side aA (ac (aH (aa 0 rfl) ah rfl (i4 (i:=0) rfl h0)) (ac (aH (aa 0 rfl) ah rfl (i4 (i:=1) rfl h1')) (ac (aa 1 rfl) am ag) b_) b_) ⟨_,_,_,rfl,sz _ (eP h0),sz _ (eP h1'),sp,rfl⟩) ah) (fun hz=> (eV (j6 (xI (kX hr)) (aH (aa 0 rfl) ah rfl (i4 (i:=0) rfl h0)) (aa 1 rfl)) (fun hz=> (f_ (j6 (xI (kX hr)) (aa 1 rfl) (aH (aa 0 rfl) ah rfl (i4 (i:=1) rfl h1')))))))) ?_)
   exact vB (by unfold bJ; rw [if_neg h1,if_pos h2])
  ·refine af (ff (aO cQ (ao (df rfl) rfl T.z_len PySem.boot_len (ac (aa 0 rfl) am ag)) ah) (by rw [hm]; exact decide_eq_false (by omega)) (aY ?_))
   have ew:bJ l p=(sdl l).all fun s=> decide (0≤ae s.1 s.2 p):=by unfold bJ; rw [if_neg h1,if_neg h2]
   refine af (ij (fun _:Unit=> [some (.val (lp l)),some (.val (pu p)),none]) (fun i _=> ∀ s∈(sdl l).take i,0≤ae s.1 s.2 p) rfl PassesOwn.never (t8 rfl T.z_range (ac (ao (df rfl) rfl T.z_len PySem.boot_len (ac (aa 0 rfl) am ag)) am bV) (by rw [hm]; omega) (by rw [hm]; omega)) ?h0 ?hs ?hd)
   case h0=> exact ⟨(),by simp,rfl,rfl,trivial⟩
   case hs=>
    rintro H0 i x _ hx hall
    obtain ⟨hi,rfl⟩:=eR hx
    have hi':i < l.length:=by omega
    have hz:(i+1) % l.length < l.length:=Nat.mod_lt _ (by omega)
    refine ⟨_,(g8 (i:=2) jF.nd rfl (Or.inl rfl)),?_⟩
    refine af (fQ (aO fg (aE ((eG T).mono (by decide)) hr rfl T.m__law_side T.F__law_side.kp T.b__law_side aA (ac (aH (aa 0 rfl) (aa 2 rfl) rfl (i4 (i:=i) (by omega) hi')) (ac (aH (aa 0 rfl) (cP (bO (aa 2 rfl) ah) (ao (df rfl) rfl T.z_len PySem.boot_len (ac (aa 0 rfl) am ag)) (by rw [hm]; omega)) rfl (xY hi')) (ac (aa 1 rfl) am ag) b_) b_) ⟨_,_,_,rfl,sz _ (eP hi'),sz _ (eP hz),sp,rfl⟩) ah) (fun hT=> ?_) (fun hF=> (aY (aY ?_))))
    ·refine af (aF iz ?_)
     refine vB ?_
     rw [ew]
     refine (Bool.eq_false_iff.mpr fun k=> ?_).symm
     have:=of_decide_eq_true (List.all_eq_true.mp k (gp l i,nxt l i) (List.mem_map.mpr ⟨i,List.mem_range.mpr hi',rfl⟩))
     have h:=dTb hT
     dsimp only at this
     omega
    ·refine ⟨(),fun s hs=> ?_,rfl,rfl,trivial⟩
     rw [tK hi'] at hs
     rcases List.mem_append.mp hs with k | k
     ·exact hall s k
     ·rw [List.mem_singleton.mp k]
      have h:=dFb hF
      show 0≤ae (gp l i) (nxt l i) p
      omega
   case hd=>
    rintro _ ps hall hps
    refine gd ?_ hps
    refine af (aF iz ?_)
    refine vB ?_
    rw [ew]
    refine (List.all_eq_true.mpr fun s hs=> decide_eq_true (hall s ?_)).symm
    rw [cT,List.take_of_length_le]
    ·exact hs
    ·rw [iT]; omega
end
section
variable {P:Program} {w:World} {K:PySem.W.Frag} {mg:Str→Option Value} {base:Heap}
def nv (n:Int) (p:P2):Prop:=-n≤p.1∧p.1≤n∧-n≤p.2∧p.2≤n
theorem p6 {n:Int} (hn:n≤100) {p:P2} (h:nv n p):Szp 8 p:=by
 unfold nv at h
 constructor <;> unfold Sz <;> omega
def px (ns:List Int) (i:Nat):Int:=cel ns (10+(i:Int)) % 9 - 4
def py (ns:List Int) (i:Nat):Int:=if cel ns 9 % 6=1 then px ns i * (cel ns 9 / 6 % 3 - 1) else cel ns (10+(i:Int)) / 9 % 9 - 4
def ptC (ns:List Int) (i:Nat):P2:=(px ns i,py ns i)
theorem uE (ns:List Int) (i:Nat):nv 4 (ptC ns i):=by
 unfold nv ptC py px
 dsimp only
 refine ⟨by omega,by omega,?_⟩
 split
 ·have h:cel ns 9 / 6 % 3 - 1=-1∨cel ns 9 / 6 % 3 - 1=0∨cel ns 9 / 6 % 3 - 1=1:=by omega
  rcases h with h | h | h <;> rw [h] <;> omega
 ·omega
def oB (ns:List Int):Nat:=max 12 (min ns.length 60) - 10
def j3 (ns:List Int):List P2:=(List.range (oB ns)).map (ptC ns)
theorem qv (ns:List Int):1≤oB ns∧oB ns≤56:=by unfold oB; omega
theorem kn (ns:List Int):∀ p∈j3 ns,nv 4 p:=fun p hp=> by
 obtain ⟨i,_,rfl⟩:=List.mem_map.mp hp
 exact uE ns i
theorem vc (ns:List Int):(j3 ns).length=oB ns:=by unfold j3; simp
def u4:List U→Out→Prop:=fun us o=> ∃ (ns:List Int),us=[.scr (ns.map U.int)]∧ns.length≤63∧(∀ m∈ns,Sz 1048576 m)∧o=.new ((j3 ns).map pu)
set_option maxHeartbeats 8000000 in
theorem jC (T:Txt K mg):bh P w K mg base (CXF P w) 2 T.a__law_points T.d__law_points ["script"] (spU K (u4)):=by
 refine bq T.F__law_points bo (fun us o h=> ?_) (fun cdv A outer s H E O us o hr h=> ?_)
 ·obtain ⟨ns,rfl,hl,hB,rfl⟩:=h
  rfl
 obtain ⟨ns,rfl,hl,hB,rfl⟩:=h
 refine Ws.nox ?_
 have hm:((ns.map U.int).length:Int)=(ns.length:Int):=by rw [List.length_map]
 have hN:=qv ns
 have hb:(if (if (60:Int) < ((ns.map U.int).length:Int) then (60:Int) else ((ns.map U.int).length:Int)) > 12 then (if (60:Int) < ((ns.map U.int).length:Int) then (60:Int) else ((ns.map U.int).length:Int)) else 12)=((max 12 (min ns.length 60):Nat):Int):=by
  rw [hm]
  split <;> split <;> omega
 have c9:=dX hB (k:=9) (by decide) (by decide)
 refine af (nU (i:=1) bo.nd rfl (Or.inl rfl) (hV dr) ?_)
 refine af (aC (i:=2) bo.nd rfl (Or.inl rfl) (aE ((bg T).mono (by decide)) hr rfl T.m__law_cell T.F__law_cell.kp T.b__law_cell aA (ac (aa 0 rfl) (ac ah am bN) ag) ⟨ns,_,rfl,hl,by decide,by decide,rfl⟩) ?_)
 refine af (ij (fun i:Nat=> [some (.val (.scr (ns.map U.int))),some (.own (((List.range i).map (ptC ns)).map pu)),some (.val (.int (cel ns 9))),none,none,none,none]) (fun i j=> i=j) rfl PassesOwn.never (i9 rfl T.z_range (ac ah (ac (ao (tX rfl) rfl T.z_max boot_max (ac ah (ac (ao (uG rfl) rfl T.z_min boot_min (ac (ao (df rfl) rfl T.z_len PySem.boot_len (ac (aa 0 rfl) am ag)) (ac ah am bN) bV)) am bV) bN)) am bV) bN) (by rw [hb]; omega)) ?h0 ?hs ?hd)
 case h0=> exact ⟨0,rfl,rfl,rfl,rfl,trivial⟩
 case hs=>
  rintro H0 i x _ hx rfl
  rw [hb] at hx
  obtain ⟨hi,rfl⟩:=eR hx
  have hi':i < 60:=by omega
  refine ⟨_,(g8 (i:=3) bo.nd rfl (Or.inl rfl)),?_⟩
  have cz:=dX hB (k:=10+(i:Int)) (by omega) (by omega)
  have room:(((List.range i).map (ptC ns)).map pu).length≤1000:=by simp; omega
  refine af (aC (i:=4) bo.nd rfl (Or.inl rfl) (aE ((bg T).mono (by decide)) hr rfl T.m__law_cell T.F__law_cell.kp T.b__law_cell aA (ac (aa 0 rfl) (ac (aa 3 rfl) am ag) ag) ⟨ns,_,rfl,hl,by omega,by omega,rfl⟩) ?_)
  refine af (aC (i:=5) bo.nd rfl (Or.inl rfl) (aZ (cP (aa 4 rfl) ah (by walk_at "mod")) ah) ?_)
  have zx:Sz 8 (px ns i):=by unfold Sz px; omega
  rw [show cel ns (10+(i:Int)) % 9 - 4=px ns i from rfl]
  refine af (aC (i:=6) bo.nd rfl (Or.inl rfl) (aZ (cP (eU (aa 4 rfl) ah (by walk_at "div")) ah (by walk_at "mod")) ah) ?_)
  refine oo (fun ps=> SubP [some (.val (.scr (ns.map U.int))),some (.own (((List.range i).map (ptC ns)).map pu)),some (.val (.int (cel ns 9))),none,none,some (.val (.int (px ns i))),some (.val (.int (py ns i)))] ps) (fQ (aO cQ (cP (aa 2 rfl) ah (by walk_at "mod")) ah) (fun hT=> ?_) (fun hF=> (aY ?_))) ?hj
  ·refine af (aC (i:=6) bo.nd rfl (Or.inl rfl) (aG (aa 5 rfl) (aZ (cP (eU (aa 2 rfl) ah (by walk_at "div")) ah (by walk_at "mod")) ah) (by walk_at "mul")) (aY ?_))
   refine ⟨rfl,rfl,rfl,rfl,?_,trivial⟩
   exact congrArg (fun z=> some (Sl.val (.int z))) (show _=py ns i by unfold py; rw [if_pos (dTb hT)])
  ·refine ⟨rfl,rfl,rfl,rfl,?_,trivial⟩
   exact congrArg (fun z=> some (Sl.val (.int z))) (show _=py ns i by unfold py; rw [if_neg (dFb hF)])
  case hj=>
   intro ps hps
   refine gd ?_ hps
   refine af (jl 1 rfl (dU (aJ (aa 5 rfl) (aJ (aa 6 rfl) dr ag) ag)) (bw room) (aY ?_))
   refine ⟨i+1,rfl,rfl,?_,rfl,trivial⟩
   exact congrArg (fun l=> some (Sl.own l)) (by rw [List.range_succ,List.map_append,List.map_append]; rfl)
 case hd=>
  rintro q ps hq hps
  refine gd ?_ hps
  rw [hb,cT] at hq
  have:q=oB ns:=by unfold oB; omega
  subst this
  refine af (jL 1 rfl ?_)
  exact rfl
end
section
variable {P:Program} {w:World} {K:PySem.W.Frag} {mg:Str→Option Value} {base:Heap}
def mF (ns:List Int):Int:=cel ns 3 * 48271 % (2 * 10 ^ (20:Int).toNat+1) - 10 ^ (20:Int).toNat
def nF (ns:List Int):Int:=cel ns 4 * 16807 % (2 * 10 ^ (20:Int).toNat+1) - 10 ^ (20:Int).toNat
theorem xP (ns:List Int):Sz 67 (mF ns):=zW (by decide+kernel) (by decide+kernel)
theorem xG (ns:List Int):Sz 67 (nF ns):=zW (by decide+kernel) (by decide+kernel)
def dL (ns:List Int):Int×Int×Int×Int:=if cel ns 5 % 2=1 then (mF ns,1+mF ns * nF ns,1,nF ns) else (1+mF ns * nF ns,mF ns,nF ns,1)
theorem yq (ns:List Int):(dL ns).1 * (dL ns).2.2.2 - (dL ns).2.1 * (dL ns).2.2.1=1∨(dL ns).1 * (dL ns).2.2.2 - (dL ns).2.1 * (dL ns).2.2.1=-1:=by
 unfold dL
 split
 ·right; dsimp only; grind
 ·left; dsimp only; grind
theorem ya (ns:List Int):Sz 136 (dL ns).1∧Sz 136 (dL ns).2.1∧Sz 136 (dL ns).2.2.1∧Sz 136 (dL ns).2.2.2:=by
 have a:=xP ns
 have b:=xG ns
 have o:Sz 134 (1:Int):=Sz.mono (m:=8) (by decide) (by decide)
 have c:Sz 136 (1+mF ns * nF ns):=(L2.Sz.add' o (L2.Sz.mul a b)).mono (by decide)
 unfold dL
 split
 ·exact ⟨a.mono (by decide),c,o.mono (by decide),b.mono (by decide)⟩
 ·exact ⟨c,a.mono (by decide),b.mono (by decide),o.mono (by decide)⟩
def sZ:List U→Out→Prop:=fun us o=> ∃ (ns:List Int),us=[.scr (ns.map U.int)]∧ns.length≤63∧(∀ m∈ns,Sz 1048576 m)∧o=.new [.int (dL ns).1,.int (dL ns).2.1,.int (dL ns).2.2.1,.int (dL ns).2.2.2]
set_option maxHeartbeats 8000000 in
theorem jZ (T:Txt K mg):bh P w K mg base (CXF P w) 2 T.a__law_table T.d__law_table ["script"] (spU K (sZ)):=by
 refine bq T.F__law_table dY (fun us o h=> ?_) (fun cdv A outer s H E O us o hr h=> ?_)
 ·obtain ⟨ns,rfl,hl,hB,rfl⟩:=h
  rfl
 obtain ⟨ns,rfl,hl,hB,rfl⟩:=h
 refine Ws.nox ?_
 have c3:=dX hB (k:=3) (by decide) (by decide)
 have c4:=dX hB (k:=4) (by decide) (by decide)
 have c5:=dX hB (k:=5) (by decide) (by decide)
 have a:=xP ns
 have b:=xG ns
 refine af (aC (i:=1) dY.nd rfl (Or.inl rfl) (aZ (cP (aG (aE ((bg T).mono (by decide)) hr rfl T.m__law_cell T.F__law_cell.kp T.b__law_cell aA (ac (aa 0 rfl) (ac ah am bN) ag) ⟨ns,_,rfl,hl,by decide,by decide,rfl⟩) ah (by walk_at "mul")) (bO (aG ah (j4 ah ah ⟨by decide,by decide,by decide⟩) (by walk_at "mul")) ah) (by decide+kernel)) (j4 ah ah ⟨by decide,by decide,by decide⟩)) ?_)
 refine af (aC (i:=2) dY.nd rfl (Or.inl rfl) (aZ (cP (aG (aE ((bg T).mono (by decide)) hr rfl T.m__law_cell T.F__law_cell.kp T.b__law_cell aA (ac (aa 0 rfl) (ac ah am bN) ag) ⟨ns,_,rfl,hl,by decide,by decide,rfl⟩) ah (by walk_at "mul")) (bO (aG ah (j4 ah ah ⟨by decide,by decide,by decide⟩) (by walk_at "mul")) ah) (by decide+kernel)) (j4 ah ah ⟨by decide,by decide,by decide⟩)) ?_)
 rw [show cel ns 3 * 48271 % (2 * 10 ^ (20:Int).toNat+1) - 10 ^ (20:Int).toNat=mF ns from rfl,show cel ns 4 * 16807 % (2 * 10 ^ (20:Int).toNat+1) - 10 ^ (20:Int).toNat=nF ns from rfl]
 unfold dL
 refine af (fQ (aO cQ (cP (aE ((bg T).mono (by decide)) hr rfl T.m__law_cell T.F__law_cell.kp T.b__law_cell aA (ac (aa 0 rfl) (ac ah am bN) ag) ⟨ns,_,rfl,hl,by decide,by decide,rfl⟩) ah (by walk_at "mod")) ah) (fun hT=> ?_) (fun hF=> (aY ?_)))
 ·refine af (fu (hV (aJ (aa 1 rfl) (aJ (bO ah (aG (aa 1 rfl) (aa 2 rfl) (by walk_at "mul"))) (aJ ah (aJ (aa 2 rfl) dr ag) bN) bC) ag)) ?_)
  rw [if_pos (dTb hT)]
 ·refine af (fu (hV (aJ (bO ah (aG (aa 1 rfl) (aa 2 rfl) (by walk_at "mul"))) (aJ (aa 1 rfl) (aJ (aa 2 rfl) (aJ ah dr bN) ag) ag) bC)) ?_)
  rw [if_neg (dFb hF)]
def rP:List U→Out→Prop:=fun us o=> ∃ (a b:Int),us=[.int a,.int b]∧o=.val (.bl (decide (a=b)))
set_option maxHeartbeats 8000000 in
theorem gQ (T:Txt K mg):bh P w K mg base (CXF P w) 1 T.a__law_good T.d__law_good ["found","due"] (spU K (rP)):=by
 refine bq T.F__law_good lK (fun us o h=> ?_) (fun cdv A outer s H E O us o hr h=> ?_)
 ·obtain ⟨a,b,rfl,rfl⟩:=h
  rfl
 obtain ⟨a,b,rfl,rfl⟩:=h
 refine Ws.nox ?_
 refine af (aF (eV (ao (aD (by intro _ h; cases h) (by walk_at "kit")) rfl T.z_isinstance boot_isinstance (ac (aa 0 rfl) (ac (dk rfl T.z_int boot_int) am ag) ag)) (fun hz=> (eV (gx (ao (aD (by intro _ h; cases h) (by walk_at "kit")) rfl T.z_isinstance boot_isinstance (ac (aa 0 rfl) (ac (dk rfl T.z_bool boot_bool) am ag) ag))) (fun hz=> (f_ (j6 cQ (aa 0 rfl) (aa 1 rfl))))))) ?_)
 exact vB (by simp)
end
section
variable {P:Program} {w:World} {K:PySem.W.Frag} {mg:Str→Option Value} {base:Heap}
def pd (a y:Int) (j:Nat):List P2:=(bv y j).map fun b=> (a,b)
theorem kr (a:Int) (n:Nat):bv a (n+1)=bv a n++[a+(n:Int)]:=by
 unfold bv
 rw [List.range_succ,List.map_append]; rfl
theorem rX (a y:Int) (j:Nat):pd a y (j+1)=pd a y j++[(a,y+(j:Int))]:=by
 unfold pd
 rw [kr,List.map_append]; rfl
theorem qM (x:Int) (n:Nat) (y:Int) (m:Nat):ix x (n+1) y m=ix x n y m++pd (x+(n:Int)) y m:=by
 unfold ix pd
 rw [kr,List.map_append,List.flatten_append]
 congr 1
 show [List.map _ _].flatten=_
 rw [List.flatten_cons,List.flatten_nil,List.append_nil]
def tkn (l:List P2) (a b c:Int) (p:P2):Bool:=bJ l p && decide (a * p.1+b * p.2≤c)
def nh (l:List P2) (a b c:Int) (W:List P2):Int:=((W.filter (tkn l a b c)).length:Nat)
theorem qR (l:List P2) (a b c:Int) (W:List P2) (p:P2):nh l a b c (W++[p])=nh l a b c W+(if tkn l a b c p=true then 1 else 0):=by
 unfold nh
 rw [List.filter_append,List.length_append]
 by_cases h:tkn l a b c p=true
 ·rw [if_pos h,List.filter_cons_of_pos h]; simp
 ·rw [if_neg h,List.filter_cons_of_neg h]; simp
theorem uf {l:List P2} (F:Fld l) (hz:∀ p∈l,nv 4 p) (a b c:Int):nh l a b c (ix (-4) 9 (-4) 9)=eX l fun p=> decide (a * p.1+b * p.2≤c):=by
 refine (ua F (gz _ _ _ _) fun p hp=> ?_).symm
 have h:=(ck F.ne).mp hp
 have hx:l.map (·.1)≠[]:=by simpa using F.ne
 have hy:l.map (·.2)≠[]:=by simpa using F.ne
 obtain ⟨q1,m1,e1⟩:=List.mem_map.mp (bY hx).1
 obtain ⟨q2,m2,e2⟩:=List.mem_map.mp (cu hx).1
 obtain ⟨q3,m3,e3⟩:=List.mem_map.mp (bY hy).1
 obtain ⟨q4,m4,e4⟩:=List.mem_map.mp (cu hy).1
 have n1:=hz _ m1
 have n2:=hz _ m2
 have n3:=hz _ m3
 have n4:=hz _ m4
 unfold nv at n1 n2 n3 n4
 unfold loX hiX loY hiY at h
 exact lY.mpr (by omega)
set_option maxHeartbeats 8000000 in
theorem yx (T:Txt K mg):bh P w K mg base (CXF P w) 9 T.a_law T.d_law ["script"] (spU K (gO)):=by
 refine bq T.F_law bK (fun us o h=> ?_) (fun cdv A outer s H E O us o hr h=> ?_)
 ·obtain ⟨ns,rfl,h63,hB,rfl⟩:=h
  rfl
 obtain ⟨ns,rfl,h63,hB,rfl⟩:=h
 refine Ws.nox ?_
 have hN:=qv ns
 have pl:=vc ns
 have pne:j3 ns≠[]:=fun e=> by rw [e] at pl; simp at pl; omega
 have F:Fld (aj (j3 ns)):=⟨iI pne,kG _⟩
 have cn:∀ p∈aj (j3 ns),nv 4 p:=fun p hp=> kn ns p (aB _ p hp)
 have cl:(aj (j3 ns)).length≤60:=Nat.le_trans (iV _) (by omega)
 have c0:=dX hB (k:=0) (by decide) (by decide)
 have c1:=dX hB (k:=1) (by decide) (by decide)
 have c2:=dX hB (k:=2) (by decide) (by decide)
 have c6:=dX hB (k:=6) (by decide) (by decide)
 have c7:=dX hB (k:=7) (by decide) (by decide)
 refine af (aC (i:=1) bK.nd rfl (Or.inl rfl) (EvN.ev (cw ((eT T).mono (by decide)) hr rfl T.m__law_corners T.F__law_corners.kp T.b__law_corners aA (ac (EvN.ev (cw ((jC T).mono (by decide)) hr rfl T.m__law_points T.F__law_points.kp T.b__law_points aA (ac (aa 0 rfl) am ag) ⟨ns,rfl,h63,hB,rfl⟩)) am bV) ⟨j3 ns,rfl,fun p hp=> Szp.mono (p6 (by decide) (kn ns p hp)) (by decide),by omega,rfl⟩)) ?_)
 generalize aj (j3 ns)=land at *
 have s8:∀ p∈land,Szp 8 p:=fun p hp=> p6 (by decide) (cn p hp)
 refine af (aC (i:=2) bK.nd rfl (Or.inl rfl) (aZ (cP (aE ((bg T).mono (by decide)) hr rfl T.m__law_cell T.F__law_cell.kp T.b__law_cell aA (ac (aa 0 rfl) (ac ah am bN) ag) ⟨ns,_,rfl,h63,by decide,by decide,rfl⟩) ah (by walk_at "mod")) ah) ?_)
 refine af (aC (i:=3) bK.nd rfl (Or.inl rfl) (aZ (cP (aE ((bg T).mono (by decide)) hr rfl T.m__law_cell T.F__law_cell.kp T.b__law_cell aA (ac (aa 0 rfl) (ac ah am bN) ag) ⟨ns,_,rfl,h63,by decide,by decide,rfl⟩) ah (by walk_at "mod")) ah) ?_)
 refine af (aC (i:=4) bK.nd rfl (Or.inl rfl) (aZ (cP (aE ((bg T).mono (by decide)) hr rfl T.m__law_cell T.F__law_cell.kp T.b__law_cell aA (ac (aa 0 rfl) (ac ah am bN) ag) ⟨ns,_,rfl,h63,by decide,by decide,rfl⟩) ah (by walk_at "mod")) ah) ?_)
 have ba:-4≤cel ns 0 % 9 - 4∧cel ns 0 % 9 - 4≤4:=by omega
 have bb:-4≤cel ns 1 % 9 - 4∧cel ns 1 % 9 - 4≤4:=by omega
 have bc:-30≤cel ns 2 % 61 - 30∧cel ns 2 % 61 - 30≤30:=by omega
 generalize cel ns 0 % 9 - 4=a at *
 generalize cel ns 1 % 9 - 4=b at *
 generalize cel ns 2 % 61 - 30=c at *
 have sa:Sz 8 a:=by unfold Sz; omega
 have sb:Sz 8 b:=by unfold Sz; omega
 have sc:Sz 8 c:=by unfold Sz; omega
 refine af (aC (i:=5) bK.nd rfl (Or.inl rfl) ah ?_)
 refine af (ij (fun i:Nat=> [some (.val (.scr (ns.map U.int))),some (.val (lp land)),some (.val (.int a)),some (.val (.int b)),some (.val (.int c)),some (.val (.int (nh land a b c (ix (-4) i (-4) 9)))),none,none,none,none,none,none,none,none,none,none,none,none]) (fun i j=> i=j) rfl PassesOwn.never (i9 rfl T.z_range (ac (dh ah) (ac ah am bN) g6) (by omega)) ?h0 ?hs ?hd)
 case h0=> exact ⟨0,rfl,rfl,rfl,rfl,rfl,rfl,rfl,trivial⟩
 case hs=>
  rintro H0 i x _ hx rfl
  obtain ⟨hi,rfl⟩:=eR hx
  have hi':i < 9:=by omega
  refine ⟨_,(g8 (i:=6) bK.nd rfl (Or.inl rfl)),?_⟩
  refine af (ij (fun j:Nat=> [some (.val (.scr (ns.map U.int))),some (.val (lp land)),some (.val (.int a)),some (.val (.int b)),some (.val (.int c)),some (.val (.int (nh land a b c (ix (-4) i (-4) 9++pd (-4+(i:Int)) (-4) j)))),some (.val (.int (-4+(i:Int)))),none,none,none,none,none,none,none,none,none,none,none]) (fun i j=> i=j) rfl PassesOwn.never (i9 rfl T.z_range (ac (dh ah) (ac ah am bN) g6) (by omega)) ?h02 ?hs2 ?hd2)
  case h02=>
   refine ⟨0,rfl,rfl,rfl,rfl,rfl,rfl,?_,rfl,trivial⟩
   exact congrArg (fun z=> some (Sl.val (.int z))) (show nh land a b c _=nh land a b c (_++[]) by rw [List.append_nil])
  case hs2=>
   rintro H1 j y _ hy rfl
   obtain ⟨hj,rfl⟩:=eR hy
   have hj':j < 9:=by omega
   refine ⟨_,(g8 (i:=7) bK.nd rfl (Or.inl rfl)),?_⟩
   have sx:Sz 8 (-4+(i:Int)):=by unfold Sz; omega
   have sy:Sz 8 (-4+(j:Int)):=by unfold Sz; omega
   have hst:=qR land a b c (ix (-4) i (-4) 9++pd (-4+(i:Int)) (-4) j) (-4+(i:Int),-4+(j:Int))
   rw [List.append_assoc,← rX] at hst
   have et:tkn land a b c (-4+(i:Int),-4+(j:Int))=(decide (a * (-4+(i:Int))+b * (-4+(j:Int))≤c) && bJ land (-4+(i:Int),-4+(j:Int))):=by unfold tkn; rw [Bool.and_comm]
   refine af (fQ (Tw.t (kE (aO zV (bO (aG (aa 2 rfl) (aa 6 rfl) (by walk_at "mul")) (aG (aa 3 rfl) (aa 7 rfl) (by walk_at "mul"))) (aa 4 rfl)) (fun hz=> (jO (eC (aE ((oR T).mono (by decide)) hr rfl T.m__law_in T.F__law_in.kp T.b__law_in aA (ac (aa 1 rfl) (ac (dU (aJ (aa 6 rfl) (aJ (aa 7 rfl) dr ag) ag)) am tU) ag) ⟨land,(-4+(i:Int),-4+(j:Int)),rfl,F.ne,by omega,hU (by decide) s8,⟨sx.mono (by decide),sy.mono (by decide)⟩,rfl⟩)))))) (fun hT=> ?_) (fun hF=> (aY (aY ?_))))
   ·refine af (aC (i:=5) bK.nd rfl (Or.inl rfl) (bO (aa 5 rfl) ah) (aY (aY ?_)))
    refine ⟨j+1,rfl,rfl,rfl,rfl,rfl,rfl,?_,rfl,trivial⟩
    exact congrArg (fun z=> some (Sl.val (.int z))) (by rw [hst,et,if_pos hT])
   ·refine ⟨j+1,rfl,rfl,rfl,rfl,rfl,rfl,?_,rfl,trivial⟩
    exact congrArg (fun z=> some (Sl.val (.int z))) (by rw [hst,et,hF]; simp)
  case hd2=>
   rintro q ps hq hps
   rw [cT] at hq
   have:q=9:=by omega
   subst this
   refine aY ?_
   refine ⟨i+1,rfl,SubP.trans ?_ hps⟩
   refine ⟨rfl,rfl,rfl,rfl,rfl,?_,trivial⟩
   exact congrArg (fun z=> some (Sl.val (.int z))) (by rw [qM])
 case hd=>
  rintro q ps hq hps
  refine gd ?_ hps
  rw [cT] at hq
  have:q=9:=by omega
  subst this
  rw [uf F cn]
  refine af (aC (i:=8) bK.nd rfl (Or.inl rfl) (EvN.ev (vK (zn rfl) rfl T.z_list boot_list (ac (aa 1 rfl) am ag))) ?_)
  refine af (ff (Tw.t (vv (fe (eC (aE ((gQ T).mono (by decide)) hr rfl T.m__law_good T.F__law_good.kp T.b__law_good aA (ac (aE ((mL T).mono (by decide)) hr rfl T.m_share T.F_share.kp T.b_share aA (ac (aa 8 rfl) (ac (aa 2 rfl) (ac (aa 3 rfl) (ac (aa 4 rfl) am ag) ag) ag) ag) ⟨land,a,b,c,rfl,F,by omega,hU (by decide) s8,sa.mono (by decide),sb.mono (by decide),sc.mono (by decide),rfl⟩) (ac (aa 5 rfl) am ag) bV) ⟨_,_,rfl,rfl⟩))) (fun hz=> (pI (aO (Ax (kX hr) (xy _) (xy _)) (aa 8 rfl) (aa 1 rfl)))))) (by rw [yS]; simp) (aY ?_))
  have hdet:=yq ns
  obtain ⟨z1,z2,z3,z4⟩:=ya ns
  refine af (zq (EvN.ev (cw ((jZ T).mono (by decide)) hr rfl T.m__law_table T.F__law_table.kp T.b__law_table aA (ac (aa 0 rfl) am ag) ⟨ns,rfl,h63,hB,rfl⟩)) (zK [9,10,11,12] rfl (bT (bF (i:=9) bK.nd rfl (Or.inr rfl)) (bT (bF (i:=10) bK.nd rfl (Or.inr rfl)) (bT (bF (i:=11) bK.nd rfl (Or.inr rfl)) (bT (bF (i:=12) bK.nd rfl (Or.inr rfl)) gR)))) (.inl rfl) rfl) ?_)
  generalize (dL ns).1=p at *
  generalize (dL ns).2.1=q at *
  generalize (dL ns).2.2.1=r at *
  generalize (dL ns).2.2.2=s at *
  refine af (aC (i:=13) bK.nd rfl (Or.inl rfl) (aZ (aG (aa 9 rfl) (aa 12 rfl) (by walk_at "mul")) (aG (aa 10 rfl) (aa 11 rfl) (by walk_at "mul"))) ?_)
  refine af (aC (i:=14) bK.nd rfl (Or.inr rfl) (EvN.ev (hV (aJ (cP (aG (aE ((bg T).mono (by decide)) hr rfl T.m__law_cell T.F__law_cell.kp T.b__law_cell aA (ac (aa 0 rfl) (ac ah am bN) ag) ⟨ns,_,rfl,h63,by decide,by decide,rfl⟩) ah (by walk_at "mul")) (j4 ah ah ⟨by decide,by decide,by decide⟩) (by decide+kernel)) (aJ (cP (aG (aE ((bg T).mono (by decide)) hr rfl T.m__law_cell T.F__law_cell.kp T.b__law_cell aA (ac (aa 0 rfl) (ac ah am bN) ag) ⟨ns,_,rfl,h63,by decide,by decide,rfl⟩) ah (by walk_at "mul")) (j4 ah ah ⟨by decide,by decide,by decide⟩) (by decide+kernel)) dr bC) bC))) ?_)
  have oz:∀ x:Int,Sz 134 (x % 10 ^ (40:Int).toNat):=fun x=> by
   have h1:=Int.emod_nonneg x (show (10:Int) ^ (40:Int).toNat≠0 by decide+kernel)
   have h2:=Int.emod_lt_of_pos x (show (0:Int) < 10 ^ (40:Int).toNat by decide+kernel)
   have z:Sz 134 ((10:Int) ^ (40:Int).toNat):=by decide+kernel
   exact Sz.le (by omega) z
  have o1:=oz (cel ns 6 * 982451653)
  have o2:=oz (cel ns 7 * 69621)
  generalize cel ns 6 * 982451653 % 10 ^ (40:Int).toNat=u at *
  generalize cel ns 7 * 69621 % 10 ^ (40:Int).toNat=v at *
  refine af (kI (ys:=((land.map (ap p q r s u (-v))).map pu)) (j:=15) false rfl bK.nd rfl (Or.inl rfl) (blk (ai ja) ["script","land","a","b","c","due","x","y","handed","p","q","r","s","hand_v","over","far","e","f"] [6,7] rfl rfl rfl rfl (by decide+kernel)) (eQ (aa 1 rfl) (.inl rfl)) (fun _ _ _ _=> kL rfl (bT (bF (i:=6) bK.nd rfl (Or.inl rfl)) (bT (bF (i:=7) bK.nd rfl (Or.inl rfl)) gR))) (iF (js:=[6,7]) (by decide)) ?clen ?csz ?dom ?celt ?_)
  case clen=> simp
  case csz=> rw [List.length_map]; exact Nat.le_of_lt (bw (by omega))
  case dom=>
   intro x hx
   obtain ⟨i,hi⟩:=List.mem_iff_getElem?.mp hx
   obtain ⟨p,hp,mp,rfl⟩:=sU hi
   exact ⟨_,rfl,rfl⟩
  case celt=>
   intro C s' H' fp j x y hx hy
   rw [List.map_map] at hy
   obtain ⟨w,hw,mw,rfl,rfl⟩:=fH hx hy
   have p1:=(s8 w mw).1
   have p2:=(s8 w mw).2
   have e:pu (ap p q r s u (-v) w)=.tup [.int (p * w.1+q * w.2+u),.int (r * w.1+s * w.2 - v)]:=by
    unfold ap pu
    rw [show r * w.1+s * w.2+-v=r * w.1+s * w.2 - v by omega]
   show Ev _ _ _ _ _ (pu (ap p q r s u (-v) w))
   rw [e]
   exact (dU (aJ (bO (bO (aG (aa 9 rfl) (aa 6 rfl) (by walk_at "mul")) (aG (aa 10 rfl) (aa 7 rfl) (by walk_at "mul"))) (aH (aa 14 rfl) ah rfl rfl)) (aJ (aZ (bO (aG (aa 11 rfl) (aa 6 rfl) (by walk_at "mul")) (aG (aa 12 rfl) (aa 7 rfl) (by walk_at "mul"))) (aH (aa 14 rfl) ah rfl rfl)) dr bC) bC))
  have fz:∀ w∈land.map (ap p q r s u (-v)),Szp 150 w:=fun w hw=> by
   obtain ⟨y,hy,rfl⟩:=List.mem_map.mp hw
   have y1:=(s8 y hy).1
   have y2:=(s8 y hy).2
   have n2:Sz 145 (-v):=(Sz.le (y:=v) (by omega) o2).mono (by decide)
   unfold ap
   exact ⟨(L2.Sz.add' (L2.Sz.add' (L2.Sz.mul z1 y1) (L2.Sz.mul z2 y2)) (o1.mono (n:=145) (by decide))).mono (by decide),(L2.Sz.add' (L2.Sz.add' (L2.Sz.mul z3 y1) (L2.Sz.mul z4 y2)) n2).mono (by decide)⟩
  have hz:Sz 8 (p * s - q * r):=by rcases hdet with h | h <;> rw [h] <;> decide
  have w1:Sz 146 (a * s - b * r):=(L2.Sz.sub' (L2.Sz.mul sa z4) (L2.Sz.mul sb z3)).mono (by decide)
  have w2:Sz 146 (b * p - a * q):=(L2.Sz.sub' (L2.Sz.mul sb z1) (L2.Sz.mul sa z2)).mono (by decide)
  refine af (aC (i:=16) bK.nd rfl (Or.inl rfl) (aG (aa 13 rfl) (aZ (aG (aa 2 rfl) (aa 12 rfl) (by walk_at "mul")) (aG (aa 3 rfl) (aa 11 rfl) (by walk_at "mul"))) (by walk_at "mul")) ?_)
  refine af (aC (i:=17) bK.nd rfl (Or.inl rfl) (aG (aa 13 rfl) (aZ (aG (aa 3 rfl) (aa 9 rfl) (by walk_at "mul")) (aG (aa 2 rfl) (aa 10 rfl) (by walk_at "mul"))) (by walk_at "mul")) ?_)
  have v1:Sz 160 ((p * s - q * r) * (a * s - b * r)):=(L2.Sz.mul hz w1).mono (by decide)
  have v2:Sz 160 ((p * s - q * r) * (b * p - a * q)):=(L2.Sz.mul hz w2).mono (by decide)
  have key:∀ w:P2,((p * s - q * r) * (a * s - b * r)) * (p * w.1+q * w.2+u)+((p * s - q * r) * (b * p - a * q)) * (r * w.1+s * w.2+-v)=a * w.1+b * w.2+((p * s - q * r) * (a * s - b * r)) * u - ((p * s - q * r) * (b * p - a * q)) * v:=fun w=> by
   have h2:(p * s - q * r) * (p * s - q * r)=1:=by rcases hdet with h | h <;> rw [h] <;> rfl
   have e1:((p * s - q * r) * (a * s - b * r)) * (p * w.1+q * w.2+u)+((p * s - q * r) * (b * p - a * q)) * (r * w.1+s * w.2+-v)=((p * s - q * r) * (p * s - q * r)) * (a * w.1+b * w.2)+((p * s - q * r) * (a * s - b * r)) * u - ((p * s - q * r) * (b * p - a * q)) * v:=by grind
   rw [e1,h2,Int.one_mul]
  generalize (p * s - q * r) * (a * s - b * r)=e at *
  generalize (p * s - q * r) * (b * p - a * q)=f at *
  have same:eX (aj (land.map (ap p q r s u (-v)))) (fun w=> decide (e * w.1+f * w.2≤c+e * u - f * v))=eX land fun w=> decide (a * w.1+b * w.2≤c):=by
   refine nJ u (-v) hdet F fun w=> decide_eq_decide.mpr ?_
   have:=key w
   unfold ap
   dsimp only
   omega
  have fc:∀ w∈aj (land.map (ap p q r s u (-v))),Szp 200 w:=fun w hw=> Szp.mono (fz w (aB _ w hw)) (by decide)
  have fl:(aj (land.map (ap p q r s u (-v)))).length < 64:=Nat.lt_of_le_of_lt (iV _) (by rw [List.length_map]; omega)
  have zz:Sz 500 (c+e * u - f * v):=(L2.Sz.sub' (L2.Sz.add' (sc.mono (n:=300) (by decide)) ((L2.Sz.mul v1 o1).mono (n:=300) (by decide))) ((L2.Sz.mul v2 o2).mono (n:=301) (by decide))).mono (by decide)
  refine af (aF (aE ((gQ T).mono (by decide)) hr rfl T.m__law_good T.F__law_good.kp T.b__law_good aA (ac (aE ((mL T).mono (by decide)) hr rfl T.m_share T.F_share.kp T.b_share aA (ac (EvN.ev (cw ((eT T).mono (by decide)) hr rfl T.m__law_corners T.F__law_corners.kp T.b__law_corners aA (ac (aa 15 rfl) am ag) ⟨land.map (ap p q r s u (-v)),rfl,hU (by decide) fz,by rw [List.length_map]; omega,rfl⟩)) (ac (aa 16 rfl) (ac (aa 17 rfl) (ac (aZ (bO (aa 4 rfl) (aG (aa 16 rfl) (aH (aa 14 rfl) ah rfl rfl) (by walk_at "mul"))) (aG (aa 17 rfl) (aH (aa 14 rfl) ah rfl rfl) (by walk_at "mul"))) am bC) ag) ag) bV) ⟨aj (land.map (ap p q r s u (-v))),e,f,c+e * u - f * v,rfl,kT u (-v) F,fl,fc,v1.mono (by decide),v2.mono (by decide),zz,rfl⟩) (ac (aa 5 rfl) am ag) bV) ⟨_,_,rfl,rfl⟩) ?_)
  exact vB (by rw [same]; simp)
end
theorem ar1 {p:List Value→Prop} {us:List Value} (h:us.length=1) (q:∀ a0,p [a0]):p us:=match us,h with | [a0],_=> q a0
theorem ar2 {p:List Value→Prop} {us:List Value} (h:us.length=2) (q:∀ a0 a1,p [a0,a1]):p us:=match us,h with | [a0,a1],_=> q a0 a1
theorem ar3 {p:List Value→Prop} {us:List Value} (h:us.length=3) (q:∀ a0 a1 a2,p [a0,a1,a2]):p us:=match us,h with | [a0,a1,a2],_=> q a0 a1 a2
theorem ar4 {p:List Value→Prop} {us:List Value} (h:us.length=4) (q:∀ a0 a1 a2 a3,p [a0,a1,a2,a3]):p us:=match us,h with | [a0,a1,a2,a3],_=> q a0 a1 a2 a3
set_option maxHeartbeats 8000000 in
theorem txt_mk {K:PySem.W.Frag} {h:Heap} {mg:Str→Option Value} {fa f0 f1 f2 f3 f4 f5 f6 f7 f8 f9 f10 f11 f12 f13 f14 f15 f16 f17 f18 f19 f20 f21 f22 f23 f24 f25 f26 f27 f28 f29 f30 f31 f32 f33 c_NoField c_NoMove:Addr} (X:K.In h) (G:h.Ns mainGlobals mg) (hfa:mg "law"=some (.ref fa))
  {od0 an0 od1 an1 od2 an2 od3 an3 od4 an4 od5 an5 od6 an6 od7 an7 od8 an8 od9 an9 od10 an10 od11 an11 od12 an12 od13 an13 od14 an14 od15 an15 od16 an16 od17 an17 od18 an18 od19 an19 od20 an20 od21 an21 od22 an22 od23 an23 od24 an24 od25 an25 od26 an26 od27 an27 od28 an28 od29 an29 od30 an30 od31 an31 od32 an32 od33 an33:Option Addr} {sl0 sl1 sl2 sl3 sl4 sl5 sl6 sl7 sl8 sl9 sl10 sl11 sl12 sl13 sl14 sl15 sl16 sl17 sl18 sl19 sl20 sl21 sl22 sl23 sl24 sl25 sl26 sl27 sl28 sl29 sl30 sl31 sl32 sl33:Array (Option Value)} {oc0 kV0 dc0 pm0 cd0 ct0 oc1 kV1 dc1 pm1 cd1 ct1 oc2 kV2 dc2 pm2 cd2 ct2 oc3 kV3 dc3 pm3 cd3 ct3 oc4 kV4 dc4 pm4 cd4 ct4 oc5 kV5 dc5 pm5 cd5 ct5 oc6 kV6 dc6 pm6 cd6 ct6 oc7 kV7 dc7 pm7 cd7 ct7 oc8 kV8 dc8 pm8 cd8 ct8 oc9 kV9 dc9 pm9 cd9 ct9 oc10 kV10 dc10 pm10 cd10 ct10 oc11 kV11 dc11 pm11 cd11 ct11 oc12 kV12 dc12 pm12 cd12 ct12 oc13 kV13 dc13 pm13 cd13 ct13 oc14 kV14 dc14 pm14 cd14 ct14 oc15 kV15 dc15 pm15 cd15 ct15 oc16 kV16 dc16 pm16 cd16 ct16 oc17 kV17 dc17 pm17 cd17 ct17 oc18 kV18 dc18 pm18 cd18 ct18 oc19 kV19 dc19 pm19 cd19 ct19 oc20 kV20 dc20 pm20 cd20 ct20 oc21 kV21 dc21 pm21 cd21 ct21 oc22 kV22 dc22 pm22 cd22 ct22 oc23 kV23 dc23 pm23 cd23 ct23 oc24 kV24 dc24 pm24 cd24 ct24 oc25 kV25 dc25 pm25 cd25 ct25 oc26 kV26 dc26 pm26 cd26 ct26 oc27 kV27 dc27 pm27 cd27 ct27 oc28 kV28 dc28 pm28 cd28 ct28 oc29 kV29 dc29 pm29 cd29 ct29 oc30 kV30 dc30 pm30 cd30 ct30 oc31 kV31 dc31 pm31 cd31 ct31 oc32 kV32 dc32 pm32 cd32 ct32 oc33 kV33 dc33 pm33 cd33 ct33:Value}
  (a0:PySem.W.nsIn K mainGlobals "is_whole"=some (some (.ref f0))) (l0:K.lookup f0=some ⟨oc0,od0,.func (PySem.W.fnOf "is_whole" "is_whole" (au cS) (aq cS) (ai cS) .none kV0 dc0 pm0 an0 cd0 ct0),sl0⟩) (c0:PySem.W.codeIn K cd0 "is_whole"=true) (k0:PySem.W.keepIn K (.ref f0)=true)
  (a1:PySem.W.nsIn K mainGlobals "sign"=some (some (.ref f1))) (l1:K.lookup f1=some ⟨oc1,od1,.func (PySem.W.fnOf "sign" "sign" (au h9) (aq h9) (ai h9) .none kV1 dc1 pm1 an1 cd1 ct1),sl1⟩) (c1:PySem.W.codeIn K cd1 "sign"=true) (k1:PySem.W.keepIn K (.ref f1)=true)
  (a2:PySem.W.nsIn K mainGlobals "shares"=some (some (.ref f2))) (l2:K.lookup f2=some ⟨oc2,od2,.func (PySem.W.fnOf "shares" "shares" (au d4) (aq d4) (ai d4) .none kV2 dc2 pm2 an2 cd2 ct2),sl2⟩) (c2:PySem.W.codeIn K cd2 "shares"=true) (k2:PySem.W.keepIn K (.ref f2)=true)
  (a3:PySem.W.nsIn K mainGlobals "row_sum"=some (some (.ref f3))) (l3:K.lookup f3=some ⟨oc3,od3,.func (PySem.W.fnOf "row_sum" "row_sum" (au dy) (aq dy) (ai dy) .none kV3 dc3 pm3 an3 cd3 ct3),sl3⟩) (c3:PySem.W.codeIn K cd3 "row_sum"=true) (k3:PySem.W.keepIn K (.ref f3)=true)
  (a4:PySem.W.nsIn K mainGlobals "hand"=some (some (.ref f4))) (l4:K.lookup f4=some ⟨oc4,od4,.func (PySem.W.fnOf "hand" "hand" (au g9) (aq g9) (ai g9) .none kV4 dc4 pm4 an4 cd4 ct4),sl4⟩) (c4:PySem.W.codeIn K cd4 "hand"=true) (k4:PySem.W.keepIn K (.ref f4)=true)
  (a5:PySem.W.nsIn K mainGlobals "is_move"=some (some (.ref f5))) (l5:K.lookup f5=some ⟨oc5,od5,.func (PySem.W.fnOf "is_move" "is_move" (au cW) (aq cW) (ai cW) .none kV5 dc5 pm5 an5 cd5 ct5),sl5⟩) (c5:PySem.W.codeIn K cd5 "is_move"=true) (k5:PySem.W.keepIn K (.ref f5)=true)
  (a6:PySem.W.nsIn K mainGlobals "need_move"=some (some (.ref f6))) (l6:K.lookup f6=some ⟨oc6,od6,.func (PySem.W.fnOf "need_move" "need_move" (au cJ) (aq cJ) (ai cJ) .none kV6 dc6 pm6 an6 cd6 ct6),sl6⟩) (c6:PySem.W.codeIn K cd6 "need_move"=true) (k6:PySem.W.keepIn K (.ref f6)=true)
  (a7:PySem.W.nsIn K mainGlobals "turned"=some (some (.ref f7))) (l7:K.lookup f7=some ⟨oc7,od7,.func (PySem.W.fnOf "turned" "turned" (au d5) (aq d5) (ai d5) .none kV7 dc7 pm7 an7 cd7 ct7),sl7⟩) (c7:PySem.W.codeIn K cd7 "turned"=true) (k7:PySem.W.keepIn K (.ref f7)=true)
  (a8:PySem.W.nsIn K mainGlobals "moved"=some (some (.ref f8))) (l8:K.lookup f8=some ⟨oc8,od8,.func (PySem.W.fnOf "moved" "moved" (au fJ) (aq fJ) (ai fJ) .none kV8 dc8 pm8 an8 cd8 ct8),sl8⟩) (c8:PySem.W.codeIn K cd8 "moved"=true) (k8:PySem.W.keepIn K (.ref f8)=true)
  (a9:PySem.W.nsIn K mainGlobals "steps"=some (some (.ref f9))) (l9:K.lookup f9=some ⟨oc9,od9,.func (PySem.W.fnOf "steps" "steps" (au fI) (aq fI) (ai fI) .none kV9 dc9 pm9 an9 cd9 ct9),sl9⟩) (c9:PySem.W.codeIn K cd9 "steps"=true) (k9:PySem.W.keepIn K (.ref f9)=true)
  (a10:PySem.W.nsIn K mainGlobals "turn"=some (some (.ref f10))) (l10:K.lookup f10=some ⟨oc10,od10,.func (PySem.W.fnOf "turn" "turn" (au ik) (aq ik) (ai ik) .none kV10 dc10 pm10 an10 cd10 ct10),sl10⟩) (c10:PySem.W.codeIn K cd10 "turn"=true) (k10:PySem.W.keepIn K (.ref f10)=true)
  (a11:PySem.W.nsIn K mainGlobals "left_bends"=some (some (.ref f11))) (l11:K.lookup f11=some ⟨oc11,od11,.func (PySem.W.fnOf "left_bends" "left_bends" (au cg) (aq cg) (ai cg) .none kV11 dc11 pm11 an11 cd11 ct11),sl11⟩) (c11:PySem.W.codeIn K cd11 "left_bends"=true) (k11:PySem.W.keepIn K (.ref f11)=true)
  (a12:PySem.W.nsIn K mainGlobals "field"=some (some (.ref f12))) (l12:K.lookup f12=some ⟨oc12,od12,.func (PySem.W.fnOf "field" "field" (au fN) (aq fN) (ai fN) .none kV12 dc12 pm12 an12 cd12 ct12),sl12⟩) (c12:PySem.W.codeIn K cd12 "field"=true) (k12:PySem.W.keepIn K (.ref f12)=true)
  (a13:PySem.W.nsIn K mainGlobals "sides"=some (some (.ref f13))) (l13:K.lookup f13=some ⟨oc13,od13,.func (PySem.W.fnOf "sides" "sides" (au fP) (aq fP) (ai fP) .none kV13 dc13 pm13 an13 cd13 ct13),sl13⟩) (c13:PySem.W.codeIn K cd13 "sides"=true) (k13:PySem.W.keepIn K (.ref f13)=true)
  (a14:PySem.W.nsIn K mainGlobals "double_area"=some (some (.ref f14))) (l14:K.lookup f14=some ⟨oc14,od14,.func (PySem.W.fnOf "double_area" "double_area" (au bI) (aq bI) (ai bI) .none kV14 dc14 pm14 an14 cd14 ct14),sl14⟩) (c14:PySem.W.codeIn K cd14 "double_area"=true) (k14:PySem.W.keepIn K (.ref f14)=true)
  (a15:PySem.W.nsIn K mainGlobals "rim"=some (some (.ref f15))) (l15:K.lookup f15=some ⟨oc15,od15,.func (PySem.W.fnOf "rim" "rim" (au jQ) (aq jQ) (ai jQ) .none kV15 dc15 pm15 an15 cd15 ct15),sl15⟩) (c15:PySem.W.codeIn K cd15 "rim"=true) (k15:PySem.W.keepIn K (.ref f15)=true)
  (a16:PySem.W.nsIn K mainGlobals "field_moved"=some (some (.ref f16))) (l16:K.lookup f16=some ⟨oc16,od16,.func (PySem.W.fnOf "field_moved" "field_moved" (au bL) (aq bL) (ai bL) .none kV16 dc16 pm16 an16 cd16 ct16),sl16⟩) (c16:PySem.W.codeIn K cd16 "field_moved"=true) (k16:PySem.W.keepIn K (.ref f16)=true)
  (a17:PySem.W.nsIn K mainGlobals "fold"=some (some (.ref f17))) (l17:K.lookup f17=some ⟨oc17,od17,.func (PySem.W.fnOf "fold" "fold" (au gh) (aq gh) (ai gh) .none kV17 dc17 pm17 an17 cd17 ct17),sl17⟩) (c17:PySem.W.codeIn K cd17 "fold"=true) (k17:PySem.W.keepIn K (.ref f17)=true)
  (a18:PySem.W.nsIn K mainGlobals "multiple"=some (some (.ref f18))) (l18:K.lookup f18=some ⟨oc18,od18,.func (PySem.W.fnOf "multiple" "multiple" (au cV) (aq cV) (ai cV) .none kV18 dc18 pm18 an18 cd18 ct18),sl18⟩) (c18:PySem.W.codeIn K cd18 "multiple"=true) (k18:PySem.W.keepIn K (.ref f18)=true)
  (a19:PySem.W.nsIn K mainGlobals "points_in"=some (some (.ref f19))) (l19:K.lookup f19=some ⟨oc19,od19,.func (PySem.W.fnOf "points_in" "points_in" (au cF) (aq cF) (ai cF) .none kV19 dc19 pm19 an19 cd19 ct19),sl19⟩) (c19:PySem.W.codeIn K cd19 "points_in"=true) (k19:PySem.W.keepIn K (.ref f19)=true)
  {D20:Addr} {dod20 dn20 dsl20 dt20:_} (q20:K.lookup D20=some ⟨.type "tuple",dod20,.seq #[.int 1 dt20] dn20,dsl20⟩)
  (a20:PySem.W.nsIn K mainGlobals "count"=some (some (.ref f20))) (l20:K.lookup f20=some ⟨oc20,od20,.func (PySem.W.fnOf "count" "count" (au cB) (aq cB) (ai cB) (.ref D20) kV20 dc20 pm20 an20 cd20 ct20),sl20⟩) (c20:PySem.W.codeIn K cd20 "count"=true) (k20:PySem.W.keepIn K (.ref f20)=true)
  (a21:PySem.W.nsIn K mainGlobals "side_part"=some (some (.ref f21))) (l21:K.lookup f21=some ⟨oc21,od21,.func (PySem.W.fnOf "side_part" "side_part" (au cL) (aq cL) (ai cL) .none kV21 dc21 pm21 an21 cd21 ct21),sl21⟩) (c21:PySem.W.codeIn K cd21 "side_part"=true) (k21:PySem.W.keepIn K (.ref f21)=true)
  (a22:PySem.W.nsIn K mainGlobals "last_column"=some (some (.ref f22))) (l22:K.lookup f22=some ⟨oc22,od22,.func (PySem.W.fnOf "last_column" "last_column" (au bG) (aq bG) (ai bG) .none kV22 dc22 pm22 an22 cd22 ct22),sl22⟩) (c22:PySem.W.codeIn K cd22 "last_column"=true) (k22:PySem.W.keepIn K (.ref f22)=true)
  (a23:PySem.W.nsIn K mainGlobals "columns"=some (some (.ref f23))) (l23:K.lookup f23=some ⟨oc23,od23,.func (PySem.W.fnOf "columns" "columns" (au cR) (aq cR) (ai cR) .none kV23 dc23 pm23 an23 cd23 ct23),sl23⟩) (c23:PySem.W.codeIn K cd23 "columns"=true) (k23:PySem.W.keepIn K (.ref f23)=true)
  (a24:PySem.W.nsIn K mainGlobals "share"=some (some (.ref f24))) (l24:K.lookup f24=some ⟨oc24,od24,.func (PySem.W.fnOf "share" "share" (au fO) (aq fO) (ai fO) .none kV24 dc24 pm24 an24 cd24 ct24),sl24⟩) (c24:PySem.W.codeIn K cd24 "share"=true) (k24:PySem.W.keepIn K (.ref f24)=true)
  (a25:PySem.W.nsIn K mainGlobals "_law_cell"=some (some (.ref f25))) (l25:K.lookup f25=some ⟨oc25,od25,.func (PySem.W.fnOf "_law_cell" "_law_cell" (au cE) (aq cE) (ai cE) .none kV25 dc25 pm25 an25 cd25 ct25),sl25⟩) (c25:PySem.W.codeIn K cd25 "_law_cell"=true) (k25:PySem.W.keepIn K (.ref f25)=true)
  (a26:PySem.W.nsIn K mainGlobals "_law_side"=some (some (.ref f26))) (l26:K.lookup f26=some ⟨oc26,od26,.func (PySem.W.fnOf "_law_side" "_law_side" (au cG) (aq cG) (ai cG) .none kV26 dc26 pm26 an26 cd26 ct26),sl26⟩) (c26:PySem.W.codeIn K cd26 "_law_side"=true) (k26:PySem.W.keepIn K (.ref f26)=true)
  (a27:PySem.W.nsIn K mainGlobals "_law_half"=some (some (.ref f27))) (l27:K.lookup f27=some ⟨oc27,od27,.func (PySem.W.fnOf "_law_half" "_law_half" (au cH) (aq cH) (ai cH) .none kV27 dc27 pm27 an27 cd27 ct27),sl27⟩) (c27:PySem.W.codeIn K cd27 "_law_half"=true) (k27:PySem.W.keepIn K (.ref f27)=true)
  (a28:PySem.W.nsIn K mainGlobals "_law_corners"=some (some (.ref f28))) (l28:K.lookup f28=some ⟨oc28,od28,.func (PySem.W.fnOf "_law_corners" "_law_corners" (au bP) (aq bP) (ai bP) .none kV28 dc28 pm28 an28 cd28 ct28),sl28⟩) (c28:PySem.W.codeIn K cd28 "_law_corners"=true) (k28:PySem.W.keepIn K (.ref f28)=true)
  (a29:PySem.W.nsIn K mainGlobals "_law_in"=some (some (.ref f29))) (l29:K.lookup f29=some ⟨oc29,od29,.func (PySem.W.fnOf "_law_in" "_law_in" (au dA) (aq dA) (ai dA) .none kV29 dc29 pm29 an29 cd29 ct29),sl29⟩) (c29:PySem.W.codeIn K cd29 "_law_in"=true) (k29:PySem.W.keepIn K (.ref f29)=true)
  (a30:PySem.W.nsIn K mainGlobals "_law_points"=some (some (.ref f30))) (l30:K.lookup f30=some ⟨oc30,od30,.func (PySem.W.fnOf "_law_points" "_law_points" (au bU) (aq bU) (ai bU) .none kV30 dc30 pm30 an30 cd30 ct30),sl30⟩) (c30:PySem.W.codeIn K cd30 "_law_points"=true) (k30:PySem.W.keepIn K (.ref f30)=true)
  (a31:PySem.W.nsIn K mainGlobals "_law_table"=some (some (.ref f31))) (l31:K.lookup f31=some ⟨oc31,od31,.func (PySem.W.fnOf "_law_table" "_law_table" (au ci) (aq ci) (ai ci) .none kV31 dc31 pm31 an31 cd31 ct31),sl31⟩) (c31:PySem.W.codeIn K cd31 "_law_table"=true) (k31:PySem.W.keepIn K (.ref f31)=true)
  (a32:PySem.W.nsIn K mainGlobals "_law_good"=some (some (.ref f32))) (l32:K.lookup f32=some ⟨oc32,od32,.func (PySem.W.fnOf "_law_good" "_law_good" (au cI) (aq cI) (ai cI) .none kV32 dc32 pm32 an32 cd32 ct32),sl32⟩) (c32:PySem.W.codeIn K cd32 "_law_good"=true) (k32:PySem.W.keepIn K (.ref f32)=true)
  (a33:PySem.W.nsIn K mainGlobals "law"=some (some (.ref f33))) (l33:K.lookup f33=some ⟨oc33,od33,.func (PySem.W.fnOf "law" "law" (au ja) (aq ja) (ai ja) .none kV33 dc33 pm33 an33 cd33 ct33),sl33⟩) (c33:PySem.W.codeIn K cd33 "law"=true) (k33:PySem.W.keepIn K (.ref f33)=true)
  (e_NoField:PySem.W.nsIn K mainGlobals "NoField"=some (some (.ref c_NoField))) (x_NoField:PySem.W.excIn K c_NoField [.type "ValueError",.type "Exception",.type "BaseException",.type "object"] "ValueError.__new__"=true)
  (e_NoMove:PySem.W.nsIn K mainGlobals "NoMove"=some (some (.ref c_NoMove))) (x_NoMove:PySem.W.excIn K c_NoMove [.type "ValueError",.type "Exception",.type "BaseException",.type "object"] "ValueError.__new__"=true)
  (z_abs:PySem.W.nsIn K mainGlobals "abs"=some none)
  (z_all:PySem.W.nsIn K mainGlobals "all"=some none)
  (z_bool:PySem.W.nsIn K mainGlobals "bool"=some none)
  (z_int:PySem.W.nsIn K mainGlobals "int"=some none)
  (z_isinstance:PySem.W.nsIn K mainGlobals "isinstance"=some none)
  (z_len:PySem.W.nsIn K mainGlobals "len"=some none)
  (z_list:PySem.W.nsIn K mainGlobals "list"=some none)
  (z_max:PySem.W.nsIn K mainGlobals "max"=some none)
  (z_min:PySem.W.nsIn K mainGlobals "min"=some none)
  (z_range:PySem.W.nsIn K mainGlobals "range"=some none)
  (z_reversed:PySem.W.nsIn K mainGlobals "reversed"=some none)
  (z_set:PySem.W.nsIn K mainGlobals "set"=some none)
  (z_sorted:PySem.W.nsIn K mainGlobals "sorted"=some none)
  (z_sum:PySem.W.nsIn K mainGlobals "sum"=some none)
  (z_tuple:PySem.W.nsIn K mainGlobals "tuple"=some none)
  (z_zip:PySem.W.nsIn K mainGlobals "zip"=some none)
  :∃ T:Txt K mg,T.a_law=fa∧(∀ (s:Shared) (v:Value),BindsTo s T.d_law ⟨[v],[]⟩ [("script",v)]):=by
 have e:=hfa.symm.trans (PySem.W.mg_of X G a33)
 cases e
 have F0:=aT (st:=cS) l0 c0 k0
 have b0:=F0.binds (ps:=["thing"]) fun _ _ _ _ _ _ us hl=> ar1 (p:=fun us=> bindArgs _ ⟨us,[]⟩=pure (List.zip _ us)) hl fun _=> rfl
 have F1:=aT (st:=h9) l1 c1 k1
 have b1:=F1.binds (ps:=["number"]) fun _ _ _ _ _ _ us hl=> ar1 (p:=fun us=> bindArgs _ ⟨us,[]⟩=pure (List.zip _ us)) hl fun _=> rfl
 have F2:=aT (st:=d4) l2 c2 k2
 have b2:=F2.binds (ps:=["a","b"]) fun _ _ _ _ _ _ us hl=> ar2 (p:=fun us=> bindArgs _ ⟨us,[]⟩=pure (List.zip _ us)) hl fun _ _=> rfl
 have F3:=aT (st:=dy) l3 c3 k3
 have b3:=F3.binds (ps:=["many","step","start","part"]) fun _ _ _ _ _ _ us hl=> ar4 (p:=fun us=> bindArgs _ ⟨us,[]⟩=pure (List.zip _ us)) hl fun _ _ _ _=> rfl
 have F4:=aT (st:=g9) l4 c4 k4
 have b4:=F4.binds (ps:=["move"]) fun _ _ _ _ _ _ us hl=> ar1 (p:=fun us=> bindArgs _ ⟨us,[]⟩=pure (List.zip _ us)) hl fun _=> rfl
 have F5:=aT (st:=cW) l5 c5 k5
 have b5:=F5.binds (ps:=["thing"]) fun _ _ _ _ _ _ us hl=> ar1 (p:=fun us=> bindArgs _ ⟨us,[]⟩=pure (List.zip _ us)) hl fun _=> rfl
 have F6:=aT (st:=cJ) l6 c6 k6
 have b6:=F6.binds (ps:=["thing"]) fun _ _ _ _ _ _ us hl=> ar1 (p:=fun us=> bindArgs _ ⟨us,[]⟩=pure (List.zip _ us)) hl fun _=> rfl
 have F7:=aT (st:=d5) l7 c7 k7
 have b7:=F7.binds (ps:=["P","move"]) fun _ _ _ _ _ _ us hl=> ar2 (p:=fun us=> bindArgs _ ⟨us,[]⟩=pure (List.zip _ us)) hl fun _ _=> rfl
 have F8:=aT (st:=fJ) l8 c8 k8
 have b8:=F8.binds (ps:=["P","move"]) fun _ _ _ _ _ _ us hl=> ar2 (p:=fun us=> bindArgs _ ⟨us,[]⟩=pure (List.zip _ us)) hl fun _ _=> rfl
 have F9:=aT (st:=fI) l9 c9 k9
 have b9:=F9.binds (ps:=["P","Q"]) fun _ _ _ _ _ _ us hl=> ar2 (p:=fun us=> bindArgs _ ⟨us,[]⟩=pure (List.zip _ us)) hl fun _ _=> rfl
 have F10:=aT (st:=ik) l10 c10 k10
 have b10:=F10.binds (ps:=["P","Q","R"]) fun _ _ _ _ _ _ us hl=> ar3 (p:=fun us=> bindArgs _ ⟨us,[]⟩=pure (List.zip _ us)) hl fun _ _ _=> rfl
 have F11:=aT (st:=cg) l11 c11 k11
 have b11:=F11.binds (ps:=["row"]) fun _ _ _ _ _ _ us hl=> ar1 (p:=fun us=> bindArgs _ ⟨us,[]⟩=pure (List.zip _ us)) hl fun _=> rfl
 have F12:=aT (st:=fN) l12 c12 k12
 have b12:=F12.binds (ps:=["points"]) fun _ _ _ _ _ _ us hl=> ar1 (p:=fun us=> bindArgs _ ⟨us,[]⟩=pure (List.zip _ us)) hl fun _=> rfl
 have F13:=aT (st:=fP) l13 c13 k13
 have b13:=F13.binds (ps:=["land"]) fun _ _ _ _ _ _ us hl=> ar1 (p:=fun us=> bindArgs _ ⟨us,[]⟩=pure (List.zip _ us)) hl fun _=> rfl
 have F14:=aT (st:=bI) l14 c14 k14
 have b14:=F14.binds (ps:=["land"]) fun _ _ _ _ _ _ us hl=> ar1 (p:=fun us=> bindArgs _ ⟨us,[]⟩=pure (List.zip _ us)) hl fun _=> rfl
 have F15:=aT (st:=jQ) l15 c15 k15
 have b15:=F15.binds (ps:=["land"]) fun _ _ _ _ _ _ us hl=> ar1 (p:=fun us=> bindArgs _ ⟨us,[]⟩=pure (List.zip _ us)) hl fun _=> rfl
 have F16:=aT (st:=bL) l16 c16 k16
 have b16:=F16.binds (ps:=["land","move"]) fun _ _ _ _ _ _ us hl=> ar2 (p:=fun us=> bindArgs _ ⟨us,[]⟩=pure (List.zip _ us)) hl fun _ _=> rfl
 have F17:=aT (st:=gh) l17 c17 k17
 have b17:=F17.binds (ps:=["land","k"]) fun _ _ _ _ _ _ us hl=> ar2 (p:=fun us=> bindArgs _ ⟨us,[]⟩=pure (List.zip _ us)) hl fun _ _=> rfl
 have F18:=aT (st:=cV) l18 c18 k18
 have b18:=F18.binds (ps:=["land","k"]) fun _ _ _ _ _ _ us hl=> ar2 (p:=fun us=> bindArgs _ ⟨us,[]⟩=pure (List.zip _ us)) hl fun _ _=> rfl
 have F19:=aT (st:=cF) l19 c19 k19
 have b19:=F19.binds (ps:=["land"]) fun _ _ _ _ _ _ us hl=> ar1 (p:=fun us=> bindArgs _ ⟨us,[]⟩=pure (List.zip _ us)) hl fun _=> rfl
 have F20:=vJ (st:=cB) l20 c20 k20
 have b20:aQ K (PySem.W.fnOf "count" "count" (au cB) (aq cB) (ai cB) (.ref D20) kV20 dc20 pm20 an20 cd20 ct20) ["land","k"] []:=fun s us X hl=> match us,hl with | [_,_],_=> BindsTo.of_defaults rfl (X _ _ q20) rfl rfl rfl
 have bd20:∃ t,aQ K (PySem.W.fnOf "count" "count" (au cB) (aq cB) (ai cB) (.ref D20) kV20 dc20 pm20 an20 cd20 ct20) ["land","k"] [.int 1 t]:=⟨dt20,fun s us X hl=> match us,(show us.length=1 by simpa using hl) with | [_],_=> BindsTo.of_defaults rfl (X _ _ q20) rfl rfl rfl⟩
 have F21:=aT (st:=cL) l21 c21 k21
 have b21:=F21.binds (ps:=["A","B","left","right"]) fun _ _ _ _ _ _ us hl=> ar4 (p:=fun us=> bindArgs _ ⟨us,[]⟩=pure (List.zip _ us)) hl fun _ _ _ _=> rfl
 have F22:=aT (st:=bG) l22 c22 k22
 have b22:=F22.binds (ps:=["land","left","right"]) fun _ _ _ _ _ _ us hl=> ar3 (p:=fun us=> bindArgs _ ⟨us,[]⟩=pure (List.zip _ us)) hl fun _ _ _=> rfl
 have F23:=aT (st:=cR) l23 c23 k23
 have b23:=F23.binds (ps:=["land","left","right"]) fun _ _ _ _ _ _ us hl=> ar3 (p:=fun us=> bindArgs _ ⟨us,[]⟩=pure (List.zip _ us)) hl fun _ _ _=> rfl
 have F24:=aT (st:=fO) l24 c24 k24
 have b24:=F24.binds (ps:=["land","a","b","c"]) fun _ _ _ _ _ _ us hl=> ar4 (p:=fun us=> bindArgs _ ⟨us,[]⟩=pure (List.zip _ us)) hl fun _ _ _ _=> rfl
 have F25:=aT (st:=cE) l25 c25 k25
 have b25:=F25.binds (ps:=["script","k"]) fun _ _ _ _ _ _ us hl=> ar2 (p:=fun us=> bindArgs _ ⟨us,[]⟩=pure (List.zip _ us)) hl fun _ _=> rfl
 have F26:=aT (st:=cG) l26 c26 k26
 have b26:=F26.binds (ps:=["a","b","p"]) fun _ _ _ _ _ _ us hl=> ar3 (p:=fun us=> bindArgs _ ⟨us,[]⟩=pure (List.zip _ us)) hl fun _ _ _=> rfl
 have F27:=aT (st:=cH) l27 c27 k27
 have b27:=F27.binds (ps:=["points"]) fun _ _ _ _ _ _ us hl=> ar1 (p:=fun us=> bindArgs _ ⟨us,[]⟩=pure (List.zip _ us)) hl fun _=> rfl
 have F28:=aT (st:=bP) l28 c28 k28
 have b28:=F28.binds (ps:=["points"]) fun _ _ _ _ _ _ us hl=> ar1 (p:=fun us=> bindArgs _ ⟨us,[]⟩=pure (List.zip _ us)) hl fun _=> rfl
 have F29:=aT (st:=dA) l29 c29 k29
 have b29:=F29.binds (ps:=["land","p"]) fun _ _ _ _ _ _ us hl=> ar2 (p:=fun us=> bindArgs _ ⟨us,[]⟩=pure (List.zip _ us)) hl fun _ _=> rfl
 have F30:=aT (st:=bU) l30 c30 k30
 have b30:=F30.binds (ps:=["script"]) fun _ _ _ _ _ _ us hl=> ar1 (p:=fun us=> bindArgs _ ⟨us,[]⟩=pure (List.zip _ us)) hl fun _=> rfl
 have F31:=aT (st:=ci) l31 c31 k31
 have b31:=F31.binds (ps:=["script"]) fun _ _ _ _ _ _ us hl=> ar1 (p:=fun us=> bindArgs _ ⟨us,[]⟩=pure (List.zip _ us)) hl fun _=> rfl
 have F32:=aT (st:=cI) l32 c32 k32
 have b32:=F32.binds (ps:=["found","due"]) fun _ _ _ _ _ _ us hl=> ar2 (p:=fun us=> bindArgs _ ⟨us,[]⟩=pure (List.zip _ us)) hl fun _ _=> rfl
 have F33:=aT (st:=ja) l33 c33 k33
 have b33:=F33.binds (ps:=["script"]) fun _ _ _ _ _ _ us hl=> ar1 (p:=fun us=> bindArgs _ ⟨us,[]⟩=pure (List.zip _ us)) hl fun _=> rfl
 exact ⟨⟨_,_,F0,b0,PySem.W.mg_of X G a0,_,_,F1,b1,PySem.W.mg_of X G a1,_,_,F2,b2,PySem.W.mg_of X G a2,_,_,F3,b3,PySem.W.mg_of X G a3,_,_,F4,b4,PySem.W.mg_of X G a4,_,_,F5,b5,PySem.W.mg_of X G a5,_,_,F6,b6,PySem.W.mg_of X G a6,_,_,F7,b7,PySem.W.mg_of X G a7,_,_,F8,b8,PySem.W.mg_of X G a8,_,_,F9,b9,PySem.W.mg_of X G a9,_,_,F10,b10,PySem.W.mg_of X G a10,_,_,F11,b11,PySem.W.mg_of X G a11,_,_,F12,b12,PySem.W.mg_of X G a12,_,_,F13,b13,PySem.W.mg_of X G a13,_,_,F14,b14,PySem.W.mg_of X G a14,_,_,F15,b15,PySem.W.mg_of X G a15,_,_,F16,b16,PySem.W.mg_of X G a16,_,_,F17,b17,PySem.W.mg_of X G a17,_,_,F18,b18,PySem.W.mg_of X G a18,_,_,F19,b19,PySem.W.mg_of X G a19,_,_,_,F20,b20,bd20,PySem.W.mg_of X G a20,_,_,F21,b21,PySem.W.mg_of X G a21,_,_,F22,b22,PySem.W.mg_of X G a22,_,_,F23,b23,PySem.W.mg_of X G a23,_,_,F24,b24,PySem.W.mg_of X G a24,_,_,F25,b25,PySem.W.mg_of X G a25,_,_,F26,b26,PySem.W.mg_of X G a26,_,_,F27,b27,PySem.W.mg_of X G a27,_,_,F28,b28,PySem.W.mg_of X G a28,_,_,F29,b29,PySem.W.mg_of X G a29,_,_,F30,b30,PySem.W.mg_of X G a30,_,_,F31,b31,PySem.W.mg_of X G a31,_,_,F32,b32,PySem.W.mg_of X G a32,_,_,F33,b33,PySem.W.mg_of X G a33,_,x_NoField,PySem.W.mg_of X G e_NoField,_,x_NoMove,PySem.W.mg_of X G e_NoMove,PySem.W.mg_none_of X G z_abs,PySem.W.mg_none_of X G z_all,PySem.W.mg_none_of X G z_bool,PySem.W.mg_none_of X G z_int,PySem.W.mg_none_of X G z_isinstance,PySem.W.mg_none_of X G z_len,PySem.W.mg_none_of X G z_list,PySem.W.mg_none_of X G z_max,PySem.W.mg_none_of X G z_min,PySem.W.mg_none_of X G z_range,PySem.W.mg_none_of X G z_reversed,PySem.W.mg_none_of X G z_set,PySem.W.mg_none_of X G z_sorted,PySem.W.mg_none_of X G z_sum,PySem.W.mg_none_of X G z_tuple,PySem.W.mg_none_of X G z_zip⟩,rfl,fun s v=> .of_eq rfl⟩
abbrev spLaw (K:PySem.W.Frag):Sp:=spU K gO
theorem law_start (K:PySem.W.Frag) (H:Hp) (a:Addr) (ns:List Int) (h1:ns.length≤63) (h2:∀ m∈ns,Sz 1048576 m) (_:xk H) (h3:SqL K H a (ns.map V.int)):spLaw K [.ref a] H (fun v _=> v=.bl true) fun _ _ _=> False:=rz h1 h2 h3
theorem law_ok {P:Program} {w:World} {K:PySem.W.Frag} {mg:Str→Option Value} {fa:Addr} (h:∃ T:Txt K mg,T.a_law=fa∧(∀ (s:Shared) (v:Value),BindsTo s T.d_law ⟨[v],[]⟩ [("script",v)])):
  ∃ fd:FuncData,(∀ (s:Shared) (u:Value),BindsTo s fd ⟨[u],[]⟩ [("script",u)])∧∀ base:Heap,K.In base→base.Ns mainGlobals mg→bh P w K mg base CX0 9 fa fd ["script"] (spLaw K):=by
 obtain ⟨T,rfl,hb⟩:=h
 exact ⟨T.d_law,hb,fun base _ _=> (yx T).calm u9⟩
end My
def PySem.W.Fast.tw14409036222831638539:Unit:=()
def PySem.W.Fast.tw7889966619666786391:Unit:=()
def PySem.W.Fast.tw636274162633983751:Unit:=()
def PySem.W.Fast.tw1551946163688542630:Unit:=()
def PySem.W.Fast.tw16904946685636098332:Unit:=()
def PySem.W.Fast.tw1128266906686129202:Unit:=()
def PySem.W.Fast.tw8017008737319676393:Unit:=()
def PySem.W.Fast.tw758380498057346369:Unit:=()
def PySem.W.Fast.tw1810804068623755267:Unit:=()
def PySem.W.Fast.tw10105149404847667361:Unit:=()
def PySem.W.Fast.tw2573711310514466428:Unit:=()
def PySem.W.Fast.tw6104900813685800170:Unit:=()
def PySem.W.Fast.tw9833802070477379657:Unit:=()
def PySem.W.Fast.tw1102465925448741597:Unit:=()
def PySem.W.Fast.tw7114595521651637099:Unit:=()
def PySem.W.Fast.tw10180837388898760528:Unit:=()
def PySem.W.Fast.tw3071372483760407130:Unit:=()
def PySem.W.Fast.tw1733172561901397454:Unit:=()
def PySem.W.Fast.tw16241030599362972611:Unit:=()
def PySem.W.Fast.tw15209289687776242661:Unit:=()
def PySem.W.Fast.tw16783654008007724561:Unit:=()
def PySem.W.Fast.tw7216251009973237853:Unit:=()
def PySem.W.Fast.tw4921419201026596258:Unit:=()
def PySem.W.Fast.tw4544965458745257127:Unit:=()
def PySem.W.Fast.tw17599414315622213854:Unit:=()
def PySem.W.Fast.tw14536396831114170111:Unit:=()
def PySem.W.Fast.tw9818238698460379791:Unit:=()
def PySem.W.Fast.tw2164831556007510584:Unit:=()
def PySem.W.Fast.tw6688377929368533501:Unit:=()
def PySem.W.Fast.tw23783704472260603:Unit:=()
def PySem.W.Fast.tw9495291015849556233:Unit:=()
def PySem.W.Fast.tw2409812385159668311:Unit:=()
def PySem.W.Fast.tw5656978963564968512:Unit:=()
def PySem.W.Fast.tw10897884854447293271:Unit:=()
def PySem.W.Fast.tw8024849559362649346:Unit:=()
def PySem.W.Fast.tw7036073990842588609:Unit:=()
def PySem.W.Fast.tw16695960394389152748:Unit:=()
def PySem.W.Fast.tw17765128655658680055:Unit:=()
def PySem.W.Fast.tw14894852112771006539:Unit:=()
def PySem.W.Fast.tw11683427377993497579:Unit:=()
def PySem.W.Fast.tw10127246247276077674:Unit:=()
def PySem.W.Fast.tw17897850904786972854:Unit:=()
def PySem.W.Fast.tw15424115240174513966:Unit:=()
def PySem.W.Fast.tw14025820023625896216:Unit:=()
def PySem.W.Fast.tw204495739100675516:Unit:=()
def PySem.W.Fast.tw16102269214972749293:Unit:=()
def PySem.W.Fast.tw2396128564162586801:Unit:=()
def PySem.W.Fast.tw14255538269136746009:Unit:=()
def PySem.W.Fast.tw15108940367268726674:Unit:=()
def PySem.W.Fast.tw6136591092507191235:Unit:=()
def PySem.W.Fast.tw17184651404287223660:Unit:=()
def PySem.W.Fast.tw17504021201805996269:Unit:=()
def PySem.W.Fast.tw4138670779752118268:Unit:=()
def PySem.W.Fast.tw7313178456882363658:Unit:=()
def PySem.W.Fast.tw6035093875979491545:Unit:=()
def PySem.W.Fast.tw9710999310975771560:Unit:=()
def PySem.W.Fast.tw12979610718582440704:Unit:=()
def PySem.W.Fast.tw13023047617525011224:Unit:=()
def PySem.W.Fast.tw13332707588382269163:Unit:=()
def PySem.W.Fast.tw12525118834727474399:Unit:=()
def PySem.W.Fast.tw10950609180320231433:Unit:=()
def PySem.W.Fast.tw4562143725345028073:Unit:=()
def PySem.W.Fast.tw5875873425519083350:Unit:=()
def PySem.W.Fast.tw5200553331060324:Unit:=()
def PySem.W.Fast.tw2240916127123536536:Unit:=()
def PySem.W.Fast.tw16160855781249918349:Unit:=()
def PySem.W.Fast.tw7341531877946654475:Unit:=()
def PySem.W.Fast.tw15510158228346831666:Unit:=()
open PySem PySem.W PyProof.Rows L2
set_option maxRecDepth 100000 in
set_option maxHeartbeats 0 in
theorem PySem.Challenge.cw_stakefield_k33_share_holds : PySem.Challenge.rw_stakefield_k33_share.Holds := by
 w_on; o_law; k_head; (case hw=> w_witness2)
 k_fill
 refine L2.walk_ofB (l:=PySem.Challenge.rw_stakefield_k33_share) (n:=63) (k:=9) (x:="script") (CX:=CX0) (sp:=My.spLaw) rfl (by decide) rfl ⟨rfl,by decide,by decide⟩ (fun w h Y=> by first | exact PySem.W.kIn_of Y | exact PySem.W.km_in_of Y) ?F My.law_start (fun _ _ _ _ z=> z)
 case F=>
  intro w mg fa h KX G hmg
  refine My.law_ok ?T
  refine' My.txt_mk KX G hmg ?a0 ?l0 ?c0 ?k0 ?a1 ?l1 ?c1 ?k1 ?a2 ?l2 ?c2 ?k2 ?a3 ?l3 ?c3 ?k3 ?a4 ?l4 ?c4 ?k4 ?a5 ?l5 ?c5 ?k5 ?a6 ?l6 ?c6 ?k6 ?a7 ?l7 ?c7 ?k7 ?a8 ?l8 ?c8 ?k8 ?a9 ?l9 ?c9 ?k9 ?a10 ?l10 ?c10 ?k10 ?a11 ?l11 ?c11 ?k11 ?a12 ?l12 ?c12 ?k12 ?a13 ?l13 ?c13 ?k13 ?a14 ?l14 ?c14 ?k14 ?a15 ?l15 ?c15 ?k15 ?a16 ?l16 ?c16 ?k16 ?a17 ?l17 ?c17 ?k17 ?a18 ?l18 ?c18 ?k18 ?a19 ?l19 ?c19 ?k19 ?q20 ?a20 ?l20 ?c20 ?k20 ?a21 ?l21 ?c21 ?k21 ?a22 ?l22 ?c22 ?k22 ?a23 ?l23 ?c23 ?k23 ?a24 ?l24 ?c24 ?k24 ?a25 ?l25 ?c25 ?k25 ?a26 ?l26 ?c26 ?k26 ?a27 ?l27 ?c27 ?k27 ?a28 ?l28 ?c28 ?k28 ?a29 ?l29 ?c29 ?k29 ?a30 ?l30 ?c30 ?k30 ?a31 ?l31 ?c31 ?k31 ?a32 ?l32 ?c32 ?k32 ?a33 ?l33 ?c33 ?k33 ?e_NoField ?x_NoField ?e_NoMove ?x_NoMove ?z_abs ?z_all ?z_bool ?z_int ?z_isinstance ?z_len ?z_list ?z_max ?z_min ?z_range ?z_reversed ?z_set ?z_sorted ?z_sum ?z_tuple ?z_zip  
  (case a0=> k_is); (case l0=> k_is); (case c0=> k_is); (case k0=> k_is)
  (case a1=> k_is); (case l1=> k_is); (case c1=> k_is); (case k1=> k_is)
  (case a2=> k_is); (case l2=> k_is); (case c2=> k_is); (case k2=> k_is)
  (case a3=> k_is); (case l3=> k_is); (case c3=> k_is); (case k3=> k_is)
  (case a4=> k_is); (case l4=> k_is); (case c4=> k_is); (case k4=> k_is)
  (case a5=> k_is); (case l5=> k_is); (case c5=> k_is); (case k5=> k_is)
  (case a6=> k_is); (case l6=> k_is); (case c6=> k_is); (case k6=> k_is)
  (case a7=> k_is); (case l7=> k_is); (case c7=> k_is); (case k7=> k_is)
  (case a8=> k_is); (case l8=> k_is); (case c8=> k_is); (case k8=> k_is)
  (case a9=> k_is); (case l9=> k_is); (case c9=> k_is); (case k9=> k_is)
  (case a10=> k_is); (case l10=> k_is); (case c10=> k_is); (case k10=> k_is)
  (case a11=> k_is); (case l11=> k_is); (case c11=> k_is); (case k11=> k_is)
  (case a12=> k_is); (case l12=> k_is); (case c12=> k_is); (case k12=> k_is)
  (case a13=> k_is); (case l13=> k_is); (case c13=> k_is); (case k13=> k_is)
  (case a14=> k_is); (case l14=> k_is); (case c14=> k_is); (case k14=> k_is)
  (case a15=> k_is); (case l15=> k_is); (case c15=> k_is); (case k15=> k_is)
  (case a16=> k_is); (case l16=> k_is); (case c16=> k_is); (case k16=> k_is)
  (case a17=> k_is); (case l17=> k_is); (case c17=> k_is); (case k17=> k_is)
  (case a18=> k_is); (case l18=> k_is); (case c18=> k_is); (case k18=> k_is)
  (case a19=> k_is); (case l19=> k_is); (case c19=> k_is); (case k19=> k_is)
  (case a20=> k_is); (case l20=> k_is); (case c20=> k_is); (case k20=> k_is); (case q20=> k_is)
  (case a21=> k_is); (case l21=> k_is); (case c21=> k_is); (case k21=> k_is)
  (case a22=> k_is); (case l22=> k_is); (case c22=> k_is); (case k22=> k_is)
  (case a23=> k_is); (case l23=> k_is); (case c23=> k_is); (case k23=> k_is)
  (case a24=> k_is); (case l24=> k_is); (case c24=> k_is); (case k24=> k_is)
  (case a25=> k_is); (case l25=> k_is); (case c25=> k_is); (case k25=> k_is)
  (case a26=> k_is); (case l26=> k_is); (case c26=> k_is); (case k26=> k_is)
  (case a27=> k_is); (case l27=> k_is); (case c27=> k_is); (case k27=> k_is)
  (case a28=> k_is); (case l28=> k_is); (case c28=> k_is); (case k28=> k_is)
  (case a29=> k_is); (case l29=> k_is); (case c29=> k_is); (case k29=> k_is)
  (case a30=> k_is); (case l30=> k_is); (case c30=> k_is); (case k30=> k_is)
  (case a31=> k_is); (case l31=> k_is); (case c31=> k_is); (case k31=> k_is)
  (case a32=> k_is); (case l32=> k_is); (case c32=> k_is); (case k32=> k_is)
  (case a33=> k_is); (case l33=> k_is); (case c33=> k_is); (case k33=> k_is)
  (case e_NoField=> k_is); (case x_NoField=> k_exc)
  (case e_NoMove=> k_is); (case x_NoMove=> k_exc)
  (case z_abs=> k_is)
  (case z_all=> k_is)
  (case z_bool=> k_is)
  (case z_int=> k_is)
  (case z_isinstance=> k_is)
  (case z_len=> k_is)
  (case z_list=> k_is)
  (case z_max=> k_is)
  (case z_min=> k_is)
  (case z_range=> k_is)
  (case z_reversed=> k_is)
  (case z_set=> k_is)
  (case z_sorted=> k_is)
  (case z_sum=> k_is)
  (case z_tuple=> k_is)
  (case z_zip=> k_is)
